import PyProof.Rows.All
import Wide.All
import OpenK.AllK
import Wide.FinOn
import Lean
import PyProof.EqAt
import PyProof.EqKinds
import PyProof.TupleCall
import PyProof.AutoListH
import PySem.Challenge.RW_roadsettings_k06_nodes_made_and_kept
set_option Elab.async false
set_option linter.all false
set_option maxRecDepth 100000
namespace L2
open PySem PySem.Spec PyProof.Rows
abbrev Key := Sum Int Str
def keyIs : Key → Value → Bool
  | .inl k, v => Value.isInt k v
  | .inr x, v => Value.isStrOf x v
def keyH (w : World) : Key → Int
  | .inl k => hashInt k
  | .inr x => hashStr w x
theorem keyIs_shape : ∀ {k : Key} {v : Value}, keyIs k v = true → (∃ i t, k = Sum.inl i ∧ v = Value.int i t) ∨ (∃ x t, k = Sum.inr x ∧ v = Value.str x t)
  | .inl i, v, h => by
    obtain ⟨t, e⟩ := Value.isInt_shape (k := i) (v := v) h
    exact .inl ⟨i, t, rfl, e⟩
  | .inr x, v, h => by
    obtain ⟨t, e⟩ := Value.isStrOf_shape (x := x) (v := v) h
    exact .inr ⟨x, t, rfl, e⟩
theorem keyIs_int (i : Int) (t : Tok) : keyIs (.inl i) (.int i t) = true := by simp [keyIs, Value.isInt]
theorem keyIs_str (x : Str) (t : Tok) : keyIs (.inr x) (.str x t) = true := by simp [keyIs, Value.isStrOf]
theorem key_ll (a b : Int) : decide ((Sum.inl a : Key) = Sum.inl b) = (a == b) := by
  by_cases e : a = b
  · subst e; simp
  · have h : ¬ (Sum.inl a : Key) = Sum.inl b := fun q => e (Sum.inl.inj q)
    rw [decide_eq_false h]
    exact (beq_eq_false_iff_ne.mpr e).symm
theorem key_rr (a b : Str) : decide ((Sum.inr a : Key) = Sum.inr b) = decide (a = b) := by
  by_cases e : a = b
  · subst e; simp
  · have h : ¬ (Sum.inr a : Key) = Sum.inr b := fun q => e (Sum.inr.inj q)
    rw [decide_eq_false h, decide_eq_false e]
theorem key_lr (a : Int) (b : Str) : decide ((Sum.inl a : Key) = Sum.inr b) = false := decide_eq_false (fun q => nomatch q)
theorem key_rl (a : Str) (b : Int) : decide ((Sum.inr a : Key) = Sum.inl b) = false := decide_eq_false (fun q => nomatch q)
def mixKind (prog : Program) (w : World) : PySem.KeyKind prog w Key where
  is := keyIs
  hash := keyH w
  inj := fun v a b ha hb => by
    rcases keyIs_shape ha with ⟨i, t, rfl, rfl⟩ | ⟨x, t, rfl, rfl⟩
    · rcases keyIs_shape hb with ⟨j, u, rfl, e⟩ | ⟨y, u, rfl, e⟩
      · injection e with e1 _; rw [e1]
      · exact nomatch e
    · rcases keyIs_shape hb with ⟨j, u, rfl, e⟩ | ⟨y, u, rfl, e⟩
      · exact nomatch e
      · injection e with e1 _; rw [e1]
  byValue := fun k v h => by
    rcases keyIs_shape h with ⟨i, t, rfl, rfl⟩ | ⟨x, t, rfl, rfl⟩ <;> rfl
  pyHash := fun hv h => by
    rcases keyIs_shape hv with ⟨i, t, rfl, rfl⟩ | ⟨x, t, rfl, rfl⟩
    · exact wpAny_pyHash_int h
    · exact wpAny_pyHash_str h
  eqBool := fun hu hv h => by
    rcases keyIs_shape hu with ⟨i, t, rfl, rfl⟩ | ⟨x, t, rfl, rfl⟩
    · rcases keyIs_shape hv with ⟨j, u, rfl, rfl⟩ | ⟨y, u, rfl, rfl⟩
      · rw [key_ll] at h; exact wpAny_eqBool_int h
      · rw [key_lr] at h; exact SeqAt.EqAt.int_str i t y u _ _ _ _ h
    · rcases keyIs_shape hv with ⟨j, u, rfl, rfl⟩ | ⟨y, u, rfl, rfl⟩
      · rw [key_rl] at h; exact SeqAt.EqAt.str_int x t j u _ _ _ _ h
      · rw [key_rr] at h; exact wpAny_eqBool_str h
  «strs» := fun k x t v h => by
    rcases keyIs_shape h with ⟨i, u, rfl, e⟩ | ⟨y, u, rfl, e⟩
    · exact nomatch e
    · injection e with e1 _
      subst e1
      cases v <;> rfl
theorem mixKind_is (prog : Program) (w : World) (k : Key) (v : Value) : (mixKind prog w).is k v = keyIs k v := rfl
theorem mixKind_int (prog : Program) (w : World) (i : Int) (t : Tok) : (mixKind prog w).is (.inl i) (.int i t) = true := keyIs_int i t
theorem mixKind_str (prog : Program) (w : World) (x : Str) (t : Tok) : (mixKind prog w).is (.inr x) (.str x t) = true := keyIs_str x t
end L2
namespace L2
open PySem PySem.Spec PyProof.Rows
inductive V where
  | non | bl (b : Bool) | int (i : Int) | str (x : Str) | byt (b : Array UInt8) | flt (b : UInt64) | ref (a : Addr) | ty (n : String)
  deriving DecidableEq
def RelV : V → Value → Prop
  | .non, u => u = Value.none
  | .bl b, u => u = Value.bool b
  | .int i, u => ∃ t, u = Value.int i t
  | .str x, u => ∃ t, u = Value.str x t
  | .byt b, u => ∃ t, u = Value.bytes b t
  | .flt b, u => ∃ t, u = Value.float b t
  | .ref a, u => u = Value.ref a
  | .ty n, u => u = Value.type n
abbrev Vals : List V → List Value → Prop := Paired RelV
theorem Vals.length {xs : List V} {us : List Value} (r : Vals xs us) : xs.length = us.length := Paired.length r
theorem Vals.get : ∀ {xs : List V} {us : List Value} {i : Nat} {x : V}, Vals xs us → xs[i]? = some x → ∃ u, us[i]? = some u ∧ RelV x u
  | _, _, _, _, .nil, e => by simp at e
  | _, _, 0, _, .cons r _, e => by simp at e; subst e; exact ⟨_, rfl, r⟩
  | _, _, i + 1, x, .cons _ t, e => by
    obtain ⟨u, h1, h2⟩ := Vals.get (i := i) (x := x) t (by simpa using e)
    exact ⟨u, by simpa using h1, h2⟩
theorem Vals.set {x : V} {u : Value} (r : RelV x u) : ∀ {xs : List V} {us : List Value} (i : Nat), Vals xs us → Vals (xs.set i x) (us.set i u)
  | _, _, _, .nil => .nil
  | _, _, 0, .cons _ t => .cons r t
  | _, _, i + 1, .cons q t => .cons q (Vals.set r i t)
theorem Vals.append : ∀ {xs ys : List V} {us ws : List Value}, Vals xs us → Vals ys ws → Vals (xs ++ ys) (us ++ ws)
  | _, _, _, _, .nil, s => s
  | _, _, _, _, .cons r t, s => .cons r (Vals.append t s)
theorem Vals.take : ∀ {xs : List V} {us : List Value} (n : Nat), Vals xs us → Vals (xs.take n) (us.take n)
  | _, _, 0, _ => .nil
  | _, _, _ + 1, .nil => .nil
  | _, _, n + 1, .cons r t => .cons r (Vals.take n t)
theorem Vals.drop : ∀ {xs : List V} {us : List Value} (n : Nat), Vals xs us → Vals (xs.drop n) (us.drop n)
  | _, _, 0, r => r
  | _, _, _ + 1, .nil => .nil
  | _, _, n + 1, .cons _ t => Vals.drop n t
theorem Vals.none_of : ∀ {xs : List V} {us : List Value} {i : Nat}, Vals xs us → xs[i]? = none → us[i]? = none := fun {xs us i} r e => by
  have h1 := r.length
  have h2 : xs.length ≤ i := List.getElem?_eq_none_iff.mp e
  exact List.getElem?_eq_none_iff.mpr (by omega)
def RelO : Option V → Option Value → Prop
  | some v, some u => RelV v u
  | none, none => True
  | _, _ => False
def KV {κ : Type} : List (κ × V) → List (κ × Value) → Prop := Paired fun (p : κ × V) (q : κ × Value) => p.1 = q.1 ∧ RelV p.2 q.2
def kV : Key → V
  | .inl i => .int i
  | .inr x => .str x
inductive HO where
    | lst (xs : List V)
    | tup (xs : List V)
    | dK (kvs : List (Key × V)) | dT (kvs : List (List Key × V))
    | set (S : Int → Bool) (n : Nat)
    | ins (C dx : Addr) (fs : List (Str × V))
    | own (x : Addr)
    | xd (fs : List (Str × V))
    | met (f x : Addr)
    | rng (lo hi : Int)
    | frz (o : Obj) (u : HO)
    | tbl (ps : Array Value)
    | ext (φ : Heap → Prop)
abbrev Hp := Addr → Option HO
def upd (H : Hp) (a : Addr) (o : HO) : Hp := fun b => if b = a then some o else H b
theorem upd_same {H : Hp} {a : Addr} {o : HO} : upd H a o a = some o := by unfold upd; rw [if_pos rfl]
theorem upd_ne {H : Hp} {a b : Addr} {o : HO} (h : b ≠ a) : upd H a o b = H b := by unfold upd; rw [if_neg h]
theorem upd_upd {H : Hp} {a : Addr} {o u : HO} : upd (upd H a o) a u = upd H a u := by
  funext b; unfold upd; split <;> rfl
theorem ne_of {H : Hp} {a b : Addr} {o u : HO} (h : H a = some o) (h' : H b = some u) (d : o ≠ u) : a ≠ b := by
  intro e; subst e; rw [h] at h'; exact d (Option.some.inj h')
theorem ne_of_none {H : Hp} {a b : Addr} {o : HO} (h : H a = some o) (h' : H b = none) : a ≠ b := by
  intro e; subst e; rw [h] at h'; cases h'
section
variable (P : Program) (w : World)
def ObjOk (H : Hp) (h : Heap) (a : Addr) : HO → Prop
  | .lst xs => xs.length ≤ sizeLine ∧ ∃ (its : List Value) (n : Nat), Vals xs its ∧ h.get? a = some { cls := .type "list", data := .seq its.toArray n }
  | .tup xs => xs.length ≤ sizeLine ∧ ∃ its : List Value, Vals xs its ∧ IsTup h a its.toArray
  | .dK kvs => kvs.length ≤ sizeLine ∧ (a == sysModules) = false ∧ ∃ vs, KV kvs vs ∧ h.DictOf (mixKind P w) a vs
  | .dT kvs => kvs.length ≤ sizeLine ∧ (a == sysModules) = false ∧ ∃ xs : List (List Key × Addr × Value),
      Paired (fun (p : List Key × V) (q : List Key × Addr × Value) => p.1 = q.1 ∧ H q.2.1 = some (.tup (p.1.map kV)) ∧ RelV p.2 q.2.2) kvs xs ∧
      ∃ o es ep, h.get? a = some o ∧ o.ExactDict ∧ o.data = .dict es ep ∧ es.toList = xs.map (entryOfKey (tupleKind (mixKind P w))) ∧ (xs.map (·.1)).Nodup
  | .set S n => h.SetOf (intKind P w) a S n
  | .ins C dx fs => H dx = some (.own a) ∧ fs.length ≤ 1000 ∧ dx ≠ a ∧ h.get? a = some (PySem.W.instObj C dx) ∧
      ∃ mA, h.Ns1 dx mA ∧ (∀ f, RelO (fs.lookup f) (mA f)) ∧ PySem.Within mA (fs.map (·.1))
  | .own _ => ∃ o, h.get? a = some o
  | .xd fs => ∃ mA, h.Ns1 a mA ∧ ∀ f, RelO (fs.lookup f) (mA f)
  | .rng lo hi => ∃ t u v, h.get? a = some { cls := .type "range", data := .fields #[.int lo t, .int hi u, .int 1 v] }
  | .frz o u => h.get? a = some o ∧ ObjOk H h a u
  | .tbl ps => h.get? a = some { cls := .none, data := .fields ps }
  | .met f x => h.get? a = some (PySem.W.methodObj (.ref f) (.ref x))
  | .ext φ => φ h ∧ (∃ o, h.get? a = some o) ∧ ∀ h1 h2 : Heap, φ h1 → (∀ o, h1.get? a = some o → h2.get? a = some o) → φ h2
def HOk (H : Hp) (h : Heap) : Prop := ∀ a o, H a = some o → ObjOk P w H h a o
end
section
variable {P : Program} {w : World} {H H' : Hp} {h h' : Heap} {a : Addr} {o : HO}
theorem ObjOk.lt (x : ObjOk P w H h a o) : a < h.objs.size := by
  cases o with
  | lst xs => obtain ⟨_, _, _, _, e⟩ := x; exact Heap.lt_size e
  | tup xs => obtain ⟨_, _, _, p⟩ := x; exact p.lt
  | dK kvs => obtain ⟨_, _, _, _, o, _, _, e, _⟩ := x; exact Heap.lt_size e
  | dT kvs => obtain ⟨_, _, _, _, o, _, _, e, _⟩ := x; exact Heap.lt_size e
  | set S n => obtain ⟨o, _, _, _, e, _⟩ := x; exact Heap.lt_size e
  | ins C dx fs => obtain ⟨_, _, _, e, _⟩ := x; exact Heap.lt_size e
  | own y => obtain ⟨_, e⟩ := x; exact Heap.lt_size e
  | xd fs => obtain ⟨_, ⟨_, _, _, e, _⟩, _⟩ := x; exact Heap.lt_size e
  | rng lo hi => obtain ⟨_, _, _, e⟩ := x; exact Heap.lt_size e
  | frz ob u => obtain ⟨e, _⟩ := x; exact Heap.lt_size e
  | tbl ps => exact Heap.lt_size (show h.get? a = some _ from x)
  | met f y => exact Heap.lt_size (show h.get? a = some _ from x)
  | ext φ => obtain ⟨_, ⟨_, e⟩, _⟩ := x; exact Heap.lt_size e
theorem Paired.mapP {α β : Type} {F G : α → β → Prop} : ∀ {l₁ : List α} {l₂ : List β}, Paired F l₁ l₂ → (∀ a b, F a b → G a b) → Paired G l₁ l₂
  | _, _, .nil, _ => .nil
  | _, _, .cons r t, f => .cons (f _ _ r) (Paired.mapP t f)
theorem ObjOk.stay (x : ObjOk P w H h a o) (k : ∀ b u, (b = a ∨ H b = some (.own a)) → h.get? b = some u → h'.get? b = some u)
    (ho : ∀ b, H b = some (.own a) → H' b = some (.own a)) (ht : ∀ b xs, H b = some (.tup xs) → H' b = some (.tup xs)) : ObjOk P w H' h' a o := by
  induction o with
  | lst xs => obtain ⟨z, its, n, r, e⟩ := x; exact ⟨z, its, n, r, k _ _ (.inl rfl) e⟩
  | tup xs => obtain ⟨z, its, r, ob, e, c⟩ := x; exact ⟨z, its, r, ob, k _ _ (.inl rfl) e, c⟩
  | dK kvs => obtain ⟨z, y, vs, r, ob, es, ep, e, c⟩ := x; exact ⟨z, y, vs, r, ob, es, ep, k _ _ (.inl rfl) e, c⟩
  | dT kvs =>
    obtain ⟨z, y, xs, r, ob, es, ep, e, c⟩ := x
    exact ⟨z, y, xs, Paired.mapP r fun p q z => ⟨z.1, ht _ _ z.2.1, z.2.2⟩, ob, es, ep, k _ _ (.inl rfl) e, c⟩
  | set S n => obtain ⟨ob, es, ep, t, e, c⟩ := x; exact ⟨ob, es, ep, t, k _ _ (.inl rfl) e, c⟩
  | ins C dx fs =>
    obtain ⟨d, z, ne, e, mA, ⟨od, es, ep, e2, c⟩, r⟩ := x
    exact ⟨ho _ d, z, ne, k _ _ (.inl rfl) e, mA, ⟨od, es, ep, k _ _ (.inr d) e2, c⟩, r⟩
  | own y => obtain ⟨ob, e⟩ := x; exact ⟨ob, k _ _ (.inl rfl) e⟩
  | xd fs => obtain ⟨mA, ⟨od, es, ep, e, c⟩, r⟩ := x; exact ⟨mA, ⟨od, es, ep, k _ _ (.inl rfl) e, c⟩, r⟩
  | rng lo hi => obtain ⟨t, u, v, e⟩ := x; exact ⟨t, u, v, k _ _ (.inl rfl) e⟩
  | frz ob u ih => obtain ⟨e, q⟩ := x; exact ⟨k _ _ (.inl rfl) e, ih q⟩
  | tbl ps =>
    have e : h.get? a = some { cls := .none, data := .fields ps } := x
    show h'.get? a = some { cls := .none, data := .fields ps }
    exact k a _ (.inl rfl) e
  | met f y =>
    have e : h.get? a = some (PySem.W.methodObj (.ref f) (.ref y)) := x
    show h'.get? a = some (PySem.W.methodObj (.ref f) (.ref y))
    exact k a _ (.inl rfl) e
  | ext φ => obtain ⟨p, ⟨o, e⟩, st⟩ := x; exact ⟨st _ _ p fun o q => k _ _ (.inl rfl) q, ⟨o, k _ _ (.inl rfl) e⟩, st⟩
theorem HOk.lt (x : HOk P w H h) (e : H a = some o) : a < h.objs.size := (x a o e).lt
theorem HOk.fresh (x : HOk P w H h) (e : h.objs.size ≤ a) : H a = none := by
  cases q : H a with
  | none => rfl
  | some u => exact absurd (Nat.lt_of_lt_of_le (x.lt q) e) (Nat.lt_irrefl _)
theorem HOk.kept (x : HOk P w H h) (k : ∀ b u, h.get? b = some u → h'.get? b = some u) : HOk P w H h' := fun a o e =>
  (x a o e).stay (fun b u _ q => k b u q) (fun _ q => q) fun _ _ q => q
theorem HOk.laid (x : HOk P w H h) (k : ∀ b u, h.get? b = some u → h'.get? b = some u) (hp : h.objs.size ≤ a) (new : ObjOk P w (upd H a o) h' a o) : HOk P w (upd H a o) h' := fun b u e => by
  have hn := x.fresh hp
  by_cases hb : b = a
  · subst hb; rw [upd_same] at e; cases e; exact new
  · rw [upd_ne hb] at e
    exact (x b u e).stay (fun c v _ q => k c v q) (fun c q => by rw [upd_ne (ne_of_none q hn)]; exact q) fun c xs q => by rw [upd_ne (ne_of_none q hn)]; exact q
end
def Rd (H : Hp) (a : Addr) (u : HO) : Prop := H a = some u ∨ ∃ o, H a = some (.frz o u)
theorem Rd.of {H : Hp} {a : Addr} {u : HO} (h : H a = some u) : Rd H a u := .inl h
theorem Rd.ok {P : Program} {w : World} {H : Hp} {h : Heap} {a : Addr} {u : HO} (r : Rd H a u) (x : HOk P w H h) : ObjOk P w H h a u := by
  rcases r with r | ⟨o, r⟩
  · exact x a u r
  · obtain ⟨_, q⟩ := x a _ r
    exact q
def Mut : Option HO → Prop
  | some (.lst _) => True
  | some (.dK _) => True
  | some (.dT _) => True
  | some (.set _ _) => True
  | some (.ins _ _ _) => True
  | some (.ext _) => True
  | _ => False
section
variable {P : Program} {w : World} {H : Hp} {h h' : Heap} {x e : Addr} {o' : HO}
theorem HOk.write (ok : HOk P w H h) (mu : Mut (H x)) (he : e = x ∨ H e = some (.own x)) (k : ∀ b u, b ≠ e → h.get? b = some u → h'.get? b = some u) (heo : ∃ u, h'.get? e = some u)
    (new : ObjOk P w (upd H x o') h' x o') : HOk P w (upd H x o') h' := fun b u q => by
  have nown : ∀ c y, H c = some (.own y) → c ≠ x := fun c y r z => by subst z; rw [r] at mu; exact mu
  have ntup : ∀ c xs, H c = some (.tup xs) → c ≠ x := fun c xs r z => by subst z; rw [r] at mu; exact mu
  by_cases hb : b = x
  · subst hb; rw [upd_same] at q; cases q; exact new
  · rw [upd_ne hb] at q
    by_cases hbe : b = e
    · have q' : H b = some (.own x) := by
        rcases he with z | z
        · exact absurd (hbe.trans z) hb
        · rw [hbe]; exact z
      rw [q] at q'; cases q'
      obtain ⟨v, hv⟩ := heo
      exact ⟨v, by rw [hbe]; exact hv⟩
    · refine (ok b u q).stay (fun c v hc r => k c v ?_ r) (fun c r => by rw [upd_ne (nown c b r)]; exact r) fun c xs r => by rw [upd_ne (ntup c xs r)]; exact r
      rcases hc with rfl | hc
      · exact hbe
      · rintro rfl
        rcases he with z | z
        · exact nown c b hc z
        · rw [hc] at z; cases z; exact hb rfl
end
structure Un (fs ex : List Addr) (H H' : Hp) (h h' : Heap) : Prop where
  keep : ∀ b o, h.get? b = some o → H b = none → b ∉ fs → b ∉ ex → h'.get? b = some o
  slot : ∀ b o, h.get? b = some o → H b = none → b ∈ fs → b ∉ ex → ∃ sl, h'.get? b = some { o with slots := sl }
  free : ∀ b o, h.get? b = some o → H b = none → b ∉ ex → H' b = none
  there : ∀ b o, h.get? b = some o → b ∉ ex → ∃ o', h'.get? b = some o'
  tups : ∀ b xs, H b = some (.tup xs) → H' b = some (.tup xs)
  frzs : ∀ b o u, H b = some (.frz o u) → H' b = some (.frz o u)
  tbls : ∀ b ps, H b = some (.tbl ps) → ∃ more, H' b = some (.tbl (ps ++ more))
section
variable {fs fs' ex ex' : List Addr} {H H1 H2 : Hp} {h h1 h2 h' : Heap} {a x e : Addr} {o : HO}
theorem Un.any (u : Un fs ex H H1 h h1) {b : Addr} {ob : Obj} (q : h.get? b = some ob) (n : H b = none) (hx : b ∉ ex) : ∃ sl, h1.get? b = some { ob with slots := sl } := by
  by_cases hb : b ∈ fs
  · exact u.slot b ob q n hb hx
  · exact ⟨ob.slots, u.keep b ob q n hb hx⟩
theorem Un.trans (a : Un fs ex H H1 h h1) (b : Un fs ex H1 H2 h1 h2) : Un fs ex H H2 h h2 where
  keep := fun c ob q n hc hx => b.keep c ob (a.keep c ob q n hc hx) (a.free c ob q n hx) hc hx
  slot := fun c ob q n hc hx => by
    obtain ⟨sl, e1⟩ := a.slot c ob q n hc hx
    obtain ⟨sl', e2⟩ := b.slot c _ e1 (a.free c ob q n hx) hc hx
    exact ⟨sl', e2⟩
  free := fun c ob q n hx => by
    obtain ⟨o', e1⟩ := a.there c ob q hx
    exact b.free c o' e1 (a.free c ob q n hx) hx
  there := fun c ob q hx => by
    obtain ⟨o', e1⟩ := a.there c ob q hx
    exact b.there c o' e1 hx
  tups := fun c xs q => b.tups c xs (a.tups c xs q)
  frzs := fun c ob xs q => b.frzs c ob xs (a.frzs c ob xs q)
  tbls := fun c ps q => by
    obtain ⟨m1, e1⟩ := a.tbls c ps q
    obtain ⟨m2, e2⟩ := b.tbls c _ e1
    exact ⟨m1 ++ m2, by rw [e2, Array.append_assoc]⟩
theorem Un.kept (k : ∀ b u, h.get? b = some u → h'.get? b = some u) : Un fs ex H H h h' :=
  ⟨fun b ob q _ _ _ => k b ob q, fun b ob q _ _ _ => ⟨ob.slots, k b ob q⟩, fun _ _ _ n _ => n, fun b ob q _ => ⟨ob, k b ob q⟩, fun _ _ q => q, fun _ _ _ q => q, fun _ ps q => ⟨#[], by rw [q]; simp⟩⟩
theorem Un.refl : Un fs ex H H h h := Un.kept fun _ _ q => q
theorem Un.laid (k : ∀ b u, h.get? b = some u → h'.get? b = some u) (hp : h.objs.size ≤ a) (hn : H a = none) : Un fs ex H (upd H a o) h h' where
  keep := fun b u q _ _ _ => k b u q
  slot := fun b u q _ _ _ => ⟨u.slots, k b u q⟩
  free := fun b u q n _ => by rw [upd_ne (Nat.ne_of_lt (Nat.lt_of_lt_of_le (Heap.lt_size q) hp))]; exact n
  there := fun b u q _ => ⟨u, k b u q⟩
  tups := fun b xs q => by rw [upd_ne (ne_of_none q hn)]; exact q
  frzs := fun b u xs q => by rw [upd_ne (ne_of_none q hn)]; exact q
  tbls := fun b ps q => ⟨#[], by rw [upd_ne (ne_of_none q hn), q]; simp⟩
theorem Un.write (mu : Mut (H x)) (he : e = x ∨ H e = some (.own x)) (k : ∀ b u, b ≠ e → h.get? b = some u → h'.get? b = some u) (heo : ∃ u, h'.get? e = some u) : Un fs ex H (upd H x o) h h' := by
  have hx : ∀ b, H b = none → b ≠ x := fun b n z => by subst z; rw [n] at mu; exact mu
  have hb : ∀ b, H b = none → b ≠ e := fun b n z => by
    subst z
    rcases he with r | r
    · exact hx b n r
    · rw [n] at r; cases r
  have hm : ∀ b u, H b = some u → ¬ Mut (some u) → b ≠ x := fun b u q nm z => by subst z; rw [q] at mu; exact nm mu
  refine ⟨fun b u q n _ _ => k b u (hb b n) q, fun b u q n _ _ => ⟨u.slots, k b u (hb b n) q⟩, fun b u q n _ => by rw [upd_ne (hx b n)]; exact n, fun b u q _ => ?_,
    fun b xs q => by rw [upd_ne (hm b _ q fun z => z)]; exact q, fun b u xs q => by rw [upd_ne (hm b _ q fun z => z)]; exact q, fun b ps q => ⟨#[], by rw [upd_ne (hm b _ q fun z => z), q]; simp⟩⟩
  by_cases hbe : b = e
  · subst hbe; exact heo
  · exact ⟨u, k b u hbe q⟩
theorem Un.mono (u : Un fs ex H H1 h h1) (hs : ∀ b ∈ fs, b ∈ fs') (hx : ∀ b ∈ ex, b ∈ ex') : Un fs' ex' H H1 h h1 :=
  ⟨fun b ob q n hb he => u.keep b ob q n (fun z => hb (hs b z)) fun z => he (hx b z), fun _ _ q n _ he => u.any q n fun z => he (hx _ z), fun b ob q n he => u.free b ob q n fun z => he (hx b z), fun b ob q he => u.there b ob q fun z => he (hx b z), u.tups, u.frzs, u.tbls⟩
end
def trk (h : Heap) (H : Hp) : List Addr := (List.range h.objs.size).filter fun a => (H a).isSome
def hidT (h : Heap) (H : Hp) : Heap := PySem.W.hideAll h (trk h H)
theorem hidT_size (h : Heap) (H : Hp) : (hidT h H).objs.size = h.objs.size := PySem.W.hideAll_size _ _
theorem hidT_get {h : Heap} {H : Hp} {b : Addr} {o : Obj} (e : h.get? b = some o) (n : H b = none) : (hidT h H).get? b = some o :=
  PySem.W.hideAll_get _ e fun hm => by
    have q : (H b).isSome = true := (List.mem_filter.mp hm).2
    rw [n] at q; simp at q
theorem of_hidT {h : Heap} {H : Hp} {b : Addr} {o : Obj} (e : (hidT h H).get? b = some o) : h.get? b = some o ∧ H b = none := by
  have e' : h.get? b = some o := PySem.W.of_hideAll (trk h H) e
  refine ⟨e', ?_⟩
  cases q : H b with
  | none => rfl
  | some x =>
    have hm : b ∈ trk h H := List.mem_filter.mpr ⟨List.mem_range.mpr (Heap.lt_size e'), by simp [q]⟩
    have z : (hidT h H).get? b = none := PySem.W.hideAll_none (trk h H) hm
    rw [z] at e; cases e
def allNews (g h : Heap) (L : Addr) : List (Addr × Obj) := (List.range h.objs.size).filterMap fun a => if a = L ∨ (g.get? a).isSome = true then none else (h.get? a).map fun o => (a, o)
def rest (g h : Heap) (L d : Addr) : List (Addr × Obj) := (allNews g h L).filter fun p => decide (p.1 ≠ d)
end L2
namespace L2
open PySem PySem.Spec PyProof.Rows
structure Mod (K : PySem.W.Frag) (mg : Str → Option Value) (base : Heap) : Prop where
  kin : K.In base
  glob : base.Ns mainGlobals mg
  blt : ∃ mb, base.Ns builtinsNs mb ∧ ∀ x : Str, x ≠ "__name__" → mb x = bootBuiltins x
  nolimit : base.NoLimit
structure Cx where
  prog : Program
  w : World
  K : PySem.W.Frag
  mg : Str → Option Value
  base : Heap
  A : Around
  N : List Str
  s₀ : Shared
  H₀ : Hp
  env : Env
  outer : List Env
  stack : List Env
  ex : List Addr
  fn : Str → Bool
  calm : Bool
  pn : List (Addr × Obj)
  xe : Value → Shared → Prop
def frs (l : List Env) : List Addr := l.filterMap (·.frame)
abbrev Cx.fs (X : Cx) : List Addr := frs X.outer
def Vis (sc : Scope) (x : Str) : Prop := sc.names.lookup x = some .local ∨ sc.names.lookup x = some .cell ∨ sc.names.lookup x = some .free
def Loc (sc : Scope) (x : Str) : Prop := sc.names.lookup x = some .local ∨ sc.names.lookup x = some .cell
def Look (env : Env) (h : Heap) (m : Str → Option Value) (x : Str) (u : Value) : Prop :=
  (env.kindOf x = some .local ∧ m x = some u) ∨ ((env.kindOf x = some .cell ∨ env.kindOf x = some .free) ∧ ∃ c, env.cells.lookup x = some c ∧ h.IsCell c (some u))
structure Cx.Ok (X : Cx) : Prop where
  mod : Mod X.K X.mg X.base
  kind : X.env.scope.kind = .function
  glob : X.env.globals = mainGlobals
  blt : X.env.builtins = builtinsNs
  above : X.s₀.heap.objs.size ≤ X.env.locals
  inj : ∀ x y c, X.env.cells.lookup x = some c → X.env.cells.lookup y = some c → x = y
  has : ∀ x, (X.env.kindOf x = some .cell ∨ X.env.kindOf x = some .free) → ∃ c, X.env.cells.lookup x = some c
  cab : ∀ x c, X.fn x = true → X.env.cells.lookup x = some c → X.s₀.heap.objs.size ≤ c
  hd : X.calm = true → X.A.handled = none
  frames : X.A.frames = some X.stack
  stk : X.stack = X.outer ∨ (X.stack = X.env :: X.outer ∧ X.env.frame = some X.env.locals)
  exf : ∀ b ∈ X.ex, b ≠ X.env.locals ∧ ∀ x c, X.env.cells.lookup x = some c → c ≠ b
  bs : ∀ b o, X.base.get? b = some o → X.s₀.heap.get? b = some o ∧ X.H₀ b = none
  bsz : X.base.objs.size ≤ X.s₀.heap.objs.size
  noex : ∀ b o, X.base.get? b = some o → b ∉ X.ex
  exfs : ∀ b ∈ X.ex, b ∉ X.fs
  funs : X.s₀.heap.FunFrames X.base X.outer
  frf : ∀ b ∈ X.fs, X.H₀ b = none
structure Inv (X : Cx) (pins : List (Addr × Obj)) (σ : List (Option V)) (H : Hp) (s : Shared) : Prop where
  ok : X.Ok
  os : s.os = X.s₀.os
  bare : AllBare s.gens
  base : Un X.fs X.ex X.H₀ H X.s₀.heap s.heap
  loc : ∃ m, s.heap.Ns X.env.locals m ∧ ∀ (i : Nat) (x : Str) (v : V), X.N[i]? = some x → σ[i]? = some (some v) → Vis X.env.scope x → ∃ u, RelV v u ∧ Look X.env s.heap m x u
  cell : ∀ x c, X.env.cells.lookup x = some c → ∃ v, s.heap.IsCell c v
  free : H X.env.locals = none
  freeC : ∀ x c, X.env.cells.lookup x = some c → H c = none
  pin : ∀ p ∈ X.pn ++ pins, s.heap.get? p.1 = some p.2 ∧ H p.1 = none ∧ p.1 ≠ X.env.locals ∧ p.1 ∉ X.fs ∧ ∀ v, p.2.data ≠ .cell v
  hok : HOk X.prog X.w H s.heap
  len : σ.length = X.N.length
section
variable {X : Cx} {pins : List (Addr × Obj)} {σ : List (Option V)} {H H' : Hp} {s : Shared} {h' : Heap}
theorem Cx.Ok.nofr (ok : X.Ok) {b : Addr} {o : Obj} (e : X.base.get? b = some o) : b ∉ X.fs := fun hb => by
  have := (ok.funs.mem hb).1
  rw [e] at this; cases this
theorem Inv.bs (I : Inv X pins σ H s) : ∀ b o, X.base.get? b = some o → s.heap.get? b = some o ∧ H b = none := fun b o e =>
  ⟨I.base.keep b o (I.ok.bs b o e).1 (I.ok.bs b o e).2 (I.ok.nofr e) (I.ok.noex b o e), I.base.free b o (I.ok.bs b o e).1 (I.ok.bs b o e).2 (I.ok.noex b o e)⟩
theorem Inv.bk (I : Inv X pins σ H s) : ∀ b o, X.base.get? b = some o → s.heap.get? b = some o := fun b o e => (I.bs b o e).1
theorem Inv.mod (I : Inv X pins σ H s) : Mod X.K X.mg X.base := I.ok.mod
theorem Inv.kIn (I : Inv X pins σ H s) : X.K.In s.heap := I.ok.mod.kin.keeps I.bk
theorem Inv.nolimit (I : Inv X pins σ H s) : s.heap.NoLimit := I.ok.mod.nolimit.keeps I.bk
theorem Inv.lt (I : Inv X pins σ H s) : X.env.locals < s.heap.objs.size := let ⟨_, hn, _⟩ := I.loc; hn.lt
theorem Inv.sz (I : Inv X pins σ H s) : X.s₀.heap.objs.size ≤ s.heap.objs.size := Nat.le_trans I.ok.above (Nat.le_of_lt I.lt)
theorem Inv.nofs (I : Inv X pins σ H s) {a : Addr} (h : s.heap.objs.size ≤ a) : a ∉ X.fs := fun hb => by
  obtain ⟨_, o, ho, _⟩ := I.ok.funs.mem hb
  exact absurd (Nat.lt_of_lt_of_le (Heap.lt_size ho) (Nat.le_trans I.sz h)) (Nat.lt_irrefl _)
theorem Inv.cne (I : Inv X pins σ H s) : ∀ x c, X.env.cells.lookup x = some c → c ≠ X.env.locals := fun x c e z => by
  obtain ⟨v, o, ho, hd⟩ := I.cell x c e
  obtain ⟨m, ⟨o', es, ep, ho', hd', _⟩, _⟩ := I.loc
  rw [z, ho'] at ho; cases ho; rw [hd'] at hd; cases hd
theorem Inv.funs (I : Inv X pins σ H s) : s.heap.FunFrames X.base X.outer := by
  have all : ∀ (l : List Env), (∀ b ∈ frs l, b ∈ X.fs) → X.s₀.heap.FunFrames X.base l → s.heap.FunFrames X.base l := by
    intro l
    induction l with
    | nil => intro _ _; trivial
    | cons env r ih =>
      intro hs hl
      obtain ⟨hk, ⟨L, o, hf, hn, ho, hd⟩, hr⟩ := hl
      have hL : L ∈ X.fs := hs L (by unfold frs; rw [List.filterMap_cons, hf]; exact List.mem_cons_self)
      obtain ⟨sl, e⟩ := I.base.slot L o ho (I.ok.frf L hL) hL fun z => I.ok.exfs L z hL
      exact ⟨hk, ⟨L, _, hf, hn, e, hd⟩, ih (fun b hb => hs b (by unfold frs; rw [List.filterMap_cons, hf]; exact List.mem_cons_of_mem _ hb)) hr⟩
  exact all X.outer (fun _ hb => hb) I.ok.funs
theorem Inv.stack (I : Inv X pins σ H s) : s.heap.FunFrames X.base X.stack := by
  rcases I.ok.stk with e | ⟨e, hf⟩
  · rw [e]; exact I.funs
  · rw [e]
    obtain ⟨m, hn, _⟩ := I.loc
    refine .cons (by rw [I.ok.kind]; decide) hf hn ?_ I.funs
    exact Heap.get?_none_of_le (Nat.le_trans I.ok.bsz I.ok.above)
theorem Inv.stkSub (I : Inv X pins σ H s) : ∀ b ∈ frs X.stack, b ∈ X.env.locals :: X.fs := fun b hb => by
  rcases I.ok.stk with e | ⟨e, hf⟩
  · rw [e] at hb; exact List.mem_cons_of_mem _ hb
  · rw [e] at hb
    unfold frs at hb
    rw [List.filterMap_cons, hf] at hb
    exact hb
theorem Inv.stkFree (I : Inv X pins σ H s) : ∀ b ∈ frs X.stack, H b = none := fun b hb => by
  rcases List.mem_cons.mp (I.stkSub b hb) with e | hb
  · rw [e]; exact I.free
  · obtain ⟨_, o, ho, _⟩ := I.ok.funs.mem hb
    exact I.base.free b o ho (I.ok.frf b hb) fun z => I.ok.exfs b z hb
theorem Inv.step {g' : Array GenState} {t' : Nat} {d' : Drawn} {ch : List Addr} (I : Inv X pins σ H s)
    (hch : ∀ b ∈ ch, (b ∈ X.ex ∨ X.s₀.heap.objs.size ≤ b) ∧ b ≠ X.env.locals ∧ (∀ x c, X.env.cells.lookup x = some c → c ≠ b) ∧ ∀ p ∈ X.pn ++ pins, p.1 ≠ b)
    (keep : ∀ b o, b ≠ X.env.locals → b ∉ X.fs → b ∉ ch → s.heap.get? b = some o → H b = none → h'.get? b = some o)
    (slot : ∀ b o, b ≠ X.env.locals → b ∈ X.fs → b ∉ ch → s.heap.get? b = some o → H b = none → ∃ sl, h'.get? b = some { o with slots := sl }) (free : ∀ b o, b ∉ ch → s.heap.get? b = some o → H b = none → H' b = none)
    (there : ∀ b o, b ∉ ch → s.heap.get? b = some o → ∃ o', h'.get? b = some o')
    (tups : ∀ b xs, H b = some (.tup xs) → H' b = some (.tup xs)) (frzs : ∀ b o u, H b = some (.frz o u) → H' b = some (.frz o u)) (tbls : ∀ b ps, H b = some (.tbl ps) → ∃ more, H' b = some (.tbl (ps ++ more)))
    (ns : ∀ m, s.heap.Ns X.env.locals m → h'.Ns X.env.locals m) (hok : HOk X.prog X.w H' h') (hg : AllBare g') :
    Inv X pins σ H' { s with heap := h', gens := g', drawn := d', toks := t' } := by
  have neL : ∀ b o, X.s₀.heap.get? b = some o → b ≠ X.env.locals := fun b o e => Nat.ne_of_lt (Nat.lt_of_lt_of_le (Heap.lt_size e) I.ok.above)
  have neC : ∀ b o, X.s₀.heap.get? b = some o → b ∉ X.ex → b ∉ ch := fun b o e hx hb => by
    rcases (hch b hb).1 with z | z
    · exact hx z
    · exact absurd (Nat.lt_of_lt_of_le (Heap.lt_size e) z) (Nat.lt_irrefl _)
  have cellK : ∀ x c, X.env.cells.lookup x = some c → ∀ v, s.heap.IsCell c v → h'.IsCell c v := fun x c e v ⟨o, ho, hd⟩ => by
    have nch : c ∉ ch := fun z => (hch c z).2.2.1 x c e rfl
    by_cases hc : c ∈ X.fs
    · obtain ⟨sl, q⟩ := slot c o (I.cne x c e) hc nch ho (I.freeC x c e)
      exact ⟨_, q, hd⟩
    · exact ⟨o, keep c o (I.cne x c e) hc nch ho (I.freeC x c e), hd⟩
  refine ⟨I.ok, I.os, hg, ⟨fun b o e n hb hx => ?_, fun b o e n hb hx => ?_, fun b o e n hx => ?_, fun b o e hx => ?_, fun b xs e => tups b xs (I.base.tups b xs e), fun b o xs e => frzs b o xs (I.base.frzs b o xs e), fun b ps e => ?_⟩, ?_, fun x c e => ?_, ?_, fun x c e => ?_, fun p hp => ?_, hok, I.len⟩
  · exact keep b o (neL b o e) hb (neC b o e hx) (I.base.keep b o e n hb hx) (I.base.free b o e n hx)
  · obtain ⟨sl, e1⟩ := I.base.slot b o e n hb hx
    obtain ⟨sl', e2⟩ := slot b _ (neL b o e) hb (neC b o e hx) e1 (I.base.free b o e n hx)
    exact ⟨sl', e2⟩
  · obtain ⟨o', e1⟩ := I.base.there b o e hx
    exact free b o' (neC b o e hx) e1 (I.base.free b o e n hx)
  · obtain ⟨o', e1⟩ := I.base.there b o e hx
    exact there b o' (neC b o e hx) e1
  · obtain ⟨m1, e1⟩ := I.base.tbls b ps e
    obtain ⟨m2, e2⟩ := tbls b _ e1
    exact ⟨m1 ++ m2, by rw [e2, Array.append_assoc]⟩
  · obtain ⟨m, hn, hl⟩ := I.loc
    refine ⟨m, ns m hn, fun i x v e1 e2 e3 => ?_⟩
    obtain ⟨u, r, l⟩ := hl i x v e1 e2 e3
    refine ⟨u, r, ?_⟩
    rcases l with l | ⟨k, c, e, z⟩
    · exact .inl l
    · exact .inr ⟨k, c, e, cellK x c e _ z⟩
  · obtain ⟨v, z⟩ := I.cell x c e
    exact ⟨v, cellK x c e v z⟩
  · obtain ⟨m, ⟨o, _, _, ho, _⟩, _⟩ := I.loc
    exact free _ o (fun z => (hch _ z).2.1 rfl) ho I.free
  · obtain ⟨v, o, ho, hd⟩ := I.cell x c e
    exact free c o (fun z => (hch c z).2.2.1 x c e rfl) ho (I.freeC x c e)
  · obtain ⟨e, n, ne, nf, d⟩ := I.pin p hp
    have nch : p.1 ∉ ch := fun z => (hch p.1 z).2.2.2 p hp rfl
    exact ⟨keep p.1 p.2 ne nf nch e n, free p.1 p.2 nch e n, ne, nf, d⟩
theorem Inv.un {t' : Nat} (I : Inv X pins σ H s) (u : Un X.fs [] H H' s.heap h') (hok : HOk X.prog X.w H' h') : Inv X pins σ H' { s with heap := h', toks := t' } := by
  obtain ⟨m, ⟨o, es, ep, ho, r⟩, _⟩ := id I.loc
  obtain ⟨sl, hL⟩ := u.any ho I.free (by simp)
  exact I.step (g' := s.gens) (d' := s.drawn) (ch := []) (fun _ z => nomatch z) (fun b o _ hb _ e n => u.keep b o e n hb (by simp)) (fun b o _ hb _ e n => u.slot b o e n hb (by simp)) (fun b o _ e n => u.free b o e n (by simp)) (fun b o _ e => u.there b o e (by simp)) u.tups u.frzs u.tbls (fun m' hm => by
    obtain ⟨o', es', ep', ho', r'⟩ := hm
    rw [ho] at ho'; cases ho'
    exact ⟨_, es', ep', hL, r'⟩) hok I.bare
theorem Inv.call {g' : Array GenState} {t' : Nat} {d' : Drawn} {ch : List Addr} (I : Inv X pins σ H s) (u : Un (frs X.stack) ch H H' s.heap h') (hok : HOk X.prog X.w H' h') (hg : AllBare g')
    (hch : ∀ b ∈ ch, (b ∈ X.ex ∨ X.s₀.heap.objs.size ≤ b) ∧ b ≠ X.env.locals ∧ (∀ x c, X.env.cells.lookup x = some c → c ≠ b) ∧ ∀ p ∈ X.pn ++ pins, p.1 ≠ b) :
    Inv X pins σ H' { s with heap := h', gens := g', drawn := d', toks := t' } := by
  obtain ⟨m, ⟨o, es, ep, ho, r⟩, _⟩ := id I.loc
  obtain ⟨sl, hL⟩ := u.any ho I.free fun z => (hch _ z).2.1 rfl
  exact I.step (ch := ch) hch (fun b o hL hb hc e n => u.keep b o e n (fun z => (List.mem_cons.mp (I.stkSub b z)).elim hL hb) hc) (fun b o _ _ hc e n => u.any e n hc) (fun b o hc e n => u.free b o e n hc) (fun b o hc e => u.there b o e hc) u.tups u.frzs u.tbls (fun m' hm => by
    obtain ⟨o', es', ep', ho', r'⟩ := hm
    rw [ho] at ho'; cases ho'
    exact ⟨_, es', ep', hL, r'⟩) hok hg
theorem Inv.turned {t' : Nat} {it : Addr} (I : Inv X pins σ H s) (k : ∀ b o, b ≠ it → s.heap.get? b = some o → h'.get? b = some o) (hn : H it = none) (hL : it ≠ X.env.locals)
    (h1 : it ∈ X.ex ∨ X.s₀.heap.objs.size ≤ it) (h2 : ∀ x c, X.env.cells.lookup x = some c → c ≠ it) (h3 : ∀ p ∈ X.pn ++ pins, p.1 ≠ it) : Inv X pins σ H { s with heap := h', toks := t' } := by
  have nit : ∀ b u, H b = some u → b ≠ it := fun b u e z => by rw [z, hn] at e; cases e
  refine I.step (g' := s.gens) (d' := s.drawn) (ch := [it]) (fun b hb => ?_) (fun b o _ _ hc e _ => k b o (fun z => hc (by simp [z])) e) (fun b o _ _ hc e _ => ⟨o.slots, k b o (fun z => hc (by simp [z])) e⟩) (fun _ _ _ _ n => n)
    (fun b o hc e => ⟨o, k b o (fun z => hc (by simp [z])) e⟩) (fun _ _ e => e) (fun _ _ _ e => e) (fun b ps e => ⟨#[], by rw [e]; simp⟩) (fun m hm => ?_) (fun b u e => ?_) I.bare
  · have e : b = it := by simpa using hb
    subst e
    exact ⟨h1, hL, h2, h3⟩
  · obtain ⟨o, es, ep, ho, r⟩ := hm
    exact ⟨o, es, ep, k _ o (Ne.symm hL) ho, r⟩
  · refine (I.hok b u e).stay (fun c v hc q => k c v ?_ q) (fun _ q => q) fun _ _ q => q
    rcases hc with z | z
    · rw [z]; exact nit b u e
    · exact nit c _ z
theorem Inv.tok (I : Inv X pins σ H s) (t : Nat) : Inv X pins σ H { s with toks := t } := I.un (h' := s.heap) (t' := t) Un.refl I.hok
theorem Inv.kept {t' : Nat} (I : Inv X pins σ H s) (k : ∀ b u, s.heap.get? b = some u → h'.get? b = some u) : Inv X pins σ H { s with heap := h', toks := t' } := I.un (Un.kept k) (I.hok.kept k)
theorem Inv.laid {a : Addr} {o : HO} {t' : Nat} (I : Inv X pins σ H s) (k : ∀ b u, s.heap.get? b = some u → h'.get? b = some u) (hp : s.heap.objs.size ≤ a) (new : ObjOk X.prog X.w (upd H a o) h' a o) :
    Inv X pins σ (upd H a o) { s with heap := h', toks := t' } := I.un (Un.laid k hp (I.hok.fresh hp)) (I.hok.laid k hp new)
theorem Inv.write {x e : Addr} {o : HO} {t' : Nat} (I : Inv X pins σ H s) (mu : Mut (H x)) (he : e = x ∨ H e = some (.own x)) (k : ∀ b u, b ≠ e → s.heap.get? b = some u → h'.get? b = some u) (heo : ∃ u, h'.get? e = some u)
    (new : ObjOk X.prog X.w (upd H x o) h' x o) : Inv X pins σ (upd H x o) { s with heap := h', toks := t' } := I.un (Un.write mu he k heo) (I.hok.write mu he k heo new)
theorem Inv.pins_of {pins' : List (Addr × Obj)} (I : Inv X pins σ H s) (h : ∀ p ∈ pins', s.heap.get? p.1 = some p.2 ∧ H p.1 = none ∧ p.1 ≠ X.env.locals ∧ p.1 ∉ X.fs ∧ ∀ v, p.2.data ≠ .cell v) : Inv X pins' σ H s :=
  ⟨I.ok, I.os, I.bare, I.base, I.loc, I.cell, I.free, I.freeC, fun p hp => (List.mem_append.mp hp).elim (fun z => I.pin p (List.mem_append_left _ z)) (h p), I.hok, I.len⟩
theorem nodup_ix {N : List Str} (hN : N.Nodup) {i j : Nat} {x : Str} (a : N[i]? = some x) (b : N[j]? = some x) : i = j := by
  obtain ⟨h1, e1⟩ := List.getElem?_eq_some_iff.mp a
  obtain ⟨h2, e2⟩ := List.getElem?_eq_some_iff.mp b
  exact (List.getElem_inj hN).mp (e1.trans e2.symm)
theorem store_ok2 {M : Model} {A : Around} {E : Value → Shared → Prop} {i : Nat} {x : Str} {v : V} {u : Value} {Q : Unit → Shared → Prop} (I : Inv X pins σ H s) (hN : X.N.Nodup) (hi : X.N[i]? = some x) (hx : Loc X.env.scope x) (r : RelV v u)
    (h : ∀ s', Inv X pins (σ.set i (some v)) H s' → (∃ a, Heap.SameBut a s.heap s'.heap ∧ (a = X.env.locals ∨ X.env.cells.lookup x = some a)) → Q () s') (hf : X.fn x = true ∨ X.env.scope.names.lookup x = some .local := by first | exact .inl rfl | exact .inr rfl | assumption) : wpAny M A (storeName X.env x u) Q E s := by
  obtain ⟨m, hn, hl⟩ := id I.loc
  have hcls : (X.env.scope.kind == .class || (X.env.scope.kind == .module && X.env.locals != X.env.globals)) = false := by rw [I.ok.kind]; rfl
  have hiσ : i < σ.length := by rw [I.len]; exact (List.getElem?_eq_some_iff.mp hi).1
  have cne := I.cne
  have tracked : ∀ {a : Addr} {h' : Heap}, (∃ o, s.heap.get? a = some o ∧ H a = none) → Heap.SameBut a s.heap h' → HOk X.prog X.w H h' := fun {a h'} ha hs b ob e => by
    obtain ⟨_, _, hfree⟩ := ha
    refine (I.hok b ob e).stay (fun c w' hc q => (hs.2 c ?_).trans q) (fun _ q => q) fun _ _ q => q
    rintro rfl
    rcases hc with rfl | hc
    · rw [hfree] at e; cases e
    · rw [hfree] at hc; cases hc
  rcases hx with hk | hk
  · refine wpAny_storeName_local hk hn (fun h' hn' hs => ?_) hcls
    obtain ⟨oL, _, _, hoL, _⟩ := id hn
    refine h _ ⟨I.ok, I.os, I.bare, ⟨fun b o e n hb hx => ?_, fun b o e n hb hx => ?_, I.base.free, fun b o e hx => ?_, I.base.tups, I.base.frzs, I.base.tbls⟩, ⟨_, hn', fun j y v' e1 e2 e3 => ?_⟩, fun y c e => ?_, I.free, I.freeC, fun p hp => ?_, tracked ⟨oL, hoL, I.free⟩ hs, by simpa using I.len⟩ ⟨_, hs, .inl rfl⟩
    · exact (hs.2 b (Nat.ne_of_lt (Nat.lt_of_lt_of_le (Heap.lt_size e) I.ok.above))).trans (I.base.keep b o e n hb hx)
    · obtain ⟨sl, e1⟩ := I.base.slot b o e n hb hx
      exact ⟨sl, (hs.2 b (Nat.ne_of_lt (Nat.lt_of_lt_of_le (Heap.lt_size e) I.ok.above))).trans e1⟩
    · obtain ⟨o', e1⟩ := I.base.there b o e hx
      exact ⟨o', (hs.2 b (Nat.ne_of_lt (Nat.lt_of_lt_of_le (Heap.lt_size e) I.ok.above))).trans e1⟩
    · by_cases hj : j = i
      · subst hj
        rw [hi] at e1; cases e1
        rw [List.getElem?_set_self hiσ] at e2
        cases e2
        exact ⟨u, r, .inl ⟨hk, by simp⟩⟩
      · rw [List.getElem?_set_ne (Ne.symm hj)] at e2
        obtain ⟨u', r', q⟩ := hl j y v' e1 e2 e3
        refine ⟨u', r', ?_⟩
        rcases q with ⟨k, e⟩ | ⟨k, c, e, z⟩
        · refine .inl ⟨k, ?_⟩
          have : y ≠ x := fun e => hj (nodup_ix hN e1 (e ▸ hi))
          simp [this, e]
        · exact .inr ⟨k, c, e, z.sameBut hs (cne y c e)⟩
    · obtain ⟨w', z⟩ := I.cell y c e
      exact ⟨w', z.sameBut hs (cne y c e)⟩
    · obtain ⟨e, n, ne, nf, d⟩ := I.pin p hp
      exact ⟨(hs.2 p.1 ne).trans e, n, ne, nf, d⟩
  · have hfn : X.fn x = true := by
      rcases hf with z | z
      · exact z
      · rw [z] at hk; cases hk
    obtain ⟨c, hc⟩ := I.ok.has x (.inl hk)
    obtain ⟨w', z⟩ := I.cell x c hc
    refine wpAny_storeName_cell I.ok.kind hk hc z (fun h' hc' hs => ?_)
    obtain ⟨oc, hoc, hocd⟩ := id z
    refine h { s with heap := h' } ⟨I.ok, I.os, I.bare, ⟨fun b o e n hb hx => ?_, fun b o e n hb hx => ?_, I.base.free, fun b o e hx => ?_, I.base.tups, I.base.frzs, I.base.tbls⟩, ⟨m, hn.sameBut hs (Ne.symm (cne x c hc)), fun j y v' e1 e2 e3 => ?_⟩, fun y c' e => ?_, I.free, I.freeC, fun p hp => ?_, tracked ⟨oc, hoc, I.freeC x c hc⟩ hs, by simpa using I.len⟩ ⟨c, hs, .inr hc⟩
    · exact (hs.2 b (Nat.ne_of_lt (Nat.lt_of_lt_of_le (Heap.lt_size e) (I.ok.cab x c hfn hc)))).trans (I.base.keep b o e n hb hx)
    · obtain ⟨sl, e1⟩ := I.base.slot b o e n hb hx
      exact ⟨sl, (hs.2 b (Nat.ne_of_lt (Nat.lt_of_lt_of_le (Heap.lt_size e) (I.ok.cab x c hfn hc)))).trans e1⟩
    · obtain ⟨o', e1⟩ := I.base.there b o e hx
      exact ⟨o', (hs.2 b (Nat.ne_of_lt (Nat.lt_of_lt_of_le (Heap.lt_size e) (I.ok.cab x c hfn hc)))).trans e1⟩
    · by_cases hj : j = i
      · subst hj
        rw [hi] at e1; cases e1
        rw [List.getElem?_set_self hiσ] at e2
        cases e2
        exact ⟨u, r, .inr ⟨.inl hk, c, hc, hc'⟩⟩
      · rw [List.getElem?_set_ne (Ne.symm hj)] at e2
        obtain ⟨u', r', q⟩ := hl j y v' e1 e2 e3
        refine ⟨u', r', ?_⟩
        rcases q with q | ⟨k, c', e, z'⟩
        · exact .inl q
        · refine .inr ⟨k, c', e, z'.sameBut hs ?_⟩
          rintro rfl
          exact hj (nodup_ix hN e1 (I.ok.inj _ _ _ e hc ▸ hi))
    · by_cases hcc : c' = c
      · subst hcc; exact ⟨_, hc'⟩
      · obtain ⟨w2, z2⟩ := I.cell y c' e
        exact ⟨w2, z2.sameBut hs hcc⟩
    · obtain ⟨e, n, ne, nf, d⟩ := I.pin p hp
      refine ⟨(hs.2 p.1 ?_).trans e, n, ne, nf, d⟩
      intro q
      rw [q, hoc] at e
      have q' : oc = p.2 := Option.some.inj e
      exact d w' (by rw [← q']; exact hocd)
theorem store_ok {M : Model} {A : Around} {E : Value → Shared → Prop} {i : Nat} {x : Str} {v : V} {u : Value} {Q : Unit → Shared → Prop} (I : Inv X pins σ H s) (hN : X.N.Nodup) (hi : X.N[i]? = some x) (hx : Loc X.env.scope x) (r : RelV v u)
    (h : ∀ s', Inv X pins (σ.set i (some v)) H s' → Q () s') (hf : X.fn x = true ∨ X.env.scope.names.lookup x = some .local := by first | exact .inl rfl | exact .inr rfl | assumption) : wpAny M A (storeName X.env x u) Q E s :=
  store_ok2 I hN hi hx r (fun s' I' _ => h s' I') hf
theorem Inv.call' {s' : Shared} {ch : List Addr} (I : Inv X pins σ H s) (ho : s'.os = s.os) (u : Un (frs X.stack) ch H H' s.heap s'.heap) (hok : HOk X.prog X.w H' s'.heap) (hg : AllBare s'.gens)
    (hch : ∀ b ∈ ch, (b ∈ X.ex ∨ X.s₀.heap.objs.size ≤ b) ∧ b ≠ X.env.locals ∧ (∀ x c, X.env.cells.lookup x = some c → c ≠ b) ∧ ∀ p ∈ X.pn ++ pins, p.1 ≠ b) : Inv X pins σ H' s' := by
  obtain ⟨h', g', d', t', o'⟩ := s'
  have e : o' = s.os := ho
  subst e
  exact I.call (g' := g') (t' := t') (d' := d') u hok hg hch
end
abbrev XK := Value → Option Addr → Hp → Prop
abbrev St := List (Option V)
abbrev VK := V → Hp → Prop
abbrev TE := St → Hp → VK → Prop
abbrev TT := St → Hp → (Bool → Hp → Prop) → Prop
abbrev TA := St → Hp → (List V → Hp → Prop) → Prop
structure Ends where
  nx : St → Hp → Prop
  rt : VK
  bk : St → Hp → Prop := fun _ _ => False
  ct : St → Hp → Prop := fun _ _ => False
abbrev TS := Ends → St → Hp → Prop
def EP (X : Cx) (pins : List (Addr × Obj)) (σ : St) (Q : VK) (u : Value) (s' : Shared) : Prop := ∃ v H', Inv X pins σ H' s' ∧ RelV v u ∧ Q v H'
def TP (X : Cx) (pins : List (Addr × Obj)) (σ : St) (Q : Bool → Hp → Prop) (b : Bool) (s' : Shared) : Prop := ∃ H', Inv X pins σ H' s' ∧ Q b H'
def AP (X : Cx) (pins : List (Addr × Obj)) (σ : St) (Q : List V → Hp → Prop) (us : List Value) (s' : Shared) : Prop := ∃ vs H', Inv X pins σ H' s' ∧ Vals vs us ∧ Q vs H'
def SP (X : Cx) (pins : List (Addr × Obj)) (D : Ends) (f : Flow) (s' : Shared) : Prop :=
  match f with
  | .next => ∃ σ' H', Inv X pins σ' H' s' ∧ D.nx σ' H'
  | .brk => ∃ σ' H', Inv X pins σ' H' s' ∧ D.bk σ' H'
  | .cont => ∃ σ' H', Inv X pins σ' H' s' ∧ D.ct σ' H'
  | .ret u => ∃ v σ' H', Inv X pins σ' H' s' ∧ RelV v u ∧ D.rt v H'
def PE (X : Cx) (e : Expr) (t : TE) : Prop :=
  ∀ (pins : List (Addr × Obj)) (s : Shared) (σ : St) (H : Hp) (Q : VK), Inv X pins σ H s → t σ H Q → wpAny (model X.prog X.w) X.A (eval e X.env) (EP X pins σ Q) X.xe s
def PT (X : Cx) (e : Expr) (t : TT) : Prop :=
  ∀ (pins : List (Addr × Obj)) (s : Shared) (σ : St) (H : Hp) (Q : Bool → Hp → Prop), Inv X pins σ H s → t σ H Q → wpAny (model X.prog X.w) X.A (isTrue e X.env (eval e X.env)) (TP X pins σ Q) X.xe s
def PW (X : Cx) (e : Expr) (t : TT) : Prop :=
  ∀ (whole : Sem Value) (pins : List (Addr × Obj)) (s : Shared) (σ : St) (H : Hp) (Q : Bool → Hp → Prop), Inv X pins σ H s → t σ H Q → wpAny (model X.prog X.w) X.A (isTrue e X.env whole) (TP X pins σ Q) X.xe s
theorem PW.pt {X : Cx} {e : Expr} {t : TT} (h : PW X e t) : PT X e t := h _
def PA (X : Cx) (es : List Expr) (t : TA) : Prop :=
  ∀ (pos : Pos) (pins : List (Addr × Obj)) (s : Shared) (σ : St) (H : Hp) (Q : List V → Hp → Prop), Inv X pins σ H s → t σ H Q → wpAny (model X.prog X.w) X.A (spliced (backTo pos (starEach es X.env))) (AP X pins σ Q) X.xe s
def PS (X : Cx) (st : Stmt) (t : TS) : Prop :=
  ∀ (pins : List (Addr × Obj)) (s : Shared) (σ : St) (H : Hp) (D : Ends), Inv X pins σ H s → t D σ H → wpAny (model X.prog X.w) X.A (exec st X.env) (SP X pins D) X.xe s
def PSs (X : Cx) (st : List Stmt) (t : TS) : Prop :=
  ∀ (pins : List (Addr × Obj)) (s : Shared) (σ : St) (H : Hp) (D : Ends), Inv X pins σ H s → t D σ H → wpAny (model X.prog X.w) X.A (execs st X.env) (SP X pins D) X.xe s
theorem thn {α : Type} {t : Sem α} {Q Q' : α → Shared → Prop} {M : Model} {A : Around} {E : Value → Shared → Prop} {s : Shared} (h : wpAny M A t Q E s) (hQ : ∀ a s, Q a s → Q' a s) : wpAny M A t Q' E s := wpAny_mono h hQ fun _ _ x => x
end L2
namespace L2
open PySem PySem.Spec PyProof.Rows
section
variable {X : Cx}
def tVar (i : Nat) : TE := fun σ H Q => ∃ v, σ[i]? = some (some v) ∧ Q v H
def tC (v : V) : TE := fun _ H Q => Q v H
theorem pe_var {i : Nat} {x : Str} {pos : Pos} (hN : X.N[i]? = some x) (hv : Vis X.env.scope x) (hd : (x == ("__debug__" : Str)) = false := by decide) (hcd : (x == ("__classdict__" : Str)) = false := by decide) : PE X (.Name x pos) (tVar i) := by
  intro pins s σ H Q I h
  obtain ⟨v, e, h⟩ := h
  obtain ⟨m, hn, hl⟩ := I.loc
  obtain ⟨u, r, l⟩ := hl i x v hN e hv
  have fin : EP X pins σ Q u s := ⟨v, H, I, r, h⟩
  rcases l with ⟨hk, hm⟩ | ⟨hk, c, hc, hcell⟩
  · exact wpAny_Name (wpAny_loadName_local I.ok.kind hk hn hm fin) hd
  · rcases hk with hk | hk
    · exact wpAny_Name (wpAny_loadName_cell I.ok.kind hk hc hcell fin) hd
    · exact wpAny_Name (wpAny_loadName_free I.ok.kind hk hc hcell fin hcd) hd
theorem pe_int {i j pos} : PE X (.Constant (.int i) j pos) (tC (.int i)) := fun _ _ _ H _ I h => wpAny_Constant_int ⟨.int i, H, I.tok _, ⟨_, rfl⟩, h⟩
theorem pe_bl {b j pos} : PE X (.Constant (.bool b) j pos) (tC (.bl b)) := fun _ _ _ H _ I h => Constant_bool ⟨.bl b, H, I, rfl, h⟩
theorem pe_non {j pos} : PE X (.Constant .none j pos) (tC .non) := fun _ _ _ H _ I h => Constant_none ⟨.non, H, I, rfl, h⟩
theorem pe_str {x j pos} : PE X (.Constant (.str x) j pos) (tC (.str x)) := fun _ _ _ H _ I h => Calls.Constant_str ⟨.str x, H, I.tok _, ⟨_, rfl⟩, h⟩
def Gl (X : Cx) (x : Str) : Prop := X.env.kindOf x = some .globalImplicit
theorem ld_glob {E : Value → Shared → Prop} {pins : List (Addr × Obj)} {s : Shared} {σ : St} {H : Hp} {x : Str} {u : Value} {pos : Pos} {Q : Value → Shared → Prop} (I : Inv X pins σ H s) (hg : Gl X x) (hm : X.mg x = some u) (h : Q u s)
    (hd : (x == ("__debug__" : Str)) = false := by decide) : wpAny (model X.prog X.w) X.A (eval (.Name x pos) X.env) Q E s :=
  Calls.Name_function_global I.ok.kind hg (Calls.loadGlobal_global (by rw [I.ok.glob]; exact I.mod.glob.keeps I.bk) hm h) hd
theorem ld_blt {E : Value → Shared → Prop} {pins : List (Addr × Obj)} {s : Shared} {σ : St} {H : Hp} {x : Str} {u : Value} {pos : Pos} {Q : Value → Shared → Prop} (I : Inv X pins σ H s) (hg : Gl X x) (hm : X.mg x = none) (hv : bootBuiltins x = some u) (h : Q u s)
    (hn : x ≠ "__name__" := by decide) (hd : (x == ("__debug__" : Str)) = false := by decide) : wpAny (model X.prog X.w) X.A (eval (.Name x pos) X.env) Q E s := by
  obtain ⟨mb, h1, h2⟩ := I.mod.blt
  exact Calls.Name_function_global I.ok.kind hg (Calls.loadGlobal_builtin (by rw [I.ok.glob]; exact I.mod.glob.keeps I.bk) hm (by rw [I.ok.blt]; exact h1.keeps I.bk) ((h2 x hn).trans hv) h) hd
theorem pe_glob {x : Str} {v : V} {u : Value} {pos : Pos} (hg : Gl X x) (hm : X.mg x = some u) (r : RelV v u) (hd : (x == ("__debug__" : Str)) = false := by decide) : PE X (.Name x pos) (tC v) :=
  fun _ _ _ H _ I h => ld_glob I hg hm ⟨v, H, I, r, h⟩ hd
variable {a b : Expr} {ta tb : TE} {pos : Pos}
def PC (X : Cx) (op : CmpOp) (a b : Expr) (t : TE) : Prop :=
  ∀ (pins : List (Addr × Obj)) (s : Shared) (σ : St) (H : Hp) (Q : VK), Inv X pins σ H s → t σ H Q →
    wpAny (model X.prog X.w) X.A (eval a X.env) (fun v s₁ => wpAny (model X.prog X.w) X.A (eval b X.env) (fun u s₂ => wpAny (model X.prog X.w) X.A (compareOp op v u) (EP X pins σ Q) X.xe s₂) X.xe s₁) X.xe s
theorem nobehind (b : Expr) {op : CmpOp} (h : op ≠ .In) (h2 : op ≠ .NotIn) : behindInMarks op b = false := by
  have e1 : (op == CmpOp.In) = false := by cases op <;> first | rfl | exact absurd rfl h
  have e2 : (op == CmpOp.NotIn) = false := by cases op <;> first | rfl | exact absurd rfl h2
  cases b <;> simp [behindInMarks, e1, e2]
def tIsN (ta : TE) : TE := fun σ H Q => ta σ H fun x H1 => Q (.bl (decide (x = .non))) H1
theorem RelV.none_iff {x : V} {v : Value} (r : RelV x v) : (v == Value.none) = decide (x = .non) := by
  cases x with
  | non => cases r; rfl
  | bl _ => cases r; rfl
  | int _ => obtain ⟨t, rfl⟩ := r; rfl
  | str _ => obtain ⟨t, rfl⟩ := r; rfl
  | byt _ => obtain ⟨t, rfl⟩ := r; rfl
  | flt _ => obtain ⟨t, rfl⟩ := r; rfl
  | ref _ => cases r; rfl
  | ty _ => cases r; rfl
theorem pc_isN {j pos'} (ha : PE X a ta) : PC X .Is a (.Constant .none j pos') (tIsN ta) := by
  intro pins s σ H Q I h
  refine thn (ha pins s σ H _ I h) fun v s1 ⟨x, H1, I1, r1, q1⟩ => ?_
  exact Constant_none (is_none_gen ⟨.bl _, H1, I1, by rw [r1.none_iff]; rfl, q1⟩)
def tB (t : TE) : TT := fun σ H Q => t σ H fun x H1 => ∃ c, x = .bl c ∧ Q c H1
theorem pt_cmp {op : CmpOp} {t : TE} (h : PC X op a b t) (h1 : behindInMarks op b = false := by first | exact nobehind _ (by decide) (by decide) | rfl) : PT X (.Compare a [op] [b] pos) (tB t) := by
  intro pins s σ H Q I hw
  refine wpAny_isTrue_Compare1 (thn (h pins s σ H _ I hw) fun v s1 h1 => thn h1 fun u s2 h2 => thn h2 fun c s3 ⟨x, H1, I1, r1, q1⟩ => ?_) h1
  obtain ⟨d, rfl, q⟩ := q1
  cases r1
  exact wpAny_truthy_bool ⟨H1, I1, q⟩
theorem pt_val {e : Expr} {t : TE} (h : PE X e t) (he : ∀ whole, isTrue e X.env whole = (do let v ← whole; standAt e.pos; holding [v] (truthy v)) := by intro _; rfl) : PT X e (tB t) := by
  intro pins s σ H Q I hw
  refine isTrue_plain (thn (h pins s σ H _ I hw) fun v s1 ⟨x, H1, I1, r1, q1⟩ => ?_) (he _)
  obtain ⟨d, rfl, q⟩ := q1
  cases r1
  exact wpAny_truthy_bool ⟨H1, I1, q⟩
variable {tA tB' : TT} {rest : List Expr}
def tAnd (t u : TT) : TT := fun σ H Q => t σ H fun c H1 => if c = true then u σ H1 Q else Q false H1
def tOr (t u : TT) : TT := fun σ H Q => t σ H fun c H1 => if c = true then Q true H1 else u σ H1 Q
def tNot (t : TT) : TT := fun σ H Q => t σ H fun c H1 => Q (!c) H1
theorem pw_and1 (ha : PT X a tA) : PW X (.BoolOp .And [a] pos) tA := by
  intro wh pins s σ H Q I h
  refine isTrue_and (thn (ha pins s σ H Q I h) fun c s1 e => ?_)
  cases c with
  | true => exact isTrue_and_nil e
  | false => exact e
theorem pw_or1 (ha : PT X a tA) : PW X (.BoolOp .Or [a] pos) tA := by
  intro wh pins s σ H Q I h
  refine isTrue_or (thn (ha pins s σ H Q I h) fun c s1 e => ?_)
  cases c with
  | false => exact isTrue_or_nil e
  | true => exact e
theorem pw_and (ha : PT X a tA) (hb : PW X (.BoolOp .And (b :: rest) pos) tB') : PW X (.BoolOp .And (a :: b :: rest) pos) (tAnd tA tB') := by
  intro wh pins s σ H Q I h
  refine isTrue_and (thn (ha pins s σ H _ I h) fun c s1 ⟨H1, I1, q1⟩ => ?_)
  cases c with
  | true => exact hb wh pins s1 σ H1 Q I1 q1
  | false => exact ⟨H1, I1, q1⟩
theorem pw_or (ha : PT X a tA) (hb : PW X (.BoolOp .Or (b :: rest) pos) tB') : PW X (.BoolOp .Or (a :: b :: rest) pos) (tOr tA tB') := by
  intro wh pins s σ H Q I h
  refine isTrue_or (thn (ha pins s σ H _ I h) fun c s1 ⟨H1, I1, q1⟩ => ?_)
  cases c with
  | true => exact ⟨H1, I1, q1⟩
  | false => exact hb wh pins s1 σ H1 Q I1 q1
theorem pt_not (ha : PT X a tA) : PT X (.UnaryOp .Not a pos) (tNot tA) := by
  intro pins s σ H Q I h
  exact isTrue_not (ha pins s σ H (fun c H1 => Q (!c) H1) I h)
def tAndV (ta tb : TE) : TE := fun σ H Q => ta σ H fun x H1 => ∃ c, x = .bl c ∧ if c = true then tb σ H1 Q else Q (.bl false) H1
theorem pe_one {op} {t : TE} (h : PE X a t) : PE X (.BoolOp op [a] pos) t := fun pins s σ H Q I hw => BoolOp_one (h pins s σ H Q I hw)
theorem pe_and (ha : PE X a ta) (hb : PE X (.BoolOp .And (b :: rest) pos) tb) : PE X (.BoolOp .And (a :: b :: rest) pos) (tAndV ta tb) := by
  intro pins s σ H Q I h
  refine BoolOp_and (thn (ha pins s σ H _ I h) fun v s1 ⟨x, H1, I1, r1, q1⟩ => ?_)
  obtain ⟨c, rfl, q1⟩ := q1
  cases r1
  refine wpAny_truthy_bool ?_
  cases c with
  | true => exact hb pins s1 σ H1 Q I1 q1
  | false => exact ⟨.bl false, H1, I1, rfl, q1⟩
def tIf (t : TT) (ta tb : TE) : TE := fun σ H Q => t σ H fun c H1 => if c = true then ta σ H1 Q else tb σ H1 Q
theorem pe_ifExp {c : Expr} (hc : PT X c tA) (ha : PE X a ta) (hb : PE X b tb) : PE X (.IfExp c a b pos) (tIf tA ta tb) := by
  intro pins s σ H Q I h
  refine wpAny_IfExp (thn (hc pins s σ H _ I h) fun d s1 ⟨H1, I1, q1⟩ => ?_)
  cases d with
  | true => exact ha pins s1 σ H1 Q I1 q1
  | false => exact hb pins s1 σ H1 Q I1 q1
end
end L2
namespace L2
open PySem PySem.Spec PyProof.Rows
def SqL (K : PySem.W.Frag) (H : Hp) (a : Addr) (xs : List V) : Prop :=
  Rd H a (.lst xs) ∨
    ∃ (o : Obj) (its : Array Value) (n : Nat), K.lookup a = some o ∧ o.cls = .type "list" ∧ o.dict = none ∧ o.data = .seq its n ∧ its.size ≤ sizeLine ∧ Vals xs its.toList
def SqT (K : PySem.W.Frag) (H : Hp) (a : Addr) (xs : List V) : Prop :=
  Rd H a (.tup xs) ∨
    ∃ (o : Obj) (its : Array Value) (n : Nat), K.lookup a = some o ∧ o.cls = .type "tuple" ∧ o.data = .seq its n ∧ its.size ≤ sizeLine ∧ Vals xs its.toList
def absV : Value → Option V
  | .none => some .non
  | .bool b => some (.bl b)
  | .int i _ => some (.int i)
  | .str x _ => some (.str x)
  | .bytes b _ => some (.byt b)
  | .float b _ => some (.flt b)
  | .ref a => some (.ref a)
  | .type n => some (.ty n)
  | _ => none
theorem RelV.abs {x : V} {u : Value} (r : RelV x u) : absV u = some x := by
  cases x with
  | non => cases r; rfl
  | bl _ => cases r; rfl
  | int _ => obtain ⟨t, rfl⟩ := r; rfl
  | str _ => obtain ⟨t, rfl⟩ := r; rfl
  | byt _ => obtain ⟨t, rfl⟩ := r; rfl
  | flt _ => obtain ⟨t, rfl⟩ := r; rfl
  | ref _ => cases r; rfl
  | ty _ => cases r; rfl
theorem RelV.inj {x y : V} {u : Value} (r : RelV x u) (q : RelV y u) : x = y := Option.some.inj (r.abs.symm.trans q.abs)
theorem Vals.inj : ∀ {xs ys : List V} {us : List Value}, Vals xs us → Vals ys us → xs = ys
  | _, _, _, .nil, .nil => rfl
  | _, _, _, .cons r t, .cons r' t' => by rw [r.inj r', Vals.inj t t']
section
variable {X : Cx} {pins : List (Addr × Obj)} {σ : St} {H : Hp} {s : Shared} {a : Addr} {xs ys : List V}
theorem SqL.of {K : PySem.W.Frag} (h : H a = some (.lst xs)) : SqL K H a xs := .inl (.inl h)
theorem SqT.of {K : PySem.W.Frag} (h : H a = some (.tup xs)) : SqT K H a xs := .inl (.inl h)
theorem Inv.list (I : Inv X pins σ H s) (h : SqL X.K H a xs) : ∃ its : List Value, Vals xs its ∧ PlainL s.heap a its.toArray ∧ xs.length ≤ sizeLine := by
  rcases h with h | ⟨o, its, n, hk, hc, hd, hs, hz, r⟩
  · obtain ⟨z, its, n, r, e⟩ := h.ok I.hok
    exact ⟨its, r, ⟨_, n, e, rfl, rfl, rfl⟩, z⟩
  · refine ⟨its.toList, r, ⟨o, n, I.kIn a o hk, hc, hd, by simpa using hs⟩, ?_⟩
    have e := r.length
    simp only [Array.length_toList] at e
    omega
theorem Inv.tuple (I : Inv X pins σ H s) (h : SqT X.K H a xs) : ∃ its : List Value, Vals xs its ∧ IsTup s.heap a its.toArray ∧ xs.length ≤ sizeLine := by
  rcases h with h | ⟨o, its, n, hk, hc, hs, hz, r⟩
  · obtain ⟨z, its, r, p⟩ := h.ok I.hok
    exact ⟨its, r, p, z⟩
  · refine ⟨its.toList, r, ⟨o, I.kIn a o hk, hc, n, by simpa using hs⟩, ?_⟩
    have e := r.length
    simp only [Array.length_toList] at e
    omega
theorem Inv.list_inj (I : Inv X pins σ H s) (h : SqL X.K H a xs) (h' : SqL X.K H a ys) : xs = ys := by
  obtain ⟨its, r, ⟨o, n, e, _, _, d⟩, _⟩ := I.list h
  obtain ⟨its', r', ⟨o', n', e', _, _, d'⟩, _⟩ := I.list h'
  rw [e] at e'; cases e'
  rw [d] at d'
  injection d' with d1 _
  have : its = its' := by simpa using congrArg Array.toList d1
  subst this
  exact r.inj r'
theorem Inv.tuple_inj (I : Inv X pins σ H s) (h : SqT X.K H a xs) (h' : SqT X.K H a ys) : xs = ys := by
  obtain ⟨its, r, ⟨o, e, _, n, d⟩, _⟩ := I.tuple h
  obtain ⟨its', r', ⟨o', e', _, n', d'⟩, _⟩ := I.tuple h'
  rw [e] at e'; cases e'
  rw [d] at d'
  injection d' with d1 _
  have : its = its' := by simpa using congrArg Array.toList d1
  subst this
  exact r.inj r'
end
abbrev Cx.wish (X : Cx) (E : Value → Shared → Prop) : Cx := { X with xe := E }
abbrev Cx.nox (X : Cx) : Cx := X.wish fun _ _ => False
theorem Cx.Ok.wish {X : Cx} (ok : X.Ok) (E : Value → Shared → Prop) : (X.wish E).Ok :=
  ⟨ok.mod, ok.kind, ok.glob, ok.blt, ok.above, ok.inj, ok.has, ok.cab, ok.hd, ok.frames, ok.stk, ok.exf, ok.bs, ok.bsz, ok.noex, ok.exfs, ok.funs, ok.frf⟩
theorem Cx.Ok.unwish {X : Cx} {E : Value → Shared → Prop} (ok : (X.wish E).Ok) : X.Ok :=
  ⟨ok.mod, ok.kind, ok.glob, ok.blt, ok.above, ok.inj, ok.has, ok.cab, ok.hd, ok.frames, ok.stk, ok.exf, ok.bs, ok.bsz, ok.noex, ok.exfs, ok.funs, ok.frf⟩
section
variable {X : Cx} {pins : List (Addr × Obj)} {σ : St} {H : Hp} {s : Shared} {E : Value → Shared → Prop}
theorem Inv.wish (I : Inv X pins σ H s) (E : Value → Shared → Prop) : Inv (X.wish E) pins σ H s := ⟨I.ok.wish E, I.os, I.bare, I.base, I.loc, I.cell, I.free, I.freeC, I.pin, I.hok, I.len⟩
theorem Inv.unwish (I : Inv (X.wish E) pins σ H s) : Inv X pins σ H s := ⟨I.ok.unwish, I.os, I.bare, I.base, I.loc, I.cell, I.free, I.freeC, I.pin, I.hok, I.len⟩
theorem SP.unwish {D : Ends} {f : Flow} {s' : Shared} (h : SP (X.wish E) pins D f s') : SP X pins D f s' := by
  cases f with
  | next => obtain ⟨σ', H', I, q⟩ := h; exact ⟨σ', H', I.unwish, q⟩
  | brk => obtain ⟨σ', H', I, q⟩ := h; exact ⟨σ', H', I.unwish, q⟩
  | cont => obtain ⟨σ', H', I, q⟩ := h; exact ⟨σ', H', I.unwish, q⟩
  | ret u => obtain ⟨v, σ', H', I, r, q⟩ := h; exact ⟨v, σ', H', I.unwish, r, q⟩
theorem PE.nox {e : Expr} {t : TE} (h : PE X.nox e t) : PE X e t := fun pins s σ H Q I hw =>
  wpAny_mono (h pins s σ H Q (I.wish _) hw) (fun _ _ ⟨v, H', I', r, q⟩ => ⟨v, H', I'.unwish, r, q⟩) fun _ _ z => False.elim z
theorem PT.nox {e : Expr} {t : TT} (h : PT X.nox e t) : PT X e t := fun pins s σ H Q I hw =>
  wpAny_mono (h pins s σ H Q (I.wish _) hw) (fun _ _ ⟨H', I', q⟩ => ⟨H', I'.unwish, q⟩) fun _ _ z => False.elim z
theorem PSs.nox {st : List Stmt} {t : TS} (h : PSs X.nox st t) : PSs X st t := fun pins s σ H D I hw =>
  wpAny_mono (h pins s σ H D (I.wish _) hw) (fun _ _ q => q.unwish) fun _ _ z => False.elim z
end
section
variable {X : Cx} {st : Stmt} {rest : List Stmt} {t u : TS} {e : Expr} {te : TE} {pos : Pos}
def tNext : TS := fun D σ H => D.nx σ H
def tSeq (t u : TS) : TS := fun D σ H => t { D with nx := u D } σ H
theorem pss_nil : PSs X [] tNext := fun _ _ σ H _ I h => wpAny_execs_nil ⟨σ, H, I, h⟩
theorem pss_cons (h1 : PS X st t) (h2 : PSs X rest u) : PSs X (st :: rest) (tSeq t u) := by
  intro pins s σ H D I h
  refine wpAny_execs_cons (thn (h1 pins s σ H { D with nx := u D } I h) fun f s1 q => ?_)
  cases f with
  | next =>
    obtain ⟨σ', H', I', q⟩ := q
    exact h2 pins s1 σ' H' D I' q
  | ret v => exact q
  | brk => exact q
  | cont => exact q
theorem pss_one (h1 : PS X st t) : PSs X [st] t := by
  intro pins s σ H D I h
  refine wpAny_execs_cons (thn (h1 pins s σ H D I h) fun f s1 q => ?_)
  cases f with
  | next => exact wpAny_execs_nil q
  | ret v => exact q
  | brk => exact q
  | cont => exact q
theorem Inv.quiet {pins : List (Addr × Obj)} {σ : St} {H : Hp} {s : Shared} (I : Inv X pins σ H s) : interactive X.env = false := by simp [interactive, I.ok.kind]
def tDrop (te : TE) : TS := fun D σ H => te σ H fun _ H1 => D.nx σ H1
theorem ps_expr (he : PE X e te) (hs : swapsWith e none pos.line X.env = pure false := by rfl) : PS X (.Expr e pos) (tDrop te) := by
  intro pins s σ H D I h
  exact wpAny_Expr_any (thn (he pins s σ H _ I h) fun v s1 ⟨x, H1, I1, r1, q1⟩ => ⟨σ, H1, I1, q1⟩) I.quiet hs
def tRet (te : TE) : TS := fun D σ H => te σ H D.rt
theorem ps_ret (he : PE X e te) : PS X (.Return (some e) pos) (tRet te) := by
  intro pins s σ H D I h
  exact wpAny_Return_some (thn (he pins s σ H _ I h) fun v s1 ⟨x, H1, I1, r1, q1⟩ => ⟨x, σ, H1, I1, r1, q1⟩)
def tIfS (c : TT) (t u : TS) : TS := fun D σ H => c σ H fun b H1 => if b = true then t D σ H1 else u D σ H1
theorem ps_if {c : Expr} {a b : List Stmt} {tc : TT} (hc : PT X c tc) (ha : PSs X a t) (hb : PSs X b u) : PS X (.If c a b pos) (tIfS tc t u) := by
  intro pins s σ H D I h
  refine wpAny_If (thn (hc pins s σ H _ I h) fun d s1 ⟨H1, I1, q1⟩ => ?_)
  cases d with
  | true => exact ha pins s1 σ H1 D I1 q1
  | false => exact hb pins s1 σ H1 D I1 q1
end
abbrev TG := V → St → Hp → (St → Hp → Prop) → Prop
abbrev TGs := List V → St → Hp → (St → Hp → Prop) → Prop
def PG (X : Cx) (target : Expr) (t : TG) : Prop :=
  ∀ (pins : List (Addr × Obj)) (s : Shared) (σ : St) (H : Hp) (v : V) (u : Value) (Q : St → Hp → Prop), Inv X pins σ H s → RelV v u → t v σ H Q →
    wpAny (model X.prog X.w) X.A (assign target X.env u) (fun _ s' => ∃ σ' H', Inv X pins σ' H' s' ∧ Q σ' H') X.xe s
def PGs (X : Cx) (ts : List Expr) (t : TGs) : Prop :=
  ∀ (pins : List (Addr × Obj)) (s : Shared) (σ : St) (H : Hp) (vs : List V) (us : List Value) (Q : St → Hp → Prop), Inv X pins σ H s → Vals vs us → t vs σ H Q →
    wpAny (model X.prog X.w) X.A (assignInOrder ((assignEach ts X.env).map (·.2)) us) (fun _ s' => ∃ σ' H', Inv X pins σ' H' s' ∧ Q σ' H') X.xe s
abbrev TSet := V → V → V → Hp → (Hp → Prop) → Prop
def PSet (X : Cx) (t : TSet) : Prop :=
  ∀ (pins : List (Addr × Obj)) (s : Shared) (σ : St) (H : Hp) (o i v : V) (ov iv u : Value) (Q : Hp → Prop), Inv X pins σ H s → RelV o ov → RelV i iv → RelV v u → t o i v H Q →
    wpAny (model X.prog X.w) X.A (setItem ov iv u) (fun _ s' => ∃ H', Inv X pins σ H' s' ∧ Q H') X.xe s
abbrev TIp := V → V → Hp → VK → Prop
def PIp (X : Cx) (op : Operator) (t : TIp) : Prop :=
  ∀ (pins : List (Addr × Obj)) (s : Shared) (σ : St) (H : Hp) (x y : V) (v u : Value) (Q : VK), Inv X pins σ H s → RelV x v → RelV y u → t x y H Q →
    wpAny (model X.prog X.w) X.A (inplaceOp op v u) (EP X pins σ Q) X.xe s
section
variable {X : Cx} {pos : Pos}
def gName (i : Nat) : TG := fun v σ H Q => Q (σ.set i (some v)) H
theorem pg_name {i : Nat} {x : Str} (hN : X.N.Nodup) (hi : X.N[i]? = some x) (hx : Loc X.env.scope x) (hf : X.fn x = true ∨ X.env.scope.names.lookup x = some .local := by first | exact .inl rfl | exact .inr rfl | assumption) : PG X (.Name x pos) (gName i) := by
  intro pins s σ H v u Q I r h
  exact wpAny_assign_Name (store_ok I hN hi hx r (fun s' I' => ⟨_, H, I', h⟩) hf)
def gNil : TGs := fun vs σ H Q => vs = [] ∧ Q σ H
def gCons (t : TG) (u : TGs) : TGs := fun vs σ H Q => ∃ v r, vs = v :: r ∧ t v σ H fun σ' H' => u r σ' H' Q
theorem pgs_nil : PGs X [] gNil := by
  intro pins s σ H vs us Q I r h
  obtain ⟨e, h⟩ := h
  subst e
  cases r
  exact assignInOrder_nil ⟨σ, H, I, h⟩
theorem pgs_cons {e : Expr} {es : List Expr} {t : TG} {u : TGs} (h1 : PG X e t) (h2 : PGs X es u)
    (hs : (assignEach (e :: es) X.env).map (·.2) = assign e X.env :: (assignEach es X.env).map (·.2) := by rfl) : PGs X (e :: es) (gCons t u) := by
  intro pins s σ H vs us Q I r h
  obtain ⟨v, vr, e1, h⟩ := h
  subst e1
  cases r with
  | cons r rr =>
    rw [hs]
    refine assignInOrder_cons (thn (h1 pins s σ H _ _ _ I r h) fun _ s1 ⟨σ1, H1, I1, q1⟩ => ?_)
    exact h2 pins s1 σ1 H1 _ _ Q I1 rr q1
def gTup (K : PySem.W.Frag) (n : Nat) (t : TGs) : TG := fun v σ H Q => ∃ a xs, v = .ref a ∧ SqT K H a xs ∧ xs.length = n ∧ t xs σ H Q
theorem pg_tup {es : List Expr} {k : Nat} {t : TGs} {n : Nat} (hc : X.calm = true) (h : PGs X es t)
    (hn : (assignEach es X.env).length = n := by rfl) (hst : (assignEach es X.env).findIdx? (·.1) = none := by rfl) : PG X (.Tuple es k pos) (gTup X.K n t) := by
  intro pins s σ H v u Q I r hw
  obtain ⟨a, xs, e1, hq, hl, hw⟩ := hw
  subst e1
  cases r
  obtain ⟨its, rv, ht, hz⟩ := I.tuple hq
  refine assign_Tuple_tuple (I.ok.hd hc) ht (by simp [hn, ← hl, rv.length]) hst fun h' hx => ?_
  have I1 : Inv X pins σ H { s with heap := h' } := I.kept (t' := s.toks) fun b o e => hx b o (Nat.ne_of_lt (Heap.lt_size e)) e
  exact h pins _ σ H xs _ Q I1 (by simpa using rv) hw
def gSub (to ti : TE) (t : TSet) : TG := fun v σ H Q => to σ H fun o H1 => ti σ H1 fun i H2 => t o i v H2 fun H3 => Q σ H3
theorem pg_sub {o i : Expr} {to ti : TE} {t : TSet} (ho : PE X o to) (hi : PE X i ti) (hs : PSet X t)
    (ha : ∀ v, assign (.Subscript o i pos) X.env v = (do
      let ov ← holding [v] (eval o X.env)
      let iv ← holding [v, ov] (eval i X.env)
      standAt pos
      holding [v, ov, iv] (setItem ov iv v)
      release [v, ov, iv] []) := by intro _; rfl) : PG X (.Subscript o i pos) (gSub to ti t) := by
  intro pins s σ H v u Q I r h
  rw [ha]
  refine wpAny_bind (wpAny_holding (thn (ho pins s σ H _ I h) fun ov s1 ⟨x, H1, I1, r1, q1⟩ => ?_))
  refine wpAny_bind (wpAny_holding (thn (hi pins s1 σ H1 _ I1 q1) fun iv s2 ⟨y, H2, I2, r2, q2⟩ => ?_))
  refine wpAny_bind (wpAny_standAt (wpAny_bind (wpAny_holding (thn (hs pins s2 σ H2 x y v ov iv u _ I2 r1 r2 r q2) fun _ s3 ⟨H3, I3, q3⟩ => ?_))))
  exact wpAny_release ⟨σ, H3, I3, q3⟩
def tAsg (te : TE) (g : TG) : TS := fun D σ H => te σ H fun x H1 => g x σ H1 D.nx
theorem ps_asg {tg e : Expr} {te : TE} {g : TG} (he : PE X e te) (hg : PG X tg g) (hs : swapsWithSole [tg] e pos.line X.env = pure false := by rfl) (hw : swappedStores [tg] e X.env = pure none := by rfl)
    (h1 : (assignEach [tg] X.env).map (·.2) = [assign tg X.env] := by rfl) : PS X (.Assign [tg] e pos) (tAsg te g) := by
  intro pins s σ H D I h
  refine wpAny_Assign_stores (thn (he pins s σ H _ I h) fun v s1 ⟨x, H1, I1, r1, q1⟩ => ?_) hs hw
  rw [h1]
  exact thn (hg pins s1 σ H1 x v _ I1 r1 q1) fun _ s2 q => q
theorem ps_set {i : Nat} {x : Str} {e : Expr} {te : TE} {pos' : Pos} (hN : X.N.Nodup) (hi : X.N[i]? = some x) (hx : Loc X.env.scope x) (he : PE X e te) (hs : swapsWith e (some (.Name x pos')) pos.line X.env = pure false := by rfl) (hf : X.fn x = true ∨ X.env.scope.names.lookup x = some .local := by first | exact .inl rfl | exact .inr rfl | assumption) :
    PS X (.Assign [.Name x pos'] e pos) (tAsg te (gName i)) := by
  intro pins s σ H D I h
  refine wpAny_Assign_Name (thn (he pins s σ H _ I h) fun v s1 ⟨y, H1, I1, r1, q1⟩ => ?_) hs
  exact store_ok I1 hN hi hx r1 (fun s2 I2 => ⟨_, H1, I2, q1⟩) hf
def tPar (i j : Nat) (ta : TA) : TS := fun D σ H => ta σ H fun vs H1 => ∃ v w, vs = [v, w] ∧ D.nx ((σ.set i (some v)).set j (some w)) H1
theorem ps_par {i j : Nat} {x y : Str} {a b : Expr} {ta : TA} {px py pt : Pos} {kt k2 pt2} (hc : X.calm = true) (hN : X.N.Nodup) (hi : X.N[i]? = some x) (hj : X.N[j]? = some y) (hij : i ≠ j)
    (hx : X.env.scope.names.lookup x = some .local) (hy : X.env.scope.names.lookup y = some .local) (ha : PA X [a, b] ta)
    (hw : swappedStores [.Tuple [.Name x px, .Name y py] kt pt] (.Tuple [a, b] k2 pt2) X.env = pure (some [x, y]))
    (hs : swapsWithSole [.Tuple [.Name x px, .Name y py] kt pt] (.Tuple [a, b] k2 pt2) pos.line X.env = pure false := by rfl) :
    PS X (.Assign [.Tuple [.Name x px, .Name y py] kt pt] (.Tuple [a, b] k2 pt2) pos) (tPar i j ta) := by
  intro pins s σ H D I h
  rw [exec_Assign_arm]
  refine wpAny_bind (wpAny_standAt ?_)
  rw [hs]
  refine wpAny_bind (wpAny_pure ?_)
  rw [if_neg (by decide)]
  refine wpAny_bind (Tuple_ (thn (ha _ pins s σ H _ I h) fun us s1 ⟨vs, H1, I1, r1, q1⟩ => ?_))
  obtain ⟨v, w, e1, q1⟩ := q1
  subst e1
  obtain ⟨u1, u2, rfl, rv, rw'⟩ : ∃ u1 u2, us = [u1, u2] ∧ RelV v u1 ∧ RelV w u2 := by
    cases r1 with
    | cons p q =>
      cases q with
      | cons p' q' =>
        cases q'
        exact ⟨_, _, rfl, p, p'⟩
  refine wpAny_newObj_type ?_ (by show 2 ≤ sizeLine; decide)
  have I2 : Inv X pins σ H1 { s1 with heap := s1.heap.push { cls := .type "tuple", data := .seq [u1, u2].toArray } } := I1.kept (t' := s1.toks) fun b o e => Heap.get?_push_of_some _ e
  rw [hw]
  refine wpAny_bind (wpAny_pure ?_)
  show wpAny (model X.prog X.w) X.A (do rule "assign.swapped-stores"; let items ← unpackItems (.ref s1.heap.objs.size) 2 none; assignInOrder [fun v => bindName X.env y v, fun v => bindName X.env x v] items.reverse; pure Flow.next) _ _ _
  refine wpAny_bind (wpAny_rule (wpAny_bind (unpackItems_tuple (items := #[u1, u2]) (I.ok.hd hc) (IsTup.new s1.heap _) fun h' hx' => ?_)))
  have I3 := I2.kept (h' := h') (t' := s1.toks) fun b o e => hx' b o (Nat.ne_of_lt (Heap.lt_size e)) e
  show wpAny _ _ (assignInOrder [fun v => bindName X.env y v, fun v => bindName X.env x v] [u2, u1] >>= fun _ => pure Flow.next) _ _ _
  refine wpAny_bind (assignInOrder_cons (wpAny_bindName (store_ok I3 hN hj (.inl hy) rw' (fun s2 I4 => ?_) (.inr hy))))
  refine assignInOrder_cons (wpAny_bindName (store_ok I4 hN hi (.inl hx) rv (fun s3 I5 => assignInOrder_nil (wpAny_pure ?_)) (.inr hx)))
  rw [List.set_comm _ _ (Ne.symm hij)] at I5
  exact ⟨_, H1, I5, q1⟩
def tAug (i : Nat) (te : TE) (ti : TIp) : TS := fun D σ H => ∃ x, σ[i]? = some (some x) ∧ te σ H fun y H1 => ti x y H1 fun z H2 => D.nx (σ.set i (some z)) H2
theorem ps_aug {i : Nat} {x : Str} {e : Expr} {te : TE} {op : Operator} {ti : TIp} {pos' : Pos} (hN : X.N.Nodup) (hi : X.N[i]? = some x) (hx : Loc X.env.scope x) (he : PE X e te) (ho : PIp X op ti) (hf : X.fn x = true ∨ X.env.scope.names.lookup x = some .local := by first | exact .inl rfl | exact .inr rfl | assumption) :
    PS X (.AugAssign (.Name x pos') op e pos) (tAug i te ti) := by
  intro pins s σ H D I h
  obtain ⟨v, e1, h⟩ := h
  obtain ⟨m, hn, hl⟩ := I.loc
  have vis : Vis X.env.scope x := by rcases hx with k | k; exact .inl k; exact .inr (.inl k)
  obtain ⟨u, r, l⟩ := hl i x v hi e1 vis
  refine wpAny_AugAssign_Name ?_
  have go : wpAny (model X.prog X.w) X.A (eval e X.env) (fun w s₂ => wpAny (model X.prog X.w) X.A (inplaceOp op u w) (fun r s₃ => wpAny (model X.prog X.w) X.A (storeName X.env x r) (fun _ => SP X pins D .next) X.xe s₃) X.xe s₂) X.xe s := by
    refine thn (he pins s σ H _ I h) fun w s1 ⟨y, H1, I1, r1, q1⟩ => ?_
    refine thn (ho pins s1 σ H1 v y u w _ I1 r r1 q1) fun z s2 ⟨zv, H2, I2, r2, q2⟩ => ?_
    exact store_ok I2 hN hi hx r2 (fun s3 I3 => ⟨_, H2, I3, q2⟩) hf
  rcases l with ⟨hk, hm⟩ | ⟨hk, c, hc, hcell⟩
  · exact wpAny_loadName_local I.ok.kind hk hn hm go
  · rcases hk with hk | hk
    · exact wpAny_loadName_cell I.ok.kind hk hc hcell go
    · rcases hx with k | k
      · have : X.env.scope.names.lookup x = some .free := hk
        rw [k] at this; cases this
      · have : X.env.scope.names.lookup x = some .free := hk
        rw [k] at this; cases this
def ipI (f : Int → Int → Int) : TIp := fun x y H Q => ∃ i j, x = .int i ∧ y = .int j ∧ Q (.int (f i j)) H
theorem ip_add : PIp X .Add (ipI fun i j => i + j) := by
  intro pins s σ H x y v u Q I r1 r2 h
  obtain ⟨i, j, e1, e2, q⟩ := h
  subst e1; subst e2
  obtain ⟨t, rfl⟩ := r1
  obtain ⟨t', rfl⟩ := r2
  exact iadd_int ⟨.int _, H, I.tok _, ⟨_, rfl⟩, q⟩
end
section
variable {X : Cx} {pos : Pos}
def tWhile (c : TT) (tb : TS) : TS := fun D σ H => ∃ W : Nat → St → Hp → Prop, (∃ m, W m σ H) ∧ ∀ m σ H, W m σ H →
  c σ H fun b H1 => if b = true then ∃ N : St → Hp → Prop, (∀ σ' H', N σ' H' → ∃ m', m' < m ∧ W m' σ' H') ∧ tb { D with nx := N, ct := N, bk := D.nx } σ H1 else D.nx σ H1
theorem ps_while {c : Expr} {body : List Stmt} {tc : TT} {tb : TS} (hp : PassesOwn (model X.prog X.w) X.A X.env X.xe) (hc : PT X c tc) (hb : PSs X body tb) : PS X (.While c body [] pos) (tWhile tc tb) := by
  intro pins s σ H D I h
  obtain ⟨W, ⟨m0, w0⟩, turn⟩ := h
  refine wpAny_While (codeAny_whileLoop (fun n s' => ∃ σ' H', Inv X pins σ' H' s' ∧ W n σ' H') ?_ m0 ⟨σ, H, I, w0⟩)
  rintro n s1 ⟨σ1, H1, I1, w1⟩
  refine wpAny_passesOwn hp (thn (hc pins s1 σ1 H1 _ I1 (turn n σ1 H1 w1)) fun b s2 ⟨H2, I2, q2⟩ => ?_)
  cases b with
  | true =>
    obtain ⟨N, hN, q2⟩ := q2
    rw [if_pos rfl]
    refine wpAny_passesOwn hp (thn (hb pins s2 σ1 H2 _ I2 q2) fun f s3 q3 => ?_)
    cases f with
    | next =>
      obtain ⟨σ3, H3, I3, n3⟩ := q3
      obtain ⟨m', hm, w3⟩ := hN σ3 H3 n3
      exact ⟨m', hm, σ3, H3, I3, w3⟩
    | cont =>
      obtain ⟨σ3, H3, I3, n3⟩ := q3
      obtain ⟨m', hm, w3⟩ := hN σ3 H3 n3
      exact ⟨m', hm, σ3, H3, I3, w3⟩
    | brk => exact q3
    | ret v => exact q3
  | false =>
    rw [if_neg Bool.false_ne_true]
    exact wpAny_execs_nil ⟨σ1, H2, I2, q2⟩
end
structure It where
  go : Nat → Hp → Prop
  yld : Nat → Hp → V → Hp → Prop
  stop : Nat → Hp → Prop
def FpOk (X : Cx) (pins : List (Addr × Obj)) (H : Hp) (b : Addr) : Prop :=
  H b = none ∧ b ≠ X.env.locals ∧ b ∉ X.fs ∧ (b ∈ X.ex ∨ X.s₀.heap.objs.size ≤ b) ∧ (∀ x c, X.env.cells.lookup x = some c → c ≠ b) ∧ ∀ p ∈ X.pn ++ pins, p.1 ≠ b
theorem Inv.fpOk {X : Cx} {pins : List (Addr × Obj)} {σ : St} {H H' : Hp} {s : Shared} {b : Addr} (I : Inv X pins σ H s) (hb : s.heap.objs.size ≤ b) (hn : H' b = none) : FpOk X pins H' b := by
  refine ⟨hn, Nat.ne_of_gt (Nat.lt_of_lt_of_le I.lt hb), I.nofs hb, .inr (Nat.le_trans I.sz hb), fun x c e z => ?_, fun p hp z => ?_⟩
  · obtain ⟨v, q⟩ := I.cell x c e
    exact absurd (Nat.lt_of_lt_of_le q.lt (by rw [z]; exact hb)) (Nat.lt_irrefl _)
  · exact absurd (Nat.lt_of_lt_of_le (Heap.lt_size (I.pin p hp).1) (by rw [z]; exact hb)) (Nat.lt_irrefl _)
structure Turn (P : Program) (w : World) (K : PySem.W.Frag) (tg : Expr) (J : It) (fp : List Addr) (it : Addr) (tn : Nat → Heap → Prop) : Prop where
  mem : it ∈ fp
  obj : ∀ i h, tn i h → ∀ b ∈ fp, ∃ o, h.get? b = some o ∧ ∀ v, o.data ≠ .cell v
  keep : ∀ i h h', tn i h → (∀ b ∈ fp, ∀ o, h.get? b = some o → h'.get? b = some o) → tn i h'
  item : ∀ (X : Cx), X.prog = P → X.w = w → X.K = K → X.calm = true → ∀ (i : Nat) (pins : List (Addr × Obj)) (s : Shared) (σ : St) (H : Hp) (E : Value → Shared → Prop), Inv X pins σ H s → (∀ b ∈ fp, FpOk X pins H b) → tn i s.heap → J.go i H →
    wpAny (model P w) X.A (pyNext (.ref it)) (fun r s1 => ∃ u, r = some u ∧
      wpAny (model P w) X.A (letOwnedTupleGo tg (.ref it) u) (fun _ s2 => ∃ x H', Inv X pins σ H' s2 ∧ RelV x u ∧ J.yld i H x H' ∧ tn (i + 1) s2.heap ∧ ∀ b ∈ fp, H' b = none) E s1) E s
  done : ∀ (X : Cx), X.prog = P → X.w = w → X.K = K → X.calm = true → ∀ (i : Nat) (pins : List (Addr × Obj)) (s : Shared) (σ : St) (H : Hp) (E : Value → Shared → Prop), Inv X pins σ H s → (∀ b ∈ fp, FpOk X pins H b) → tn i s.heap → J.stop i H →
    wpAny (model P w) X.A (pyNext (.ref it)) (fun r s1 => r = none ∧ Inv X pins σ H s1) E s
  self : ∀ (A : Around) (i : Nat) (s : Shared) (Q : Value → Shared → Prop) (E : Value → Shared → Prop), tn i s.heap → Q (.ref it) s → wpAny (model P w) A (pyIter (.ref it)) Q E s
abbrev TI := St → Hp → (It → Hp → Prop) → Prop
def PIE (X : Cx) (pins : List (Addr × Obj)) (σ : St) (tg : Expr) (R : It → Hp → Prop) (itv : Value) (s2 : Shared) : Prop :=
  ∃ (it : Addr) (fp : List Addr) (tn : Nat → Heap → Prop) (J : It) (H' : Hp), itv = .ref it ∧ Inv X pins σ H' s2 ∧ Turn X.prog X.w X.K tg J fp it tn ∧ tn 0 s2.heap ∧ (∀ b ∈ fp, FpOk X pins H' b) ∧ R J H'
def PI (X : Cx) (tg iter : Expr) (wi : TI) : Prop :=
  ∀ (pins : List (Addr × Obj)) (s : Shared) (σ : St) (H : Hp) (R : It → Hp → Prop), Inv X pins σ H s → wi σ H R →
    wpAny (model X.prog X.w) X.A (eval iter X.env) (fun v s1 => wpAny (model X.prog X.w) X.A (pyIter v) (PIE X pins σ tg R) X.xe s1) X.xe s
theorem go_of {M : Model} {A : Around} {E : Value → Shared → Prop} {s : Shared} {tg : Expr} {it : Addr} {u : Value} {o : Obj} {n : String} {vs : Array Value} {Q : Unit → Shared → Prop} (ho : s.heap.get? it = some o) (hc : o.cls = .type n) (hd : o.data = .fields vs)
    (hn : ["enumerate", "zip", "dict_itemiterator", "dict_reverseitemiterator", "odict_iterator", "itertools.zip_longest", "itertools.pairwise"].contains n = false) (hQ : Q () s) : wpAny M A (letOwnedTupleGo tg (.ref it) u) Q E s := by
  unfold letOwnedTupleGo
  cases tg <;> first
    | exact wpAny_pure hQ
    | (cases u <;> first
        | exact wpAny_pure hQ
        | (refine wpAny_bind (wpAny_load ho ?_)
           rw [hc, hd]
           show wpAny M A (if (["enumerate", "zip", "dict_itemiterator", "dict_reverseitemiterator", "odict_iterator", "itertools.zip_longest", "itertools.pairwise"].contains n && vs[0]? == some (rawInt _)) = true then _ else _) Q E s
           rw [if_neg (by intro h; rw [hn, Bool.false_and] at h; cases h)]
           exact wpAny_pure hQ))
def Itl (K : PySem.W.Frag) (a : Addr) : It :=
  ⟨fun i H => ∃ xs x, SqL K H a xs ∧ xs[i]? = some x, fun i H x H' => H' = H ∧ ∀ xs, SqL K H a xs → xs[i]? = some x, fun i H => ∃ xs, SqL K H a xs ∧ xs.length ≤ i⟩
def Itt (K : PySem.W.Frag) (a : Addr) : It :=
  ⟨fun i H => ∃ xs x, SqT K H a xs ∧ xs[i]? = some x, fun i H x H' => H' = H ∧ ∀ xs, SqT K H a xs → xs[i]? = some x, fun i H => ∃ xs, SqT K H a xs ∧ xs.length ≤ i⟩
def Itr (lo : Int) (n : Nat) : It := ⟨fun i _ => i < n, fun i H x H' => H' = H ∧ x = .int (lo + i), fun i _ => n ≤ i⟩
theorem turn_list {P : Program} {w : World} {K : PySem.W.Frag} {tg : Expr} (a it : Addr) : Turn P w K tg (Itl K a) [it] it (fun i h => h.IsListIter it a i) where
  mem := by simp
  obj := fun i h st b hb => by
    have e : b = it := by simpa using hb
    subst e
    obtain ⟨o, e, c, d⟩ := st
    exact ⟨o, e, fun v z => by rw [d] at z; cases z⟩
  keep := fun i h h' st k => st.at fun o e => k it (by simp) o e
  item := by
    intro X hP hw hK hc i pins s σ H E I hf st hg
    subst hP hw hK
    obtain ⟨xs, x, hq, hx⟩ := hg
    obtain ⟨its, rv, p, hz⟩ := I.list hq
    obtain ⟨u, hu, ru⟩ := rv.get hx
    obtain ⟨f0, f1, f2, f3, f4, f5⟩ := hf it (by simp)
    refine wpAny_pyNext_list_item st p.isList (x := u) (by simpa using hu) fun h' st' sb => ?_
    have I1 : Inv X pins σ H { s with heap := h' } := I.turned (t' := s.toks) (fun b o hb e => (sb.2 b hb).trans e) f0 f1 f3 f4 f5
    obtain ⟨o, e, c, d⟩ := id st'
    exact ⟨u, rfl, go_of (s := { s with heap := h' }) e c d (by decide) ⟨x, H, I1, ru, ⟨rfl, fun ys hy => by rw [I.list_inj hy hq]; exact hx⟩, st', fun b hb => (hf b hb).1⟩⟩
  done := by
    intro X hP hw hK hc i pins s σ H E I hf st hg
    subst hP hw hK
    obtain ⟨xs, hq, hx⟩ := hg
    obtain ⟨its, rv, p, hz⟩ := I.list hq
    obtain ⟨f0, f1, f2, f3, f4, f5⟩ := hf it (by simp)
    have hl := rv.length
    exact wpAny_pyNext_list_end (I.ok.hd hc) st p.isList (by simp; omega) fun h' eb => ⟨rfl, I.turned (t' := s.toks) (fun b o hb e => eb b o hb e) f0 f1 f3 f4 f5⟩
  self := fun _ _ _ _ _ st h => wpAny_pyIter_listiter st h
theorem turn_tuple {P : Program} {w : World} {K : PySem.W.Frag} {tg : Expr} (a it : Addr) : Turn P w K tg (Itt K a) [it] it (fun i h => h.IsTupleIter it a i) where
  mem := by simp
  obj := fun i h st b hb => by
    have e : b = it := by simpa using hb
    subst e
    obtain ⟨o, e, c, d⟩ := st
    exact ⟨o, e, fun v z => by rw [d] at z; cases z⟩
  keep := fun i h h' st k => st.at fun o e => k it (by simp) o e
  item := by
    intro X hP hw hK hc i pins s σ H E I hf st hg
    subst hP hw hK
    obtain ⟨xs, x, hq, hx⟩ := hg
    obtain ⟨its, rv, p, hz⟩ := I.tuple hq
    obtain ⟨u, hu, ru⟩ := rv.get hx
    obtain ⟨f0, f1, f2, f3, f4, f5⟩ := hf it (by simp)
    refine wpAny_pyNext_tuple_item st (show s.heap.IsTuple a its.toArray from p) (x := u) (by simpa using hu) fun h' st' sb => ?_
    have I1 : Inv X pins σ H { s with heap := h' } := I.turned (t' := s.toks) (fun b o hb e => (sb.2 b hb).trans e) f0 f1 f3 f4 f5
    obtain ⟨o, e, c, d⟩ := id st'
    exact ⟨u, rfl, go_of (s := { s with heap := h' }) e c d (by decide) ⟨x, H, I1, ru, ⟨rfl, fun ys hy => by rw [I.tuple_inj hy hq]; exact hx⟩, st', fun b hb => (hf b hb).1⟩⟩
  done := by
    intro X hP hw hK hc i pins s σ H E I hf st hg
    subst hP hw hK
    obtain ⟨xs, hq, hx⟩ := hg
    obtain ⟨its, rv, p, hz⟩ := I.tuple hq
    obtain ⟨f0, f1, f2, f3, f4, f5⟩ := hf it (by simp)
    have hl := rv.length
    exact wpAny_pyNext_tuple_end (I.ok.hd hc) st (show s.heap.IsTuple a its.toArray from p) (by simp; omega) fun h' eb => ⟨rfl, I.turned (t' := s.toks) (fun b o hb e => eb b o hb e) f0 f1 f3 f4 f5⟩
  self := fun _ _ _ _ _ st h => wpAny_pyIter_tupleiter st h
theorem turn_range {P : Program} {w : World} {K : PySem.W.Frag} {tg : Expr} (it : Addr) (lo : Int) (n : Nat) : Turn P w K tg (Itr lo n) [it] it (fun i h => IsRangeIter h it (lo + (i : Nat) * 1) ((n : Int) - (i : Nat)) 1) where
  mem := by simp
  obj := fun i h st b hb => by
    have e : b = it := by simpa using hb
    subst e
    exact ⟨_, st, fun v z => by
      have z' : Data.fields _ = Data.cell v := z
      cases z'⟩
  keep := fun i h h' st k => k it (by simp) _ st
  item := by
    intro X hP hw hK hc i pins s σ H E I hf st hg
    subst hP hw hK
    obtain ⟨f0, f1, f2, f3, f4, f5⟩ := hf it (by simp)
    have W := Walks.range (prog := X.prog) (w := X.w) (I.ok.hd hc) it lo 1 n
    refine W.item i s _ _ hg st fun v h' tk hv st' kk => ?_
    obtain ⟨t, rfl⟩ := hv
    have I1 : Inv X pins σ H { s with heap := h', toks := tk } := I.turned (fun b o hb e => kk b o (by simpa using hb) e) f0 f1 f3 f4 f5
    refine ⟨_, rfl, go_of (s := { s with heap := h', toks := tk }) (n := "range_iterator") st' rfl rfl (by decide) ⟨.int (lo + i), H, I1, ⟨t, ?_⟩, ⟨rfl, rfl⟩, st', fun b hb => (hf b hb).1⟩⟩
    rw [Int.mul_one]
  done := by
    intro X hP hw hK hc i pins s σ H E I hf st hg
    subst hP hw hK
    obtain ⟨f0, f1, f2, f3, f4, f5⟩ := hf it (by simp)
    exact wpAny_pyNext_range_end (I.ok.hd hc) st (by have : n ≤ i := hg; omega) fun h' eb => ⟨rfl, I.turned (t' := s.toks) (fun b o hb e => eb b o hb e) f0 f1 f3 f4 f5⟩
  self := fun _ _ _ _ _ st h => wpAny_pyIter_rangeiter st h
end L2
namespace L2
open PySem PySem.Spec PyProof.Rows
section
variable {X : Cx} {tg : Expr}
def iList (K : PySem.W.Frag) (tl : TE) : TI := fun σ H R => tl σ H fun x H1 => ∃ a, x = .ref a ∧ (∃ xs, SqL K H1 a xs) ∧ R (Itl K a) H1
def iTup (K : PySem.W.Frag) (tl : TE) : TI := fun σ H R => tl σ H fun x H1 => ∃ a, x = .ref a ∧ (∃ xs, SqT K H1 a xs) ∧ R (Itt K a) H1
theorem pi_list {l : Expr} {tl : TE} (hl : PE X l tl) : PI X tg l (iList X.K tl) := by
  intro pins s σ H R I h
  refine thn (hl pins s σ H _ I h) fun v s1 ⟨x, H1, I1, r1, q1⟩ => ?_
  obtain ⟨a, e, ⟨xs, hq⟩, q⟩ := q1
  subst e
  cases r1
  obtain ⟨its, rv, p, hz⟩ := I1.list hq
  refine wpAny_pyIter_list p.isList ?_
  refine ⟨s1.heap.objs.size, [s1.heap.objs.size], _, _, H1, rfl, I1.kept (t' := s1.toks) fun b o e => Heap.get?_push_of_some _ e, turn_list a _, ⟨_, Heap.get?_push_size _ rfl, rfl, rfl⟩, fun b hb => ?_, q⟩
  have e : b = s1.heap.objs.size := by simpa using hb
  subst e
  exact I1.fpOk (Nat.le_refl _) (I1.hok.fresh (Nat.le_refl _))
theorem pi_tup {l : Expr} {tl : TE} (hl : PE X l tl) : PI X tg l (iTup X.K tl) := by
  intro pins s σ H R I h
  refine thn (hl pins s σ H _ I h) fun v s1 ⟨x, H1, I1, r1, q1⟩ => ?_
  obtain ⟨a, e, ⟨xs, hq⟩, q⟩ := q1
  subst e
  cases r1
  obtain ⟨its, rv, p, hz⟩ := I1.tuple hq
  refine wpAny_pyIter_tuple (show s1.heap.IsTuple a its.toArray from p) ?_
  refine ⟨s1.heap.objs.size, [s1.heap.objs.size], _, _, H1, rfl, I1.kept (t' := s1.toks) fun b o e => Heap.get?_push_of_some _ e, turn_tuple a _, ⟨_, Heap.get?_push_size _ rfl, rfl, rfl⟩, fun b hb => ?_, q⟩
  have e : b = s1.heap.objs.size := by simpa using hb
  subst e
  exact I1.fpOk (Nat.le_refl _) (I1.hok.fresh (Nat.le_refl _))
theorem range_it {pins : List (Addr × Obj)} {σ : St} {H : Hp} {s : Shared} {R : It → Hp → Prop} {E : Value → Shared → Prop} {lo hi : Int} {t u v : Tok} {tk : Nat} (I : Inv X pins σ H s) (h1 : -(2 ^ 62) ≤ lo) (h2 : lo < 2 ^ 62) (h3 : -(2 ^ 62) ≤ hi) (h4 : hi < 2 ^ 62)
    (q : R (Itr lo (hi - lo).toNat) H) : wpAny (model X.prog X.w) X.A (pyIter (.ref s.heap.objs.size)) (PIE X pins σ tg R) E { s with heap := s.heap.push { cls := .type "range", data := .fields #[.int lo t, .int hi u, .int 1 v] }, toks := tk } := by
  refine wpAny_pyIter_range (IsRange.new ..) (small_one h1 h2 h3 h4) ?_
  have I1 : Inv X pins σ H { s with heap := s.heap.push { cls := .type "range", data := .fields #[.int lo t, .int hi u, .int 1 v] }, toks := tk } := I.kept fun b o e => Heap.get?_push_of_some _ e
  refine ⟨(s.heap.push { cls := .type "range", data := .fields #[.int lo t, .int hi u, .int 1 v] }).objs.size, [(s.heap.push { cls := .type "range", data := .fields #[.int lo t, .int hi u, .int 1 v] }).objs.size], _, _, H, rfl,
    I1.kept (t' := tk) fun b o e => Heap.get?_push_of_some _ e, turn_range _ lo (hi - lo).toNat, ?_, fun b hb => ?_, q⟩
  · have e1 : lo + ((0 : Nat) : Int) * 1 = lo := by simp
    have e2 : (((hi - lo).toNat : Nat) : Int) - ((0 : Nat) : Int) = Builtin.Range.rangeSize lo hi 1 := by rw [rangeSize_one]; split <;> omega
    show IsRangeIter _ _ (lo + ((0 : Nat) : Int) * 1) ((((hi - lo).toNat : Nat) : Int) - ((0 : Nat) : Int)) 1
    rw [e1, e2]
    exact Heap.get?_push_size _ rfl
  · have e : b = (s.heap.push { cls := .type "range", data := .fields #[.int lo t, .int hi u, .int 1 v] }).objs.size := by simpa using hb
    subst e
    exact I1.fpOk (Nat.le_refl _) (I1.hok.fresh (Nat.le_refl _))
def iRng1 (ta : TA) : TI := fun σ H R => ta σ H fun vs H1 => ∃ j : Int, vs = [.int j] ∧ -(2 ^ 62) ≤ j ∧ j < 2 ^ 62 ∧ R (Itr 0 j.toNat) H1
def iRng2 (ta : TA) : TI := fun σ H R => ta σ H fun vs H1 => ∃ i j : Int, vs = [.int i, .int j] ∧ (-(2 ^ 62) ≤ i ∧ i < 2 ^ 62 ∧ -(2 ^ 62) ≤ j ∧ j < 2 ^ 62) ∧ R (Itr i (j - i).toNat) H1
theorem pi_range1 {a : Expr} {ta : TA} {p pos : Pos} (hg : Gl X "range") (hm : X.mg "range" = none) (ha : PA X [a] ta) (hs : starEach [a] X.env = [(false, eval a X.env)] := by rfl) : PI X tg (.Call (.Name "range" p) [a] [] pos) (iRng1 ta) := by
  intro pins s σ H R I h
  refine Call_ (ld_blt I hg hm boot_range (PyProof.Rows.callWith_type1 (thn (ha pos pins s σ H _ I h) fun us s1 ⟨vs, H1, I1, r1, q1⟩ => ?_) hs rfl))
  obtain ⟨j, e, q1, q2, q⟩ := q1
  subst e
  cases r1 with
  | cons r rr =>
    cases rr
    obtain ⟨t, rfl⟩ := r
    exact call_range_1 (range_it I1 (by omega) (by omega) q1 q2 (by simpa using q))
theorem pi_range2 {a b : Expr} {ta : TA} {p pos : Pos} (hg : Gl X "range") (hm : X.mg "range" = none) (ha : PA X [a, b] ta) (hs : starEach [a, b] X.env = [(false, eval a X.env), (false, eval b X.env)] := by rfl) (hs2 : starEach [b] X.env = [(false, eval b X.env)] := by rfl) :
    PI X tg (.Call (.Name "range" p) [a, b] [] pos) (iRng2 ta) := by
  intro pins s σ H R I h
  refine Call_ (ld_blt I hg hm boot_range (PyProof.Rows.callWith_type1 (thn (ha pos pins s σ H _ I h) fun us s1 ⟨vs, H1, I1, r1, q1⟩ => ?_) (by rw [hs, hs2]) (by rw [hs2]; rfl)))
  obtain ⟨i, j, e, ⟨q1, q2, q3, q4⟩, q⟩ := q1
  subst e
  cases r1 with
  | cons r rr =>
    cases rr with
    | cons r' rr =>
      cases rr
      obtain ⟨t, rfl⟩ := r
      obtain ⟨t', rfl⟩ := r'
      exact call_range_2 (range_it I1 q1 q2 q3 q4 q)
def tFor (wi : TI) (g : TG) (tb : TS) : TS := fun D σ H => wi σ H fun J H1 => ∃ W : Nat → Nat → St → Hp → Prop, (∃ m, W 0 m σ H1) ∧ ∀ i m σ H, W i m σ H →
  (J.stop i H ∧ D.nx σ H) ∨ (J.go i H ∧ ∃ N : St → Hp → Prop, (∀ σ' H', N σ' H' → ∃ m', m' < m ∧ W (i + 1) m' σ' H') ∧ ∀ x H', J.yld i H x H' → g x σ H' fun σ2 H2 => tb { D with nx := N, ct := N, bk := D.nx } σ2 H2)
def pinsAt (fp : List Addr) (h : Heap) : List (Addr × Obj) := fp.filterMap fun b => (h.get? b).map fun o => (b, o)
theorem mem_pinsAt {fp : List Addr} {h : Heap} {b : Addr} {o : Obj} (hb : b ∈ fp) (e : h.get? b = some o) : (b, o) ∈ pinsAt fp h := List.mem_filterMap.mpr ⟨b, hb, by rw [e]; rfl⟩
theorem of_pinsAt {fp : List Addr} {h : Heap} {p : Addr × Obj} (hp : p ∈ pinsAt fp h) : p.1 ∈ fp ∧ h.get? p.1 = some p.2 := by
  obtain ⟨b, hb, e⟩ := List.mem_filterMap.mp hp
  cases q : h.get? b with
  | none => rw [q] at e; cases e
  | some o =>
    rw [q] at e
    have e' : (b, o) = p := Option.some.inj e
    subst e'
    exact ⟨hb, q⟩
theorem Inv.pinned {pins : List (Addr × Obj)} {σ : St} {H : Hp} {s : Shared} {fp : List Addr} (I : Inv X pins σ H s) (hf : ∀ b ∈ fp, FpOk X pins H b) (ho : ∀ b ∈ fp, ∃ o, s.heap.get? b = some o ∧ ∀ v, o.data ≠ .cell v) : Inv X (pins ++ pinsAt fp s.heap) σ H s :=
  I.pins_of fun p hp => (List.mem_append.mp hp).elim (fun z => I.pin p (List.mem_append_right _ z)) fun z => by
    obtain ⟨hb, e⟩ := of_pinsAt z
    obtain ⟨f0, f1, f2, _⟩ := hf p.1 hb
    obtain ⟨o, e', d⟩ := ho p.1 hb
    rw [e] at e'; cases e'
    exact ⟨e, f0, f1, f2, d⟩
theorem Inv.unpinned {pins pl : List (Addr × Obj)} {σ : St} {H : Hp} {s : Shared} (I : Inv X (pins ++ pl) σ H s) : Inv X pins σ H s := I.pins_of fun p hp => I.pin p (List.mem_append_right _ (List.mem_append_left _ hp))
theorem ps_for {iter : Expr} {body : List Stmt} {wi : TI} {g : TG} {tb : TS} {pos : Pos} (hp : PassesOwn (model X.prog X.w) X.A X.env X.xe) (hc : X.calm = true) (hi : PI X tg iter wi) (hg : PG X tg g) (hb : PSs X body tb)
    (hs : ∀ x, foldedSetIterable iter X.env x = pure x := by intro _; rfl) : PS X (.For tg iter body [] pos) (tFor wi g tb) := by
  intro pins s σ H D I h
  refine wpAny_For (thn (hi pins s σ H _ I h) fun v s1 h1 => thn h1 fun itv s2 h2 => ?_) hs
  obtain ⟨it, fp, tn, J, H2, e, I2, T, st2, f2, W, ⟨m0, w0⟩, turn⟩ := h2
  subst e
  have stat : ∀ {H' : Hp}, (∀ b ∈ fp, H' b = none) → ∀ b ∈ fp, FpOk X pins H' b := fun hn b hb => ⟨hn b hb, (f2 b hb).2⟩
  refine codeAny_forLoop_any (fun n s' => ∃ i σ' H', Inv X pins σ' H' s' ∧ tn i s'.heap ∧ (∀ b ∈ fp, H' b = none) ∧ W i n σ' H') ?_ m0 ⟨0, σ, H2, I2, st2, fun b hb => (f2 b hb).1, w0⟩
  rintro n s3 ⟨i, σ3, H3, I3, st3, fr3, w3⟩
  rcases turn i n σ3 H3 w3 with ⟨stop, qn⟩ | ⟨go, N, hN, step⟩
  · refine wpAny_passesOwn hp (thn (T.done X rfl rfl rfl hc i pins s3 σ3 H3 X.xe I3 (stat fr3) st3 stop) fun r s4 ⟨hr, I4⟩ => ?_)
    subst hr
    exact wpAny_execs_nil ⟨σ3, H3, I4, qn⟩
  · refine wpAny_passesOwn hp (thn (T.item X rfl rfl rfl hc i pins s3 σ3 H3 X.xe I3 (stat fr3) st3 go) fun r s4 ⟨u, hr, h4⟩ => ?_)
    subst hr
    refine wpAny_passesOwn hp (thn h4 fun _ s5 ⟨x, H5, I5, r5, y5, st5, fr5⟩ => ?_)
    have I5' := I5.pinned (stat fr5) (T.obj _ _ st5)
    refine wpAny_passesOwn hp (thn (hg _ s5 σ3 H5 x u _ I5' r5 (step x H5 y5)) fun _ s6 ⟨σ6, H6, I6, q6⟩ => ?_)
    refine wpAny_passesOwn hp (thn (hb _ s6 σ6 H6 _ I6 q6) fun f s7 q7 => ?_)
    have again : ∀ {σ7 : St} {H7 : Hp}, Inv X (pins ++ pinsAt fp s5.heap) σ7 H7 s7 → N σ7 H7 → ∃ m, m < n ∧ ∃ i σ' H', Inv X pins σ' H' s7 ∧ tn i s7.heap ∧ (∀ b ∈ fp, H' b = none) ∧ W i m σ' H' := fun {σ7 H7} I7 n7 => by
      obtain ⟨m', hm, w7⟩ := hN σ7 H7 n7
      refine ⟨m', hm, i + 1, σ7, H7, I7.unpinned, T.keep _ _ _ st5 fun b hb o e => (I7.pin (b, o) (List.mem_append_right _ (List.mem_append_right _ (mem_pinsAt hb e)))).1, fun b hb => ?_, w7⟩
      obtain ⟨o, e, d⟩ := T.obj _ _ st5 b hb
      exact (I7.pin (b, o) (List.mem_append_right _ (List.mem_append_right _ (mem_pinsAt hb e)))).2.1
    cases f with
    | next => obtain ⟨σ7, H7, I7, n7⟩ := q7; exact again I7 n7
    | cont => obtain ⟨σ7, H7, I7, n7⟩ := q7; exact again I7 n7
    | brk => obtain ⟨σ7, H7, I7, q7⟩ := q7; exact ⟨σ7, H7, I7.unpinned, q7⟩
    | ret v => obtain ⟨x7, σ7, H7, I7, r7, q7⟩ := q7; exact ⟨x7, σ7, H7, I7.unpinned, r7, q7⟩
end
theorem for_tup {K : PySem.W.Frag} {a : Addr} {xs : List V} {g : TG} {tb : TS} {D : Ends} {σ : St} {H : Hp} (Pv : Nat → St → Hp → Prop) (h0 : Pv 0 σ H) (hl : ∀ i σ H, i ≤ xs.length → Pv i σ H → SqT K H a xs)
    (hs : ∀ i x σ H, xs[i]? = some x → Pv i σ H → g x σ H fun σ2 H2 => tb { D with nx := Pv (i + 1), ct := Pv (i + 1), bk := D.nx } σ2 H2) (hd : ∀ σ H, Pv xs.length σ H → D.nx σ H) :
    ∃ W : Nat → Nat → St → Hp → Prop, (∃ m, W 0 m σ H) ∧ ∀ i m σ H, W i m σ H →
      ((Itt K a).stop i H ∧ D.nx σ H) ∨ ((Itt K a).go i H ∧ ∃ N : St → Hp → Prop, (∀ σ' H', N σ' H' → ∃ m', m' < m ∧ W (i + 1) m' σ' H') ∧ ∀ x H', (Itt K a).yld i H x H' → g x σ H' fun σ2 H2 => tb { D with nx := N, ct := N, bk := D.nx } σ2 H2) := by
  refine ⟨fun i m σ H => m = xs.length - i ∧ i ≤ xs.length ∧ Pv i σ H, ⟨xs.length, by simp, Nat.zero_le _, h0⟩, ?_⟩
  rintro i m σ H ⟨rfl, hi, p⟩
  have q := hl i σ H hi p
  by_cases hlt : i < xs.length
  · refine .inr ⟨⟨xs, xs[i], q, by simp [hlt]⟩, Pv (i + 1), fun σ' H' p' => ⟨xs.length - (i + 1), by omega, rfl, hlt, p'⟩, fun x H' y => ?_⟩
    obtain ⟨e, y⟩ := y
    subst e
    exact hs i x σ _ (y xs q) p
  · have e : i = xs.length := by omega
    subst e
    exact .inl ⟨⟨xs, q, Nat.le_refl _⟩, hd σ H p⟩
theorem for_range {lo : Int} {n : Nat} {g : TG} {tb : TS} {D : Ends} {σ : St} {H : Hp} (Pv : Nat → St → Hp → Prop) (h0 : Pv 0 σ H)
    (hs : ∀ i σ H, i < n → Pv i σ H → g (.int (lo + i)) σ H fun σ2 H2 => tb { D with nx := Pv (i + 1), ct := Pv (i + 1), bk := D.nx } σ2 H2) (hd : ∀ σ H, Pv n σ H → D.nx σ H) :
    ∃ W : Nat → Nat → St → Hp → Prop, (∃ m, W 0 m σ H) ∧ ∀ i m σ H, W i m σ H →
      ((Itr lo n).stop i H ∧ D.nx σ H) ∨ ((Itr lo n).go i H ∧ ∃ N : St → Hp → Prop, (∀ σ' H', N σ' H' → ∃ m', m' < m ∧ W (i + 1) m' σ' H') ∧ ∀ x H', (Itr lo n).yld i H x H' → g x σ H' fun σ2 H2 => tb { D with nx := N, ct := N, bk := D.nx } σ2 H2) := by
  refine ⟨fun i m σ H => m = n - i ∧ i ≤ n ∧ Pv i σ H, ⟨n, by simp, Nat.zero_le _, h0⟩, ?_⟩
  rintro i m σ H ⟨rfl, hi, p⟩
  by_cases hlt : i < n
  · refine .inr ⟨hlt, Pv (i + 1), fun σ' H' p' => ⟨n - (i + 1), by omega, rfl, hlt, p'⟩, fun x H' y => ?_⟩
    obtain ⟨e, y⟩ := y
    subst e y
    exact hs i σ _ hlt p
  · have e : i = n := by omega
    subst e
    exact .inl ⟨Nat.le_refl _, hd σ H p⟩
theorem while_by {c : TT} {tb : TS} {D : Ends} {σ : St} {H : Hp} (Pv : St → Hp → Prop) (μ : St → Hp → Nat) (h0 : Pv σ H)
    (hs : ∀ σ H, Pv σ H → c σ H fun b H1 => if b = true then tb { D with nx := fun σ' H' => Pv σ' H' ∧ μ σ' H' < μ σ H, ct := fun σ' H' => Pv σ' H' ∧ μ σ' H' < μ σ H, bk := D.nx } σ H1 else D.nx σ H1)
    (mono : ∀ σ H Q Q', (∀ b H1, Q b H1 → Q' b H1) → c σ H Q → c σ H Q') : tWhile c tb D σ H := by
  refine ⟨fun m σ H => m = μ σ H ∧ Pv σ H, ⟨_, rfl, h0⟩, ?_⟩
  rintro m σ H ⟨rfl, p⟩
  refine mono σ H _ _ (fun b H1 q => ?_) (hs σ H p)
  cases b with
  | true => exact ⟨_, fun σ' H' ⟨p', l⟩ => ⟨_, l, rfl, p'⟩, q⟩
  | false => exact q
end L2
namespace L2
open PySem PySem.Spec PyProof.Rows
abbrev R2 := V → V → Hp → VK → Prop
def OpR (X : Cx) (f : Value → Value → Sem Value) (r : R2) : Prop :=
  ∀ (pins : List (Addr × Obj)) (s : Shared) (σ : St) (H : Hp) (x y : V) (v u : Value) (Q : VK), Inv X pins σ H s → RelV x v → RelV y u → r x y H Q →
    wpAny (model X.prog X.w) X.A (f v u) (EP X pins σ Q) X.xe s
def UnR (X : Cx) (f : Value → Sem Value) (r : V → Hp → VK → Prop) : Prop :=
  ∀ (pins : List (Addr × Obj)) (s : Shared) (σ : St) (H : Hp) (x : V) (v : Value) (Q : VK), Inv X pins σ H s → RelV x v → r x H Q →
    wpAny (model X.prog X.w) X.A (f v) (EP X pins σ Q) X.xe s
def CallR (X : Cx) (f : Value) (r : List V → Hp → VK → Prop) : Prop :=
  ∀ (pins : List (Addr × Obj)) (s : Shared) (σ : St) (H : Hp) (xs : List V) (us : List Value) (Q : VK), Inv X pins σ H s → Vals xs us → r xs H Q →
    wpAny (model X.prog X.w) X.A (call f us) (EP X pins σ Q) X.xe s
def TruR (X : Cx) (r : V → Hp → (Bool → Hp → Prop) → Prop) : Prop :=
  ∀ (pins : List (Addr × Obj)) (s : Shared) (σ : St) (H : Hp) (x : V) (v : Value) (Q : Bool → Hp → Prop), Inv X pins σ H s → RelV x v → r x H Q →
    wpAny (model X.prog X.w) X.A (truthy v) (TP X pins σ Q) X.xe s
def tOp (r : R2) (ta tb : TE) : TE := fun σ H Q => ta σ H fun x H1 => tb σ H1 fun y H2 => r x y H2 Q
def tUn (r : V → Hp → VK → Prop) (ta : TE) : TE := fun σ H Q => ta σ H fun x H1 => r x H1 Q
def rI (C : Int → Int → Prop) (g : Int → Int → V) : R2 := fun x y H Q => ∃ i j, x = .int i ∧ y = .int j ∧ C i j ∧ Q (g i j) H
def rI0 (g : Int → Int → V) : R2 := fun x y H Q => ∃ i j, x = .int i ∧ y = .int j ∧ Q (g i j) H
def rU (g : Int → V) : V → Hp → VK → Prop := fun x H Q => ∃ i, x = .int i ∧ Q (g i) H
section
variable {X : Cx} {a b c : Expr} {ta tb tc : TE} {pos : Pos}
theorem binT (ha : PE X a ta) (hb : PE X b tb) {pins : List (Addr × Obj)} {s : Shared} {σ : St} {H : Hp} {R : V → V → Hp → Prop} (I : Inv X pins σ H s)
    (h : ta σ H fun x H1 => tb σ H1 fun y H2 => R x y H2) {Q : Value → Shared → Prop} {f : Value → Value → Sem Value}
    (hf : ∀ v u s2 x y H2, Inv X pins σ H2 s2 → RelV x v → RelV y u → R x y H2 → wpAny (model X.prog X.w) X.A (f v u) Q X.xe s2) :
    wpAny (model X.prog X.w) X.A (eval a X.env) (fun v s₁ => wpAny (model X.prog X.w) X.A (eval b X.env) (fun u s₂ => wpAny (model X.prog X.w) X.A (f v u) Q X.xe s₂) X.xe s₁) X.xe s := by
  refine thn (ha pins s σ H _ I h) fun v s1 ⟨x, H1, I1, r1, q1⟩ => ?_
  refine thn (hb pins s1 σ H1 _ I1 q1) fun u s2 ⟨y, H2, I2, r2, q2⟩ => ?_
  exact hf v u s2 x y H2 I2 r1 r2 q2
theorem pe_op {op : Operator} {r : R2} (ho : OpR X (binaryOp op) r) (ha : PE X a ta) (hb : PE X b tb) : PE X (.BinOp a op b pos) (tOp r ta tb) := by
  intro pins s σ H Q I h
  exact wpAny_BinOp (binT ha hb I h fun v u s2 x y H2 I2 rx ry q => ho pins s2 σ H2 x y v u Q I2 rx ry q)
theorem pe_un {op : UnaryOp} {r : V → Hp → VK → Prop} (ho : UnR X (unaryOp op) r) (ha : PE X a ta) : PE X (.UnaryOp op a pos) (tUn r ta) := by
  intro pins s σ H Q I h
  exact UnaryOp_ (thn (ha pins s σ H _ I h) fun v s1 ⟨x, H1, I1, r1, q1⟩ => ho pins s1 σ H1 x v Q I1 r1 q1)
theorem opI {f : Value → Value → Sem Value} {C : Int → Int → Prop} {g : Int → Int → Int}
    (rule : ∀ (i j : Int) (t u : Tok) (s : Shared) (Q : Value → Shared → Prop) (E : Value → Shared → Prop), C i j → Q (.int (g i j) s.toks) { s with toks := s.toks + 1 } → wpAny (model X.prog X.w) X.A (f (.int i t) (.int j u)) Q E s) :
    OpR X f (rI C fun i j => .int (g i j)) := by
  intro pins s σ H x y v u Q I rx ry h
  obtain ⟨i, j, rfl, rfl, hc, q⟩ := h
  obtain ⟨t, rfl⟩ := rx
  obtain ⟨t', rfl⟩ := ry
  exact rule i j t t' s _ _ hc ⟨.int (g i j), H, I.tok _, ⟨_, rfl⟩, q⟩
theorem opI0 {f : Value → Value → Sem Value} {g : Int → Int → Int}
    (rule : ∀ (i j : Int) (t u : Tok) (s : Shared) (Q : Value → Shared → Prop) (E : Value → Shared → Prop), Q (.int (g i j) s.toks) { s with toks := s.toks + 1 } → wpAny (model X.prog X.w) X.A (f (.int i t) (.int j u)) Q E s) :
    OpR X f (rI0 fun i j => .int (g i j)) := by
  intro pins s σ H x y v u Q I rx ry h
  obtain ⟨i, j, rfl, rfl, q⟩ := h
  obtain ⟨t, rfl⟩ := rx
  obtain ⟨t', rfl⟩ := ry
  exact rule i j t t' s _ _ ⟨.int (g i j), H, I.tok _, ⟨_, rfl⟩, q⟩
theorem opB0 {f : Value → Value → Sem Value} {g : Int → Int → Bool}
    (rule : ∀ (i j : Int) (t u : Tok) (s : Shared) (Q : Value → Shared → Prop) (E : Value → Shared → Prop), Q (.bool (g i j)) s → wpAny (model X.prog X.w) X.A (f (.int i t) (.int j u)) Q E s) :
    OpR X f (rI0 fun i j => .bl (g i j)) := by
  intro pins s σ H x y v u Q I rx ry h
  obtain ⟨i, j, rfl, rfl, q⟩ := h
  obtain ⟨t, rfl⟩ := rx
  obtain ⟨t', rfl⟩ := ry
  exact rule i j t t' s _ _ ⟨.bl (g i j), H, I, rfl, q⟩
def CDiv (i j : Int) : Prop := 0 < j ∧ j < 1073741824
def CPow (i j : Int) : Prop := 0 ≤ j ∧ j ≤ 1000000 ∧ i.natAbs < 2 ^ 64
def CMul (i j : Int) : Prop := (-(2 ^ 64) < i ∧ i < 2 ^ 64) ∨ (-(2 ^ 64) < j ∧ j < 2 ^ 64)
theorem CMul.ok {i j : Int} (h : CMul i j) : IntMulOk i j := by
  rcases h with ⟨h1, h2⟩ | ⟨h1, h2⟩
  · exact .of_left (intBits_le_64 h1 h2)
  · exact .of_right (intBits_le_64 h1 h2)
theorem two_pow_nn (k : Nat) : (0 : Int) ≤ 2 ^ k := by
  rw [two_pow_cast]
  exact Int.natCast_nonneg _
theorem op_add : OpR X (binaryOp .Add) (rI0 fun i j => .int (i + j)) := opI0 fun _ _ _ _ _ _ _ q => add_int q
theorem op_sub : OpR X (binaryOp .Sub) (rI0 fun i j => .int (i - j)) := opI0 fun _ _ _ _ _ _ _ q => sub_int q
theorem op_mul : OpR X (binaryOp .Mult) (rI CMul fun i j => .int (i * j)) := opI fun _ _ _ _ _ _ _ hc q => mul_int q hc.ok
theorem op_fdiv : OpR X (binaryOp .FloorDiv) (rI CDiv fun i j => .int (i / j)) := opI fun i j _ _ _ _ _ hc q => by
  have h1 : (0 : Int) < j := hc.1
  have h2 : j < 1073741824 := hc.2
  exact floordiv_int (by omega) (by rw [Int.fdiv_eq_ediv_of_nonneg i (by omega)]; exact q) (.inl (PyProof.noPylong_small (by omega)))
theorem op_mod : OpR X (binaryOp .Mod) (rI (fun _ j => 0 < j) fun i j => .int (i % j)) := opI fun i j _ _ _ _ _ hc q => by
  have h1 : (0 : Int) < j := hc
  exact mod_int' (by omega) (by rw [Int.fmod_eq_emod_of_nonneg i (by omega)]; exact q)
theorem op_pow : OpR X (binaryOp .Pow) (rI CPow fun i j => .int (i ^ j.toNat)) := opI fun _ _ _ _ _ _ _ hc q => pow_int_small hc.1 hc.2.1 hc.2.2 q
theorem op_shr : OpR X (binaryOp .RShift) (rI (fun _ j => 0 ≤ j) fun i j => .int (i / 2 ^ j.toNat)) := opI fun i j _ _ _ _ _ hc q =>
  rshift_int hc (by rw [Int.fdiv_eq_ediv_of_nonneg i (two_pow_nn _)]; exact q)
theorem op_and : OpR X (binaryOp .BitAnd) (rI0 fun i j => .int (Builtin.bitAnd i j)) := opI0 fun _ _ _ _ _ _ _ q => and_int q
theorem unI {f : Value → Sem Value} {g : Int → Int}
    (rule : ∀ (i : Int) (t : Tok) (s : Shared) (Q : Value → Shared → Prop) (E : Value → Shared → Prop), Q (.int (g i) s.toks) { s with toks := s.toks + 1 } → wpAny (model X.prog X.w) X.A (f (.int i t)) Q E s) :
    UnR X f (rU fun i => .int (g i)) := by
  intro pins s σ H x v Q I rx h
  obtain ⟨i, rfl, q⟩ := h
  obtain ⟨t, rfl⟩ := rx
  exact rule i t s _ _ ⟨.int (g i), H, I.tok _, ⟨_, rfl⟩, q⟩
theorem un_neg : UnR X (unaryOp .USub) (rU fun i => .int (-i)) := unI fun _ _ _ _ _ q => neg_int q
end
def scal : V → V → Bool
  | .non, .non => true | .non, .int _ => true | .int _, .non => true | .non, .bl _ => true | .bl _, .non => true | .non, .str _ => true | .str _, .non => true
  | .int _, .int _ => true | .bl _, .bl _ => true | .str _, .str _ => true | .byt _, .byt _ => true
  | .int _, .str _ => true | .str _, .int _ => true | .bl _, .str _ => true | .str _, .bl _ => true
  | _, _ => false
def rEq : R2 := fun x y H Q => scal x y = true ∧ Q (.bl (decide (x = y))) H
def rNe : R2 := fun x y H Q => scal x y = true ∧ Q (.bl (!decide (x = y))) H
theorem dec_int {i j : Int} : decide (V.int i = V.int j) = (i == j) := by
  rw [Bool.eq_iff_iff]
  simp
theorem dec_bl {i j : Bool} : decide (V.bl i = V.bl j) = (i == j) := by
  rw [Bool.eq_iff_iff]
  simp
theorem dec_str {i j : Str} : decide (V.str i = V.str j) = (i == j) := by
  rw [Bool.eq_iff_iff]
  simp
theorem dec_byt {i j : Array UInt8} : decide (V.byt i = V.byt j) = (i.toList == j.toList) := by
  rw [Bool.eq_iff_iff]
  cases i
  cases j
  simp
section
variable {X : Cx} {a b c : Expr} {ta tb tc : TE} {pos : Pos}
theorem fin_bl {pins : List (Addr × Obj)} {σ : St} {H : Hp} {s : Shared} {Q : VK} {k k' : Bool} (I : Inv X pins σ H s) (q : Q (.bl k) H) (e : k = k') : EP X pins σ Q (.bool k') s := by
  subst e
  exact ⟨.bl k, H, I, rfl, q⟩
theorem op_eq : OpR X (compareOp .Eq) rEq := by
  intro pins s σ H x y v u Q I rx ry h
  obtain ⟨hs, q⟩ := h
  cases x with
  | non =>
    cases rx
    cases y with
    | non => cases ry; exact PySem.EqNone.eq_none_none (fin_bl I q (by simp))
    | bl j => cases ry; exact PySem.EqNone.eq_none_bool (fin_bl I q (by simp))
    | int j => obtain ⟨t', rfl⟩ := ry; exact PySem.EqNone.eq_none_int (fin_bl I q (by simp))
    | str j => obtain ⟨t', rfl⟩ := ry; exact PySem.EqNone.eq_none_str (fin_bl I q (by simp))
    | _ => exact absurd (show false = true from hs) Bool.false_ne_true
  | bl i =>
    cases rx
    cases y with
    | non => cases ry; exact PySem.EqNone.eq_bool_none (fin_bl I q (by simp))
    | bl j => cases ry; exact eq_bool (fin_bl I q dec_bl)
    | str j => obtain ⟨t', rfl⟩ := ry; exact PySem.EqMixed.eq_bool_str (fin_bl I q (by simp))
    | _ => exact absurd (show false = true from hs) Bool.false_ne_true
  | int i =>
    obtain ⟨t, rfl⟩ := rx
    cases y with
    | non => cases ry; exact PySem.EqNone.eq_int_none (fin_bl I q (by simp))
    | int j => obtain ⟨t', rfl⟩ := ry; exact eq_int (fin_bl I q dec_int)
    | str j => obtain ⟨t', rfl⟩ := ry; exact PySem.EqMixed.eq_int_str (fin_bl I q (by simp))
    | _ => exact absurd (show false = true from hs) Bool.false_ne_true
  | str i =>
    obtain ⟨t, rfl⟩ := rx
    cases y with
    | non => cases ry; exact PySem.EqNone.eq_str_none (fin_bl I q (by simp))
    | bl j => cases ry; exact PySem.EqMixed.eq_str_bool (fin_bl I q (by simp))
    | int j => obtain ⟨t', rfl⟩ := ry; exact PySem.EqMixed.eq_str_int (fin_bl I q (by simp))
    | str j => obtain ⟨t', rfl⟩ := ry; exact eq_str (fin_bl I q dec_str)
    | _ => exact absurd (show false = true from hs) Bool.false_ne_true
  | byt i =>
    obtain ⟨t, rfl⟩ := rx
    cases y with
    | byt j => obtain ⟨t', rfl⟩ := ry; exact PySem.W.eq_bytes (fin_bl I q dec_byt)
    | _ => exact absurd (show false = true from hs) Bool.false_ne_true
  | _ => cases y <;> exact absurd (show false = true from hs) Bool.false_ne_true
theorem op_ne : OpR X (compareOp .NotEq) rNe := by
  intro pins s σ H x y v u Q I rx ry h
  obtain ⟨hs, q⟩ := h
  cases x with
  | non =>
    cases rx
    cases y with
    | non => cases ry; exact PySem.EqNone.ne_none_none (fin_bl I q (by simp))
    | bl j => cases ry; exact PySem.EqNone.ne_none_bool (fin_bl I q (by simp))
    | int j => obtain ⟨t', rfl⟩ := ry; exact PySem.EqNone.ne_none_int (fin_bl I q (by simp))
    | str j => obtain ⟨t', rfl⟩ := ry; exact PySem.EqNone.ne_none_str (fin_bl I q (by simp))
    | _ => exact absurd (show false = true from hs) Bool.false_ne_true
  | bl i =>
    cases rx
    cases y with
    | non => cases ry; exact PySem.EqNone.ne_bool_none (fin_bl I q (by simp))
    | bl j => cases ry; exact ne_bool (fin_bl I q (congrArg not dec_bl))
    | str j => obtain ⟨t', rfl⟩ := ry; exact PySem.EqMixed.ne_bool_str (fin_bl I q (by simp))
    | _ => exact absurd (show false = true from hs) Bool.false_ne_true
  | int i =>
    obtain ⟨t, rfl⟩ := rx
    cases y with
    | non => cases ry; exact PySem.EqNone.ne_int_none (fin_bl I q (by simp))
    | int j => obtain ⟨t', rfl⟩ := ry; exact ne_int (fin_bl I q (congrArg not dec_int))
    | str j => obtain ⟨t', rfl⟩ := ry; exact PySem.EqMixed.ne_int_str (fin_bl I q (by simp))
    | _ => exact absurd (show false = true from hs) Bool.false_ne_true
  | str i =>
    obtain ⟨t, rfl⟩ := rx
    cases y with
    | non => cases ry; exact PySem.EqNone.ne_str_none (fin_bl I q (by simp))
    | bl j => cases ry; exact PySem.EqMixed.ne_str_bool (fin_bl I q (by simp))
    | int j => obtain ⟨t', rfl⟩ := ry; exact PySem.EqMixed.ne_str_int (fin_bl I q (by simp))
    | str j => obtain ⟨t', rfl⟩ := ry; exact ne_str (fin_bl I q (congrArg not dec_str))
    | _ => exact absurd (show false = true from hs) Bool.false_ne_true
  | byt i =>
    obtain ⟨t, rfl⟩ := rx
    cases y with
    | byt j => obtain ⟨t', rfl⟩ := ry; exact PySem.W.ne_bytes (fin_bl I q (congrArg not dec_byt))
    | _ => exact absurd (show false = true from hs) Bool.false_ne_true
  | _ => cases y <;> exact absurd (show false = true from hs) Bool.false_ne_true
theorem op_lt : OpR X (compareOp .Lt) (rI0 fun i j => .bl (decide (i < j))) := opB0 fun _ _ _ _ _ _ _ q => lt_int q
theorem op_le : OpR X (compareOp .LtE) (rI0 fun i j => .bl (decide (i ≤ j))) := opB0 fun _ _ _ _ _ _ _ q => le_int q
theorem op_gt : OpR X (compareOp .Gt) (rI0 fun i j => .bl (decide (j < i))) := opB0 fun _ _ _ _ _ _ _ q => gt_int q
theorem op_ge : OpR X (compareOp .GtE) (rI0 fun i j => .bl (decide (j ≤ i))) := opB0 fun _ _ _ _ _ _ _ q => ge_int q
theorem OpR.or {f : Value → Value → Sem Value} {r r' : R2} (h : OpR X f r) (h' : OpR X f r') : OpR X f (fun x y H Q => r x y H Q ∨ r' x y H Q) := by
  intro pins s σ H x y v u Q I rx ry q
  rcases q with q | q
  · exact h pins s σ H x y v u Q I rx ry q
  · exact h' pins s σ H x y v u Q I rx ry q
theorem nomark (b : Expr) {op : CmpOp} (h : op ≠ .In := by decide) (h2 : op ≠ .NotIn := by decide) : behindInMarks op b = false := by
  have e1 : (op == CmpOp.In) = false := by cases op <;> first | rfl | exact absurd rfl h
  have e2 : (op == CmpOp.NotIn) = false := by cases op <;> first | rfl | exact absurd rfl h2
  cases b <;> simp [behindInMarks, e1, e2]
theorem pe_cmpR {op : CmpOp} {r : R2} (ho : OpR X (compareOp op) r) (ha : PE X a ta) (hb : PE X b tb) (hm : behindInMarks op b = false) : PE X (.Compare a [op] [b] pos) (tOp r ta tb) := by
  intro pins s σ H Q I h
  exact wpAny_Compare1 (binT ha hb I h fun v u s2 x y H2 I2 rx ry q => ho pins s2 σ H2 x y v u Q I2 rx ry q) hm
def tTest (t : TE) : TT := fun σ H Q => t σ H fun x H' => ∃ k, x = .bl k ∧ Q k H'
theorem pt_cmpR {op : CmpOp} {r : R2} (ho : OpR X (compareOp op) r) (ha : PE X a ta) (hb : PE X b tb) (hm : behindInMarks op b = false) : PT X (.Compare a [op] [b] pos) (tTest (tOp r ta tb)) := by
  intro pins s σ H Q I h
  refine wpAny_isTrue_Compare1 (thn (ha pins s σ H _ I h) fun v s1 ⟨x, H1, I1, r1, q1⟩ => thn (hb pins s1 σ H1 _ I1 q1) fun u s2 ⟨y, H2, I2, r2, q2⟩ =>
    thn (ho pins s2 σ H2 x y v u _ I2 r1 r2 q2) fun c s3 ⟨z, H3, I3, r3, k, e, q3⟩ => ?_) hm
  subst e
  cases r3
  exact wpAny_truthy_bool ⟨H3, I3, q3⟩
def tChain (r r' : R2) (ta tb tc : TE) : TE := fun σ H Q => ta σ H fun x H1 => tb σ H1 fun y H2 => r x y H2 fun z H3 => ∃ k, z = .bl k ∧
  (if k = true then tc σ H3 fun w' H4 => r' y w' H4 Q else Q (.bl false) H3)
theorem pt_chain {op op' : CmpOp} {r r' : R2} (ho : OpR X (compareOp op) r) (ho' : OpR X (compareOp op') r') (ha : PE X a ta) (hb : PE X b tb) (hc : PE X c tc)
    (hm : lastMarks [op, op'] [b, c] = false := by with_unfolding_all rfl) : PT X (.Compare a [op, op'] [b, c] pos) (tTest (tChain r r' ta tb tc)) := by
  intro pins s σ H Q I h
  refine isTrue_chain (thn (ha pins s σ H _ I h) fun v s1 ⟨x, H1, I1, r1, q1⟩ => test_link (thn (hb pins s1 σ H1 _ I1 q1) fun u s2 ⟨y, H2, I2, r2, q2⟩ =>
    thn (ho pins s2 σ H2 x y v u _ I2 r1 r2 q2) fun d s3 ⟨z, H3, I3, r3, k, e, q3⟩ => ?_)) hm
  subst e
  cases r3
  refine wpAny_truthy_bool ?_
  cases k with
  | false =>
    obtain ⟨k', e', q'⟩ := q3
    cases e'
    exact ite_ff ⟨H3, I3, q'⟩
  | true =>
    refine ite_tt (test_last (thn (hc pins s3 σ H3 _ I3 q3) fun w' s4 ⟨z', H4, I4, r4, q4⟩ => thn (ho' pins s4 σ H4 y z' u w' _ I4 r2 r4 q4) fun d' s5 ⟨z2, H5, I5, r5, k2, e2, q5⟩ => ?_))
    subst e2
    cases r5
    exact wpAny_truthy_bool ⟨H5, I5, q5⟩
def TruV (K : PySem.W.Frag) (x : V) (H : Hp) (k : Bool) : Prop :=
  match x with
  | .non => k = false
  | .bl b => k = b
  | .int i => k = (i != 0)
  | .str y => y.length ≤ sizeLine ∧ k = ((y.length : Int) != 0)
  | .byt y => y.size ≤ sizeLine ∧ k = ((y.size : Int) != 0)
  | .ref p => (∃ xs, SqL K H p xs ∧ k = !xs.isEmpty) ∨ (∃ xs, SqT K H p xs ∧ k = !xs.isEmpty) ∨ ∃ kvs, H p = some (.dK kvs) ∧ k = !kvs.isEmpty
  | _ => False
theorem isEmpty_kv {κ : Type} {kvs : List (κ × V)} {vs : List (κ × Value)} (r : KV kvs vs) : (!vs.isEmpty) = !kvs.isEmpty := by
  cases r <;> rfl
theorem isEmpty_of {xs : List V} {its : List Value} (r : Vals xs its) : (!its.toArray.isEmpty) = !xs.isEmpty := by
  cases r <;> simp
theorem line63 : (sizeLine : Nat) < 2 ^ 63 := by rw [sizeLine_eq]; decide
theorem tru_ok : TruR X (fun x H Q => ∃ k, TruV X.K x H k ∧ Q k H) := by
  intro pins s σ H x v Q I rx h
  obtain ⟨k, e, q⟩ := h
  have hl := line63
  have hs : sizeLine = 16777216 := sizeLine_eq
  cases x with
  | non =>
    cases rx
    have e' : k = false := e
    subst e'
    exact truthy_none ⟨H, I, q⟩
  | bl b =>
    cases rx
    have e' : k = b := e
    subst e'
    exact wpAny_truthy_bool ⟨H, I, q⟩
  | int i =>
    obtain ⟨t, rfl⟩ := rx
    have e' : k = (i != 0) := e
    subst e'
    exact PySem.P.truthy_int ⟨H, I, q⟩
  | str y =>
    obtain ⟨t, rfl⟩ := rx
    obtain ⟨hy, e'⟩ : y.length ≤ sizeLine ∧ k = ((y.length : Int) != 0) := e
    subst e'
    exact PySem.P.truthy_str (by omega) ⟨H, I.tok _, q⟩
  | byt y =>
    obtain ⟨t, rfl⟩ := rx
    obtain ⟨hy, e'⟩ : y.size ≤ sizeLine ∧ k = ((y.size : Int) != 0) := e
    subst e'
    exact PySem.W.truthy_bytes (by omega) ⟨H, I.tok _, q⟩
  | ref p =>
    cases rx
    have e' : (∃ xs, SqL X.K H p xs ∧ k = !xs.isEmpty) ∨ (∃ xs, SqT X.K H p xs ∧ k = !xs.isEmpty) ∨ ∃ kvs, H p = some (.dK kvs) ∧ k = !kvs.isEmpty := e
    rcases e' with ⟨xs, hx, e'⟩ | ⟨xs, hx, e'⟩ | ⟨kvs, hx, e'⟩
    · subst e'
      obtain ⟨its, r, pl, hz⟩ := I.list hx
      have hlen := r.length
      exact wpAny_truthy_list pl.isList (by simp only [List.size_toArray]; omega) ⟨H, I.tok _, by rw [isEmpty_of r]; exact q⟩
    · subst e'
      obtain ⟨its, r, pl, hz⟩ := I.tuple hx
      have hlen := r.length
      exact truthy_tuple pl (by simp only [List.size_toArray]; omega) ⟨H, I.tok _, by rw [isEmpty_of r]; exact q⟩
    · subst e'
      obtain ⟨hz, hS, vs, r, m⟩ : kvs.length ≤ sizeLine ∧ (p == sysModules) = false ∧ ∃ vs, KV kvs vs ∧ s.heap.DictOf (mixKind X.prog X.w) p vs := I.hok p _ hx
      have hlen : kvs.length = vs.length := Paired.length r
      exact wpAny_truthy_dict hS m (by omega) ⟨H, I.tok _, by rw [isEmpty_kv r]; exact q⟩
  | _ => exact (show False from e).elim
theorem pt_truth (ha : PE X a ta) (he : ∀ whole, isTrue a X.env whole = (do let v ← whole; standAt a.pos; holding [v] (truthy v))) :
    PT X a (fun σ H Q => ta σ H fun x H' => ∃ k, TruV X.K x H' k ∧ Q k H') := by
  intro pins s σ H Q I h
  exact isTrue_plain (thn (ha pins s σ H _ I h) fun v s1 ⟨x, H1, I1, r1, q1⟩ => tru_ok pins s1 σ H1 x v Q I1 r1 q1) (he _)
theorem op_add_str : OpR X (binaryOp .Add) (fun x y H Q => ∃ i j, x = .str i ∧ y = .str j ∧ i.length + j.length ≤ sizeLine ∧ Q (.str (i ++ j)) H) := by
  intro pins s σ H x y v u Q I rx ry h
  obtain ⟨i, j, rfl, rfl, hz, q⟩ := h
  obtain ⟨t, rfl⟩ := rx
  obtain ⟨t', rfl⟩ := ry
  exact add_str (fun t' tk => ⟨.str (i ++ j), H, I.tok _, ⟨_, rfl⟩, q⟩) hz
theorem vals1 {x : V} {us : List Value} (r : Vals [x] us) : ∃ u, us = [u] ∧ RelV x u := by
  cases r with
  | cons r1 r2 => cases r2; exact ⟨_, rfl, r1⟩
theorem vals2 {x y : V} {us : List Value} (r : Vals [x, y] us) : ∃ u w', us = [u, w'] ∧ RelV x u ∧ RelV y w' := by
  cases r with
  | cons r1 r2 =>
    cases r2 with
    | cons r3 r4 => cases r4; exact ⟨_, _, rfl, r1, r3⟩
theorem call_abs : CallR X (.builtin "abs") (fun xs H Q => ∃ i, xs = [.int i] ∧ Q (.int (if i < 0 then -i else i)) H) := by
  intro pins s σ H xs us Q I r h
  obtain ⟨i, rfl, q⟩ := h
  obtain ⟨u, rfl, t, rfl⟩ := vals1 r
  exact call_abs_int fun u tk => ⟨.int (if i < 0 then -i else i), H, I.tok _, ⟨_, rfl⟩, q⟩
theorem call_min2 (hc : X.calm = true) : CallR X (.builtin "min") (fun xs H Q => ∃ i j, xs = [.int i, .int j] ∧ Q (.int (if j < i then j else i)) H) := by
  intro pins s σ H xs us Q I r h
  obtain ⟨i, j, rfl, q⟩ := h
  obtain ⟨u, w', rfl, ⟨t, rfl⟩, ⟨t', rfl⟩⟩ := vals2 r
  refine min_two_ints (I.ok.hd hc) fun h' tk k => ⟨_, H, I.kept k, ?_, q⟩
  by_cases hj : j < i
  · rw [if_pos hj, if_pos hj]; exact ⟨_, rfl⟩
  · rw [if_neg hj, if_neg hj]; exact ⟨_, rfl⟩
theorem call_int1 : CallR X (.type "int") (fun xs H Q => (∃ i, xs = [.int i] ∧ Q (.int i) H) ∨ ∃ k, xs = [.bl k] ∧ Q (.int (if k then 1 else 0)) H) := by
  intro pins s σ H xs us Q I r h
  rcases h with ⟨i, rfl, q⟩ | ⟨k, rfl, q⟩
  · obtain ⟨u, rfl, t, rfl⟩ := vals1 r
    exact call_int_int ⟨.int i, H, I, ⟨_, rfl⟩, q⟩
  · obtain ⟨u, rfl, r1⟩ := vals1 r
    cases r1
    exact call_int_bool ⟨.int (if k then 1 else 0), H, I.tok _, ⟨_, rfl⟩, q⟩
theorem call_ord : CallR X (.builtin "ord") (fun xs H Q => ∃ x, xs = [.str x] ∧ x.length = 1 ∧ Q (.int (x.cps.getD 0 0 : Nat)) H) := by
  intro pins s σ H xs us Q I r h
  obtain ⟨x, rfl, hz, q⟩ := h
  obtain ⟨u, rfl, t, rfl⟩ := vals1 r
  exact ord_of_one hz ⟨.int _, H, I.tok _, ⟨_, rfl⟩, q⟩
def LenV (K : PySem.W.Frag) (x : V) (H : Hp) (n : Nat) : Prop :=
  match x with
  | .str y => y.length ≤ sizeLine ∧ n = y.length
  | .byt y => y.size ≤ sizeLine ∧ n = y.size
  | .ref p => (∃ xs, SqL K H p xs ∧ n = xs.length) ∨ ∃ xs, SqT K H p xs ∧ n = xs.length
  | _ => False
theorem call_len : CallR X (.builtin "len") (fun xs H Q => ∃ x n, xs = [x] ∧ LenV X.K x H n ∧ Q (.int n) H) := by
  intro pins s σ H xs us Q I r h
  obtain ⟨x, n, rfl, e, q⟩ := h
  obtain ⟨u, rfl, rx⟩ := vals1 r
  have hl := line63
  have hs : sizeLine = 16777216 := sizeLine_eq
  cases x with
  | str y =>
    obtain ⟨t, rfl⟩ := rx
    obtain ⟨hy, e'⟩ : y.length ≤ sizeLine ∧ n = y.length := e
    subst e'
    exact len_str (by omega) ⟨.int _, H, I.tok _, ⟨_, rfl⟩, q⟩
  | byt y =>
    obtain ⟨t, rfl⟩ := rx
    obtain ⟨hy, e'⟩ : y.size ≤ sizeLine ∧ n = y.size := e
    subst e'
    exact PySem.W.len_bytes (by omega) ⟨.int _, H, I.tok _, ⟨_, rfl⟩, q⟩
  | ref p =>
    cases rx
    have e' : (∃ xs, SqL X.K H p xs ∧ n = xs.length) ∨ ∃ xs, SqT X.K H p xs ∧ n = xs.length := e
    rcases e' with ⟨xs, hx, e'⟩ | ⟨xs, hx, e'⟩
    · subst e'
      obtain ⟨its, r', pl, hz⟩ := I.list hx
      have hlen := r'.length
      exact Calls.call_len_list pl.isList (by simp only [List.size_toArray]; omega) ⟨.int xs.length, H, I.tok _, ⟨_, by simp only [List.size_toArray]; rw [hlen]⟩, q⟩
    · subst e'
      obtain ⟨its, r', pl, hz⟩ := I.tuple hx
      have hlen := r'.length
      exact len_tuple pl (by simp only [List.size_toArray]; omega) ⟨.int xs.length, H, I.tok _, ⟨_, by simp only [List.size_toArray]; rw [hlen]⟩, q⟩
  | _ => exact (show False from e).elim
end
end L2
namespace L2
open PySem PySem.Spec PyProof.Rows
structure ObjM (h : Heap) (x dx C : Addr) (mA : Str → Option Value) : Prop where
  obj : h.get? x = some (PySem.W.instObj C dx)
  ns : h.Ns1 dx mA
  ne : dx ≠ x
theorem lookIn_ns {h : Heap} {dx : Addr} {mA : Str → Option Value} (n : h.Ns1 dx mA) : ∃ od, h.get? dx = some od ∧ ∀ name, PySem.W.lookIn name od = some (mA name) := by
  obtain ⟨o, es, ep, ho, hd, hk, _, hm⟩ := n
  refine ⟨o, ho, fun name => ?_⟩
  have e := hm name
  unfold nsFind findBy at e
  rw [← Array.find?_toList] at e
  unfold PySem.W.lookIn
  rw [hd]
  dsimp only
  split
  · rename_i y q
    rw [q] at e
    exact congrArg some e
  · rename_i q
    rw [q] at e
    have a : es.toList.any (·.refKey) = false := by
      rw [List.any_eq_false]
      intro y hy
      obtain ⟨z, t, hkey⟩ := hk y (Array.mem_toList_iff.mp hy)
      simp [DictEntry.refKey, hkey]
    have a' : ¬ es.toList.any (·.refKey) = true := by rw [a]; exact Bool.false_ne_true
    rw [if_neg a']
    exact congrArg some e
theorem ObjM.look {h : Heap} {x dx C : Addr} {mA : Str → Option Value} (I : ObjM h x dx C mA) : ∃ od, PySem.W.InstAt h x (PySem.W.instObj C dx) C (some od) ∧ ∀ name, PySem.W.lookIn name od = some (mA name) :=
  let ⟨od, ho, hl⟩ := lookIn_ns I.ns
  ⟨od, ⟨I.obj, rfl, rfl, ho⟩, hl⟩
section
variable {prog : Program} {w : World} {A : Around} {E : Value → Shared → Prop} {s : Shared} {K : PySem.W.Frag} {x dx C f : Addr} {mA : Str → Option Value} {name : Str} {v : Value}
theorem get_map {expr : Bool} {Q : Value → Shared → Prop} (X : K.In s.heap) (I : ObjM s.heap x dx C mA) (hg : PySem.W.plainGet K C name = true) (hh : PySem.W.hasDictIn K C = true)
    (ha : PySem.W.findIn K (.ref C) name = some none) (hv : mA name = some v) (hv' : PySem.W.handedIn v = true) (h : Q v { s with toks := s.toks + 1 }) :
    wpAny (model prog w) A (getAttr (.ref x) name expr) Q E s := by
  obtain ⟨od, J, hl⟩ := I.look
  exact PySem.W.get_value X J (PySem.W.plainGet_of hg).1 (PySem.W.findObj_own hh ha rfl (by rw [hl, hv])) hv' h
theorem get_meth {pl : Sem Bool} {Q : Value × List Value → Shared → Prop} (X : K.In s.heap) (I : ObjM s.heap x dx C mA) (hg : PySem.W.plainGet K C name = true)
    (hf : PySem.W.findIn K (.ref C) name = some (some (.ref f))) (ht : PySem.W.isFn K (.ref f) = true) (hv : mA name = none) (h : Q (.ref f, [.ref x]) s) :
    wpAny (model prog w) A (getMethod (.ref x) name pl) Q E s := by
  obtain ⟨od, J, hl⟩ := I.look
  exact PySem.W.method_fn X J (PySem.W.plainGet_of hg).1 (PySem.W.plainGet_of hg).2 hf (beq_iff_eq.mp ht) (by show (PySem.W.lookIn name od).map (·.isSome) = some false; rw [hl, hv]; rfl) h
theorem set_map {ns : List Str} {Q : Unit → Shared → Prop} (X : K.In s.heap) (I : ObjM s.heap x dx C mA)
    (hs : PySem.W.findIn K (.ref C) "__setattr__" = some (some (.builtin "object.__setattr__"))) (hp : PySem.W.plainOver K C = true) (ht : PySem.W.takerIn K C name = some none) (hh : PySem.W.hasDictIn K C = true)
    (hw : PySem.Within mA ns) (hsz : ns.length ≤ sizeLine)
    (h : ∀ h', ObjM h' x dx C (fun y => if y = name then some v else mA y) → Heap.SameBut dx s.heap h' → Q () { s with heap := h', toks := s.toks + 2 }) :
    wpAny (model prog w) A (setAttr (.ref x) name v) Q E s := by
  obtain ⟨od, J, hl⟩ := I.look
  refine PySem.W.set_plain X J hs (PySem.W.osa_open (s := { s with toks := s.toks + 1 }) (r := none) X J hp ht fun b => ?_)
  obtain ⟨cd, hc, hd'⟩ := PySem.W.any_some hh
  have hx : s.heap.get? x = some ⟨.ref C, some dx, .plain, #[]⟩ := I.obj
  refine wpAny_bind (wpAny_pure (wpAny_bind (wpAny_bind (wpAny_loadPart hx (wpAny_bind (PySem.W.Looks.here (s := { s with toks := s.toks + 1 }) (PySem.W.looks_clsIn X hc) ?_))))))
  rw [hd']
  refine wpAny_pure (a := some dx) (wpAny_bind (wpAny_pure (wpAny_bind ?_)))
  refine wpAny_nsSet1 (s := { s with toks := s.toks + 1 }) I.ns fun h' hn2 hs2 => ?_
  obtain ⟨oD, esD, epD, hoD, hdD, hcD⟩ := hn2.count (PySem.Within.cons name v hw)
  refine wpAny_bind (wpAny_lookBehind hoD (by rw [hdD]; exact pastItsLine_dict (Nat.le_trans hcD (by rw [List.length_cons]; omega))) ?_)
  exact wpAny_pure (h _ ⟨(hs2.2 _ (Ne.symm I.ne)).trans I.obj, hn2, I.ne⟩ hs2)
theorem make_map {R : Result → Shared → Prop} {vs : List Value} {kw : List (Str × Value)} (X : K.In s.heap) (hm : PySem.W.makesIn K C = true)
    (hi : PySem.W.findIn K (.ref C) "__init__" = some (some (.ref f))) (hf : PySem.W.typeIn K (.ref f) = some (.type "function"))
    (h : codeAny (model prog w) (A.under (.builtin "type.__call__" ⟨.ref C :: vs, kw⟩)) (.call (.ref f) ⟨.ref (s.heap.objs.size + 1) :: vs, kw⟩) (PySem.W.InitBack (s.heap.objs.size + 1) R)
      { s with heap := (s.heap.push PySem.W.emptyDict).push (PySem.W.instObj C s.heap.objs.size) }) :
    codeAny (model prog w) A (.call (.ref C) ⟨vs, kw⟩) R s := by
  obtain ⟨hh, g, d, t, os⟩ := s
  exact PySem.W.make_core (PySem.W.makes_of X hm) (PySem.W.looks_findIn X hi) (fun self => PySem.W.bind_fn X self hf) (.inl rfl) h
end
def putF (f : Str) (v : V) : List (Str × V) → List (Str × V)
  | [] => [(f, v)]
  | (g, x) :: r => if g = f then (g, v) :: r else (g, x) :: putF f v r
theorem lookup_putF (f g : Str) (v : V) : ∀ fs : List (Str × V), (putF f v fs).lookup g = if g = f then some v else fs.lookup g
  | [] => by
    show List.lookup g [(f, v)] = _
    by_cases h : g = f
    · have hb : (g == f) = true := beq_iff_eq.mpr h
      simp only [List.lookup, hb, if_pos h]
    · have hb : (g == f) = false := beq_eq_false_iff_ne.mpr h
      simp only [List.lookup, hb, if_neg h]
  | (k, x) :: r => by
    have ih := lookup_putF f g v r
    rw [show putF f v ((k, x) :: r) = (if k = f then (k, v) :: r else (k, x) :: putF f v r) from rfl]
    by_cases hk : k = f
    · rw [if_pos hk]
      by_cases h : g = k
      · have hb : (g == k) = true := beq_iff_eq.mpr h
        simp only [List.lookup, hb, if_pos (h.trans hk)]
      · have hb : (g == k) = false := beq_eq_false_iff_ne.mpr h
        simp only [List.lookup, hb, if_neg (fun e : g = f => h (e.trans hk.symm))]
    · rw [if_neg hk]
      by_cases h : g = k
      · have hb : (g == k) = true := beq_iff_eq.mpr h
        simp only [List.lookup, hb, if_neg (fun e : g = f => hk (h.symm.trans e))]
      · have hb : (g == k) = false := beq_eq_false_iff_ne.mpr h
        simp only [List.lookup, hb]
        exact ih
theorem keys_putF (f : Str) (v : V) : ∀ fs : List (Str × V), f ∈ (putF f v fs).map (·.1) ∧ ∀ g, g ∈ fs.map (·.1) → g ∈ (putF f v fs).map (·.1)
  | [] => ⟨by simp [putF], fun g h => by simp at h⟩
  | (k, x) :: r => by
    obtain ⟨i1, i2⟩ := keys_putF f v r
    rw [show putF f v ((k, x) :: r) = (if k = f then (k, v) :: r else (k, x) :: putF f v r) from rfl]
    by_cases hk : k = f
    · rw [if_pos hk]
      subst hk
      exact ⟨by simp, fun g h => by simpa using h⟩
    · rw [if_neg hk]
      refine ⟨?_, fun g h => ?_⟩
      · rw [List.map_cons]
        exact List.mem_cons_of_mem _ i1
      · rw [List.map_cons] at h ⊢
        rcases List.mem_cons.mp h with e | e
        · exact List.mem_cons.mpr (.inl e)
        · exact List.mem_cons_of_mem _ (i2 g e)
theorem length_putF (f : Str) (v : V) : ∀ fs : List (Str × V), (putF f v fs).length ≤ fs.length + 1
  | [] => by simp [putF]
  | (k, x) :: r => by
    have ih := length_putF f v r
    rw [show putF f v ((k, x) :: r) = (if k = f then (k, v) :: r else (k, x) :: putF f v r) from rfl]
    by_cases hk : k = f
    · rw [if_pos hk, List.length_cons, List.length_cons]; omega
    · rw [if_neg hk, List.length_cons, List.length_cons]; omega
theorem RelO.some_of {v : V} {o : Option Value} (r : RelO (some v) o) : ∃ u, o = some u ∧ RelV v u := by
  cases o with
  | none => exact (show False from r).elim
  | some u => exact ⟨u, rfl, r⟩
theorem RelO.none_of {o : Option Value} (r : RelO none o) : o = none := by
  cases o with
  | none => rfl
  | some u => exact (show False from r).elim
theorem handed_of {v : V} {u : Value} (r : RelV v u) : PySem.W.handedIn u = true := by
  cases v with
  | non => cases (show u = Value.none from r); rfl
  | bl b => cases (show u = Value.bool b from r); rfl
  | int i => obtain ⟨t, e⟩ := (show ∃ t, u = Value.int i t from r); cases e; rfl
  | str x => obtain ⟨t, e⟩ := (show ∃ t, u = Value.str x t from r); cases e; rfl
  | byt b => obtain ⟨t, e⟩ := (show ∃ t, u = Value.bytes b t from r); cases e; rfl
  | flt b => obtain ⟨t, e⟩ := (show ∃ t, u = Value.float b t from r); cases e; rfl
  | ref a => cases (show u = Value.ref a from r); rfl
  | ty n => cases (show u = Value.type n from r); rfl
section
variable {P : Program} {w : World} {H H' : Hp} {h h' : Heap} {a C dx : Addr} {fs fs' : List (Str × V)}
theorem ins_get (hok : HOk P w H h) (e : H a = some (.ins C dx fs)) : ∃ mA, ObjM h a dx C mA ∧ (∀ f, RelO (fs.lookup f) (mA f)) ∧ PySem.Within mA (fs.map (·.1)) ∧ fs.length ≤ 1000 ∧ H dx = some (.own a) := by
  obtain ⟨d, z, ne, ob, mA, n, r, q⟩ := (show ObjOk P w H h a (.ins C dx fs) from hok a _ e)
  exact ⟨mA, ⟨ob, n, ne⟩, r, q, z, d⟩
end
structure Cls (K : PySem.W.Frag) (C : Addr) : Prop where
  pg : PySem.W.plainGet K C Str.empty = true
  hd : PySem.W.hasDictIn K C = true
  po : PySem.W.plainOver K C = true
  sa : PySem.W.findIn K (.ref C) "__setattr__" = some (some (.builtin "object.__setattr__"))
theorem Cls.get {K : PySem.W.Frag} {C : Addr} (c : Cls K C) (f : Str) : PySem.W.plainGet K C f = true := c.pg
def NoAttr (K : PySem.W.Frag) (C : Addr) (f : Str) : Prop := PySem.W.findIn K (.ref C) f = some none
theorem NoAttr.taker {K : PySem.W.Frag} {C : Addr} {f : Str} (n : NoAttr K C f) : PySem.W.takerIn K C f = some none := by
  unfold PySem.W.takerIn
  rw [show PySem.W.findIn K (.ref C) f = some none from n]
  rfl
structure Con (K : PySem.W.Frag) (C : Addr) (f : Str) (v : V) (u : Value) : Prop where
  at_ : PySem.W.findIn K (.ref C) f = some (some u)
  rel : RelV v u
  get : PySem.W.specialIn K u "__get__" = some none
  cp : PySem.W.copiedNames.contains f = false
structure Meth (K : PySem.W.Frag) (C : Addr) (m : Str) (f : Addr) : Prop where
  at_ : PySem.W.findIn K (.ref C) m = some (some (.ref f))
  fn : PySem.W.isFn K (.ref f) = true
  kp : PySem.W.keepIn K (.ref f) = true
section
variable {X : Cx} {pins : List (Addr × Obj)} {σ : St} {H : Hp} {s : Shared} {a C dx : Addr} {fs : List (Str × V)} {f : Str} {v : V} {A : Around} {E : Value → Shared → Prop}
theorem getattr_ok {b : Bool} {Q : Value → Shared → Prop} (I : Inv X pins σ H s) (e : H a = some (.ins C dx fs)) (c : Cls X.K C) (n : NoAttr X.K C f) (l : fs.lookup f = some v)
    (h : ∀ u s', Inv X pins σ H s' → RelV v u → Q u s') : wpAny (model X.prog X.w) A (getAttr (.ref a) f b) Q E s := by
  obtain ⟨mA, O, r, _, _, _⟩ := ins_get I.hok e
  obtain ⟨u, hu, ru⟩ := RelO.some_of (v := v) (o := mA f) (by rw [← l]; exact r f)
  exact get_map I.kIn O (c.get f) c.hd n hu (handed_of ru) (h u _ (I.tok _) ru)
theorem getmeth_ok {m : Str} {g : Addr} {pl : Sem Bool} {Q : Value × List Value → Shared → Prop} (I : Inv X pins σ H s) (e : H a = some (.ins C dx fs)) (c : Cls X.K C) (k : Meth X.K C m g) (l : fs.lookup m = none)
    (h : Q (.ref g, [.ref a]) s) : wpAny (model X.prog X.w) A (getMethod (.ref a) m pl) Q E s := by
  obtain ⟨mA, O, r, _, _, _⟩ := ins_get I.hok e
  have hn : mA m = none := RelO.none_of (by rw [← l]; exact r m)
  exact get_meth I.kIn O (c.get m) k.at_ k.fn hn h
theorem setattr_ok {y : V} {u : Value} {Q : Unit → Shared → Prop} (I : Inv X pins σ H s) (e : H a = some (.ins C dx fs)) (c : Cls X.K C) (n : NoAttr X.K C f) (hl : fs.length < 1000) (ry : RelV y u)
    (h : ∀ s', Inv X pins σ (upd H a (.ins C dx (putF f y fs))) s' → Q () s') : wpAny (model X.prog X.w) A (setAttr (.ref a) f u) Q E s := by
  obtain ⟨mA, O, r, wi, _, ho⟩ := ins_get I.hok e
  have hz : (fs.map (·.1)).length ≤ sizeLine := by rw [List.length_map, sizeLine_eq]; omega
  refine set_map I.kIn O c.sa c.po n.taker c.hd wi hz fun h' O' sb => h _ ?_
  have hd : ∃ o, h'.get? dx = some o := let ⟨o, _, _, e', _⟩ := O'.ns; ⟨o, e'⟩
  refine I.write (x := a) (e := dx) (by rw [e]; exact True.intro) (.inr ho) (fun b q hb z => (sb.2 b hb).trans z) hd ?_
  refine ⟨by rw [upd_ne O.ne]; exact ho, ?_, O.ne, O'.obj, _, O'.ns, fun g => ?_, fun g hg => ?_⟩
  · have := length_putF f y fs; omega
  · show RelO ((putF f y fs).lookup g) (if g = f then some u else mA g)
    rw [lookup_putF]
    by_cases q : g = f
    · rw [if_pos q, if_pos q]; exact ry
    · rw [if_neg q, if_neg q]; exact r g
  · by_cases q : g = f
    · rw [q]; exact (keys_putF f y fs).1
    · refine (keys_putF f y fs).2 g (wi g fun z => hg ?_)
      show (if g = f then some u else mA g) = none
      rw [if_neg q]; exact z
theorem Inv.made (I : Inv X pins σ H s) : Inv X pins σ (upd (upd H s.heap.objs.size (.own (s.heap.objs.size + 1))) (s.heap.objs.size + 1) (.ins C s.heap.objs.size []))
    { s with heap := (s.heap.push PySem.W.emptyDict).push (PySem.W.instObj C s.heap.objs.size) } := by
  have e1 : (s.heap.push PySem.W.emptyDict).get? s.heap.objs.size = some PySem.W.emptyDict := Heap.get?_push_size s.heap rfl
  have e2 : ((s.heap.push PySem.W.emptyDict).push (PySem.W.instObj C s.heap.objs.size)).get? (s.heap.objs.size + 1) = some (PySem.W.instObj C s.heap.objs.size) := by
    have := Heap.get?_push_size (s.heap.push PySem.W.emptyDict) (o := PySem.W.instObj C s.heap.objs.size) rfl
    rwa [Heap.size_push] at this
  have e3 : (s.heap.push PySem.W.emptyDict).Ns s.heap.objs.size (fun _ => none) := ⟨PySem.W.emptyDict, #[], _, e1, rfl, (fun e he => absurd he (by simp)), fun _ => rfl⟩
  have I1 := I.laid (a := s.heap.objs.size) (o := .own (s.heap.objs.size + 1)) (h' := s.heap.push PySem.W.emptyDict) (t' := s.toks) (fun b u q => Heap.get?_push_of_some _ q) (Nat.le_refl _) ⟨_, e1⟩
  refine I1.laid (a := s.heap.objs.size + 1) (o := .ins C s.heap.objs.size []) (t' := s.toks) (fun b u q => Heap.get?_push_of_some _ q) (Nat.le_of_eq (Heap.size_push _ _)) ?_
  have ne : s.heap.objs.size ≠ s.heap.objs.size + 1 := Nat.ne_of_lt (Nat.lt_succ_self _)
  refine ⟨by rw [upd_ne ne, upd_same], Nat.zero_le _, ne, e2, fun _ => none, (Heap.Ns1.of_empty e3).at fun o q => Heap.get?_push_of_some _ q, fun _ => True.intro, fun y hy => absurd rfl hy⟩
theorem attr_of {prog : Program} {w : World} {env : Env} {e : Expr} {f : Str} {pos : Pos} {s : Shared} {Q : Value → Shared → Prop} (hb : attributeBase e f env (eval e env) = eval e env)
    (h : wpAny (model prog w) A (eval e env) (fun o s₁ => wpAny (model prog w) A (getAttr o f true) Q E s₁) E s) : wpAny (model prog w) A (eval (.Attribute e f pos) env) Q E s :=
  Attribute_any_ h (by rw [arm_eval_Attribute, hb])
end
def tFld (K : PySem.W.Frag) (ta : TE) (f : Str) : TE := fun σ H Q => ta σ H fun x H1 => ∃ a C dx fs v, x = .ref a ∧ H1 a = some (.ins C dx fs) ∧ Cls K C ∧ NoAttr K C f ∧ fs.lookup f = some v ∧ Q v H1
def sFld (K : PySem.W.Frag) (ta tv : TE) (f : Str) : TS := fun D σ H => tv σ H fun y H1 => ta σ H1 fun x H2 => ∃ a C dx fs, x = .ref a ∧ H2 a = some (.ins C dx fs) ∧ Cls K C ∧ NoAttr K C f ∧ fs.length < 1000 ∧
  D.nx σ (upd H2 a (.ins C dx (putF f y fs)))
section
variable {X : Cx} {o e value : Expr} {f : Str} {pos pos' tpos : Pos} {ta tv : TE}
theorem pe_fld (he : PE X e ta) (hb : attributeBase e f X.env (eval e X.env) = eval e X.env) : PE X (.Attribute e f pos) (tFld X.K ta f) := by
  intro pins s σ H Q I h
  refine attr_of hb (thn (he pins s σ H _ I h) fun u s1 ⟨x, H1, I1, rx, a, C, dx, fs, v, ex, ea, c, n, l, q⟩ => ?_)
  subst ex
  obtain rfl : u = Value.ref a := rx
  exact getattr_ok I1 ea c n l fun u' s2 I2 ru => ⟨v, H1, I2, ru, q⟩
theorem ps_fld (ha : PE X o ta) (hv : PE X value tv) (hs : swapsWith value (some (.Attribute o f pos')) pos.line X.env = pure false) : PS X (.Assign [.Attribute o f pos'] value pos) (sFld X.K ta tv f) := by
  intro pins s σ H D I h
  refine plainObj_wpAny_Assign_Attribute (thn (hv pins s σ H _ I h) fun u s1 ⟨y, H1, I1, ry, q⟩ => thn (ha pins s1 σ H1 _ I1 q) fun ov s2 ⟨x, H2, I2, rx, a, C, dx, fs, ex, ea, c, n, l, q2⟩ => ?_) hs
  subst ex
  obtain rfl : ov = Value.ref a := rx
  exact setattr_ok I2 ea c n l ry fun s3 I3 => ⟨σ, _, I3, q2⟩
end
section
variable {X : Cx} {pins : List (Addr × Obj)} {σ : St} {H : Hp} {s : Shared} {A : Around} {E : Value → Shared → Prop} {Q : Value → Shared → Prop} {c : Value} {b : Bool}
inductive TyOf (K : PySem.W.Frag) (H : Hp) : V → Value → Prop where
  | non : TyOf K H .non (.type "NoneType")
  | bl (x : Bool) : TyOf K H (.bl x) (.type "bool")
  | int (i : Int) : TyOf K H (.int i) (.type "int")
  | str (x : Str) : TyOf K H (.str x) (.type "str")
  | flt (x : UInt64) : TyOf K H (.flt x) (.type "float")
  | lst {a : Addr} {xs : List V} (e : H a = some (.lst xs)) : TyOf K H (.ref a) (.type "list")
  | frz {a : Addr} {o : Obj} {xs : List V} (e : H a = some (.frz o (.lst xs))) : TyOf K H (.ref a) (.type "list")
  | tup {a : Addr} {xs : List V} (e : H a = some (.tup xs)) : TyOf K H (.ref a) (.type "tuple")
  | dK {a : Addr} {kvs : List (Key × V)} (e : H a = some (.dK kvs)) : TyOf K H (.ref a) (.type "dict")
  | dT {a : Addr} {kvs : List (List Key × V)} (e : H a = some (.dT kvs)) : TyOf K H (.ref a) (.type "dict")
  | ins {a C dx : Addr} {fs : List (Str × V)} (e : H a = some (.ins C dx fs)) (cl : Cls K C) (ha : PySem.W.findIn K (.ref C) "__class__" = some (some (.builtin "object.__class__")))
      (hn : PySem.W.specialIn K (.builtin "object.__class__") "__get__" = some (some (.builtin "getset_descriptor.__get__"))) (htk : PySem.W.takesIn K (.builtin "object.__class__") = some true)
      (hm : PySem.W.mroIn K C (.type "object") = some true) : TyOf K H (.ref a) (.ref C)
end
end L2
namespace L2
open PySem PySem.Spec PyProof.Rows
structure Room (k : Nat) (A : Around) : Prop where
  hd : A.handled = none
  dp : A.depth + 3 * k + 5 < recursionLimit
  un : A.units + 16 * k + 200 < cLine
  gd : A.guards = some []
theorem Room.mono {j k : Nat} {A : Around} (r : Room k A) (h : j ≤ k) : Room j A := ⟨r.hd, by have := r.dp; omega, by have := r.un; omega, r.gd⟩
theorem Room.deeper {k : Nat} {A : Around} (r : Room (k + 1) A) (env : Env) : Room k (A.deeper env) :=
  ⟨r.hd, by have := r.dp; show A.depth + 1 + 3 * k + 5 < _; omega, by have := r.un; show A.units + 3 + 16 * k + 200 < _; omega, r.gd⟩
theorem Room.in1 {k : Nat} {A : Around} (r : Room (k + 1) A) : Room k A.in1 :=
  ⟨r.hd, by have := r.dp; show A.depth + 3 * k + 5 < _; omega, by have := r.un; show A.units + 1 + 16 * k + 200 < _; omega, r.gd⟩
theorem make_depth {A : Around} {C : Addr} {us : List Value} {kw : List (Str × Value)} : (A.under (.builtin "type.__call__" ⟨.ref C :: us, kw⟩)).depth = A.depth + 1 := by
  first | rfl | simp [Around.under, Code.weight, Code.isCreation, Code.isGuard, Code.isCaller, Code.frames, Code.isFrame, guardIds]
theorem make_units {A : Around} {C : Addr} {us : List Value} {kw : List (Str × Value)} : (A.under (.builtin "type.__call__" ⟨.ref C :: us, kw⟩)).units = A.units + 1 := by
  first | rfl | simp [Around.under, Code.cUnits, Code.frames, Code.isFrame]
theorem Room.make {k : Nat} {A : Around} (r : Room (k + 1) A) (C : Addr) (us : List Value) (kw : List (Str × Value)) : Room k (A.under (.builtin "type.__call__" ⟨.ref C :: us, kw⟩)) :=
  ⟨r.hd, by have := r.dp; rw [make_depth]; omega, by have := r.un; rw [make_units]; omega, by first | exact r.gd | simpa [Around.under, Code.isGuard, guardIds] using r.gd⟩
theorem Room.depth {k : Nat} {A : Around} (r : Room k A) : A.depth < recursionLimit := by have := r.dp; omega
theorem Room.units {k : Nat} {A : Around} (r : Room k A) : A.units + 64 < cLine := by have := r.un; omega
def tNil : TA := fun _ H Q => Q [] H
def tCons (ta : TE) (tr : TA) : TA := fun σ H Q => ta σ H fun x H1 => tr σ H1 fun xs H2 => Q (x :: xs) H2
section
variable {X : Cx} {e : Expr} {es : List Expr} {te : TE} {t : TA} {pos : Pos}
theorem pa_nil : PA X [] tNil := fun _ _ _ _ H Q I h => Calls.spliced_nil ⟨[], H, I, .nil, h⟩
theorem pa_cons (ha : PE X e te) (hr : PA X es t) (hs : starEach (e :: es) X.env = (false, eval e X.env) :: starEach es X.env := by rfl) : PA X (e :: es) (tCons te t) := by
  intro pos pins s σ H Q I h
  rw [hs]
  show wpAny _ _ (spliced ((false, eval e X.env) :: backTo pos (starEach es X.env))) _ _ s
  refine Calls.spliced_cons (thn (ha pins s σ H _ I h) fun u s1 ⟨x, H1, I1, r1, q1⟩ => ?_)
  exact thn (hr pos pins s1 σ H1 _ I1 q1) fun us s2 ⟨xs, H2, I2, r2, q2⟩ => ⟨x :: xs, H2, I2, .cons r1 r2, q2⟩
def tTup (t : TA) : TE := fun σ H Q => t σ H fun xs H1 => xs.length ≤ sizeLine ∧ ∀ p, H1 p = none → Q (.ref p) (upd H1 p (.tup xs))
def tLst (t : TA) : TE := fun σ H Q => t σ H fun xs H1 => xs.length ≤ sizeLine ∧ ∀ p, H1 p = none → Q (.ref p) (upd H1 p (.lst xs))
theorem pe_tup {x1} (h : PA X es t) : PE X (.Tuple es x1 pos) (tTup t) := by
  intro pins s σ H Q I hq
  refine wpAny_Tuple_spliced (thn (h pos pins s σ H _ I hq) fun us s1 ⟨xs, H1, I1, r, z, q⟩ => ⟨by rw [← r.length]; exact z, ?_⟩)
  have hf : H1 s1.heap.objs.size = none := I1.hok.fresh (Nat.le_refl _)
  refine ⟨.ref s1.heap.objs.size, upd H1 s1.heap.objs.size (.tup xs), I1.laid (t' := s1.toks) (fun b u e => Heap.get?_push_of_some _ e) (Nat.le_refl _) ?_, rfl, q _ hf⟩
  exact ⟨z, us, r, ⟨_, Heap.get?_push_size _ rfl, rfl, _, rfl⟩⟩
theorem pe_lst (h : PA X es t) : PE X (.List es pos) (tLst t) := by
  intro pins s σ H Q I hq
  refine wpAny_List_spliced (thn (h pos pins s σ H _ I hq) fun us s1 ⟨xs, H1, I1, r, z, q⟩ => ⟨by rw [← r.length]; exact z, ?_⟩)
  have hf : H1 s1.heap.objs.size = none := I1.hok.fresh (Nat.le_refl _)
  refine ⟨.ref s1.heap.objs.size, upd H1 s1.heap.objs.size (.lst xs), I1.laid (t' := s1.toks) (fun b u e => Heap.get?_push_of_some _ e) (Nat.le_refl _) ?_, rfl, q _ hf⟩
  exact ⟨z, us, 0, r, Heap.get?_push_size _ rfl⟩
end
abbrev Sp := List V → Hp → VK → XK → Prop
abbrev CXT := List Env → Hp → Shared → XK → Value → Shared → Prop
structure Env0 (P : Program) (w : World) (K : PySem.W.Frag) (mg : Str → Option Value) (base : Heap) (A : Around) (outer : List Env) (s : Shared) (H : Hp) : Prop where
  frames : A.frames = some outer
  mod : Mod K mg base
  bs : ∀ b o, base.get? b = some o → s.heap.get? b = some o ∧ H b = none
  bsz : base.objs.size ≤ s.heap.objs.size
  funs : s.heap.FunFrames base outer
  frf : ∀ b ∈ frs outer, H b = none
  hok : HOk P w H s.heap
  bare : AllBare s.gens
def CE (outer : List Env) (P : Program) (w : World) (H : Hp) (s : Shared) (Q : VK) (u : Value) (s' : Shared) : Prop :=
  ∃ v H', s'.os = s.os ∧ AllBare s'.gens ∧ Un (frs outer) [] H H' s.heap s'.heap ∧ HOk P w H' s'.heap ∧ RelV v u ∧ Q v H'
def CR (CX : CXT) (outer : List Env) (P : Program) (w : World) (H : Hp) (s : Shared) (Q : VK) (E : XK) (r : Result) (s' : Shared) : Prop :=
  match r with
  | .ok (.ret u) => CE outer P w H s Q u s'
  | .ok _ => False
  | .error e => CX outer H s E e s'
structure FnOk (P : Program) (w : World) (K : PySem.W.Frag) (mg : Str → Option Value) (base : Heap) (CX : CXT) (k : Nat) (f : Addr) (fd : FuncData) (ps : List Str) (sp : Sp) : Prop where
  len : ∀ vs H Q E, sp vs H Q E → vs.length = ps.length
  run : ∀ (A : Around) (outer : List Env) (s : Shared) (H : Hp) (args : Args) (us : List Value) (vs : List V) (Q : VK) (E : XK), Room k A → Env0 P w K mg base A outer s H → BindsTo s fd args (ps.zip us) → Vals vs us → sp vs H Q E →
    codeAny (model P w) A (.call (.ref f) args) (CR CX outer P w H s Q E) s
theorem FnOk.mono {P : Program} {w : World} {K : PySem.W.Frag} {mg : Str → Option Value} {base : Heap} {CX : CXT} {j k : Nat} {f : Addr} {fd : FuncData} {ps : List Str} {sp : Sp} (F : FnOk P w K mg base CX j f fd ps sp) (h : j ≤ k) :
    FnOk P w K mg base CX k f fd ps sp := ⟨F.len, fun A outer s H args us vs Q E hr => F.run A outer s H args us vs Q E (hr.mono h)⟩
theorem FnOk.imp {P : Program} {w : World} {K : PySem.W.Frag} {mg : Str → Option Value} {base : Heap} {CX : CXT} {k : Nat} {f : Addr} {fd : FuncData} {ps : List Str} {sp sp' : Sp} (F : FnOk P w K mg base CX k f fd ps sp)
    (h : ∀ vs H Q E, sp' vs H Q E → sp vs H Q E) : FnOk P w K mg base CX k f fd ps sp' :=
  ⟨fun vs H Q E q => F.len vs H Q E (h _ _ _ _ q), fun A outer s H args us vs Q E hr he hb hv hs => F.run A outer s H args us vs Q E hr he hb hv (h _ _ _ _ hs)⟩
theorem Env0.make {P : Program} {w : World} {K : PySem.W.Frag} {mg : Str → Option Value} {base : Heap} {A : Around} {outer : List Env} {s : Shared} {H : Hp} (e : Env0 P w K mg base A outer s H) (C : Addr) (us : List Value) (kw : List (Str × Value)) :
    Env0 P w K mg base (A.under (.builtin "type.__call__" ⟨.ref C :: us, kw⟩)) outer s H := ⟨by first | exact e.frames | (simpa [Around.under, Code.envs, Code.isFrame, pushEnvs] using e.frames), e.mod, e.bs, e.bsz, e.funs, e.frf, e.hok, e.bare⟩
theorem Env0.in1 {P : Program} {w : World} {K : PySem.W.Frag} {mg : Str → Option Value} {base : Heap} {A : Around} {outer : List Env} {s : Shared} {H : Hp} (e : Env0 P w K mg base A outer s H) :
    Env0 P w K mg base A.in1 outer s H := ⟨e.frames, e.mod, e.bs, e.bsz, e.funs, e.frf, e.hok, e.bare⟩
section
variable {X : Cx} {pins : List (Addr × Obj)} {σ : St} {H : Hp} {s s' : Shared}
theorem Inv.env0 (I : Inv X pins σ H s) : Env0 X.prog X.w X.K X.mg X.base X.A X.stack s H :=
  ⟨I.ok.frames, I.ok.mod, I.bs, Nat.le_trans I.ok.bsz I.sz, I.stack, I.stkFree, I.hok, I.bare⟩
theorem Inv.after {Q : VK} {u : Value} (I : Inv X pins σ H s) (h : CE X.stack X.prog X.w H s Q u s') : EP X pins σ Q u s' := by
  obtain ⟨v, H', os, bare, un, hok, r, q⟩ := h
  obtain ⟨hh, g, d, t, os'⟩ := s'
  obtain rfl : os' = s.os := os
  exact ⟨v, H', I.call (h' := hh) (g' := g) (d' := d) (t' := t) (ch := []) un hok bare (fun b z => absurd z (by simp)), r, q⟩
end
def tCall (sp : Sp) (dvs : List V) (E : XK) (t : TA) : TE := fun σ H Q => t σ H fun vs H1 => sp (vs ++ dvs) H1 Q E
def tMeth (C : Addr) (m : Str) (sp : Sp) (dvs : List V) (E : XK) (ta : TE) (t : TA) : TE := fun σ H Q => ta σ H fun x H1 => ∃ a dx fs, x = .ref a ∧ H1 a = some (.ins C dx fs) ∧ fs.lookup m = none ∧
  t σ H1 fun vs H2 => sp (x :: (vs ++ dvs)) H2 Q E
def tMake (C : Addr) (sp : Sp) (dvs : List V) (E : XK) (t : TA) : TE := fun σ H Q => t σ H fun vs H1 => ∀ x dx, H1 x = none → H1 dx = none → dx ≠ x →
  sp (.ref x :: (vs ++ dvs)) (upd (upd H1 dx (.own x)) x (.ins C dx [])) (fun v H2 => v = .non ∧ Q (.ref x) H2) E
def Binds (K : PySem.W.Frag) (fd : FuncData) (ps : List Str) (ds : List Value) : Prop :=
  ∀ (s : Shared) (us : List Value), K.In s.heap → (us ++ ds).length = ps.length → BindsTo s fd ⟨us, []⟩ (ps.zip (us ++ ds))
theorem Binds.all {K : PySem.W.Frag} {fd : FuncData} {ps : List Str} (h : ∀ us : List Value, us.length = ps.length → bindArgs fd ⟨us, []⟩ = pure (ps.zip us)) : Binds K fd ps [] := fun s us _ hl => by
  rw [List.append_nil] at hl ⊢
  exact .of_eq (h us hl)
def Passes (CX : CXT) (X : Cx) (E : XK) : Prop := ∀ (pins : List (Addr × Obj)) (σ : St) (H : Hp) (s : Shared) (e : Value) (s' : Shared), Inv X pins σ H s → CX X.stack H s E e s' → X.xe e s'
section
variable {X : Cx} {CX : CXT} {k : Nat} {f C : Addr} {fd : FuncData} {ps : List Str} {sp : Sp} {dvs : List V} {ds : List Value} {E : XK} {x m : Str} {p pos apos : Pos} {e o : Expr} {es : List Expr} {ta : TE} {t : TA}
theorem run_fn {pins : List (Addr × Obj)} {σ : St} {H : Hp} {s : Shared} {Q : VK} {us : List Value} {vs : List V} (F : FnOk X.prog X.w X.K X.mg X.base CX k f fd ps sp) (hr : Room k X.A) (hb : Binds X.K fd ps ds) (hd : Vals dvs ds) (hx : Passes CX X E)
    (I : Inv X pins σ H s) (r : Vals vs us) (h : sp (vs ++ dvs) H Q E) : wpAny (model X.prog X.w) X.A (call (.ref f) us) (EP X pins σ Q) X.xe s := by
  have r2 : Vals (vs ++ dvs) (us ++ ds) := r.append hd
  have hl : (us ++ ds).length = ps.length := by rw [← r2.length]; exact F.len _ _ _ _ h
  refine wpAny_call (codeAny_mono (F.run X.A X.stack s H ⟨us, []⟩ (us ++ ds) (vs ++ dvs) Q E hr I.env0 (hb s us I.kIn hl) r2 h) fun r s' hq => ?_)
  cases r with
  | error e => exact hx pins σ H s e s' I hq
  | ok fl =>
    cases fl with
    | ret u => exact I.after hq
    | next => exact False.elim hq
    | brk => exact False.elim hq
    | cont => exact False.elim hq
theorem pe_call (F : FnOk X.prog X.w X.K X.mg X.base CX k f fd ps sp) (hr : Room k X.A) (hg : Gl X x) (hm : X.mg x = some (.ref f)) (hk : PySem.W.keepIn X.K (.ref f) = true) (hb : Binds X.K fd ps ds) (hd : Vals dvs ds) (hx : Passes CX X E)
    (ha : PA X (e :: es) t) (hdb : (x == ("__debug__" : Str)) = false := by decide) (he : starEach (e :: es) X.env = (false, eval e X.env) :: starEach es X.env := by rfl) (hpl : (backTo pos (starEach es X.env)).any (·.1) = false := by rfl) :
    PE X (.Call (.Name x p) (e :: es) [] pos) (tCall sp dvs E t) := by
  intro pins s σ H Q I h
  refine wpAny_Call_Name_kw (ld_glob I hg hm ?_ hdb)
  refine PySem.W.callWith_K (h₀ := X.base) I.ok.mod.kin hk (thn (ha pos pins s σ H _ I h) fun us s1 ⟨vs, H1, I1, r, q⟩ => ⟨I1.kIn, ?_⟩) he hpl
  exact run_fn F hr hb hd hx I1 r q
theorem pe_meth {pl : Sem Bool} (he : PE X o ta) (c : Cls X.K C) (hm : Meth X.K C m f) (F : FnOk X.prog X.w X.K X.mg X.base CX k f fd ps sp) (hr : Room k X.A) (hb : Binds X.K fd ps ds) (hd : Vals dvs ds) (hx : Passes CX X E) (ha : PA X (e :: es) t)
    (hst : starEach (e :: es) X.env = (false, eval e X.env) :: starEach es X.env := by rfl) (hpl : (backTo pos (starEach es X.env)).any (·.1) = false := by rfl)
    (ht : eval (.Call (.Attribute o m apos) (e :: es) [] pos) X.env = (do
      let ov ← eval o X.env
      standAt apos.atName
      let (f, first) ← holding [ov] (getMethod ov m pl)
      callWith pos f first (backTo pos (starEach (e :: es) X.env)) (backToKw pos (keywordEach [] X.env))) := by rfl) :
    PE X (.Call (.Attribute o m apos) (e :: es) [] pos) (tMeth C m sp dvs E ta t) := by
  intro pins s σ H Q I h
  refine PySem.W.methodCall_KW (pl := pl) (thn (he pins s σ H _ I h) fun u s1 ⟨x, H1, I1, rx, a, dx, fs, ex, ea, l, q⟩ => ?_) ht
  subst ex
  obtain rfl : u = Value.ref a := rx
  refine getmeth_ok I1 ea c hm l ?_
  refine PySem.W.callWith_K (first := [.ref a]) (h₀ := X.base) I.ok.mod.kin hm.kp (thn (ha pos pins s1 σ H1 _ I1 q) fun us s2 ⟨vs, H2, I2, r, q2⟩ => ⟨I2.kIn, ?_⟩) hst hpl
  exact run_fn (us := .ref a :: us) (vs := .ref a :: vs) F hr hb hd hx I2 (.cons rfl r) q2
theorem pe_meth0 {pl : Sem Bool} (he : PE X o ta) (c : Cls X.K C) (hm : Meth X.K C m f) (F : FnOk X.prog X.w X.K X.mg X.base CX k f fd ps sp) (hr : Room k X.A) (hb : Binds X.K fd ps ds) (hd : Vals dvs ds) (hx : Passes CX X E)
    (ht : eval (.Call (.Attribute o m apos) [] [] pos) X.env = (do
      let ov ← eval o X.env
      standAt apos.atName
      let (f, first) ← holding [ov] (getMethod ov m pl)
      callWith pos f first (backTo pos (starEach [] X.env)) (backToKw pos (keywordEach [] X.env))) := by rfl) :
    PE X (.Call (.Attribute o m apos) [] [] pos) (tMeth C m sp dvs E ta tNil) := by
  intro pins s σ H Q I h
  refine PySem.W.methodCall_KW (pl := pl) (thn (he pins s σ H _ I h) fun u s1 ⟨x, H1, I1, rx, a, dx, fs, ex, ea, l, q⟩ => ?_) ht
  subst ex
  obtain rfl : u = Value.ref a := rx
  refine getmeth_ok I1 ea c hm l ?_
  exact PySem.W.callWith_K0 (first := [.ref a]) I1.kIn hm.kp (run_fn (us := [.ref a]) (vs := [.ref a]) F hr hb hd hx I1 (.cons rfl .nil) q)
structure Mk (K : PySem.W.Frag) (C f : Addr) : Prop where
  makes : PySem.W.makesIn K C = true
  init : PySem.W.findIn K (.ref C) "__init__" = some (some (.ref f))
  fn : PySem.W.isFn K (.ref f) = true
  kp : PySem.W.keepIn K (.ref C) = true
theorem run_make {pins : List (Addr × Obj)} {σ : St} {H : Hp} {s : Shared} {Q : VK} {us : List Value} {vs : List V} (M : Mk X.K C f) (F : FnOk X.prog X.w X.K X.mg X.base CX k f fd ps sp) (hr : Room (k + 1) X.A) (hb : Binds X.K fd ps ds) (hd : Vals dvs ds)
    (hx : Passes CX X E) (I : Inv X pins σ H s) (r : Vals vs us)
    (h : ∀ x dx, H x = none → H dx = none → dx ≠ x → sp (.ref x :: (vs ++ dvs)) (upd (upd H dx (.own x)) x (.ins C dx [])) (fun v H2 => v = .non ∧ Q (.ref x) H2) E) :
    wpAny (model X.prog X.w) X.A (call (.ref C) us) (EP X pins σ Q) X.xe s := by
  have hq := h (s.heap.objs.size + 1) s.heap.objs.size (I.hok.fresh (Nat.le_succ _)) (I.hok.fresh (Nat.le_refl _)) (Nat.ne_of_lt (Nat.lt_succ_self _))
  have I2 := Inv.made (C := C) I
  have r2 : Vals (V.ref (s.heap.objs.size + 1) :: (vs ++ dvs)) (Value.ref (s.heap.objs.size + 1) :: (us ++ ds)) := .cons rfl (r.append hd)
  have hl : (Value.ref (s.heap.objs.size + 1) :: us ++ ds).length = ps.length := by
    have e := r2.length
    rw [F.len _ _ _ _ hq] at e
    exact e.symm
  refine wpAny_call (make_map (f := f) I.kIn M.makes M.init (beq_iff_eq.mp M.fn) (codeAny_mono (F.run _ X.stack _ _ ⟨Value.ref (s.heap.objs.size + 1) :: us, []⟩ (Value.ref (s.heap.objs.size + 1) :: (us ++ ds)) _ _ E (hr.make C us [])
    (I2.env0.make C us []) (hb _ (Value.ref (s.heap.objs.size + 1) :: us) I2.kIn hl) r2 hq) fun r s' hq' => ?_))
  cases r with
  | error e => exact hx pins σ _ _ e s' I2 hq'
  | ok fl =>
    cases fl with
    | ret u =>
      obtain ⟨v, H', I3, rv, ev, q3⟩ := I2.after hq'
      subst ev
      exact ⟨rv, ⟨V.ref (s.heap.objs.size + 1), H', I3, rfl, q3⟩⟩
    | next => exact False.elim hq'
    | brk => exact False.elim hq'
    | cont => exact False.elim hq'
theorem pe_make0 (M : Mk X.K C f) (F : FnOk X.prog X.w X.K X.mg X.base CX k f fd ps sp) (hr : Room (k + 1) X.A) (hg : Gl X x) (hm : X.mg x = some (.ref C)) (hb : Binds X.K fd ps ds) (hd : Vals dvs ds) (hx : Passes CX X E)
    (hdb : (x == ("__debug__" : Str)) = false := by decide) : PE X (.Call (.Name x p) [] [] pos) (tMake C sp dvs E tNil) := by
  intro pins s σ H Q I h
  refine wpAny_Call_Name_kw (ld_glob I hg hm ?_ hdb)
  exact PySem.W.callWith_K0 I.kIn M.kp (run_make (us := []) M F hr hb hd hx I .nil h)
end
def PK (X : Cx) (kws : List Keyword) (t : TA) : Prop :=
  ∀ (pos : Pos) (pins : List (Addr × Obj)) (s : Shared) (σ : St) (H : Hp) (Q : List V → Hp → Prop), Inv X pins σ H s → t σ H Q → wpAny (model X.prog X.w) X.A (evalAll ((backToKw pos (keywordEach kws X.env)).map (·.2))) (AP X pins σ Q) X.xe s
section
variable {X : Cx} {CX : CXT} {k : Nat} {f C : Addr} {fd : FuncData} {ps ks : List Str} {sp : Sp} {E : XK} {x m : Str} {p pos apos kpos : Pos} {e o : Expr} {es : List Expr} {kws : List Keyword} {te ta : TE} {t tk : TA} {nm : Option Str}
theorem pk_nil : PK X [] tNil := fun _ _ _ _ H Q I h => wpAny_evalAll_nil ⟨[], H, I, .nil, h⟩
theorem pk_cons (ha : PE X e te) (hr : PK X kws t) : PK X (⟨nm, e, kpos⟩ :: kws) (tCons te t) := by
  intro pos pins s σ H Q I h
  show wpAny _ _ (evalAll ((do let v ← eval e X.env; standAt pos; pure v) :: (backToKw pos (keywordEach kws X.env)).map (·.2))) _ _ s
  refine wpAny_evalAll_cons (wpAny_bind (thn (ha pins s σ H _ I h) fun u s1 ⟨x, H1, I1, r1, q1⟩ => wpAny_bind (wpAny_standAt (wpAny_pure ?_))))
  exact thn (hr pos pins s1 σ H1 _ I1 q1) fun us s2 ⟨xs, H2, I2, r2, q2⟩ => ⟨x :: xs, H2, I2, .cons r1 r2, q2⟩
structure KBinds (K : PySem.W.Frag) (fd : FuncData) (ps ks : List Str) (g : List Value → List Value → List Value) (gV : List V → List V → List V) : Prop where
  to : ∀ (s : Shared) (us ws : List Value), K.In s.heap → (g us ws).length = ps.length → BindsTo s fd ⟨us, ks.zip ws⟩ (ps.zip (g us ws))
  rel : ∀ {vs : List V} {us : List Value} {zs : List V} {ws : List Value}, Vals vs us → Vals zs ws → Vals (gV vs zs) (g us ws)
variable {g : List Value → List Value → List Value} {gV : List V → List V → List V}
end
structure FnScope (N P : List Str) (sc : Scope) : Prop where
  kind : sc.kind = .function
  co : sc.isCoroutine = false
  gen : sc.isGenerator = false
  nd : N.Nodup
  pre : N.take P.length = P
  par : ∀ x ∈ P, sc.names.lookup x = some .local ∨ sc.names.lookup x = some .cell
  nofree : ∀ y ∈ sc.names, y.2 ≠ .free
theorem bindL_out {kindOf : Str → Option NameKind} {x : Str} : ∀ {binds : List (Str × Value)} {m : Str → Option Value}, (∀ v, (x, v) ∉ binds) → bindL kindOf binds m x = m x
  | [], _, _ => rfl
  | (n, v) :: r, m, h => by
    unfold bindL
    rw [bindL_out fun w hw => h w (List.mem_cons_of_mem _ hw)]
    split
    · have : x ≠ n := by rintro rfl; exact h v List.mem_cons_self
      simp [this]
    · rfl
theorem bindC_out {kindOf : Str → Option NameKind} {x : Str} : ∀ {binds : List (Str × Value)} {m : Str → Option Value}, (∀ v, (x, v) ∉ binds) → bindC kindOf binds m x = m x
  | [], _, _ => rfl
  | (n, v) :: r, m, h => by
    unfold bindC
    rw [bindC_out fun w hw => h w (List.mem_cons_of_mem _ hw)]
    split
    · rfl
    · have : x ≠ n := by rintro rfl; exact h v List.mem_cons_self
      simp [this]
theorem bindL_get {kindOf : Str → Option NameKind} {x : Str} {v : Value} : ∀ {P : List Str} {vs : List Value} {i : Nat} {m : Str → Option Value}, P.Nodup → P[i]? = some x → vs[i]? = some v → kindOf x = some .local →
    bindL kindOf (P.zip vs) m x = some v
  | [], _, _, _, _, h, _, _ => by simp at h
  | _ :: _, [], _, _, _, _, h, _ => by simp at h
  | p :: P, w :: vs, 0, m, nd, h1, h2, hk => by
    simp at h1 h2; subst h1; subst h2
    show bindL kindOf ((p, w) :: P.zip vs) m p = _
    unfold bindL
    rw [bindL_out fun v hv => (List.nodup_cons.mp nd).1 (List.of_mem_zip hv).1, if_pos hk]
    simp
  | p :: P, w :: vs, i + 1, m, nd, h1, h2, hk => by
    show bindL kindOf ((p, w) :: P.zip vs) m x = _
    unfold bindL
    exact bindL_get (i := i) (List.nodup_cons.mp nd).2 (by simpa using h1) (by simpa using h2) hk
theorem bindC_get {kindOf : Str → Option NameKind} {x : Str} {v : Value} : ∀ {P : List Str} {vs : List Value} {i : Nat} {m : Str → Option Value}, P.Nodup → P[i]? = some x → vs[i]? = some v → kindOf x ≠ some .local →
    bindC kindOf (P.zip vs) m x = some v
  | [], _, _, _, _, h, _, _ => by simp at h
  | _ :: _, [], _, _, _, _, h, _ => by simp at h
  | p :: P, w :: vs, 0, m, nd, h1, h2, hk => by
    simp at h1 h2; subst h1; subst h2
    show bindC kindOf ((p, w) :: P.zip vs) m p = _
    unfold bindC
    rw [bindC_out fun v hv => (List.nodup_cons.mp nd).1 (List.of_mem_zip hv).1, if_neg hk]
    simp
  | p :: P, w :: vs, i + 1, m, nd, h1, h2, hk => by
    show bindC kindOf ((p, w) :: P.zip vs) m x = _
    unfold bindC
    exact bindC_get (i := i) (List.nodup_cons.mp nd).2 (by simpa using h1) (by simpa using h2) hk
def start (N : List Str) (vs : List V) : St := vs.map some ++ List.replicate (N.length - vs.length) none
def cxOf (CX : CXT) (P : Program) (w : World) (K : PySem.W.Frag) (mg : Str → Option Value) (base : Heap) (N : List Str) (qual : Str) (scope : Scope) (f : Addr) (cd : Value) (A : Around) (outer : List Env) (s : Shared) (H : Hp) (E : XK) : Cx where
  prog := P
  w := w
  K := K
  mg := mg
  base := base
  A := A.deeper (envOfC qual scope s.heap.objs.size f cd)
  N := N
  s₀ := s
  H₀ := H
  env := envOfC qual scope s.heap.objs.size f cd
  outer := outer
  stack := envOfC qual scope s.heap.objs.size f cd :: outer
  ex := []
  calm := true
  fn := fun _ => true
  pn := []
  xe := fun e s' => wpAny (model P w) (A.deeper (envOfC qual scope s.heap.objs.size f cd)) (leaving (envOfC qual scope s.heap.objs.size f cd) e) (fun _ s'' => CX outer H s E e s'') (fun e' s'' => CX outer H s E e' s'') s'
theorem cell_has {sc : Scope} {n : Nat} {x : Str} (h : sc.names.lookup x = some .cell) : ∃ c, (cellsFrom n sc.names []).lookup x = some c := by
  have q := PySem.W.cellsFrom_some sc.names n [] (.inl h)
  exact Option.isSome_iff_exists.mp q
theorem inv_start {CX : CXT} {P : Program} {w : World} {K : PySem.W.Frag} {mg : Str → Option Value} {base : Heap} {N ps : List Str} {qual : Str} {scope : Scope} {f : Addr} {cd : Value} {A : Around} {outer : List Env} {s s1 : Shared} {H : Hp} {E : XK} {us : List Value} {vs : List V}
    (S : FnScope N ps scope) (hd : A.handled = none) (e0 : Env0 P w K mg base A outer s H) (hl : vs.length = ps.length) (r : Vals vs us)
    (x : InCallC s s.heap.objs.size (bindL (envOfC qual scope s.heap.objs.size f cd).kindOf (ps.zip us) fun _ => none) (cellsFrom (s.heap.objs.size + 1) scope.names []) (bindC (envOfC qual scope s.heap.objs.size f cd).kindOf (ps.zip us) fun _ => none) s1) :
    Inv (cxOf CX P w K mg base N qual scope f cd A outer s H E) [] (start N vs) H s1 := by
  have hpl : ps.length ≤ N.length := by have := congrArg List.length S.pre; rw [List.length_take] at this; omega
  obtain ⟨h1, tk, rfl, hk⟩ := x.done
  have noA : ∀ b : Addr, b ∉ (cxOf CX P w K mg base N qual scope f cd A outer s H E).ex := fun b z => absurd (show b ∈ ([] : List Addr) from z) (by simp)
  refine ⟨⟨e0.mod, S.kind, rfl, rfl, Nat.le_refl _, fun y z c h1 h2 => ?_, fun y hy => ?_, fun y c _ h => ?_, fun _ => hd, Around.frames_deeper e0.frames, .inr ⟨rfl, rfl⟩, fun b z => absurd z (noA b), e0.bs, e0.bsz, fun b _ _ => noA b, fun b z => absurd z (noA b), e0.funs, e0.frf⟩,
    rfl, e0.bare, Un.kept hk, ⟨_, x.toInCall.ns, fun i y v h1 h2 h3 => ?_⟩, fun y c h => ⟨_, x.cell y c h⟩, e0.hok.fresh (Nat.le_refl _), fun y c h => ?_, fun p hp => absurd (show p ∈ ([] : List (Addr × Obj)) from hp) (by simp), e0.hok.kept hk, ?_⟩
  · exact name_of_addr x.apart (PySem.mem_of_lookup h1) (PySem.mem_of_lookup h2)
  · have hy : scope.names.lookup y = some .cell ∨ scope.names.lookup y = some .free := hy
    rcases hy with hy | hy
    · exact cell_has hy
    · exact absurd rfl (S.nofree _ (PySem.mem_of_lookup hy))
  · exact Nat.le_of_lt (x.above y c (PySem.mem_of_lookup h))
  · have hi : i < vs.length := by
      unfold start at h2
      by_cases hi : i < vs.length
      · exact hi
      · rw [List.getElem?_append_right (by simpa using hi)] at h2
        rw [List.getElem?_replicate] at h2
        split at h2 <;> cases h2
    have ha : vs[i]? = some v := by
      unfold start at h2
      rw [List.getElem?_append_left (by simpa using hi), List.getElem?_map] at h2
      cases e : vs[i]? with
      | none => rw [e] at h2; cases h2
      | some a => rw [e] at h2; cases h2; rfl
    obtain ⟨u, hu, rv⟩ := r.get ha
    have hp : ps[i]? = some y := by
      rw [← S.pre, List.getElem?_take_of_lt (by omega)]; exact h1
    have ndP : ps.Nodup := by rw [← S.pre]; exact S.nd.sublist (List.take_sublist _ _)
    refine ⟨u, rv, ?_⟩
    rcases S.par y (List.mem_of_getElem? hp) with k | k
    · exact .inl ⟨k, bindL_get ndP hp hu k⟩
    · obtain ⟨c, e⟩ := cell_has (n := s.heap.objs.size + 1) k
      refine .inr ⟨.inl k, c, e, ?_⟩
      have q := x.cell y c e
      rw [bindC_get ndP hp hu (by show scope.names.lookup y ≠ _; rw [k]; decide)] at q
      exact q
  · exact e0.hok.fresh (Nat.le_of_lt (x.above y c (PySem.mem_of_lookup h)))
  · unfold start
    show _ = N.length
    rw [List.length_append, List.length_map, List.length_replicate]
    omega
theorem fn_of {CX : CXT} {P : Program} {w : World} {K : PySem.W.Frag} {mg : Str → Option Value} {base : Heap} {k : Nat} {f : Addr} {name qual : Str} {params : Arguments} {body : List Stmt} {scope : Scope} {dV kV doc pm cdv ct oc : Value} {an od : Option Addr}
    {osl : Array (Option Value)} {N ps : List Str} {sp : Sp} (lk : K.lookup f = some ⟨oc, od, .func (PySem.W.fnOf name qual params body scope dV kV doc pm an cdv ct), osl⟩) (hcd : PySem.W.codeIn K cdv qual = true) (S : FnScope N ps scope)
    (len : ∀ vs H Q E, sp vs H Q E → vs.length = ps.length)
    (hbody : ∀ (A : Around) (outer : List Env) (s : Shared) (H : Hp) (vs : List V) (Q : VK) (E : XK), Room k (A.deeper (envOfC qual scope s.heap.objs.size f cdv)) → sp vs H Q E →
      ∃ t, PSs (cxOf CX P w K mg base N qual scope f cdv A outer s H E) body t ∧ t { nx := fun _ H' => Q .non H', rt := Q } (start N vs) H) :
    FnOk P w K mg base CX (k + 1) f (PySem.W.fnOf name qual params body scope dV kV doc pm an cdv ct) ps sp := by
  refine ⟨len, fun A outer s H args us vs Q E hr e0 hb r hsp => ?_⟩
  have hl := len _ _ _ _ hsp
  have KX : K.In s.heap := e0.mod.kin.keeps fun b o e => (e0.bs b o e).1
  have lim : s.heap.NoLimit := e0.mod.nolimit.keeps fun b o e => (e0.bs b o e).1
  have hkind : ∀ y ∈ ps.zip us, scope.names.lookup y.1 = some .local ∨ (scope.names.lookup y.1 = some .cell ∧ ((cellsFrom (s.heap.objs.size + 1) scope.names []).lookup y.1).isSome = true) := fun ⟨n, v⟩ hy => by
    rcases S.par n (List.of_mem_zip hy).1 with q | q
    · exact .inl q
    · exact .inr ⟨q, PySem.W.cellsFrom_some _ _ _ (.inl q)⟩
  refine codeAny_call_function hr.depth (KX _ _ lk) rfl S.co S.gen rfl (PySem.W.codeRec_of KX hcd) (hb _ _ _ _ ?_)
  refine wpAny_newFunctionEnv_cells S.kind hkind fun env he s1 x => ?_
  subst he
  refine ⟨lim.keeps x.toInCall.keep, codeAny_func ?_⟩
  obtain ⟨t, ht, hq⟩ := hbody A outer s H vs Q E (hr.deeper _) hsp
  have I : Inv (cxOf CX P w K mg base N qual scope f cdv A outer s H E) [] (start N vs) H s1 := inv_start S hr.hd e0 hl r x
  refine wpAny_mono (ht [] s1 (start N vs) H _ I hq) (fun fl s' hs => ?_) fun e s' hs => hs
  have fin : ∀ {σ' : St} {H' : Hp} {v : V} {u : Value}, Inv (cxOf CX P w K mg base N qual scope f cdv A outer s H E) [] σ' H' s' → RelV v u → Q v H' → CE outer P w H s Q u s' :=
    fun {σ' H' v u} J rv q => ⟨v, H', J.os, J.bare, J.base, J.hok, rv, q⟩
  cases fl with
  | ret u =>
    obtain ⟨v, σ', H', J, rv, q⟩ := hs
    exact fin J rv q
  | next =>
    obtain ⟨σ', H', J, q⟩ := hs
    exact fin (v := V.non) (u := Value.none) J rfl q
  | brk =>
    obtain ⟨_, _, _, q⟩ := hs
    exact False.elim q
  | cont =>
    obtain ⟨_, _, _, q⟩ := hs
    exact False.elim q
end L2
namespace L2
open PySem PySem.Spec PyProof.Rows
section
variable {X : Cx} {x : Str} {p pos : Pos} {e : Expr} {es : List Expr} {t : TA} {id T : String} {r : List V → Hp → VK → Prop}
def tCB (r : List V → Hp → VK → Prop) (t : TA) : TE := fun σ H Q => t σ H fun vs H1 => r vs H1 Q
theorem pe_callB (hc : CallR X (.builtin id) r) (hg : Gl X x) (hm : X.mg x = none) (hv : bootBuiltins x = some (.builtin id)) (ha : PA X (e :: es) t) (hn : x ≠ "__name__" := by decide) (hdb : (x == ("__debug__" : Str)) = false := by decide)
    (he : starEach (e :: es) X.env = (false, eval e X.env) :: starEach es X.env := by rfl) (hpl : (backTo pos (starEach es X.env)).any (·.1) = false := by rfl) : PE X (.Call (.Name x p) (e :: es) [] pos) (tCB r t) := by
  intro pins s σ H Q I h
  refine wpAny_Call_Name_kw (ld_blt I hg hm hv ?_ hn hdb)
  exact PyProof.Rows.callWith_builtin1 (thn (ha pos pins s σ H _ I h) fun us s1 ⟨vs, H1, I1, r1, q1⟩ => hc pins s1 σ H1 vs us Q I1 r1 q1) he hpl
theorem pe_callTy (hc : CallR X (.type T) r) (hg : Gl X x) (hm : X.mg x = none) (hv : bootBuiltins x = some (.type T)) (ha : PA X (e :: es) t) (hn : x ≠ "__name__" := by decide) (hdb : (x == ("__debug__" : Str)) = false := by decide)
    (he : starEach (e :: es) X.env = (false, eval e X.env) :: starEach es X.env := by rfl) (hpl : (backTo pos (starEach es X.env)).any (·.1) = false := by rfl) : PE X (.Call (.Name x p) (e :: es) [] pos) (tCB r t) := by
  intro pins s σ H Q I h
  refine wpAny_Call_Name_kw (ld_blt I hg hm hv ?_ hn hdb)
  exact PyProof.Rows.callWith_type1 (thn (ha pos pins s σ H _ I h) fun us s1 ⟨vs, H1, I1, r1, q1⟩ => hc pins s1 σ H1 vs us Q I1 r1 q1) he hpl
end
end L2
namespace HT
open PySem PyProof.Rows
section
open PySem.SeqAt
open PySem.AutoSeq1 (wpAny_loadPart')
open PySem.MeetsSeq PySem.MeetsSeq2 PySem.MeetsSeq3
end
section
variable {prog : Program} {w : World} {A : Around} {E : Value → Shared → Prop} {s : Shared}
def sIx (n d : Nat) : Option Int → Nat
  | none => d
  | some v => if v < 0 then (v + (n : Int)).toNat else min v.toNat n
theorem sIx_nat (n d k : Nat) : sIx n d (some (k : Int)) = min k n := by
  show (if (k : Int) < 0 then ((k : Int) + (n : Int)).toNat else min (k : Int).toNat n) = min k n
  rw [if_neg (by omega), Int.toNat_natCast]
end
end HT
namespace L2
open PySem PySem.Spec PyProof.Rows
abbrev TO := St → Hp → (Option Int → Hp → Prop) → Prop
def PO (X : Cx) (e : Option Expr) (t : TO) : Prop :=
  ∀ (pins : List (Addr × Obj)) (s : Shared) (σ : St) (H : Hp) (Q : Option Int → Hp → Prop), Inv X pins σ H s → t σ H Q →
    wpAny (model X.prog X.w) X.A (evalPart e X.env) (fun u s' => ∃ o H', Inv X pins σ H' s' ∧ IsPart u o ∧ Q o H') X.xe s
def tNoPart : TO := fun _ H Q => Q none H
def tPart (t : TE) : TO := fun σ H Q => t σ H fun x H1 => ∃ i, x = .int i ∧ Q (some i) H1
theorem intsAre_of {ns : List Int} : ∀ {us : List Value}, Vals (ns.map V.int) us → IntsAre us ns := by
  induction ns with
  | nil => intro us r; rw [List.map_nil] at r; cases r; exact .nil
  | cons n ns ih =>
    intro us r
    rw [List.map_cons] at r
    cases r with
    | cons r1 r2 =>
      obtain ⟨t, e⟩ := r1
      subst e
      exact .cons n t (ih r2)
section
variable {X : Cx} {e : Expr} {te : TE} {lo hi : Option Expr} {tl th : TO} {pos p2 : Pos}
theorem po_none : PO X none tNoPart := by
  intro pins s σ H Q I h
  rw [evalPart_none]
  exact wpAny_pure ⟨none, H, I, .none, h⟩
theorem po_some (h : PE X e te) : PO X (some e) (tPart te) := by
  intro pins s σ H Q I hw
  rw [evalPart_some]
  refine thn (h pins s σ H _ I hw) fun u s1 ⟨x, H1, I1, r1, q1⟩ => ?_
  obtain ⟨i, rfl, q⟩ := q1
  obtain ⟨t, rfl⟩ := r1
  exact ⟨some i, H1, I1, .int i t, q⟩
def SlR (X : Cx) (r : V → Option Int → Option Int → Hp → VK → Prop) : Prop :=
  ∀ (pins : List (Addr × Obj)) (s : Shared) (σ : St) (H : Hp) (x : V) (v vl vu : Value) (lo hi : Option Int) (sl : Addr) (Q : VK), Inv X pins σ H s → RelV x v → s.heap.IsSliceOf sl vl vu .none → IsPart vl lo → IsPart vu hi → r x lo hi H Q →
    ∃ T id, typeLookup (.type T) "__getitem__" = pure (some (.builtin id)) ∧ s.TypeIs v T ∧ wpAny (model X.prog X.w) X.A (getItem v (.ref sl)) (EP X pins σ Q) X.xe s
theorem SlR.or {r r' : V → Option Int → Option Int → Hp → VK → Prop} (h : SlR X r) (h' : SlR X r') : SlR X (fun x lo hi H Q => r x lo hi H Q ∨ r' x lo hi H Q) := by
  intro pins s σ H x v vl vu lo hi sl Q I rx hs pl pu q
  rcases q with q | q
  · exact h pins s σ H x v vl vu lo hi sl Q I rx hs pl pu q
  · exact h' pins s σ H x v vl vu lo hi sl Q I rx hs pl pu q
def tSl (r : V → Option Int → Option Int → Hp → VK → Prop) (te : TE) (tl th : TO) : TE := fun σ H Q => te σ H fun x H1 => tl σ H1 fun l H2 => th σ H2 fun u H3 => r x l u H3 Q
theorem pe_slice {r : V → Option Int → Option Int → Hp → VK → Prop} (hr : SlR X r) (he : PE X e te) (hl : PO X lo tl) (hu : PO X hi th) : PE X (.Subscript e (.Slice lo hi none p2) pos) (tSl r te tl th) := by
  intro pins s σ H Q I h
  refine Subscript_ (thn (he pins s σ H _ I h) fun v s1 ⟨x, H1, I1, r1, q1⟩ => ?_)
  refine wpAny_Slice (thn (hl pins s1 σ H1 _ I1 q1) fun vl s2 ⟨l, H2, I2, pl, q2⟩ => thn (hu pins s2 σ H2 _ I2 q2) fun vu s3 ⟨u, H3, I3, pu, q3⟩ => ?_)
  rw [evalPart_none]
  refine wpAny_pure ?_
  have I4 : Inv X pins σ H3 { s3 with heap := s3.heap.push { cls := .type "slice", data := .fields #[vl, vu, .none] } } := I3.kept (t' := s3.toks) fun b ob q => Heap.get?_push_of_some _ q
  obtain ⟨T, id, hT, ht, hg⟩ := hr pins { s3 with heap := s3.heap.push { cls := .type "slice", data := .fields #[vl, vu, .none] } } σ H3 x v vl vu l u s3.heap.objs.size Q I4 r1 (Heap.IsSliceOf.new ..) pl pu q3
  show wpAny (model X.prog X.w) X.A (subscriptTail e (.Slice lo hi none p2) v (.ref s3.heap.objs.size)) (EP X pins σ Q) X.xe { s3 with heap := s3.heap.push { cls := .type "slice", data := .fields #[vl, vu, .none] } }
  exact tail_any (ops := [.ref s3.heap.objs.size, v]) ht hT hg (by with_unfolding_all rfl)
def cutV (xs : List V) (lo hi : Option Int) : List V := (xs.drop (HT.sIx xs.length 0 lo)).take (HT.sIx xs.length xs.length hi - HT.sIx xs.length 0 lo)
theorem cutV_length (xs : List V) (lo hi : Option Int) : (cutV xs lo hi).length ≤ xs.length := by
  unfold cutV
  rw [List.length_take, List.length_drop]
  omega
end
end L2
namespace L2
open PySem PySem.Spec PyProof.Rows
def ixN (n : Nat) (i : Int) : Option Nat := if 0 ≤ i then (if i < n then some i.toNat else none) else if -(n : Int) ≤ i then some (i + n).toNat else none
def atI {α : Type} (xs : List α) (i : Int) : Option α := (ixN xs.length i).bind fun j => xs[j]?
theorem ixN_seq {n : Nat} {i : Int} {j : Nat} (h : ixN n i = some j) : seqIndex? i n = some j ∧ j < n ∧ -(n : Int) ≤ i ∧ i < n := by
  unfold ixN at h
  by_cases h0 : 0 ≤ i
  · rw [if_pos h0] at h
    by_cases h1 : i < n
    · rw [if_pos h1] at h
      have e : i.toNat = j := Option.some.inj h
      exact ⟨by rw [seqIndex_of h0 h1, e], by omega, by omega, h1⟩
    · rw [if_neg h1] at h; cases h
  · rw [if_neg h0] at h
    by_cases h1 : -(n : Int) ≤ i
    · rw [if_pos h1] at h
      have e : (i + n).toNat = j := Option.some.inj h
      exact ⟨by rw [seqIndex_neg (by omega) h1, e], by omega, h1, by omega⟩
    · rw [if_neg h1] at h; cases h
theorem atI_get {α : Type} {xs : List α} {i : Int} {v : α} (h : atI xs i = some v) : ∃ j, seqIndex? i xs.length = some j ∧ xs[j]? = some v ∧ j < xs.length ∧ -(xs.length : Int) ≤ i ∧ i < xs.length := by
  unfold atI at h
  cases e : ixN xs.length i with
  | none => rw [e] at h; cases h
  | some j =>
    rw [e] at h
    obtain ⟨h1, h2, h3, h4⟩ := ixN_seq e
    exact ⟨j, h1, h, h2, h3, h4⟩
theorem atI_nat {α : Type} {xs : List α} {j : Nat} {v : α} (h : xs[j]? = some v) : atI xs (j : Int) = some v := by
  have hj : j < xs.length := (List.getElem?_eq_some_iff.mp h).1
  have e : ixN xs.length (j : Int) = some j := by
    unfold ixN
    rw [if_pos (by omega), if_pos (by omega)]; simp
  unfold atI; rw [e]; exact h
theorem atI_last {α : Type} (xs : List α) (v : α) : atI (xs ++ [v]) (-1) = some v := by
  have hl : (xs ++ [v]).length = xs.length + 1 := by simp
  have e : ixN (xs ++ [v]).length (-1) = some xs.length := by
    unfold ixN
    rw [hl, if_neg (by decide), if_pos (by omega)]
    congr 1
    omega
  unfold atI
  rw [e]
  show (xs ++ [v])[xs.length]? = some v
  simp
def PlainIx (b : Expr) : Prop := ∀ o i, subscripted b false o i = operate [o, i] (getItem o i)
def IxR (X : Cx) (r : R2) : Prop :=
  ∀ (value slice : Expr) (pins : List (Addr × Obj)) (s : Shared) (σ : St) (H : Hp) (x y : V) (v u : Value) (Q : VK), Inv X pins σ H s → RelV x v → RelV y u → r x y H Q →
    subscripted slice false v u = operate [v, u] (getItem v u) → wpAny (model X.prog X.w) X.A (subscriptTail value slice v u) (EP X pins σ Q) X.xe s
def MtR (X : Cx) (id : String) (r : V → List V → Hp → VK → Prop) : Prop :=
  ∀ (pins : List (Addr × Obj)) (s : Shared) (σ : St) (H : Hp) (x : V) (xs : List V) (v : Value) (us : List Value) (Q : VK), Inv X pins σ H s → RelV x v → Vals xs us → r x xs H Q →
    wpAny (model X.prog X.w) X.A (call (.builtin id) (v :: us)) (EP X pins σ Q) X.xe s
section
variable {X : Cx} {a b : Expr} {ta tb : TE} {pos : Pos}
theorem IxR.or {r r' : R2} (h : IxR X r) (h' : IxR X r') : IxR X (fun x y H Q => r x y H Q ∨ r' x y H Q) := by
  intro value slice pins s σ H x y v u Q I rx ry q hs
  rcases q with q | q
  · exact h value slice pins s σ H x y v u Q I rx ry q hs
  · exact h' value slice pins s σ H x y v u Q I rx ry q hs
theorem MtR.or {id : String} {r r' : V → List V → Hp → VK → Prop} (h : MtR X id r) (h' : MtR X id r') : MtR X id (fun x xs H Q => r x xs H Q ∨ r' x xs H Q) := by
  intro pins s σ H x xs v us Q I rx rs q
  rcases q with q | q
  · exact h pins s σ H x xs v us Q I rx rs q
  · exact h' pins s σ H x xs v us Q I rx rs q
theorem pe_ix {r : R2} (hr : IxR X r) (ha : PE X a ta) (hb : PE X b tb) (hs : PlainIx b) : PE X (.Subscript a b pos) (tOp r ta tb) := by
  intro pins s σ H Q I h
  exact Subscript_ (binT ha hb I h fun v u s2 x y H2 I2 rx ry q => hr a b pins s2 σ H2 x y v u Q I2 rx ry q (hs _ _))
def rIxL (K : PySem.W.Frag) : R2 := fun x y H Q => ∃ p xs i v, x = .ref p ∧ y = .int i ∧ SqL K H p xs ∧ atI xs i = some v ∧ Q v H
def rIxT (K : PySem.W.Frag) : R2 := fun x y H Q => ∃ p xs i v, x = .ref p ∧ y = .int i ∧ SqT K H p xs ∧ atI xs i = some v ∧ Q v H
def rIxS : R2 := fun x y H Q => ∃ z i c, x = .str z ∧ y = .int i ∧ z.length ≤ sizeLine ∧ atI z.cps.toList i = some c ∧ Q (.str ⟨#[c]⟩) H
theorem ix_list : IxR X (rIxL X.K) := by
  intro value slice pins s σ H x y v u Q I rx ry h hs
  obtain ⟨p, xs, i, z, rfl, rfl, hq, he, q⟩ := h
  cases rx
  obtain ⟨t, rfl⟩ := ry
  obtain ⟨its, r, pl, hz⟩ := I.list hq
  obtain ⟨j, h1, h2, h3, h4, h5⟩ := atI_get he
  obtain ⟨w, ew, rw'⟩ := r.get h2
  have hl := r.length
  have hn := line63
  have fin : EP X pins σ Q w s := ⟨z, H, I, rw', q⟩
  by_cases h0 : 0 ≤ i
  · have hj : i.toNat = j := by
      rw [seqIndex_of h0 h5] at h1
      exact Option.some.inj h1
    exact item_listR pl.isList h0 (by omega) (by rw [hj]; simpa using ew) fin hs
  · have hj : (i + (its.toArray.size : Int)).toNat = j := by
      rw [seqIndex_neg (by omega) h4] at h1
      rw [List.size_toArray, ← hl]
      exact Option.some.inj h1
    exact subscriptTail_builtinR (x := w) pl.isList.typeIs slot_list_getitem.lookup
      (wpAny_getItem_list_neg (Q := fun r s' => r = w ∧ EP X pins σ Q r s') pl.isList (by omega) (by rw [List.size_toArray] <;> omega) (by omega) (by rw [hj]; simpa using ew) ⟨rfl, fin⟩) hs
theorem ix_tup : IxR X (rIxT X.K) := by
  intro value slice pins s σ H x y v u Q I rx ry h hs
  obtain ⟨p, xs, i, z, rfl, rfl, hq, he, q⟩ := h
  cases rx
  obtain ⟨t, rfl⟩ := ry
  obtain ⟨its, r, pl, hz⟩ := I.tuple hq
  obtain ⟨j, h1, h2, h3, h4, h5⟩ := atI_get he
  obtain ⟨w, ew, rw'⟩ := r.get h2
  have hl := r.length
  have hn := line63
  have fin : EP X pins σ Q w s := ⟨z, H, I, rw', q⟩
  exact subscriptTail_builtinR (x := w) pl.typeIs slot_tuple_getitem.lookup
    (getItem_tuple (j := j) (Q := fun r s' => r = w ∧ EP X pins σ Q r s') pl (by omega) (by omega) (by rw [List.size_toArray, ← hl]; exact h1) (by simpa using ew) ⟨rfl, fin⟩) hs
theorem ix_str : IxR X rIxS := by
  intro value slice pins s σ H x y v u Q I rx ry h hs
  obtain ⟨z, i, c, rfl, rfl, hz, he, q⟩ := h
  obtain ⟨t, rfl⟩ := rx
  obtain ⟨t', rfl⟩ := ry
  obtain ⟨j, h1, h2, h3, h4, h5⟩ := atI_get he
  have hl : z.cps.toList.length = z.length := by simp [Str.length]
  rw [hl] at h1 h4 h5
  have hn := line63
  exact tail_any (typeIs_str s z t) slot_str_getitem.lookup (getItem_str (c := c) (by
    have e1 : decide (i < -(2 ^ 63 : Int)) = false := decide_eq_false (by omega)
    have e2 : decide (i ≥ 2 ^ 63) = false := decide_eq_false (by omega)
    rw [e1, e2, Bool.or_false]) (by rw [h1]; simpa using h2) ⟨.str ⟨#[c]⟩, H, I.tok _, ⟨_, rfl⟩, q⟩) hs
theorem mapSeq_set (its : List Value) (n j : Nat) (u : Value) : Obj.mapSeq (·.setIfInBounds j u) { cls := .type "list", data := .seq its.toArray n } = { cls := .type "list", data := .seq (its.set j u).toArray n } := by
  simp [Obj.mapSeq]
theorem Inv.lst {pins : List (Addr × Obj)} {σ : St} {H : Hp} {s : Shared} {p : Addr} {xs : List V} (I : Inv X pins σ H s) (h : H p = some (.lst xs)) :
    ∃ (its : List Value) (n : Nat), Vals xs its ∧ s.heap.get? p = some { cls := .type "list", data := .seq its.toArray n } ∧ xs.length ≤ sizeLine := by
  obtain ⟨z, its, n, r, e⟩ := I.hok p _ h
  exact ⟨its, n, r, e, z⟩
theorem Inv.lstUpd {pins : List (Addr × Obj)} {σ : St} {H : Hp} {s : Shared} {p : Addr} {xs ys : List V} {its its' : List Value} {n n' : Nat} {f : Obj → Obj} (I : Inv X pins σ H s) (h : H p = some (.lst xs))
    (ho : s.heap.get? p = some { cls := .type "list", data := .seq its.toArray n }) (hf : f { cls := .type "list", data := .seq its.toArray n } = { cls := .type "list", data := .seq its'.toArray n' }) (r : Vals ys its') (hz : ys.length ≤ sizeLine) (t : Nat) :
    Inv X pins σ (upd H p (.lst ys)) { s with heap := s.heap.update p f, toks := t } := by
  have e : (s.heap.update p f).get? p = some { cls := .type "list", data := .seq its'.toArray n' } := by
    rw [Heap.get?_update_self f ho (by rw [hf] <;> rfl), hf]
  refine I.write (x := p) (e := p) (by rw [h]; trivial) (.inl rfl) (fun b u hb q => (Heap.get?_update_other _ _ (Ne.symm hb)).trans q) ⟨_, e⟩ ?_
  exact ⟨hz, its', n', r, e⟩
def rSetL : V → V → V → Hp → (Hp → Prop) → Prop := fun o i v H Q => ∃ p xs k j, o = .ref p ∧ i = .int k ∧ H p = some (.lst xs) ∧ ixN xs.length k = some j ∧ Q (upd H p (.lst (xs.set j v)))
theorem set_list : PSet X rSetL := by
  intro pins s σ H o i v ov iv u Q I ro ri rv h
  obtain ⟨p, xs, k, j, rfl, rfl, hp, hj, q⟩ := h
  cases ro
  obtain ⟨t, rfl⟩ := ri
  obtain ⟨its, n, r, ho, hz⟩ := I.lst hp
  obtain ⟨h1, h2, h3, h4⟩ := ixN_seq hj
  have hl := r.length
  have hn := line63
  have I' : Inv X pins σ (upd H p (.lst (xs.set j v))) { s with heap := s.heap.update p (Obj.mapSeq (·.setIfInBounds j u)) } :=
    I.lstUpd hp ho (mapSeq_set its n j u) (r.set rv j) (by rw [List.length_set]; exact hz) s.toks
  by_cases h0 : 0 ≤ k
  · have hk : k.toNat = j := by
      rw [seqIndex_of h0 h4] at h1
      exact Option.some.inj h1
    exact PySem.W.ki_setAt ho h0 (by omega) (by rw [List.size_toArray, ← hl]; exact h4) (by rw [hk]; exact ⟨_, I', q⟩)
  · have hk : (k + (its.toArray.size : Int)).toNat = j := by
      rw [seqIndex_neg (by omega) h3] at h1
      rw [List.size_toArray, ← hl]
      exact Option.some.inj h1
    exact PySem.W.ki_setBack ho (by omega) (by rw [List.size_toArray, ← hl]; exact h3) (by omega) (by rw [hk]; exact ⟨_, I', q⟩)
theorem slice_bounds (lo hi : Option Int) (n : Nat) : (sliceBounds lo hi none n).1 = ((HT.sIx n 0 lo : Nat) : Int) ∧ (sliceBounds lo hi none n).2.1 = ((HT.sIx n n hi : Nat) : Int) ∧ (sliceBounds lo hi none n).2.2 = 1 := by
  refine ⟨?_, ?_, rfl⟩
  · cases lo with
    | none => simp [sliceBounds, HT.sIx]
    | some i =>
      simp only [sliceBounds, HT.sIx, Option.getD_none, show (1 : Int) > 0 by decide, if_true]
      by_cases h : i < 0
      · simp only [h, if_true] <;> omega
      · simp only [h, if_false] <;> omega
  · cases hi with
    | none => simp [sliceBounds, HT.sIx]
    | some i =>
      simp only [sliceBounds, HT.sIx, Option.getD_none, show (1 : Int) > 0 by decide, if_true]
      by_cases h : i < 0
      · simp only [h, if_true] <;> omega
      · simp only [h, if_false] <;> omega
theorem slicePick_cut (its : List Value) (lo hi : Option Int) : slicePick its.toArray lo hi none = ((its.drop (HT.sIx its.length 0 lo)).take (HT.sIx its.length its.length hi - HT.sIx its.length 0 lo)).toArray := by
  obtain ⟨h1, h2, h3⟩ := slice_bounds lo hi its.toArray.size
  unfold slicePick
  rw [h1, h2, h3]
  simp only [sliceRange_one, pick_run, List.size_toArray] <;> rfl
def rSlL (K : PySem.W.Frag) : V → Option Int → Option Int → Hp → VK → Prop := fun x lo hi H Q => ∃ a xs, x = .ref a ∧ SqL K H a xs ∧ ∀ p, H p = none → Q (.ref p) (upd H p (.lst (cutV xs lo hi)))
theorem sl_list : SlR X (rSlL X.K) := by
  intro pins s σ H x v vl vu lo hi sl Q I rx hs pl pu h
  obtain ⟨a, xs, rfl, hx, q⟩ := h
  cases rx
  obtain ⟨its, r, ht, hz⟩ := I.list hx
  have hlen := r.length
  refine ⟨"list", _, slot_list_getitem.lookup, ht.isList.typeIs, ?_⟩
  refine wpAny_getItem_list_slice ht.isList hs pl pu .none (by simp) ?_ (by rw [List.size_toArray] <;> omega)
  rw [slicePick_cut, ← hlen]
  refine ⟨.ref s.heap.objs.size, _, I.laid (t' := s.toks) (o := .lst (cutV xs lo hi)) (fun b ob q => Heap.get?_push_of_some _ q) (Nat.le_refl _) ?_, rfl, q _ (I.hok.fresh (Nat.le_refl _))⟩
  exact ⟨Nat.le_trans (cutV_length xs lo hi) hz, _, 0, (r.drop (HT.sIx xs.length 0 lo)).take (HT.sIx xs.length xs.length hi - HT.sIx xs.length 0 lo), Heap.get?_push_size _ rfl⟩
theorem call_len_seq : CallR X (.builtin "len") (fun xs H Q => ∃ p ys, xs = [.ref p] ∧ (SqL X.K H p ys ∨ SqT X.K H p ys) ∧ Q (.int ys.length) H) := by
  intro pins s σ H xs us Q I r h
  obtain ⟨p, ys, rfl, hq, q⟩ := h
  obtain ⟨u, rfl, rx⟩ := vals1 r
  cases rx
  have hn := line63
  rcases hq with hq | hq
  · obtain ⟨its, r', pl, hz⟩ := I.list hq
    have hlen := r'.length
    exact Calls.call_len_list pl.isList (by simp only [List.size_toArray] <;> omega) ⟨.int ys.length, H, I.tok _, ⟨s.toks + 1, by rw [List.size_toArray, hlen]⟩, q⟩
  · obtain ⟨its, r', pl, hz⟩ := I.tuple hq
    have hlen := r'.length
    exact len_tuple pl (by simp only [List.size_toArray] <;> omega) ⟨.int ys.length, H, I.tok _, ⟨s.toks + 1, by rw [List.size_toArray, hlen]⟩, q⟩
theorem call_len_str : CallR X (.builtin "len") (fun xs H Q => ∃ z, xs = [.str z] ∧ z.length ≤ sizeLine ∧ Q (.int z.length) H) := by
  intro pins s σ H xs us Q I r h
  obtain ⟨z, rfl, hz, q⟩ := h
  obtain ⟨u, rfl, t, rfl⟩ := vals1 r
  have hn := line63
  exact len_str (by omega) ⟨.int z.length, H, I.tok _, ⟨_, rfl⟩, q⟩
theorem CallR.or {f : Value} {r r' : List V → Hp → VK → Prop} (h : CallR X f r) (h' : CallR X f r') : CallR X f (fun xs H Q => r xs H Q ∨ r' xs H Q) := by
  intro pins s σ H xs us Q I rs q
  rcases q with q | q
  · exact h pins s σ H xs us Q I rs q
  · exact h' pins s σ H xs us Q I rs q
theorem call_list_of : CallR X (.type "list") (fun xs H Q => ∃ p ys, xs = [.ref p] ∧ (SqL X.K H p ys ∨ SqT X.K H p ys) ∧ ∀ l, H l = none → Q (.ref l) (upd H l (.lst ys))) := by
  intro pins s σ H xs us Q I r h
  obtain ⟨p, ys, rfl, hq, q⟩ := h
  obtain ⟨u, rfl, rx⟩ := vals1 r
  cases rx
  have fin : ∀ (its : List Value), Vals ys its → ys.length ≤ sizeLine → ∀ (h' : Heap) (c' : Nat), (∀ b o', s.heap.get? b = some o' → h'.get? b = some o') →
      h'.get? s.heap.objs.size = some { cls := .type "list", dict := none, data := .seq its.toArray c', slots := #[] } → EP X pins σ Q (.ref s.heap.objs.size) { s with heap := h' } := fun its r' hz h' c' kp e =>
    ⟨.ref s.heap.objs.size, _, I.laid (t' := s.toks) kp (Nat.le_refl _) (show ObjOk X.prog X.w _ h' _ (.lst ys) from ⟨hz, its, c', r', e⟩), rfl, q _ (I.hok.fresh (Nat.le_refl _))⟩
  rcases hq with hq | hq
  · obtain ⟨its, r', pl, hz⟩ := I.list hq
    have hlen := r'.length
    obtain ⟨o, ho, hc, n, hd⟩ := pl.isList
    exact call_list_seq p (.inl rfl) ho hc hd (fun h' c' kp e => fin its r' hz h' c' kp e) (by simp only [List.size_toArray] <;> omega)
  · obtain ⟨its, r', pl, hz⟩ := I.tuple hq
    have hlen := r'.length
    obtain ⟨o, ho, hc, n, hd⟩ := pl
    exact call_list_seq p (.inr rfl) ho hc hd (fun h' c' kp e => fin its r' hz h' c' kp e) (by simp only [List.size_toArray] <;> omega)
theorem call_tuple_of : CallR X (.type "tuple") (fun xs H Q => ∃ p ys, xs = [.ref p] ∧ ((SqL X.K H p ys ∧ ∀ l, H l = none → Q (.ref l) (upd H l (.tup ys))) ∨ (SqT X.K H p ys ∧ Q (.ref p) H))) := by
  intro pins s σ H xs us Q I r h
  obtain ⟨p, ys, rfl, h⟩ := h
  obtain ⟨u, rfl, rx⟩ := vals1 r
  cases rx
  rcases h with ⟨hq, q⟩ | ⟨hq, q⟩
  · obtain ⟨its, r', pl, hz⟩ := I.list hq
    have hlen := r'.length
    refine call_tuple_list pl.isList (fun h' kp => ?_) (by simp only [List.size_toArray] <;> omega)
    have I1 : Inv X pins σ H { s with heap := h' } := I.kept (t' := s.toks) kp
    have I2 : Inv X pins σ (upd H h'.objs.size (.tup ys)) { s with heap := h'.push { cls := .type "tuple", data := .seq its.toArray } } :=
      I1.laid (t' := s.toks) (fun b o e => Heap.get?_push_of_some _ e) (Nat.le_refl _) (show ObjOk X.prog X.w _ _ _ (.tup ys) from ⟨hz, its, r', IsTup.new _ _⟩)
    exact ⟨.ref h'.objs.size, _, I2, rfl, q _ (I1.hok.fresh (Nat.le_refl _))⟩
  · obtain ⟨its, r', pl, hz⟩ := I.tuple hq
    exact call_tuple_same pl ⟨.ref p, H, I, rfl, q⟩
def tyV (K : PySem.W.Frag) (T : String) (x : V) (H : Hp) : Prop := match x with
  | .str _ => T = "str"
  | .int _ => T = "int"
  | .ref p => (T = "list" ∧ ∃ xs, SqL K H p xs) ∨ (T = "tuple" ∧ ∃ o, K.lookup p = some o ∧ o.cls = .type "tuple" ∧ o.dict = none) ∨
      (T = "dict" ∧ ((∃ kvs, H p = some (.dK kvs)) ∨ ∃ kvs, H p = some (.dT kvs))) ∨ (T = "set" ∧ ∃ S n, H p = some (.set S n))
  | _ => False
theorem tyV_is {pins : List (Addr × Obj)} {σ : St} {H : Hp} {s : Shared} {T : String} {x : V} {v : Value} (I : Inv X pins σ H s) (r : RelV x v) (ty : tyV X.K T x H) :
    s.TypeIs v T ∧ ∀ a, v = .ref a → ∃ ob, s.heap.get? a = some ob ∧ ob.dict = none := by
  cases x with
  | str z =>
    obtain ⟨t, rfl⟩ := r
    cases (show T = "str" from ty)
    exact ⟨typeIs_str s z t, fun _ e => nomatch e⟩
  | int i =>
    obtain ⟨t, rfl⟩ := r
    cases (show T = "int" from ty)
    exact ⟨typeIs_int s i t, fun _ e => nomatch e⟩
  | ref p =>
    cases r
    rcases ty with ⟨rfl, xs, hq⟩ | ⟨rfl, o, hk, hc, hd⟩ | ⟨rfl, hk⟩ | ⟨rfl, S, n, hk⟩
    · obtain ⟨its, _, pl, _⟩ := I.list hq
      refine ⟨pl.isList.typeIs, fun a e => ?_⟩
      cases e
      obtain ⟨o, n, e, c, hd, _⟩ := pl
      exact ⟨o, e, hd⟩
    · refine ⟨⟨o, I.kIn p o hk, hc⟩, fun a e => ?_⟩
      cases e
      exact ⟨o, I.kIn _ o hk, hd⟩
    · have z : ∃ o, s.heap.get? p = some o ∧ o.ExactDict := by
        rcases hk with ⟨kvs, hk⟩ | ⟨kvs, hk⟩
        · obtain ⟨_, _, _, _, o, _, _, e, ex, _⟩ := I.hok p _ hk
          exact ⟨o, e, ex⟩
        · obtain ⟨_, _, _, _, o, _, _, e, ex, _⟩ := I.hok p _ hk
          exact ⟨o, e, ex⟩
      obtain ⟨o, e, ex⟩ := z
      refine ⟨⟨o, e, ex.1⟩, fun a e2 => ?_⟩
      cases e2
      exact ⟨o, e, ex.2.1⟩
    · obtain ⟨o, _, _, _, e, ex, _⟩ := I.hok p _ hk
      refine ⟨⟨o, e, ex.1⟩, fun a e2 => ?_⟩
      cases e2
      exact ⟨o, e, ex.2.1⟩
  | _ => exact False.elim ty
def tBM0 (K : PySem.W.Frag) (T : String) (r : V → List V → Hp → VK → Prop) (to : TE) : TE := fun σ H Q => to σ H fun x H1 => tyV K T x H1 ∧ r x [] H1 Q
def tBM (K : PySem.W.Frag) (T : String) (r : V → List V → Hp → VK → Prop) (to : TE) (t : TA) : TE := fun σ H Q => to σ H fun x H1 => tyV K T x H1 ∧ t σ H1 fun xs H2 => r x xs H2 Q
variable {o e : Expr} {es : List Expr} {to : TE} {t : TA} {name : Str} {apos cpos : Pos} {T id : String} {r : V → List V → Hp → VK → Prop}
theorem pe_bm0 (pa : PlainAttrs T) (slot : Slot T name id) (hty : typeOf (.builtin id) = pure (.type "method_descriptor")) (hm : MtR X id r) (ho : PE X o to)
    (hbase : attributeBase o name X.env (eval o X.env) = eval o X.env := by rfl) (hline : (apos.endLine == cpos.line) = true := by rfl) : PE X (.Call (.Attribute o name apos) [] [] cpos) (tBM0 X.K T r to) := by
  intro pins s σ H Q I h
  refine wpAny_Call_method0_late hbase hline (thn (ho pins s σ H _ I h) fun v s1 ⟨x, H1, I1, r1, ty, q1⟩ => ?_)
  obtain ⟨h1, h2⟩ := tyV_is I1 r1 ty
  exact ⟨T, id, pa, slot, hty, h1, h2, Calls.callWith_builtin rfl (PySem.evalArgs_none (hm pins s1 σ H1 x [] v [] Q I1 r1 .nil q1))⟩
theorem pe_bm (pa : PlainAttrs T) (slot : Slot T name id) (hty : typeOf (.builtin id) = pure (.type "method_descriptor")) (hm : MtR X id r) (ho : PE X o to) (ha : PA X (e :: es) t)
    (hbase : attributeBase o name X.env (eval o X.env) = eval o X.env := by rfl)
    (hfew : ((backTo cpos (starEach (e :: es) X.env)).all (fun x => !x.1) && (backToKw cpos (keywordEach [] X.env)).all (fun x => x.1.isSome)
      && decide ((e :: es).length + ([] : List Keyword).length + (if ([] : List Keyword).isEmpty then 0 else 1) < 30)) = true := by rfl)
    (hline : (apos.endLine == cpos.line) = true := by rfl) (hs : starEach (e :: es) X.env = (false, eval e X.env) :: starEach es X.env := by rfl) (hplain : (backTo cpos (starEach es X.env)).any (·.1) = false := by rfl) :
    PE X (.Call (.Attribute o name apos) (e :: es) [] cpos) (tBM X.K T r to t) := by
  intro pins s σ H Q I h
  refine wpAny_Call_method_late hbase hfew hline rfl (thn (ho pins s σ H _ I h) fun v s1 ⟨x, H1, I1, r1, ty, q1⟩ => ?_)
  obtain ⟨h1, h2⟩ := tyV_is I1 r1 ty
  refine ⟨T, id, pa, slot, hty, h1, h2, ?_⟩
  have hA := ha cpos pins s1 σ H1 _ I1 q1
  rw [hs] at hA ⊢
  refine Calls.callWith_builtin (by show (false || (backTo cpos (starEach es X.env)).any (·.1)) = false; rw [hplain] <;> rfl) (Calls.evalArgs_plain ?_)
  exact thn hA fun us s2 ⟨vs, H2, I2, r2, q2⟩ => hm pins s2 σ H2 x vs v us Q I2 r1 r2 q2
end
end L2
namespace L2
open PySem PySem.Spec PyProof.Rows
def MtM (X : Cx) (id : String) (r : V → List V → Hp → VK → Prop) : Prop :=
  ∀ (pins : List (Addr × Obj)) (s : Shared) (σ : St) (H : Hp) (x : V) (xs : List V) (v : Value) (us : List Value) (Q : VK), Inv X pins σ H s → RelV x v → Vals xs us → r x xs H Q →
    wpAny (model X.prog X.w) X.A (call (.builtin id) (v :: us)) (EP X pins σ Q) X.xe s
theorem Vals.one : ∀ {x : V} {us : List Value}, Vals [x] us → ∃ u, us = [u] ∧ RelV x u
  | _, _, .cons r .nil => ⟨_, rfl, r⟩
theorem Vals.two : ∀ {x y : V} {us : List Value}, Vals [x, y] us → ∃ u v, us = [u, v] ∧ RelV x u ∧ RelV y v
  | _, _, _, .cons r (.cons q .nil) => ⟨_, _, rfl, r, q⟩
theorem Vals.zero : ∀ {us : List Value}, Vals [] us → us = []
  | _, .nil => rfl
theorem Vals.reverse {xs : List V} {us : List Value} (h : Vals xs us) : Vals xs.reverse us.reverse := by
  induction h with
  | nil => exact .nil
  | cons r t ih => rw [List.reverse_cons, List.reverse_cons]; exact Vals.append ih (.cons r .nil)
theorem Vals.rep {xs : List V} {us : List Value} (h : Vals xs us) : ∀ k : Nat, Vals (List.replicate k xs).flatten (List.replicate k us).flatten
  | 0 => .nil
  | k + 1 => by
    rw [List.replicate_succ, List.replicate_succ, List.flatten_cons, List.flatten_cons]
    exact Vals.append h (Vals.rep h k)
theorem foldl_rep (its : List Value) : ∀ (k : Nat) (acc : List Value),
    List.foldl (fun x1 x2 => x1 ++ x2) acc.toArray (List.replicate k its.toArray) = (acc ++ (List.replicate k its).flatten).toArray
  | 0, acc => by simp
  | k + 1, acc => by
    have e : acc.toArray ++ its.toArray = (acc ++ its).toArray := by simp
    have e2 : (acc ++ its) ++ (List.replicate k its).flatten = acc ++ (List.replicate (k + 1) its).flatten := by
      rw [List.replicate_succ, List.flatten_cons, List.append_assoc]
    rw [← e2, ← foldl_rep its k (acc ++ its), ← e, List.replicate_succ, List.foldl_cons]
section
variable {X : Cx} {pins : List (Addr × Obj)} {σ : St} {H : Hp} {s : Shared} {l b : Addr} {xs ys zs : List V}
theorem Inv.lset {its its' : List Value} {n : Nat} {f : Array Value → Array Value} {t' : Nat} (I : Inv X pins σ H s) (hH : H l = some (.lst xs))
    (e : s.heap.get? l = some { cls := .type "list", data := .seq its.toArray n }) (hf : f its.toArray = its'.toArray) (hv : Vals ys its') (hz : ys.length ≤ sizeLine) :
    Inv X pins σ (upd H l (.lst ys)) { s with heap := s.heap.update l (Obj.mapSeq f), toks := t' } := by
  have q := PySem.IsL.update e f
  rw [hf] at q
  refine I.write (x := l) (e := l) (by rw [hH]; exact trivial) (.inl rfl) (fun b' u hb hu => (Heap.get?_update_other s.heap (Obj.mapSeq f) (Ne.symm hb)).trans hu) ⟨_, q⟩ ?_
  exact ⟨hz, its', _, hv, q⟩
theorem Inv.lnew {its : List Value} {t' : Nat} (I : Inv X pins σ H s) (hv : Vals ys its) (hz : ys.length ≤ sizeLine) :
    Inv X pins σ (upd H s.heap.objs.size (.lst ys)) { s with heap := s.heap.push { cls := .type "list", data := .seq its.toArray }, toks := t' } :=
  I.laid (fun _ _ q => Heap.get?_push_of_some _ q) (Nat.le_refl _) ⟨hz, its, 0, hv, Heap.get?_push_size _ rfl⟩
theorem Inv.fresh (I : Inv X pins σ H s) : H s.heap.objs.size = none := I.hok.fresh (Nat.le_refl _)
theorem Inv.lstM (I : Inv X pins σ H s) (hH : H l = some (.lst xs)) : xs.length ≤ sizeLine ∧ ∃ (its : List Value) (n : Nat), Vals xs its ∧ xs.length = its.length ∧ s.heap.get? l = some { cls := .type "list", data := .seq its.toArray n } := by
  obtain ⟨z, its, n, r, e⟩ := I.hok l _ hH
  exact ⟨z, its, n, r, r.length, e⟩
theorem notLongL {n : Nat} (h : n ≤ sizeLine) : Builtin.List.listTooLong n = false := by
  unfold Builtin.List.listTooLong
  exact decide_eq_false (by omega)
end
section
variable {X : Cx}
def rAppend : V → List V → Hp → VK → Prop := fun x vs H Q => ∃ l xs y, x = .ref l ∧ vs = [y] ∧ H l = some (.lst xs) ∧ xs.length < sizeLine ∧ Q .non (upd H l (.lst (xs ++ [y])))
theorem mt_append : MtM X "list.append" rAppend := by
  intro pins s σ H x vs v us Q I rx rv h
  obtain ⟨l, xs, y, rfl, rfl, hH, hz, q⟩ := h
  cases rx
  obtain ⟨u, rfl, ru⟩ := rv.one
  obtain ⟨z, its, n, r, hl, e⟩ := I.lstM hH
  refine call_meets F.slot_list_append ⟨_, e, rfl⟩ F.entry_list_append (F.args_list_append_2 _ _) (PySem.list_append l its.toArray n u (by rw [List.size_toArray]; omega)) ⟨e, ?_⟩
  refine ⟨.non, _, I.lset (its' := its ++ [u]) hH e (by simp) (r.append (.cons ru .nil)) ?_, rfl, q⟩
  rw [List.length_append, List.length_singleton]
  omega
def rExtend : V → List V → Hp → VK → Prop := fun x vs H Q => ∃ l b xs zs, x = .ref l ∧ vs = [.ref b] ∧ H l = some (.lst xs) ∧ H b = some (.lst zs) ∧ xs.length + zs.length ≤ sizeLine ∧ Q .non (upd H l (.lst (xs ++ zs)))
theorem mt_extend : MtM X "list.extend" rExtend := by
  intro pins s σ H x vs v us Q I rx rv h
  obtain ⟨l, b, xs, zs, rfl, rfl, hH, hB, hz, q⟩ := h
  cases rx
  obtain ⟨u, rfl, ru⟩ := rv.one
  cases ru
  obtain ⟨z, its, n, r, hl, e⟩ := I.lstM hH
  obtain ⟨z2, its2, n2, r2, hl2, e2⟩ := I.lstM hB
  have hsz : its.toArray.size + its2.toArray.size ≤ sizeLine := by rw [List.size_toArray, List.size_toArray]; omega
  have hlong : ¬ (!its.toArray.isEmpty && Builtin.List.listTooLong (its.toArray.size + its2.toArray.size)) = true := by
    rw [notLongL hsz, Bool.and_false]
    exact Bool.false_ne_true
  refine call_meets F.slot_list_extend ⟨_, e, rfl⟩ F.entry_list_extend (F.args_list_extend_2 _ _)
    (AutoSeq1.list_extend_list_list_0 l its.toArray n b its2.toArray n2 hlong (by rw [List.size_toArray]; omega) (by omega)) ⟨e, e2, ?_⟩
  refine ⟨.non, _, I.lset (its' := its ++ its2) hH e (by simp) (r.append r2) ?_, rfl, q⟩
  rw [List.length_append]
  omega
def rCat : R2 := fun x y H Q => ∃ l b xs zs, x = .ref l ∧ y = .ref b ∧ H l = some (.lst xs) ∧ H b = some (.lst zs) ∧ xs.length + zs.length ≤ sizeLine ∧ ∀ p, H p = none → Q (.ref p) (upd H p (.lst (xs ++ zs)))
theorem op_cat : OpR X (binaryOp .Add) rCat := by
  intro pins s σ H x y v u Q I rx ry h
  obtain ⟨l, b, xs, zs, rfl, rfl, hH, hB, hz, q⟩ := h
  cases rx
  cases ry
  obtain ⟨z, its, n, r, hl, e⟩ := I.lstM hH
  obtain ⟨z2, its2, n2, r2, hl2, e2⟩ := I.lstM hB
  refine PySem.P.add_list e e2 ?_ (by rw [List.size_toArray, List.size_toArray]; omega)
  have ea : its.toArray ++ its2.toArray = (its ++ its2).toArray := by simp
  rw [ea]
  exact ⟨.ref _, _, I.lnew (t' := s.toks) (r.append r2) (by rw [List.length_append]; omega), rfl, q _ I.fresh⟩
def rRep : R2 := fun x y H Q => ∃ l k xs, x = .ref l ∧ y = .int k ∧ H l = some (.lst xs) ∧ -(2 ^ 63) ≤ k ∧ k < 2 ^ 63 ∧ xs.length * k.toNat ≤ sizeLine ∧
  ∀ p, H p = none → Q (.ref p) (upd H p (.lst (List.replicate k.toNat xs).flatten))
theorem len_rep {α : Type} (xs : List α) (k : Nat) : (List.replicate k xs).flatten.length = k * xs.length := by
  induction k with
  | zero => simp
  | succ k ih => rw [List.replicate_succ, List.flatten_cons, List.length_append, ih, Nat.succ_mul, Nat.add_comm]
theorem op_rep : OpR X (binaryOp .Mult) rRep := by
  intro pins s σ H x y v u Q I rx ry h
  obtain ⟨l, k, xs, rfl, rfl, hH, h1, h2, hz, q⟩ := h
  cases rx
  obtain ⟨t, rfl⟩ := ry
  obtain ⟨z, its, n, r, hl, e⟩ := I.lstM hH
  have hlen : its.toArray.size * k.toNat ≤ sizeLine := by rw [List.size_toArray, ← hl]; exact hz
  have hcap : ¬ its.toArray.size * k.toNat > (2 ^ 63 - 1) / 8 := by
    have : (sizeLine : Nat) ≤ (2 ^ 63 - 1) / 8 := by decide
    omega
  have hfit : ¬ (!Builtin.List.listFitsIndex k) = true := by
    rw [fitsIndex_both h1 h2]
    exact Bool.false_ne_true
  have hlong : ¬ Builtin.List.listTooLong (its.toArray.size * k.toNat) = true := by
    rw [notLongL hlen]
    exact Bool.false_ne_true
  have hnew : List.foldl (fun x1 x2 => x1 ++ x2) #[] (List.replicate (if its.toArray.isEmpty = true then 0 else k.toNat) its.toArray) = (List.replicate k.toNat its).flatten.toArray := by
    have f0 : ∀ m : Nat, List.foldl (fun x1 x2 => x1 ++ x2) #[] (List.replicate m its.toArray) = (List.replicate m its).flatten.toArray := fun m => by
      have := foldl_rep its m []
      rw [List.nil_append] at this
      exact this
    rw [f0]
    cases its with
    | nil => simp
    | cons a r' => rw [if_neg (by simp)]
  refine wpAny_binaryOp_repeat_ref (T := "list") (U := "int") (by decide) ⟨_, e, rfl⟩ (fun s' => typeIs_int s' k t) noFill_list_mul F.fills_int_mul F.slot_int_rmul repeat_list F.slot_int_index.lookup
    (call_meets F.slot_int_rmul (typeIs_int s k t) F.entry_int_rmul (F.args_int_rmul_2 _ _) (int___rmul___int_list k t l its.toArray n)
      ⟨e, rfl, ⟨_, e, rfl⟩, call_meets F.slot_list_mul ⟨_, e, rfl⟩ F.entry_list_mul (F.args_list_mul_2 _ _) (AutoListH.list___mul___list_int_3 l its.toArray n k t hfit hcap hlong) ⟨e, ?_⟩⟩)
  rw [hnew]
  exact ⟨.ref _, _, I.lnew (t' := s.toks) (r.rep k.toNat) (by rw [len_rep, Nat.mul_comm]; exact hz), rfl, q _ I.fresh⟩
end
section
variable {prog : Program} {w : World} {A : Around} {E : Value → Shared → Prop} {s : Shared}
end
section
variable {X : Cx}
end
end L2
namespace Att
open PySem PySem.W PySem.Calls PyProof.Rows
theorem ints_of_wellAll {P : Params} {h : Heap} : ∀ (ns : List Int) (vs : List Value), WellAll P h vs (ns.map WData.int) → IntsAre vs ns := by
  intro ns
  induction ns with
  | nil =>
    intro vs w
    rw [List.map_nil] at w
    cases w
    exact .nil
  | cons n ns ih =>
    intro vs w
    rw [List.map_cons] at w
    cases w with
    | cons a b =>
      cases a
      exact .cons _ _ (ih _ b)
theorem script_of {l : OpenLaw} {n : Nat} (hn : l.most = some n) {P : Params} {h : Heap} {args : List WData} {vals : List Value}
    (hpre : l.row.toRowW.claim.pre args = true) (hwl : WellAll P h vals args) :
    ∃ a vs ns, vals = [Value.ref a] ∧ args = [WData.list (ns.map WData.int)] ∧ h.get? a = some { cls := .type "list", data := .seq vs.toArray } ∧ IntsAre vs ns ∧ ns.length ≤ n := by
  have hsh : WShape.hasAll [] args [.list .int] = true := (pre_splitW hpre).1
  have hc : l.pre.holds [] { args := args } = true := (pre_splitW hpre).2
  obtain ⟨d, r, rfl, h1, h2⟩ := hasAllW_cons hsh
  obtain rfl := hasAllW_nil h2
  obtain ⟨xs, rfl, h3⟩ := hasW_list h1
  obtain ⟨ns, rfl⟩ := items_int h3
  have hlen : ns.length ≤ n := by
    unfold OpenLaw.pre at hc
    have h4 : (WTm.not (.lt (.lit (.int (n : Int))) (.len (.arg 0)))).holds [] { args := [.list (ns.map .int)] } = true := by
      have h4 := (holds_andW hc).1
      rw [hn] at h4
      exact h4
    have h5 := condW_of h4 (w_not (w_lt w_lit (w_len_list (w_arg rfl))))
    rw [List.length_map] at h5
    refine Nat.le_of_not_lt fun q => ?_
    have q' : (n : Int) < ((ns.length : Nat) : Int) := by omega
    first
      | (rw [decide_eq_true q'] at h5; exact absurd h5 (by decide))
      | (simp at h5; omega)
  cases hwl with
  | cons w1 w2 =>
    cases w2
    cases w1 with
    | list ho hall => exact ⟨_, _, ns, rfl, rfl, ho, ints_of_wellAll ns _ hall, hlen⟩
theorem post_true (l : OpenLaw) (args : List WData) : l.row.toRowW.claim.post args (.bool true) args = true :=
  postW_of (r := l.row.toRowW) (X := (true == true))
    (show WShape.has [] (.bool true) .bool = true by first | rfl | decide | simp [WShape.has, WShape.arms, WShape.armsAll])
    (show (WTm.eq .res (.lit (.bool true))).value [] { args := args, res := some (.bool true), after := args } = some (.bool (true == true)) from w_eq_bool (w_res rfl) w_lit) rfl
theorem attach_call {l : OpenLaw} {n : Nat} {q : Program} {loose : List Str} {XP : (Str → Option Value) → Heap → Prop} {YP : World → Heap → Prop} {d : DefRec}
    (hn : l.most = some n) (hdf : d.params.defaults = [])
    (call : ∀ (w : World) (s₀ s₁ : Shared) (mg mb : Str → Option Value) (fa : Addr) (o : Obj) (pm cd doc : Value) (a : Addr) (vs : List Value) (ns : List Int),
      Ground q loose [] XP w s₀ mg mb s₁.heap → YP w s₁.heap →
      s₁.heap.get? fa = some o → o.data = .func (docDef d.name d.params d.body d.scope pm cd doc) → s₁.heap.CodeRec cd d.name → mg d.name = some (.ref fa) →
      s₁.heap.get? a = some { cls := .type "list", data := .seq vs.toArray } → IntsAre vs ns → ns.length ≤ n → s₁.gens = #[] →
      codeAny (model l.prog w) callerA (.call (.ref fa) ⟨[.ref a], []⟩) (fun r s' => r = .ok (.ret (.bool true)) ∧ OldK s₁.heap s'.heap ∧ s'.os = s₁.os ∧ AllBare s'.gens) s₁) :
    WalkO q loose XP YP l.row.toRowW d [] (fun f vs => PySem.call f vs) := by
  intro w s₀ s₁ mg mb G Y fa o pm cd doc dV kV ho hd hcd hD hmg hg args vals as hpre hlay hrd hwl hlo
  obtain rfl : dV = .none := Dflts.none hD hdf
  obtain rfl : kV = .none := Dflts.noKw hD
  obtain ⟨a, vs, ns, rfl, rfl, hobj, hints, hlen⟩ := script_of hn hpre hwl
  refine enter_call (codeAny_mono (call w s₀ s₁ mg mb fa o pm cd doc a vs ns G Y ho (fd_plain hd) hcd hmg hobj hints hlen hg) fun r s' hq => ?_)
  obtain ⟨rfl, h2, h3, h4⟩ := hq
  exact ⟨.inl ⟨.bool true, .bool true, [], rfl, fun _ => rfl, .bool true, post_true l _, fun _ => ⟨List.Pairwise.nil, fun _ hm => (nomatch hm)⟩⟩, h2, h3, h4⟩
section
variable {prog : Program} {w : World} {A : Around} {E : Value → Shared → Prop} {s : Shared} {K : Frag}
def ledger (h : Heap) (L d : Addr) : List (Addr × Obj) := (List.range h.objs.size).filterMap fun a => if a = L ∨ a = d then none else (h.get? a).map fun o => (a, o)
end
end Att
namespace L2
open PySem PySem.Spec PyProof.Rows
theorem vals_ints : ∀ {vs : List Value} {ns : List Int}, IntsAre vs ns → Vals (ns.map V.int) vs
  | _, _, .nil => .nil
  | _, _, .cons n t h => .cons ⟨t, rfl⟩ (vals_ints h)
def Only (H : Hp) : Prop := ∀ b, H b = none ∨ ∃ o xs, H b = some (.frz o (.lst xs))
theorem law_call {P : Program} {w : World} {K : PySem.W.Frag} {mg mb : Str → Option Value} {CX : CXT} {k : Nat} {fa a : Addr} {fd : FuncData} {x : Str} {sp : Sp} {s₁ : Shared} {vs : List Value} {ns : List Int}
    (KX : K.In s₁.heap) (hns : s₁.heap.Ns mainGlobals mg) (hb : s₁.heap.Ns builtinsNs mb) (hbb : ∀ x : Str, x ≠ "__name__" → mb x = bootBuiltins x) (hlim : s₁.heap.NoLimit) (hg : s₁.gens = #[])
    (ha : s₁.heap.get? a = some { cls := .type "list", data := .seq vs.toArray }) (hi : IntsAre vs ns) (hl : ns.length ≤ sizeLine) (hr : Room k callerA)
    (F : ∀ base : Heap, K.In base → base.Ns mainGlobals mg → FnOk P w K mg base CX k fa fd [x] sp) (hbind : ∀ (s : Shared) (u : Value), BindsTo s fd ⟨[u], []⟩ [(x, u)])
    (hsp : ∀ H : Hp, Only H → SqL K H a (ns.map V.int) → sp [.ref a] H (fun v _ => v = .bl true) fun _ _ _ => False)
    (hCX : ∀ H e s', CX [] H s₁ (fun _ _ _ => False) e s' → False) :
    codeAny (model P w) callerA (.call (.ref fa) ⟨[.ref a], []⟩) (fun r s' => r = .ok (.ret (.bool true)) ∧ OldK s₁.heap s'.heap ∧ s'.os = s₁.os ∧ AllBare s'.gens) s₁ := by
  have rv := vals_ints hi
  have lenV := hi.length
  have core : ∀ H : Hp, Only H → SqL K H a (ns.map V.int) → HOk P w H s₁.heap → (∀ b, H b ≠ none → b = a) → (H a ≠ none → K.lookup a = none) →
      codeAny (model P w) callerA (.call (.ref fa) ⟨[.ref a], []⟩) (fun r s' => r = .ok (.ret (.bool true)) ∧ OldK s₁.heap s'.heap ∧ s'.os = s₁.os ∧ AllBare s'.gens) s₁ := by
    intro H hO hS hok hA hK
    have base_of : ∀ {b : Addr} {o : Obj}, s₁.heap.get? b = some o → H b = none → (hidT s₁.heap H).get? b = some o := fun e n => hidT_get e n
    have noA : ∀ {b : Addr} {o : Obj} {es : Array DictEntry} {ep : Nat}, s₁.heap.get? b = some o → o.data = .dict es ep → H b = none := fun {b o es ep} e d => by
      cases q : H b with
      | none => rfl
      | some u =>
        have e' : b = a := hA b (by rw [q]; simp)
        subst e'
        rw [ha] at e; cases e
        have d' : Data.seq vs.toArray _ = Data.dict es ep := d
        cases d'
    have nsK : ∀ {b : Addr} {m : Str → Option Value}, s₁.heap.Ns b m → (hidT s₁.heap H).Ns b m := fun {b m} ⟨o, es, ep, e, d, r⟩ => ⟨o, es, ep, base_of e (noA e d), d, r⟩
    have hKb : K.In (hidT s₁.heap H) := fun b o e => base_of (KX b o e) (by
      cases q : H b with
      | none => rfl
      | some u =>
        have e' : b = a := hA b (by rw [q]; simp)
        subst e'
        rw [hK (by rw [q]; simp)] at e; cases e)
    have hM : Mod K mg (hidT s₁.heap H) := ⟨hKb, nsK hns, ⟨mb, nsK hb, hbb⟩, let ⟨mc, h1, h2⟩ := hlim; ⟨mc, nsK h1, h2⟩⟩
    have e0 : Env0 P w K mg (hidT s₁.heap H) callerA [] s₁ H := ⟨rfl, hM, fun b o e => of_hidT e, Nat.le_of_eq (hidT_size _ _), trivial, fun b hb => absurd (show b ∈ ([] : List Addr) from hb) (by simp), hok, .of_eq hg⟩
    refine codeAny_mono ((F _ hKb (nsK hns)).run callerA [] s₁ H ⟨[.ref a], []⟩ [.ref a] [.ref a] _ _ hr e0 (hbind s₁ (.ref a)) (.cons rfl .nil) (hsp H hO hS)) fun r s' h => ?_
    cases r with
    | error e => exact (hCX H e s' h).elim
    | ok fl =>
      cases fl with
      | next => exact False.elim h
      | brk => exact False.elim h
      | cont => exact False.elim h
      | ret u =>
        obtain ⟨v, H', os, bare, un, hok', r', q⟩ := h
        have q' : v = .bl true := q
        subst q'
        obtain rfl : u = Value.bool true := r'
        refine ⟨rfl, OldK.of_keep fun b o e => ?_, os, bare⟩
        cases q : H b with
        | none => exact un.keep b o e q (by intro z; exact absurd (show b ∈ ([] : List Addr) from z) (by simp)) (by simp)
        | some u =>
          rcases hO b with z | ⟨ob, xs, z⟩
          · rw [q] at z; cases z
          · have z2 := un.frzs b ob _ z
            obtain ⟨e1, _⟩ := hok b _ z
            obtain ⟨e2, _⟩ := hok' b _ z2
            rw [e] at e1; cases e1
            exact e2
  cases hk : K.lookup a with
  | some o =>
    have e := KX a o hk
    rw [ha] at e
    cases e
    refine core (fun _ => none) (fun _ => .inl rfl) (.inr ⟨_, vs.toArray, _, hk, rfl, rfl, rfl, by rw [List.size_toArray, lenV]; exact hl, by simpa using rv⟩) (fun b u z => by have z' : (none : Option HO) = some u := z; cases z') (fun b z => absurd rfl z) fun z => absurd rfl z
  | none =>
    refine core (fun b => if b = a then some (.frz { cls := .type "list", data := .seq vs.toArray } (.lst (ns.map V.int))) else none) (fun b => ?_) (.inl (.inr ⟨{ cls := .type "list", data := .seq vs.toArray }, if_pos rfl⟩)) (fun b u z => ?_) (fun b z => ?_) fun _ => hk
    · by_cases hb : b = a
      · exact .inr ⟨_, _, if_pos hb⟩
      · exact .inl (if_neg hb)
    · by_cases hb : b = a
      · have z' := (if_pos hb).symm.trans z
        cases z'
        subst hb
        exact ⟨ha, by rw [List.length_map]; exact hl, vs, _, rv, ha⟩
      · have z' := (if_neg hb).symm.trans z
        cases z'
    · by_cases hb : b = a
      · exact hb
      · exact absurd (if_neg hb) z
end L2
namespace L2
open PySem PySem.Spec PyProof.Rows
abbrev KOf {K : PySem.W.Frag} {h : Heap} (_ : K.In h) : PySem.W.Frag := K
theorem walk_of {l : PySem.W.OpenLaw} {n k : Nat} {q : Program} {loose : List Str} {XP : (Str → Option Value) → Heap → Prop} {YP : World → Heap → Prop} {d : DefRec} {K : Params → PySem.W.Frag} {CX : World → CXT} {sp : World → Sp} {x : Str}
    (hn : l.most = some n) (hn2 : n ≤ sizeLine) (hdf : d.params.defaults = []) (hr : Room k callerA)
    (hY : ∀ (w : World) (h : Heap), YP w h → (K w.params).In h)
    (F : ∀ (w : World) (mg : Str → Option Value) (fa : Addr) (h : Heap), (K w.params).In h → h.Ns mainGlobals mg → mg d.name = some (.ref fa) →
      ∃ fd : FuncData, (∀ (s : Shared) (u : Value), BindsTo s fd ⟨[u], []⟩ [(x, u)]) ∧
        ∀ base : Heap, (K w.params).In base → base.Ns mainGlobals mg → FnOk l.prog w (K w.params) mg base (CX w) k fa fd [x] (sp w))
    (hsp : ∀ (w : World) (H : Hp) (a : Addr) (ns : List Int), ns.length ≤ n → Only H → SqL (K w.params) H a (ns.map V.int) → sp w [.ref a] H (fun v _ => v = .bl true) fun _ _ _ => False)
    (hCX : ∀ (w : World) (H : Hp) (s : Shared) (e : Value) (s' : Shared), CX w [] H s (fun _ _ _ => False) e s' → False) :
    PySem.W.WalkO q loose XP YP l.row.toRowW d [] (fun f vs => PySem.call f vs) := by
  refine Att.attach_call hn hdf fun w s₀ s₁ mg mb fa o pm cd doc a vs ns G Y ho hd hcd hmg hobj hints hlen hg => ?_
  have KX := hY w _ Y
  obtain ⟨fd, hb, hF⟩ := F w mg fa _ KX G.T.g hmg
  exact law_call KX G.T.g G.T.b G.T.builtins G.T.nolimit hg hobj hints (Nat.le_trans hlen hn2) hr hF hb (fun H hO hS => hsp w H a ns hlen hO hS) fun H e s' => hCX w H s₁ e s'
end L2
namespace L2
open PySem PySem.Spec PyProof.Rows
def inClass (s : Stmt) (j : Nat) : Stmt := match s with
  | .ClassDef _ _ _ body _ _ _ _ _ _ _ => body.getD j (.Pass ⟨0, 0, 0, 0⟩)
  | _ => .Pass ⟨0, 0, 0, 0⟩
def defArgs (s : Stmt) : Arguments := match s with
  | .FunctionDef _ a _ _ _ _ _ _ _ _ => a
  | _ => { posonlyargs := [], args := [], vararg := none, kwonlyargs := [], kw_defaults := [], kwarg := none, defaults := [] }
def defBody (s : Stmt) : List Stmt := match s with
  | .FunctionDef _ _ b _ _ _ _ _ _ _ => b
  | _ => []
def defScope (s : Stmt) : Scope := match s with
  | .FunctionDef _ _ _ _ _ _ sc _ _ _ => sc
  | _ => { kind := .function, names := [], isGenerator := false, isCoroutine := false }
abbrev CX0 : CXT := fun _ _ _ _ _ _ => False
abbrev E0 : XK := fun _ _ _ => False
theorem pass0 {X : Cx} : Passes CX0 X E0 := fun _ _ _ _ _ _ _ h => h.elim
structure Fun (K : PySem.W.Frag) (x qual : Str) (st : Stmt) (f : Addr) (fd : FuncData) : Prop where
  ex : ∃ (oc : Value) (od : Option Addr) (kV doc pm : Value) (an : Option Addr) (cdv ct : Value) (osl : Array (Option Value)),
    fd = PySem.W.fnOf x qual (defArgs st) (defBody st) (defScope st) .none kV doc pm an cdv ct ∧ K.lookup f = some ⟨oc, od, .func fd, osl⟩ ∧ PySem.W.codeIn K cdv qual = true
  kp : PySem.W.keepIn K (.ref f) = true
section
variable {P : Program} {w : World} {K : PySem.W.Frag} {mg : Str → Option Value} {base : Heap}
theorem Fun.ok {x qual : Str} {st : Stmt} {f : Addr} {fd : FuncData} {N ps : List Str} {k : Nat} {sp : Sp} (F : Fun K x qual st f fd) (S : FnScope N ps (defScope st)) (len : ∀ vs H Q E, sp vs H Q E → vs.length = ps.length)
    (hbody : ∀ (cdv : Value) (A : Around) (outer : List Env) (s : Shared) (H : Hp) (vs : List V) (Q : VK) (E : XK), Room k (A.deeper (envOfC qual (defScope st) s.heap.objs.size f cdv)) → sp vs H Q E →
      ∃ t, PSs (cxOf CX0 P w K mg base N qual (defScope st) f cdv A outer s H E).nox (defBody st) t ∧ t { nx := fun _ H' => Q .non H', rt := Q } (start N vs) H) : FnOk P w K mg base CX0 (k + 1) f fd ps sp := by
  obtain ⟨oc, od, kV, doc, pm, an, cdv, ct, osl, rfl, lk, hcd⟩ := F.ex
  refine fn_of lk hcd S len fun A outer s H vs Q E hr hsp => ?_
  obtain ⟨t, h, q⟩ := hbody cdv A outer s H vs Q E hr hsp
  exact ⟨t, h.nox, q⟩
theorem Fun.binds {x qual : Str} {st : Stmt} {f : Addr} {fd : FuncData} {ps : List Str} (F : Fun K x qual st f fd)
    (h : ∀ (kV doc pm : Value) (an : Option Addr) (cdv ct : Value) (us : List Value), us.length = ps.length → bindArgs (PySem.W.fnOf x qual (defArgs st) (defBody st) (defScope st) .none kV doc pm an cdv ct) ⟨us, []⟩ = pure (ps.zip us)) : Binds K fd ps [] := by
  obtain ⟨oc, od, kV, doc, pm, an, cdv, ct, osl, rfl, lk, hcd⟩ := F.ex
  exact .all (h kV doc pm an cdv ct)
theorem fun_mk {x qual : Str} {st : Stmt} {f : Addr} {oc : Value} {od an : Option Addr} {osl : Array (Option Value)} {kV doc pm cdv ct : Value} (l : K.lookup f = some ⟨oc, od, .func (PySem.W.fnOf x qual (defArgs st) (defBody st) (defScope st) .none kV doc pm an cdv ct), osl⟩)
    (c : PySem.W.codeIn K cdv qual = true) (k : PySem.W.keepIn K (.ref f) = true) : Fun K x qual st f (PySem.W.fnOf x qual (defArgs st) (defBody st) (defScope st) .none kV doc pm an cdv ct) := ⟨⟨oc, od, kV, doc, pm, an, cdv, ct, osl, rfl, l, c⟩, k⟩
end
theorem hu_of {A : Around} {k : Nat} (hr : Room k A) : A.units + 1 < cLine := Nat.lt_of_le_of_lt (Nat.add_le_add_left (by decide : 1 ≤ 64) _) hr.units
theorem small1000 {n : Nat} (h : n ≤ 1000) : n < sizeLine := Nat.lt_of_le_of_lt h (by decide)
section
variable {X : Cx}
theorem pv (i : Nat) {x : Str} {pos : Pos} (hN : X.N[i]? = some x := by rfl) (hv : Vis X.env.scope x := by first | exact Or.inl rfl | exact Or.inr (Or.inl rfl) | exact Or.inr (Or.inr rfl)) (hd : (x == ("__debug__" : Str)) = false := by decide)
    (hcd : (x == ("__classdict__" : Str)) = false := by decide) : PE X (.Name x pos) (tVar i) := pe_var hN hv hd hcd
end
theorem iteF {A B : Prop} (h : B) : if false = true then A else B := by
  rw [if_neg Bool.false_ne_true]
  exact h
theorem iteT {A B : Prop} (h : A) : if true = true then A else B := by
  rw [if_pos rfl]
  exact h
theorem ite2 {c A B : Prop} [Decidable c] (h1 : c → A) (h2 : ¬ c → B) : if c then A else B := by
  by_cases h : c
  · rw [if_pos h]
    exact h1 h
  · rw [if_neg h]
    exact h2 h
def Same (H H' : Hp) : Prop := ∀ b o, H b = some o → H' b = some o
theorem Same.refl (H : Hp) : Same H H := fun _ _ h => h
theorem Same.trans {H H1 H2 : Hp} (a : Same H H1) (b : Same H1 H2) : Same H H2 := fun c o h => b c o (a c o h)
theorem Same.free {H H' : Hp} (e : Same H H') {l : Addr} (h : H' l = Option.none) : H l = Option.none := by
  cases q : H l with
  | none => rfl
  | some o =>
    rw [e l o q] at h
    cases h
theorem Same.seq {K : PySem.W.Frag} {H H' : Hp} {a : Addr} {xs : List V} (e : Same H H') (h : SqL K H a xs) : SqL K H' a xs := by
  rcases h with (h | ⟨o, h⟩) | h
  · exact .inl (.inl (e _ _ h))
  · exact .inl (.inr ⟨o, e _ _ h⟩)
  · exact .inr h
end L2
namespace L2
open PySem PySem.Spec PyProof.Rows
section
variable {κ : Type} [DecidableEq κ]
def valV (kvs : List (κ × V)) (k : κ) : Option V := (kvs.find? fun kv => decide (kv.1 = k)).map (·.2)
def putK (kvs : List (κ × V)) (k : κ) (v : V) : List (κ × V) :=
  if (kvs.any fun kv => decide (kv.1 = k)) = true then kvs.map (fun kv => if kv.1 = k then (kv.1, v) else kv) else kvs ++ [(k, v)]
def dropK (kvs : List (κ × V)) (k : κ) : List (κ × V) := kvs.filter fun kv => decide (kv.1 ≠ k)
theorem valV_pos {p : κ × V} {r : List (κ × V)} {k : κ} (e : p.1 = k) : valV (p :: r) k = some p.2 := by simp [valV, List.find?_cons, e]
theorem valV_neg {p : κ × V} {r : List (κ × V)} {k : κ} (e : ¬ p.1 = k) : valV (p :: r) k = valV r k := by simp [valV, List.find?_cons, e]
theorem valV_any (k : κ) : ∀ kvs : List (κ × V), (kvs.any fun kv => decide (kv.1 = k)) = (valV kvs k).isSome
  | [] => rfl
  | p :: r => by
    rw [List.any_cons]
    by_cases e : p.1 = k
    · simp only [valV_pos e, decide_eq_true e, Bool.true_or, Option.isSome_some]
    · rw [valV_neg e, decide_eq_false e, Bool.false_or]; exact valV_any k r
theorem valV_map (k j : κ) (y : V) : ∀ kvs : List (κ × V), valV (kvs.map fun kv => if kv.1 = k then (kv.1, y) else kv) j = (valV kvs j).map fun x => if j = k then y else x
  | [] => rfl
  | p :: r => by
    have ih := valV_map k j y r
    rw [List.map_cons]
    by_cases h : p.1 = k
    · rw [if_pos h]
      by_cases e : p.1 = j
      · rw [valV_pos (p := (p.1, y)) e, valV_pos e, Option.map_some, if_pos (e.symm.trans h)]
      · rw [valV_neg (p := (p.1, y)) e, valV_neg e, ih]
    · rw [if_neg h]
      by_cases e : p.1 = j
      · rw [valV_pos (p := p) e, valV_pos e, Option.map_some, if_neg (fun z => h (e.trans z))]
      · rw [valV_neg (p := p) e, valV_neg e, ih]
theorem valV_snoc (k j : κ) (y : V) : ∀ kvs : List (κ × V), valV kvs k = none → valV (kvs ++ [(k, y)]) j = if j = k then some y else valV kvs j
  | [], _ => by
    by_cases e : k = j
    · rw [if_pos e.symm]; exact valV_pos (p := (k, y)) e
    · rw [if_neg (fun z => e z.symm)]; exact valV_neg (p := (k, y)) e
  | p :: r, hn => by
    rw [List.cons_append]
    have hk : ¬ p.1 = k := fun z => by rw [valV_pos z] at hn; cases hn
    rw [valV_neg hk] at hn
    have ih := valV_snoc k j y r hn
    by_cases e : p.1 = j
    · rw [valV_pos e, valV_pos e, if_neg (fun z => hk (e.trans z))]
    · rw [valV_neg e, valV_neg e, ih]
theorem valV_put (kvs : List (κ × V)) (k j : κ) (y : V) : valV (putK kvs k y) j = if j = k then some y else valV kvs j := by
  unfold putK
  by_cases a : (kvs.any fun kv => decide (kv.1 = k)) = true
  · rw [if_pos a, valV_map]
    rw [valV_any] at a
    by_cases e : j = k
    · obtain ⟨x, hx⟩ := Option.isSome_iff_exists.mp a
      rw [if_pos e, e, hx, Option.map_some, if_pos rfl]
    · rw [if_neg e]
      cases valV kvs j with
      | none => rfl
      | some x => rw [Option.map_some, if_neg e]
  · rw [if_neg a]
    refine valV_snoc k j y kvs ?_
    rw [valV_any] at a
    cases q : valV kvs k with
    | none => rfl
    | some x => rw [q] at a; exact (a rfl).elim
theorem length_putK (kvs : List (κ × V)) (k : κ) (v : V) : (putK kvs k v).length ≤ kvs.length + 1 := by
  unfold putK
  split
  · rw [List.length_map]; omega
  · rw [List.length_append, List.length_cons, List.length_nil]; omega
theorem RelO.isSome_eq {o : Option V} {u : Option Value} (r : RelO o u) : o.isSome = u.isSome := by
  cases o with
  | none => cases u with
    | none => rfl
    | some _ => exact (show False from r).elim
  | some _ => cases u with
    | none => exact (show False from r).elim
    | some _ => rfl
theorem RelO.getD {o : Option V} {u : Option Value} {d : V} {d' : Value} (r : RelO o u) (rd : RelV d d') : RelV (o.getD d) (u.getD d') := by
  cases o with
  | none => cases u with
    | none => exact rd
    | some _ => exact (show False from r).elim
  | some _ => cases u with
    | none => exact (show False from r).elim
    | some _ => exact r
theorem KV.val {kvs : List (κ × V)} {vs : List (κ × Value)} (r : KV kvs vs) (k : κ) : RelO (valV kvs k) (valueAt vs k) := by
  unfold KV at r
  induction r with
  | nil => exact True.intro
  | @cons p q ps qs h t ih =>
    obtain ⟨h1, h2⟩ := h
    by_cases e : p.1 = k
    · have e' : q.1 = k := h1.symm.trans e
      have b : valueAt (q :: qs) k = some q.2 := by simp [valueAt, List.find?_cons, e']
      rw [valV_pos e, b]; exact h2
    · have e' : ¬ q.1 = k := fun z => e (h1.trans z)
      have b : valueAt (q :: qs) k = valueAt qs k := by simp [valueAt, List.find?_cons, e']
      rw [valV_neg e, b]; exact ih
theorem KV.any {kvs : List (κ × V)} {vs : List (κ × Value)} (r : KV kvs vs) (k : κ) : (kvs.any fun kv => decide (kv.1 = k)) = vs.any fun kv => decide (kv.1 = k) := by
  unfold KV at r
  induction r with
  | nil => rfl
  | cons h t ih => rw [List.any_cons, List.any_cons, ih, h.1]
theorem KV.repl {kvs : List (κ × V)} {vs : List (κ × Value)} (r : KV kvs vs) (k : κ) {y : V} {u : Value} (ry : RelV y u) :
    KV (kvs.map fun kv => if kv.1 = k then (kv.1, y) else kv) (vs.map fun kv => if kv.1 = k then (kv.1, u) else kv) := by
  unfold KV at r ⊢
  induction r with
  | nil => exact .nil
  | @cons p q ps qs h t ih =>
    rw [List.map_cons, List.map_cons]
    refine .cons ?_ ih
    obtain ⟨h1, h2⟩ := h
    by_cases e : p.1 = k
    · rw [if_pos e, if_pos (h1.symm.trans e)]; exact ⟨h1, ry⟩
    · rw [if_neg e, if_neg (fun z => e (h1.trans z))]; exact ⟨h1, h2⟩
theorem KV.put {kvs : List (κ × V)} {vs : List (κ × Value)} (r : KV kvs vs) (k : κ) {y : V} {u : Value} (ry : RelV y u) : KV (putK kvs k y) (stored vs k u) := by
  unfold putK stored
  rw [r.any k]
  by_cases e : (vs.any fun kv => decide (kv.1 = k)) = true
  · rw [if_pos e, if_pos e]; exact r.repl k ry
  · rw [if_neg e, if_neg e]; exact Paired.snoc r ⟨rfl, ry⟩
theorem KV.drop {kvs : List (κ × V)} {vs : List (κ × Value)} (r : KV kvs vs) (k : κ) : KV (dropK kvs k) (without vs k) := by
  unfold KV at r ⊢
  unfold dropK without
  induction r with
  | nil => exact .nil
  | @cons p q ps qs h t ih =>
    obtain ⟨h1, h2⟩ := h
    rw [List.filter_cons, List.filter_cons]
    by_cases e : p.1 = k
    · have a : ¬ decide (p.1 ≠ k) = true := by simp [e]
      have b : ¬ decide (q.1 ≠ k) = true := by simp [h1.symm.trans e]
      rw [if_neg a, if_neg b]; exact ih
    · have e' : ¬ q.1 = k := fun z => e (h1.trans z)
      have a : decide (p.1 ≠ k) = true := by simp [e]
      have b : decide (q.1 ≠ k) = true := by simp [e']
      rw [if_pos a, if_pos b]; exact .cons ⟨h1, h2⟩ ih
theorem KV.keys {kvs : List (κ × V)} {vs : List (κ × Value)} (r : KV kvs vs) : kvs.map (·.1) = vs.map (·.1) := by
  unfold KV at r
  induction r with
  | nil => rfl
  | cons h t ih => rw [List.map_cons, List.map_cons, ih, h.1]
theorem KV.length {kvs : List (κ × V)} {vs : List (κ × Value)} (r : KV kvs vs) : kvs.length = vs.length := Paired.length r
theorem dropK_le (kvs : List (κ × V)) (k : κ) : (dropK kvs k).length ≤ kvs.length := List.length_filter_le _ _
end
theorem kV_is {P : Program} {w : World} {k : Key} {u : Value} (r : RelV (kV k) u) : (mixKind P w).is k u = true := by
  cases k with
  | inl i => obtain ⟨t, e⟩ := (show ∃ t, u = Value.int i t from r); subst e; exact mixKind_int P w i t
  | inr x => obtain ⟨t, e⟩ := (show ∃ t, u = Value.str x t from r); subst e; exact mixKind_str P w x t
theorem items_are {P : Program} {w : World} : ∀ {ks : List Key} {us : List Value}, Vals (ks.map kV) us → ItemsAre (mixKind P w) ks us
  | [], _, r => by rw [List.map_nil] at r; cases r; exact .nil
  | k :: ks, _, r => by
    rw [List.map_cons] at r
    cases r with
    | cons h t => exact .cons (kV_is h) (items_are t)
abbrev KT (H : Hp) : List (List Key × V) → List (List Key × Addr × Value) → Prop := Paired fun p q => p.1 = q.1 ∧ H q.2.1 = some (.tup (p.1.map kV)) ∧ RelV p.2 q.2.2
theorem KT.val {H : Hp} {kvs : List (List Key × V)} {xs : List (List Key × Addr × Value)} (r : KT H kvs xs) (k : List Key) : RelO (valV kvs k) ((atKey xs k).map (·.2)) := by
  induction r with
  | nil => exact True.intro
  | @cons p q ps qs h t ih =>
    obtain ⟨h1, _, h2⟩ := h
    by_cases e : p.1 = k
    · have e' : q.1 = k := h1.symm.trans e
      have b : atKey (q :: qs) k = some q.2 := by simp [atKey, List.find?_cons, e']
      rw [valV_pos e, b]; exact h2
    · have e' : ¬ q.1 = k := fun z => e (h1.trans z)
      have b : atKey (q :: qs) k = atKey qs k := by simp [atKey, List.find?_cons, e']
      rw [valV_neg e, b]; exact ih
theorem KT.repl {H : Hp} {kvs : List (List Key × V)} {xs : List (List Key × Addr × Value)} (r : KT H kvs xs) (k : List Key) {y : V} {u : Value} (ry : RelV y u) :
    KT H (kvs.map fun kv => if kv.1 = k then (kv.1, y) else kv) (xs.map (putAt k u)) := by
  induction r with
  | nil => exact .nil
  | @cons p q ps qs h t ih =>
    rw [List.map_cons, List.map_cons]
    refine .cons ?_ ih
    obtain ⟨h1, h2, h3⟩ := h
    unfold putAt
    by_cases e : p.1 = k
    · rw [if_pos e, if_pos (h1.symm.trans e)]; exact ⟨h1, h2, ry⟩
    · rw [if_neg e, if_neg (fun z => e (h1.trans z))]; exact ⟨h1, h2, h3⟩
theorem KT.put {H : Hp} {kvs : List (List Key × V)} {xs : List (List Key × Addr × Value)} (r : KT H kvs xs) (k : List Key) {b : Addr} {y : V} {u : Value} (hb : H b = some (.tup (k.map kV))) (ry : RelV y u) :
    KT H (putK kvs k y) (storedH xs k b u) := by
  have e : (kvs.any fun kv => decide (kv.1 = k)) = (atKey xs k).isSome := by
    rw [valV_any, (r.val k).isSome_eq, Option.isSome_map]
  unfold putK storedH
  rw [e]
  by_cases q : (atKey xs k).isSome = true
  · rw [if_pos q, if_pos q]; exact r.repl k ry
  · rw [if_neg q, if_neg q]; exact Paired.snoc r ⟨rfl, hb, ry⟩
theorem KT.keeps {H H' : Hp} {kvs : List (List Key × V)} {xs : List (List Key × Addr × Value)} (r : KT H kvs xs) (ht : ∀ b ys, H b = some (.tup ys) → H' b = some (.tup ys)) : KT H' kvs xs :=
  Paired.mapP r fun _ _ z => ⟨z.1, ht _ _ z.2.1, z.2.2⟩
section
variable {P : Program} {w : World} {H : Hp} {h : Heap} {a : Addr}
theorem rd_of {u : HO} (ok : HOk P w H h) (e : Rd H a u) : ObjOk P w H h a u := e.ok ok
theorem dk_rd {kvs : List (Key × V)} (ok : HOk P w H h) (e : Rd H a (.dK kvs)) : kvs.length ≤ sizeLine ∧ (a == sysModules) = false ∧ ∃ vs, KV kvs vs ∧ h.DictOf (mixKind P w) a vs :=
  show ObjOk P w H h a (.dK kvs) from rd_of ok e
theorem dk_of {kvs : List (Key × V)} (ok : HOk P w H h) (e : H a = some (.dK kvs)) : kvs.length ≤ sizeLine ∧ (a == sysModules) = false ∧ ∃ vs, KV kvs vs ∧ h.DictOf (mixKind P w) a vs := dk_rd ok (.inl e)
theorem key_of {ks : List Key} (ok : HOk P w H h) (e : H a = some (.tup (ks.map kV))) : (tupleKind (mixKind P w)).is h ks a := by
  obtain ⟨_, its, r, o, h1, h2, n, h3⟩ := (show ObjOk P w H h a (.tup (ks.map kV)) from ok a _ e)
  exact ⟨o, its.toArray, n, h1, h2, h3, by simpa using items_are r⟩
theorem dt_rd {kvs : List (List Key × V)} (ok : HOk P w H h) (e : Rd H a (.dT kvs)) : kvs.length ≤ sizeLine ∧ (a == sysModules) = false ∧
    ∃ xs, KT H kvs xs ∧ h.DictOfH (tupleKind (mixKind P w)) a xs := by
  obtain ⟨z, y, xs, r, o, es, ep, h1, h2, h3, h4, h5⟩ := (show ObjOk P w H h a (.dT kvs) from rd_of ok e)
  refine ⟨z, y, xs, r, o, es, ep, h1, h2, h3, h4, fun x hx => ?_, h5⟩
  have all : ∀ {l : List (List Key × V)} {m : List (List Key × Addr × Value)}, KT H l m → ∀ x ∈ m, (tupleKind (mixKind P w)).is h x.1 x.2.1 := by
    intro l m q
    induction q with
    | nil => intro x hx; exact nomatch hx
    | @cons p q ps qs hq t ih =>
      intro x hx
      rcases List.mem_cons.mp hx with e | hx
      · subst e
        exact key_of ok (by rw [← hq.1]; exact hq.2.1)
      · exact ih x hx
  exact all r x hx
theorem dt_of {kvs : List (List Key × V)} (ok : HOk P w H h) (e : H a = some (.dT kvs)) : kvs.length ≤ sizeLine ∧ (a == sysModules) = false ∧
    ∃ xs, KT H kvs xs ∧ h.DictOfH (tupleKind (mixKind P w)) a xs := dt_rd ok (.inl e)
end
def DGet (H : Hp) (a : Addr) (y : V) (r : Option V) : Prop :=
  (∃ kvs k, Rd H a (.dK kvs) ∧ y = kV k ∧ r = valV kvs k) ∨ ∃ kvs k b, Rd H a (.dT kvs) ∧ y = .ref b ∧ H b = some (.tup (k.map kV)) ∧ r = valV kvs k
def DPut (H : Hp) (a : Addr) (y v : V) (H' : Hp) : Prop :=
  (∃ kvs k, H a = some (.dK kvs) ∧ y = kV k ∧ kvs.length < sizeLine ∧ H' = upd H a (.dK (putK kvs k v))) ∨
  ∃ kvs k b, H a = some (.dT kvs) ∧ y = .ref b ∧ H b = some (.tup (k.map kV)) ∧ kvs.length < sizeLine ∧ H' = upd H a (.dT (putK kvs k v))
theorem DGet.k {H : Hp} {a : Addr} {kvs : List (Key × V)} {k : Key} (e : H a = some (.dK kvs)) : DGet H a (kV k) (valV kvs k) := .inl ⟨kvs, k, .inl e, rfl, rfl⟩
theorem DGet.t {H : Hp} {a b : Addr} {kvs : List (List Key × V)} {k : List Key} (e : H a = some (.dT kvs)) (eb : H b = some (.tup (k.map kV))) : DGet H a (.ref b) (valV kvs k) := .inr ⟨kvs, k, b, .inl e, rfl, eb, rfl⟩
theorem DPut.k {H : Hp} {a : Addr} {kvs : List (Key × V)} {k : Key} {v : V} (e : H a = some (.dK kvs)) (hl : kvs.length < sizeLine) : DPut H a (kV k) v (upd H a (.dK (putK kvs k v))) := .inl ⟨kvs, k, e, rfl, hl, rfl⟩
theorem DPut.t {H : Hp} {a b : Addr} {kvs : List (List Key × V)} {k : List Key} {v : V} (e : H a = some (.dT kvs)) (eb : H b = some (.tup (k.map kV))) (hl : kvs.length < sizeLine) :
    DPut H a (.ref b) v (upd H a (.dT (putK kvs k v))) := .inr ⟨kvs, k, b, e, rfl, eb, hl, rfl⟩
section
variable {X : Cx} {pins : List (Addr × Obj)} {σ : St} {H : Hp} {s : Shared} {a : Addr} {y v : V} {u r : Value} {o : Option V} {A : Around} {E : Value → Shared → Prop}
theorem Inv.big (I : Inv X pins σ H s) : sysModules < s.heap.objs.size := by
  have h : mainGlobals < s.heap.objs.size := (I.mod.glob.keeps I.bk).lt
  exact Nat.lt_trans (by decide) h
theorem d_getItem {Q : Value → Shared → Prop} (hu : A.units + 1 < cLine) (I : Inv X pins σ H s) (g : DGet H a y (some v)) (ry : RelV y u) (h : ∀ w' s', Inv X pins σ H s' → RelV v w' → Q w' s') :
    wpAny (model X.prog X.w) A (getItem (.ref a) u) Q E s := by
  rcases g with ⟨kvs, k, e, ey, l⟩ | ⟨kvs, k, b, e, ey, eb, l⟩
  · subst ey
    obtain ⟨z, hd, vs, rel, dd⟩ := dk_rd I.hok e
    obtain ⟨w', hw, rw'⟩ := RelO.some_of (v := v) (o := valueAt vs k) (by rw [l]; exact rel.val k)
    exact wpAny_getItem_of (kV_is ry) dd.mapOf hw (h w' _ (I.tok _) rw')
  · subst ey
    cases (show u = Value.ref b from ry)
    obtain ⟨z, hd, xs, rel, dd⟩ := dt_rd I.hok e
    obtain ⟨w', hw, rw'⟩ := RelO.some_of (v := v) (o := (atKey xs k).map (·.2)) (by rw [l]; exact rel.val k)
    obtain ⟨p, hp, hp2⟩ := Option.map_eq_some_iff.mp hw
    refine wpAny_getItem_heap (tupleKind_room_in1 hu) (key_of I.hok eb) dd hp ?_
    rw [hp2]
    exact h w' _ (I.tok _) rw'
theorem d_in {Q : Value → Shared → Prop} (hu : A.units + 1 < cLine) (I : Inv X pins σ H s) (g : DGet H a y o) (ry : RelV y u) (h : ∀ s', Inv X pins σ H s' → Q (.bool o.isSome) s') :
    wpAny (model X.prog X.w) A (compareOp .In u (.ref a)) Q E s := by
  rcases g with ⟨kvs, k, e, ey, l⟩ | ⟨kvs, k, b, e, ey, eb, l⟩
  · subst ey
    obtain ⟨z, hd, vs, rel, dd⟩ := dk_rd I.hok e
    refine wpAny_in_of (kV_is ry) hd dd.mapOf ?_
    rw [← (rel.val k).isSome_eq, ← l]
    exact h _ (I.tok _)
  · subst ey
    cases (show u = Value.ref b from ry)
    obtain ⟨z, hd, xs, rel, dd⟩ := dt_rd I.hok e
    refine wpAny_in_heap (tupleKind_room_in1 hu) (key_of I.hok eb) hd dd ?_
    have q := (rel.val k).isSome_eq
    rw [Option.isSome_map] at q
    rw [← q, ← l]
    exact h _ (I.tok _)
theorem d_notIn {Q : Value → Shared → Prop} (hu : A.units + 1 < cLine) (I : Inv X pins σ H s) (g : DGet H a y o) (ry : RelV y u) (h : ∀ s', Inv X pins σ H s' → Q (.bool (!o.isSome)) s') :
    wpAny (model X.prog X.w) A (compareOp .NotIn u (.ref a)) Q E s := by
  rcases g with ⟨kvs, k, e, ey, l⟩ | ⟨kvs, k, b, e, ey, eb, l⟩
  · subst ey
    obtain ⟨z, hd, vs, rel, dd⟩ := dk_rd I.hok e
    refine wpAny_notIn_of (kV_is ry) hd dd.mapOf ?_
    rw [← (rel.val k).isSome_eq, ← l]
    exact h _ (I.tok _)
  · subst ey
    cases (show u = Value.ref b from ry)
    obtain ⟨z, hd, xs, rel, dd⟩ := dt_rd I.hok e
    refine wpAny_notIn_heap (tupleKind_room_in1 hu) (key_of I.hok eb) hd dd ?_
    have q := (rel.val k).isSome_eq
    rw [Option.isSome_map] at q
    rw [← q, ← l]
    exact h _ (I.tok _)
theorem d_write {h' : Heap} {t' : Nat} {ob : HO} (I : Inv X pins σ H s) (mu : Mut (H a)) (hs : Heap.SameBut a s.heap h') (he : ∃ q, h'.get? a = some q) (new : ObjOk X.prog X.w (upd H a ob) h' a ob) :
    Inv X pins σ (upd H a ob) { s with heap := h', toks := t' } :=
  I.write (x := a) (e := a) mu (.inl rfl) (fun b q hb z => (hs.2 b hb).trans z) he new
theorem dk_new {P : Program} {w : World} {H' : Hp} {h' : Heap} {kvs : List (Key × V)} {vs : List (Key × Value)} (z : kvs.length ≤ sizeLine) (hd : (a == sysModules) = false) (rel : KV kvs vs) (dd : h'.DictOf (mixKind P w) a vs) :
    ObjOk P w H' h' a (.dK kvs) := ⟨z, hd, vs, rel, dd⟩
theorem d_setItem {H' : Hp} {Q : Unit → Shared → Prop} (hu : A.units + 1 < cLine) (I : Inv X pins σ H s) (g : DPut H a y v H') (ry : RelV y u) (rv : RelV v r) (h : ∀ s', Inv X pins σ H' s' → Q () s') :
    wpAny (model X.prog X.w) A (setItem (.ref a) u r) Q E s := by
  rcases g with ⟨kvs, k, e, ey, l, eH⟩ | ⟨kvs, k, b, e, ey, eb, l, eH⟩
  · subst ey eH
    obtain ⟨z, hd, vs, rel, dd⟩ := dk_of I.hok e
    have hz : vs.length ≤ sizeLine := by rw [← rel.length]; exact z
    have hl : (putK kvs k v).length ≤ sizeLine := by have := length_putK kvs k v; omega
    refine wpAny_setItem_pairs (hsz := hz) (kV_is ry) dd fun h' dd' hs => h _ ?_
    have he : ∃ q, h'.get? a = some q := let ⟨q, _, _, hq, _⟩ := dd'; ⟨q, hq⟩
    exact d_write I (by rw [e]; exact True.intro) hs he (dk_new hl hd (rel.put k rv) dd')
  · subst ey eH
    cases (show u = Value.ref b from ry)
    obtain ⟨z, hd, xs, rel, dd⟩ := dt_of I.hok e
    have hz : xs.length ≤ sizeLine := by rw [← Paired.length rel]; exact z
    have hl : (putK kvs k v).length ≤ sizeLine := by have := length_putK kvs k v; omega
    refine wpAny_setItem_heap (hsz := hz) (tupleKind_room_in1 hu) (key_of I.hok eb) dd fun h' dd' hs => h _ ?_
    obtain ⟨q, es, ep, hq, h2, h3, h4, _, h5⟩ := dd'
    refine d_write I (by rw [e]; exact True.intro) hs ⟨q, hq⟩ ⟨hl, hd, _, (rel.put k eb rv).keeps fun c ys ec => ?_, q, es, ep, hq, h2, h3, h4, h5⟩
    rw [upd_ne (ne_of ec e (fun z => nomatch z))]
    exact ec
end
section
variable {X : Cx} {pins : List (Addr × Obj)} {σ : St} {H : Hp} {s : Shared} {a : Addr} {kvs : List (Key × V)} {k : Key} {u : Value} {A : Around} {E : Value → Shared → Prop}
theorem d_pop {v : V} {more : List Value} {Q : Value → Shared → Prop} (I : Inv X pins σ H s) (e : H a = some (.dK kvs)) (ry : RelV (kV k) u) (l : valV kvs k = some v) (hm : more = [] ∨ ∃ x, more = [x])
    (h : ∀ w' s', Inv X pins σ (upd H a (.dK (dropK kvs k))) s' → RelV v w' → Q w' s') : wpAny (model X.prog X.w) A (call (.builtin "dict.pop") (.ref a :: u :: more)) Q E s := by
  obtain ⟨z, hd, vs, rel, dd⟩ := dk_of I.hok e
  obtain ⟨w', hw, rw'⟩ := RelO.some_of (v := v) (o := valueAt vs k) (by rw [← l]; exact rel.val k)
  have hp : (keyPart u).isSome = true := by
    cases k with
    | inl i => obtain ⟨t, q⟩ := (show ∃ t, u = Value.int i t from ry); subst q; rfl
    | inr x => obtain ⟨t, q⟩ := (show ∃ t, u = Value.str x t from ry); subst q; rfl
  have ha : argsOk "dict.pop" ⟨.ref a :: u :: more, []⟩ := by
    rcases hm with q | ⟨x, q⟩
    · subst q; exact PySem.F.args_dict_pop_2 _ _
    · subst q; exact PySem.F.args_dict_pop_3 _ _ _
  refine call_meetsIn PySem.F.slot_dict_pop dd.typeIs PySem.F.entry_dict_pop ha (meets_dict_pop_there (mixKind X.prog X.w) a (kV_is ry) more hm hp)
    ⟨vs, w', dd, by rw [← rel.length]; exact z, hw, fun h' dd' hs => h w' _ ?_ rw'⟩
  have he : ∃ q, h'.get? a = some q := let ⟨q, _, _, hq, _⟩ := dd'; ⟨q, hq⟩
  exact d_write I (by rw [e]; exact True.intro) hs he (dk_new (Nat.le_trans (dropK_le kvs k) z) hd (rel.drop k) dd')
theorem d_popD {r : Value} {Q : Value → Shared → Prop} (I : Inv X pins σ H s) (e : H a = some (.dK kvs)) (ry : RelV (kV k) u) (l : valV kvs k = none) (h : ∀ s', Inv X pins σ H s' → Q r s') :
    wpAny (model X.prog X.w) A (call (.builtin "dict.pop") [.ref a, u, r]) Q E s := by
  obtain ⟨z, hd, vs, rel, dd⟩ := dk_of I.hok e
  have hn : valueAt vs k = none := RelO.none_of (by rw [← l]; exact rel.val k)
  have hp : (keyPart u).isSome = true := by
    cases k with
    | inl i => obtain ⟨t, q⟩ := (show ∃ t, u = Value.int i t from ry); subst q; rfl
    | inr x => obtain ⟨t, q⟩ := (show ∃ t, u = Value.str x t from ry); subst q; rfl
  exact call_meetsIn PySem.F.slot_dict_pop dd.typeIs PySem.F.entry_dict_pop (PySem.F.args_dict_pop_3 _ _ _) (meets_dict_pop_default (mixKind X.prog X.w) a (kV_is ry) hd hp r) ⟨vs, dd, hn, h _ (I.tok _)⟩
end
def NoSl (i : Expr) : Prop := ∀ ov iv, subscripted i false ov iv = operate [ov, iv] (getItem ov iv)
theorem subD_of {prog : Program} {w : World} {A : Around} {E : Value → Shared → Prop} {s : Shared} {env : Env} {value slice : Expr} {pos : Pos} {T id : String} {Q : Value → Shared → Prop}
    (hl : typeLookup (.type T) "__getitem__" = pure (some (.builtin id))) (hs : NoSl slice)
    (h : wpAny (model prog w) A (eval value env) (fun o s₁ => wpAny (model prog w) A (eval slice env) (fun i s₂ => s₂.TypeIs o T ∧ wpAny (model prog w) A (getItem o i) Q E s₂) E s₁) E s) :
    wpAny (model prog w) A (eval (.Subscript value slice pos) env) Q E s := by
  refine Subscript_ (wpAny_mono h (fun o s₁ h₁ => wpAny_mono h₁ (fun i s₂ h₂ => ?_) fun _ _ x => x) fun _ _ x => x)
  obtain ⟨hT, h₂⟩ := h₂
  unfold subscriptTail
  refine wpAny_bind ?_
  rw [getitemInPython_of_ne hT.not_modules]
  refine wpAny_bind (wpAny_specialOf hT hl ?_)
  have fin : wpAny (model prog w) A (subscripted slice false o i) (fun r s₃ => wpAny (model prog w) A (letTemporaryGo value o r >>= fun _ => pure r) Q E s₃) E s₂ := by
    rw [hs o i]
    exact wpAny_operating (wpAny_mono h₂ (fun r s₃ h₃ => wpAny_bind (wpAny_letTemporaryGo (wpAny_pure h₃))) fun _ _ x => x)
  first
    | exact wpAny_pure (wpAny_bind fin)
    | exact wpAny_bind (wpAny_pure (wpAny_bind fin))
    | exact wpAny_bind fin
theorem dict_typeIs {X : Cx} {pins : List (Addr × Obj)} {σ : St} {H : Hp} {s : Shared} {a : Addr} {y : V} {o : Option V} (I : Inv X pins σ H s) (g : DGet H a y o) : s.TypeIs (.ref a) "dict" := by
  rcases g with ⟨kvs, k, e, _, _⟩ | ⟨kvs, k, b, e, _, _, _⟩
  · obtain ⟨_, _, vs, _, dd⟩ := dk_rd I.hok e
    exact dd.typeIs
  · obtain ⟨_, _, xs, _, dd⟩ := dt_rd I.hok e
    exact dd.typeIs
def tDGet (td ty : TE) : TE := fun σ H Q => td σ H fun x H1 => ty σ H1 fun y H2 => ∃ a v, x = .ref a ∧ DGet H2 a y (some v) ∧ Q v H2
def tDIn (ty td : TE) : TE := fun σ H Q => ty σ H fun y H1 => td σ H1 fun x H2 => ∃ a o, x = .ref a ∧ DGet H2 a y o ∧ Q (.bl o.isSome) H2
def tDNotIn (ty td : TE) : TE := fun σ H Q => ty σ H fun y H1 => td σ H1 fun x H2 => ∃ a o, x = .ref a ∧ DGet H2 a y o ∧ Q (.bl (!o.isSome)) H2
def sDPut (td ty tv : TE) : TS := fun D σ H => tv σ H fun v H1 => td σ H1 fun x H2 => ty σ H2 fun y H3 => ∃ a H4, x = .ref a ∧ DPut H3 a y v H4 ∧ D.nx σ H4
section
variable {X : Cx} {o i e value : Expr} {pos pos' tpos : Pos} {td ty tv : TE}
theorem pe_dget (hu : X.A.units + 1 < cLine) (ho : PE X o td) (hi : PE X i ty) (hs : NoSl i) : PE X (.Subscript o i pos) (tDGet td ty) := by
  intro pins s σ H Q I h
  refine subD_of PySem.F.slot_dict_getitem.lookup hs (thn (ho pins s σ H _ I h) fun u s1 ⟨x, H1, I1, rx, q1⟩ => thn (hi pins s1 σ H1 _ I1 q1) fun iv s2 ⟨y, H2, I2, ry, a, v, ex, g, q2⟩ => ?_)
  subst ex
  obtain rfl : u = Value.ref a := rx
  exact ⟨dict_typeIs I2 g, d_getItem hu I2 g ry fun w' s3 I3 rw' => ⟨v, H2, I3, rw', q2⟩⟩
theorem pc_din (hu : X.A.units + 1 < cLine) (hi : PE X i ty) (ho : PE X o td) : PC X .In i o (tDIn ty td) := by
  intro pins s σ H Q I h
  refine thn (hi pins s σ H _ I h) fun iv s1 ⟨y, H1, I1, ry, q1⟩ => thn (ho pins s1 σ H1 _ I1 q1) fun u s2 ⟨x, H2, I2, rx, a, ov, ex, g, q2⟩ => ?_
  subst ex
  obtain rfl : u = Value.ref a := rx
  exact d_in hu I2 g ry fun s3 I3 => ⟨.bl ov.isSome, H2, I3, rfl, q2⟩
theorem pc_dnotin (hu : X.A.units + 1 < cLine) (hi : PE X i ty) (ho : PE X o td) : PC X .NotIn i o (tDNotIn ty td) := by
  intro pins s σ H Q I h
  refine thn (hi pins s σ H _ I h) fun iv s1 ⟨y, H1, I1, ry, q1⟩ => thn (ho pins s1 σ H1 _ I1 q1) fun u s2 ⟨x, H2, I2, rx, a, ov, ex, g, q2⟩ => ?_
  subst ex
  obtain rfl : u = Value.ref a := rx
  exact d_notIn hu I2 g ry fun s3 I3 => ⟨.bl (!ov.isSome), H2, I3, rfl, q2⟩
theorem ps_dput (hu : X.A.units + 1 < cLine) (ho : PE X o td) (hi : PE X i ty) (hv : PE X value tv) (hs : swapsWith value (some (.Subscript o i pos')) pos.line X.env = pure false) :
    PS X (.Assign [.Subscript o i pos'] value pos) (sDPut td ty tv) := by
  intro pins s σ H D I h
  refine wpAny_Assign_Subscript (thn (hv pins s σ H _ I h) fun r s1 ⟨v, H1, I1, rv, q1⟩ => thn (ho pins s1 σ H1 _ I1 q1) fun u s2 ⟨x, H2, I2, rx, q2⟩ => thn (hi pins s2 σ H2 _ I2 q2) fun iv s3 ⟨y, H3, I3, ry, a, H4, ex, g, q3⟩ => ?_) hs
  subst ex
  obtain rfl : u = Value.ref a := rx
  exact d_setItem hu I3 g ry rv fun s4 I4 => ⟨σ, H4, I4, q3⟩
end
theorem dk_empty {P : Program} {w : World} {H : Hp} (h : Heap) (hb : sysModules < h.objs.size) : ObjOk P w H (h.push { cls := .type "dict", data := .dict #[] }) h.objs.size (.dK []) :=
  ⟨Nat.zero_le _, beq_eq_false_iff_ne.mpr (Ne.symm (Nat.ne_of_lt hb)), [], .nil, Heap.DictOf.new h⟩
def tDNewK : TE := fun _ H Q => ∀ p, H p = none → Q (.ref p) (upd H p (.dK []))
section
variable {X : Cx} {pos : Pos}
theorem pe_dnewK : PE X (.Dict [] [] pos) tDNewK := fun pins s σ H Q I h =>
  wpAny_Dict_empty ⟨.ref s.heap.objs.size, _, I.laid (a := s.heap.objs.size) (o := .dK []) (t' := s.toks) (fun _ _ q => Heap.get?_push_of_some _ q) (Nat.le_refl _) (dk_empty s.heap I.big), rfl, h _ (I.hok.fresh (Nat.le_refl _))⟩
end
def tPairs : List (TE × TE) → St → Hp → (List (V × V) → Hp → Prop) → Prop
  | [], _, H, Q => Q [] H
  | (tk, tv) :: r, σ, H, Q => tk σ H fun x H1 => tv σ H1 fun y H2 => tPairs r σ H2 fun ps H3 => Q ((x, y) :: ps) H3
abbrev VV : List (V × V) → List (Value × Value) → Prop := Paired fun p q => RelV p.1 q.1 ∧ RelV p.2 q.2
def PPs (X : Cx) (pos : Pos) (keys : List (Option Expr)) (values : List Expr) (trs : List (TE × TE)) : Prop :=
  ∀ (pins : List (Addr × Obj)) (s : Shared) (σ : St) (H : Hp) (Q : List (V × V) → Hp → Prop), Inv X pins σ H s → tPairs trs σ H Q →
    wpAny (model X.prog X.w) X.A (evalPairs (pairTrees keys values X.env pos)) (fun vs s' => ∃ ps H', Inv X pins σ H' s' ∧ VV ps vs ∧ Q ps H') X.xe s
theorem pps_nil {X : Cx} {pos : Pos} : PPs X pos [] [] [] := fun pins s σ H Q I h => pairTrees_nil_walk ⟨[], H, I, .nil, h⟩
theorem pps_cons {X : Cx} {pos : Pos} {k v : Expr} {ks : List (Option Expr)} {vs : List Expr} {tk tv : TE} {trs : List (TE × TE)} (hk : PE X k tk) (hv : PE X v tv) (hr : PPs X pos ks vs trs) :
    PPs X pos (some k :: ks) (v :: vs) ((tk, tv) :: trs) := fun pins s σ H Q I h =>
  pairTrees_cons_walk (thn (hk pins s σ H _ I h) fun u s1 ⟨x, H1, I1, rx, q1⟩ => thn (hv pins s1 σ H1 _ I1 q1) fun w2 s2 ⟨y, H2, I2, ry, q2⟩ =>
    thn (hr pins s2 σ H2 _ I2 q2) fun ws s3 ⟨ps, H3, I3, rel, q3⟩ => ⟨(x, y) :: ps, H3, I3, .cons ⟨rx, ry⟩ rel, q3⟩)
def mergeK (kvs more : List (Key × V)) : List (Key × V) := more.foldl (fun acc kv => putK acc kv.1 kv.2) kvs
theorem KV.merge : ∀ {more : List (Key × V)} {rs : List (Key × Value)} {kvs : List (Key × V)} {vs : List (Key × Value)}, KV more rs → KV kvs vs → KV (mergeK kvs more) (merged vs rs) := by
  intro more rs kvs vs r
  unfold KV at r
  induction r generalizing kvs vs with
  | nil => intro q; exact q
  | @cons p q ps qs h t ih =>
    intro r0
    have e : KV (putK kvs p.1 p.2) (stored vs q.1 q.2) := by
      have := r0.put p.1 h.2
      rw [← h.1]; exact this
    exact ih e
theorem length_mergeK : ∀ (more kvs : List (Key × V)), (mergeK kvs more).length ≤ kvs.length + more.length
  | [], kvs => by show kvs.length ≤ kvs.length + 0; omega
  | p :: r, kvs => by
    have h1 := length_mergeK r (putK kvs p.1 p.2)
    have h2 := length_putK kvs p.1 p.2
    show (mergeK (putK kvs p.1 p.2) r).length ≤ _
    rw [List.length_cons]; omega
theorem carries_of {P : Program} {w : World} : ∀ {kvs : List (Key × V)} {ws : List (Value × Value)}, VV (kvs.map fun kv => (kV kv.1, kv.2)) ws → ∃ rs, Carries (mixKind P w) ws rs ∧ KV kvs rs
  | [], _, r => by rw [List.map_nil] at r; cases r; exact ⟨[], True.intro, .nil⟩
  | p :: kvs, _, r => by
    rw [List.map_cons] at r
    cases r with
    | @cons a b as bs h t =>
      obtain ⟨rs, c, q⟩ := carries_of (P := P) (w := w) t
      obtain ⟨b1, b2⟩ := b
      exact ⟨(p.1, b2) :: rs, ⟨kV_is h.1, rfl, c⟩, .cons ⟨rfl, h.2⟩ q⟩
def tDisp (trs : List (TE × TE)) : TE := fun σ H Q => ∀ p, H p = none → tPairs trs σ (upd H p (.dK [])) fun ps H2 => H2 p = some (.dK []) ∧ ∃ kvs : List (Key × V), ps = kvs.map (fun kv => (kV kv.1, kv.2)) ∧ kvs.length ≤ 15 ∧ Q (.ref p) (upd H2 p (.dK (mergeK [] kvs)))
theorem pe_disp {X : Cx} {pos : Pos} {keys : List (Option Expr)} {values : List Expr} {trs : List (TE × TE)} (h : PPs X pos keys values trs) (hall : keys.all (·.isSome) = true) (hl : keys.length = values.length) (h0 : keys ≠ [])
    (h15 : keys.length ≤ 15) : PE X (.Dict keys values pos) (tDisp trs) := by
  intro pins s σ H Q I q
  have hn := I.hok.fresh (Nat.le_refl s.heap.objs.size)
  have I1 := I.laid (a := s.heap.objs.size) (o := .dK []) (h' := s.heap.push { cls := .type "dict", data := .dict #[] }) (t' := s.toks) (fun _ _ q => Heap.get?_push_of_some _ q) (Nat.le_refl _) (dk_empty s.heap I.big)
  refine wpAny_Dict_walk (knd := mixKind X.prog X.w) hall hl h0 h15 (thn (h pins _ σ _ _ I1 (q _ hn)) fun ws s2 ⟨ps, H2, I2, rel, e, kvs, ep, lk, q2⟩ => ?_)
  subst ep
  obtain ⟨rs, c, rk⟩ := carries_of (P := X.prog) (w := X.w) rel
  obtain ⟨z, hd, vs0, r0, dd⟩ := dk_of I2.hok e
  cases r0
  refine ⟨rs, c, dd, fun h' dd' hs => ⟨.ref s.heap.objs.size, _, ?_, rfl, q2⟩⟩
  have hz : (mergeK [] kvs).length ≤ sizeLine := by
    have h1 := length_mergeK kvs []
    rw [List.length_nil] at h1
    rw [sizeLine_eq]; omega
  have he : ∃ q, h'.get? s.heap.objs.size = some q := let ⟨q, _, _, hq, _⟩ := dd'; ⟨q, hq⟩
  exact d_write I2 (by rw [e]; exact True.intro) hs he (dk_new hz hd (rk.merge .nil) dd')
structure M1 (X : Cx) (o : Expr) (m : Str) (apos : Pos) (e : Expr) (cpos : Pos) : Prop where
  base : attributeBase o m X.env (eval o X.env) = eval o X.env
  few : ((backTo cpos (starEach [e] X.env)).all (fun x => !x.1) && (backToKw cpos (keywordEach [] X.env)).all (fun x => x.1.isSome)
    && decide (([e] : List Expr).length + ([] : List Keyword).length + (if ([] : List Keyword).isEmpty then 0 else 1) < 30)) = true
  line : (apos.endLine == cpos.line) = true
  trees : backTo cpos (starEach [e] X.env) = [(false, eval e X.env)]
structure M2 (X : Cx) (o : Expr) (m : Str) (apos : Pos) (e f : Expr) (cpos : Pos) : Prop where
  base : attributeBase o m X.env (eval o X.env) = eval o X.env
  few : ((backTo cpos (starEach [e, f] X.env)).all (fun x => !x.1) && (backToKw cpos (keywordEach [] X.env)).all (fun x => x.1.isSome)
    && decide (([e, f] : List Expr).length + ([] : List Keyword).length + (if ([] : List Keyword).isEmpty then 0 else 1) < 30)) = true
  line : (apos.endLine == cpos.line) = true
  trees : backTo cpos (starEach [e, f] X.env) = [(false, eval e X.env), (false, eval f X.env)]
def IsD (H : Hp) (a : Addr) : Prop := (∃ kvs, Rd H a (.dK kvs)) ∨ ∃ kvs, Rd H a (.dT kvs)
theorem isD_at {X : Cx} {pins : List (Addr × Obj)} {σ : St} {H : Hp} {s : Shared} {a : Addr} (I : Inv X pins σ H s) (d : IsD H a) :
    s.TypeIs (.ref a) "dict" ∧ (∀ b, Value.ref a = .ref b → ∃ ob, s.heap.get? b = some ob ∧ ob.dict = none) ∧ (a == sysModules) = false := by
  rcases d with ⟨kvs, e⟩ | ⟨kvs, e⟩
  · obtain ⟨_, hd, vs, _, dd⟩ := dk_rd I.hok e
    refine ⟨dd.typeIs, fun b q => ?_, hd⟩
    cases q
    obtain ⟨ob, _, _, h1, h2, _⟩ := dd
    exact ⟨ob, h1, h2.2.1⟩
  · obtain ⟨_, hd, xs, _, dd⟩ := dt_rd I.hok e
    refine ⟨dd.typeIs, fun b q => ?_, hd⟩
    cases q
    obtain ⟨ob, _, _, h1, h2, _⟩ := dd
    exact ⟨ob, h1, h2.2.1⟩
section
variable {X : Cx} {pins : List (Addr × Obj)} {σ : St} {H : Hp} {s : Shared} {a : Addr} {y d : V} {u r : Value} {o : Option V} {A : Around} {E : Value → Shared → Prop}
theorem d_get1 {Q : Value → Shared → Prop} (hu : A.units + 1 < cLine) (I : Inv X pins σ H s) (g : DGet H a y o) (ry : RelV y u) (h : ∀ w' s', Inv X pins σ H s' → RelV (o.getD .non) w' → Q w' s') :
    wpAny (model X.prog X.w) A (call (.builtin "dict.get") [.ref a, u]) Q E s := by
  rcases g with ⟨kvs, k, e, ey, l⟩ | ⟨kvs, k, b, e, ey, eb, l⟩
  · subst ey
    obtain ⟨z, hd, vs, rel, dd⟩ := dk_rd I.hok e
    refine call_meetsIn PySem.F.slot_dict_get dd.typeIs PySem.F.entry_dict_get (PySem.F.args_dict_get_2 _ _) (meets_dict_get (mixKind X.prog X.w) a (kV_is ry) hd) ⟨_, dd.mapOf, h _ _ (I.tok _) ?_⟩
    rw [l]
    exact (rel.val k).getD rfl
  · subst ey
    cases (show u = Value.ref b from ry)
    obtain ⟨z, hd, xs, rel, dd⟩ := dt_rd I.hok e
    refine call_meetsIn PySem.F.slot_dict_get dd.typeIs PySem.F.entry_dict_get (PySem.F.args_dict_get_2 _ _) (meetsH_dict_get (tupleKind (mixKind X.prog X.w)) a b hd) ⟨tupleKind_room_in1 hu, k, xs, key_of I.hok eb, dd, h _ _ (I.tok _) ?_⟩
    rw [l]
    exact (rel.val k).getD rfl
end
def tDGet1 (td ty : TE) : TE := fun σ H Q => td σ H fun x H1 => ∃ a, x = .ref a ∧ IsD H1 a ∧ ty σ H1 fun y H2 => ∃ o, DGet H2 a y o ∧ Q (o.getD .non) H2
def tDPop2 (td ty tx : TE) : TE := fun σ H Q => td σ H fun x H1 => ∃ a, x = .ref a ∧ IsD H1 a ∧ ty σ H1 fun y H2 => tx σ H2 fun z H3 => ∃ kvs k, H3 a = some (.dK kvs) ∧ y = kV k ∧
  (∀ v, valV kvs k = some v → Q v (upd H3 a (.dK (dropK kvs k)))) ∧ (valV kvs k = none → Q z H3)
section
variable {X : Cx} {o e f : Expr} {apos cpos : Pos} {td ty tx : TE}
theorem pe_dget1 (hu : X.A.units + 1 < cLine) (ho : PE X o td) (he : PE X e ty) (m : M1 X o "get" apos e cpos) : PE X (.Call (.Attribute o "get" apos) [e] [] cpos) (tDGet1 td ty) := by
  intro pins s σ H Q I h
  refine wpAny_Call_method m.base m.few m.line PySem.F.plainAttrs_dict PySem.F.slot_dict_get PySem.F.type_dict_get (thn (ho pins s σ H _ I h) fun u s1 ⟨x, H1, I1, rx, a, ex, d, q1⟩ => ?_)
  subst ex
  obtain rfl : u = Value.ref a := rx
  obtain ⟨t1, t2, _⟩ := isD_at I1 d
  refine ⟨t1, t2, ?_⟩
  rw [m.trees]
  refine Calls.callWith_builtin rfl (Calls.evalArgs_plain (Calls.spliced_cons (thn (he pins s1 σ H1 _ I1 q1) fun iv s2 ⟨y, H2, I2, ry, ov, g, q2⟩ => Calls.spliced_nil ?_)))
  exact d_get1 hu I2 g ry fun w' s3 I3 rw' => ⟨_, H2, I3, rw', q2⟩
theorem pe_dpop2 (ho : PE X o td) (he : PE X e ty) (hf : PE X f tx) (m : M2 X o "pop" apos e f cpos) : PE X (.Call (.Attribute o "pop" apos) [e, f] [] cpos) (tDPop2 td ty tx) := by
  intro pins s σ H Q I h
  refine wpAny_Call_method m.base m.few m.line PySem.F.plainAttrs_dict PySem.F.slot_dict_pop PySem.F.type_dict_pop (thn (ho pins s σ H _ I h) fun u s1 ⟨x, H1, I1, rx, a, ex, d, q1⟩ => ?_)
  subst ex
  obtain rfl : u = Value.ref a := rx
  obtain ⟨t1, t2, _⟩ := isD_at I1 d
  refine ⟨t1, t2, ?_⟩
  rw [m.trees]
  refine Calls.callWith_builtin rfl (Calls.evalArgs_plain (Calls.spliced_cons (thn (he pins s1 σ H1 _ I1 q1) fun iv s2 ⟨y, H2, I2, ry, q2⟩ =>
    Calls.spliced_cons (thn (hf pins s2 σ H2 _ I2 q2) fun fv s3 ⟨z, H3, I3, rz, kvs, k, ea, ey, q3, q4⟩ => Calls.spliced_nil ?_))))
  subst ey
  cases l : valV kvs k with
  | some v => exact d_pop I3 ea ry l (.inr ⟨fv, rfl⟩) fun w' s4 I4 rw' => ⟨v, _, I4, rw', q3 v l⟩
  | none => exact d_popD I3 ea ry l fun s4 I4 => ⟨z, H3, I4, rz, q4 l⟩
end
section
variable {X : Cx} {pins : List (Addr × Obj)} {σ : St} {H : Hp} {s : Shared} {a : Addr} {kvs : List (Key × V)} {A : Around} {E : Value → Shared → Prop}
end
section
variable {X : Cx} {pins : List (Addr × Obj)} {σ : St} {H : Hp} {s : Shared} {a : Addr} {y : V} {u : Value} {A : Around} {E : Value → Shared → Prop}
end
end L2
namespace L2
open PySem PySem.Spec PyProof.Rows
section
variable {κ : Type} [DecidableEq κ]
end
end L2
namespace L2
open PySem PySem.Spec PyProof.Rows
theorem lookup_relab {env : Env} (y : Str) : ∀ names : List (Str × NameKind),
    (names.map fun (n, k) => if (k == NameKind.free && env.scope.kind == .function && env.kindOf n == some .cell) then (n, NameKind.cell) else (n, k)).lookup y =
      (names.lookup y).map fun k => if (k == NameKind.free && env.scope.kind == .function && env.kindOf y == some .cell) then NameKind.cell else k
  | [] => rfl
  | (n, k) :: r => by
    have ih := lookup_relab (env := env) y r
    rw [List.map_cons]
    cases hx : y == n with
    | true =>
      have e : y = n := by simpa using hx
      subst e
      by_cases hc : (k == NameKind.free && env.scope.kind == .function && env.kindOf y == some .cell) = true
      · simp only [hc, if_true, List.lookup_cons, beq_self_eq_true, Option.map_some]
      · simp only [hc, List.lookup_cons, beq_self_eq_true, Option.map_some]
        simp [hc]
    | false =>
      by_cases hc : (k == NameKind.free && env.scope.kind == .function && env.kindOf n == some .cell) = true
      · simp only [hc, if_true, List.lookup_cons, hx]; exact ih
      · simp only [hc, List.lookup_cons, hx, Bool.false_eq_true, if_false]; exact ih
theorem relab_kind {scope : Scope} {env : Env} {y : Str} {k : NameKind} (hcell : ∀ z ∈ scope.names, z.2 ≠ .cell) (h : (relabel scope env).names.lookup y = some k) :
    scope.names.lookup y = some k ∨ (scope.names.lookup y = some .free ∧ k = .cell) := by
  unfold relabel at h
  rw [lookup_relab] at h
  cases e : scope.names.lookup y with
  | none => rw [e] at h; cases h
  | some k0 =>
    rw [e] at h
    simp only [Option.map_some, Option.some.injEq] at h
    by_cases hc : (k0 == NameKind.free && env.scope.kind == .function && env.kindOf y == some .cell) = true
    · rw [if_pos hc] at h
      right
      simp only [Bool.and_eq_true, beq_iff_eq] at hc
      exact ⟨by rw [hc.1.1], h.symm⟩
    · rw [if_neg hc] at h
      left; rw [h]
theorem mem_of_lookup {α : Type} {y : Str} {k : α} : ∀ {l : List (Str × α)}, l.lookup y = some k → (y, k) ∈ l
  | [], h => by cases h
  | (n, z) :: r, h => by
    cases hx : y == n with
    | true =>
      have e : y = n := by simpa using hx
      subst e
      simp only [List.lookup_cons, beq_self_eq_true] at h
      cases h
      exact List.mem_cons_self
    | false =>
      simp only [List.lookup_cons, hx] at h
      exact List.mem_cons_of_mem _ (mem_of_lookup h)
theorem closure_ok {env : Env} : ∀ (names : List (Str × NameKind)) (c0 : List (Str × Addr)), (∀ y ∈ names, y.2 = .free → ∃ c, env.cells.lookup y.1 = some c) →
    ∃ cl : List (Str × Addr), (forIn names c0 fun (x : Str × NameKind) (r : List (Str × Addr)) => (if x.2 == NameKind.free then (do let a ← cellOf env x.1; pure (ForInStep.yield ((x.1, a) :: r))) else pure (ForInStep.yield r) : Sem (ForInStep (List (Str × Addr))))) = pure cl ∧
      (∀ y c, cl.lookup y = some c → c0.lookup y = some c ∨ env.cells.lookup y = some c) ∧ (∀ y, c0.lookup y ≠ none → cl.lookup y ≠ none) ∧ ∀ y ∈ names, y.2 = .free → cl.lookup y.1 ≠ none
  | [], c0, _ => ⟨c0, rfl, fun _ _ h => .inl h, fun _ h => h, fun _ h => (nomatch h)⟩
  | (n, k) :: r, c0, h => by
    by_cases hk : k = .free
    · subst hk
      obtain ⟨c, hc⟩ := h (n, .free) List.mem_cons_self rfl
      obtain ⟨cl, e, g1, g2, g3⟩ := closure_ok r ((n, c) :: c0) fun y hy => h y (List.mem_cons_of_mem _ hy)
      refine ⟨cl, ?_, ?_, ?_, ?_⟩
      · rw [List.forIn_cons]
        have hcell : cellOf env n = pure c := by unfold cellOf; rw [hc]
        simp only [beq_self_eq_true, if_true, hcell, pure_bind]
        exact e
      · intro y d q
        rcases g1 y d q with q | q
        · cases hx : y == n with
          | true =>
            have e' : y = n := by simpa using hx
            subst e'
            simp only [List.lookup_cons, beq_self_eq_true] at q
            cases q
            exact .inr hc
          | false => simp only [List.lookup_cons, hx] at q; exact .inl q
        · exact .inr q
      · intro y q
        apply g2
        cases hx : y == n with
        | true => simp [List.lookup_cons, hx]
        | false => simpa [List.lookup_cons, hx] using q
      · intro y hy hf
        rcases List.mem_cons.mp hy with e' | hy
        · subst e'
          apply g2
          simp [List.lookup_cons]
        · exact g3 y hy hf
    · obtain ⟨cl, e, g1, g2, g3⟩ := closure_ok r c0 fun y hy => h y (List.mem_cons_of_mem _ hy)
      refine ⟨cl, ?_, g1, g2, ?_⟩
      · rw [List.forIn_cons]
        have hb : (k == NameKind.free) = false := by simpa using hk
        simp only [hb, Bool.false_eq_true, if_false, pure_bind]
        exact e
      · intro y hy hf
        rcases List.mem_cons.mp hy with e' | hy
        · subst e'; exact absurd hf hk
        · exact g3 y hy hf
theorem closure_of {scope : Scope} {env : Env} (h : ∀ y ∈ scope.names, y.2 = .free → ∃ c, env.cells.lookup y.1 = some c) :
    ∃ cl, closureFor scope env = pure cl ∧ (∀ y c, cl.lookup y = some c → env.cells.lookup y = some c) ∧ ∀ y ∈ scope.names, y.2 = .free → cl.lookup y.1 ≠ none := by
  obtain ⟨cl, e, g1, _, g3⟩ := closure_ok (env := env) scope.names [] h
  refine ⟨cl, ?_, fun y c q => (g1 y c q).elim (fun z => by cases z) fun z => z, g3⟩
  simp only [closureFor]
  rw [← bind_pure (pure cl : Sem _), ← e]
def hid (N : List Str) (x : Str) : List Str := N.map fun y => if y = x then "" else y
theorem hid_len (N : List Str) (x : Str) : (hid N x).length = N.length := List.length_map ..
theorem hid_get {N : List Str} {x y : Str} {i : Nat} (h : (hid N x)[i]? = some y) : (N[i]? = some y ∧ y ≠ x) ∨ y = "" := by
  unfold hid at h
  rw [List.getElem?_map] at h
  cases e : N[i]? with
  | none => rw [e] at h; cases h
  | some z =>
    rw [e] at h
    have h : (if z = x then ("" : Str) else z) = y := Option.some.inj h
    by_cases q : z = x
    · rw [if_pos q] at h; exact .inr h.symm
    · rw [if_neg q] at h; subst h; exact .inl ⟨rfl, q⟩
def compCx (X : Cx) (scope : Scope) (x : Str) (cl : List (Str × Addr)) (C : Addr) (s₀ : Shared) (H₀ : Hp) (fp : List Addr) : Cx :=
  { prog := X.prog, w := X.w, K := X.K, mg := X.mg, base := X.base, A := X.A, N := hid X.N x ++ [x], s₀ := s₀, H₀ := H₀, env := compEnvC scope cl C X.env, outer := X.stack, stack := X.stack,
    ex := fp, fn := fun _ => false, calm := X.calm, pn := [], xe := fun _ _ => False }
def CompW (J : It) (te : TE) (σ : St) (D : Addr) (Q : VK) (H1 : Hp) : Prop :=
  ∃ W : Nat → Nat → List V → Hp → Prop, (∃ m, W 0 m [] (upd H1 D (.lst []))) ∧ ∀ i m ys H2, W i m ys H2 →
    (J.stop i H2 ∧ Q (.ref D) H2) ∨ (J.go i H2 ∧ ∃ N : VK, (∀ y H4, N y H4 → H4 D = some (.lst ys) ∧ ys.length < sizeLine ∧ ∃ m', m' < m ∧ W (i + 1) m' (ys ++ [y]) (upd H4 D (.lst (ys ++ [y])))) ∧ ∀ v H3, J.yld i H2 v H3 → te (σ ++ [some v]) H3 N)
def tComp (wi : TI) (te : TE) : TE := fun σ H Q => wi σ H fun J H1 => ∀ D, H1 D = none → CompW J te σ D Q H1
section
variable {X : Cx} {elt iter : Expr} {x : Str} {px pos : Pos} {scope : Scope} {wi : TI} {te : TE}
theorem codeAny_compLoop_go {prog : Program} {w : World} {A : Around} {R : Result → Shared → Prop} {s : Shared} {elt target iter : Expr} {scope : Scope} {pos : Pos} {it acc : Value} {env : Env} (I : Nat → Shared → Prop)
    (turn : ∀ n s, I n s → wpAny (model prog w) A (pyNext it) (fun r s₁ => match r with
      | none => R (.ok .next) s₁
      | some v => wpAny (model prog w) A (letOwnedTupleGo target it v) (fun _ s1' => wpAny (model prog w) A (assign target env v) (fun _ s₂ => wpAny (model prog w) A (eval elt env) (fun x s₃ =>
          wpAny (model prog w) A (call (.builtin "list.append") [acc, x]) (fun _ s₄ => ∃ m, m < n ∧ I m s₄) (fun _ _ => False) s₃)
          (fun _ _ => False) s₂) (fun _ _ => False) s1') (fun _ _ => False) s₁) (fun _ _ => False) s)
    (n : Nat) (h : I n s) :
    codeAny (model prog w) A (.compLoop (.ListComp elt [⟨target, iter, [], 0⟩] scope pos) 0 it acc env) R s := by
  refine codeAny_loop rfl I (fun n s hI => ?_) n h
  show wpAny _ _ ((compTurn (.ListComp elt [⟨target, iter, [], 0⟩] scope pos) 0 it acc env).onRaise (fun x => do noteFrame x env; theTreesLotGoes x)) _ _ s
  refine wpAny_noted ?_
  rw [compTurn_list1]
  refine wpAny_bind (wpAny_standAt (wpAny_bind (wpAny_mono (turn n s hI) (fun r s₁ h₁ => ?_) fun _ _ h' => h'.elim)))
  cases r with
  | none => exact wpAny_pure h₁
  | some v =>
    refine wpAny_bind (wpAny_mono h₁ (fun _ s1' h1' => ?_) fun _ _ h' => h'.elim)
    exact wpAny_bind (wpAny_mono h1' (fun _ s₂ h₂ => wpAny_bind (wpAny_bind (wpAny_mono h₂ (fun x s₃ h₃ => wpAny_bind (wpAny_mono h₃
      (fun _ s₄ h₄ => wpAny_pure (wpAny_pure ⟨rfl, h₄⟩)) fun _ _ h' => h'.elim)) fun _ _ h' => h'.elim))) fun _ _ h' => h'.elim)
structure CompOk (X : Cx) (scope : Scope) (x : Str) : Prop where
  nd : (hid X.N x ++ [x]).Nodup
  clos : ∀ y ∈ scope.names, y.2 = .free → X.env.kindOf y.1 = some .cell ∨ X.env.kindOf y.1 = some .free
  cell : ∀ y ∈ scope.names, y.2 ≠ .cell
  kind : scope.kind = .function
  names : ∀ y ∈ scope.names, y.2 = .local → scope.names.lookup y.1 = some .local
  loc : scope.names.lookup x = some .local
  own : ∀ y ∈ X.N, y ≠ x → scope.names.lookup y ≠ some .local
  noh : scope.names.lookup ("" : Str) = none
theorem comp_block {pins : List (Addr × Obj)} {σ : St} {H2 : Hp} {s₂ : Shared} {J : It} {fp : List Addr} {it : Addr} {tn : Nat → Heap → Prop} {cl : List (Str × Addr)} {E : Value → Shared → Prop} {Q : VK} {RR : Value → Addr → Result → Shared → Prop}
    (O : CompOk X scope x) (hc : X.calm = true) (cl1 : ∀ y c, cl.lookup y = some c → X.env.cells.lookup y = some c) (cl2 : ∀ y ∈ scope.names, y.2 = .free → cl.lookup y.1 ≠ none)
    (he : ∀ cl C s₀ H₀ fp, PE (compCx X scope x cl C s₀ H₀ fp) elt te)
    (I2 : Inv X pins σ H2 s₂) (T : Turn X.prog X.w X.K (.Name x px) J fp it tn) (st : tn 0 s₂.heap) (f2 : ∀ b ∈ fp, FpOk X pins H2 b)
    (h : ∀ D, H2 D = none → CompW J te σ D Q H2)
    (hRR : ∀ D C H' s', Inv X pins σ H' s' → FpOk X pins H' C → (∃ m, s'.heap.Ns C m) → Q (.ref D) H' → RR (.ref D) C (.ok .next) s') :
    wpAny (model X.prog X.w) X.A (newList []) (fun acc s₃ => wpAny (model X.prog X.w) X.A (newFunctionEnv scope X.env.globals cl [] X.env.qual none .none (some X.env)) (fun cenv s₄ =>
      codeAny (model X.prog X.w) X.A (.compStart (.ListComp elt [⟨.Name x px, iter, [], 0⟩] scope pos) 0 (.ref it) acc { cenv with scope := relabel scope X.env }) (RR acc cenv.locals) s₄) E s₃) E s₂ := by
  have hD : H2 s₂.heap.objs.size = none := I2.hok.fresh (Nat.le_refl _)
  refine wpAny_newObj_type ?_
  have I3 : Inv X pins σ (upd H2 s₂.heap.objs.size (.lst [])) { s₂ with heap := s₂.heap.push { cls := .type "list", data := .seq ([] : List Value).toArray } } :=
    I2.laid (t' := s₂.toks) (fun b u e => Heap.get?_push_of_some _ e) (Nat.le_refl _) ⟨Nat.zero_le _, [], _, .nil, Heap.get?_push_size _ rfl⟩
  have f3 : ∀ b ∈ fp, FpOk X pins (upd H2 s₂.heap.objs.size (.lst [])) b := fun b hb => by
    obtain ⟨g0, g1⟩ := f2 b hb
    obtain ⟨o, e, _⟩ := T.obj 0 _ st b hb
    exact ⟨by rw [upd_ne (Nat.ne_of_lt (Heap.lt_size e))]; exact g0, g1⟩
  have st3 : tn 0 (s₂.heap.push { cls := .type "list", data := .seq ([] : List Value).toArray }) := T.keep _ _ _ st fun b hb o e => Heap.get?_push_of_some _ e
  obtain ⟨W, ⟨m0, w0⟩, turn⟩ := h _ hD
  generalize hDe : s₂.heap.objs.size = D at I3 f3 w0 turn ⊢
  generalize hH3 : upd H2 D (.lst []) = H3 at I3 f3 w0 turn ⊢
  generalize hs3 : ({ s₂ with heap := s₂.heap.push { cls := .type "list", data := .seq ([] : List Value).toArray } } : Shared) = s₃ at I3
  have st3' : tn 0 s₃.heap := by rw [← hs3]; exact st3
  have hobj : ∀ b ∈ fp, b < s₃.heap.objs.size := fun b hb => by
    obtain ⟨o, e, _⟩ := T.obj 0 _ st3' b hb
    exact Heap.lt_size e
  refine wpAny_newFunctionEnv O.cell (by intro y hy; simp at hy) (fun h₁ hns₁ hsb₁ => ?_) O.kind
  have old : ∀ b o, s₃.heap.get? b = some o → h₁.get? b = some o := fun b o e => hsb₁.extBut b o (Nat.ne_of_lt (Heap.lt_size e)) (Heap.get?_push_of_some _ e)
  generalize hs4 : ({ s₃ with heap := h₁, toks := s₃.toks + ([] : List (Str × Value)).length } : Shared) = s₄
  have h4 : s₄.heap = h₁ := by rw [← hs4]
  have hX : ∀ C, FpOk X pins C s₃.heap.objs.size → True := fun _ _ => trivial
  have ok' : (compCx X scope x cl s₃.heap.objs.size s₃ H3 fp).Ok := by
    refine ⟨I3.ok.mod, O.kind, I3.ok.glob, I3.ok.blt, Nat.le_refl _, ?_, ?_, ?_, I3.ok.hd, I3.ok.frames, .inl rfl, ?_, I3.bs, Nat.le_trans I3.ok.bsz I3.sz, ?_, ?_, I3.stack, I3.stkFree⟩
    · exact fun y z c e1 e2 => I3.ok.inj y z c (cl1 y c e1) (cl1 z c e2)
    · intro y hk
      have hf : scope.names.lookup y = some .free := by
        rcases hk with hk | hk
        · rcases relab_kind O.cell hk with q | q
          · exact absurd rfl (O.cell _ (mem_of_lookup q))
          · exact q.1
        · rcases relab_kind O.cell hk with q | q
          · exact q
          · cases q.2
      have := cl2 _ (mem_of_lookup hf) rfl
      cases e : cl.lookup y with
      | none => exact absurd e this
      | some c => exact ⟨c, e⟩
    · intro y c hf; cases hf
    · intro b hb
      obtain ⟨g0, g1, g2, g3, g4, g5⟩ := f3 b hb
      exact ⟨Nat.ne_of_lt (hobj b hb), fun y c e => g4 y c (cl1 y c e)⟩
    · intro b o e hb
      obtain ⟨g0, g1, g2, g3, g4, g5⟩ := f3 b hb
      rcases g3 with g3 | g3
      · exact I3.ok.noex b o e g3
      · exact absurd (Heap.lt_size e) (Nat.not_lt.mpr (Nat.le_trans I3.ok.bsz g3))
    · intro b hb hs
      obtain ⟨g0, g1, g2, g3, g4, g5⟩ := f3 b hb
      rcases List.mem_cons.mp (I3.stkSub b hs) with e | e
      · exact g1 e
      · exact g2 e
  have I4 : Inv (compCx X scope x cl s₃.heap.objs.size s₃ H3 fp) [] (σ ++ [none]) H3 s₄ := by
    obtain ⟨m, hm, hl⟩ := I3.loc
    refine ⟨ok', by rw [← hs4]; rfl, by rw [← hs4]; exact I3.bare, by rw [h4]; exact Un.kept old, ⟨_, by rw [h4]; exact hns₁, ?_⟩, ?_, I3.hok.fresh (Nat.le_refl _), fun y c e => I3.freeC y c (cl1 y c e), ?_, by rw [h4]; exact I3.hok.kept old, ?_⟩
    · intro i y v e1 e2 e3
      have hlt : i < σ.length := by
        rcases Nat.lt_or_ge i σ.length with z | z
        · exact z
        · rw [List.getElem?_append_right z] at e2
          cases e : i - σ.length with
          | zero => rw [e] at e2; simp at e2
          | succ k => rw [e] at e2; simp at e2
      rw [List.getElem?_append_left hlt] at e2
      have hsm : ∃ k, scope.names.lookup y = some k := by
        rcases e3 with hk | hk | hk
        · rcases relab_kind O.cell hk with q | q
          · exact ⟨_, q⟩
          · exact ⟨_, q.1⟩
        · rcases relab_kind O.cell hk with q | q
          · exact ⟨_, q⟩
          · exact ⟨_, q.1⟩
        · rcases relab_kind O.cell hk with q | q
          · exact ⟨_, q⟩
          · exact ⟨_, q.1⟩
      obtain ⟨e1', hyx⟩ : X.N[i]? = some y ∧ y ≠ x := by
        have e1 : (hid X.N x ++ [x])[i]? = some y := e1
        rw [List.getElem?_append_left (by rw [hid_len, ← I3.len]; exact hlt)] at e1
        rcases hid_get e1 with z | z
        · exact z
        · obtain ⟨k, hk⟩ := hsm
          rw [z, O.noh] at hk; cases hk
      have hy : y ∈ X.N := List.mem_of_getElem? e1'
      have hf : scope.names.lookup y = some .free := by
        rcases e3 with hk | hk | hk
        · rcases relab_kind O.cell hk with q | q
          · exact absurd q (O.own y hy hyx)
          · exact q.1
        · rcases relab_kind O.cell hk with q | q
          · exact absurd rfl (O.cell _ (mem_of_lookup q))
          · exact q.1
        · rcases relab_kind O.cell hk with q | q
          · exact q
          · exact q.1
      have hk := O.clos _ (mem_of_lookup hf) rfl
      have hv : Vis X.env.scope y := by rcases hk with z | z; exact .inr (.inl z); exact .inr (.inr z)
      obtain ⟨u, ru, lu⟩ := hl i y v e1' e2 hv
      refine ⟨u, ru, ?_⟩
      have hkc : (compEnvC scope cl s₃.heap.objs.size X.env).kindOf y = some .cell ∨ (compEnvC scope cl s₃.heap.objs.size X.env).kindOf y = some .free := by
        rcases e3 with q | q | q
        · rcases relab_kind O.cell q with z | z
          · exact absurd z (O.own y hy hyx)
          · cases z.2
        · exact .inl q
        · exact .inr q
      rcases lu with ⟨q, _⟩ | ⟨_, c, hcl, hcc⟩
      · rcases hk with z | z <;> (rw [q] at z; cases z)
      · refine .inr ⟨hkc, ?_⟩
        cases e : cl.lookup y with
        | none => exact absurd e (cl2 _ (mem_of_lookup hf) rfl)
        | some c' =>
          have := cl1 y c' e
          rw [hcl] at this
          cases this
          refine ⟨c, e, ?_⟩
          rw [h4]
          obtain ⟨oc, ho, hd⟩ := hcc
          exact ⟨oc, old _ _ ho, hd⟩
    · intro y c e
      obtain ⟨v, oc, ho, hd⟩ := I3.cell y c (cl1 y c e)
      exact ⟨v, oc, by rw [h4]; exact old _ _ ho, hd⟩
    · intro p hp; cases hp
    · show (σ ++ [none]).length = (hid X.N x ++ [x]).length
      rw [List.length_append, List.length_append, hid_len, I3.len]; rfl
  have st4 : tn 0 s₄.heap := by rw [h4]; exact T.keep _ _ _ st3' fun b hb o e => old b o e
  have fpok : ∀ {H' : Hp}, (∀ b ∈ fp, H' b = none) → ∀ b ∈ fp, FpOk (compCx X scope x cl s₃.heap.objs.size s₃ H3 fp) [] H' b := fun hn b hb => by
    obtain ⟨g0, g1, g2, g3, g4, g5⟩ := f3 b hb
    refine ⟨hn b hb, Nat.ne_of_lt (hobj b hb), ok'.exfs b hb, .inl hb, fun y c e => g4 y c (cl1 y c e), ?_⟩
    intro p hp; cases hp
  have loop : codeAny (model X.prog X.w) X.A (.compLoop (.ListComp elt [⟨.Name x px, iter, [], 0⟩] scope pos) 0 (.ref it) (.ref D) (compEnvC scope cl s₃.heap.objs.size X.env)) (RR (.ref D) s₃.heap.objs.size) s₄ := by
    refine codeAny_compLoop_go (fun n s' => ∃ i ys w' H', Inv (compCx X scope x cl s₃.heap.objs.size s₃ H3 fp) [] (σ ++ [w']) H' s' ∧ tn i s'.heap ∧ (∀ b ∈ fp, H' b = none) ∧ W i n ys H') ?_ m0 ⟨0, [], none, H3, I4, st4, fun b hb => (f3 b hb).1, w0⟩
    rintro n s5 ⟨i, ys, w', H5, I5, st5, fr5, w5⟩
    rcases turn i n ys H5 w5 with ⟨stop, q⟩ | ⟨go, N, hN, step⟩
    · refine thn (T.done (compCx X scope x cl s₃.heap.objs.size s₃ H3 fp) rfl rfl rfl hc i [] s5 _ H5 _ I5 (fpok fr5) st5 stop) fun r s6 ⟨hr, I6⟩ => ?_
      subst hr
      obtain ⟨m6, hn6, _⟩ := I6.loc
      have IX : Inv X pins σ H5 s6 := I3.call' (ch := fp) I6.os I6.base I6.hok I6.bare fun b hb => by
        obtain ⟨g0, g1, g2, g3, g4, g5⟩ := f3 b hb
        exact ⟨g3, g1, g4, g5⟩
      exact hRR D _ H5 s6 IX (I3.fpOk (Nat.le_refl _) I6.free) ⟨m6, hn6⟩ q
    · refine thn (T.item (compCx X scope x cl s₃.heap.objs.size s₃ H3 fp) rfl rfl rfl hc i [] s5 _ H5 _ I5 (fpok fr5) st5 go) fun r s6 ⟨u, hr, h6⟩ => ?_
      subst hr
      refine thn h6 fun _ s7 ⟨v, H7, I7, r7, y7, st7, fr7⟩ => ?_
      have I7' := I7.pinned (fpok fr7) (T.obj _ _ st7)
      have hixN : (compCx X scope x cl s₃.heap.objs.size s₃ H3 fp).N[σ.length]? = some x := by
        show (hid X.N x ++ [x])[σ.length]? = some x
        rw [I3.len, ← hid_len X.N x]; simp
      refine thn (pg_name (X := compCx X scope x cl s₃.heap.objs.size s₃ H3 fp) (pos := px) O.nd hixN (.inl (lookup_relabel_local O.loc)) (.inr (lookup_relabel_local O.loc)) _ s7 _ H7 v u (fun σ' H' => σ' = σ ++ [some v] ∧ H' = H7) I7' r7 ⟨by simp, rfl⟩) fun _ s8 ⟨σ8, H8, I8, e8, e8'⟩ => ?_
      subst e8 e8'
      refine thn (he cl s₃.heap.objs.size s₃ H3 fp _ s8 _ H8 _ I8 (step v H8 y7)) fun uy s9 ⟨y, H9, I9, r9, n9⟩ => ?_
      obtain ⟨hl9, hz9, m', hm', w9⟩ := hN y H9 n9
      refine thn (mt_append (X := compCx X scope x cl s₃.heap.objs.size s₃ H3 fp) _ s9 _ H9 (.ref D) [y] (.ref D) [uy] (fun v H' => H' = upd H9 D (.lst (ys ++ [y]))) I9 rfl (.cons r9 .nil) ⟨D, ys, y, rfl, rfl, hl9, hz9, rfl⟩) fun _ s10 ⟨_, H10, I10, _, e10⟩ => ?_
      subst e10
      refine ⟨m', hm', i + 1, ys ++ [y], some v, _, I10.unpinned (pins := []), T.keep _ _ _ st7 fun b hb o e => (I10.pin (b, o) (List.mem_append_right _ (List.mem_append_right _ (mem_pinsAt hb e)))).1, fun b hb => ?_, w9⟩
      obtain ⟨o, e, d⟩ := T.obj _ _ st7 b hb
      exact (I10.pin (b, o) (List.mem_append_right _ (List.mem_append_right _ (mem_pinsAt hb e)))).2.1
  exact codeAny_compStart_list loop (T.self _ 0 _ _ _ st4 loop)
theorem pe_comp (O : CompOk X scope x) (hc : X.calm = true) (hi : PI X (.Name x px) iter wi) (he : ∀ cl C s₀ H₀ fp, PE (compCx X scope x cl C s₀ H₀ fp) elt te)
    (hs : ∀ v, foldedSetIterable iter X.env v = pure v := by intro _; rfl) : PE X (.ListComp elt [⟨.Name x px, iter, [], 0⟩] scope pos) (tComp wi te) := by
  intro pins s σ H Q I h
  obtain ⟨cl, hcl, cl1, cl2⟩ := closure_of (scope := scope) (env := X.env) fun y hy hf => I.ok.has _ (O.clos y hy hf)
  rw [eval_ListComp]
  refine wpAny_comprehension_free (use := none) rfl hs hcl O.kind O.names (thn (hi pins s σ H _ I h) fun v s1 h1 => thn h1 fun itv s2 h2 => ?_)
  obtain ⟨it, fp, tn, J, H2, e, I2, T, st2, f2, q⟩ := h2
  subst e
  refine comp_block (RR := fun acc C => compPost (model X.prog X.w) X.A X.xe none (EP X pins σ Q) acc C) O hc cl1 cl2 he I2 T st2 f2 q ?_
  intro D C H' s' I' ⟨g0, g1, g2, g3, g4, g5⟩ ⟨m, hm⟩ hq
  exact ⟨m, hm, fun h' hs' => ⟨.ref D, H', I'.turned (t' := s'.toks) (fun b o hb e => (hs'.2 b hb).trans e) g0 g1 g3 g4 g5, rfl, hq⟩⟩
end
theorem comp_range {lo : Int} {n : Nat} {te : TE} {σ : St} {D : Addr} {Q : VK} {H : Hp} (hn : n ≤ sizeLine) (Pv : Nat → List V → Hp → Prop) (h0 : Pv 0 [] (upd H D (.lst [])))
    (hl : ∀ i ys H, Pv i ys H → ys.length = i)
    (hs : ∀ i ys H, i < n → Pv i ys H → te (σ ++ [some (.int (lo + i))]) H fun y H4 => H4 D = some (.lst ys) ∧ Pv (i + 1) (ys ++ [y]) (upd H4 D (.lst (ys ++ [y])))) (hd : ∀ ys H, Pv n ys H → Q (.ref D) H) : CompW (Itr lo n) te σ D Q H := by
  refine ⟨fun i m ys H => m = n - i ∧ i ≤ n ∧ Pv i ys H, ⟨n, by simp, Nat.zero_le _, h0⟩, ?_⟩
  rintro i m ys H2 ⟨rfl, hi, p⟩
  by_cases hlt : i < n
  · have hlen := hl i ys _ p
    refine .inr ⟨hlt, _, fun y H4 (q : H4 D = some (.lst ys) ∧ Pv (i + 1) (ys ++ [y]) (upd H4 D (.lst (ys ++ [y])))) => ⟨q.1, by omega, n - (i + 1), by omega, rfl, hlt, q.2⟩, fun v H3 y => ?_⟩
    obtain ⟨e, e'⟩ := y
    subst e e'
    exact hs i ys _ hlt p
  · have e : i = n := by omega
    subst e
    exact .inl ⟨Nat.le_refl _, hd ys H2 p⟩
theorem comp_list {K : PySem.W.Frag} {a : Addr} {xs : List V} {te : TE} {σ : St} {D : Addr} {Q : VK} {H : Hp} (hn : xs.length ≤ sizeLine) (Pv : Nat → List V → Hp → Prop) (h0 : Pv 0 [] (upd H D (.lst [])))
    (hl : ∀ i ys H, Pv i ys H → ys.length = i ∧ SqL K H a xs)
    (hs : ∀ i x ys H, xs[i]? = some x → Pv i ys H → te (σ ++ [some x]) H fun y H4 => H4 D = some (.lst ys) ∧ Pv (i + 1) (ys ++ [y]) (upd H4 D (.lst (ys ++ [y])))) (hd : ∀ ys H, Pv xs.length ys H → Q (.ref D) H) : CompW (Itl K a) te σ D Q H := by
  refine ⟨fun i m ys H => m = xs.length - i ∧ i ≤ xs.length ∧ Pv i ys H, ⟨xs.length, by simp, Nat.zero_le _, h0⟩, ?_⟩
  rintro i m ys H2 ⟨rfl, hi, p⟩
  obtain ⟨hlen, q⟩ := hl i ys _ p
  by_cases hlt : i < xs.length
  · refine .inr ⟨⟨xs, xs[i], q, by simp [hlt]⟩, _, fun y H4 (q : H4 D = some (.lst ys) ∧ Pv (i + 1) (ys ++ [y]) (upd H4 D (.lst (ys ++ [y])))) => ⟨q.1, by omega, xs.length - (i + 1), by omega, rfl, hlt, q.2⟩, fun v H3 y => ?_⟩
    obtain ⟨e, y⟩ := y
    subst e
    exact hs i v ys _ (y xs q) p
  · have e : i = xs.length := by omega
    subst e
    exact .inl ⟨⟨xs, q, Nat.le_refl _⟩, hd ys H2 p⟩
theorem comp_tup {K : PySem.W.Frag} {a : Addr} {xs : List V} {te : TE} {σ : St} {D : Addr} {Q : VK} {H : Hp} (hn : xs.length ≤ sizeLine) (Pv : Nat → List V → Hp → Prop) (h0 : Pv 0 [] (upd H D (.lst [])))
    (hl : ∀ i ys H, Pv i ys H → ys.length = i ∧ SqT K H a xs)
    (hs : ∀ i x ys H, xs[i]? = some x → Pv i ys H → te (σ ++ [some x]) H fun y H4 => H4 D = some (.lst ys) ∧ Pv (i + 1) (ys ++ [y]) (upd H4 D (.lst (ys ++ [y])))) (hd : ∀ ys H, Pv xs.length ys H → Q (.ref D) H) : CompW (Itt K a) te σ D Q H := by
  refine ⟨fun i m ys H => m = xs.length - i ∧ i ≤ xs.length ∧ Pv i ys H, ⟨xs.length, by simp, Nat.zero_le _, h0⟩, ?_⟩
  rintro i m ys H2 ⟨rfl, hi, p⟩
  obtain ⟨hlen, q⟩ := hl i ys _ p
  by_cases hlt : i < xs.length
  · refine .inr ⟨⟨xs, xs[i], q, by simp [hlt]⟩, _, fun y H4 (q : H4 D = some (.lst ys) ∧ Pv (i + 1) (ys ++ [y]) (upd H4 D (.lst (ys ++ [y])))) => ⟨q.1, by omega, xs.length - (i + 1), by omega, rfl, hlt, q.2⟩, fun v H3 y => ?_⟩
    obtain ⟨e, y⟩ := y
    subst e
    exact hs i v ys _ (y xs q) p
  · have e : i = xs.length := by omega
    subst e
    exact .inl ⟨⟨xs, q, Nat.le_refl _⟩, hd ys H2 p⟩
end L2
namespace L2
open PySem PySem.Spec PyProof.Rows
section
variable {X : Cx} {tg : Expr}
end
section
variable {X : Cx}
theorem strs_of : ∀ {ys : List Str} {us : List Value}, Vals (ys.map V.str) us → StrsAre us ys
  | [], _, .nil => .nil
  | y :: ys, _, .cons r t => by obtain ⟨k, rfl⟩ := r; exact .cons _ _ (strs_of t)
theorem mt_join : MtR X "str.join" (fun x xs H Q => ∃ sep a ys, x = .str sep ∧ xs = [.ref a] ∧ SqL X.K H a (ys.map V.str) ∧ (ys.map (·.length)).sum + ys.length * sep.length ≤ 16777216 ∧ Q (.str (Txt.join sep ys)) H) := by
  intro pins s σ H x xs v us Q I rx rv h
  obtain ⟨sep, a, ys, rfl, rfl, hq, hz, q⟩ := h
  obtain ⟨t, rfl⟩ := rx
  obtain ⟨u, rfl, ru⟩ := vals1 rv
  cases ru
  obtain ⟨its, r, p, _⟩ := I.list hq
  exact join_list p.isList (by simpa using strs_of r) hz fun t' k => ⟨.str _, H, I.tok k, ⟨_, rfl⟩, q⟩
end
mutual
inductive DataOf (H : Hp) : V → PyData → Prop
  | non : DataOf H .non .none
  | bl (b) : DataOf H (.bl b) (.bool b)
  | int (i) : DataOf H (.int i) (.int i)
  | str (x) : DataOf H (.str x) (.str x)
  | lst {a xs ds} : H a = some (.lst xs) → DatasOf H xs ds → DataOf H (.ref a) (.list ds)
  | tup {a xs ds} : H a = some (.tup xs) → DatasOf H xs ds → DataOf H (.ref a) (.tuple ds)
inductive DatasOf (H : Hp) : List V → List PyData → Prop
  | nil : DatasOf H [] []
  | cons {v d vs ds} : DataOf H v d → DatasOf H vs ds → DatasOf H (v :: vs) (d :: ds)
end
mutual
theorem DataOf.mono {H H' : Hp} (k : ∀ a o, H a = some o → H' a = some o) : ∀ {v d}, DataOf H v d → DataOf H' v d
  | _, _, .non => .non
  | _, _, .bl b => .bl b
  | _, _, .int i => .int i
  | _, _, .str x => .str x
  | _, _, .lst h r => .lst (k _ _ h) (DatasOf.mono k r)
  | _, _, .tup h r => .tup (k _ _ h) (DatasOf.mono k r)
theorem DatasOf.mono {H H' : Hp} (k : ∀ a o, H a = some o → H' a = some o) : ∀ {vs ds}, DatasOf H vs ds → DatasOf H' vs ds
  | _, _, .nil => .nil
  | _, _, .cons r t => .cons (DataOf.mono k r) (DatasOf.mono k t)
end
section
variable {P : Program} {w : World} {H : Hp} {h : Heap}
mutual
theorem DataOf.reads (hok : HOk P w H h) : ∀ {v d} (u : Value), DataOf H v d → RelV v u → d.hasDict = false ∧ ∃ as, Reads h u d as
  | _, _, u, .non, r => by cases (show u = .none from r); exact ⟨rfl, _, .none⟩
  | _, _, u, .bl b, r => by cases (show u = .bool b from r); exact ⟨rfl, _, .bool b⟩
  | _, _, u, .int i, r => by obtain ⟨t, e⟩ := (show ∃ t, u = .int i t from r); subst e; exact ⟨rfl, _, .int i t⟩
  | _, _, u, .str x, r => by obtain ⟨t, e⟩ := (show ∃ t, u = .str x t from r); subst e; exact ⟨rfl, _, .str x t⟩
  | _, _, u, .lst (a := a) (xs := xs) e q, r => by
    cases (show u = .ref a from r)
    obtain ⟨_, its, n, rv, g⟩ := (show ObjOk P w H h a (.lst xs) from hok a _ e)
    obtain ⟨nd, as, ra⟩ := DatasOf.reads hok its q rv
    exact ⟨by simpa [PyData.hasDict] using nd, _, .list g rfl rfl (by simpa using ra)⟩
  | _, _, u, .tup (a := a) (xs := xs) e q, r => by
    cases (show u = .ref a from r)
    obtain ⟨_, its, rv, o, g, c, n, d⟩ := (show ObjOk P w H h a (.tup xs) from hok a _ e)
    obtain ⟨nd, as, ra⟩ := DatasOf.reads hok its q rv
    exact ⟨by simpa [PyData.hasDict] using nd, _, .tuple g c d (by simpa using ra)⟩
theorem DatasOf.reads (hok : HOk P w H h) : ∀ {vs ds} (us : List Value), DatasOf H vs ds → Vals vs us → PyData.hasDictAll ds = false ∧ ∃ as, ReadsAll h us ds as
  | _, _, _, .nil, .nil => ⟨rfl, _, .nil⟩
  | _, _, _, .cons r t, .cons rv tv => by
    obtain ⟨n1, as, r1⟩ := DataOf.reads hok _ r rv
    obtain ⟨n2, bs, r2⟩ := DatasOf.reads hok _ t tv
    exact ⟨by simp [PyData.hasDictAll, n1, n2], _, .cons r1 r2⟩
end
end
section
variable {X : Cx}
end
end L2
namespace L2
open PySem PySem.Spec PyProof.Rows
def Def (P : Program) (w : World) (K : PySem.W.Frag) (mg : Str → Option Value) (base : Heap) (k : Nat) (x : Str) (ps : List Str) (sp : Sp) : Prop :=
  ∃ f fd, FnOk P w K mg base CX0 k f fd ps sp ∧ Binds K fd ps [] ∧ PySem.W.keepIn K (.ref f) = true ∧ mg x = some (.ref f)
theorem Def.mono {P : Program} {w : World} {K : PySem.W.Frag} {mg : Str → Option Value} {base : Heap} {j k : Nat} {x : Str} {ps : List Str} {sp : Sp} (D : Def P w K mg base j x ps sp) (h : j ≤ k) : Def P w K mg base k x ps sp :=
  let ⟨f, fd, F, b, kp, m⟩ := D; ⟨f, fd, F.mono h, b, kp, m⟩
section
variable {X : Cx} {k : Nat} {x : Str} {ps : List Str} {sp : Sp} {p pos : Pos} {e : Expr} {es : List Expr} {t : TA}
theorem pe_d (D : Def X.prog X.w X.K X.mg X.base k x ps sp) (hr : Room k X.A) (ha : PA X (e :: es) t) (hg : Gl X x := by rfl) (hdb : (x == ("__debug__" : Str)) = false := by decide)
    (he : starEach (e :: es) X.env = (false, eval e X.env) :: starEach es X.env := by rfl) (hpl : (backTo pos (starEach es X.env)).any (·.1) = false := by rfl) :
    PE X (.Call (.Name x p) (e :: es) [] pos) (tCall sp [] E0 t) := by
  obtain ⟨f, fd, F, b, kp, m⟩ := D
  exact pe_call F hr hg m kp b .nil pass0 ha hdb he hpl
end
def Kp (p : Addr) (H H' : Hp) : Prop := ∀ q o, q ≠ p → H q = some o → H' q = some o
theorem Kp.refl (p : Addr) (H : Hp) : Kp p H H := fun _ _ _ h => h
theorem Kp.trans {p : Addr} {H H1 H2 : Hp} (a : Kp p H H1) (b : Kp p H1 H2) : Kp p H H2 := fun q o n h => b q o n (a q o n h)
theorem Kp.upd (p : Addr) (H : Hp) (o : HO) : Kp p H (upd H p o) := fun q u n h => by rw [upd_ne n]; exact h
theorem Same.kp {H H' : Hp} (a : Same H H') (p : Addr) : Kp p H H' := fun q o _ h => a q o h
theorem same_new {H : Hp} {p : Addr} (h : H p = none) (o : HO) : Same H (upd H p o) := fun b u q => by rw [upd_ne (ne_of_none q h)]; exact q
def BoxAt (H : Hp) (p : Addr) (n : Nat) : Prop := ∃ a b c : Int, H p = some (.lst [.int a, .int b, .int c]) ∧ 0 ≤ a ∧ 0 ≤ c ∧ c ≤ n
theorem BoxAt.same {H H' : Hp} {p : Addr} {n : Nat} (h : BoxAt H p n) (s : Same H H') : BoxAt H' p n := let ⟨a, b, c, e, r⟩ := h; ⟨a, b, c, s _ _ e, r⟩
theorem BoxAt.le {H : Hp} {p : Addr} {n m : Nat} (h : BoxAt H p n) (l : n ≤ m) : BoxAt H p m := let ⟨a, b, c, e, h1, h2, h3⟩ := h; ⟨a, b, c, e, h1, h2, by omega⟩
def spTake (M : Int) : Sp := fun vs H Q _ => ∃ (p : Addr) (n : Nat) (m : Int), vs = [.ref p, .int m] ∧ BoxAt H p n ∧ n ≤ 1000000 ∧ 0 < m ∧ m < M ∧ ∀ (r : Int) (H' : Hp), 0 ≤ r → r < m → BoxAt H' p (n + 1) → Kp p H H' → Q (.int r) H'
def spCell (K : PySem.W.Frag) : Sp := fun vs H Q _ => ∃ (a : Addr) (ns : List Int) (k : Int), vs = [.ref a, .int k] ∧ SqL K H a (ns.map V.int) ∧ 0 ≤ k ∧ ∀ (r : Int), Q (.int r) H
def spBox (K : PySem.W.Frag) : Sp := fun vs H Q _ => ∃ (a : Addr) (ns : List Int) (k : Int), vs = [.ref a, .int k] ∧ SqL K H a (ns.map V.int) ∧ 0 ≤ k ∧ k ≤ 1000 ∧ ∀ (p : Addr) (H' : Hp), H p = none → BoxAt H' p 0 → Same H H' → Q (.ref p) H'
theorem len1 {n : Nat} (h : n ≤ 1000) : n ≤ sizeLine := Nat.le_of_lt (small1000 h)
end L2
namespace L2
open PySem PySem.Spec PyProof.Rows
def compChk (N : List Str) (names : List (Str × NameKind)) (scope : Scope) (x : Str) : Bool :=
  decide ((hid N x ++ [x]).Nodup) && scope.names.all (fun y => (y.2 != .free || names.lookup y.1 == some .cell || names.lookup y.1 == some .free) && (y.2 != .cell && (y.2 != .local || scope.names.lookup y.1 == some .local))) &&
  ((scope.kind == .function && scope.names.lookup x == some .local) && N.all fun y => y == x || scope.names.lookup y != some .local) && scope.names.lookup ("" : Str) == none
theorem CompOk.of {X : Cx} {scope : Scope} {x : Str} (N : List Str) (st : Stmt) (hN : X.N = N) (hn : X.env.scope = defScope st) (chk : compChk N (defScope st).names scope x = true) : CompOk X scope x := by
  unfold compChk at chk
  simp only [Bool.and_eq_true, decide_eq_true_eq, List.all_eq_true, Bool.or_eq_true, bne_iff_ne, beq_iff_eq] at chk
  obtain ⟨⟨⟨c1, c2⟩, ⟨c3, c4⟩, c5⟩, c6⟩ := chk
  refine ⟨by rw [hN]; exact c1, fun y hy hf => ?_, fun y hy => (c2 y hy).2.1, c3, fun y hy hl => ?_, c4, fun y hy hx => (c5 y (by rw [← hN]; exact hy)).resolve_left hx, c6⟩
  · show X.env.scope.names.lookup y.1 = _ ∨ X.env.scope.names.lookup y.1 = _
    rw [hn]
    rcases (c2 y hy).1 with (z | z) | z
    · exact absurd hf z
    · exact .inl z
    · exact .inr z
  · rcases (c2 y hy).2.2 with z | z
    · exact absurd hl z
    · exact z
theorem fold_empty : ∀ (rest : List Str) (acc : Array Nat), (rest.foldl (fun acc p => acc ++ (Str.ofString "").cps ++ p.cps) acc).toList = acc.toList ++ rest.flatMap (·.cps.toList)
  | [], acc => by simp
  | p :: r, acc => by
    have e : (Str.ofString "").cps = #[] := by decide +kernel
    rw [List.foldl_cons, fold_empty r, List.flatMap_cons, e]
    simp
theorem join_codes : ∀ ys : List Str, (Txt.join (Str.ofString "") ys).cps.toList = ys.flatMap (·.cps.toList)
  | [] => rfl
  | y :: r => by
    show (List.foldl (fun acc p => acc ++ (Str.ofString "").cps ++ p.cps) y.cps r).toList = _
    rw [fold_empty]; rfl
theorem str_len (x : Str) : x.length = x.cps.toList.length := by simp [Str.length]
theorem app_codes (x y : Str) : (x ++ y).cps.toList = x.cps.toList ++ y.cps.toList := by
  show (x.cps ++ y.cps).toList = _
  simp
theorem app_len (x y : Str) : (x ++ y).length = x.length + y.length := by rw [str_len, app_codes, List.length_append, ← str_len, ← str_len]
def isInt : V → Bool
  | .int _ => true
  | .bl _ => true
  | _ => false
def letr (c : Nat) : Bool := decide (97 ≤ c) && decide (c ≤ 122)
def sgn (c : Nat) : Bool := decide (32 ≤ c) && decide (c ≤ 126)
theorem call_lenK {X : Cx} {K : PySem.W.Frag} (hK : X.K = K) : CallR X (.builtin "len") (fun xs H Q => ∃ x n, xs = [x] ∧ LenV K x H n ∧ Q (.int n) H) := by subst hK; exact call_len
@[reducible] def notStar : Expr → Bool
  | .Starred .. => false
  | _ => true
theorem se_of {e : Expr} {es : List Expr} {env : Env} (h : notStar e = true) : starEach (e :: es) env = (false, eval e env) :: starEach es env := by
  cases e <;> first | rfl | cases h
section
variable {X : Cx} {k : Nat} {x : Str} {ps : List Str} {sp : Sp} {p pos : Pos} {e : Expr} {es : List Expr} {te : TE} {t : TA}
theorem pa1 (ha : PE X e te) (hr : PA X es t) (h : notStar e = true) : PA X (e :: es) (tCons te t) := pa_cons ha hr (se_of h)
theorem pac (ha : PE X e te) (hr : PA X es t) (h : notStar e = true := by rfl) : PA X (e :: es) (tCons te t) := pa_cons ha hr (se_of h)
end
end L2
namespace L2
open PySem PySem.Spec PyProof.Rows
section
variable {X : Cx}
theorem op_fdivL : OpR X (binaryOp .FloorDiv) (rI (fun _ j => 0 < j ∧ j < 2 ^ 62) fun i j => .int (i / j)) := opI fun i j _ _ _ _ _ hc q => by
  have h1 : (0 : Int) < j := hc.1
  have h2 : j < 2 ^ 62 := hc.2
  refine floordiv_int (by omega) (by rw [Int.fdiv_eq_ediv_of_nonneg i (by omega)]; exact q) (.inl (PyProof.noPylong_of_log2 ?_))
  have h3 : j.natAbs ≠ 0 := by omega
  have h4 : j.natAbs < 2 ^ 9000 := Nat.lt_of_lt_of_le (show j.natAbs < 2 ^ 62 by omega) (Nat.pow_le_pow_right (by decide) (by decide))
  exact (Nat.log2_lt h3).mpr h4
end
end L2
namespace L2
open PySem PySem.Spec PyProof.Rows
theorem pre_sum (is : List Int) : ∀ n, n ≤ is.length → preSum (fun i => is.getD i 0) n = (is.take n).sum
  | 0, _ => by simp [preSum]
  | n + 1, h => by
    have hn : n < is.length := h
    have e : (is.take (n + 1)).sum = (is.take n).sum + is[n] := by
      rw [List.take_add_one, List.getElem?_eq_getElem hn, List.sum_append]
      show _ + (is[n] + 0) = _
      rw [Int.add_zero]
    rw [preSum, pre_sum is n (by omega), e, List.getD_eq_getElem?_getD, List.getElem?_eq_getElem hn]
    rfl
theorem sum_bound (is : List Int) (h : ∀ i ∈ is, i.natAbs ≤ 2 ^ 40) : is.sum.natAbs ≤ is.length * 2 ^ 40 := by
  induction is with
  | nil => simp
  | cons a r ih =>
    have h1 := h a List.mem_cons_self
    have h2 := ih fun i hi => h i (List.mem_cons_of_mem _ hi)
    rw [List.sum_cons, List.length_cons]
    omega
theorem ints_get {is : List Int} {us : List Value} (r : Vals (is.map V.int) us) {i : Nat} {v : Value} (h : us[i]? = some v) : ∃ t, v = .int (is.getD i 0) t := by
  have hl := r.length
  rw [List.length_map] at hl
  have hi : i < is.length := by
    have := (List.getElem?_eq_some_iff.mp h).1
    omega
  obtain ⟨u, hu, ru⟩ := r.get (i := i) (x := V.int is[i]) (by simp [hi])
  rw [h] at hu
  cases hu
  obtain ⟨t, e⟩ := ru
  exact ⟨t, by rw [e, List.getD_eq_getElem?_getD, List.getElem?_eq_getElem hi]; rfl⟩
section
variable {X : Cx}
theorem call_sum (hc : X.calm = true) : CallR X (.builtin "sum") (fun xs H Q => ∃ (a : Addr) (is : List Int), xs = [.ref a] ∧ SqL X.K H a (is.map V.int) ∧ is.length ≤ 1000 ∧ (∀ i ∈ is, i.natAbs ≤ 2 ^ 40) ∧ Q (.int is.sum) H) := by
  intro pins s σ H xs us Q I r h
  obtain ⟨a, is, rfl, hq, hn, hb, q⟩ := h
  obtain ⟨u, rfl, ru⟩ := vals1 r
  cases ru
  obtain ⟨its, rv, p, hz⟩ := I.list hq
  have hlen := rv.length
  rw [List.length_map] at hlen
  have hal : a < s.heap.objs.size := by obtain ⟨_, e, _⟩ := p.isList; exact Heap.lt_size e
  refine call_sum_walk (wpAny_pyIter_list p.isList ⟨s.heap.objs.size, _, _, _, _, _, fun i => is.getD i 0, rfl, Walks.list (A := X.A.in1) (I.ok.hd hc) s.heap.objs.size a (Nat.ne_of_lt hal) its.toArray, ⟨⟨_, Heap.get?_push_size _ rfl, rfl, rfl⟩, p.isList.push _⟩, ?_, ?_, ?_, ?_⟩)
  · intro b hb
    show b < (s.heap.push _).objs.size
    rw [Heap.size_push]
    rcases List.mem_cons.mp hb with e | hb
    · rw [e]; exact Nat.lt_succ_self _
    · rw [List.mem_singleton.mp hb]; exact Nat.lt_succ_of_lt hal
  · intro i v hv
    exact ints_get rv (by simpa using hv)
  · intro j hj
    have hj' : j < is.length := by rw [List.size_toArray] at hj; omega
    have b1 := hb is[j] (List.getElem_mem hj')
    have b2 := sum_bound (is.take (j + 1)) fun i hi => hb i (List.mem_of_mem_take hi)
    rw [List.length_take] at b2
    rw [pre_sum is (j + 1) hj']
    have e0 : is.getD j 0 = is[j] := by rw [List.getD_eq_getElem?_getD, List.getElem?_eq_getElem hj']; rfl
    constructor
    · show InLong (is.getD j 0)
      rw [e0]
      exact ⟨by omega, by omega⟩
    · have b3 : (min (j + 1) is.length) * 2 ^ 40 ≤ 1000 * 2 ^ 40 := Nat.mul_le_mul_right _ (by omega)
      exact ⟨by omega, by omega⟩
  · intro h' tk t' hk
    have e : preSum (fun i => is.getD i 0) its.toArray.size = is.sum := by
      rw [List.size_toArray, ← hlen, pre_sum is _ (Nat.le_refl _), List.take_length]
    rw [e]
    refine ⟨.int is.sum, H, I.kept (t' := tk) fun b o eb => hk b o ?_ (Heap.get?_push_of_some _ eb), ⟨_, rfl⟩, q⟩
    intro hm
    have : b = s.heap.objs.size := by simpa using hm
    rw [this] at eb
    exact absurd (Heap.lt_size eb) (Nat.lt_irrefl _)
theorem keys_vals {P : Program} {w : World} : ∀ {kvs : List (Key × V)} {vs : List (Key × Value)}, KV kvs vs → ∀ (us : List Value), us.length = vs.length → (∀ (j : Nat) (v : Value), us[j]? = some v → ∃ k x, vs[j]? = some (k, x) ∧ (mixKind P w).is k v = true) → Vals (kvs.map fun p => kV p.1) us
  | _, _, .nil, us, hl, _ => by
    have : us = [] := List.eq_nil_of_length_eq_zero (by simpa using hl)
    subst this; exact .nil
  | _, _, .cons r t, us, hl, h => by
    cases us with
    | nil => simp at hl
    | cons u ur =>
      obtain ⟨k, x, e, hk⟩ := h 0 u rfl
      have e' : _ = (k, x) := Option.some.inj e
      refine .cons ?_ (keys_vals t ur (by simpa using hl) fun j v hj => h (j + 1) v (by simpa using hj))
      have e2 := r.1
      rw [e'] at e2
      show RelV (kV _) u
      rw [e2]
      rw [mixKind_is] at hk
      rcases keyIs_shape hk with ⟨i, tt, rfl, rfl⟩ | ⟨y, tt, rfl, rfl⟩
      · exact ⟨tt, rfl⟩
      · exact ⟨tt, rfl⟩
theorem call_list_dict (hc : X.calm = true) : CallR X (.type "list") (fun xs H Q => ∃ (d : Addr) (kvs : List (Key × V)), xs = [.ref d] ∧ H d = some (.dK kvs) ∧ ∀ l, H l = none → Q (.ref l) (upd H l (.lst (kvs.map fun p => kV p.1)))) := by
  intro pins s σ H xs us Q I r h
  obtain ⟨d, kvs, rfl, e, q⟩ := h
  obtain ⟨u, rfl, ru⟩ := vals1 r
  cases ru
  obtain ⟨hz, lo, vs, kv, o, es, ep, ho, r1, r2, r3, r4, r5⟩ := dk_of I.hok e
  have hlen : vs.length = kvs.length := (Paired.length kv).symm
  refine PySem.W.kdl_call (PySem.W.kdl_dict (knd := mixKind X.prog X.w) (kvs := vs) (ep := ep) lo) (I.ok.hd hc) ⟨o, es, ho, r1, r2, r3, r4, r5⟩ (by rw [hlen]; exact hz) fun h' tk acc' c' hk hS hacc => ?_
  have rv : Vals (kvs.map fun p => kV p.1) acc'.toList := keys_vals (P := X.prog) (w := X.w) kv acc'.toList (by rw [Array.length_toList]; exact hacc.1) fun j v hj => hacc.2 j v (by rw [← Array.getElem?_toList]; exact hj)
  exact ⟨.ref s.heap.objs.size, _, I.laid (t' := tk) hk (Nat.le_refl _) (show ObjOk X.prog X.w _ h' _ (.lst (kvs.map fun p => kV p.1)) from ⟨by rw [List.length_map]; exact hz, acc'.toList, c', rv, by rw [Array.toArray_toList]; exact hS⟩), rfl, q _ (I.hok.fresh (Nat.le_refl _))⟩
end
def Itr3 (lo c : Int) (n : Nat) : It := ⟨fun i _ => i < n, fun i H x H' => H' = H ∧ x = .int (lo + i * c), fun i _ => n ≤ i⟩
theorem turn_range3 {P : Program} {w : World} {K : PySem.W.Frag} {tg : Expr} (it : Addr) (lo c : Int) (n : Nat) : Turn P w K tg (Itr3 lo c n) [it] it (fun i h => IsRangeIter h it (lo + (i : Nat) * c) ((n : Int) - (i : Nat)) c) where
  mem := by simp
  obj := fun i h st b hb => by
    have e : b = it := by simpa using hb
    subst e
    exact ⟨_, st, fun v z => by
      have z' : Data.fields _ = Data.cell v := z
      cases z'⟩
  keep := fun i h h' st k => k it (by simp) _ st
  item := by
    intro X hP hw hK hc i pins s σ H E I hf st hg
    subst hP hw hK
    obtain ⟨f0, f1, f2, f3, f4, f5⟩ := hf it (by simp)
    have W := Walks.range (prog := X.prog) (w := X.w) (I.ok.hd hc) it lo c n
    refine W.item i s _ _ hg st fun v h' tk hv st' kk => ?_
    obtain ⟨t, rfl⟩ := hv
    have I1 : Inv X pins σ H { s with heap := h', toks := tk } := I.turned (fun b o hb e => kk b o (by simpa using hb) e) f0 f1 f3 f4 f5
    exact ⟨_, rfl, go_of (s := { s with heap := h', toks := tk }) (n := "range_iterator") st' rfl rfl (by decide) ⟨.int (lo + i * c), H, I1, ⟨t, rfl⟩, ⟨rfl, rfl⟩, st', fun b hb => (hf b hb).1⟩⟩
  done := by
    intro X hP hw hK hc i pins s σ H E I hf st hg
    subst hP hw hK
    obtain ⟨f0, f1, f2, f3, f4, f5⟩ := hf it (by simp)
    exact wpAny_pyNext_range_end (I.ok.hd hc) st (by have : n ≤ i := hg; omega) fun h' eb => ⟨rfl, I.turned (t' := s.toks) (fun b o hb e => eb b o hb e) f0 f1 f3 f4 f5⟩
  self := fun _ _ _ _ _ st h => wpAny_pyIter_rangeiter st h
def iRng3 (ta : TA) : TI := fun σ H R => ta σ H fun vs H1 => ∃ (a b c : Int) (n : Nat), vs = [.int a, .int b, .int c] ∧ c ≠ 0 ∧ c.natAbs < 1073741824 ∧ Builtin.Range.small a b c = true ∧ Builtin.Range.rangeSize a b c = n ∧ R (Itr3 a c n) H1
section
variable {X : Cx} {tg : Expr}
theorem pi_range3 {a b c : Expr} {ta : TA} {p pos : Pos} (hg : Gl X "range") (hm : X.mg "range" = none) (ha : PA X [a, b, c] ta) (he : starEach [a, b, c] X.env = (false, eval a X.env) :: starEach [b, c] X.env := by rfl) (hpl : (backTo pos (starEach [b, c] X.env)).any (·.1) = false := by rfl) :
    PI X tg (.Call (.Name "range" p) [a, b, c] [] pos) (iRng3 ta) := by
  intro pins s σ H R I h
  refine Call_ (ld_blt I hg hm boot_range (PyProof.Rows.callWith_type1 (thn (ha pos pins s σ H _ I h) fun us s1 ⟨vs, H1, I1, r1, q1⟩ => ?_) he hpl))
  obtain ⟨i, j, k, n, e, hk0, hk1, hsm, hsz, q⟩ := q1
  subst e
  cases r1 with
  | cons r rr =>
    cases rr with
    | cons r' rr =>
      cases rr with
      | cons r'' rr =>
        cases rr
        obtain ⟨t, rfl⟩ := r
        obtain ⟨t', rfl⟩ := r'
        obtain ⟨t'', rfl⟩ := r''
        refine call_range_3 hk0 (wpAny_pyIter_range (IsRange.new ..) hsm ?_) (.inl (PyProof.noPylong_small hk1))
        generalize hO : ({ cls := .type "range", data := .fields #[.int i t, .int j t', .int k t''] } : Obj) = O
        have I2 : Inv X pins σ H1 { s1 with heap := s1.heap.push O, toks := s1.toks } := I1.kept fun b o e => Heap.get?_push_of_some _ e
        refine ⟨(s1.heap.push O).objs.size, [(s1.heap.push O).objs.size], _, _, H1, rfl, I2.kept (t' := s1.toks) fun b o e => Heap.get?_push_of_some _ e, turn_range3 _ i k n, ?_, fun b hb => ?_, q⟩
        · have e1 : i + ((0 : Nat) : Int) * k = i := by simp
          have e2 : ((n : Nat) : Int) - ((0 : Nat) : Int) = Builtin.Range.rangeSize i j k := by rw [hsz]; simp
          show IsRangeIter _ _ (i + ((0 : Nat) : Int) * k) (((n : Nat) : Int) - ((0 : Nat) : Int)) k
          rw [e1, e2]
          exact Heap.get?_push_size _ rfl
        · have e : b = (s1.heap.push O).objs.size := by simpa using hb
          subst e
          exact I2.fpOk (Nat.le_refl _) (I2.hok.fresh (Nat.le_refl _))
end
theorem for_range3 {lo c : Int} {n : Nat} {g : TG} {tb : TS} {D : Ends} {σ : St} {H : Hp} (Pv : Nat → St → Hp → Prop) (h0 : Pv 0 σ H)
    (hs : ∀ i σ H, i < n → Pv i σ H → g (.int (lo + i * c)) σ H fun σ2 H2 => tb { D with nx := Pv (i + 1), ct := Pv (i + 1), bk := D.nx } σ2 H2) (hd : ∀ σ H, Pv n σ H → D.nx σ H) :
    ∃ W : Nat → Nat → St → Hp → Prop, (∃ m, W 0 m σ H) ∧ ∀ i m σ H, W i m σ H →
      ((Itr3 lo c n).stop i H ∧ D.nx σ H) ∨ ((Itr3 lo c n).go i H ∧ ∃ N : St → Hp → Prop, (∀ σ' H', N σ' H' → ∃ m', m' < m ∧ W (i + 1) m' σ' H') ∧ ∀ x H', (Itr3 lo c n).yld i H x H' → g x σ H' fun σ2 H2 => tb { D with nx := N, ct := N, bk := D.nx } σ2 H2) := by
  refine ⟨fun i m σ H => m = n - i ∧ i ≤ n ∧ Pv i σ H, ⟨n, by simp, Nat.zero_le _, h0⟩, ?_⟩
  rintro i m σ H ⟨rfl, hi, p⟩
  by_cases hlt : i < n
  · refine .inr ⟨hlt, Pv (i + 1), fun σ' H' p' => ⟨n - (i + 1), by omega, rfl, hlt, p'⟩, fun x H' y => ?_⟩
    obtain ⟨e, y⟩ := y
    subst e y
    exact hs i σ _ hlt p
  · have e : i = n := by omega
    subst e
    exact .inl ⟨Nat.le_refl _, hd σ H p⟩
end L2
set_option maxHeartbeats 2000000
namespace L2
open PySem PySem.Spec PyProof.Rows
theorem draws_late {prog : Program} {w : World} {A : Around} {it : Addr} {fp : List Addr} {n : Nat} {P : Nat → Value → Prop} {St : Nat → Heap → Prop} (D : Draws prog w A it fp n P St) :
    Draws prog w A it fp (n + 1) (fun i v => ∃ j, i = j + 1 ∧ P j v) (fun i h => ∃ j, i = j + 1 ∧ St j h) where
  live := fun i h ⟨j, _, st⟩ => D.live j h st
  frame := fun i h h' ⟨j, e, st⟩ k => ⟨j, e, D.frame j h h' st k⟩
  item := fun i s Q E hi ⟨j, e, st⟩ hQ => by
    subst e
    exact D.item j s Q E (by omega) st fun x h' tk p st' sb => hQ x h' tk ⟨j, rfl, p⟩ ⟨j + 1, rfl, st'⟩ sb
  done := fun s Q E ⟨j, e, st⟩ hE => by
    have : n = j := by omega
    subst this
    exact D.done s Q E st hE
section
variable {prog : Program} {w : World} {A : Around} {E : Value → Shared → Prop} {s : Shared}
theorem meets_enum_start (x : Str) (t t1 : Tok) :
    Meets (Builtin.«enumerate.__new__» ⟨[.type "enumerate", .str x t], [("start", .int 1 t1)]⟩) (fun _ R s =>
      R (.ok (.ret (.ref (s.heap.push { cls := .type (strIterType x), data := .fields #[.str x t, .int 0 0] }).objs.size)))
        { s with heap := (s.heap.push { cls := .type (strIterType x), data := .fields #[.str x t, .int 0 0] }).push { cls := .type "enumerate", data := .fields #[.none, .bool false, .ref s.heap.objs.size, rawInt 1, .none, .none] } }) :=
  .of_wp fun prog w A R s h => by
    obtain ⟨hp, g, d, tk, os⟩ := s
    have sub1 := sub_enumerate
    wp_walk
    refine wpAny_stack_any fun st => wpAny_pure ?_
    split
    · rename_i c _ _ _ _ _
      cases (c == Value.type "enumerate") <;> (wp_walk using wpAny_pyIter_strU; exact ⟨_, rfl, h⟩)
    · wp_walk using wpAny_pyIter_strU
      exact ⟨_, rfl, h⟩
end
end L2
set_option maxHeartbeats 2000000
namespace L2
open PySem PySem.Spec PyProof.Rows
section
variable {prog : Program} {w : World} {A : Around} {E : Value → Shared → Prop} {s : Shared}
theorem object_init_kw {T newId : String} {self a : Value} {kw : List (Str × Value)} (hl : typeLookup (.type T) "__init__" = pure (some (.builtin "object.__init__")))
    (hm : Bind.madeBy (.type T) = pure (some newId)) (hne : (some newId != some "object.__new__") = true) :
    Meets (Builtin.«object.__init__» ⟨[self, a], kw⟩) (fun _ R s => s.TypeIs self T ∧ R (.ok (.ret .none)) s) := by
  refine Meets.of_wp fun prog w A R s hs => ?_
  obtain ⟨hT, hq⟩ := hs
  repeat (any_goals first | assumption | wp_step)
  exact ⟨_, rfl, hq⟩
theorem call_type_kw {T newId initId : String} {Bn Bi : Builtin} {args : List Value} {kw : List (Str × Value)} {S : PySem.Spec} {Q Q₁ : Value → Shared → Prop} (ft : TypeCalled T newId initId)
    (hct : checkTypeCall T ⟨args, kw⟩ = pure ()) (hcn : checkBuiltinCall newId ⟨.type T :: args, kw⟩ = pure ())
    (entryN : entryFor table newId = some Bn) (entryI : entryFor table initId = some Bi) (g : Meets (Bn ⟨.type T :: args, kw⟩) S) (h : S A.in1 (wants Q₁ E) s)
    (hnext : ∀ obj s₁, Q₁ obj s₁ → s₁.TypeIs obj T ∧ argsOk initId ⟨obj :: args, kw⟩ ∧ ∃ Si, Meets (Bi ⟨obj :: args, kw⟩) Si ∧ Si A.in1 (wants (fun r s₂ => r = .none ∧ Q obj s₂) E) s₁) :
    wpAny (model prog w) A (call (.type T) args kw) Q E s := by
  obtain ⟨c, tl, hmro⟩ := ft.mro
  have q1 := ft.made
  have q2 := ft.sub
  refine wpAny_call (codeAny_of_tree (show wpAny _ _ (callAny (.type T) _) _ _ _ from wpAny_pure ⟨Code.quiet_builtin _ (by decide +kernel), codeAny_builtin F.entry_type_call ?_⟩))
  rw [Around.under_plain (weight_type_call_type T args kw) (units_type_call_type T args kw)]
  have q3 := ft.notType
  have q4 := ft.canCreate
  repeat (any_goals first | assumption | wp_step)
  refine codeAny_mono (codeAny_call_builtin ft.plain entryN (wpAny_of_eq hcn (g prog w A.in1 _ s h))) fun r s₁ hr => ?_
  rcases r with e | fl
  · exact hr
  · cases fl with
    | ret obj =>
      obtain ⟨hT, hok, Si, gi, hsi⟩ := hnext _ _ hr
      have q5 := ft.init.lookup
      have q6 := ft.init.bind obj
      repeat (any_goals first | assumption | wp_step)
      refine codeAny_mono (codeAny_call_builtin ft.init.plain entryI (ft.init.check _ _ _ _ _ _ _ _ hT hok (gi prog w A.in1 _ s₁ hsi))) fun r₂ s₂ hr₂ => ?_
      rcases r₂ with e | fl₂
      · exact hr₂
      · cases fl₂ with
        | ret r =>
          obtain ⟨rfl, hq⟩ := hr₂
          repeat (any_goals first | assumption | wp_step)
        | _ => exact hr₂.elim
    | _ => exact hr.elim
theorem typeCall_enum_start (a b : Value) : checkTypeCall "enumerate" ⟨[a], [("start", b)]⟩ = pure () := by kernel_rfl
theorem newCall_enum_start (a b : Value) : checkBuiltinCall "enumerate.__new__" ⟨[.type "enumerate", a], [("start", b)]⟩ = pure () := by kernel_rfl
theorem init_args_start (o a b : Value) : argsOk "object.__init__" ⟨[o, a], [("start", b)]⟩ := by
  unfold argsOk
  rw [signature?_of (id := "object.__init__") (n := ['_', '_', 't', 'i', 'n', 'i', '_', '_']) (o := ['t', 'c', 'e', 'j', 'b', 'o']) (by kernel_rfl) F.owner_object]
  kernel_rfl
theorem call_enum_start {x : Str} {t t1 : Tok} {Q : Value → Shared → Prop}
    (h : ∀ h', IsEnum h' (s.heap.objs.size + 1) s.heap.objs.size 1 .none → h'.IsStrIter s.heap.objs.size (strIterType x) x t 0 → h'.objs.size = s.heap.objs.size + 2 →
      (∀ b o, s.heap.get? b = some o → h'.get? b = some o) → Q (.ref (s.heap.objs.size + 1)) { s with heap := h' }) :
    wpAny (model prog w) A (call (.type "enumerate") [.str x t] [("start", .int 1 t1)]) Q E s := by
  have ft := F.called_enumerate
  refine call_type_kw (Q₁ := fun obj s₁ => s₁.TypeIs obj "enumerate" ∧ Q obj s₁) ft (typeCall_enum_start _ _) (newCall_enum_start _ _) F.entry_enumerate_new F.entry_object_init (meets_enum_start x t t1) ?_
    (fun obj s₁ hq => ⟨hq.1, init_args_start obj _ _, _, object_init_kw ft.init.lookup ft.made (by decide), hq.1, rfl, hq.2⟩)
  generalize hO : ({ cls := .type (strIterType x), data := .fields #[.str x t, .int 0 0] } : Obj) = O
  have hz : (s.heap.push O).objs.size = s.heap.objs.size + 1 := Heap.size_push ..
  generalize hO2 : ({ cls := .type "enumerate", data := .fields #[.none, .bool false, .ref s.heap.objs.size, rawInt 1, .none, .none] } : Obj) = O2
  have he : ((s.heap.push O).push O2).get? (s.heap.objs.size + 1) = some O2 := by
    have e := Heap.get?_push_size (s.heap.push O) (o := O2) (by rw [← hO2]; rfl)
    rw [hz] at e; exact e
  have hi : ((s.heap.push O).push O2).get? s.heap.objs.size = some O := Heap.get?_push_of_some _ (Heap.get?_push_size _ (by rw [← hO]; rfl))
  have key : Shared.TypeIs { s with heap := (s.heap.push O).push O2 } (.ref (s.heap.objs.size + 1)) "enumerate" ∧ Q (.ref (s.heap.objs.size + 1)) { s with heap := (s.heap.push O).push O2 } := by
    refine ⟨⟨O2, he, by rw [← hO2]⟩, h _ (by rw [← hO2] at he ⊢; exact he) ⟨O, hi, by rw [← hO], by rw [← hO]; rfl⟩ (by rw [Heap.size_push, hz]) fun b o y => Heap.get?_push_of_some _ (Heap.get?_push_of_some _ y)⟩
  rw [← hz] at key
  exact key
end
end L2
set_option maxHeartbeats 2000000
namespace L2
open PySem PySem.Spec PyProof.Rows
theorem Inv.turned2 {X : Cx} {pins : List (Addr × Obj)} {σ : St} {H : Hp} {s : Shared} {h' : Heap} {t' : Nat} {fp : List Addr} (I : Inv X pins σ H s) (k : ∀ b o, b ∉ fp → s.heap.get? b = some o → h'.get? b = some o) (hf : ∀ b ∈ fp, FpOk X pins H b) :
    Inv X pins σ H { s with heap := h', toks := t' } := by
  have nit : ∀ b u, H b = some u → b ∉ fp := fun b u e z => by rw [(hf b z).1] at e; cases e
  refine I.step (g' := s.gens) (d' := s.drawn) (ch := fp) (fun b hb => ?_) (fun b o _ _ hc e _ => k b o hc e) (fun b o _ _ hc e _ => ⟨o.slots, k b o hc e⟩) (fun _ _ _ _ n => n)
    (fun b o hc e => ⟨o, k b o hc e⟩) (fun _ _ e => e) (fun _ _ _ e => e) (fun b ps e => ⟨#[], by rw [e]; simp⟩) (fun m hm => ?_) (fun b u e => ?_) I.bare
  · obtain ⟨f0, f1, f2, f3, f4, f5⟩ := hf b hb
    exact ⟨f3, f1, f4, f5⟩
  · obtain ⟨o, es, ep, ho, r⟩ := hm
    exact ⟨o, es, ep, k _ o (fun z => (hf _ z).2.1 rfl) ho, r⟩
  · refine (I.hok b u e).stay (fun c v hc q => k c v ?_ q) (fun _ q => q) fun _ _ q => q
    rcases hc with z | z
    · rw [z]; exact nit b u e
    · exact nit c _ z
theorem draws_str {prog : Program} {w : World} {A : Around} (hh : A.handled = none) (it : Addr) (x : Str) (t : Tok) :
    Draws prog w A it [it] x.cps.size (fun i v => ∃ c u, x.cps[i]? = some c ∧ v = .str ⟨#[c]⟩ u) (fun i h => h.IsStrIter it (strIterType x) x t i) := by
  cases ha : x.cps.all (· < 128)
  · have e : strIterType x = "str_iterator" := by simp [strIterType, ha]
    rw [e]; exact Draws.strWide hh it x t
  · have e : strIterType x = "str_ascii_iterator" := by simp [strIterType, ha]
    rw [e]; exact Draws.strAscii hh it x t
def Ite (x : Str) : It := ⟨fun i _ => i < x.cps.size, fun i H v H' => ∃ t c, H t = none ∧ x.cps[i]? = some c ∧ v = .ref t ∧ H' = upd H t (.tup [.int ((i : Int) + 1), .str ⟨#[c]⟩]), fun i _ => x.cps.size ≤ i⟩
theorem turn_enum {P : Program} {w : World} {K : PySem.W.Frag} {elts : List Expr} {x1 : Nat} {tp : Pos} (x : Str) (t : Tok) (e it : Addr) (hne : e ≠ it) :
    Turn P w K (.Tuple elts x1 tp) (Ite x) [e, it] e (fun i h => (∃ old, IsEnum h e it ((i : Int) + 1) old) ∧ h.IsStrIter it (strIterType x) x t i ∧ i ≤ x.cps.size) where
  mem := by simp
  obj := fun i h st b hb => by
    obtain ⟨⟨old, he⟩, ⟨o, ho, c, d⟩, _⟩ := st
    rcases List.mem_cons.mp hb with q | hb
    · rw [q]; exact ⟨_, he, fun v z => by cases z⟩
    · rw [List.mem_singleton.mp hb]; exact ⟨o, ho, fun v z => by rw [d] at z; cases z⟩
  keep := fun i h h' st k => by
    obtain ⟨⟨old, he⟩, ⟨o, ho, r⟩, hi⟩ := st
    exact ⟨⟨old, k e (by simp) _ he⟩, ⟨o, k it (by simp) o ho, r⟩, hi⟩
  item := by
    intro X hP hw hK hc i pins s σ H E I hf st hg
    subst hP hw hK
    obtain ⟨⟨old, he⟩, hs, hi⟩ := st
    have hlt : i < x.cps.size := hg
    have D := draws_late (draws_str (prog := X.prog) (w := X.w) (A := X.A.in1) (I.ok.hd hc) it x t)
    refine wpAny_pyNext_enum_itemD (i := i + 1) D (show IsEnum s.heap e it ((i + 1 : Nat) : Int) old from he) ⟨i, rfl, hs⟩ (by omega) hne (by simpa using hne) fun v h' tk hP hOut hst hT hsz hk => ?_
    obtain ⟨j, ej, c, u, hcc, rfl⟩ := hP
    have ej' : i = j := by omega
    subst ej'
    obtain ⟨j, ej, hst⟩ := hst
    have ej' : i + 1 = j := by omega
    subst ej'
    have hel : e < s.heap.objs.size := Heap.lt_size he
    have hil : it < s.heap.objs.size := by obtain ⟨o, ho, _⟩ := hs; exact Heap.lt_size ho
    refine ⟨_, rfl, wpAny_letOwnedTupleGo_enum hOut fun h2 he2 hs2 => ?_⟩
    generalize hO : ({ cls := .type "tuple", data := .seq #[.int ((i + 1 : Nat) : Int) tk, .str ⟨#[c]⟩ u] } : Obj) = O at hT
    have I1 : Inv X pins σ (upd H s.heap.objs.size (.tup [.int ((i : Int) + 1), .str ⟨#[c]⟩])) { s with heap := s.heap.push O, toks := tk + 1 } := by
      refine I.laid (t' := tk + 1) (fun b o y => Heap.get?_push_of_some _ y) (Nat.le_refl _) (show ObjOk X.prog X.w _ _ _ (.tup _) from ⟨by show 2 ≤ sizeLine; decide, [.int ((i + 1 : Nat) : Int) tk, .str ⟨#[c]⟩ u], .cons ⟨tk, rfl⟩ (.cons ⟨u, rfl⟩ .nil), ?_⟩)
      rw [← hO]; exact IsTup.new _ _
    have hfree := I.hok.fresh (Nat.le_refl s.heap.objs.size)
    have hf2 : ∀ b ∈ [e, it], FpOk X pins (upd H s.heap.objs.size (.tup [.int ((i : Int) + 1), .str ⟨#[c]⟩])) b := fun b hb => by
      obtain ⟨f0, f1⟩ := hf b hb
      have hb' : b ≠ s.heap.objs.size := by
        rcases List.mem_cons.mp hb with q | hb
        · rw [q]; exact Nat.ne_of_lt hel
        · rw [List.mem_singleton.mp hb]; exact Nat.ne_of_lt hil
      exact ⟨by rw [upd_ne hb']; exact f0, f1⟩
    have I2 : Inv X pins σ (upd H s.heap.objs.size (.tup [.int ((i : Int) + 1), .str ⟨#[c]⟩])) { s with heap := h2, toks := tk + 1 } := by
      refine I1.turned2 (t' := tk + 1) (h' := h2) (fun b o hb y => ?_) hf2
      have hbe : b ≠ e := fun q => hb (by simp [q])
      have hbi : b ≠ it := fun q => hb (by simp [q])
      rw [hs2.2 b hbe]
      rcases Heap.get?_push_cases y with ⟨q1, q2⟩ | y
      · rw [q1, q2]; exact hT
      · exact hk b o hbe hbi y
    refine ⟨.ref s.heap.objs.size, _, I2, rfl, ⟨s.heap.objs.size, c, hfree, hcc, rfl, rfl⟩, ⟨⟨_, he2⟩, ?_, hlt⟩, fun b hb => (hf2 b hb).1⟩
    obtain ⟨o, ho, r⟩ := hst
    exact ⟨o, by rw [hs2.2 it hne.symm]; exact ho, r⟩
  done := by
    intro X hP hw hK hc i pins s σ H E I hf st hg
    subst hP hw hK
    obtain ⟨⟨old, he⟩, hs, hi⟩ := st
    have hle : x.cps.size ≤ i := hg
    have D := draws_late (draws_str (prog := X.prog) (w := X.w) (A := X.A.in1) (I.ok.hd hc) it x t)
    have ei : i = x.cps.size := by omega
    rw [ei] at hs
    obtain ⟨f0, f1, f2, f3, f4, f5⟩ := hf it (by simp)
    exact wpAny_pyNext_enum_endD D he ⟨_, rfl, hs⟩ fun h' eb => ⟨rfl, I.turned (t' := s.toks) (fun b o hb y => eb b o hb y) f0 f1 f3 f4 f5⟩
  self := fun _ _ _ _ _ st h => by
    obtain ⟨⟨old, he⟩, _⟩ := st
    exact wpAny_pyIter_enum he h
theorem callWith_type_kw {M : Model} {A : Around} {E : Value → Shared → Prop} {s : Shared} {pos : Pos} {T : String} {args : List (Bool × Sem Value)} {kws : List (Option Str × Sem Value)} {Q : Value → Shared → Prop}
    (h1 : args.any (·.1) = false) (h2 : kws.any (·.1.isNone) = false)
    (h : wpAny M A (evalArgs (.type T) true args kws) (fun a s₁ => wpAny M A (call (.type T) a.pos a.kw) Q E s₁) E s) : wpAny M A (callWith pos (.type T) [] args kws) Q E s := by
  unfold callWith
  refine wpAny_bind (wpAny_holding (thn h fun a s₁ q => wpAny_bind (wpAny_standAt ?_)))
  simp only [h1, h2, Bool.or_false]
  refine wpAny_bind (wpAny_pure (wpAny_bind (thn q fun r s₂ hr => ?_)))
  exact wpAny_bind (wpAny_holding (wpAny_point (wpAny_pure hr)))
def iEnum1 (tl : TE) : TI := fun σ H R => tl σ H fun v H1 => ∃ x, [v] = [V.str x] ∧ R (Ite x) H1
section
variable {X : Cx}
theorem pi_enum1 {l : Expr} {tl : TE} {elts : List Expr} {x1 j : Nat} {tp p pos kp kpos : Pos} (hg : Gl X "enumerate") (hm : X.mg "enumerate" = none) (hl : PE X l tl)
    (he : starEach [l] X.env = [(false, eval l X.env)] := by rfl) : PI X (.Tuple elts x1 tp) (.Call (.Name "enumerate" p) [l] [⟨some "start", .Constant (.int 1) j kp, kpos⟩] pos) (iEnum1 tl) := by
  intro pins s σ H R I h
  have ha : PA X [l] (tCons tl tNil) := pa_cons hl pa_nil he
  have hk : PK X [⟨some "start", .Constant (.int 1) j kp, kpos⟩] (tCons (tC (.int 1)) tNil) := pk_cons pe_int pk_nil
  refine wpAny_Call_Name_kw (ld_blt I hg hm boot_enumerate (callWith_type_kw (by rw [he]; rfl) rfl (evalArgs_kw2 rfl ?_ he)))
  refine thn (ha pos pins s σ H (fun vs H1 => ∃ x, vs = [V.str x] ∧ R (Ite x) H1) I h) fun us s1 ⟨vs, H1, I1, r1, x, e, q⟩ => ?_
  subst e
  obtain ⟨u, rfl, t, rfl⟩ := vals1 r1
  refine thn (hk pos pins s1 σ H1 (fun vs H2 => vs = [V.int 1] ∧ H2 = H1) I1 ⟨rfl, rfl⟩) fun ws s2 ⟨zs, H2, I2, r2, e1, e2⟩ => ?_
  subst e1 e2
  obtain ⟨u', rfl, t', rfl⟩ := vals1 r2
  refine call_enum_start fun h' hE hit hsz hkk => wpAny_pyIter_enum hE ?_
  refine ⟨s2.heap.objs.size + 1, [s2.heap.objs.size + 1, s2.heap.objs.size], _, _, H2, rfl, I2.kept (t' := s2.toks) hkk, turn_enum x t _ _ (Nat.succ_ne_self _), ⟨⟨_, hE⟩, hit, Nat.zero_le _⟩, fun b hb => ?_, q⟩
  rcases List.mem_cons.mp hb with z | hb
  · rw [z]; exact I2.fpOk (Nat.le_succ _) (I2.hok.fresh (Nat.le_succ _))
  · rw [List.mem_singleton.mp hb]; exact I2.fpOk (Nat.le_refl _) (I2.hok.fresh (Nat.le_refl _))
end
theorem for_enum {x : Str} {g : TG} {tb : TS} {D : Ends} {σ : St} {H : Hp} (Pv : Nat → St → Hp → Prop) (h0 : Pv 0 σ H)
    (hs : ∀ i c t σ H, x.cps[i]? = some c → H t = none → Pv i σ H → g (.ref t) σ (upd H t (.tup [.int ((i : Int) + 1), .str ⟨#[c]⟩])) fun σ2 H2 => tb { D with nx := Pv (i + 1), ct := Pv (i + 1), bk := D.nx } σ2 H2) (hd : ∀ σ H, Pv x.cps.size σ H → D.nx σ H) :
    ∃ W : Nat → Nat → St → Hp → Prop, (∃ m, W 0 m σ H) ∧ ∀ i m σ H, W i m σ H →
      ((Ite x).stop i H ∧ D.nx σ H) ∨ ((Ite x).go i H ∧ ∃ N : St → Hp → Prop, (∀ σ' H', N σ' H' → ∃ m', m' < m ∧ W (i + 1) m' σ' H') ∧ ∀ y H', (Ite x).yld i H y H' → g y σ H' fun σ2 H2 => tb { D with nx := N, ct := N, bk := D.nx } σ2 H2) := by
  refine ⟨fun i m σ H => m = x.cps.size - i ∧ i ≤ x.cps.size ∧ Pv i σ H, ⟨x.cps.size, by simp, Nat.zero_le _, h0⟩, ?_⟩
  rintro i m σ H ⟨rfl, hi, p⟩
  by_cases hlt : i < x.cps.size
  · refine .inr ⟨hlt, Pv (i + 1), fun σ' H' p' => ⟨x.cps.size - (i + 1), by omega, rfl, hlt, p'⟩, fun y H' z => ?_⟩
    obtain ⟨t, c, e1, e2, e3, e4⟩ := z
    subst e3 e4
    exact hs i c t σ _ e2 e1 p
  · have e : i = x.cps.size := by omega
    subst e
    exact .inl ⟨Nat.le_refl _, hd σ H p⟩
end L2
set_option maxHeartbeats 2000000
namespace L2
open PySem PySem.W PySem.Spec PyProof.Rows
def OutS (ks : List Str) (vs out : List Value) : Prop := ∃ ps : List (Str × Value), ps.Perm (ks.zip vs) ∧ out = ps.map (·.2) ∧ ps.Pairwise fun p q => ¬ (q.1.cps.toList < p.1.cps.toList)
theorem zip_strs : ∀ {keys : List Value} {ks : List Str} (_ : StrsAre keys ks) (vs : List Value), (keys.zip vs).map (fun p => (strOf p.1, p.2)) = ks.zip vs
  | _, _, .nil, vs => rfl
  | _, _, .cons x t h, [] => rfl
  | _, _, .cons x t h, v :: vs => by
    rw [List.zip_cons_cons, List.map_cons, zip_strs h vs]; rfl
theorem out_strs {keys : Array Value} {vs : List Value} {ks : List Str} (hk : StrsAre keys.toList ks) {xs : Array Keyed} (hp : xs.Perm (keys.zip vs.toArray)) (hs : SortedToK strKind xs xs.size) : OutS ks vs (xs.map (·.2)).toList := by
  have hl : xs.toList.Perm (keys.toList.zip vs) := by
    have := Array.perm_iff_toList_perm.mp hp
    rwa [ksk_zip] at this
  refine ⟨xs.toList.map fun p => (strOf p.1, p.2), ?_, ?_, ?_⟩
  · have := hl.map fun p => (strOf p.1, p.2)
    rwa [zip_strs hk] at this
  · rw [Array.toList_map, List.map_map]; rfl
  · rw [List.pairwise_map, List.pairwise_iff_getElem]
    intro i j hi hj hij
    have hi' : i < xs.size := by simpa using hi
    have hj' : j < xs.size := by simpa using hj
    have str_at : ∀ m (hm : m < xs.size), KK strKind xs m = (strOf xs[m].1).cps.toList := fun m hm => by
      have hmem : xs[m] ∈ keys.toList.zip vs := hl.mem_iff.mp (by simp)
      have h1 := (List.of_mem_zip (show (xs[m].1, xs[m].2) ∈ _ from hmem)).1
      obtain ⟨x, t, e⟩ := hk.all _ h1
      rw [KK_str hm (x := x) (t := t) (q := xs[m].2) (by rw [← e])]
      rw [e]; rfl
    have h := hs i j (Nat.le_of_lt hij) hj'
    rw [str_at i hi', str_at j hj'] at h
    simpa [KeyOrd.kle] using h
theorem keys_strs {keys : Array Value} {vs : List Value} {ks : List Str} (hk : StrsAre keys.toList ks) : KeysOf strKind (keys.zip vs.toArray) := by
  intro p hp
  rw [ksk_zip] at hp
  obtain ⟨x, t, e⟩ := hk.all _ (List.of_mem_zip (show (p.1, p.2) ∈ _ from hp)).1
  exact ⟨x.cps.toList, by rw [e]⟩
theorem kind_strs {keys : Array Value} {ks : List Str} (hk : StrsAre keys.toList ks) (h2 : 2 ≤ keys.size) : keyKind' keys = pure oneType' := by
  obtain ⟨l⟩ := keys
  match l, hk, h2 with
  | [], _, h2 => simp at h2
  | [_], _, h2 => simp at h2
  | v₁ :: v₂ :: r, hk, _ => exact keyKind_strs hk
theorem snoc_strs {x : Str} {t : Tok} : ∀ {vs : List Value} {ss : List Str}, StrsAre vs ss → StrsAre (vs ++ [.str x t]) (ss ++ [x])
  | _, _, .nil => .cons x t .nil
  | _, _, .cons y u h => .cons y u (snoc_strs h)
section
variable {prog : Program} {w : World} {A : Around} {E : Value → Shared → Prop} {s : Shared} {a kS : Addr} {vs : List Value} {ks : List Str} {keys : Array Value} {e e1 : Nat} {P : PySem.Fin → Shared → Prop}
theorem sortS_tail {st : SortSt} (nk : s.heap.get? kS = some (seqObj "list" keys e)) (na : s.heap.get? a = some (seqObj "list" #[] e1)) (hka : kS ≠ a) (hk : StrsAre keys.toList ks) (hlen : ks.length = vs.length) (h64 : vs.length < 64)
    (hp : (arrOf st).Perm (keys.zip vs.toArray)) (hs : SortedToK strKind (arrOf st) (arrOf st).size) (hfl : failedOf st = none)
    (h : ∀ h' tk out c, (∀ b o, b ≠ a → b ≠ kS → s.heap.get? b = some o → h'.get? b = some o) → h'.get? a = some (seqObj "list" out c) → OutS ks vs out.toList → P (.done (.ret .none)) { s with heap := h', toks := tk }) :
    wpAny (model prog w) A (ksk_tail a false e1 (.ref kS) st) P E s := by
  have hsz : keys.size = vs.length := by have := hk.length; rw [Array.length_toList] at this; omega
  have hsz2 : (arrOf st).size = vs.length := by rw [hp.size_eq, Array.size_zip, hsz, List.size_toArray, Nat.min_self]
  have s1 := Heap.SameBut.update s.heap kS (Obj.mapSeq fun _ => (#[] : Array Value))
  have na1 : (s.heap.update kS (Obj.mapSeq fun _ => (#[] : Array Value))).get? a = some (seqObj "list" #[] e1) := (s1.2 a hka.symm).trans na
  have s2 := Heap.SameBut.update (s.heap.update kS (Obj.mapSeq fun _ => (#[] : Array Value))) a (Obj.mapSeq fun _ => (arrOf st).map (·.2))
  obtain ⟨c2, hc2⟩ : ∃ c2, ((s.heap.update kS (Obj.mapSeq fun _ => (#[] : Array Value))).update a (Obj.mapSeq fun _ => (arrOf st).map (·.2))).get? a = some (seqObj "list" ((arrOf st).map (·.2)) c2) := ⟨_, get?_update_seq na1 fun _ => (arrOf st).map (·.2)⟩
  unfold ksk_tail
  try dsimp only
  refine wpAny_bind (listUpdate_at nk rfl ?_ (by rw [hsz, sizeLine_eq]; omega) (Nat.zero_le _))
  refine wpAny_bind (wpAny_letGo (wpAny_bind (seqEpoch_at na1 rfl ?_)))
  refine wpAny_bind (listUpdate_at na1 rfl ?_ (Nat.zero_le _) (Nat.le_trans (Nat.le_of_eq (show ((arrOf st).map (·.2)).size = vs.length by rw [Array.size_map]; exact hsz2)) (by rw [sizeLine_eq]; omega)))
  rw [hfl]
  simp only [bne_self_eq_false, Bool.false_eq_true, if_false]
  exact wpAny_pure (h _ _ _ c2 (fun b o hb1 hb2 y => (s2.2 b hb1).trans ((s1.2 b hb2).trans y)) hc2 (out_strs hk hp hs))
theorem sortS_end (nk : s.heap.get? kS = some (seqObj "list" keys e)) (na : s.heap.get? a = some (seqObj "list" #[] e1)) (hka : kS ≠ a) (hk : StrsAre keys.toList ks) (hlen : ks.length = vs.length) (h64 : vs.length < 64)
    (h : ∀ h' tk out c, (∀ b o, b ≠ a → b ≠ kS → s.heap.get? b = some o → h'.get? b = some o) → h'.get? a = some (seqObj "list" out c) → OutS ks vs out.toList → P (.done (.ret .none)) { s with heap := h', toks := tk }) :
    wpAny (model prog w) A (ksk_end a false vs.toArray e1 (.ref kS) keys) P E s := by
  have hsz : keys.size = vs.length := by have := hk.length; rw [Array.length_toList] at this; omega
  have hzs : (keys.zip vs.toArray).size = vs.length := by rw [Array.size_zip, hsz, List.size_toArray, Nat.min_self]
  unfold ksk_end
  simp only [Bool.false_eq_true, if_false]
  by_cases h2 : vs.toArray.size < 2
  · rw [if_pos h2, if_pos h2]
    refine wpAny_bind (wpAny_pure ?_)
    rw [StateT.run_pure]
    refine wpAny_bind (wpAny_pure ?_)
    try dsimp only
    refine sortS_tail (st := SortSt.mk' general' (keys.zip vs.toArray) #[] 7 none) nk na hka hk hlen h64 (Array.Perm.refl _) ?_ rfl h
    intro i j hij hj
    have hj2 : j < (keys.zip vs.toArray).size := hj
    rw [hzs] at hj2
    rw [List.size_toArray] at h2
    have : i = j := by omega
    subst this
    exact KeyOrd.kle_refl _
  · rw [if_neg h2, if_neg h2]
    rw [List.size_toArray] at h2
    rw [kind_strs hk (by rw [hsz]; omega)]
    refine wpAny_bind (wpAny_pure (wpAny_bind (wpAny_mono (wpS_sortRunsK (κ := strKind) strKind_oneLt (a₀ := keys.zip vs.toArray) (st := SortSt.mk' oneType' (keys.zip vs.toArray) #[] 7 none)
      (Q := fun _ st' => (arrOf st').Perm (keys.zip vs.toArray) ∧ failedOf st' = none ∧ SortedToK strKind (arrOf st') (keys.zip vs.toArray).size)
      (keys_strs hk) ⟨Array.Perm.refl _, rfl, rfl, rfl⟩ (by rw [hzs]; omega) (by rw [hzs]; exact h64) fun st' a1 a2 a3 => ⟨a1, a2, a3⟩) ?_ fun _ _ y => y)))
    rintro ⟨⟨⟩, st'⟩ s' ⟨rfl, hp, hf, hs⟩
    try dsimp only
    exact sortS_tail nk na hka hk hlen h64 hp (by rw [hp.size_eq]; exact hs) hf h
def KeyTurn (prog : Program) (w : World) (A : Around) (s : Shared) (a : Addr) (f : Value) (vs : List Value) (ks : List Str) : Prop :=
  ∀ (i : Nat) (v : Value) (k : Str), vs[i]? = some v → ks[i]? = some k → ∀ (h : Heap) (tk : Nat), (∀ b o, b ≠ a → s.heap.get? b = some o → h.get? b = some o) → s.heap.objs.size ≤ h.objs.size → ∀ Q' : Value → Shared → Prop,
    (∀ h' tk' t, (∀ b o, h.get? b = some o → h'.get? b = some o) → h.objs.size ≤ h'.objs.size → Q' (.str k t) { s with heap := h', toks := tk' }) → wpAny (model prog w) A (call f [v]) Q' (fun _ _ => False) { s with heap := h, toks := tk }
theorem sortS_rest {f : Value} {s0 : Shared} (hs0 : ∃ tk, s = { s0 with heap := s.heap, toks := tk }) (k0 : ∀ b o, b ≠ a → s0.heap.get? b = some o → s.heap.get? b = some o) (z0 : s0.heap.objs.size ≤ s.heap.objs.size) (hkn : s0.heap.objs.size ≤ kS)
    (nk : s.heap.get? kS = some (seqObj "list" #[] 0)) (na : s.heap.get? a = some (seqObj "list" #[] e1)) (hka : kS ≠ a) (hlen : ks.length = vs.length) (h64 : vs.length < 64) (turn : KeyTurn prog w A s0 a f vs ks)
    (h : ∀ h' tk out c, (∀ b o, b ≠ a → s0.heap.get? b = some o → h'.get? b = some o) → h'.get? a = some (seqObj "list" out c) → OutS ks vs out.toList → P (.done (.ret .none)) { s0 with heap := h', toks := tk }) :
    wpAny (model prog w) A (ksk_rest a f false vs.toArray e1 (.ref kS)) P E s := by
  obtain ⟨tk0, hs0⟩ := hs0
  unfold ksk_rest
  refine wpAny_bind (wpAny_rule ?_)
  first
    | rw [List.forIn_toArray]
    | (rw [← Array.forIn_toList]; simp only [List.toList_toArray])
  refine wpAny_bind (ksk_fold (fun i s' => ∃ h' tk kA c, s' = { s0 with heap := h', toks := tk } ∧ (∀ b o, b ≠ a → s0.heap.get? b = some o → h'.get? b = some o) ∧ s0.heap.objs.size ≤ h'.objs.size ∧ h'.get? kS = some (seqObj "list" kA c) ∧ h'.get? a = some (seqObj "list" #[] e1) ∧ StrsAre kA.toList (ks.take i)) vs 0 s
    ⟨s.heap, tk0, #[], 0, hs0, k0, z0, nk, na, by simpa using StrsAre.nil⟩ ?step ?done)
  case step =>
    rintro j x s' hx ⟨h', tk, kA, c, rfl, k1, z1, nk1, na1, hk⟩
    simp only [Nat.zero_add] at hk ⊢
    have hj : j < vs.length := (List.getElem?_eq_some_iff.mp hx).1
    obtain ⟨k, hkj⟩ : ∃ k, ks[j]? = some k := ⟨_, List.getElem?_eq_getElem (by omega)⟩
    have hz : kA.size ≤ vs.length := by
      have h1 := hk.length
      rw [Array.length_toList, List.length_take] at h1
      omega
    refine wpAny_bind (wpAny_attempt (wpAny_mono (turn j x k hx hkj h' tk k1 z1 (fun v s'' => ∃ g tk2 t2, v = .str k t2 ∧ s'' = { s0 with heap := g, toks := tk2 } ∧ (∀ b o, h'.get? b = some o → g.get? b = some o) ∧ h'.objs.size ≤ g.objs.size) (fun g tk2 t2 q z => ⟨g, tk2, t2, rfl, rfl, q, z⟩)) (fun v s'' he => ?_) fun _ _ hF => hF.elim))
    obtain ⟨g, tk2, t2, rfl, rfl, k2, z2⟩ := he
    try dsimp only
    have nk2 := k2 _ _ nk1
    have na2 := k2 _ _ na1
    have s1 := Heap.SameBut.update g kS (Obj.mapSeq (·.push (.str k t2)))
    obtain ⟨c2, hc2⟩ : ∃ c2, (g.update kS (Obj.mapSeq (·.push (.str k t2)))).get? kS = some (seqObj "list" (kA.push (.str k t2)) c2) := ⟨_, get?_update_seq nk2 (·.push (.str k t2))⟩
    have ek : ks.take (j + 1) = ks.take j ++ [k] := by rw [List.take_add_one, hkj]; simp
    have ea : (kA.push (Value.str k t2)).toList = kA.toList ++ [Value.str k t2] := by simp
    refine wpAny_bind (listUpdate_at nk2 rfl ?_ (by rw [sizeLine_eq]; omega) (Nat.le_trans (Nat.le_of_eq (Array.size_push ..)) (by rw [sizeLine_eq]; omega)))
    refine wpAny_pure ⟨rfl, _, _, kA.push (.str k t2), c2, rfl, fun b o hb y => ?_, Nat.le_trans (Nat.le_trans z1 z2) (Nat.le_of_eq (Heap.size_update ..).symm), hc2, (s1.2 a hka.symm).trans na2, by rw [ea, ek]; exact snoc_strs hk⟩
    exact (s1.2 b (fun z => by rw [z] at y; exact absurd (Heap.lt_size y) (Nat.not_lt.mpr hkn))).trans (k2 _ _ (k1 b o hb y))
  case done =>
    rintro s' ⟨h', tk, kA, c, rfl, k1, z1, nk1, na1, hk⟩
    have hk' : StrsAre kA.toList ks := by
      have e3 : ks.take (0 + vs.length) = ks := List.take_of_length_le (by omega)
      rw [e3] at hk
      exact hk
    try dsimp only
    refine wpAny_bind (listItems_at nk1 rfl ?_)
    refine sortS_end nk1 na1 hka hk' hlen h64 fun h3 tk3 out c3 k3 a3 o3 => h h3 tk3 out c3 (fun b o hb y => k3 b o hb (fun z => ?_) (k1 b o hb y)) a3 o3
    rw [z] at y
    exact absurd (Heap.lt_size y) (Nat.not_lt.mpr hkn)
theorem sortS_tree {f : Value} {n : Nat} (ho : s.heap.get? a = some (seqObj "list" vs.toArray n)) (hlen : ks.length = vs.length) (h64 : vs.length < 64) (turn : KeyTurn prog w A s a f vs ks)
    (h : ∀ h' tk out c, (∀ b o, b ≠ a → s.heap.get? b = some o → h'.get? b = some o) → h'.get? a = some (seqObj "list" out c) → OutS ks vs out.toList → P (.done (.ret .none)) { s with heap := h', toks := tk }) :
    wpAny (model prog w) A (ksk_tree a f false) P E s := by
  have ha : a < s.heap.objs.size := Heap.lt_size ho
  have s1 := Heap.SameBut.update s.heap a (Obj.mapSeq fun _ => (#[] : Array Value))
  obtain ⟨e1, ho1⟩ : ∃ e1, (s.heap.update a (Obj.mapSeq fun _ => (#[] : Array Value))).get? a = some (seqObj "list" #[] e1) := ⟨_, get?_update_seq ho fun _ => #[]⟩
  have hkS : ((s.heap.update a (Obj.mapSeq fun _ => (#[] : Array Value))).push (seqObj "tuple" vs.toArray 0)).objs.size = s.heap.objs.size + 1 := by rw [size_push', Heap.size_update]
  unfold ksk_tree
  refine wpAny_bind (listItems_at ho rfl ?_)
  refine wpAny_bind (listUpdate_at ho rfl ?_ (by rw [List.size_toArray, sizeLine_eq]; omega) (Nat.zero_le _))
  refine wpAny_bind (seqEpoch_at ho1 rfl (wpAny_bind (wpAny_newTuple ?_ (by show vs.length ≤ _; rw [sizeLine_eq]; omega))))
  refine wpAny_bind (wpAny_newList ?_ (Nat.zero_le _))
  refine wpAny_holding ?_
  refine sortS_rest (s0 := s) (s := { s with heap := ((s.heap.update a (Obj.mapSeq fun _ => (#[] : Array Value))).push (seqObj "tuple" vs.toArray 0)).push (seqObj "list" #[] 0) }) (kS := ((s.heap.update a (Obj.mapSeq fun _ => (#[] : Array Value))).push (seqObj "tuple" vs.toArray 0)).objs.size)
    ⟨s.toks, rfl⟩ (fun b o hb y => Heap.get?_push_of_some _ (Heap.get?_push_of_some _ ((s1.2 b hb).trans y))) ?_ (by rw [hkS]; exact Nat.le_succ _) (Heap.get?_push_size _ rfl) (Heap.get?_push_of_some _ (Heap.get?_push_of_some _ ho1)) (by rw [hkS]; exact Nat.ne_of_gt (Nat.lt_succ_of_lt ha)) hlen h64 turn h
  show s.heap.objs.size ≤ (((s.heap.update a _).push _).push _).objs.size
  rw [size_push', hkS]; omega
theorem sortedS {f : Value} {l : Addr} {Q : Value → Shared → Prop} (hl : s.heap.IsList l vs.toArray) (hlen : ks.length = vs.length) (h64 : vs.length < 64) (ht : ∀ x, Builtin.«list.sort» ⟨[.ref x], [(Str.ofString "key", f)]⟩ = ksk_tree x f false)
    (turn : ∀ (h1 : Heap) (tk1 : Nat), (∀ b o, s.heap.get? b = some o → h1.get? b = some o) → s.heap.objs.size ≤ h1.objs.size → KeyTurn prog w A.in1.in1 { s with heap := h1, toks := tk1 } (s.heap.objs.size + 1) f vs ks)
    (h : ∀ h' tk out c, (∀ b o, s.heap.get? b = some o → h'.get? b = some o) → h'.get? (s.heap.objs.size + 1) = some (seqObj "list" out c) → OutS ks vs out.toList → Q (.ref (s.heap.objs.size + 1)) { s with heap := h', toks := tk }) :
    wpAny (model prog w) A (call (.builtin "sorted") [.ref l] [(Str.ofString "key", f)]) Q E s := by
  refine call_function_entry_kw kind_sorted plain_sorted entry_sorted (ksk_s1 _ _) ?_
  unfold Builtin.«sorted»
  refine wpAny_bind (m := checkCount "sorted" 1 1 _) (wpAny_pure ?_)
  refine wpAny_bind (collect_list hl ?_ (by rw [sizeLine_eq]; omega))
  refine wpAny_bind (wpAny_newList ?_ (by rw [sizeLine_eq]; omega))
  generalize hg : (s.heap.push (seqObj "list" #[] 0)).update s.heap.objs.size (Obj.mapSeq (· ++ vs.toArray)) = g
  have hsz : g.objs.size = s.heap.objs.size + 1 := by rw [← hg, Heap.size_update, size_push']
  have kg : ∀ b o, s.heap.get? b = some o → (g.push (seqObj "list" vs.toArray 0)).get? b = some o := fun b o q => by
    have hlt : b < s.heap.objs.size := Heap.lt_size q
    rw [Heap.get?_push_ne _ _ _ (by rw [hsz]; exact Nat.ne_of_lt (Nat.lt_succ_of_lt hlt)), ← hg, Heap.get?_update_ne _ _ _ _ (Nat.ne_of_lt hlt), Heap.get?_push_ne _ _ _ (Nat.ne_of_lt hlt)]
    exact q
  have hoL : (g.push (seqObj "list" vs.toArray 0)).get? (s.heap.objs.size + 1) = some (seqObj "list" vs.toArray 0) := by rw [← hsz]; exact Heap.get?_push_size _ rfl
  show wpAny _ _ _ _ _ { s with heap := g.push (seqObj "list" vs.toArray 0) }
  rw [hsz]
  refine wpAny_bind (wpAny_holding (wpAny_call_entry_kw slot_list_sort ⟨_, hoL, rfl⟩ entry_list_sort ?body (ksk_l1 _ _)))
  show wpAny (model prog w) A.in1.in1 (Builtin.«list.sort» ⟨[.ref (s.heap.objs.size + 1)], [(Str.ofString "key", f)]⟩) _ _ _
  rw [ht]
  have hz2 : s.heap.objs.size ≤ (g.push (seqObj "list" vs.toArray 0)).objs.size := by rw [size_push', hsz]; omega
  refine sortS_tree (s := { s with heap := g.push (seqObj "list" vs.toArray 0) }) hoL hlen h64 (turn (g.push (seqObj "list" vs.toArray 0)) s.toks kg hz2) fun h' tk out c k3 a3 o3 => ⟨_, rfl, ?_⟩
  exact wpAny_pure ⟨_, rfl, h h' tk out c (fun b o y => k3 b o (Nat.ne_of_lt (Nat.lt_succ_of_lt (Heap.lt_size y))) (kg b o y)) a3 o3⟩
end
end L2
set_option maxHeartbeats 2000000
namespace L2
open PySem PySem.W PySem.Spec PyProof.Rows
def BmAt (base : Heap) (mg : Str → Option Value) : Prop := ∃ bm ob, mg "__builtins__" = some (.ref bm) ∧ bm ≠ builtinsNs ∧ base.get? bm = some ob ∧ ob.cls = .type "module" ∧ ob.dict = some builtinsNs ∧ ob.data = .plain
def OnlyT (ts : List Addr) (H : Hp) : Prop := ∀ b, H b = none ∨ (∃ o xs, H b = some (.frz o (.lst xs))) ∨ (H b = some (.tbl #[]) ∧ b ∈ ts)
theorem law_callT {P : Program} {w : World} {K : PySem.W.Frag} {mg mb : Str → Option Value} {CX : CXT} {k : Nat} {fa a : Addr} {fd : FuncData} {x : Str} {sp : Sp} {s₁ : Shared} {vs : List Value} {ns : List Int} {ts : List Addr}
    (KX : K.In s₁.heap) (hns : s₁.heap.Ns mainGlobals mg) (hb : s₁.heap.Ns builtinsNs mb) (hbb : ∀ x : Str, x ≠ "__name__" → mb x = bootBuiltins x) (hlim : s₁.heap.NoLimit) (hg : s₁.gens = #[]) (hbm : BmAt s₁.heap mg)
    (ha : s₁.heap.get? a = some { cls := .type "list", data := .seq vs.toArray }) (hi : IntsAre vs ns) (hl : ns.length ≤ sizeLine) (hr : Room k callerA)
    (hts : ∀ b ∈ ts, s₁.heap.get? b = some (tabObj #[]) ∧ K.lookup b = none ∧ ∃ c, CodeHd s₁.heap c b)
    (F : ∀ base : Heap, K.In base → base.Ns mainGlobals mg → BmAt base mg → FnOk P w K mg base CX k fa fd [x] sp) (hbind : ∀ (s : Shared) (u : Value), BindsTo s fd ⟨[u], []⟩ [(x, u)])
    (hsp : ∀ H : Hp, OnlyT ts H → SqL K H a (ns.map V.int) → (∀ b ∈ ts, H b = some (.tbl #[])) → sp [.ref a] H (fun v _ => v = .bl true) fun _ _ _ => False)
    (hCX : ∀ H e s', CX [] H s₁ (fun _ _ _ => False) e s' → False) :
    codeAny (model P w) callerA (.call (.ref fa) ⟨[.ref a], []⟩) (fun r s' => r = .ok (.ret (.bool true)) ∧ OldK s₁.heap s'.heap ∧ s'.os = s₁.os ∧ AllBare s'.gens) s₁ := by
  have rv := vals_ints hi
  have lenV := hi.length
  have nta : a ∉ ts := fun z => by
    have e := (hts a z).1
    rw [ha] at e; cases e
  have core : ∀ H : Hp, OnlyT ts H → SqL K H a (ns.map V.int) → HOk P w H s₁.heap → (∀ b ∈ ts, H b = some (.tbl #[])) → (∀ b, H b ≠ none → b = a ∨ b ∈ ts) → (∀ b, H b ≠ none → K.lookup b = none) →
      codeAny (model P w) callerA (.call (.ref fa) ⟨[.ref a], []⟩) (fun r s' => r = .ok (.ret (.bool true)) ∧ OldK s₁.heap s'.heap ∧ s'.os = s₁.os ∧ AllBare s'.gens) s₁ := by
    intro H hO hS hok hT hA hK
    have base_of : ∀ {b : Addr} {o : Obj}, s₁.heap.get? b = some o → H b = none → (hidT s₁.heap H).get? b = some o := fun y n => hidT_get y n
    have free : ∀ {b : Addr} {o : Obj}, s₁.heap.get? b = some o → (∀ its n, o.data ≠ .seq its n) → (∀ fs, o.data ≠ .fields fs) → H b = none := fun {b o} y d1 d2 => by
      cases q : H b with
      | none => rfl
      | some u =>
        rcases hA b (by rw [q]; simp) with z | z
        · subst z
          rw [ha] at y; cases y
          exact absurd rfl (d1 _ _)
        · rw [(hts b z).1] at y; cases y
          exact absurd rfl (d2 _)
    have nsK : ∀ {b : Addr} {m : Str → Option Value}, s₁.heap.Ns b m → (hidT s₁.heap H).Ns b m := fun {b m} ⟨o, es, ep, y, d, r⟩ => ⟨o, es, ep, base_of y (free y (fun its n z => by rw [d] at z; cases z) fun fs z => by rw [d] at z; cases z), d, r⟩
    have hKb : K.In (hidT s₁.heap H) := fun b o y => base_of (KX b o y) (by
      cases q : H b with
      | none => rfl
      | some u => rw [hK b (by rw [q]; simp)] at y; cases y)
    have hBm : BmAt (hidT s₁.heap H) mg := by
      obtain ⟨bm, ob, h1, h2, h3, h4, h5, h6⟩ := hbm
      exact ⟨bm, ob, h1, h2, base_of h3 (free h3 (fun its n z => by rw [h6] at z; cases z) fun fs z => by rw [h6] at z; cases z), h4, h5, h6⟩
    have hM : Mod K mg (hidT s₁.heap H) := ⟨hKb, nsK hns, ⟨mb, nsK hb, hbb⟩, let ⟨mc, h1, h2⟩ := hlim; ⟨mc, nsK h1, h2⟩⟩
    have e0 : Env0 P w K mg (hidT s₁.heap H) callerA [] s₁ H := ⟨rfl, hM, fun b o e => of_hidT e, Nat.le_of_eq (hidT_size _ _), trivial, fun b hb => absurd (show b ∈ ([] : List Addr) from hb) (by simp), hok, .of_eq hg⟩
    refine codeAny_mono ((F _ hKb (nsK hns) hBm).run callerA [] s₁ H ⟨[.ref a], []⟩ [.ref a] [.ref a] _ _ hr e0 (hbind s₁ (.ref a)) (.cons rfl .nil) (hsp H hO hS hT)) fun r s' h => ?_
    cases r with
    | error e => exact (hCX H e s' h).elim
    | ok fl =>
      cases fl with
      | next => exact False.elim h
      | brk => exact False.elim h
      | cont => exact False.elim h
      | ret u =>
        obtain ⟨v, H', os, bare, un, hok', r', q⟩ := h
        have q' : v = .bl true := q
        subst q'
        obtain rfl : u = Value.bool true := r'
        have key : ∀ b o, s₁.heap.get? b = some o → s'.heap.get? b = some o ∨ (b ∈ ts ∧ ∃ more : Array Value, s'.heap.get? b = some (tabObj (#[] ++ more))) := fun b o y => by
          cases q : H b with
          | none => exact .inl (un.keep b o y q (by intro z; exact absurd (show b ∈ ([] : List Addr) from z) (by simp)) (by simp))
          | some u =>
            rcases hO b with z | ⟨ob, xs, z⟩ | ⟨z, zt⟩
            · rw [q] at z; cases z
            · have z2 := un.frzs b ob _ z
              obtain ⟨e1, _⟩ := hok b _ z
              obtain ⟨e2, _⟩ := hok' b _ z2
              rw [y] at e1; cases e1
              exact .inl e2
            · obtain ⟨more, z2⟩ := un.tbls b #[] z
              exact .inr ⟨zt, more, show s'.heap.get? b = some { cls := .none, data := .fields (#[] ++ more) } from hok' b _ z2⟩
        refine ⟨rfl, ⟨fun b o y => ?_, fun b o y => ?_⟩, os, bare⟩
        · rcases key b o y with z | ⟨zt, more, z⟩
          · exact .inl z
          · obtain ⟨t1, _, c, t3⟩ := hts b zt
            rw [t1] at y; cases y
            exact .inr (.inl ⟨(t3.tab t1).isCodeTable, rfl, #[], more, rfl, z⟩)
        · rcases key b o y with z | ⟨zt, more, z⟩
          · exact ⟨_, z⟩
          · exact ⟨_, z⟩
  have okT : ∀ (H : Hp) (b : Addr), b ∈ ts → ObjOk P w H s₁.heap b (.tbl #[]) := fun H b hb => (hts b hb).1
  cases hk : K.lookup a with
  | some o =>
    have e := KX a o hk
    rw [ha] at e
    cases e
    refine core (fun b => if b ∈ ts then some (.tbl #[]) else none) (fun b => ?_) (.inr ⟨_, vs.toArray, _, hk, rfl, rfl, rfl, by rw [List.size_toArray, lenV]; exact hl, by simpa using rv⟩) (fun b u z => ?_) (fun b hb => if_pos hb) (fun b z => ?_) (fun b z => ?_)
    · by_cases hb : b ∈ ts
      · exact .inr (.inr ⟨if_pos hb, hb⟩)
      · exact .inl (if_neg hb)
    · by_cases hb : b ∈ ts
      · have z' := (if_pos hb).symm.trans z
        cases z'
        exact okT _ b hb
      · have z' := (if_neg hb).symm.trans z
        cases z'
    · by_cases hb : b ∈ ts
      · exact .inr hb
      · exact absurd (if_neg hb) z
    · by_cases hb : b ∈ ts
      · exact (hts b hb).2.1
      · exact absurd (if_neg hb) z
  | none =>
    refine core (fun b => if b = a then some (.frz { cls := .type "list", data := .seq vs.toArray } (.lst (ns.map V.int))) else if b ∈ ts then some (.tbl #[]) else none) (fun b => ?_) (.inl (.inr ⟨{ cls := .type "list", data := .seq vs.toArray }, if_pos rfl⟩)) (fun b u z => ?_)
      (fun b hb => (if_neg (fun z : b = a => nta (by rw [← z]; exact hb))).trans (if_pos hb)) (fun b z => ?_) (fun b z => ?_)
    · by_cases h1 : b = a
      · exact .inr (.inl ⟨_, _, if_pos h1⟩)
      · by_cases hb : b ∈ ts
        · exact .inr (.inr ⟨(if_neg h1).trans (if_pos hb), hb⟩)
        · exact .inl ((if_neg h1).trans (if_neg hb))
    · by_cases h1 : b = a
      · have z' := (if_pos h1).symm.trans z
        cases z'
        subst h1
        exact ⟨ha, by rw [List.length_map]; exact hl, vs, _, rv, ha⟩
      · have z1 := (if_neg h1).symm.trans z
        by_cases hb : b ∈ ts
        · have z' := (if_pos hb).symm.trans z1
          cases z'
          exact okT _ b hb
        · have z' := (if_neg hb).symm.trans z1
          cases z'
    · by_cases h1 : b = a
      · exact .inl h1
      · by_cases hb : b ∈ ts
        · exact .inr hb
        · exact absurd ((if_neg h1).trans (if_neg hb)) z
    · by_cases h1 : b = a
      · rw [h1]; exact hk
      · by_cases hb : b ∈ ts
        · exact (hts b hb).2.1
        · exact absurd ((if_neg h1).trans (if_neg hb)) z
theorem walk_ofT {l : PySem.W.OpenLaw} {n k : Nat} {q : Program} {loose : List Str} {XP : (Str → Option Value) → Heap → Prop} {YP : World → Heap → Prop} {d : DefRec} {K : Params → PySem.W.Frag} {CX : World → CXT} {sp : World → Sp} {x : Str} {ts : List Addr}
    (hn : l.most = some n) (hn2 : n ≤ sizeLine) (hdf : d.params.defaults = []) (hr : Room k callerA)
    (hY : ∀ (w : World) (h : Heap), YP w h → (K w.params).In h ∧ ∀ b ∈ ts, h.get? b = some (tabObj #[]))
    (hK : ∀ (w : World) (b : Addr), b ∈ ts → (K w.params).lookup b = none ∧ ∃ c, codeHdIn (K w.params) c b = true)
    (F : ∀ (w : World) (mg : Str → Option Value) (fa : Addr) (h : Heap), (K w.params).In h → h.Ns mainGlobals mg → mg d.name = some (.ref fa) →
      ∃ fd : FuncData, (∀ (s : Shared) (u : Value), BindsTo s fd ⟨[u], []⟩ [(x, u)]) ∧
        ∀ base : Heap, (K w.params).In base → base.Ns mainGlobals mg → BmAt base mg → FnOk l.prog w (K w.params) mg base (CX w) k fa fd [x] (sp w))
    (hsp : ∀ (w : World) (H : Hp) (a : Addr) (ns : List Int), ns.length ≤ n → OnlyT ts H → SqL (K w.params) H a (ns.map V.int) → (∀ b ∈ ts, H b = some (.tbl #[])) → sp w [.ref a] H (fun v _ => v = .bl true) fun _ _ _ => False)
    (hCX : ∀ (w : World) (H : Hp) (s : Shared) (e : Value) (s' : Shared), CX w [] H s (fun _ _ _ => False) e s' → False) :
    PySem.W.WalkO q loose XP YP l.row.toRowW d [] (fun f vs => PySem.call f vs) := by
  refine Att.attach_call hn hdf fun w s₀ s₁ mg mb fa o pm cd doc a vs ns G Y ho hd hcd hmg hobj hints hlen hg => ?_
  obtain ⟨KX, hT⟩ := hY w _ Y
  obtain ⟨fd, hb, hF⟩ := F w mg fa _ KX G.T.g hmg
  exact law_callT (ts := ts) KX G.T.g G.T.b G.T.builtins G.T.nolimit hg G.T.bmain hobj hints (Nat.le_trans hlen hn2) hr (fun b hb' => ⟨hT b hb', (hK w b hb').1, let ⟨c, hc⟩ := (hK w b hb').2; ⟨c, codeHd_of_K KX hc⟩⟩) hF hb (fun H hO hS hTb => hsp w H a ns hlen hO hS hTb) fun H e s' => hCX w H s₁ e s'
end L2
set_option maxHeartbeats 2000000
namespace L2
open PySem PySem.W PySem.Spec PyProof.Rows
abbrev lamArgs (apos : Pos) : Arguments := { posonlyargs := [], args := [{ arg := "pair", annotation := none, pos := apos }], vararg := none, kwonlyargs := [], kw_defaults := [], kwarg := none, defaults := [] }
abbrev lamBody (p1 p2 p3 : Pos) : Expr := .Subscript (.Name "pair" p1) (.Constant (.int 0) 0 p2) p3
abbrev lamScope : Scope := { kind := .function, names := [("pair", .local)], isGenerator := false, isCoroutine := false, more := [] }
section
variable {prog : Program} {w : World} {A : Around} {E : Value → Shared → Prop} {s : Shared}
theorem lam_call {q t : Addr} {qual : Str} {apos p1 p2 p3 : Pos} {pm cdv ct k : Value} {its : Array Value} {Q : Value → Shared → Prop}
    (ho : s.heap.get? q = some { cls := .type "function", data := .func (kla_fn "<lambda>" qual (lamArgs apos) (lamBody p1 p2 p3) lamScope [] pm cdv ct) }) (hcd : s.heap.CodeRec cdv qual) (hlim : s.heap.NoLimit) (hroom : A.depth < recursionLimit)
    (ht : IsTup s.heap t its) (h0 : its[0]? = some k)
    (hQ : ∀ h' tk, (∀ b o, s.heap.get? b = some o → h'.get? b = some o) → s.heap.objs.size ≤ h'.objs.size → Q k { s with heap := h', toks := tk }) :
    wpAny (model prog w) A (call (.ref q) [.ref t]) Q E s := by
  refine wpAny_call (kla_callFunE (body := lamBody p1 p2 p3) hroom ho rfl rfl rfl rfl hcd ?_)
  refine wpAny_of_eq (a := [(Str.ofString "pair", Value.ref t)]) rfl ?_
  refine wpAny_newFunctionEnv_cells rfl (fun y hy => ?_) fun env he s₁ x => ⟨hlim.keeps x.toInCall.keep, kla_codeExpr ?_⟩
  · rw [List.mem_singleton.mp hy]; exact .inl rfl
  have hns := x.toInCall.ns
  obtain ⟨h1, tk1, e1⟩ := x.toInCall.same
  have hkeep := x.toInCall.keep
  have hfr := x.toInCall.fresh
  have hL := hns.lt
  have hkind : env.kindOf "pair" = some .local := by rw [he]; rfl
  have hm : (bindL env.kindOf [(Str.ofString "pair", Value.ref t)] fun _ => none) "pair" = some (.ref t) := by
    rw [he]; rfl
  have hsc : env.scope.kind = .function := by rw [he]; rfl
  clear x
  refine Subscript_ (wpAny_Name (wpAny_loadName_local hsc hkind hns hm (wpAny_Constant_int ?_)) (by decide))
  have ht1 : IsTup s₁.heap t its := by
    obtain ⟨o, e, r⟩ := ht
    exact ⟨o, hkeep _ _ e, r⟩
  have fin : Q k { s₁ with toks := s₁.toks + 1 } := by
    subst e1
    exact hQ h1 (tk1 + 1) hkeep (Nat.le_of_lt (Nat.lt_of_le_of_lt hfr hL))
  have hsz : 0 < its.size := (Array.getElem?_eq_some_iff.mp h0).1
  have ht2 : IsTup (Shared.heap { s₁ with toks := s₁.toks + 1 }) t its := ht1
  exact subscriptTail_builtinR (x := k) ht2.typeIs slot_tuple_getitem.lookup
    (getItem_tuple (j := 0) (Q := fun r s' => r = k ∧ (fun v s' => (match (Except.ok (Flow.ret v) : Result) with | .ok (.ret v) => Q v s' | .ok _ => False | .error e => E e s')) r s') ht2 (by decide) (by decide) (ixN_seq (n := its.size) (i := 0) (j := 0) (by unfold ixN; rw [if_pos (by decide), if_pos (by omega)]; rfl)).1 h0 ⟨rfl, fin⟩) rfl
theorem un_ref : ∀ {ts : List Addr} {us : List Value}, Vals (ts.map V.ref) us → us = ts.map Value.ref
  | [], _, .nil => rfl
  | t :: ts, _, .cons r h => by
    have e := un_ref h
    cases (show _ = Value.ref t from r)
    rw [e]; rfl
end
def OutT (ks : List Str) (ts ts' : List Addr) : Prop := ∃ ps : List (Str × Addr), ps.Perm (ks.zip ts) ∧ ts' = ps.map (·.2) ∧ ps.Pairwise fun p q => ¬ (q.1.cps.toList < p.1.cps.toList)
def unR : Value → Addr
  | .ref a => a
  | _ => 0
theorem outT_of {ks : List Str} {ts : List Addr} {out : List Value} (h : OutS ks (ts.map Value.ref) out) : ∃ ts', out = ts'.map Value.ref ∧ OutT ks ts ts' := by
  obtain ⟨ps, hp, ho, hs⟩ := h
  have hmem : ∀ p ∈ ps, p.2 = Value.ref (unR p.2) := fun p hp' => by
    have h1 := (List.of_mem_zip (show (p.1, p.2) ∈ _ from hp.mem_iff.mp hp')).2
    obtain ⟨t, _, e⟩ := List.mem_map.mp h1
    rw [← e]; rfl
  refine ⟨ps.map fun p => unR p.2, ?_, ps.map (fun p => (p.1, unR p.2)), ?_, ?_, ?_⟩
  · rw [ho, List.map_map]
    exact List.map_congr_left hmem
  · have h1 := hp.map fun p : Str × Value => (p.1, unR p.2)
    have h2 : (ks.zip (ts.map Value.ref)).map (fun p : Str × Value => (p.1, unR p.2)) = ks.zip ts := by
      rw [List.zip_map_right, List.map_map]
      have : ((fun p : Str × Value => (p.1, unR p.2)) ∘ Prod.map id Value.ref) = (id : Str × Addr → Str × Addr) := by funext p; rfl
      rw [this, List.map_id]
    rwa [h2] at h1
  · rw [List.map_map]; rfl
  · rw [List.pairwise_map]; exact hs
def CRec (c : Addr) (qual : Str) : Heap → Prop := fun h => h.CodeRec (.ref c) qual
def LamAt (H : Hp) (Pl : Addr) (lpos : Pos) (qual : Str) : Prop :=
  H Pl = some (.tbl #[]) ∨ ∃ c, H Pl = some (.tbl #[rawInt lpos.line, rawInt lpos.col, .ref c]) ∧ H c = some (.ext (CRec c qual))
theorem crec_ok {P : Program} {w : World} {H : Hp} {h : Heap} {c : Addr} {qual : Str} (e : h.CodeRec (.ref c) qual) : ObjOk P w H h c (.ext (CRec c qual)) := by
  obtain ⟨c', o, vs, t, z, g, r⟩ := id e
  cases z
  refine ⟨e, ⟨o, g⟩, fun h1 h2 p k => ?_⟩
  obtain ⟨c', o, vs, t, z, g, r⟩ := p
  cases z
  exact ⟨_, o, vs, t, rfl, k _ g, r⟩
def Grown (Pl : Addr) (H H' : Hp) : Prop := ∀ b o, b ≠ Pl → H b = some o → H' b = some o
section
variable {X : Cx} {pins : List (Addr × Obj)} {σ : List (Option V)} {H : Hp} {s : Shared} {h' : Heap}
theorem Inv.table {t' : Nat} {Pl c : Addr} {ps : Array Value} {qual : Str} {lpos : Pos} (I : Inv X pins σ H s) (hP : H Pl = some (.tbl ps)) (k : ∀ b o, b ≠ Pl → s.heap.get? b = some o → h'.get? b = some o)
    (hT : h'.get? Pl = some (tabObj (ps ++ #[rawInt lpos.line, rawInt lpos.col, .ref c]))) (hc : s.heap.objs.size ≤ c) (hr : h'.CodeRec (.ref c) qual) :
    Inv X pins σ (upd (upd H Pl (.tbl (ps ++ #[rawInt lpos.line, rawInt lpos.col, .ref c]))) c (.ext (CRec c qual))) { s with heap := h', toks := t' } := by
  have hcn : H c = none := I.hok.fresh hc
  have hcP : c ≠ Pl := fun z => by rw [z, hP] at hcn; cases hcn
  have nP : ∀ b, H b = none → b ≠ Pl := fun b z e => by rw [e, hP] at z; cases z
  have off : ∀ b o, b ≠ Pl → H b = some o → upd (upd H Pl (.tbl (ps ++ #[rawInt lpos.line, rawInt lpos.col, .ref c]))) c (.ext (CRec c qual)) b = some o := fun b o h1 e => by rw [upd_ne (ne_of_none e hcn), upd_ne h1]; exact e
  have nL : X.env.locals ≠ Pl := nP _ I.free
  refine I.step (g' := s.gens) (d' := s.drawn) (ch := []) (fun _ z => nomatch z) (fun b o _ _ _ e n => k b o (nP b n) e) (fun b o _ _ _ e n => ⟨o.slots, k b o (nP b n) e⟩) (fun b o _ e n => ?_) (fun b o _ e => ?_)
    (fun b xs e => off b _ (fun z => by rw [z, hP] at e; cases e) e) (fun b o u e => off b _ (fun z => by rw [z, hP] at e; cases e) e) (fun b qs e => ?_) (fun m hm => ?_) (fun b u e => ?_) I.bare
  · rw [upd_ne (fun z => by rw [z] at e; exact absurd (Heap.lt_size e) (Nat.not_lt.mpr hc)), upd_ne (nP b n)]; exact n
  · by_cases hb : b = Pl
    · exact ⟨_, by rw [hb]; exact hT⟩
    · exact ⟨o, k b o hb e⟩
  · by_cases hb : b = Pl
    · rw [hb, hP] at e
      cases e
      exact ⟨#[rawInt lpos.line, rawInt lpos.col, .ref c], by rw [hb, upd_ne hcP.symm, upd_same]⟩
    · exact ⟨#[], by rw [off b _ hb e]; simp⟩
  · obtain ⟨o, es, ep, ho, r⟩ := hm
    exact ⟨o, es, ep, k _ o nL ho, r⟩
  · by_cases h1 : b = c
    · subst h1
      rw [upd_same] at e
      cases e
      exact crec_ok hr
    · rw [upd_ne h1] at e
      by_cases h2 : b = Pl
      · subst h2
        rw [upd_same] at e
        cases e
        exact hT
      · rw [upd_ne h2] at e
        refine (I.hok b u e).stay (fun d v hd y => k d v ?_ y) (fun d y => off d _ (fun z => by rw [z, hP] at y; cases y) y) fun d xs y => off d _ (fun z => by rw [z, hP] at y; cases y) y
        rcases hd with z | z
        · rw [z]; exact h2
        · exact fun z2 => by rw [z2, hP] at z; cases z
theorem lam_make {A : Around} {E : Value → Shared → Prop} {Q : Value → Shared → Prop} {c Pl : Addr} {apos p1 p2 p3 lpos : Pos} (I : Inv X pins σ H s) (hcode : X.env.code = .ref c) (C : codeHdIn X.K c Pl = true) (hBm : BmAt X.base X.mg) (hL : LamAt H Pl lpos (X.env.qual ++ "<lambda>"))
    (h : ∀ (q : Addr) (H' : Hp) (s' : Shared) (pm cdv ct : Value), Inv X pins σ H' s' → Grown Pl H H' → LamAt H' Pl lpos (X.env.qual ++ "<lambda>") → s'.heap.get? q = some { cls := .type "function", data := .func (kla_fn "<lambda>" (X.env.qual ++ "<lambda>") (lamArgs apos) (lamBody p1 p2 p3) lamScope [] pm cdv ct) } →
      s'.heap.CodeRec cdv (X.env.qual ++ "<lambda>") → Q (.ref q) s') :
    wpAny (model X.prog X.w) A (eval (.Lambda (lamArgs apos) (lamBody p1 p2 p3) lamScope lpos) X.env) Q E s := by
  rw [arm_eval_Lambda]
  refine wpAny_bind (m := evalAll []) (wpAny_evalAll_nil (wpAny_bind (wpAny_holding (m := evalAllOpt []) (wpAny_of_eq (a := []) rfl ?_))))
  have hcl : closureFor lamScope X.env = pure [] := rfl
  have hg := I.mod.glob.keeps I.bk
  have CH := codeHd_of_K I.kIn C
  have tab : ∀ ps, H Pl = some (.tbl ps) → s.heap.get? Pl = some (tabObj ps) := fun ps e => I.hok Pl _ e
  have bmAt : ∀ ps, s.heap.get? Pl = some (tabObj ps) → s.heap.BuiltinsAt X.mg Pl ∧ mainGlobals ≠ Pl := fun ps e => by
    obtain ⟨bm, ob, b1, b2, b3, b4, b5, b6⟩ := hBm
    have b3' := I.bk _ _ b3
    have hmg : mainGlobals ≠ Pl := fun z => by
      obtain ⟨o, es, ep, y, hd, _⟩ := hg
      rw [z, e] at y; cases y; cases hd
    refine ⟨⟨bm, ob, b1, b2, fun z => ?_, (fun z => by rw [z, e] at b3'; cases b3'; cases b4), b3', b4, b5, b6⟩, hmg⟩
    obtain ⟨o, es, ep, y, hd, _⟩ := hg
    rw [← z, b3'] at y; cases y
    rw [b6] at hd; cases hd
  rcases hL with e | ⟨c', e, ec⟩
  · have hP := tab _ e
    obtain ⟨hb, hgP⟩ := bmAt _ hP
    refine kla_makeFunction (clos := []) hcl I.ok.glob hg hcode CH hP trivial rfl hgP hb fun c' ctv h' tk hx hge hlt hrec hT => ?_
    have I1 := I.table (t' := tk) (h' := h') (qual := X.env.qual ++ "<lambda>") (lpos := lpos) e (fun b o hb' y => hx b o hb' y) hT hge hrec
    have hcn : H c' = none := I.hok.fresh hge
    have hcP : c' ≠ Pl := fun z => by rw [z, e] at hcn; cases hcn
    refine h _ _ _ ((X.mg "__name__").getD .none) (.ref c') ctv (I1.kept (t' := tk) fun b o y => Heap.get?_push_of_some _ y) (fun b o h1 y => by rw [upd_ne (ne_of_none y hcn), upd_ne h1]; exact y) (.inr ⟨c', by rw [upd_ne hcP.symm, upd_same]; rfl, upd_same⟩) (Heap.get?_push_size _ rfl) (hrec.push _)
  · have hP := tab _ e
    obtain ⟨hb, hgP⟩ := bmAt _ hP
    have hrec : s.heap.CodeRec (.ref c') (X.env.qual ++ "<lambda>") := (I.hok c' _ ec).1
    refine kla_makeFunctionHit (clos := []) (cv := .ref c') hcl I.ok.glob hg hcode CH hP trivial (by simp [codeAmong, rawInt]) hb fun ctv h' tk hk hz => ?_
    exact h _ _ _ ((X.mg "__name__").getD .none) (.ref c') ctv ((I.kept (h' := h') (t' := tk) hk).kept (t' := tk) fun b o y => Heap.get?_push_of_some _ y) (fun b o _ y => y) (.inr ⟨c', e, ec⟩) (Heap.get?_push_size _ rfl) ((hrec.keeps hk).push _)
end
def tSort (Pl : Addr) (lpos : Pos) (qual : Str) (te : TE) : TE := fun σ H Q => te σ H fun x H1 => ∃ (l : Addr) (ts : List Addr) (ks : List Str), [x] = [.ref l] ∧ H1 l = some (.lst (ts.map V.ref)) ∧ ts.length < 64 ∧ ks.length = ts.length ∧
  (∀ (i : Nat) (t : Addr) (k : Str), ts[i]? = some t → ks[i]? = some k → ∃ vs, H1 t = some (.tup (.str k :: vs))) ∧ LamAt H1 Pl lpos qual ∧
  ∀ (H2 : Hp) (r : Addr) (ts' : List Addr), Grown Pl H1 H2 → LamAt H2 Pl lpos qual → H2 r = none → OutT ks ts ts' → Q (.ref r) (upd H2 r (.lst (ts'.map V.ref)))
section
variable {X : Cx}
theorem pe_sortF {k : Nat} {e : Expr} {te : TE} {apos p1 p2 p3 lpos kpos p pos : Pos} {c Pl : Addr} (hg : Gl X "sorted") (hm : X.mg "sorted" = none) (he : PE X e te) (hr : Room k X.A) (hcode : X.env.code = .ref c) (C : codeHdIn X.K c Pl = true) (hBm : BmAt X.base X.mg)
    (hs : starEach [e] X.env = [(false, eval e X.env)] := by rfl) : PE X (.Call (.Name "sorted" p) [e] [⟨some "key", .Lambda (lamArgs apos) (lamBody p1 p2 p3) lamScope lpos, kpos⟩] pos) (tSort Pl lpos (X.env.qual ++ "<lambda>") te) := by
  intro pins s σ H Q I h
  have ha : PA X [e] (tCons te tNil) := pa_cons he pa_nil hs
  refine wpAny_Call_Name_kw (ld_blt I hg hm boot_sorted (callWith_kw ?_ (by rw [hs]; rfl) (by rw [hs]; rfl) rfl rfl))
  refine thn (ha pos pins s σ H (fun xs H1 => ∃ (l : Addr) (ts : List Addr) (ks : List Str), xs = [V.ref l] ∧ H1 l = some (.lst (ts.map V.ref)) ∧ ts.length < 64 ∧ ks.length = ts.length ∧
    (∀ (i : Nat) (t : Addr) (k : Str), ts[i]? = some t → ks[i]? = some k → ∃ vs, H1 t = some (.tup (.str k :: vs))) ∧ LamAt H1 Pl lpos (X.env.qual ++ "<lambda>") ∧
    ∀ (H2 : Hp) (r : Addr) (ts' : List Addr), Grown Pl H1 H2 → LamAt H2 Pl lpos (X.env.qual ++ "<lambda>") → H2 r = none → OutT ks ts ts' → Q (.ref r) (upd H2 r (.lst (ts'.map V.ref)))) I h) fun us s1 ⟨vs, H1, I1, r1, q1⟩ => ?_
  obtain ⟨l, ts, ks, rfl, el, h64, hlen, htup, hL, q⟩ := q1
  obtain ⟨u, rfl, ru⟩ := vals1 r1
  cases ru
  refine kws_cons (lam_make I1 hcode C hBm hL fun fq H2 s2 pm cdv ct I2 gr hL2 hfo hrec => kws_nil ?_)
  have nl : l ≠ Pl := fun z => by
    rw [z] at el
    rcases hL with y | ⟨_, y, _⟩ <;> (rw [el] at y; cases y)
  have el2 := gr l _ nl el
  obtain ⟨its, rv, pl, hz⟩ := I2.list (SqL.of el2)
  have hits := un_ref rv
  subst hits
  have tupAt : ∀ (i : Nat) (t : Addr) (k : Str), ts[i]? = some t → ks[i]? = some k → ∃ its' : Array Value, IsTup s2.heap t its' ∧ ∃ tk, its'[0]? = some (.str k tk) := fun i t k h1 h2 => by
    obtain ⟨vs, ev⟩ := htup i t k h1 h2
    have nt : t ≠ Pl := fun z => by
      rw [z] at ev
      rcases hL with y | ⟨_, y, _⟩ <;> (rw [ev] at y; cases y)
    obtain ⟨_, itv, rv', pt⟩ := (show ObjOk X.prog X.w H2 s2.heap t (.tup (.str k :: vs)) from I2.hok t _ (gr t _ nt ev))
    cases rv' with
    | cons r rr =>
      obtain ⟨tk, e⟩ := r
      exact ⟨_, pt, tk, by rw [e]; rfl⟩
  refine sortedS (vs := ts.map Value.ref) (ks := ks) pl.isList (by rw [List.length_map]; exact hlen) (by rw [List.length_map]; exact h64) (fun x => ksk_t1 fq x) (fun h1 tk1 k1 z1 => ?_) fun h' tk out cc k3 a3 o3 => ?_
  · intro i v k hv hk h2 tk2 k2 z2 Q' hQ'
    rw [List.getElem?_map] at hv
    cases ht : ts[i]? with
    | none => rw [ht] at hv; cases hv
    | some t =>
      rw [ht] at hv
      cases (show some (Value.ref t) = some v from hv)
      obtain ⟨its', pt, tk', e0⟩ := tupAt i t k ht hk
      have kp : ∀ b o, s2.heap.get? b = some o → h2.get? b = some o := fun b o y => k2 b o (Nat.ne_of_lt (Nat.lt_succ_of_lt (Heap.lt_size y))) (k1 b o y)
      have pt2 : IsTup h2 t its' := by
        obtain ⟨o, eo, r⟩ := pt
        exact ⟨o, kp _ _ eo, r⟩
      exact lam_call (s := { s2 with heap := h2, toks := tk2 }) (kp _ _ hfo) (hrec.keeps kp) (I2.nolimit.keeps kp) (show X.A.depth < recursionLimit by have := hr.dp; omega) pt2 e0 fun h3 tk3 k3 z3 => hQ' h3 tk3 tk' k3 z3
  · obtain ⟨ts', hout, hT⟩ := outT_of o3
    have rv2 : Vals (ts'.map V.ref) out.toList := by
      rw [hout]
      clear hout hT o3
      induction ts' with
      | nil => exact .nil
      | cons t r ih => exact .cons rfl ih
    have hl2 : (ts'.map V.ref).length ≤ sizeLine := by
      obtain ⟨ps, hp, e, _⟩ := hT
      have := hp.length_eq
      rw [List.length_zip] at this
      rw [List.length_map, e, List.length_map, this]
      exact len1 (by omega)
    exact ⟨.ref _, _, I2.laid (t' := tk) k3 (Nat.le_succ _) (show ObjOk X.prog X.w _ h' _ (.lst (ts'.map V.ref)) from ⟨hl2, out.toList, cc, rv2, by rw [Array.toArray_toList]; exact a3⟩), rfl, q H2 _ ts' gr hL2 (I2.hok.fresh (Nat.le_succ _)) hT⟩
end
end L2
set_option maxHeartbeats 4000000
namespace L2
open PySem PySem.W PySem.Spec PyProof.Rows
theorem miss_tuple_keys : typeLookup (.type "tuple") "keys" = pure none := am_miss_of_fast (by decide +kernel)
section
variable {prog : Program} {w : World} {A : Around} {E : Value → Shared → Prop} {s : Shared}
theorem keys_miss {a : Addr} {xs : Array Value} {k : Nat} {sl : Array (Option Value)} {Q : Option Value → Shared → Prop} (hx : s.heap.get? a = some { cls := .type "tuple", dict := none, data := .seq xs k, slots := sl }) (hA : A.handled = none)
    (h : ∀ h' tk, (∀ b o, s.heap.get? b = some o → h'.get? b = some o) → Q none { s with heap := h', toks := tk }) : wpAny (model prog w) A (getAttr? (.ref a) "keys") Q E s := by
  obtain ⟨hp, g, d, tk, os⟩ := s
  have hT : ∀ tk', (⟨hp, g, d, tk', os⟩ : Shared).TypeIs (.ref a) "tuple" := fun _ => ⟨_, hx, rfl⟩
  have f1 := sub_AttributeError
  have f3 := F.slot_tuple_getattribute.lookup
  have f4 := F.slot_tuple_getattribute.bind (.ref a)
  have f5 := am_tuple_getattr_none
  unfold getAttr? getAttrBy? getAttrBy
  repeat (any_goals first | assumption | exact hT _ | ((with_reducible show wpAny _ _ (call (Value.builtin "tuple.__getattribute__") _ _) _ _ _); refine call_meets F.slot_tuple_getattribute (hT _) am_entry_tuple_getattribute (F.args_tuple_getattribute_2 _ _) (meets_getattribute_miss_tuple a xs k sl "keys" _ miss_tuple_keys (by decide) (by decide)) ⟨hx, hA, fun h' tk' e hx' => ?_⟩) | wp_step)
  obtain ⟨t', u', he⟩ := hx'.there
  show wpAny _ _ (getattributeRaised _ _ _ _ _ _ _) _ _ _
  unfold getattributeRaised
  repeat (any_goals first | assumption | wp_step)
  all_goals exact h _ _ hx'.keeps
theorem entry_upd_loop : entryFor table "dict.update.loop" = some Builtin.«dict.update.loop» := entryFor_of_tree (by kernel_rfl)
theorem plain_upd_loop : plainId "dict.update.loop" = true := by decide +kernel
end
section
variable {prog : Program} {w : World} {A : Around} {R : Result → Shared → Prop}
def PairAt (prog : Program) (w : World) (h : Heap) (v : Value) (p : Key × Value) : Prop := ∃ tt key, v = .ref tt ∧ IsTup h tt #[key, p.2] ∧ (mixKind prog w).is p.1 key = true
theorem PairAt.keep {h h' : Heap} {v : Value} {p : Key × Value} (x : PairAt prog w h v p) (k : ∀ b o, h.get? b = some o → h'.get? b = some o) : PairAt prog w h' v p := by
  obtain ⟨tt, key, e, ⟨o, eo, r⟩, z⟩ := x
  exact ⟨tt, key, e, ⟨o, k _ _ eo, r⟩, z⟩
theorem PairAt.but {h h' : Heap} {v : Value} {p : Key × Value} {d : Addr} {o : Obj} (x : PairAt prog w h v p) (hd : h.get? d = some o) (hc : o.cls ≠ .type "tuple") (k : ∀ b o, b ≠ d → h.get? b = some o → h'.get? b = some o) : PairAt prog w h' v p := by
  obtain ⟨tt, key, e, ⟨ot, eo, c, r⟩, z⟩ := x
  refine ⟨tt, key, e, ⟨ot, k _ _ (fun y => ?_) eo, c, r⟩, z⟩
  rw [y, hd] at eo
  cases eo
  exact hc c
theorem upd_turn {d I t : Addr} {its : Array Value} (ps : List (Key × Value)) (hlen : ps.length = its.size) (hnd : (ps.map (·.1)).Nodup) (hsz : ps.length ≤ sizeLine) (hh : A.handled = none) (hIt : I ≠ t) (hId : I ≠ d) :
    ∀ (k i : Nat) (s : Shared) (n : Int) (tk : Tok), ps.length - i = k → i ≤ ps.length → s.heap.IsTupleIter I t i → s.heap.IsTuple t its → (∀ (j : Nat) (v : Value) (p : Key × Value), its[j]? = some v → ps[j]? = some p → PairAt prog w s.heap v p) → s.heap.DictOf (mixKind prog w) d (ps.take i) →
    (∀ h' tk', (∀ b o, b ≠ I → b ≠ d → s.heap.get? b = some o → h'.get? b = some o) → h'.DictOf (mixKind prog w) d ps → R (.ok (.ret .none)) { s with heap := h', toks := tk' }) →
    codeAny (model prog w) A (.builtin "dict.update.loop" ⟨[.ref d, .ref I, .int n tk, .none], []⟩) R s := by
  have W := Walks.tuple (prog := prog) (w := w) (A := A.in1) hh I t hIt.symm its
  intro k
  induction k with
  | zero =>
    intro i s n tk hk hi hit htp hpr hd hR
    have hin : i = its.size := by omega
    refine codeAny_builtin entry_upd_loop ?_
    rw [Around.under_plainId plain_upd_loop _]
    show wpAny _ A.in1 (pyNext (.ref I) >>= _) _ _ s
    refine wpAny_bind (W.done s _ _ ⟨by rw [← hin]; exact hit, htp⟩ fun h' tk' kk => ?_)
    show wpAny _ _ (Builtin.Dict.addKeywords d [] >>= _) _ _ _
    refine wpAny_bind (wpAny_pure (wpAny_pure (hR h' tk' (fun b o h1 _ y => kk b o (by simpa using h1) y) ?_)))
    rw [List.take_of_length_le (by omega)] at hd
    obtain ⟨o, es, ep, eo, r⟩ := hd
    exact ⟨o, es, ep, kk d o (by simpa using hId.symm) eo, r⟩
  | succ k ih =>
    intro i s n tk hk hi hit htp hpr hd hR
    have hlt : i < its.size := by omega
    refine codeAny_builtin entry_upd_loop ?_
    rw [Around.under_plainId plain_upd_loop _]
    show wpAny _ A.in1 (pyNext (.ref I) >>= _) _ _ s
    refine wpAny_bind (W.item i s _ _ hlt ⟨hit, htp⟩ fun v h1 tk1 hv st1 kk => ?_)
    obtain ⟨hit1, htp1⟩ := st1
    have hI0 : ∃ o, s.heap.get? I = some o ∧ o.cls ≠ .type "tuple" := by
      obtain ⟨o, eo, c, _⟩ := hit
      exact ⟨o, eo, by rw [c]; decide⟩
    have hpr1 : ∀ (j : Nat) (v : Value) (p : Key × Value), its[j]? = some v → ps[j]? = some p → PairAt prog w h1 v p := fun j v p a b => by
      obtain ⟨o, eo, c⟩ := hI0
      exact (hpr j v p a b).but eo c fun b o hb y => kk b o (by simpa using hb) y
    obtain ⟨p, hp⟩ : ∃ p, ps[i]? = some p := ⟨_, List.getElem?_eq_getElem (by omega)⟩
    have hv' : its[i]? = some v := hv
    obtain ⟨tt, key, rfl, ⟨ot, eo, oc, on, od⟩, hkey⟩ := hpr1 i v p hv' hp
    have hd1 : h1.DictOf (mixKind prog w) d (ps.take i) := by
      obtain ⟨o, es, ep, eo, r⟩ := hd
      exact ⟨o, es, ep, kk d o (by simpa using hId.symm) eo, r⟩
    have hT : Shared.TypeIs { s with heap := h1, toks := tk1 } (.ref tt) "tuple" := ⟨ot, eo, oc⟩
    have hnew : stored (ps.take i) p.1 p.2 = ps.take (i + 1) := by
      have hni : p.1 ∉ (ps.take i).map (·.1) := fun z => by
        have e1 : (ps.map (·.1)) = (ps.take i).map (·.1) ++ (ps.drop i).map (·.1) := by rw [← List.map_append, List.take_append_drop]
        rw [e1, List.nodup_append] at hnd
        refine hnd.2.2 _ z _ (List.mem_map.mpr ⟨p, ?_, rfl⟩) rfl
        exact List.mem_of_getElem? (i := 0) (by rw [List.getElem?_drop]; simpa using hp)
      unfold stored
      rw [if_neg, List.take_add_one, hp]
      · rfl
      · intro z
        obtain ⟨q, hq, e⟩ := List.any_eq_true.mp z
        exact hni (List.mem_map.mpr ⟨q, hq, by simpa using e⟩)
    show wpAny _ A.in1 (holding [.ref tt] _ >>= _) _ _ _
    refine wpAny_bind (wpAny_holding ?_)
    refine wpAny_bind (wpAny_tryCatch ?_)
    unfold Builtin.Dict.pairItems
    refine wpAny_bind (wpAny_typeOf hT ?_)
    rw [if_pos (by decide)]
    refine wpAny_bind (wpAny_seqItems eo od (wpAny_pure ?_))
    show wpAny _ _ (holding [key, p.2] (dictSet d key p.2)) _ _ _
    refine wpAny_holding (wpAny_dictSet_pairs hkey hd1 (fun h2 hd2 hs2 => ?_) (Nat.le_trans (by rw [List.length_take]; omega) hsz))
    rw [hnew] at hd2
    refine wpAny_pure ⟨plainId_quiet plain_upd_loop _, ih (i + 1) _ (n + 1) _ (by omega) (by omega) ?_ ?_ ?_ hd2 ?_⟩
    · obtain ⟨o, eo', r⟩ := hit1
      exact ⟨o, (hs2.2 I hId).trans eo', r⟩
    · obtain ⟨o, eo', r⟩ := htp1
      refine ⟨o, (hs2.2 t (fun z => ?_)).trans eo', r⟩
      obtain ⟨o', es, ep, eo2, c2, _⟩ := hd1
      rw [z, eo2] at eo'
      cases eo'
      rw [c2.1] at r
      exact absurd r.1 (by decide)
    · intro j v p a b
      obtain ⟨o', es, ep, eo2, c2, _⟩ := hd1
      exact (hpr1 j v p a b).but eo2 (by rw [c2.1]; decide) fun b o hb y => (hs2.2 b hb).trans y
    · intro h3 tk3 k3 hd3
      exact hR h3 tk3 (fun b o h4 h5 y => k3 b o h4 h5 ((hs2.2 b h5).trans (kk b o (by simpa using h4) y))) hd3
end
section
variable {prog : Program} {w : World} {A : Around} {E : Value → Shared → Prop} {s : Shared}
theorem call_dict_tup {t : Addr} {its : Array Value} {Q : Value → Shared → Prop} (ps : List (Key × Value)) (ht : IsTup s.heap t its) (hnd0 : ∃ o, s.heap.get? t = some o ∧ o.dict = none) (hlen : ps.length = its.size) (hnd : (ps.map (·.1)).Nodup) (hsz : ps.length ≤ sizeLine) (hh : A.handled = none)
    (hpr : ∀ (j : Nat) (v : Value) (p : Key × Value), its[j]? = some v → ps[j]? = some p → PairAt prog w s.heap v p)
    (h : ∀ h' tk', (∀ b o, s.heap.get? b = some o → h'.get? b = some o) → h'.DictOf (mixKind prog w) s.heap.objs.size ps → Q (.ref s.heap.objs.size) { s with heap := h', toks := tk' }) :
    wpAny (model prog w) A (call (.type "dict") [.ref t]) Q E s := by
  refine callType_codes (Q₁ := fun obj s₁ => obj = .ref s.heap.objs.size ∧ s₁ = { s with heap := s.heap.push { cls := .type "dict", data := .dict #[] } }) F.kt_called_dict (F.kt_typeCall_dict_1 _) F.entry_dict_init (kt_code_dict_new _ ⟨rfl, rfl⟩) ?_
  rintro obj s₁ ⟨rfl, rfl⟩
  have hnew : (s.heap.push { cls := .type "dict", data := .dict #[] }).DictOf (mixKind prog w) s.heap.objs.size [] := Heap.DictOf.new s.heap
  have tlt : t < s.heap.objs.size := by obtain ⟨o, eo, _⟩ := ht; exact Heap.lt_size eo
  obtain ⟨ot, eot, oct, on, odt⟩ := id ht
  obtain ⟨o2, eo2, hdict⟩ := hnd0
  rw [eot] at eo2
  cases eo2
  refine ⟨hnew.typeIs, F.args_dict_init_2 _ _, ?_⟩
  unfold Builtin.«dict.__init__»
  refine wpAny_bind ?_
  unfold Builtin.Dict.selfAndRest
  refine wpAny_bind (wpAny_notOrdered_dict hnew.typeIs ?_)
  show wpAny _ _ (pure (s.heap.objs.size, [Value.ref t])) _ _ _
  refine wpAny_pure ?_
  show wpAny _ _ (Builtin.Dict.updateFrom "dict.__init__" s.heap.objs.size (.ref t) [] .none) _ _ _
  unfold Builtin.Dict.updateFrom
  have hT : Shared.TypeIs { s with heap := s.heap.push { cls := .type "dict", data := .dict #[] } } (.ref t) "tuple" := ⟨ot, Heap.get?_push_of_some _ eot, oct⟩
  refine wpAny_bind (wpAny_typeOf hT ?_)
  rw [if_pos (by decide)]
  obtain ⟨c0, d0, dt0, sl0⟩ := ot
  have e1 : c0 = .type "tuple" := oct
  have e2 : d0 = none := hdict
  have e3 : dt0 = .seq its on := odt
  subst e1 e2 e3
  refine wpAny_bind (keys_miss (s := { s with heap := s.heap.push { cls := .type "dict", data := .dict #[] } }) (Heap.get?_push_of_some _ eot) hh fun h1 tk1 k1 => ?_)
  rw [if_pos (show (none : Option Value).isNone = true from rfl)]
  have et1 := k1 _ _ (Heap.get?_push_of_some { cls := .type "dict", data := .dict #[] } eot)
  have hd1 : h1.DictOf (mixKind prog w) s.heap.objs.size [] := by
    obtain ⟨o, es, ep, eo, r⟩ := hnew
    exact ⟨o, es, ep, k1 _ _ eo, r⟩
  have dlt : s.heap.objs.size < h1.objs.size := by obtain ⟨o, es, ep, eo, r⟩ := hd1; exact Heap.lt_size eo
  refine wpAny_bind (wpAny_rule (wpAny_bind (wpAny_pyIter_tuple (items := its) ⟨_, et1, rfl, on, rfl⟩ ?_)))
  refine wpAny_pure ⟨plainId_quiet plain_upd_loop _, upd_turn (A := A.in1) ps hlen hnd hsz hh (Nat.ne_of_gt (Heap.lt_size et1)) (Nat.ne_of_gt dlt) ps.length 0 _ 0 _ (by omega) (Nat.zero_le _) ⟨_, Heap.get?_push_size _ rfl, rfl, rfl⟩ ⟨_, Heap.get?_push_of_some _ et1, rfl, on, rfl⟩ ?_ ?_ ?_⟩
  · intro j v p a b
    exact (hpr j v p a b).keep fun b o y => Heap.get?_push_of_some _ (k1 _ _ (Heap.get?_push_of_some _ y))
  · obtain ⟨o, es, ep, eo, r⟩ := hd1
    exact ⟨o, es, ep, Heap.get?_push_of_some _ eo, r⟩
  · intro h' tk' k3 hd3
    refine ⟨rfl, h h' tk' (fun b o y => ?_) hd3⟩
    have y1 := k1 _ _ (Heap.get?_push_of_some { cls := .type "dict", data := .dict #[] } y)
    exact k3 b o (Nat.ne_of_lt (Heap.lt_size y1)) (Nat.ne_of_lt (Heap.lt_size y)) (Heap.get?_push_of_some _ y1)
end
section
variable {X : Cx}
theorem call_dict_pairs (hc : X.calm = true) : CallR X (.type "dict") (fun xs H Q => ∃ (t : Addr) (ts : List Addr) (kvs : List (Str × V)), xs = [.ref t] ∧ (∃ o, H t = some (.frz o (.tup (ts.map V.ref))) ∧ o.dict = none) ∧ ts.length = kvs.length ∧ kvs.length ≤ 1000 ∧
    (∀ (i : Nat) (a : Addr) (p : Str × V), ts[i]? = some a → kvs[i]? = some p → H a = some (.tup [.str p.1, p.2])) ∧ (kvs.map (·.1)).Nodup ∧ ∀ d, H d = none → Q (.ref d) (upd H d (.dK (kvs.map fun p => (Sum.inr p.1, p.2))))) := by
  intro pins s σ H xs us Q I r h
  obtain ⟨t, ts, kvs, rfl, ⟨ot0, hq0, hdn⟩, hlen, hsz, hp, hnd, q⟩ := h
  have hq : SqT X.K H t (ts.map V.ref) := .inl (.inr ⟨ot0, hq0⟩)
  have eo0 := (I.hok t _ hq0).1
  obtain ⟨u, rfl, ru⟩ := vals1 r
  cases ru
  obtain ⟨its, rv, pt, hz⟩ := I.tuple hq
  have hits := un_ref rv
  subst hits
  have build : ∀ (kvs : List (Str × V)) (ts : List Addr), ts.length = kvs.length → (∀ (i : Nat) (a : Addr) (p : Str × V), ts[i]? = some a → kvs[i]? = some p → H a = some (.tup [.str p.1, p.2])) →
      ∃ ps : List (Key × Value), KV (kvs.map fun p => ((Sum.inr p.1 : Key), p.2)) ps ∧ ps.length = kvs.length ∧ ps.map (·.1) = kvs.map (fun p => (Sum.inr p.1 : Key)) ∧ ∀ (j : Nat) (v : Value) (p : Key × Value), (ts.map Value.ref)[j]? = some v → ps[j]? = some p → PairAt X.prog X.w s.heap v p := by
    intro kvs
    induction kvs with
    | nil => intro ts _ _; exact ⟨[], .nil, rfl, rfl, fun j v p _ e => by simp at e⟩
    | cons kv r ih =>
      intro ts hl hh
      cases ts with
      | nil => simp at hl
      | cons a ar =>
        obtain ⟨ps, k1, k2, k3, k4⟩ := ih ar (by simpa using hl) fun i b p e1 e2 => hh (i + 1) b p (by simpa using e1) (by simpa using e2)
        obtain ⟨_, itv, rv', pa⟩ := (show ObjOk X.prog X.w H s.heap a (.tup [.str kv.1, kv.2]) from I.hok a _ (hh 0 a kv rfl rfl))
        cases rv' with
        | cons r1 rr =>
          cases rr with
          | cons r2 rr =>
            cases rr
            obtain ⟨tk, e⟩ := r1
            subst e
            rename_i u2
            refine ⟨(Sum.inr kv.1, u2) :: ps, .cons ⟨rfl, r2⟩ k1, by rw [List.length_cons, List.length_cons, k2], by rw [List.map_cons, List.map_cons, k3], fun j v p e1 e2 => ?_⟩
            cases j with
            | zero =>
              cases (show some (Value.ref a) = some v from e1)
              cases (show some ((Sum.inr kv.1 : Key), u2) = some p from e2)
              exact ⟨a, .str kv.1 tk, rfl, pa, mixKind_str _ _ _ _⟩
            | succ j => exact k4 j v p (by simpa using e1) (by simpa using e2)
  obtain ⟨ps, k1, k2, k3, k4⟩ := build kvs ts hlen hp
  have hnd2 : (ps.map (·.1)).Nodup := by
    rw [k3]
    have : kvs.map (fun p => (Sum.inr p.1 : Key)) = (kvs.map (·.1)).map Sum.inr := by rw [List.map_map]; rfl
    rw [this]
    rw [List.Nodup, List.pairwise_map]
    exact hnd.imp fun h e => h (by cases e; rfl)
  refine call_dict_tup ps pt ⟨ot0, eo0, hdn⟩ (by rw [k2, List.size_toArray, List.length_map, hlen]) hnd2 (by rw [k2]; exact len1 hsz) (I.ok.hd hc) (fun j v p e1 e2 => k4 j v p (by simpa using e1) e2) fun h' tk' kk hd => ?_
  have hbig := I.big
  refine ⟨.ref s.heap.objs.size, _, I.laid (t' := tk') kk (Nat.le_refl _) (show ObjOk X.prog X.w _ h' _ (.dK (kvs.map fun p => ((Sum.inr p.1 : Key), p.2))) from ⟨by rw [List.length_map]; exact len1 hsz, ?_, ps, k1, hd⟩), rfl, q _ (I.hok.fresh (Nat.le_refl _))⟩
  exact beq_eq_false_iff_ne.mpr (Nat.ne_of_gt hbig)
end
end L2
set_option maxHeartbeats 2000000
namespace L2
open PySem PySem.W PySem.Spec PyProof.Rows
section
variable {X : Cx} {pins : List (Addr × Obj)} {σ : List (Option V)} {H H' : Hp} {s : Shared} {h' : Heap}
theorem Inv.many {t' : Nat} (I : Inv X pins σ H s) (k : ∀ b u, s.heap.get? b = some u → h'.get? b = some u) (ext : Same H H') (new : ∀ b, b < s.heap.objs.size → H' b = H b) (hok : ∀ b o, s.heap.objs.size ≤ b → H' b = some o → ObjOk X.prog X.w H' h' b o) :
    Inv X pins σ H' { s with heap := h', toks := t' } := by
  refine I.step (g' := s.gens) (d' := s.drawn) (ch := []) (fun _ z => nomatch z) (fun b o _ _ _ e _ => k b o e) (fun b o _ _ _ e _ => ⟨o.slots, k b o e⟩) (fun b o _ e n => by rw [new b (Heap.lt_size e)]; exact n) (fun b o _ e => ⟨o, k b o e⟩)
    (fun b xs e => ext b _ e) (fun b o u e => ext b _ e) (fun b ps e => ⟨#[], by rw [ext b _ e]; simp⟩) (fun m hm => ?_) (fun b u e => ?_) I.bare
  · obtain ⟨o, es, ep, ho, r⟩ := hm
    exact ⟨o, es, ep, k _ o ho, r⟩
  · by_cases hb : b < s.heap.objs.size
    · rw [new b hb] at e
      exact (I.hok b u e).stay (fun c v _ y => k c v y) (fun c y => ext c _ y) fun c xs y => ext c _ y
    · exact hok b u (Nat.not_lt.mp hb) e
end
def ViewOf (v d : Addr) : Heap → Prop := fun h => h.IsItemsView v d
def layT (H : Hp) : List (Addr × Key × V) → Hp
  | [] => H
  | (a, k, v) :: r => upd (layT H r) a (.tup [kV k, v])
theorem layT_off {H : Hp} {b : Addr} : ∀ {l : List (Addr × Key × V)}, b ∉ l.map (·.1) → layT H l b = H b
  | [], _ => rfl
  | (a, k, v) :: r, h => by
    rw [List.map_cons, List.mem_cons, not_or] at h
    show upd (layT H r) a _ b = _
    rw [upd_ne h.1]; exact layT_off h.2
theorem layT_on {H : Hp} {a : Addr} {k : Key} {v : V} : ∀ {l : List (Addr × Key × V)}, (l.map (·.1)).Nodup → (a, k, v) ∈ l → layT H l a = some (.tup [kV k, v])
  | (b, k', v') :: r, hn, hm => by
    rw [List.map_cons, List.nodup_cons] at hn
    show upd (layT H r) b _ a = _
    rcases List.mem_cons.mp hm with e | hm
    · cases e; exact upd_same
    · rw [upd_ne (fun z : a = b => hn.1 (by show b ∈ _; rw [← z]; exact List.mem_map.mpr ⟨_, hm, rfl⟩))]
      exact layT_on hn.2 hm
theorem kv_get {kvs : List (Key × V)} {vs : List (Key × Value)} (r : KV kvs vs) : ∀ {j : Nat} {k : Key} {x : Value}, vs[j]? = some (k, x) → ∃ v, kvs[j]? = some (k, v) ∧ RelV v x := by
  induction r with
  | nil => intro j k x e; simp at e
  | cons h t ih =>
    intro j k x e
    cases j with
    | zero =>
      cases (show some _ = some (k, x) from e)
      rename_i a _ _
      refine ⟨a.2, ?_, h.2⟩
      have e1 : a.1 = k := h.1
      show some a = some (k, a.2)
      rw [← e1]
    | succ j => exact ih (by simpa using e)
section
variable {X : Cx}
theorem mt_items : MtR X "dict.items" (fun x xs H Q => ∃ d kvs, x = .ref d ∧ xs = [] ∧ H d = some (.dK kvs) ∧ ∀ v, H v = none → Q (.ref v) (upd H v (.ext (ViewOf v d)))) := by
  intro pins s σ H x xs v us Q I rx rv h
  obtain ⟨d, kvs, rfl, rfl, e, q⟩ := h
  cases rx
  cases rv
  obtain ⟨hz, lo, vs, kv, hd⟩ := dk_of I.hok e
  refine call_meetsIn PySem.F.slot_dict_items hd.typeIs PySem.F.entry_dict_items (PySem.F.args_dict_items_1 _) (meets_dict_items (mixKind X.prog X.w) d lo) ⟨⟨vs, hd⟩, ?_⟩
  refine ⟨.ref s.heap.objs.size, _, I.laid (t' := s.toks) (fun b o y => Heap.get?_push_of_some _ y) (Nat.le_refl _) (show ObjOk X.prog X.w _ _ _ (.ext (ViewOf s.heap.objs.size d)) from ⟨⟨_, Heap.get?_push_size _ rfl, rfl, rfl⟩, ⟨_, Heap.get?_push_size _ rfl⟩, ?_⟩), rfl, q _ (I.hok.fresh (Nat.le_refl _))⟩
  rintro h1 h2 ⟨o, eo, r⟩ k
  exact ⟨o, k _ eo, r⟩
theorem call_list_items (hc : X.calm = true) : CallR X (.type "list") (fun xs H Q => ∃ v d kvs, xs = [.ref v] ∧ H v = some (.ext (ViewOf v d)) ∧ H d = some (.dK kvs) ∧
    ∀ (l : Addr) (ts : List Addr) (H2 : Hp), H l = none → Same H H2 → ts.length = kvs.length → (∀ a ∈ ts, H a = none) → (∀ (i : Nat) (a : Addr) (p : Key × V), ts[i]? = some a → kvs[i]? = some p → H2 a = some (.tup [kV p.1, p.2])) → H2 l = some (.lst (ts.map V.ref)) → Q (.ref l) H2) := by
  intro pins s σ H xs us Q I r h
  obtain ⟨v, d, kvs, rfl, ev, ed, q⟩ := h
  obtain ⟨u, rfl, ru⟩ := vals1 r
  cases ru
  obtain ⟨hz, lo, vs, kv, o, es, ep, ho, r1, r2, r3, r4, r5⟩ := dk_of I.hok ed
  have hlen : vs.length = kvs.length := (Paired.length kv).symm
  refine kdx_call (knd := mixKind X.prog X.w) (kvs := vs) (ep := ep) (I.ok.hd hc) (I.hok v _ ev).1 ⟨o, es, ho, r1, r2, r3, r4, r5⟩ (by rw [hlen]; exact hz) fun h' tk acc c as hk hS hl hG hacc => ?_
  have hl2 : as.length = kvs.length := by rw [hl, hlen]
  have hnd : as.Nodup := hG.rise.imp fun h => Nat.ne_of_lt h
  generalize hL : as.zip (kvs.map fun p => p) = L
  have hm1 : L.map (·.1) = as := by
    rw [← hL, List.map_id']
    exact List.map_fst_zip (by omega)
  have at_j : ∀ (j : Nat) (a : Addr) (p : Key × V), as[j]? = some a → kvs[j]? = some p → (a, p.1, p.2) ∈ L := fun j a p e1 e2 => by
    rw [← hL, List.map_id']
    exact List.mem_of_getElem? (i := j) (by rw [List.getElem?_zip_eq_some]; exact ⟨e1, e2⟩)
  have above : ∀ a ∈ as, s.heap.objs.size < a := hG.above
  have hfr : ∀ b, s.heap.objs.size ≤ b → H b = none := fun b hb => I.hok.fresh hb
  have hnl : s.heap.objs.size ∉ L.map (·.1) := fun z => by rw [hm1] at z; exact absurd (above _ z) (Nat.lt_irrefl _)
  have offA : ∀ b, b < s.heap.objs.size → b ∉ L.map (·.1) := fun b hb z => by rw [hm1] at z; exact absurd (Nat.lt_trans (above _ z) hb) (Nat.lt_irrefl _)
  have key : ∀ b, b < s.heap.objs.size → upd (layT H L) s.heap.objs.size (.lst (as.map V.ref)) b = H b := fun b hb => by rw [upd_ne (Nat.ne_of_lt hb), layT_off (offA b hb)]
  have sm : Same H (upd (layT H L) s.heap.objs.size (.lst (as.map V.ref))) := fun b o e => by rw [key b (I.hok.lt e)]; exact e
  have tup_at : ∀ (j : Nat) (a : Addr) (p : Key × V), as[j]? = some a → kvs[j]? = some p → upd (layT H L) s.heap.objs.size (.lst (as.map V.ref)) a = some (.tup [kV p.1, p.2]) := fun j a p e1 e2 => by
    rw [upd_ne (Nat.ne_of_gt (above a (List.mem_of_getElem? e1)))]
    exact layT_on (by rw [hm1]; exact hnd) (at_j j a p e1 e2)
  have I2 : Inv X pins σ (upd (layT H L) s.heap.objs.size (.lst (as.map V.ref))) { s with heap := h', toks := tk } := by
    refine I.many hk sm key fun b o hb e => ?_
    by_cases h0 : b = s.heap.objs.size
    · subst h0
      rw [upd_same] at e
      cases e
      refine ⟨by rw [List.length_map, hl2]; exact hz, acc.toList, c, ?_, by rw [Array.toArray_toList]; exact hS⟩
      rw [hacc]
      clear hacc hl hG hl2 hnd hL hm1 at_j above hnl offA key sm tup_at
      induction as with
      | nil => exact .nil
      | cons a r ih => exact .cons rfl ih
    · rw [upd_ne h0] at e
      by_cases hm : b ∈ as
      · obtain ⟨j, hj⟩ := List.mem_iff_getElem?.mp hm
        obtain ⟨keyv, kk, x, e1, e2, e3⟩ := hG.pairs j b hj
        obtain ⟨vv, e4, rel⟩ := kv_get kv e1
        have e5 := tup_at j b (kk, vv) hj e4
        rw [upd_ne h0, e] at e5
        cases e5
        refine ⟨by show 2 ≤ sizeLine; decide, [keyv, x], .cons ?_ (.cons rel .nil), ⟨_, e3, rfl, _, rfl⟩⟩
        rw [mixKind_is] at e2
        rcases keyIs_shape e2 with ⟨i, tt, rfl, rfl⟩ | ⟨y, tt, rfl, rfl⟩
        · exact ⟨tt, rfl⟩
        · exact ⟨tt, rfl⟩
      · rw [layT_off (by rw [hm1]; exact hm), hfr b hb] at e
        cases e
  exact ⟨.ref s.heap.objs.size, _, I2, rfl, q _ as _ (hfr _ (Nat.le_refl _)) sm hl2 (fun a ha => hfr a (Nat.le_of_lt (above a ha))) tup_at upd_same⟩
theorem call_dict_copy : CallR X (.type "dict") (fun xs H Q => ∃ d kvs, xs = [.ref d] ∧ H d = some (.dK kvs) ∧ ∀ c, H c = none → Q (.ref c) (upd H c (.dK kvs))) := by
  intro pins s σ H xs us Q I r h
  obtain ⟨d, kvs, rfl, ed, q⟩ := h
  obtain ⟨u, rfl, ru⟩ := vals1 r
  cases ru
  obtain ⟨hz, lo, vs, kv, hd⟩ := dk_of I.hok ed
  have hlen : vs.length = kvs.length := (Paired.length kv).symm
  refine kt_call_dict (knd := mixKind X.prog X.w) lo hd (by rw [hlen]; exact hz) fun h' hd' hs' => ?_
  refine ⟨.ref s.heap.objs.size, _, I.laid (t' := s.toks) (fun b o y => (hs'.2 b (Nat.ne_of_lt (Heap.lt_size y))).trans (Heap.get?_push_of_some _ y)) (Nat.le_refl _) (show ObjOk X.prog X.w _ h' _ (.dK kvs) from ⟨hz, beq_eq_false_iff_ne.mpr (Nat.ne_of_gt I.big), vs, kv, hd'⟩), rfl, q _ (I.hok.fresh (Nat.le_refl _))⟩
def tNilF : TE := fun _ H Q => ∀ p o, H p = none → o.dict = none → Q (.ref p) (upd H p (.frz o (.tup [])))
theorem pe_nilF {x1 : Nat} {pos : Pos} : PE X (.Tuple [] x1 pos) tNilF := by
  intro pins s σ H Q I hq
  refine wpAny_Tuple_spliced (thn (pa_nil pos pins s σ H (fun xs H1 => xs = [] ∧ H1 = H) I ⟨rfl, rfl⟩) fun us s1 ⟨xs, H1, I1, r, e1, e2⟩ => ?_)
  subst e1 e2
  cases r
  refine ⟨Nat.zero_le _, ?_⟩
  have hf : H1 s1.heap.objs.size = none := I1.hok.fresh (Nat.le_refl _)
  exact ⟨.ref s1.heap.objs.size, _, I1.laid (t' := s1.toks) (o := .frz _ (.tup [])) (fun b u e => Heap.get?_push_of_some _ e) (Nat.le_refl _) ⟨Heap.get?_push_size _ rfl, Nat.zero_le _, [], .nil, ⟨_, Heap.get?_push_size _ rfl, rfl, _, rfl⟩⟩, rfl, hq _ _ hf rfl⟩
theorem call_tuple_listF : CallR X (.type "tuple") (fun xs H Q => ∃ p ys, xs = [.ref p] ∧ SqL X.K H p ys ∧ ∀ l o, H l = none → o.dict = none → Q (.ref l) (upd H l (.frz o (.tup ys)))) := by
  intro pins s σ H xs us Q I r h
  obtain ⟨p, ys, rfl, hq, q⟩ := h
  obtain ⟨u, rfl, rx⟩ := vals1 r
  cases rx
  obtain ⟨its, r', pl, hz⟩ := I.list hq
  have hlen := r'.length
  refine call_tuple_list pl.isList (fun h' kp => ?_) (by simp only [List.size_toArray] <;> omega)
  have I1 : Inv X pins σ H { s with heap := h' } := I.kept (t' := s.toks) kp
  have hg : (h'.push { cls := .type "tuple", data := .seq its.toArray }).get? h'.objs.size = some { cls := .type "tuple", data := .seq its.toArray } := Heap.get?_push_size _ rfl
  exact ⟨.ref h'.objs.size, _, I1.laid (t' := s.toks) (o := .frz { cls := .type "tuple", data := .seq its.toArray } (.tup ys)) (fun b o e => Heap.get?_push_of_some _ e) (Nat.le_refl _) ⟨hg, hz, its, r', ⟨_, hg, rfl, _, rfl⟩⟩, rfl, q _ _ (I1.hok.fresh (Nat.le_refl _)) rfl⟩
end
end L2
set_option maxHeartbeats 2000000
namespace L2
open PySem PySem.W PySem.Spec PyProof.Rows
structure FunC (K : PySem.W.Frag) (x qual : Str) (st : Stmt) (f : Addr) (fd : FuncData) (c Pl : Addr) : Prop where
  ex : ∃ (oc : Value) (od : Option Addr) (kV doc pm : Value) (an : Option Addr) (ct : Value) (osl : Array (Option Value)),
    fd = PySem.W.fnOf x qual (defArgs st) (defBody st) (defScope st) .none kV doc pm an (.ref c) ct ∧ K.lookup f = some ⟨oc, od, .func fd, osl⟩ ∧ PySem.W.codeIn K (.ref c) qual = true
  kp : PySem.W.keepIn K (.ref f) = true
  hd : codeHdIn K c Pl = true
section
variable {P : Program} {w : World} {K : PySem.W.Frag} {mg : Str → Option Value} {base : Heap}
theorem FunC.ok {x qual : Str} {st : Stmt} {f c Pl : Addr} {fd : FuncData} {N ps : List Str} {k : Nat} {sp : Sp} (F : FunC K x qual st f fd c Pl) (S : FnScope N ps (defScope st)) (len : ∀ vs H Q E, sp vs H Q E → vs.length = ps.length)
    (hbody : ∀ (A : Around) (outer : List Env) (s : Shared) (H : Hp) (vs : List V) (Q : VK) (E : XK), Room k (A.deeper (envOfC qual (defScope st) s.heap.objs.size f (.ref c))) → sp vs H Q E →
      ∃ t, PSs (cxOf CX0 P w K mg base N qual (defScope st) f (.ref c) A outer s H E).nox (defBody st) t ∧ t { nx := fun _ H' => Q .non H', rt := Q } (start N vs) H) : FnOk P w K mg base CX0 (k + 1) f fd ps sp := by
  obtain ⟨oc, od, kV, doc, pm, an, ct, osl, rfl, lk, hcd⟩ := F.ex
  refine fn_of lk hcd S len fun A outer s H vs Q E hr hsp => ?_
  obtain ⟨t, h, q⟩ := hbody A outer s H vs Q E hr hsp
  exact ⟨t, h.nox, q⟩
theorem FunC.fn {x qual : Str} {st : Stmt} {f c Pl : Addr} {fd : FuncData} (F : FunC K x qual st f fd c Pl) : Fun K x qual st f fd := by
  obtain ⟨oc, od, kV, doc, pm, an, ct, osl, e, lk, hcd⟩ := F.ex
  exact ⟨⟨oc, od, kV, doc, pm, an, .ref c, ct, osl, e, lk, hcd⟩, F.kp⟩
end
theorem ps_no {X : Cx} {st : Stmt} : PS X st (fun _ _ _ => False) := fun _ _ _ _ _ _ h => h.elim
structure TF (H H' : Hp) : Prop where
  tup : ∀ b xs, H b = some (.tup xs) → H' b = some (.tup xs)
  frz : ∀ b o u, H b = some (.frz o u) → H' b = some (.frz o u)
theorem TF.refl (H : Hp) : TF H H := ⟨fun _ _ h => h, fun _ _ _ h => h⟩
theorem TF.trans {H H1 H2 : Hp} (a : TF H H1) (b : TF H1 H2) : TF H H2 := ⟨fun x xs h => b.tup x xs (a.tup x xs h), fun x o u h => b.frz x o u (a.frz x o u h)⟩
theorem Same.tf {H H' : Hp} (h : Same H H') : TF H H' := ⟨fun b _ e => h b _ e, fun b _ _ e => h b _ e⟩
theorem Grown.tf {Pl : Addr} {H H' : Hp} {ps : Array Value} (h : Grown Pl H H') (e : H Pl = some (.tbl ps)) : TF H H' :=
  ⟨fun b _ y => h b _ (fun z => by rw [z, e] at y; cases y) y, fun b _ _ y => h b _ (fun z => by rw [z, e] at y; cases y) y⟩
theorem LamAt.tbl {H : Hp} {Pl : Addr} {lpos : Pos} {qual : Str} (h : LamAt H Pl lpos qual) : ∃ ps, H Pl = some (.tbl ps) := by
  rcases h with h | ⟨_, h, _⟩
  · exact ⟨_, h⟩
  · exact ⟨_, h⟩
theorem tf_lst {H : Hp} {l : Addr} {xs : List V} {o : HO} (h : H l = some (.lst xs)) : TF H (upd H l o) :=
  ⟨fun b _ y => by rw [upd_ne (fun z => by rw [z, h] at y; cases y)]; exact y, fun b _ _ y => by rw [upd_ne (fun z => by rw [z, h] at y; cases y)]; exact y⟩
theorem tf_dict {H : Hp} {l : Addr} {xs : List (Key × V)} {o : HO} (h : H l = some (.dK xs)) : TF H (upd H l o) :=
  ⟨fun b _ y => by rw [upd_ne (fun z => by rw [z, h] at y; cases y)]; exact y, fun b _ _ y => by rw [upd_ne (fun z => by rw [z, h] at y; cases y)]; exact y⟩
theorem SqT.tf {K : PySem.W.Frag} {H H' : Hp} {a : Addr} {xs : List V} (h : SqT K H a xs) (t : TF H H') : SqT K H' a xs := by
  rcases h with (h | ⟨o, h⟩) | h
  · exact .inl (.inl (t.tup _ _ h))
  · exact .inl (.inr ⟨o, t.frz _ _ _ h⟩)
  · exact .inr h
inductive Nd where
  | bare
  | leaf (m : Int) (ps : List (Str × V))
  | fork (qs : List Nat)
def Nd.parts : Nd → List Nat
  | .fork qs => qs
  | _ => []
def Nd.pairs : Nd → List (Str × V)
  | .leaf _ ps => ps
  | _ => []
def Nd.hasM (n : Int) : Nd → Bool
  | .leaf m _ => decide (m = n)
  | _ => false
def PairT (H : Hp) (ts : List Addr) (ps : List (Str × V)) : Prop := ts.length = ps.length ∧ ∀ (i : Nat) (a : Addr) (p : Str × V), ts[i]? = some a → ps[i]? = some p → H a = some (.tup [.str p.1, p.2])
def PairsAt (H : Hp) (t : Addr) (ps : List (Str × V)) : Prop := ∃ o ts, H t = some (.frz o (.tup (ts.map V.ref))) ∧ o.dict = none ∧ PairT H ts ps
def NodeAt (K : PySem.W.Frag) (H : Hp) (a : Addr) : Nd → Prop
  | .bare => SqT K H a [.str "bare"]
  | .leaf m ps => ∃ t, SqT K H a [.str "leaf", .int m, .ref t] ∧ PairsAt H t ps
  | .fork qs => ∃ t, SqT K H a [.str "fork", .ref t] ∧ SqT K H t (qs.map fun q : Nat => V.int (q : Int)) ∧ qs.length = 4
theorem PairT.tf {H H' : Hp} {ts : List Addr} {ps : List (Str × V)} (h : PairT H ts ps) (t : TF H H') : PairT H' ts ps := ⟨h.1, fun i a p e1 e2 => t.tup _ _ (h.2 i a p e1 e2)⟩
theorem PairsAt.tf {H H' : Hp} {t : Addr} {ps : List (Str × V)} (h : PairsAt H t ps) (f : TF H H') : PairsAt H' t ps := by
  obtain ⟨o, ts, e, d, p⟩ := h
  exact ⟨o, ts, f.frz _ _ _ e, d, p.tf f⟩
theorem NodeAt.tf {K : PySem.W.Frag} {H H' : Hp} {a : Addr} {n : Nd} (h : NodeAt K H a n) (f : TF H H') : NodeAt K H' a n := by
  cases n with
  | bare => exact SqT.tf h f
  | leaf m ps => obtain ⟨t, e, p⟩ := h; exact ⟨t, e.tf f, p.tf f⟩
  | fork qs => obtain ⟨t, e, p, l⟩ := h; exact ⟨t, e.tf f, p.tf f, l⟩
def spParts (K : PySem.W.Frag) : Sp := fun vs H Q _ => ∃ (a : Addr) (n : Nd), vs = [.ref a] ∧ NodeAt K H a n ∧ ∀ t H', Same H H' → SqT K H' t (n.parts.map fun q : Nat => V.int (q : Int)) → Q (.ref t) H'
def spPairs (K : PySem.W.Frag) : Sp := fun vs H Q _ => ∃ (a : Addr) (n : Nd), vs = [.ref a] ∧ NodeAt K H a n ∧ ∀ t H', Same H H' → PairsAt H' t n.pairs → Q (.ref t) H'
def spHasM (K : PySem.W.Frag) : Sp := fun vs H Q _ => ∃ (a : Addr) (n : Nd) (m : Int), vs = [.ref a, .int m] ∧ NodeAt K H a n ∧ Q (.bl (n.hasM m)) H
def spForkOf (K : PySem.W.Frag) : Sp := fun vs H Q _ => ∃ (l : Addr) (qs : List Nat), vs = [.ref l] ∧ H l = some (.lst (qs.map fun q : Nat => V.int (q : Int))) ∧ qs.length = 4 ∧ ∀ a H', Same H H' → NodeAt K H' a (.fork qs) → Q (.ref a) H'
end L2
set_option maxHeartbeats 1000000
namespace L2
open PySem
def mutO : HO → Bool
  | .tup _ => false
  | .frz _ _ => false
  | .own _ => false
  | .met _ _ => false
  | .rng _ _ => false
  | .ext _ => false
  | _ => true
def cut (H h : Hp) : Hp := fun b => match h b with
  | some o => if mutO o = true then none else H b
  | none => H b
def one (p : Addr) (o : HO) : Hp := fun b => if b = p then some o else none
theorem one_some {p b : Addr} {o u : HO} : one p o b = some u ↔ b = p ∧ o = u := by
  unfold one
  by_cases h : b = p
  · rw [if_pos h]; exact ⟨fun z => ⟨h, Option.some.inj z⟩, fun z => by rw [z.2]⟩
  · rw [if_neg h]; exact ⟨fun z => (by cases z), fun z => absurd z.1 h⟩
abbrev Res := Addr → Hp → Prop
abbrev Rs := List (Addr × Res)
def Sep : Rs → Hp → Prop
  | [], _ => True
  | (a, R) :: Δ, H => ∃ h, Same h H ∧ R a h ∧ Sep Δ (cut H h)
theorem cut_some {H h : Hp} {b : Addr} {o : HO} : cut H h b = some o ↔ H b = some o ∧ ∀ u, h b = some u → mutO u = false := by
  unfold cut
  cases e : h b with
  | none => exact ⟨fun z => ⟨z, fun u q => by cases q⟩, fun z => z.1⟩
  | some v =>
    cases m : mutO v with
    | true => show (if mutO v = true then none else H b) = some o ↔ _; rw [if_pos m]; exact ⟨fun z => (by cases z), fun z => (by have := z.2 v rfl; rw [m] at this; cases this)⟩
    | false => show (if mutO v = true then none else H b) = some o ↔ _; rw [if_neg (by rw [m]; decide)]; exact ⟨fun z => ⟨z, fun u q => (by cases q; exact m)⟩, fun z => z.1⟩
theorem cut_le {H h : Hp} : Same (cut H h) H := fun b o e => (cut_some.mp e).1
theorem cut_mono {H H' h : Hp} (s : Same H H') : Same (cut H h) (cut H' h) := fun b o e => let ⟨x, y⟩ := cut_some.mp e; cut_some.mpr ⟨s _ _ x, y⟩
theorem Sep.mono : ∀ {Δ : Rs} {H H' : Hp}, Sep Δ H → Same H H' → Sep Δ H'
  | [], _, _, _, _ => trivial
  | (_, _) :: _, _, _, ⟨h, l, r, S⟩, s => ⟨h, l.trans s, r, S.mono (cut_mono s)⟩
theorem Sep.swap {a b : Addr} {R T : Res} {Δ : Rs} {H : Hp} (S : Sep ((a, R) :: (b, T) :: Δ) H) : Sep ((b, T) :: (a, R) :: Δ) H := by
  obtain ⟨h, l, r, g, m, t, S⟩ := S
  refine ⟨g, m.trans cut_le, t, h, fun c o e => cut_some.mpr ⟨l _ _ e, fun u q => ?_⟩, r, S.mono fun c o e => ?_⟩
  · obtain ⟨q1, q2⟩ := cut_some.mp (m _ _ q)
    have e2 := l _ _ e
    rw [q1] at e2; cases e2
    exact q2 _ e
  · obtain ⟨e1, e2⟩ := cut_some.mp e
    obtain ⟨e3, e4⟩ := cut_some.mp e1
    exact cut_some.mpr ⟨cut_some.mpr ⟨e3, e2⟩, e4⟩
theorem Sep.tail {a : Addr} {R : Res} {Δ : Rs} {H : Hp} (S : Sep ((a, R) :: Δ) H) : Sep Δ H := by
  obtain ⟨h, l, r, S⟩ := S
  exact S.mono cut_le
class Pull (a : Addr) (Δ : Rs) (R : outParam Res) (Δ' : outParam Rs) : Prop where
  out : ∀ {H}, Sep Δ H → Sep ((a, R) :: Δ') H
instance (priority := 1000) Pull.here {a : Addr} {R : Res} {Δ : Rs} : Pull a ((a, R) :: Δ) R Δ := ⟨fun S => S⟩
instance (priority := 900) Pull.there {a b : Addr} {R T : Res} {Δ Δ' : Rs} [P : Pull a Δ R Δ'] : Pull a ((b, T) :: Δ) R ((b, T) :: Δ') :=
  ⟨fun S => by
    obtain ⟨h, l, r, S⟩ := S
    exact Sep.swap ⟨h, l, r, P.out S⟩⟩
theorem Sep.pull {Δ Δ' : Rs} {H : Hp} {R : Res} (S : Sep Δ H) (a : Addr) [P : Pull a Δ R Δ'] : Sep ((a, R) :: Δ') H := P.out S
theorem Sep.drop {Δ Δ' : Rs} {H : Hp} {R : Res} (S : Sep Δ H) (a : Addr) [P : Pull a Δ R Δ'] : Sep Δ' H := (P.out S).tail
class Up (R : Res) : Prop where
  up : ∀ {a : Addr} {H H' : Hp}, R a H → Same H H' → R a H'
theorem Sep.get {Δ Δ' : Rs} {H : Hp} {R : Res} (S : Sep Δ H) (a : Addr) [P : Pull a Δ R Δ'] [U : Up R] : R a H := by
  obtain ⟨h, l, r, _⟩ := P.out S
  exact U.up r l
def Pt (o : HO) : Res := fun a h => h a = some o
abbrev Lst (xs : List V) : Res := Pt (.lst xs)
abbrev Dic (kv : List (Key × V)) : Res := Pt (.dK kv)
abbrev Tup (xs : List V) : Res := Pt (.tup xs)
instance {o : HO} : Up (Pt o) := ⟨fun h s => s _ _ h⟩
theorem Sep.new {Δ : Rs} {H : Hp} (S : Sep Δ H) {p : Addr} (hp : H p = none) (o : HO) : Sep ((p, Pt o) :: Δ) (upd H p o) := by
  refine ⟨one p o, fun b u e => ?_, one_some.mpr ⟨rfl, rfl⟩, S.mono fun b u e => ?_⟩
  · obtain ⟨rfl, rfl⟩ := one_some.mp e; exact upd_same
  · have hb := ne_of_none e hp
    exact cut_some.mpr ⟨by rw [upd_ne hb]; exact e, fun v q => absurd (one_some.mp q).1 hb⟩
theorem Sep.made {Δ : Rs} {H H' : Hp} (S : Sep Δ H) (s : Same H H') {p : Addr} {o : HO} (hp : H p = none) (e : H' p = some o) : Sep ((p, Pt o) :: Δ) H' := by
  refine ⟨one p o, fun b u q => ?_, one_some.mpr ⟨rfl, rfl⟩, S.mono fun b u q => ?_⟩
  · obtain ⟨rfl, rfl⟩ := one_some.mp q; exact e
  · have hb := ne_of_none q hp
    exact cut_some.mpr ⟨s _ _ q, fun v q => absurd (one_some.mp q).1 hb⟩
theorem Sep.put {Δ Δ' : Rs} {H : Hp} {o : HO} (S : Sep Δ H) (a : Addr) (o' : HO) [P : Pull a Δ (Pt o) Δ'] (m : mutO o = true := by rfl) : Sep ((a, Pt o') :: Δ') (upd H a o') := by
  obtain ⟨h, l, r, S⟩ := P.out S
  refine ⟨one a o', fun b u q => ?_, one_some.mpr ⟨rfl, rfl⟩, S.mono fun b u q => ?_⟩
  · obtain ⟨rfl, rfl⟩ := one_some.mp q; exact upd_same
  · obtain ⟨q1, q2⟩ := cut_some.mp q
    have hb : b ≠ a := fun z => by
      have := q2 o (by rw [z]; exact r)
      rw [m] at this; cases this
    exact cut_some.mpr ⟨by rw [upd_ne hb]; exact q1, fun v q => absurd (one_some.mp q).1 hb⟩
theorem Sep.say {Δ Δ' : Rs} {H : Hp} {R : Res} (S : Sep Δ H) (a : Addr) (T : Res) [P : Pull a Δ R Δ'] (f : ∀ h, R a h → T a h) : Sep ((a, T) :: Δ') H := by
  obtain ⟨h, l, r, S⟩ := P.out S
  exact ⟨h, l, f h r, S⟩
theorem Sep.open {Δ Δ' : Rs} {H : Hp} {R : Res} {G : Prop} (S : Sep Δ H) (a : Addr) [P : Pull a Δ R Δ'] (f : ∀ T : Res, (∃ h, R a h) → (∀ h, T a h → R a h) → G) : G := by
  obtain ⟨h, l, r, S⟩ := P.out S
  exact f R ⟨h, r⟩ fun _ z => z
theorem Sep.call {Δ : Rs} {H H' : Hp} {a : Addr} {R T : Res} {L : List Addr} (S : Sep ((a, R) :: Δ) H) (k : ∀ b o, b ∉ L → H b = some o → H' b = some o)
    (f : ∀ h, Same h H → R a h → (∀ b ∈ L, ∃ o, h b = some o ∧ mutO o = true) ∧ ∃ h', Same h' H' ∧ T a h' ∧ ∀ b o, h' b = some o → mutO o = true → b ∈ L ∨ H b = none ∨ ∃ u, h b = some u ∧ mutO u = true) : Sep ((a, T) :: Δ) H' := by
  obtain ⟨h, l, r, S⟩ := S
  obtain ⟨f1, h', l', t, f2⟩ := f h l r
  refine ⟨h', l', t, S.mono fun b o e => ?_⟩
  obtain ⟨e1, e2⟩ := cut_some.mp e
  have hb : b ∉ L := fun z => by
    obtain ⟨u, q1, q2⟩ := f1 b z
    rw [e2 u q1] at q2; cases q2
  refine cut_some.mpr ⟨k b o hb e1, fun u q => ?_⟩
  cases m : mutO u with
  | false => rfl
  | true =>
    rcases f2 b u q m with z | z | ⟨v, z1, z2⟩
    · exact absurd z hb
    · rw [e1] at z; cases z
    · rw [e2 v z1] at z2; cases z2
abbrev Bx (n : Nat) : Res := fun a h => BoxAt h a n
instance {n : Nat} : Up (Bx n) := ⟨fun h s => h.same s⟩
theorem Sep.box {Δ : Rs} {H H' : Hp} {p : Addr} {n m : Nat} (S : Sep ((p, Bx n) :: Δ) H) (k : Kp p H H') (B : BoxAt H' p m) : Sep ((p, Bx m) :: Δ) H' := by
  refine S.call (L := [p]) (fun b o nb e => k b o (fun z => nb (by simp [z])) e) fun h l r => ⟨fun b hb => ?_, ?_⟩
  · rw [List.mem_singleton.mp hb]
    obtain ⟨x, y, z, e, _⟩ := r
    exact ⟨_, e, rfl⟩
  · obtain ⟨x, y, z, e, w⟩ := B
    refine ⟨one p (.lst [.int x, .int y, .int z]), fun b u q => ?_, ⟨x, y, z, one_some.mpr ⟨rfl, rfl⟩, w⟩, fun b o q _ => .inl (by simp [(one_some.mp q).1])⟩
    obtain ⟨rfl, rfl⟩ := one_some.mp q; exact e
def spTakeS (M : Int) : Sp := fun vs H Q _ => ∃ (p : Addr) (n : Nat) (m : Int) (Δ : Rs), vs = [.ref p, .int m] ∧ Sep ((p, Bx n) :: Δ) H ∧ n ≤ 1000000 ∧ 0 < m ∧ m < M ∧ ∀ (r : Int) (H' : Hp), 0 ≤ r → r < m → Sep ((p, Bx (n + 1)) :: Δ) H' → Q (.int r) H'
theorem take_S {M : Int} {vs : List V} {H : Hp} {Q : VK} {E : XK} (h : spTakeS M vs H Q E) : spTake M vs H Q E := by
  obtain ⟨p, n, m, Δ, e, S, h1, h2, h3, q⟩ := h
  exact ⟨p, n, m, e, S.get p, h1, h2, h3, fun r H' a b B k => q r H' a b (S.box k B)⟩
end L2
namespace L2
open PySem
theorem rel_of_abs {x : V} {u : Value} (h : absV u = some x) : RelV x u := by
  cases u <;> first | (cases h; exact rfl) | (cases h; exact ⟨_, rfl⟩) | cases h
theorem vals_of_abs : ∀ {xs : List V} {us : List Value}, us.map absV = xs.map some → Vals xs us
  | [], [], _ => .nil
  | [], _ :: _, h => by cases h
  | _ :: _, [], h => by cases h
  | x :: xs, u :: us, h => by
    rw [List.map_cons, List.map_cons, List.cons.injEq] at h
    exact .cons (rel_of_abs h.1) (vals_of_abs h.2)
def tupIn (K : PySem.W.Frag) (a : Addr) (vs : List V) : Bool := match K.lookup a with
  | some ⟨.type "tuple", _, .seq its _, _⟩ => decide (its.size ≤ 100000) && decide (its.toList.map absV = vs.map some)
  | _ => false
theorem tup_of_K {K : PySem.W.Frag} {a : Addr} {vs : List V} (h : tupIn K a vs = true) (H : Hp) : SqT K H a vs := by
  unfold tupIn at h
  split at h
  · rename_i its n _ hk
    simp only [Bool.and_eq_true, decide_eq_true_eq] at h
    exact .inr ⟨_, its, n, hk, rfl, rfl, Nat.le_trans h.1 (by decide), vals_of_abs h.2⟩
  · cases h
end L2
set_option maxHeartbeats 2000000
namespace L2
open PySem
def CompV (J : It) (tc : TT) (te : TE) (σ : St) (D : Addr) (Q : VK) (H1 : Hp) : Prop :=
  ∃ W : Nat → Nat → List V → Hp → Prop, (∃ m, W 0 m [] (upd H1 D (.lst []))) ∧ ∀ i m ys H2, W i m ys H2 →
    (J.stop i H2 ∧ Q (.ref D) H2) ∨ (J.go i H2 ∧ ∃ (N : VK) (M : Hp → Prop), (∀ y H4, N y H4 → H4 D = some (.lst ys) ∧ ys.length < sizeLine ∧ ∃ m', m' < m ∧ W (i + 1) m' (ys ++ [y]) (upd H4 D (.lst (ys ++ [y])))) ∧ (∀ H4, M H4 → ∃ m', m' < m ∧ W (i + 1) m' ys H4) ∧
      ∀ v H3, J.yld i H2 v H3 → tc (σ ++ [some v]) H3 fun b H4 => if b = true then te (σ ++ [some v]) H4 N else M H4)
def tCompV (wi : TI) (tc : TT) (te : TE) : TE := fun σ H Q => wi σ H fun J H1 => ∀ D, H1 D = none → CompV J tc te σ D Q H1
section
variable {X : Cx} {elt iter cnd : Expr} {x : Str} {px pos : Pos} {scope : Scope} {wi : TI} {te : TE} {tc : TT}
theorem codeAny_compLoop_goV {prog : Program} {w : World} {A : Around} {R : Result → Shared → Prop} {s : Shared} {elt target iter cnd : Expr} {scope : Scope} {pos : Pos} {it acc : Value} {env : Env} (I : Nat → Shared → Prop)
    (turn : ∀ n s, I n s → wpAny (model prog w) A (pyNext it) (fun r s₁ => match r with
      | none => R (.ok .next) s₁
      | some v => wpAny (model prog w) A (letOwnedTupleGo target it v) (fun _ s1' => wpAny (model prog w) A (assign target env v) (fun _ s₂ => wpAny (model prog w) A (isTrue cnd env (eval cnd env)) (fun ok s2' => if ok = true then wpAny (model prog w) A (eval elt env) (fun x s₃ =>
          wpAny (model prog w) A (call (.builtin "list.append") [acc, x]) (fun _ s₄ => ∃ m, m < n ∧ I m s₄) (fun _ _ => False) s₃)
          (fun _ _ => False) s2' else ∃ m, m < n ∧ I m s2') (fun _ _ => False) s₂) (fun _ _ => False) s1') (fun _ _ => False) s₁) (fun _ _ => False) s)
    (n : Nat) (h : I n s) :
    codeAny (model prog w) A (.compLoop (.ListComp elt [⟨target, iter, [cnd], 0⟩] scope pos) 0 it acc env) R s := by
  refine codeAny_loop rfl I (fun n s hI => ?_) n h
  show wpAny _ _ ((compTurn (.ListComp elt [⟨target, iter, [cnd], 0⟩] scope pos) 0 it acc env).onRaise (fun x => do noteFrame x env; theTreesLotGoes x)) _ _ s
  refine wpAny_noted ?_
  rw [compTurn_list]
  refine wpAny_bind (wpAny_standAt (wpAny_bind (wpAny_mono (turn n s hI) (fun r s₁ h₁ => ?_) fun _ _ h' => h'.elim)))
  cases r with
  | none => exact wpAny_pure h₁
  | some v =>
    refine wpAny_bind (wpAny_mono h₁ (fun _ s1' h1' => ?_) fun _ _ h' => h'.elim)
    refine wpAny_bind (wpAny_mono h1' (fun _ s₂ h₂ => wpAny_bind (wpAny_tests_one (wpAny_mono h₂ (fun ok s₃ h₃ => ?_) fun _ _ h' => h'.elim))) fun _ _ h' => h'.elim)
    cases ok with
    | false => exact wpAny_pure ⟨rfl, h₃⟩
    | true =>
      exact wpAny_bind (wpAny_bind (wpAny_mono h₃ (fun x s₄ h₄ => wpAny_bind (wpAny_mono h₄ (fun _ s₅ h₅ => wpAny_pure (wpAny_pure ⟨rfl, h₅⟩)) fun _ _ h' => h'.elim)) fun _ _ h' => h'.elim))
theorem comp_blockV {pins : List (Addr × Obj)} {σ : St} {H2 : Hp} {s₂ : Shared} {J : It} {fp : List Addr} {it : Addr} {tn : Nat → Heap → Prop} {cl : List (Str × Addr)} {E : Value → Shared → Prop} {Q : VK} {RR : Value → Addr → Result → Shared → Prop}
    (O : CompOk X scope x) (hc : X.calm = true) (cl1 : ∀ y c, cl.lookup y = some c → X.env.cells.lookup y = some c) (cl2 : ∀ y ∈ scope.names, y.2 = .free → cl.lookup y.1 ≠ none)
    (hcn : ∀ cl C s₀ H₀ fp, PT (compCx X scope x cl C s₀ H₀ fp) cnd tc) (he : ∀ cl C s₀ H₀ fp, PE (compCx X scope x cl C s₀ H₀ fp) elt te)
    (I2 : Inv X pins σ H2 s₂) (T : Turn X.prog X.w X.K (.Name x px) J fp it tn) (st : tn 0 s₂.heap) (f2 : ∀ b ∈ fp, FpOk X pins H2 b)
    (h : ∀ D, H2 D = none → CompV J tc te σ D Q H2)
    (hRR : ∀ D C H' s', Inv X pins σ H' s' → FpOk X pins H' C → (∃ m, s'.heap.Ns C m) → Q (.ref D) H' → RR (.ref D) C (.ok .next) s') :
    wpAny (model X.prog X.w) X.A (newList []) (fun acc s₃ => wpAny (model X.prog X.w) X.A (newFunctionEnv scope X.env.globals cl [] X.env.qual none .none (some X.env)) (fun cenv s₄ =>
      codeAny (model X.prog X.w) X.A (.compStart (.ListComp elt [⟨.Name x px, iter, [cnd], 0⟩] scope pos) 0 (.ref it) acc { cenv with scope := relabel scope X.env }) (RR acc cenv.locals) s₄) E s₃) E s₂ := by
  have hD : H2 s₂.heap.objs.size = none := I2.hok.fresh (Nat.le_refl _)
  refine wpAny_newObj_type ?_
  have I3 : Inv X pins σ (upd H2 s₂.heap.objs.size (.lst [])) { s₂ with heap := s₂.heap.push { cls := .type "list", data := .seq ([] : List Value).toArray } } :=
    I2.laid (t' := s₂.toks) (fun b u e => Heap.get?_push_of_some _ e) (Nat.le_refl _) ⟨Nat.zero_le _, [], _, .nil, Heap.get?_push_size _ rfl⟩
  have f3 : ∀ b ∈ fp, FpOk X pins (upd H2 s₂.heap.objs.size (.lst [])) b := fun b hb => by
    obtain ⟨g0, g1⟩ := f2 b hb
    obtain ⟨o, e, _⟩ := T.obj 0 _ st b hb
    exact ⟨by rw [upd_ne (Nat.ne_of_lt (Heap.lt_size e))]; exact g0, g1⟩
  have st3 : tn 0 (s₂.heap.push { cls := .type "list", data := .seq ([] : List Value).toArray }) := T.keep _ _ _ st fun b hb o e => Heap.get?_push_of_some _ e
  obtain ⟨W, ⟨m0, w0⟩, turn⟩ := h _ hD
  generalize hDe : s₂.heap.objs.size = D at I3 f3 w0 turn ⊢
  generalize hH3 : upd H2 D (.lst []) = H3 at I3 f3 w0 turn ⊢
  generalize hs3 : ({ s₂ with heap := s₂.heap.push { cls := .type "list", data := .seq ([] : List Value).toArray } } : Shared) = s₃ at I3
  have st3' : tn 0 s₃.heap := by rw [← hs3]; exact st3
  have hobj : ∀ b ∈ fp, b < s₃.heap.objs.size := fun b hb => by
    obtain ⟨o, e, _⟩ := T.obj 0 _ st3' b hb
    exact Heap.lt_size e
  refine wpAny_newFunctionEnv O.cell (by intro y hy; simp at hy) (fun h₁ hns₁ hsb₁ => ?_) O.kind
  have old : ∀ b o, s₃.heap.get? b = some o → h₁.get? b = some o := fun b o e => hsb₁.extBut b o (Nat.ne_of_lt (Heap.lt_size e)) (Heap.get?_push_of_some _ e)
  generalize hs4 : ({ s₃ with heap := h₁, toks := s₃.toks + ([] : List (Str × Value)).length } : Shared) = s₄
  have h4 : s₄.heap = h₁ := by rw [← hs4]
  have hX : ∀ C, FpOk X pins C s₃.heap.objs.size → True := fun _ _ => trivial
  have ok' : (compCx X scope x cl s₃.heap.objs.size s₃ H3 fp).Ok := by
    refine ⟨I3.ok.mod, O.kind, I3.ok.glob, I3.ok.blt, Nat.le_refl _, ?_, ?_, ?_, I3.ok.hd, I3.ok.frames, .inl rfl, ?_, I3.bs, Nat.le_trans I3.ok.bsz I3.sz, ?_, ?_, I3.stack, I3.stkFree⟩
    · exact fun y z c e1 e2 => I3.ok.inj y z c (cl1 y c e1) (cl1 z c e2)
    · intro y hk
      have hf : scope.names.lookup y = some .free := by
        rcases hk with hk | hk
        · rcases relab_kind O.cell hk with q | q
          · exact absurd rfl (O.cell _ (mem_of_lookup q))
          · exact q.1
        · rcases relab_kind O.cell hk with q | q
          · exact q
          · cases q.2
      have := cl2 _ (mem_of_lookup hf) rfl
      cases e : cl.lookup y with
      | none => exact absurd e this
      | some c => exact ⟨c, e⟩
    · intro y c hf; cases hf
    · intro b hb
      obtain ⟨g0, g1, g2, g3, g4, g5⟩ := f3 b hb
      exact ⟨Nat.ne_of_lt (hobj b hb), fun y c e => g4 y c (cl1 y c e)⟩
    · intro b o e hb
      obtain ⟨g0, g1, g2, g3, g4, g5⟩ := f3 b hb
      rcases g3 with g3 | g3
      · exact I3.ok.noex b o e g3
      · exact absurd (Heap.lt_size e) (Nat.not_lt.mpr (Nat.le_trans I3.ok.bsz g3))
    · intro b hb hs
      obtain ⟨g0, g1, g2, g3, g4, g5⟩ := f3 b hb
      rcases List.mem_cons.mp (I3.stkSub b hs) with e | e
      · exact g1 e
      · exact g2 e
  have I4 : Inv (compCx X scope x cl s₃.heap.objs.size s₃ H3 fp) [] (σ ++ [none]) H3 s₄ := by
    obtain ⟨m, hm, hl⟩ := I3.loc
    refine ⟨ok', by rw [← hs4]; rfl, by rw [← hs4]; exact I3.bare, by rw [h4]; exact Un.kept old, ⟨_, by rw [h4]; exact hns₁, ?_⟩, ?_, I3.hok.fresh (Nat.le_refl _), fun y c e => I3.freeC y c (cl1 y c e), ?_, by rw [h4]; exact I3.hok.kept old, ?_⟩
    · intro i y v e1 e2 e3
      have hlt : i < σ.length := by
        rcases Nat.lt_or_ge i σ.length with z | z
        · exact z
        · rw [List.getElem?_append_right z] at e2
          cases e : i - σ.length with
          | zero => rw [e] at e2; simp at e2
          | succ k => rw [e] at e2; simp at e2
      rw [List.getElem?_append_left hlt] at e2
      have hsm : ∃ k, scope.names.lookup y = some k := by
        rcases e3 with hk | hk | hk
        · rcases relab_kind O.cell hk with q | q
          · exact ⟨_, q⟩
          · exact ⟨_, q.1⟩
        · rcases relab_kind O.cell hk with q | q
          · exact ⟨_, q⟩
          · exact ⟨_, q.1⟩
        · rcases relab_kind O.cell hk with q | q
          · exact ⟨_, q⟩
          · exact ⟨_, q.1⟩
      obtain ⟨e1', hyx⟩ : X.N[i]? = some y ∧ y ≠ x := by
        have e1 : (hid X.N x ++ [x])[i]? = some y := e1
        rw [List.getElem?_append_left (by rw [hid_len, ← I3.len]; exact hlt)] at e1
        rcases hid_get e1 with z | z
        · exact z
        · obtain ⟨k, hk⟩ := hsm
          rw [z, O.noh] at hk; cases hk
      have hy : y ∈ X.N := List.mem_of_getElem? e1'
      have hf : scope.names.lookup y = some .free := by
        rcases e3 with hk | hk | hk
        · rcases relab_kind O.cell hk with q | q
          · exact absurd q (O.own y hy hyx)
          · exact q.1
        · rcases relab_kind O.cell hk with q | q
          · exact absurd rfl (O.cell _ (mem_of_lookup q))
          · exact q.1
        · rcases relab_kind O.cell hk with q | q
          · exact q
          · exact q.1
      have hk := O.clos _ (mem_of_lookup hf) rfl
      have hv : Vis X.env.scope y := by rcases hk with z | z; exact .inr (.inl z); exact .inr (.inr z)
      obtain ⟨u, ru, lu⟩ := hl i y v e1' e2 hv
      refine ⟨u, ru, ?_⟩
      have hkc : (compEnvC scope cl s₃.heap.objs.size X.env).kindOf y = some .cell ∨ (compEnvC scope cl s₃.heap.objs.size X.env).kindOf y = some .free := by
        rcases e3 with q | q | q
        · rcases relab_kind O.cell q with z | z
          · exact absurd z (O.own y hy hyx)
          · cases z.2
        · exact .inl q
        · exact .inr q
      rcases lu with ⟨q, _⟩ | ⟨_, c, hcl, hcc⟩
      · rcases hk with z | z <;> (rw [q] at z; cases z)
      · refine .inr ⟨hkc, ?_⟩
        cases e : cl.lookup y with
        | none => exact absurd e (cl2 _ (mem_of_lookup hf) rfl)
        | some c' =>
          have := cl1 y c' e
          rw [hcl] at this
          cases this
          refine ⟨c, e, ?_⟩
          rw [h4]
          obtain ⟨oc, ho, hd⟩ := hcc
          exact ⟨oc, old _ _ ho, hd⟩
    · intro y c e
      obtain ⟨v, oc, ho, hd⟩ := I3.cell y c (cl1 y c e)
      exact ⟨v, oc, by rw [h4]; exact old _ _ ho, hd⟩
    · intro p hp; cases hp
    · show (σ ++ [none]).length = (hid X.N x ++ [x]).length
      rw [List.length_append, List.length_append, hid_len, I3.len]; rfl
  have st4 : tn 0 s₄.heap := by rw [h4]; exact T.keep _ _ _ st3' fun b hb o e => old b o e
  have fpok : ∀ {H' : Hp}, (∀ b ∈ fp, H' b = none) → ∀ b ∈ fp, FpOk (compCx X scope x cl s₃.heap.objs.size s₃ H3 fp) [] H' b := fun hn b hb => by
    obtain ⟨g0, g1, g2, g3, g4, g5⟩ := f3 b hb
    refine ⟨hn b hb, Nat.ne_of_lt (hobj b hb), ok'.exfs b hb, .inl hb, fun y c e => g4 y c (cl1 y c e), ?_⟩
    intro p hp; cases hp
  have loop : codeAny (model X.prog X.w) X.A (.compLoop (.ListComp elt [⟨.Name x px, iter, [cnd], 0⟩] scope pos) 0 (.ref it) (.ref D) (compEnvC scope cl s₃.heap.objs.size X.env)) (RR (.ref D) s₃.heap.objs.size) s₄ := by
    refine codeAny_compLoop_goV (fun n s' => ∃ i ys w' H', Inv (compCx X scope x cl s₃.heap.objs.size s₃ H3 fp) [] (σ ++ [w']) H' s' ∧ tn i s'.heap ∧ (∀ b ∈ fp, H' b = none) ∧ W i n ys H') ?_ m0 ⟨0, [], none, H3, I4, st4, fun b hb => (f3 b hb).1, w0⟩
    rintro n s5 ⟨i, ys, w', H5, I5, st5, fr5, w5⟩
    rcases turn i n ys H5 w5 with ⟨stop, q⟩ | ⟨go, N, M, hN, hM, step⟩
    · refine thn (T.done (compCx X scope x cl s₃.heap.objs.size s₃ H3 fp) rfl rfl rfl hc i [] s5 _ H5 _ I5 (fpok fr5) st5 stop) fun r s6 ⟨hr, I6⟩ => ?_
      subst hr
      obtain ⟨m6, hn6, _⟩ := I6.loc
      have IX : Inv X pins σ H5 s6 := I3.call' (ch := fp) I6.os I6.base I6.hok I6.bare fun b hb => by
        obtain ⟨g0, g1, g2, g3, g4, g5⟩ := f3 b hb
        exact ⟨g3, g1, g4, g5⟩
      exact hRR D _ H5 s6 IX (I3.fpOk (Nat.le_refl _) I6.free) ⟨m6, hn6⟩ q
    · refine thn (T.item (compCx X scope x cl s₃.heap.objs.size s₃ H3 fp) rfl rfl rfl hc i [] s5 _ H5 _ I5 (fpok fr5) st5 go) fun r s6 ⟨u, hr, h6⟩ => ?_
      subst hr
      refine thn h6 fun _ s7 ⟨v, H7, I7, r7, y7, st7, fr7⟩ => ?_
      have I7' := I7.pinned (fpok fr7) (T.obj _ _ st7)
      have hixN : (compCx X scope x cl s₃.heap.objs.size s₃ H3 fp).N[σ.length]? = some x := by
        show (hid X.N x ++ [x])[σ.length]? = some x
        rw [I3.len, ← hid_len X.N x]; simp
      refine thn (pg_name (X := compCx X scope x cl s₃.heap.objs.size s₃ H3 fp) (pos := px) O.nd hixN (.inl (lookup_relabel_local O.loc)) (.inr (lookup_relabel_local O.loc)) _ s7 _ H7 v u (fun σ' H' => σ' = σ ++ [some v] ∧ H' = H7) I7' r7 ⟨by simp, rfl⟩) fun _ s8 ⟨σ8, H8, I8, e8, e8'⟩ => ?_
      subst e8 e8'
      refine thn (hcn cl s₃.heap.objs.size s₃ H3 fp _ s8 _ H8 _ I8 (step v H8 y7)) fun bb s8b ⟨H8b, I8b, q8b⟩ => ?_
      cases bb with
      | false =>
        obtain ⟨m', hm', w9⟩ := hM H8b q8b
        refine ⟨m', hm', i + 1, ys, some v, _, I8b.unpinned (pins := []), T.keep _ _ _ st7 fun b hb o e => (I8b.pin (b, o) (List.mem_append_right _ (List.mem_append_right _ (mem_pinsAt hb e)))).1, fun b hb => ?_, w9⟩
        obtain ⟨o, e, d⟩ := T.obj _ _ st7 b hb
        exact (I8b.pin (b, o) (List.mem_append_right _ (List.mem_append_right _ (mem_pinsAt hb e)))).2.1
      | true =>
        refine thn (he cl s₃.heap.objs.size s₃ H3 fp _ s8b _ H8b _ I8b q8b) fun uy s9 ⟨y, H9, I9, r9, n9⟩ => ?_
        obtain ⟨hl9, hz9, m', hm', w9⟩ := hN y H9 n9
        refine thn (mt_append (X := compCx X scope x cl s₃.heap.objs.size s₃ H3 fp) _ s9 _ H9 (.ref D) [y] (.ref D) [uy] (fun v H' => H' = upd H9 D (.lst (ys ++ [y]))) I9 rfl (.cons r9 .nil) ⟨D, ys, y, rfl, rfl, hl9, hz9, rfl⟩) fun _ s10 ⟨_, H10, I10, _, e10⟩ => ?_
        subst e10
        refine ⟨m', hm', i + 1, ys ++ [y], some v, _, I10.unpinned (pins := []), T.keep _ _ _ st7 fun b hb o e => (I10.pin (b, o) (List.mem_append_right _ (List.mem_append_right _ (mem_pinsAt hb e)))).1, fun b hb => ?_, w9⟩
        obtain ⟨o, e, d⟩ := T.obj _ _ st7 b hb
        exact (I10.pin (b, o) (List.mem_append_right _ (List.mem_append_right _ (mem_pinsAt hb e)))).2.1
  exact codeAny_compStart_list loop (T.self _ 0 _ _ _ st4 loop)
theorem ps_setCompV {i : Nat} {y : Str} {py spos : Pos} (O : CompOk X scope x) (hc : X.calm = true) (hN : X.N.Nodup) (hiN : X.N[i]? = some y) (hy : Loc X.env.scope y) (hi : PI X (.Name x px) iter wi) (hcn : ∀ cl C s₀ H₀ fp, PT (compCx X scope x cl C s₀ H₀ fp) cnd tc) (he : ∀ cl C s₀ H₀ fp, PE (compCx X scope x cl C s₀ H₀ fp) elt te)
    (hsw : swapsWith (.ListComp elt [⟨.Name x px, iter, [cnd], 0⟩] scope pos) (some (.Name y py)) spos.line X.env = pure true) (hf : X.fn y = true ∨ X.env.scope.names.lookup y = some .local := by first | exact .inl rfl | exact .inr rfl | assumption)
    (hs : ∀ v, foldedSetIterable iter X.env v = pure v := by intro _; rfl) : PS X (.Assign [.Name y py] (.ListComp elt [⟨.Name x px, iter, [cnd], 0⟩] scope pos) spos) (tAsg (tCompV wi tc te) (gName i)) := by
  intro pins s σ H D I h
  obtain ⟨cl, hcl, cl1, cl2⟩ := closure_of (scope := scope) (env := X.env) fun y hy hf => I.ok.has _ (O.clos y hy hf)
  rw [exec_Assign_Name_used _ _ _ _ hsw]
  refine wpAny_bind (wpAny_standAt (wpAny_bind ?_))
  show wpAny _ X.A (do let _ ← comprehension (.ListComp elt [⟨.Name x px, iter, [cnd], 0⟩] scope pos) scope X.env _ (newList []) false (eval iter X.env) (some (assign (.Name y py) X.env))) _ _ s
  refine wpAny_bind (wpAny_mono (wpAny_comprehension_free (use := some (assign (.Name y py) X.env)) (Q := fun _ s' => SP X pins D .next s') rfl hs hcl O.kind O.names
    (thn (hi pins s σ H _ I h) fun v s1 h1 => thn h1 fun itv s2 h2 => ?_)) (fun _ s' hq => wpAny_pure (wpAny_pure hq)) fun _ _ e => e)
  obtain ⟨it, fp, tn, J, H2, e, I2, T, st2, f2, q⟩ := h2
  subst e
  refine comp_blockV (RR := fun acc C => compPost (model X.prog X.w) X.A X.xe (some (assign (.Name y py) X.env)) (fun _ s' => SP X pins D .next s') acc C) O hc cl1 cl2 hcn he I2 T st2 f2 q ?_
  intro Dl C H' s' I' ⟨g0, g1, g2, g3, g4, g5⟩ ⟨m, hm⟩ hq
  show wpAny _ X.A (assign (.Name y py) X.env (.ref Dl)) _ _ _
  refine wpAny_assign_Name (store_ok2 I' hN hiN hy (v := .ref Dl) rfl (fun s'' I'' ⟨a, sb, ha⟩ => ?_) hf)
  have haC : C ≠ a := by
    rcases ha with z | z
    · rw [z]; exact g1
    · exact fun z' => g4 y a z z'.symm
  exact ⟨m, hm.sameBut sb haC, fun h' hs' => ⟨_, H', I''.turned (t' := s''.toks) (fun b o hb e => (hs'.2 b hb).trans e) g0 g1 g3 g4 g5, hq⟩⟩
end
theorem compV_tup {K : PySem.W.Frag} {a : Addr} {xs : List V} {tc : TT} {te : TE} {σ : St} {D : Addr} {Q : VK} {H : Hp} (hn : xs.length ≤ sizeLine) (Pv : Nat → List V → Hp → Prop) (h0 : Pv 0 [] (upd H D (.lst [])))
    (hl : ∀ i ys H, Pv i ys H → ys.length ≤ i ∧ SqT K H a xs)
    (hs : ∀ i x ys H, xs[i]? = some x → Pv i ys H → tc (σ ++ [some x]) H fun b H3 => if b = true then te (σ ++ [some x]) H3 fun y H4 => H4 D = some (.lst ys) ∧ Pv (i + 1) (ys ++ [y]) (upd H4 D (.lst (ys ++ [y]))) else Pv (i + 1) ys H3) (hd : ∀ ys H, Pv xs.length ys H → Q (.ref D) H) : CompV (Itt K a) tc te σ D Q H := by
  refine ⟨fun i m ys H => m = xs.length - i ∧ i ≤ xs.length ∧ Pv i ys H, ⟨xs.length, by simp, Nat.zero_le _, h0⟩, ?_⟩
  rintro i m ys H2 ⟨rfl, hi, p⟩
  obtain ⟨hlen, q⟩ := hl i ys _ p
  by_cases hlt : i < xs.length
  · refine .inr ⟨⟨xs, xs[i], q, by simp [hlt]⟩, _, _, fun y H4 (q : H4 D = some (.lst ys) ∧ Pv (i + 1) (ys ++ [y]) (upd H4 D (.lst (ys ++ [y])))) => ⟨q.1, by omega, xs.length - (i + 1), by omega, rfl, hlt, q.2⟩, fun H4 (q : Pv (i + 1) ys H4) => ⟨xs.length - (i + 1), by omega, rfl, hlt, q⟩, fun v H3 y => ?_⟩
    obtain ⟨e, y⟩ := y
    subst e
    exact hs i v ys _ (y xs q) p
  · have e : i = xs.length := by omega
    subst e
    exact .inl ⟨⟨xs, q, Nat.le_refl _⟩, hd ys H2 p⟩
theorem compV_list {K : PySem.W.Frag} {a : Addr} {xs : List V} {tc : TT} {te : TE} {σ : St} {D : Addr} {Q : VK} {H : Hp} (hn : xs.length ≤ sizeLine) (Pv : Nat → List V → Hp → Prop) (h0 : Pv 0 [] (upd H D (.lst [])))
    (hl : ∀ i ys H, Pv i ys H → ys.length ≤ i ∧ SqL K H a xs)
    (hs : ∀ i x ys H, xs[i]? = some x → Pv i ys H → tc (σ ++ [some x]) H fun b H3 => if b = true then te (σ ++ [some x]) H3 fun y H4 => H4 D = some (.lst ys) ∧ Pv (i + 1) (ys ++ [y]) (upd H4 D (.lst (ys ++ [y]))) else Pv (i + 1) ys H3) (hd : ∀ ys H, Pv xs.length ys H → Q (.ref D) H) : CompV (Itl K a) tc te σ D Q H := by
  refine ⟨fun i m ys H => m = xs.length - i ∧ i ≤ xs.length ∧ Pv i ys H, ⟨xs.length, by simp, Nat.zero_le _, h0⟩, ?_⟩
  rintro i m ys H2 ⟨rfl, hi, p⟩
  obtain ⟨hlen, q⟩ := hl i ys _ p
  by_cases hlt : i < xs.length
  · refine .inr ⟨⟨xs, xs[i], q, by simp [hlt]⟩, _, _, fun y H4 (q : H4 D = some (.lst ys) ∧ Pv (i + 1) (ys ++ [y]) (upd H4 D (.lst (ys ++ [y])))) => ⟨q.1, by omega, xs.length - (i + 1), by omega, rfl, hlt, q.2⟩, fun H4 (q : Pv (i + 1) ys H4) => ⟨xs.length - (i + 1), by omega, rfl, hlt, q⟩, fun v H3 y => ?_⟩
    obtain ⟨e, y⟩ := y
    subst e
    exact hs i v ys _ (y xs q) p
  · have e : i = xs.length := by omega
    subst e
    exact .inl ⟨⟨xs, q, Nat.le_refl _⟩, hd ys H2 p⟩
end L2
set_option maxHeartbeats 2000000
namespace L2
open PySem PySem.Spec PyProof.Rows
def hid2 (N : List Str) (xa xb : Str) : List Str := hid (hid N xa) xb
theorem hid2_len (N : List Str) (xa xb : Str) : (hid2 N xa xb).length = N.length := by unfold hid2; rw [hid_len, hid_len]
theorem hid2_get {N : List Str} {xa xb y : Str} {i : Nat} (h : (hid2 N xa xb)[i]? = some y) : (N[i]? = some y ∧ ¬ (y = xa ∨ y = xb)) ∨ y = "" := by
  rcases hid_get h with ⟨h1, h2⟩ | h1
  · rcases hid_get h1 with ⟨h3, h4⟩ | h3
    · exact .inl ⟨h3, fun z => z.elim h4 h2⟩
    · exact .inr h3
  · exact .inr h1
def compCxT (X : Cx) (scope : Scope) (xa xb : Str) (cl : List (Str × Addr)) (C : Addr) (s₀ : Shared) (H₀ : Hp) (fp : List Addr) : Cx := { compCx X scope xa cl C s₀ H₀ fp with N := hid2 X.N xa xb ++ [xa, xb] }
structure CompOkT (X : Cx) (scope : Scope) (xa xb : Str) : Prop where
  nd : (hid2 X.N xa xb ++ [xa, xb]).Nodup
  clos : ∀ y ∈ scope.names, y.2 = .free → X.env.kindOf y.1 = some .cell ∨ X.env.kindOf y.1 = some .free
  cell : ∀ y ∈ scope.names, y.2 ≠ .cell
  kind : scope.kind = .function
  names : ∀ y ∈ scope.names, y.2 = .local → scope.names.lookup y.1 = some .local
  own : ∀ y ∈ X.N, ¬ (y = xa ∨ y = xb) → scope.names.lookup y ≠ some .local
  noh : scope.names.lookup ("" : Str) = none
def CompT (J : It) (g : TG) (te : TE) (σ : St) (D : Addr) (Q : VK) (H1 : Hp) : Prop :=
  ∃ W : Nat → Nat → List V → Hp → Prop, (∃ m, W 0 m [] (upd H1 D (.lst []))) ∧ ∀ i m ys H2, W i m ys H2 →
    (J.stop i H2 ∧ Q (.ref D) H2) ∨ (J.go i H2 ∧ ∃ N : VK, (∀ y H4, N y H4 → H4 D = some (.lst ys) ∧ ys.length < sizeLine ∧ ∃ m', m' < m ∧ W (i + 1) m' (ys ++ [y]) (upd H4 D (.lst (ys ++ [y])))) ∧ ∀ wa wb v H3, J.yld i H2 v H3 → g v (σ ++ [wa, wb]) H3 fun σ' H' => (∃ wa wb, σ' = σ ++ [wa, wb]) ∧ te σ' H' N)
def tCompT (wi : TI) (g : TG) (te : TE) : TE := fun σ H Q => wi σ H fun J H1 => ∀ D, H1 D = none → CompT J g te σ D Q H1
section
variable {X : Cx} {elt iter tg : Expr} {xa xb : Str} {pos : Pos} {scope : Scope} {wi : TI} {te : TE} {g : TG}
theorem comp_blockT {pins : List (Addr × Obj)} {σ : St} {H2 : Hp} {s₂ : Shared} {J : It} {fp : List Addr} {it : Addr} {tn : Nat → Heap → Prop} {cl : List (Str × Addr)} {E : Value → Shared → Prop} {Q : VK} {RR : Value → Addr → Result → Shared → Prop}
    (O : CompOkT X scope xa xb) (hc : X.calm = true) (cl1 : ∀ y c, cl.lookup y = some c → X.env.cells.lookup y = some c) (cl2 : ∀ y ∈ scope.names, y.2 = .free → cl.lookup y.1 ≠ none)
    (hg : ∀ cl C s₀ H₀ fp, PG (compCxT X scope xa xb cl C s₀ H₀ fp) tg g) (he : ∀ cl C s₀ H₀ fp, PE (compCxT X scope xa xb cl C s₀ H₀ fp) elt te)
    (I2 : Inv X pins σ H2 s₂) (T : Turn X.prog X.w X.K tg J fp it tn) (st : tn 0 s₂.heap) (f2 : ∀ b ∈ fp, FpOk X pins H2 b)
    (h : ∀ D, H2 D = none → CompT J g te σ D Q H2)
    (hRR : ∀ D C H' s', Inv X pins σ H' s' → FpOk X pins H' C → (∃ m, s'.heap.Ns C m) → Q (.ref D) H' → RR (.ref D) C (.ok .next) s') :
    wpAny (model X.prog X.w) X.A (newList []) (fun acc s₃ => wpAny (model X.prog X.w) X.A (newFunctionEnv scope X.env.globals cl [] X.env.qual none .none (some X.env)) (fun cenv s₄ =>
      codeAny (model X.prog X.w) X.A (.compStart (.ListComp elt [⟨tg, iter, [], 0⟩] scope pos) 0 (.ref it) acc { cenv with scope := relabel scope X.env }) (RR acc cenv.locals) s₄) E s₃) E s₂ := by
  have hD : H2 s₂.heap.objs.size = none := I2.hok.fresh (Nat.le_refl _)
  refine wpAny_newObj_type ?_
  have I3 : Inv X pins σ (upd H2 s₂.heap.objs.size (.lst [])) { s₂ with heap := s₂.heap.push { cls := .type "list", data := .seq ([] : List Value).toArray } } :=
    I2.laid (t' := s₂.toks) (fun b u e => Heap.get?_push_of_some _ e) (Nat.le_refl _) ⟨Nat.zero_le _, [], _, .nil, Heap.get?_push_size _ rfl⟩
  have f3 : ∀ b ∈ fp, FpOk X pins (upd H2 s₂.heap.objs.size (.lst [])) b := fun b hb => by
    obtain ⟨g0, g1⟩ := f2 b hb
    obtain ⟨o, e, _⟩ := T.obj 0 _ st b hb
    exact ⟨by rw [upd_ne (Nat.ne_of_lt (Heap.lt_size e))]; exact g0, g1⟩
  have st3 : tn 0 (s₂.heap.push { cls := .type "list", data := .seq ([] : List Value).toArray }) := T.keep _ _ _ st fun b hb o e => Heap.get?_push_of_some _ e
  obtain ⟨W, ⟨m0, w0⟩, turn⟩ := h _ hD
  generalize hDe : s₂.heap.objs.size = D at I3 f3 w0 turn ⊢
  generalize hH3 : upd H2 D (.lst []) = H3 at I3 f3 w0 turn ⊢
  generalize hs3 : ({ s₂ with heap := s₂.heap.push { cls := .type "list", data := .seq ([] : List Value).toArray } } : Shared) = s₃ at I3
  have st3' : tn 0 s₃.heap := by rw [← hs3]; exact st3
  have hobj : ∀ b ∈ fp, b < s₃.heap.objs.size := fun b hb => by
    obtain ⟨o, e, _⟩ := T.obj 0 _ st3' b hb
    exact Heap.lt_size e
  refine wpAny_newFunctionEnv O.cell (by intro y hy; simp at hy) (fun h₁ hns₁ hsb₁ => ?_) O.kind
  have old : ∀ b o, s₃.heap.get? b = some o → h₁.get? b = some o := fun b o e => hsb₁.extBut b o (Nat.ne_of_lt (Heap.lt_size e)) (Heap.get?_push_of_some _ e)
  generalize hs4 : ({ s₃ with heap := h₁, toks := s₃.toks + ([] : List (Str × Value)).length } : Shared) = s₄
  have h4 : s₄.heap = h₁ := by rw [← hs4]
  have hX : ∀ C, FpOk X pins C s₃.heap.objs.size → True := fun _ _ => trivial
  have ok' : (compCxT X scope xa xb cl s₃.heap.objs.size s₃ H3 fp).Ok := by
    refine ⟨I3.ok.mod, O.kind, I3.ok.glob, I3.ok.blt, Nat.le_refl _, ?_, ?_, ?_, I3.ok.hd, I3.ok.frames, .inl rfl, ?_, I3.bs, Nat.le_trans I3.ok.bsz I3.sz, ?_, ?_, I3.stack, I3.stkFree⟩
    · exact fun y z c e1 e2 => I3.ok.inj y z c (cl1 y c e1) (cl1 z c e2)
    · intro y hk
      have hf : scope.names.lookup y = some .free := by
        rcases hk with hk | hk
        · rcases relab_kind O.cell hk with q | q
          · exact absurd rfl (O.cell _ (mem_of_lookup q))
          · exact q.1
        · rcases relab_kind O.cell hk with q | q
          · exact q
          · cases q.2
      have := cl2 _ (mem_of_lookup hf) rfl
      cases e : cl.lookup y with
      | none => exact absurd e this
      | some c => exact ⟨c, e⟩
    · intro y c hf; cases hf
    · intro b hb
      obtain ⟨g0, g1, g2, g3, g4, g5⟩ := f3 b hb
      exact ⟨Nat.ne_of_lt (hobj b hb), fun y c e => g4 y c (cl1 y c e)⟩
    · intro b o e hb
      obtain ⟨g0, g1, g2, g3, g4, g5⟩ := f3 b hb
      rcases g3 with g3 | g3
      · exact I3.ok.noex b o e g3
      · exact absurd (Heap.lt_size e) (Nat.not_lt.mpr (Nat.le_trans I3.ok.bsz g3))
    · intro b hb hs
      obtain ⟨g0, g1, g2, g3, g4, g5⟩ := f3 b hb
      rcases List.mem_cons.mp (I3.stkSub b hs) with e | e
      · exact g1 e
      · exact g2 e
  have I4 : Inv (compCxT X scope xa xb cl s₃.heap.objs.size s₃ H3 fp) [] (σ ++ [none, none]) H3 s₄ := by
    obtain ⟨m, hm, hl⟩ := I3.loc
    refine ⟨ok', by rw [← hs4]; rfl, by rw [← hs4]; exact I3.bare, by rw [h4]; exact Un.kept old, ⟨_, by rw [h4]; exact hns₁, ?_⟩, ?_, I3.hok.fresh (Nat.le_refl _), fun y c e => I3.freeC y c (cl1 y c e), ?_, by rw [h4]; exact I3.hok.kept old, ?_⟩
    · intro i y v e1 e2 e3
      have hlt : i < σ.length := by
        rcases Nat.lt_or_ge i σ.length with z | z
        · exact z
        · rw [List.getElem?_append_right z] at e2
          have := List.mem_of_getElem? e2
          simp at this
      rw [List.getElem?_append_left hlt] at e2
      have hsm : ∃ k, scope.names.lookup y = some k := by
        rcases e3 with hk | hk | hk
        · rcases relab_kind O.cell hk with q | q
          · exact ⟨_, q⟩
          · exact ⟨_, q.1⟩
        · rcases relab_kind O.cell hk with q | q
          · exact ⟨_, q⟩
          · exact ⟨_, q.1⟩
        · rcases relab_kind O.cell hk with q | q
          · exact ⟨_, q⟩
          · exact ⟨_, q.1⟩
      obtain ⟨e1', hyx⟩ : X.N[i]? = some y ∧ ¬ (y = xa ∨ y = xb) := by
        have e1 : (hid2 X.N xa xb ++ [xa, xb])[i]? = some y := e1
        rw [List.getElem?_append_left (by rw [hid2_len, ← I3.len]; exact hlt)] at e1
        rcases hid2_get e1 with z | z
        · exact z
        · obtain ⟨k, hk⟩ := hsm
          rw [z, O.noh] at hk; cases hk
      have hy : y ∈ X.N := List.mem_of_getElem? e1'
      have hf : scope.names.lookup y = some .free := by
        rcases e3 with hk | hk | hk
        · rcases relab_kind O.cell hk with q | q
          · exact absurd q (O.own y hy hyx)
          · exact q.1
        · rcases relab_kind O.cell hk with q | q
          · exact absurd rfl (O.cell _ (mem_of_lookup q))
          · exact q.1
        · rcases relab_kind O.cell hk with q | q
          · exact q
          · exact q.1
      have hk := O.clos _ (mem_of_lookup hf) rfl
      have hv : Vis X.env.scope y := by rcases hk with z | z; exact .inr (.inl z); exact .inr (.inr z)
      obtain ⟨u, ru, lu⟩ := hl i y v e1' e2 hv
      refine ⟨u, ru, ?_⟩
      have hkc : (compEnvC scope cl s₃.heap.objs.size X.env).kindOf y = some .cell ∨ (compEnvC scope cl s₃.heap.objs.size X.env).kindOf y = some .free := by
        rcases e3 with q | q | q
        · rcases relab_kind O.cell q with z | z
          · exact absurd z (O.own y hy hyx)
          · cases z.2
        · exact .inl q
        · exact .inr q
      rcases lu with ⟨q, _⟩ | ⟨_, c, hcl, hcc⟩
      · rcases hk with z | z <;> (rw [q] at z; cases z)
      · refine .inr ⟨hkc, ?_⟩
        cases e : cl.lookup y with
        | none => exact absurd e (cl2 _ (mem_of_lookup hf) rfl)
        | some c' =>
          have := cl1 y c' e
          rw [hcl] at this
          cases this
          refine ⟨c, e, ?_⟩
          rw [h4]
          obtain ⟨oc, ho, hd⟩ := hcc
          exact ⟨oc, old _ _ ho, hd⟩
    · intro y c e
      obtain ⟨v, oc, ho, hd⟩ := I3.cell y c (cl1 y c e)
      exact ⟨v, oc, by rw [h4]; exact old _ _ ho, hd⟩
    · intro p hp; cases hp
    · show (σ ++ [none, none]).length = (hid2 X.N xa xb ++ [xa, xb]).length
      rw [List.length_append, List.length_append, hid2_len, I3.len]; rfl
  have st4 : tn 0 s₄.heap := by rw [h4]; exact T.keep _ _ _ st3' fun b hb o e => old b o e
  have fpok : ∀ {H' : Hp}, (∀ b ∈ fp, H' b = none) → ∀ b ∈ fp, FpOk (compCxT X scope xa xb cl s₃.heap.objs.size s₃ H3 fp) [] H' b := fun hn b hb => by
    obtain ⟨g0, g1, g2, g3, g4, g5⟩ := f3 b hb
    refine ⟨hn b hb, Nat.ne_of_lt (hobj b hb), ok'.exfs b hb, .inl hb, fun y c e => g4 y c (cl1 y c e), ?_⟩
    intro p hp; cases hp
  have loop : codeAny (model X.prog X.w) X.A (.compLoop (.ListComp elt [⟨tg, iter, [], 0⟩] scope pos) 0 (.ref it) (.ref D) (compEnvC scope cl s₃.heap.objs.size X.env)) (RR (.ref D) s₃.heap.objs.size) s₄ := by
    refine codeAny_compLoop_go (fun n s' => ∃ i ys wa wb H', Inv (compCxT X scope xa xb cl s₃.heap.objs.size s₃ H3 fp) [] (σ ++ [wa, wb]) H' s' ∧ tn i s'.heap ∧ (∀ b ∈ fp, H' b = none) ∧ W i n ys H') ?_ m0 ⟨0, [], none, none, H3, I4, st4, fun b hb => (f3 b hb).1, w0⟩
    rintro n s5 ⟨i, ys, wa, wb, H5, I5, st5, fr5, w5⟩
    rcases turn i n ys H5 w5 with ⟨stop, q⟩ | ⟨go, N, hN, step⟩
    · refine thn (T.done (compCxT X scope xa xb cl s₃.heap.objs.size s₃ H3 fp) rfl rfl rfl hc i [] s5 _ H5 _ I5 (fpok fr5) st5 stop) fun r s6 ⟨hr, I6⟩ => ?_
      subst hr
      obtain ⟨m6, hn6, _⟩ := I6.loc
      have IX : Inv X pins σ H5 s6 := I3.call' (ch := fp) I6.os I6.base I6.hok I6.bare fun b hb => by
        obtain ⟨g0, g1, g2, g3, g4, g5⟩ := f3 b hb
        exact ⟨g3, g1, g4, g5⟩
      exact hRR D _ H5 s6 IX (I3.fpOk (Nat.le_refl _) I6.free) ⟨m6, hn6⟩ q
    · refine thn (T.item (compCxT X scope xa xb cl s₃.heap.objs.size s₃ H3 fp) rfl rfl rfl hc i [] s5 _ H5 _ I5 (fpok fr5) st5 go) fun r s6 ⟨u, hr, h6⟩ => ?_
      subst hr
      refine thn h6 fun _ s7 ⟨v, H7, I7, r7, y7, st7, fr7⟩ => ?_
      have I7' := I7.pinned (fpok fr7) (T.obj _ _ st7)
      refine thn (hg cl s₃.heap.objs.size s₃ H3 fp _ s7 _ H7 v u _ I7' r7 (step wa wb v H7 y7)) fun _ s8 ⟨σ8, H8, I8, ⟨wa', wb', e8⟩, q8⟩ => ?_
      subst e8
      refine thn (he cl s₃.heap.objs.size s₃ H3 fp _ s8 _ H8 _ I8 q8) fun uy s9 ⟨y, H9, I9, r9, n9⟩ => ?_
      obtain ⟨hl9, hz9, m', hm', w9⟩ := hN y H9 n9
      refine thn (mt_append (X := compCxT X scope xa xb cl s₃.heap.objs.size s₃ H3 fp) _ s9 _ H9 (.ref D) [y] (.ref D) [uy] (fun v H' => H' = upd H9 D (.lst (ys ++ [y]))) I9 rfl (.cons r9 .nil) ⟨D, ys, y, rfl, rfl, hl9, hz9, rfl⟩) fun _ s10 ⟨_, H10, I10, _, e10⟩ => ?_
      subst e10
      refine ⟨m', hm', i + 1, ys ++ [y], wa', wb', _, I10.unpinned (pins := []), T.keep _ _ _ st7 fun b hb o e => (I10.pin (b, o) (List.mem_append_right _ (List.mem_append_right _ (mem_pinsAt hb e)))).1, fun b hb => ?_, w9⟩
      obtain ⟨o, e, d⟩ := T.obj _ _ st7 b hb
      exact (I10.pin (b, o) (List.mem_append_right _ (List.mem_append_right _ (mem_pinsAt hb e)))).2.1
  exact codeAny_compStart_list loop (T.self _ 0 _ _ _ st4 loop)
theorem pe_compT (O : CompOkT X scope xa xb) (hc : X.calm = true) (hi : PI X tg iter wi) (hg : ∀ cl C s₀ H₀ fp, PG (compCxT X scope xa xb cl C s₀ H₀ fp) tg g) (he : ∀ cl C s₀ H₀ fp, PE (compCxT X scope xa xb cl C s₀ H₀ fp) elt te)
    (hs : ∀ v, foldedSetIterable iter X.env v = pure v := by intro _; rfl) : PE X (.ListComp elt [⟨tg, iter, [], 0⟩] scope pos) (tCompT wi g te) := by
  intro pins s σ H Q I h
  obtain ⟨cl, hcl, cl1, cl2⟩ := closure_of (scope := scope) (env := X.env) fun y hy hf => I.ok.has _ (O.clos y hy hf)
  rw [eval_ListComp]
  refine wpAny_comprehension_free (use := none) rfl hs hcl O.kind O.names (thn (hi pins s σ H _ I h) fun v s1 h1 => thn h1 fun itv s2 h2 => ?_)
  obtain ⟨it, fp, tn, J, H2, e, I2, T, st2, f2, q⟩ := h2
  subst e
  refine comp_blockT (RR := fun acc C => compPost (model X.prog X.w) X.A X.xe none (EP X pins σ Q) acc C) O hc cl1 cl2 hg he I2 T st2 f2 q ?_
  intro D C H' s' I' ⟨g0, g1, g2, g3, g4, g5⟩ ⟨m, hm⟩ hq
  exact ⟨m, hm, fun h' hs' => ⟨.ref D, H', I'.turned (t' := s'.toks) (fun b o hb e => (hs'.2 b hb).trans e) g0 g1 g3 g4 g5, rfl, hq⟩⟩
end
theorem comp_enum {x : Str} {g : TG} {te : TE} {σ : St} {D : Addr} {Q : VK} {H : Hp} (hn : x.cps.size ≤ sizeLine) (Pv : Nat → List V → Hp → Prop) (h0 : Pv 0 [] (upd H D (.lst []))) (hl : ∀ i ys H, Pv i ys H → ys.length = i)
    (hs : ∀ i c t ys H wa wb, x.cps[i]? = some c → H t = none → Pv i ys H → g (.ref t) (σ ++ [wa, wb]) (upd H t (.tup [.int ((i : Int) + 1), .str ⟨#[c]⟩])) fun σ' H' => (∃ wa wb, σ' = σ ++ [wa, wb]) ∧ te σ' H' fun y H4 => H4 D = some (.lst ys) ∧ Pv (i + 1) (ys ++ [y]) (upd H4 D (.lst (ys ++ [y]))))
    (hd : ∀ ys H, Pv x.cps.size ys H → Q (.ref D) H) : CompT (Ite x) g te σ D Q H := by
  refine ⟨fun i m ys H => m = x.cps.size - i ∧ i ≤ x.cps.size ∧ Pv i ys H, ⟨x.cps.size, by simp, Nat.zero_le _, h0⟩, ?_⟩
  rintro i m ys H2 ⟨rfl, hi, p⟩
  have hlen := hl i ys _ p
  by_cases hlt : i < x.cps.size
  · refine .inr ⟨hlt, _, fun y H4 (q : H4 D = some (.lst ys) ∧ Pv (i + 1) (ys ++ [y]) (upd H4 D (.lst (ys ++ [y])))) => ⟨q.1, by omega, x.cps.size - (i + 1), by omega, rfl, hlt, q.2⟩, fun wa wb v H3 y => ?_⟩
    obtain ⟨t, c, e1, e2, e3, e4⟩ := y
    subst e3 e4
    exact hs i c t ys _ wa wb e2 e1 p
  · have e : i = x.cps.size := by omega
    subst e
    exact .inl ⟨Nat.le_refl _, hd ys H2 p⟩
end L2
set_option maxHeartbeats 2000000
namespace L2
open PySem PySem.Spec PyProof.Rows
end L2
namespace L2
open PySem
structure TxtB (mg : Str → Option Value) : Prop where
  len : mg "len" = none
  abs : mg "abs" = none
  int : mg "int" = none
  range : mg "range" = none
  min : mg "min" = none
  max : mg "max" = none
  repr : mg "repr" = none
  enumerate : mg "enumerate" = none
  ord : mg "ord" = none
  list : mg "list" = none
  tuple : mg "tuple" = none
  dict : mg "dict" = none
  sorted : mg "sorted" = none
  sum : mg "sum" = none
  all : mg "all" = none
  any : mg "any" = none
  divmod : mg "divmod" = none
  str : mg "str" = none
  isinstance : mg "isinstance" = none
  set : mg "set" = none
  zip : mg "zip" = none
  reversed : mg "reversed" = none
  bool : mg "bool" = none
abbrev DTk (P : Program) (w : World) (K : PySem.W.Frag) (mg : Str → Option Value) (base : Heap) (k : Nat) : Prop := Def P w K mg base k "_law_take" ["_law_box_here", "_law_many"] (spTakeS 4611686018427387904)
theorem FnOk.conv {P : Program} {w : World} {K : PySem.W.Frag} {mg : Str → Option Value} {base : Heap} {k : Nat} {f : Addr} {fd : FuncData} {ps : List Str} {sp sp' : Sp} (F : FnOk P w K mg base CX0 k f fd ps sp) (h : ∀ vs H Q E, sp' vs H Q E → sp vs H Q E) : FnOk P w K mg base CX0 k f fd ps sp' :=
  ⟨fun vs H Q E z => F.len vs H Q E (h vs H Q E z), fun A outer s H args us vs Q E hr he hb hv z => F.run A outer s H args us vs Q E hr he hb hv (h vs H Q E z)⟩
theorem Def.conv {P : Program} {w : World} {K : PySem.W.Frag} {mg : Str → Option Value} {base : Heap} {k : Nat} {x : Str} {ps : List Str} {sp sp' : Sp} (D : Def P w K mg base k x ps sp) (h : ∀ vs H Q E, sp' vs H Q E → sp vs H Q E) : Def P w K mg base k x ps sp' :=
  let ⟨f, fd, F, b, kp, m⟩ := D; ⟨f, fd, F.conv h, b, kp, m⟩
theorem atI_of {α : Type} {xs : List α} {r : Int} {v : α} (h0 : 0 ≤ r) (h : xs[r.toNat]? = some v) : atI xs r = some v := by
  have z : atI xs ((r.toNat : Nat) : Int) = some v := atI_nat h
  rwa [show ((r.toNat : Nat) : Int) = r by omega] at z
theorem small {n m : Nat} (h : n ≤ m) (hm : m ≤ 100000 := by decide) : n ≤ sizeLine := Nat.le_trans (Nat.le_trans h hm) (by decide)
theorem smallL {n m : Nat} (h : n ≤ m) (hm : m ≤ 100000 := by decide) : n < sizeLine := Nat.lt_of_le_of_lt (Nat.le_trans h hm) (by decide)
end L2
set_option maxHeartbeats 2000000
namespace L2
open PySem
def DefM (P : Program) (w : World) (K : PySem.W.Frag) (mg : Str → Option Value) (base : Heap) (k : Nat) (C : Addr) (m : Str) (ps : List Str) (sp : Sp) : Prop := ∃ f fd, FnOk P w K mg base CX0 k f fd ps sp ∧ Binds K fd ps [] ∧ Meth K C m f
theorem DefM.mono {P : Program} {w : World} {K : PySem.W.Frag} {mg : Str → Option Value} {base : Heap} {j k : Nat} {C : Addr} {m : Str} {ps : List Str} {sp : Sp} (D : DefM P w K mg base j C m ps sp) (h : j ≤ k) : DefM P w K mg base k C m ps sp :=
  let ⟨f, fd, F, b, q⟩ := D; ⟨f, fd, F.mono h, b, q⟩
section
variable {X : Cx} {k : Nat} {C : Addr} {m : Str} {ps : List Str} {sp : Sp} {pos apos : Pos} {o e : Expr} {es : List Expr} {ta : TE} {t : TA}
theorem pe_m {pl : Sem Bool} (D : DefM X.prog X.w X.K X.mg X.base k C m ps sp) (c : Cls X.K C) (hr : Room k X.A) (he : PE X o ta) (ha : PA X (e :: es) t)
    (hst : starEach (e :: es) X.env = (false, eval e X.env) :: starEach es X.env := by rfl) (hpl : (backTo pos (starEach es X.env)).any (·.1) = false := by rfl)
    (ht : eval (.Call (.Attribute o m apos) (e :: es) [] pos) X.env = (do
      let ov ← eval o X.env
      standAt apos.atName
      let (f, first) ← holding [ov] (getMethod ov m pl)
      callWith pos f first (backTo pos (starEach (e :: es) X.env)) (backToKw pos (keywordEach [] X.env))) := by rfl) :
    PE X (.Call (.Attribute o m apos) (e :: es) [] pos) (tMeth C m sp [] E0 ta t) := by
  obtain ⟨f, fd, F, b, q⟩ := D
  exact pe_meth he c q F hr b .nil pass0 ha hst hpl ht
end
def Kq (S : List Addr) (H H' : Hp) : Prop := ∀ b o, b ∉ S → H b = some o → H' b = some o
theorem Kq.trans {S : List Addr} {H H1 H2 : Hp} (a : Kq S H H1) (b : Kq S H1 H2) : Kq S H H2 := fun x o n h => b x o n (a x o n h)
theorem Kq.sub {S S' : List Addr} {H H' : Hp} (a : Kq S H H') (h : ∀ b ∈ S, b ∈ S') : Kq S' H H' := fun x o n e => a x o (fun z => n (h x z)) e
theorem Same.kq {S : List Addr} {H H' : Hp} (h : Same H H') : Kq S H H' := fun b o _ e => h b o e
theorem kq_upd {H : Hp} {a : Addr} {o : HO} : Kq [a] H (upd H a o) := fun b u n e => by rw [upd_ne (fun z => n (by simp [z]))]; exact e
theorem nt : ¬ (("tables" : Str) = "nodes") := by decide +kernel
theorem tn : ¬ (("nodes" : Str) = "tables") := by decide +kernel
def flds (ln dt : Addr) : List (Str × V) := putF "tables" (.ref dt) (putF "nodes" (.ref ln) [])
theorem flds_n (ln dt : Addr) : (flds ln dt).lookup ("nodes" : Str) = some (.ref ln) := by unfold flds; rw [lookup_putF, if_neg tn, lookup_putF, if_pos rfl]
theorem flds_t (ln dt : Addr) : (flds ln dt).lookup ("tables" : Str) = some (.ref dt) := by unfold flds; rw [lookup_putF, if_pos rfl]
theorem flds_no (ln dt : Addr) {m : Str} (h1 : ¬ m = "tables") (h2 : ¬ m = "nodes") : (flds ln dt).lookup m = none := by
  unfold flds
  rw [lookup_putF, if_neg h1, lookup_putF, if_neg h2]
  rfl
structure StoreAt (K : PySem.W.Frag) (C st ln dt : Addr) (H : Hp) (nds : List Nd) (tabs : List (Key × V)) : Prop where
  ob : ∃ dx, H st = some (.ins C dx (flds ln dt))
  nl : ∃ as : List Addr, H ln = some (.lst (as.map V.ref)) ∧ as.length = nds.length ∧ ∀ (i : Nat) (a : Addr) (n : Nd), as[i]? = some a → nds[i]? = some n → NodeAt K H a n
  tb : H dt = some (.dK tabs)
theorem StoreAt.keep {K : PySem.W.Frag} {C st ln dt : Addr} {H H' : Hp} {nds : List Nd} {tabs : List (Key × V)} (S : StoreAt K C st ln dt H nds tabs) (h : Same H H') : StoreAt K C st ln dt H' nds tabs := by
  obtain ⟨⟨dx, e⟩, ⟨as, e2, l, hn⟩, e3⟩ := S
  exact ⟨⟨dx, h _ _ e⟩, ⟨as, h _ _ e2, l, fun i a n x y => (hn i a n x y).tf h.tf⟩, h _ _ e3⟩
theorem StoreAt.kq {K : PySem.W.Frag} {C st ln dt : Addr} {H H' : Hp} {nds : List Nd} {tabs : List (Key × V)} {L : List Addr} (S : StoreAt K C st ln dt H nds tabs) (k : Kq L H H') (t : TF H H') (h1 : st ∉ L) (h2 : ln ∉ L) (h3 : dt ∉ L) : StoreAt K C st ln dt H' nds tabs := by
  obtain ⟨⟨dx, e⟩, ⟨as, e2, l, hn⟩, e3⟩ := S
  exact ⟨⟨dx, k _ _ h1 e⟩, ⟨as, k _ _ h2 e2, l, fun i a n x y => (hn i a n x y).tf t⟩, k _ _ h3 e3⟩
theorem Grown.kq {Pl : Addr} {H H' : Hp} (g : Grown Pl H H') : Kq [Pl] H H' := fun b o n e => g b o (fun z => n (by simp [z])) e
theorem LamAt.kq {H H' : Hp} {Pl : Addr} {lpos : Pos} {q : Str} {L : List Addr} (h : LamAt H Pl lpos q) (k : Kq L H H') (hL : ∀ b ∈ L, ∃ xs, H b = some (.lst xs)) : LamAt H' Pl lpos q := by
  rcases h with h | ⟨c, h, h2⟩
  · exact .inl (k _ _ (fun z => by obtain ⟨_, e⟩ := hL _ z; rw [h] at e; cases e) h)
  · exact .inr ⟨c, k _ _ (fun z => by obtain ⟨_, e⟩ := hL _ z; rw [h] at e; cases e) h, k _ _ (fun z => by obtain ⟨_, e⟩ := hL _ z; rw [h2] at e; cases e) h2⟩
theorem putK_mem {κ : Type} [DecidableEq κ] {kvs : List (κ × V)} {k : κ} {v : V} {q : κ × V} (h : q ∈ putK kvs k v) : q.1 = k ∨ ∃ r ∈ kvs, q.1 = r.1 := by
  unfold putK at h
  split at h
  · obtain ⟨r, hr, e⟩ := List.mem_map.mp h
    split at e
    · rw [← e]; exact .inr ⟨r, hr, rfl⟩
    · rw [← e]; exact .inr ⟨r, hr, rfl⟩
  · rcases List.mem_append.mp h with h | h
    · exact .inr ⟨q, h, rfl⟩
    · rw [List.mem_singleton.mp h]; exact .inl rfl
theorem putK_len {κ : Type} [DecidableEq κ] {kvs : List (κ × V)} {k : κ} {v : V} : (putK kvs k v).length ≤ kvs.length + 1 := by
  unfold putK
  split
  · rw [List.length_map]; omega
  · rw [List.length_append]; exact Nat.le_refl _
theorem putK_ne {κ : Type} [DecidableEq κ] {kvs : List (κ × V)} {k : κ} {v : V} : putK kvs k v ≠ [] := by
  unfold putK
  split
  · rename_i h
    intro z
    rw [List.map_eq_nil_iff] at z
    rw [z] at h; cases h
  · intro z; simp at z
theorem atI_mem {α : Type} {xs : List α} {r : Int} (h0 : 0 ≤ r) (h1 : r < (xs.length : Int)) : ∃ v, atI xs r = some v ∧ v ∈ xs := by
  have hk : r.toNat < xs.length := by omega
  have z : atI xs ((r.toNat : Nat) : Int) = some xs[r.toNat] := atI_nat (List.getElem?_eq_getElem hk)
  have e : ((r.toNat : Nat) : Int) = r := by omega
  rw [e] at z
  exact ⟨_, z, List.getElem_mem hk⟩
def IsVal : V → Prop
  | .int i => i.natAbs ≤ 10 ^ 31
  | .str x => x.length ≤ 41 ∧ x.cps.toList.all sgn = true
  | _ => False
def valOk : V → Bool
  | .int i => decide (i.natAbs ≤ 10 ^ 31)
  | .str x => decide (x.length ≤ 41) && x.cps.toList.all sgn
  | _ => false
theorem isVal_of {v : V} (h : valOk v = true) : IsVal v := by
  cases v with
  | int i => exact of_decide_eq_true (p := i.natAbs ≤ 10 ^ 31) h
  | str x =>
    have h' : (decide (x.length ≤ 41) && x.cps.toList.all sgn) = true := h
    simp only [Bool.and_eq_true, decide_eq_true_eq] at h'
    exact h'
  | _ => cases h
def spValue : Sp := fun vs H Q _ => ∃ (p : Addr) (n : Nat), vs = [.ref p] ∧ BoxAt H p n ∧ n ≤ 900000 ∧ ∀ (v : V) (H' : Hp), IsVal v → BoxAt H' p (n + 50) → Kp p H H' → Q v H'
def litOf : List Stmt → Str
  | .Assign _ (.Constant (.str x) _ _) _ :: _ => x
  | _ :: r => litOf r
  | [] => Str.empty
def compChkT (N : List Str) (names : List (Str × NameKind)) (scope : Scope) (xa xb : Str) : Bool :=
  decide ((hid2 N xa xb ++ [xa, xb]).Nodup) && scope.names.all (fun y => (y.2 != .free || names.lookup y.1 == some .cell || names.lookup y.1 == some .free) && (y.2 != .cell && (y.2 != .local || scope.names.lookup y.1 == some .local))) &&
  (scope.kind == .function && N.all fun y => (y == xa || y == xb) || scope.names.lookup y != some .local) && scope.names.lookup ("" : Str) == none
theorem CompOkT.of {X : Cx} {scope : Scope} {xa xb : Str} (N : List Str) (st : Stmt) (hN : X.N = N) (hn : X.env.scope = defScope st) (chk : compChkT N (defScope st).names scope xa xb = true) : CompOkT X scope xa xb := by
  unfold compChkT at chk
  simp only [Bool.and_eq_true, decide_eq_true_eq, List.all_eq_true, Bool.or_eq_true, bne_iff_ne, beq_iff_eq] at chk
  obtain ⟨⟨⟨c1, c2⟩, c3, c5⟩, c6⟩ := chk
  refine ⟨by rw [hN]; exact c1, fun y hy hf => ?_, fun y hy => (c2 y hy).2.1, c3, fun y hy hl => ?_, fun y hy hx => (c5 y (by rw [← hN]; exact hy)).resolve_left hx, c6⟩
  · show X.env.scope.names.lookup y.1 = _ ∨ X.env.scope.names.lookup y.1 = _
    rw [hn]
    rcases (c2 y hy).1 with (z | z) | z
    · exact absurd hf z
    · exact .inl z
    · exact .inr z
  · rcases (c2 y hy).2.2 with z | z
    · exact absurd hl z
    · exact z
theorem pg_tup2 {X : Cx} {K : PySem.W.Frag} (hK : X.K = K) (hc : X.calm = true) {xa xb : Str} {pa pb tp : Pos} {j : Nat} {ga gb : TG} (ha : PG X (.Name xa pa) ga) (hb : PG X (.Name xb pb) gb) : PG X (.Tuple [.Name xa pa, .Name xb pb] j tp) (gTup K 2 (gCons ga (gCons gb gNil))) := by
  subst hK
  exact pg_tup hc (pgs_cons ha (pgs_cons hb pgs_nil))
theorem FnOk.ex {P : Program} {w : World} {K : PySem.W.Frag} {mg : Str → Option Value} {base : Heap} {k : Nat} {f : Addr} {fd : FuncData} {ps : List Str} {ok : List Str → Prop} {sp : List Str → Sp} (F : ∀ NS, ok NS → FnOk P w K mg base CX0 k f fd ps (sp NS)) :
    FnOk P w K mg base CX0 k f fd ps (fun vs H Q E => ∃ NS, ok NS ∧ sp NS vs H Q E) :=
  ⟨fun vs H Q E ⟨NS, N, h⟩ => (F NS N).len vs H Q E h, fun A outer s H args us vs Q E hr he hb hv ⟨NS, N, h⟩ => (F NS N).run A outer s H args us vs Q E hr he hb hv h⟩
theorem SqL.kq {K : PySem.W.Frag} {H H' : Hp} {a : Addr} {xs : List V} {L : List Addr} (h : SqL K H a xs) (k : Kq L H H') (hL : a ∉ L) : SqL K H' a xs := by
  rcases h with (h | ⟨o, h⟩) | h
  · exact .inl (.inl (k _ _ hL h))
  · exact .inl (.inr ⟨o, k _ _ hL h⟩)
  · exact .inr h
def DefI (P : Program) (w : World) (K : PySem.W.Frag) (mg : Str → Option Value) (base : Heap) (k : Nat) (C : Addr) (x : Str) (ps : List Str) (sp : Sp) : Prop := ∃ f fd, FnOk P w K mg base CX0 k f fd ps sp ∧ Binds K fd ps [] ∧ Mk K C f ∧ mg x = some (.ref C)
theorem pe_i0 {X : Cx} {k : Nat} {C : Addr} {x : Str} {ps : List Str} {sp : Sp} {p pos : Pos} (D : DefI X.prog X.w X.K X.mg X.base k C x ps sp) (hr : Room (k + 1) X.A) (hg : Gl X x := by rfl) (hdb : (x == ("__debug__" : Str)) = false := by decide) :
    PE X (.Call (.Name x p) [] [] pos) (tMake C sp [] E0 tNil) := by
  obtain ⟨f, fd, F, b, M, m⟩ := D
  exact pe_make0 M F hr hg m b .nil pass0 hdb
theorem SqL.obj {K : PySem.W.Frag} {H : Hp} {a : Addr} {xs : List V} (h : SqL K H a xs) : (∀ H', SqL K H' a xs) ∨ ∃ o, H a = some o ∧ (∀ tb, o ≠ .tbl tb) ∧ ∀ H', H' a = some o → SqL K H' a xs := by
  rcases h with (h | ⟨o, h⟩) | h
  · exact .inr ⟨_, h, (fun tb z => by cases z), fun H' e => .inl (.inl e)⟩
  · exact .inr ⟨_, h, (fun tb z => by cases z), fun H' e => .inl (.inr ⟨o, e⟩)⟩
  · exact .inl fun H' => .inr h
theorem none_back {H H' : Hp} {a : Addr} (s : Same H H') (h : H' a = none) : H a = none := by
  cases e : H a with
  | none => rfl
  | some o => rw [s _ _ e] at h; cases h
end L2
set_option maxHeartbeats 4000000
namespace K6
open PySem L2
def top (i : Nat) : Stmt := PySem.Challenge.pw_roadsettings_k06_nodes_made_and_kept.main.body.getD i (.Pass ⟨0, 0, 0, 0⟩)
abbrev s_alike : Stmt := top 6
abbrev s_mark : Stmt := top 7
abbrev s_digit : Stmt := top 8
abbrev s_leaf_of : Stmt := top 13
abbrev s_fork_of : Stmt := top 14
abbrev s_parts_in : Stmt := top 15
abbrev s_pairs_in : Stmt := top 16
abbrev s_has_mark : Stmt := top 17
abbrev c_Store___init__ : Stmt := inClass (top 19) 0
abbrev c_Store_put : Stmt := inClass (top 19) 2
abbrev c_Store_without : Stmt := inClass (top 19) 3
abbrev c_Store_looked : Stmt := inClass (top 19) 4
abbrev c_Store_pairs : Stmt := inClass (top 19) 6
abbrev c_Store_way : Stmt := inClass (top 19) 7
abbrev c_Store_node : Stmt := inClass (top 19) 8
abbrev c_Store_made : Stmt := inClass (top 19) 9
abbrev c_Store_check_table : Stmt := inClass (top 19) 10
abbrev c_Store_pairs_below : Stmt := inClass (top 19) 11
abbrev c_Store_keep : Stmt := inClass (top 19) 12
abbrev c_Store_as_table : Stmt := inClass (top 19) 13
abbrev c_Store_put_in : Stmt := inClass (top 19) 14
abbrev c_Store_fork_parts : Stmt := inClass (top 19) 15
abbrev c_Store_taken_from : Stmt := inClass (top 19) 16
abbrev s_l_cell_at : Stmt := top 21
abbrev s_l_box : Stmt := top 22
abbrev s_l_take : Stmt := top 23
abbrev s_l_mark : Stmt := top 24
abbrev s_l_digit : Stmt := top 25
abbrev s_l_of_mark : Stmt := top 26
abbrev s_l_names : Stmt := top 27
abbrev s_l_value : Stmt := top 28
abbrev s_l_some_value : Stmt := top 29
abbrev s_l_deed : Stmt := top 30
abbrev s_l_way : Stmt := top 31
abbrev s_l_off_way : Stmt := top 32
abbrev s_l_made_right : Stmt := top 33
abbrev s_law : Stmt := top 34
section
variable {P : Program} {w : World} {K : PySem.W.Frag} {mg : Str → Option Value} {base : Heap}
theorem scC : FnScope ["_law_script", "_law_k"] ["_law_script", "_law_k"] (defScope s_l_cell_at) := ⟨rfl, rfl, rfl, by decide +kernel, rfl, by decide +kernel, by decide +kernel⟩
theorem ok_cell {f : Addr} {fd : FuncData} (F : Fun K "_law_cell_at" "_law_cell_at" s_l_cell_at f fd) (T : TxtB mg) : FnOk P w K mg base CX0 1 f fd ["_law_script", "_law_k"] (spCell K) := by
  refine F.ok scC (fun vs H Q E h => ?_) (fun cdv A outer s H vs Q E hr h => ?_)
  · obtain ⟨a, ns, k, rfl, _⟩ := h; rfl
  obtain ⟨a, ns, k, rfl, hS, h0, q⟩ := h
  refine ⟨_, pss_cons (ps_if (pt_cmpR op_lt (pv 1) (pe_callB call_len_seq rfl T.len PySem.boot_len (pa_cons (pv 0) pa_nil)) (nomark _)) (pss_one (ps_ret (pe_ix ix_list (pv 0) (pv 1) (fun _ _ => rfl)))) pss_nil)
    (pss_one (ps_ret pe_int)), ?_⟩
  refine ⟨_, rfl, _, rfl, a, _, rfl, .inl hS, _, _, rfl, rfl, _, rfl, ?_⟩
  refine ite2 (fun c => ?_) (fun c => ?_)
  · have c' : k < (((ns.map V.int).length : Nat) : Int) := of_decide_eq_true c
    rw [List.length_map] at c'
    have hk : k.toNat < ns.length := by omega
    have ek : k = ((k.toNat : Nat) : Int) := by omega
    have hat : atI (ns.map V.int) k = some (.int ns[k.toNat]) := by
      have z : atI (ns.map V.int) ((k.toNat : Nat) : Int) = some (.int ns[k.toNat]) := atI_nat (by rw [List.getElem?_map, List.getElem?_eq_getElem hk]; rfl)
      rwa [← ek] at z
    exact ⟨_, rfl, _, rfl, a, _, _, _, rfl, rfl, hS, hat, q _⟩
  · exact q 0
theorem scB : FnScope ["_law_script", "_law_k", "_law_cell"] ["_law_script", "_law_k"] (defScope s_l_box) := ⟨rfl, rfl, rfl, by decide +kernel, rfl, by decide +kernel, by decide +kernel⟩
theorem ok_box {f : Addr} {fd : FuncData} (F : Fun K "_law_box" "_law_box" s_l_box f fd) (T : TxtB mg) (D : Def P w K mg base 1 "_law_cell_at" ["_law_script", "_law_k"] (spCell K)) : FnOk P w K mg base CX0 2 f fd ["_law_script", "_law_k"] (spBox K) := by
  refine F.ok scB (fun vs H Q E h => ?_) (fun cdv A outer s H vs Q E hr h => ?_)
  · obtain ⟨a, ns, k, rfl, _⟩ := h; rfl
  obtain ⟨a, ns, k, rfl, hS, h0, h1, q⟩ := h
  refine ⟨_, pss_cons (ps_set (i := 2) scB.nd rfl (Or.inl rfl) (pe_d D hr (pa_cons (pv 0) (pa_cons (pv 1) pa_nil))))
    (pss_one (ps_ret (pe_lst (pa_cons (pe_op op_mul (pe_callB call_abs rfl T.abs (by decide +kernel) (pa_cons (pv 2) pa_nil)) (pe_callTy call_int1 rfl T.int (by decide +kernel) (pa_cons (pe_cmpR op_ge (pe_callB call_abs rfl T.abs (by decide +kernel) (pa_cons (pv 2) pa_nil)) (pe_op op_pow pe_int pe_int) (nomark _)) pa_nil)))
      (pa_cons (pe_op op_add (pe_op op_add (pe_op op_mod (pv 2) pe_int) (pe_op op_mul pe_int (pv 1))) pe_int) (pa_cons pe_int pa_nil)))))), ?_⟩
  refine ⟨_, rfl, _, rfl, a, ns, k, rfl, hS, h0, fun r => ?_⟩
  refine ⟨_, rfl, _, rfl, ⟨_, rfl, _, rfl, _, _, rfl, rfl, ⟨by decide, by decide, by decide⟩, _, _, rfl, rfl, .inr ⟨_, rfl, ?_⟩⟩⟩
  generalize hb : decide ((10 : Int) ^ (Int.toNat 18) ≤ (if r < 0 then -r else r)) = bb
  refine ⟨_, _, rfl, rfl, .inr (by cases bb <;> exact ⟨by decide, by decide⟩), _, rfl, _, _, rfl, rfl, (by show (0 : Int) < _; decide), _, rfl, _, _, rfl, rfl, .inl ⟨by decide, by decide⟩, _, _, rfl, rfl, _, _, rfl, rfl, (by show 3 ≤ sizeLine; decide), fun p hp => ?_⟩
  refine q p _ hp ⟨_, _, 0, upd_same, ?_, by decide, by decide⟩ (same_new hp _)
  cases bb
  · simp
  · simp only [if_true, Int.mul_one]; split <;> omega
theorem scT : FnScope ["_law_box_here", "_law_many", "_law_found", "_law_once", "_law_twice"] ["_law_box_here", "_law_many"] (defScope s_l_take) := ⟨rfl, rfl, rfl, by decide +kernel, rfl, by decide +kernel, by decide +kernel⟩
theorem ok_take {f : Addr} {fd : FuncData} (F : Fun K "_law_take" "_law_take" s_l_take f fd) : FnOk P w K mg base CX0 1 f fd ["_law_box_here", "_law_many"] (spTake 4611686018427387904) := by
  refine F.ok scT (fun vs H Q E h => ?_) (fun cdv A outer s H vs Q E hr h => ?_)
  · obtain ⟨p, n, m, rfl, _⟩ := h; rfl
  obtain ⟨p, n, m, rfl, ⟨a, b, c, hp, ha, hc, hcn⟩, hn, hm0, hmM, q⟩ := h
  refine ⟨_, pss_cons (ps_if (pt_cmpR op_gt (pe_ix ix_list (pv 0) pe_int (fun _ _ => rfl)) pe_int (nomark _))
      (pss_cons (ps_set (i := 2) scT.nd rfl (Or.inl rfl) (pe_op op_mod (pe_ix ix_list (pv 0) pe_int (fun _ _ => rfl)) (pv 1)))
        (pss_cons (ps_asg (pe_op op_fdivL (pe_ix ix_list (pv 0) pe_int (fun _ _ => rfl)) (pv 1)) (pg_sub (pv 0) pe_int set_list)) (pss_one (ps_ret (pv 2))))) pss_nil)
    (pss_cons (ps_asg (pe_op op_add (pe_ix ix_list (pv 0) pe_int (fun _ _ => rfl)) pe_int) (pg_sub (pv 0) pe_int set_list))
    (pss_cons (ps_set (i := 3) scT.nd rfl (Or.inl rfl) (pe_op op_mod (pe_op op_mul (pe_op op_add (pe_ix ix_list (pv 0) pe_int (fun _ _ => rfl)) (pe_op op_mul pe_int (pe_ix ix_list (pv 0) pe_int (fun _ _ => rfl)))) (pe_op op_add pe_int (pe_ix ix_list (pv 0) pe_int (fun _ _ => rfl)))) pe_int))
    (pss_cons (ps_set (i := 4) scT.nd rfl (Or.inl rfl) (pe_op op_mod (pe_op op_mul (pe_op op_add (pv 3) (pe_ix ix_list (pv 0) pe_int (fun _ _ => rfl))) (pe_op op_add (pe_op op_mod (pv 3) pe_int) pe_int)) pe_int))
    (pss_one (ps_ret (pe_op op_mod (pe_op op_fdiv (pe_op op_mod (pe_op op_add (pe_op op_mul (pv 4) pe_int) (pv 3)) pe_int) pe_int) (pv 1))))))), ?_⟩
  refine ⟨_, rfl, p, _, _, _, rfl, rfl, SqL.of hp, rfl, _, _, rfl, rfl, _, rfl, ?_⟩
  refine ite2 (fun c' => ?_) (fun c' => ?_)
  · have h0 : 0 < a := of_decide_eq_true c'
    refine ⟨_, rfl, p, _, _, _, rfl, rfl, SqL.of hp, rfl, _, rfl, _, _, rfl, rfl, hm0, ?_⟩
    refine ⟨_, rfl, p, _, _, _, rfl, rfl, SqL.of hp, rfl, _, rfl, _, _, rfl, rfl, ⟨hm0, by have h4 : m < 4611686018427387904 := hmM; omega⟩, ?_⟩
    refine ⟨_, rfl, p, _, _, _, rfl, rfl, hp, rfl, ?_⟩
    refine ⟨_, rfl, ?_⟩
    exact q _ _ (Int.emod_nonneg _ (by omega)) (Int.emod_lt_of_pos _ hm0) ⟨a / m, b, c, upd_same, Int.ediv_nonneg ha (by omega), hc, by omega⟩ (Kp.upd _ _ _)
  · refine ⟨_, rfl, p, _, _, _, rfl, rfl, SqL.of hp, rfl, _, _, rfl, rfl, ?_⟩
    refine ⟨_, rfl, p, _, _, _, rfl, rfl, hp, rfl, ?_⟩
    have hp1 : upd H p (.lst [.int a, .int b, .int (c + 1)]) p = some (.lst [.int a, .int b, .int (c + 1)]) := upd_same
    refine ⟨_, rfl, p, _, _, _, rfl, rfl, SqL.of hp1, rfl, _, rfl, p, _, _, _, rfl, rfl, SqL.of hp1, rfl, _, _, rfl, rfl, .inl ⟨by decide, by decide⟩, _, _, rfl, rfl, _, rfl, p, _, _, _, rfl, rfl, SqL.of hp1, rfl, _, _, rfl, rfl, _, _, rfl, rfl, .inr ⟨by omega, by omega⟩, _, _, rfl, rfl, (by show (0 : Int) < _; decide), ?_⟩
    generalize hO : ((b + 48271 * (c + 1)) * (39373 + (c + 1))) % 2147483647 = once
    have hO0 : 0 ≤ once := by rw [← hO]; exact Int.emod_nonneg _ (by decide)
    refine ⟨_, rfl, _, rfl, p, _, _, _, rfl, rfl, SqL.of hp1, rfl, _, _, rfl, rfl, _, rfl, _, _, rfl, rfl, (by show (0 : Int) < _; decide), _, _, rfl, rfl, _, _, rfl, rfl, .inr ?_, _, _, rfl, rfl, (by show (0 : Int) < _; decide), ?_⟩
    · have := Int.emod_nonneg once (show (40009 : Int) ≠ 0 by decide)
      have := Int.emod_lt_of_pos once (show (0 : Int) < 40009 by decide)
      exact ⟨by omega, by omega⟩
    generalize hW : ((once + (c + 1)) * (once % 40009 + 7)) % 2147483629 = twice
    refine ⟨_, rfl, _, _, rfl, rfl, .inr ⟨by decide, by decide⟩, _, rfl, _, _, rfl, rfl, _, _, rfl, rfl, (by show (0 : Int) < _; decide), _, _, rfl, rfl, ⟨by decide, by decide⟩, _, rfl, _, _, rfl, rfl, hm0, ?_⟩
    exact q _ _ (Int.emod_nonneg _ (by omega)) (Int.emod_lt_of_pos _ hm0) ⟨a, b, c + 1, hp1, ha, by omega, by omega⟩ (Kp.upd _ _ _)
end
structure Txt (K : PySem.W.Frag) (mg : Str → Option Value) : Prop extends TxtB mg where
  base : ∃ t, mg "BASE" = some (.int 4 t)
  zero : ∃ t, mg "BARE_NUMBER" = some (.int 0 t)
  bare : ∃ a, mg "BARE" = some (.ref a) ∧ ∀ H, SqT K H a [.str "bare"]
  figs : ∃ a, mg "FIGURES" = some (.ref a) ∧ ∀ H, SqT K H a [.int 0, .int 1, .int 2, .int 3]
section
variable {P : Program} {w : World} {K : PySem.W.Frag} {mg : Str → Option Value} {base : Heap}
def mkTo (l : List Nat) : Nat → Int
  | 0 => 0
  | i + 1 => mkTo l i + ((i : Int) + 1) * (((l.getD i 0 : Nat) : Int) - 97 + 1)
def spMark : Sp := fun vs H Q _ => ∃ x : Str, vs = [.str x] ∧ x.length ≤ 1000 ∧ ∀ H', Same H H' → Q (.int (mkTo x.cps.toList x.length)) H'
def spDigit : Sp := fun vs H Q _ => ∃ (n : Int) (k : Nat), vs = [.int n, .int k] ∧ 0 ≤ n ∧ k ≤ 1000 ∧ Q (.int (n / 4 ^ k % 4)) H
theorem oa : (Str.ofString "a").cps.getD 0 0 = 97 := by decide +kernel
theorem scM : FnScope ["name", "total", "place", "letter"] ["name"] (defScope s_mark) := ⟨rfl, rfl, rfl, by decide +kernel, rfl, by decide +kernel, by decide +kernel⟩
theorem ok_mark {f : Addr} {fd : FuncData} (F : Fun K "mark" "mark" s_mark f fd) (T : Txt K mg) : FnOk P w K mg base CX0 1 f fd ["name"] spMark := by
  refine F.ok scM (fun vs H Q E h => ?_) (fun cdv A outer s H vs Q E hr h => ?_)
  · obtain ⟨x, rfl, _⟩ := h; rfl
  obtain ⟨x, rfl, hx, q⟩ := h
  refine' ⟨?t, ?h, ?r⟩
  case h =>
    conv => arg 2; whnf
    with_reducible refine' pss_cons ?a1 (pss_cons ?a2 (pss_one ?a3))
    case a1 => exact ps_set (i := 1) scM.nd rfl (Or.inl rfl) pe_int
    case a2 => exact ps_for PassesOwn.never rfl (pi_enum1 rfl T.enumerate (pv 0)) (pg_tup rfl (pgs_cons (pg_name (i := 2) scM.nd rfl (Or.inl rfl)) (pgs_cons (pg_name (i := 3) scM.nd rfl (Or.inl rfl)) pgs_nil))) (pss_one (ps_aug (i := 1) scM.nd rfl (Or.inl rfl) (pe_op op_mul (pv 2) (pe_op op_add (pe_op op_sub (pe_callB call_ord rfl T.ord (by decide +kernel) (pac (pv 3) pa_nil)) (pe_callB call_ord rfl T.ord (by decide +kernel) (pac pe_str pa_nil))) pe_int)) ip_add))
    case a3 => exact ps_ret (pv 1)
  refine ⟨_, rfl, x, rfl, ?_⟩
  refine for_enum (fun i σ H' => ∃ y2 y3, σ = [some (.str x), some (.int (mkTo x.cps.toList i)), y2, y3] ∧ Same H H' ∧ i ≤ x.cps.size) ⟨_, _, rfl, Same.refl H, Nat.zero_le _⟩ ?_ ?_
  · rintro i c t σ H1 hc ht ⟨y2, y3, rfl, s1, hi⟩
    have hi' : i < x.cps.size := (Array.getElem?_eq_some_iff.mp hc).1
    have hz : x.cps.size ≤ 1000 := hx
    refine ⟨t, _, rfl, SqT.of upd_same, rfl, _, _, rfl, _, _, rfl, rfl, ?_⟩
    refine ⟨_, rfl, _, rfl, _, rfl, _, rfl, rfl, _, rfl, rfl, _, _, rfl, rfl, _, _, rfl, rfl, _, _, rfl, rfl, .inl ⟨by omega, by omega⟩, _, _, rfl, rfl, ?_⟩
    have e : mkTo x.cps.toList (i + 1) = mkTo x.cps.toList i + ((i : Int) + 1) * ((((⟨#[c]⟩ : Str).cps.getD 0 0 : Nat) : Int) - (((Str.ofString "a").cps.getD 0 0 : Nat) : Int) + 1) := by
      rw [oa]
      show mkTo x.cps.toList i + ((i : Int) + 1) * (((x.cps.toList.getD i 0 : Nat) : Int) - 97 + 1) = mkTo x.cps.toList i + ((i : Int) + 1) * ((c : Int) - 97 + 1)
      have e1 : x.cps.toList.getD i 0 = c := by rw [List.getD_eq_getElem?_getD, Array.getElem?_toList, hc]; rfl
      rw [e1]
    exact ⟨some (.int ((i : Int) + 1)), some (.str ⟨#[c]⟩), by rw [e]; rfl, s1.trans (same_new ht _), hi'⟩
  · rintro σ H1 ⟨y2, y3, rfl, s1, _⟩
    exact ⟨_, rfl, q H1 s1⟩
theorem scDg : FnScope ["number", "level", "below"] ["number", "level"] (defScope s_digit) := ⟨rfl, rfl, rfl, by decide +kernel, rfl, by decide +kernel, by decide +kernel⟩
theorem ok_digit {f : Addr} {fd : FuncData} (F : Fun K "digit" "digit" s_digit f fd) (T : Txt K mg) : FnOk P w K mg base CX0 1 f fd ["number", "level"] spDigit := by
  refine F.ok scDg (fun vs H Q E h => ?_) (fun cdv A outer s H vs Q E hr h => ?_)
  · obtain ⟨n, k, rfl, _⟩ := h; rfl
  obtain ⟨n, k, rfl, hn, hk, q⟩ := h
  obtain ⟨tb, hb⟩ := T.base
  refine' ⟨?t, ?h, ?r⟩
  case h =>
    conv => arg 2; whnf
    with_reducible refine' pss_cons ?a1 (pss_one ?a2)
    case a1 => exact ps_for PassesOwn.never rfl (pi_range1 rfl T.range (pac (pv 1) pa_nil)) (pg_name (i := 2) scDg.nd rfl (Or.inl rfl)) (pss_one (ps_set (i := 0) scDg.nd rfl (Or.inl rfl) (pe_op op_fdiv (pv 0) (pe_glob rfl hb (v := .int 4) ⟨_, rfl⟩))))
    case a2 => exact ps_ret (pe_op op_mod (pv 0) (pe_glob rfl hb (v := .int 4) ⟨_, rfl⟩))
  refine ⟨_, rfl, k, rfl, by omega, by omega, ?_⟩
  have ek : (k : Int).toNat = k := by omega
  rw [ek]
  refine for_range (fun i σ H' => ∃ y, σ = [some (.int (n / 4 ^ i)), some (.int k), y] ∧ H' = H) ⟨_, by rw [Int.pow_zero, Int.ediv_one]; rfl, rfl⟩ ?_ ?_
  · rintro i σ H1 hi ⟨y, rfl, rfl⟩
    have e : n / 4 ^ (i + 1) = n / 4 ^ i / 4 := by rw [Int.pow_succ, ← Int.ediv_ediv_of_nonneg (Int.pow_nonneg (by decide))]
    exact ⟨_, rfl, _, _, rfl, rfl, ⟨by decide, by decide⟩, some (.int (0 + (i : Int))), by rw [e]; rfl, rfl⟩
  · rintro σ H1 ⟨y, rfl, rfl⟩
    exact ⟨_, rfl, _, _, rfl, rfl, (by show (0 : Int) < 4; decide), q⟩
theorem nbf : decide (V.str (Str.ofString "bare") = V.str (Str.ofString "fork")) = false := by decide +kernel
theorem nlf : decide (V.str (Str.ofString "leaf") = V.str (Str.ofString "fork")) = false := by decide +kernel
theorem nbl : decide (V.str (Str.ofString "bare") = V.str (Str.ofString "leaf")) = false := by decide +kernel
theorem nfl : decide (V.str (Str.ofString "fork") = V.str (Str.ofString "leaf")) = false := by decide +kernel
theorem scPi : FnScope ["node"] ["node"] (defScope s_parts_in) := ⟨rfl, rfl, rfl, by decide +kernel, rfl, by decide +kernel, by decide +kernel⟩
theorem ok_parts {f : Addr} {fd : FuncData} (F : Fun K "parts_in" "parts_in" s_parts_in f fd) : FnOk P w K mg base CX0 1 f fd ["node"] (spParts K) := by
  refine F.ok scPi (fun vs H Q E h => ?_) (fun cdv A outer s H vs Q E hr h => ?_)
  · obtain ⟨a, n, rfl, _⟩ := h; rfl
  obtain ⟨a, n, rfl, hn, q⟩ := h
  refine ⟨_, pss_one (ps_ret (pe_ifExp (pt_cmpR op_eq (pe_ix ix_tup (pv 0) pe_int (fun _ _ => rfl)) pe_str (nomark _)) (pe_ix ix_tup (pv 0) pe_int (fun _ _ => rfl)) pe_nilF)), ?_⟩
  cases n with
  | bare =>
    refine ⟨_, rfl, a, _, _, _, rfl, rfl, hn, rfl, rfl, _, rfl, ?_⟩
    rw [nbf]
    exact iteF fun p o hp hd => q p _ (same_new hp _) (.inl (.inr ⟨o, upd_same⟩))
  | leaf m ps =>
    obtain ⟨t, e, _⟩ := hn
    refine ⟨_, rfl, a, _, _, _, rfl, rfl, e, rfl, rfl, _, rfl, ?_⟩
    rw [nlf]
    exact iteF fun p o hp hd => q p _ (same_new hp _) (.inl (.inr ⟨o, upd_same⟩))
  | fork qs =>
    obtain ⟨t, e, e2, _⟩ := hn
    refine ⟨_, rfl, a, _, _, _, rfl, rfl, e, rfl, rfl, _, rfl, ?_⟩
    rw [decide_eq_true rfl]
    exact iteT ⟨_, rfl, a, _, _, _, rfl, rfl, e, rfl, q t H (Same.refl H) e2⟩
theorem scPr : FnScope ["node"] ["node"] (defScope s_pairs_in) := ⟨rfl, rfl, rfl, by decide +kernel, rfl, by decide +kernel, by decide +kernel⟩
theorem ok_pairs {f : Addr} {fd : FuncData} (F : Fun K "pairs_in" "pairs_in" s_pairs_in f fd) : FnOk P w K mg base CX0 1 f fd ["node"] (spPairs K) := by
  refine F.ok scPr (fun vs H Q E h => ?_) (fun cdv A outer s H vs Q E hr h => ?_)
  · obtain ⟨a, n, rfl, _⟩ := h; rfl
  obtain ⟨a, n, rfl, hn, q⟩ := h
  refine ⟨_, pss_one (ps_ret (pe_ifExp (pt_cmpR op_eq (pe_ix ix_tup (pv 0) pe_int (fun _ _ => rfl)) pe_str (nomark _)) (pe_ix ix_tup (pv 0) pe_int (fun _ _ => rfl)) pe_nilF)), ?_⟩
  have nil : ∀ p o, H p = none → o.dict = none → PairsAt (upd H p (.frz o (.tup []))) p [] := fun p o hp hd => ⟨o, [], upd_same, hd, rfl, fun i a p e => by simp at e⟩
  cases n with
  | bare =>
    refine ⟨_, rfl, a, _, _, _, rfl, rfl, hn, rfl, rfl, _, rfl, ?_⟩
    rw [nbl]
    exact iteF fun p o hp hd => q p _ (same_new hp _) (nil p o hp hd)
  | fork qs =>
    obtain ⟨t, e, _⟩ := hn
    refine ⟨_, rfl, a, _, _, _, rfl, rfl, e, rfl, rfl, _, rfl, ?_⟩
    rw [nfl]
    exact iteF fun p o hp hd => q p _ (same_new hp _) (nil p o hp hd)
  | leaf m ps =>
    obtain ⟨t, e, e2⟩ := hn
    refine ⟨_, rfl, a, _, _, _, rfl, rfl, e, rfl, rfl, _, rfl, ?_⟩
    rw [decide_eq_true rfl]
    exact iteT ⟨_, rfl, a, _, _, _, rfl, rfl, e, rfl, q t H (Same.refl H) e2⟩
theorem scHm : FnScope ["node", "number"] ["node", "number"] (defScope s_has_mark) := ⟨rfl, rfl, rfl, by decide +kernel, rfl, by decide +kernel, by decide +kernel⟩
theorem ok_hasm {f : Addr} {fd : FuncData} (F : Fun K "has_mark" "has_mark" s_has_mark f fd) : FnOk P w K mg base CX0 1 f fd ["node", "number"] (spHasM K) := by
  refine F.ok scHm (fun vs H Q E h => ?_) (fun cdv A outer s H vs Q E hr h => ?_)
  · obtain ⟨a, n, m, rfl, _⟩ := h; rfl
  obtain ⟨a, n, m, rfl, hn, q⟩ := h
  refine ⟨_, pss_one (ps_ret (pe_and (pe_cmpR op_eq (pe_ix ix_tup (pv 0) pe_int (fun _ _ => rfl)) pe_str (nomark _)) (pe_one (pe_cmpR op_eq (pe_ix ix_tup (pv 0) pe_int (fun _ _ => rfl)) (pv 1) (nomark _))))), ?_⟩
  cases n with
  | bare =>
    refine ⟨_, rfl, a, _, _, _, rfl, rfl, hn, rfl, rfl, _, rfl, ?_⟩
    rw [nbl]
    exact iteF q
  | fork qs =>
    obtain ⟨t, e, _⟩ := hn
    refine ⟨_, rfl, a, _, _, _, rfl, rfl, e, rfl, rfl, _, rfl, ?_⟩
    rw [nfl]
    exact iteF q
  | leaf m' ps =>
    obtain ⟨t, e, e2⟩ := hn
    refine ⟨_, rfl, a, _, _, _, rfl, rfl, e, rfl, rfl, _, rfl, ?_⟩
    rw [decide_eq_true rfl]
    refine iteT ⟨_, rfl, a, _, _, _, rfl, rfl, e, rfl, _, rfl, rfl, ?_⟩
    have : decide (V.int m' = V.int m) = decide (m' = m) := by
      by_cases z : m' = m
      · subst z; rw [decide_eq_true rfl, decide_eq_true rfl]
      · rw [decide_eq_false z, decide_eq_false (fun y => z (by cases y; rfl))]
    rw [this]
    exact q
theorem scFo : FnScope ["parts"] ["parts"] (defScope s_fork_of) := ⟨rfl, rfl, rfl, by decide +kernel, rfl, by decide +kernel, by decide +kernel⟩
theorem ok_forkof {f : Addr} {fd : FuncData} (F : Fun K "fork_of" "fork_of" s_fork_of f fd) (T : Txt K mg) : FnOk P w K mg base CX0 1 f fd ["parts"] (spForkOf K) := by
  refine F.ok scFo (fun vs H Q E h => ?_) (fun cdv A outer s H vs Q E hr h => ?_)
  · obtain ⟨l, qs, rfl, _⟩ := h; rfl
  obtain ⟨l, qs, rfl, el, h4, q⟩ := h
  refine ⟨_, pss_one (ps_ret (pe_tup (pac pe_str (pac (pe_callTy call_tuple_of rfl T.tuple (by decide +kernel) (pac (pv 0) pa_nil)) pa_nil)))), ?_⟩
  refine ⟨_, rfl, l, _, rfl, .inl ⟨SqL.of el, fun t ht => ⟨(by show 2 ≤ sizeLine; decide), fun a ha => ?_⟩⟩⟩
  exact q a _ ((same_new ht _).trans (same_new ha _)) ⟨t, SqT.of upd_same, SqT.of (same_new ha _ _ _ upd_same), h4⟩
def pvl (H : Hp) (a : Addr) : V := match H a with
  | some (.tup [_, v]) => v
  | _ => .non
def SortedP (ps : List (Str × V)) : Prop := ps.Pairwise fun p q => ¬ (q.1.cps.toList < p.1.cps.toList)
theorem pairs_out {H : Hp} {ts ts' : List Addr} {ps : List (Str × V)} (h : PairT H ts ps) (o : OutT (ps.map (·.1)) ts ts') : ∃ ps', ps'.Perm ps ∧ SortedP ps' ∧ PairT H ts' ps' := by
  obtain ⟨zs, hp, e, hs⟩ := o
  have val : ∀ (i : Nat) (a : Addr) (p : Str × V), ts[i]? = some a → ps[i]? = some p → pvl H a = p.2 := fun i a p e1 e2 => by unfold pvl; rw [h.2 i a p e1 e2]
  have hz : ((ps.map (·.1)).zip ts).map (fun z => (z.1, pvl H z.2)) = ps := by
    apply List.ext_getElem?
    intro i
    rw [List.getElem?_map]
    cases e2 : ps[i]? with
    | none =>
      have : ((ps.map (·.1)).zip ts)[i]? = none := by
        rw [List.getElem?_eq_none_iff] at e2 ⊢
        rw [List.length_zip, List.length_map]; omega
      rw [this]; rfl
    | some p =>
      have hi : i < ps.length := (List.getElem?_eq_some_iff.mp e2).1
      obtain ⟨a, ea⟩ : ∃ a, ts[i]? = some a := ⟨_, List.getElem?_eq_getElem (by rw [h.1]; exact hi)⟩
      have : ((ps.map (·.1)).zip ts)[i]? = some (p.1, a) := by
        rw [List.getElem?_zip_eq_some]
        exact ⟨by rw [List.getElem?_map, e2]; rfl, ea⟩
      rw [this]
      show some (p.1, pvl H a) = some p
      rw [val i a p ea e2]
  refine ⟨zs.map fun z => (z.1, pvl H z.2), ?_, ?_, ?_⟩
  · have := hp.map fun z : Str × Addr => (z.1, pvl H z.2)
    rwa [hz] at this
  · unfold SortedP; rw [List.pairwise_map]; exact hs
  · refine ⟨by rw [e, List.length_map, List.length_map], fun i a p e1 e2 => ?_⟩
    rw [e, List.getElem?_map] at e1
    rw [List.getElem?_map] at e2
    cases ez : zs[i]? with
    | none => rw [ez] at e1; cases e1
    | some z =>
      rw [ez] at e1 e2
      cases (show some z.2 = some a from e1)
      cases (show some (z.1, pvl H z.2) = some p from e2)
      have hm := hp.mem_iff.mp (List.mem_of_getElem? ez)
      obtain ⟨j, hj⟩ := List.mem_iff_getElem?.mp hm
      rw [List.getElem?_zip_eq_some] at hj
      obtain ⟨h1, h2⟩ := hj
      rw [List.getElem?_map] at h1
      cases e3 : ps[j]? with
      | none => rw [e3] at h1; cases h1
      | some pj =>
        rw [e3] at h1
        have h1' : pj.1 = z.1 := by simpa using h1
        have := h.2 j z.2 pj h2 e3
        rw [this, val j z.2 pj h2 e3, h1']
def mkS (x : Str) : Int := mkTo x.cps.toList x.length
def qLeaf : Str := (("leaf_of" : Str) ++ ".<locals>.") ++ "<lambda>"
def spLeaf (K : PySem.W.Frag) (Pl : Addr) (lpos : Pos) : Sp := fun vs H Q _ => ∃ (l : Addr) (ts : List Addr) (ps : List (Str × V)), vs = [.ref l] ∧ H l = some (.lst (ts.map V.ref)) ∧ PairT H ts ps ∧ ps ≠ [] ∧ ps.length < 64 ∧ (∀ p ∈ ps, p.1.length ≤ 1000) ∧ LamAt H Pl lpos qLeaf ∧
  ∀ (a : Addr) (H' : Hp) (p1 : Str × V) (pr : List (Str × V)), Grown Pl H H' → LamAt H' Pl lpos qLeaf → (p1 :: pr).Perm ps → SortedP (p1 :: pr) → NodeAt K H' a (.leaf (mkS p1.1) (p1 :: pr)) → Q (.ref a) H'
theorem Grown.trans' {Pl : Addr} {H H1 H2 : Hp} (a : Grown Pl H H1) (b : Same H1 H2) : Grown Pl H H2 := fun x o n h => b _ _ (a x o n h)
theorem LamAt.same {H H' : Hp} {Pl : Addr} {lpos : Pos} {q : Str} (h : LamAt H Pl lpos q) (s : Same H H') : LamAt H' Pl lpos q := by
  rcases h with h | ⟨c, h, h2⟩
  · exact .inl (s _ _ h)
  · exact .inr ⟨c, s _ _ h, s _ _ h2⟩
theorem scLf : FnScope ["pairs", "rising", "first_name"] ["pairs"] (defScope s_leaf_of) := ⟨rfl, rfl, rfl, by decide +kernel, rfl, by decide +kernel, by decide +kernel⟩
def lamPos : Stmt → Pos
  | .Assign _ (.Call _ _ [⟨_, .Lambda _ _ _ p, _⟩] _) _ => p
  | _ => ⟨0, 0, 0, 0⟩
def lpLeaf : Pos := lamPos ((defBody s_leaf_of).getD 0 (.Pass ⟨0, 0, 0, 0⟩))
theorem ok_leaf {f c Pl : Addr} {fd : FuncData} (F : FunC K "leaf_of" "leaf_of" s_leaf_of f fd c Pl) (T : Txt K mg) (hBm : BmAt base mg) (DM : Def P w K mg base 1 "mark" ["name"] spMark) : FnOk P w K mg base CX0 2 f fd ["pairs"] (spLeaf K Pl lpLeaf) := by
  refine F.ok scLf (fun vs H Q E h => ?_) (fun A outer s H vs Q E hr h => ?_)
  · obtain ⟨l, ts, ps, rfl, _⟩ := h; rfl
  obtain ⟨l, ts, ps, rfl, el, hpt, hne, h64, hnl, hL, q⟩ := h
  refine' ⟨?t, ?h, ?r⟩
  case h =>
    conv => arg 2; whnf
    with_reducible refine' pss_cons ?a1 (pss_cons ?a2 (pss_one ?a3))
    case a1 => exact ps_set (i := 1) scLf.nd rfl (Or.inl rfl) (pe_sortF (c := c) (Pl := Pl) rfl T.sorted (pv 0) hr rfl F.hd hBm)
    case a2 => exact ps_set (i := 2) scLf.nd rfl (Or.inl rfl) (pe_ix ix_tup (pe_ix ix_list (pv 1) pe_int (fun _ _ => rfl)) pe_int (fun _ _ => rfl))
    case a3 => exact ps_ret (pe_tup (pac pe_str (pac (pe_d DM hr (pac (pv 2) pa_nil)) (pac (pe_callTy call_tuple_listF rfl T.tuple (by decide +kernel) (pac (pv 1) pa_nil)) pa_nil))))
  refine ⟨_, rfl, l, ts, ps.map (·.1), rfl, el, by rw [hpt.1]; exact h64, by rw [List.length_map, hpt.1], fun i t k e1 e2 => ?_, hL, fun H2 r ts' gr hL2 hr2 hT => ?_⟩
  · rw [List.getElem?_map] at e2
    cases e3 : ps[i]? with
    | none => rw [e3] at e2; cases e2
    | some p =>
      rw [e3] at e2
      have e4 : p.1 = k := by simpa using e2
      rw [← e4]
      exact ⟨_, hpt.2 i t p e1 e3⟩
  obtain ⟨ps', hperm, hsort, hpt'⟩ := pairs_out hpt hT
  obtain ⟨tb, htb⟩ := hL.tbl
  have tf2 : TF H H2 := gr.tf htb
  have hpt2 := hpt'.tf tf2
  cases ps' with
  | nil => exact absurd (List.Perm.nil_eq hperm).symm hne
  | cons p1 pr =>
    cases ts' with
    | nil => have := hpt'.1; simp at this
    | cons t1 tr =>
      have e1 := hpt2.2 0 t1 p1 rfl rfl
      have s3 := same_new hr2 (.lst ((t1 :: tr).map V.ref))
      have hn1 : p1.1.length ≤ 1000 := hnl p1 (hperm.mem_iff.mp List.mem_cons_self)
      refine ⟨_, rfl, r, _, _, _, rfl, rfl, SqL.of upd_same, (show atI ((t1 :: tr).map V.ref) ((0 : Nat) : Int) = some (V.ref t1) from atI_nat rfl), t1, _, _, _, rfl, rfl, SqT.of (s3 _ _ e1), rfl, ?_⟩
      refine ⟨_, rfl, p1.1, rfl, hn1, fun H4 s4 => ⟨_, rfl, r, _, rfl, SqL.of (s4 _ _ upd_same), fun t o ht hd => ⟨(by show 3 ≤ sizeLine; decide), fun a ha => ?_⟩⟩⟩
      have s5 := same_new ht (.frz o (.tup ((t1 :: tr).map V.ref)))
      have s6 := same_new ha (.tup [.str "leaf", .int (mkS p1.1), .ref t])
      have S := ((s3.trans s4).trans s5).trans s6
      refine q a _ p1 pr (Grown.trans' gr S) (LamAt.same hL2 S) hperm hsort ⟨t, SqT.of upd_same, o, t1 :: tr, s6 _ _ upd_same, hd, hpt2.tf S.tf⟩
end
end K6
set_option maxHeartbeats 4000000
namespace K6
open PySem L2
structure TxtC (K : PySem.W.Frag) (C : Addr) : Prop where
  cl : Cls K C
  nN : NoAttr K C "nodes"
  nT : NoAttr K C "tables"
section
variable {P : Program} {w : World} {K : PySem.W.Frag} {mg : Str → Option Value} {base : Heap} {C : Addr}
def spInit (K : PySem.W.Frag) (C : Addr) : Sp := fun vs H Q _ => ∃ (p dx : Addr), vs = [.ref p] ∧ H p = some (.ins C dx []) ∧ ∀ (ln dt : Addr) (H' : Hp), H ln = none → H dt = none → StoreAt K C p ln dt H' [.bare] [(Sum.inl 0, .bl true)] → Kq [p] H H' → Q .non H'
theorem scIn : FnScope ["self"] ["self"] (defScope c_Store___init__) := ⟨rfl, rfl, rfl, by decide +kernel, rfl, by decide +kernel, by decide +kernel⟩
theorem ok_init {f : Addr} {fd : FuncData} (F : Fun K "__init__" "Store.__init__" c_Store___init__ f fd) (T : Txt K mg) (TC : TxtC K C) : FnOk P w K mg base CX0 1 f fd ["self"] (spInit K C) := by
  refine F.ok scIn (fun vs H Q E h => ?_) (fun cdv A outer s H vs Q E hr h => ?_)
  · obtain ⟨p, dx, rfl, _⟩ := h; rfl
  obtain ⟨p, dx, rfl, hp, q⟩ := h
  obtain ⟨ab, hb, hbt⟩ := T.bare
  obtain ⟨tz, hz⟩ := T.zero
  refine ⟨_, pss_cons (ps_fld (pv 0) (pe_lst (pac (pe_glob rfl hb (v := .ref ab) rfl) pa_nil)) rfl) (pss_one (ps_fld (pv 0) (pe_disp (pps_cons (pe_glob rfl hz (v := .int 0) ⟨_, rfl⟩) pe_bl pps_nil) rfl rfl (by simp) (by decide)) rfl)), ?_⟩
  refine ⟨(by show 1 ≤ sizeLine; decide), fun ln hln => ?_⟩
  have npl : p ≠ ln := ne_of_none hp hln
  refine ⟨_, rfl, p, C, dx, [], rfl, (by rw [upd_ne npl]; exact hp), TC.cl, TC.nN, (by show 0 < 1000; decide), ?_⟩
  intro dt hdt
  have npd : p ≠ dt := fun z => by rw [← z, upd_same] at hdt; cases hdt
  have nld : ln ≠ dt := fun z => by rw [← z, upd_ne npl.symm, upd_same] at hdt; cases hdt
  have hdt0 : H dt = none := by rw [upd_ne npd.symm, upd_ne nld.symm] at hdt; exact hdt
  refine ⟨upd_same, [(Sum.inl 0, .bl true)], rfl, by decide, _, rfl, p, C, dx, _, rfl, (by rw [upd_ne npd, upd_ne npd, upd_same]), TC.cl, TC.nT, (by show 1 < 1000; decide), ?_⟩
  refine q ln dt _ hln hdt0 ⟨⟨dx, upd_same⟩, ⟨[ab], ?_, rfl, fun i a n e1 e2 => ?_⟩, ?_⟩ fun b o nb e => ?_
  · rw [upd_ne npl.symm, upd_ne nld, upd_ne nld, upd_ne npl.symm, upd_same]; rfl
  · cases i with
    | zero =>
      cases (show some ab = some a from e1)
      cases (show some Nd.bare = some n from e2)
      exact hbt _
    | succ i => simp at e1
  · rw [upd_ne npd.symm, upd_same]; rfl
  · have nb' : b ≠ p := fun z => nb (by simp [z])
    rw [upd_ne nb', upd_ne (ne_of_none e hdt0), upd_ne (ne_of_none e hdt0), upd_ne nb', upd_ne (ne_of_none e hln)]; exact e
def spKeep (K : PySem.W.Frag) (C : Addr) : Sp := fun vs H Q _ => ∃ (st ln dt a : Addr) (nds : List Nd) (tabs : List (Key × V)) (n : Nd), vs = [.ref st, .ref a] ∧ StoreAt K C st ln dt H nds tabs ∧ NodeAt K H a n ∧ nds.length ≤ 100000 ∧
  ∀ H', StoreAt K C st ln dt H' (nds ++ [n]) tabs → Kq [ln] H H' → TF H H' → Q (.int nds.length) H'
theorem scKe : FnScope ["self", "node"] ["self", "node"] (defScope c_Store_keep) := ⟨rfl, rfl, rfl, by decide +kernel, rfl, by decide +kernel, by decide +kernel⟩
theorem ok_keep {f : Addr} {fd : FuncData} (F : Fun K "keep" "Store.keep" c_Store_keep f fd) (T : Txt K mg) (TC : TxtC K C) : FnOk P w K mg base CX0 1 f fd ["self", "node"] (spKeep K C) := by
  refine F.ok scKe (fun vs H Q E h => ?_) (fun cdv A outer s H vs Q E hr h => ?_)
  · obtain ⟨st, ln, dt, a, nds, tabs, n, rfl, _⟩ := h; rfl
  obtain ⟨st, ln, dt, a, nds, tabs, n, rfl, ⟨⟨dx, ob⟩, ⟨as, nl, hl, hn⟩, tb⟩, hna, hsz, q⟩ := h
  refine ⟨_, pss_cons (ps_expr (pe_bm PySem.F.plainAttrs_list PySem.F.slot_list_append PySem.F.type_list_append mt_append (pe_fld (pv 0) rfl) (pac (pv 1) pa_nil))) (pss_one (ps_ret (pe_op op_sub (pe_callB call_len_seq rfl T.len PySem.boot_len (pac (pe_fld (pv 0) rfl) pa_nil)) pe_int))), ?_⟩
  have e1 : (as.map V.ref).length < sizeLine := by rw [List.length_map, hl]; exact Nat.lt_of_le_of_lt hsz (by decide)
  refine ⟨_, rfl, st, C, dx, _, _, rfl, ob, TC.cl, TC.nN, flds_n ln dt, .inl ⟨rfl, _, SqL.of nl⟩, _, rfl, ln, _, _, rfl, rfl, nl, e1, ?_⟩
  have nsl : st ≠ ln := ne_of ob nl (by intro z; cases z)
  have ndl : dt ≠ ln := ne_of tb nl (by intro z; cases z)
  refine ⟨_, rfl, st, C, dx, _, _, rfl, (by rw [upd_ne nsl]; exact ob), TC.cl, TC.nN, flds_n ln dt, ln, _, rfl, .inl (SqL.of upd_same), _, _, rfl, rfl, ?_⟩
  have tf := tf_lst (o := .lst (as.map V.ref ++ [.ref a])) nl
  have e2 : ((((as.map V.ref ++ [V.ref a]).length : Nat) : Int) - 1) = (nds.length : Int) := by rw [List.length_append, List.length_map, hl]; show ((nds.length + 1 : Nat) : Int) - 1 = _; omega
  have fin : Q (.int (nds.length : Int)) (upd H ln (.lst (as.map V.ref ++ [.ref a]))) := by
    refine q _ ⟨⟨dx, by rw [upd_ne nsl]; exact ob⟩, ⟨as ++ [a], by rw [List.map_append]; exact upd_same, by rw [List.length_append, List.length_append, hl]; rfl, fun i b m e3 e4 => ?_⟩, by rw [upd_ne ndl]; exact tb⟩ kq_upd tf
    by_cases hi : i < as.length
    · rw [List.getElem?_append_left hi] at e3
      rw [List.getElem?_append_left (by rw [← hl]; exact hi)] at e4
      exact (hn i b m e3 e4).tf tf
    · rw [List.getElem?_append_right (by omega)] at e3
      rw [List.getElem?_append_right (by omega)] at e4
      have h0 : i - as.length = 0 := by
        cases z : i - as.length with
        | zero => rfl
        | succ j => rw [z] at e3; simp at e3
      rw [h0] at e3
      rw [show i - nds.length = 0 by omega] at e4
      cases (show some a = some b from e3)
      cases (show some n = some m from e4)
      exact hna.tf tf
  rw [← e2] at fin
  exact fin
def spAsT (K : PySem.W.Frag) (C : Addr) : Sp := fun vs H Q _ => ∃ (st ln dt : Addr) (nds : List Nd) (tabs : List (Key × V)) (n : Int), vs = [.ref st, .int n] ∧ StoreAt K C st ln dt H nds tabs ∧ tabs.length ≤ 100000 ∧
  ∀ H', StoreAt K C st ln dt H' nds (putK tabs (Sum.inl n) (.bl true)) → Kq [dt] H H' → TF H H' → Q (.int n) H'
theorem scAs : FnScope ["self", "number"] ["self", "number"] (defScope c_Store_as_table) := ⟨rfl, rfl, rfl, by decide +kernel, rfl, by decide +kernel, by decide +kernel⟩
theorem ok_ast {f : Addr} {fd : FuncData} (F : Fun K "as_table" "Store.as_table" c_Store_as_table f fd) (TC : TxtC K C) : FnOk P w K mg base CX0 1 f fd ["self", "number"] (spAsT K C) := by
  refine F.ok scAs (fun vs H Q E h => ?_) (fun cdv A outer s H vs Q E hr h => ?_)
  · obtain ⟨st, ln, dt, nds, tabs, n, rfl, _⟩ := h; rfl
  obtain ⟨st, ln, dt, nds, tabs, n, rfl, ⟨⟨dx, ob⟩, ⟨as, nl, hl, hn⟩, tb⟩, hsz, q⟩ := h
  refine ⟨_, pss_cons (ps_dput (hu_of hr) (pe_fld (pv 0) rfl) (pv 1) pe_bl rfl) (pss_one (ps_ret (pv 1))), ?_⟩
  refine ⟨_, rfl, st, C, dx, _, _, rfl, ob, TC.cl, TC.nT, flds_t ln dt, _, rfl, dt, _, rfl, DPut.k (k := Sum.inl n) tb (Nat.lt_of_le_of_lt hsz (by decide)), _, rfl, ?_⟩
  have nsd : st ≠ dt := ne_of ob tb (by intro z; cases z)
  have nld : ln ≠ dt := ne_of nl tb (by intro z; cases z)
  have tf := tf_dict (o := .dK (putK tabs (Sum.inl n) (.bl true))) tb
  exact q _ ⟨⟨dx, by rw [upd_ne nsd]; exact ob⟩, ⟨as, by rw [upd_ne nld]; exact nl, hl, fun i a m e1 e2 => (hn i a m e1 e2).tf tf⟩, upd_same⟩ kq_upd tf
def spCheck (K : PySem.W.Frag) (C : Addr) : Sp := fun vs H Q _ => ∃ (st ln dt : Addr) (nds : List Nd) (tabs : List (Key × V)) (n : Int), vs = [.ref st, .int n] ∧ StoreAt K C st ln dt H nds tabs ∧ (valV tabs (Sum.inl n)).isSome = true ∧ Q .non H
theorem scCk : FnScope ["self", "table"] ["self", "table"] (defScope c_Store_check_table) := ⟨rfl, rfl, rfl, by decide +kernel, rfl, by decide +kernel, by decide +kernel⟩
theorem ok_check {f : Addr} {fd : FuncData} (F : Fun K "check_table" "Store.check_table" c_Store_check_table f fd) (TC : TxtC K C) : FnOk P w K mg base CX0 1 f fd ["self", "table"] (spCheck K C) := by
  refine F.ok scCk (fun vs H Q E h => ?_) (fun cdv A outer s H vs Q E hr h => ?_)
  · obtain ⟨st, ln, dt, nds, tabs, n, rfl, _⟩ := h; rfl
  obtain ⟨st, ln, dt, nds, tabs, n, rfl, ⟨⟨dx, ob⟩, ⟨as, nl, hl, hn⟩, tb⟩, hs, q⟩ := h
  refine ⟨_, pss_one (ps_if (pt_cmp (pc_dnotin (hu_of hr) (pv 1) (pe_fld (pv 0) rfl))) (pss_one ps_no) pss_nil), ?_⟩
  refine ⟨_, rfl, _, rfl, st, C, dx, _, _, rfl, ob, TC.cl, TC.nT, flds_t ln dt, dt, _, rfl, DGet.k (k := Sum.inl n) tb, _, rfl, ?_⟩
  rw [hs]
  exact iteF q
end
end K6
set_option maxHeartbeats 4000000
namespace K6
open PySem L2
def dig (n : Int) (k : Nat) : Nat := (n / 4 ^ k % 4).toNat
theorem dig_int (n : Int) (k : Nat) : (dig n k : Int) = n / 4 ^ k % 4 := Int.toNat_of_nonneg (Int.emod_nonneg _ (by decide))
theorem dig_lt (n : Int) (k : Nat) : dig n k < 4 := by
  have h1 := dig_int n k
  have h2 := Int.emod_lt_of_pos (n / 4 ^ k) (show (0 : Int) < 4 by decide)
  omega
def wayF (nds : List Nd) (m : Int) : Nat → Nat → Nat → Option (List Nat)
  | 0, _, _ => none
  | f + 1, lev, num => match nds[num]? with
    | none => none
    | some (.fork qs) => (qs[dig m lev]?).bind fun q => (wayF nds m f (lev + 1) q).map (num :: ·)
    | some _ => some [num]
def iN (n : Nat) : V := .int (n : Int)
section
variable {P : Program} {w : World} {K : PySem.W.Frag} {mg : Str → Option Value} {base : Heap} {C : Addr}
theorem _root_.L2.StoreAt.node {st ln dt : Addr} {H : Hp} {nds : List Nd} {tabs : List (Key × V)} (S : StoreAt K C st ln dt H nds tabs) {i : Nat} {n : Nd} (h : nds[i]? = some n) : ∃ (as : List Addr) (a : Addr), H ln = some (.lst (as.map V.ref)) ∧ as[i]? = some a ∧ NodeAt K H a n := by
  obtain ⟨_, ⟨as, e, l, hn⟩, _⟩ := S
  have hi : i < as.length := by rw [l]; exact (List.getElem?_eq_some_iff.mp h).1
  exact ⟨as, as[i], e, List.getElem?_eq_getElem hi, hn i _ n (List.getElem?_eq_getElem hi) h⟩
def spWay (K : PySem.W.Frag) (C : Addr) : Sp := fun vs H Q _ => ∃ (st ln dt : Addr) (nds : List Nd) (tabs : List (Key × V)) (t : Nat) (x : Str) (f : Nat) (ws : List Nat), vs = [.ref st, iN t, .str x] ∧ StoreAt K C st ln dt H nds tabs ∧ (valV tabs (Sum.inl (t : Int))).isSome = true ∧ x.length ≤ 1000 ∧ 0 ≤ mkS x ∧ f ≤ 1000 ∧
  wayF nds (mkS x) f 0 t = some ws ∧ ∀ r H', H r = none → Same H H' → H' r = some (.lst (ws.map iN)) → Q (.ref r) H'
theorem scWa : FnScope ["self", "table", "name", "told", "parts", "part"] ["self", "table", "name"] (defScope c_Store_way) := ⟨rfl, rfl, rfl, by decide +kernel, rfl, by decide +kernel, by decide +kernel⟩
theorem ok_way {f : Addr} {fd : FuncData} (F : Fun K "way" "Store.way" c_Store_way f fd) (T : Txt K mg) (TC : TxtC K C) (DC : DefM P w K mg base 1 C "check_table" ["self", "table"] (spCheck K C)) (DP : Def P w K mg base 1 "parts_in" ["node"] (spParts K))
    (DM : Def P w K mg base 1 "mark" ["name"] spMark) (DG : Def P w K mg base 1 "digit" ["number", "level"] spDigit) : FnOk P w K mg base CX0 2 f fd ["self", "table", "name"] (spWay K C) := by
  refine F.ok scWa (fun vs H Q E h => ?_) (fun cdv A outer s H vs Q E hr h => ?_)
  · obtain ⟨st, ln, dt, nds, tabs, t, x, f, ws, rfl, _⟩ := h; rfl
  obtain ⟨st, ln, dt, nds, tabs, t, x, fu, ws, rfl, S, htab, hx, hm, hfu, hway, q⟩ := h
  refine' ⟨?t, ?h, ?r⟩
  case h =>
    conv => arg 2; whnf
    with_reducible refine' pss_cons ?a1 (pss_cons ?a2 (pss_cons ?a3 (pss_cons (ps_while ?w0 ?w1 (pss_cons ?b1 (pss_cons ?b2 (pss_one ?b3)))) (pss_one ?a5))))
    case a1 => exact ps_expr (pe_m DC TC.cl hr (pv 0) (pac (pv 1) pa_nil))
    case a2 => exact ps_set (i := 3) scWa.nd rfl (Or.inl rfl) (pe_lst (pac (pv 1) pa_nil))
    case a3 => exact ps_set (i := 4) scWa.nd rfl (Or.inl rfl) (pe_d DP hr (pac (pe_ix ix_list (pe_fld (pv 0) rfl) (pv 1) (fun _ _ => rfl)) pa_nil))
    case w0 => exact PassesOwn.never
    case w1 => exact pt_truth (pv 4) (fun _ => rfl)
    case b1 => exact ps_set (i := 5) scWa.nd rfl (Or.inl rfl) (pe_ix ix_tup (pv 4) (pe_d DG hr (pac (pe_d DM hr (pac (pv 2) pa_nil)) (pac (pe_op op_sub (pe_callB call_len_seq rfl T.len PySem.boot_len (pac (pv 3) pa_nil)) pe_int) pa_nil))) (fun _ _ => rfl))
    case b2 => exact ps_expr (pe_bm PySem.F.plainAttrs_list PySem.F.slot_list_append PySem.F.type_list_append mt_append (pv 3) (pac (pv 5) pa_nil))
    case b3 => exact ps_set (i := 4) scWa.nd rfl (Or.inl rfl) (pe_d DP hr (pac (pe_ix ix_list (pe_fld (pv 0) rfl) (pv 5) (fun _ _ => rfl)) pa_nil))
    case a5 => exact ps_ret (pv 3)
  obtain ⟨dx, ob⟩ := S.ob
  refine ⟨_, rfl, st, dx, _, rfl, ob, flds_no ln dt (by decide +kernel) (by decide +kernel), _, rfl, st, ln, dt, nds, tabs, t, rfl, S, htab, _, rfl, (by show 1 ≤ sizeLine; decide), fun l hl => ?_⟩
  obtain ⟨n, hn⟩ : ∃ n, nds[t]? = some n := by
    cases fu with
    | zero => cases hway
    | succ fu =>
      cases e : nds[t]? with
      | none => unfold wayF at hway; rw [e] at hway; cases hway
      | some n => exact ⟨n, rfl⟩
  have s1 := same_new hl (.lst [iN t])
  have S1 := S.keep s1
  obtain ⟨as, a, nl, ha, hna⟩ := S1.node hn
  obtain ⟨dx1, ob1⟩ := S1.ob
  refine ⟨_, rfl, st, C, dx1, _, _, rfl, ob1, TC.cl, TC.nN, flds_n ln dt, _, rfl, ln, _, _, _, rfl, rfl, SqL.of nl, atI_nat (by rw [List.getElem?_map, ha]; rfl), a, n, rfl, hna, fun pt H2 s2 hpt => ?_⟩
  refine ⟨fun fl σ H' => ∃ (pre wr : List Nat) (num : Nat) (n : Nd) (pt : Addr) (y : Option V), σ = [some (.ref st), some (iN t), some (.str x), some (.ref l), some (.ref pt), y] ∧ Same H H' ∧ H' l = some (.lst ((pre ++ [num]).map iN)) ∧ nds[num]? = some n ∧ SqT K H' pt (n.parts.map iN) ∧ wayF nds (mkS x) fl pre.length num = some wr ∧ ws = pre ++ wr ∧ fl + pre.length ≤ 1000,
    ⟨fu, [], ws, t, n, pt, _, rfl, s1.trans s2, s2 _ _ upd_same, hn, hpt, hway, rfl, by simpa using hfu⟩, ?_⟩
  rintro fl σ H3 ⟨pre, wr, num, n, pt, y, rfl, s3, hl3, hn3, hpt3, hw3, rfl, hfl⟩
  refine ⟨_, rfl, _, .inr (.inl ⟨_, hpt3, rfl⟩), ?_⟩
  have stop : n.parts = [] → wayF nds (mkS x) fl pre.length num = some [num] := fun z => by
    cases fl with
    | zero => cases hw3
    | succ fl =>
      unfold wayF at hw3 ⊢
      rw [hn3] at hw3 ⊢
      cases n with
      | bare => rfl
      | leaf m ps => rfl
      | fork qs =>
        have z' : qs = [] := z
        subst z'
        simp at hw3
  by_cases hz : n.parts = []
  · rw [hz]
    refine iteF ⟨_, rfl, ?_⟩
    have e := stop hz
    rw [hw3] at e
    cases e
    exact q l H3 hl s3 hl3
  · have hk : (!(n.parts.map iN).isEmpty) = true := by
      cases e : n.parts with
      | nil => exact absurd e hz
      | cons _ _ => rfl
    rw [hk]
    cases n with
    | bare => exact absurd rfl hz
    | leaf m ps => exact absurd rfl hz
    | fork qs =>
      cases fl with
      | zero => cases hw3
      | succ fl =>
        unfold wayF at hw3
        rw [hn3] at hw3
        cases eq1 : qs[dig (mkS x) pre.length]? with
        | none => simp [eq1] at hw3
        | some q1 =>
          have hw4 : (wayF nds (mkS x) fl (pre.length + 1) q1).map (num :: ·) = some wr := by simpa [eq1] using hw3
          cases eq2 : wayF nds (mkS x) fl (pre.length + 1) q1 with
          | none => rw [eq2] at hw4; cases hw4
          | some wr' =>
            rw [eq2] at hw4
            have ewr : num :: wr' = wr := by simpa using hw4
            obtain ⟨n', hn'⟩ : ∃ n', nds[q1]? = some n' := by
              cases fl with
              | zero => cases eq2
              | succ fl =>
                cases e : nds[q1]? with
                | none => unfold wayF at eq2; rw [e] at eq2; cases eq2
                | some n => exact ⟨n, rfl⟩
            have e2 : ((((pre ++ [num]).map iN).length : Nat) : Int) - 1 = (pre.length : Int) := by rw [List.length_map, List.length_append]; show ((pre.length + 1 : Nat) : Int) - 1 = _; omega
            have hat : atI (qs.map iN) (mkS x / 4 ^ pre.length % 4) = some (iN q1) := by rw [← dig_int]; exact atI_nat (by rw [List.getElem?_map, eq1]; rfl)
            refine iteT ⟨_, fun σ' H' h => ⟨fl, Nat.lt_succ_self _, h⟩, _, rfl, _, rfl, x, rfl, hx, fun H4 s4 => ?_⟩
            refine ⟨_, rfl, l, _, rfl, .inl (SqL.of (s4 _ _ hl3)), _, _, rfl, rfl, mkS x, pre.length, congrArg (fun z => [V.int (mkS x), V.int z]) e2, hm, by omega, pt, _, _, _, rfl, rfl, hpt3.tf s4.tf, hat, ?_⟩
            refine ⟨_, rfl, .inl ⟨rfl, _, SqL.of (s4 _ _ hl3)⟩, _, rfl, l, _, _, rfl, rfl, s4 _ _ hl3, (by rw [List.length_map, List.length_append]; show pre.length + 1 < sizeLine; exact Nat.lt_of_le_of_lt (show pre.length + 1 ≤ 1001 by omega) (by decide)), ?_⟩
            have s5 : Same H (upd H4 l (.lst ((pre ++ [num]).map iN ++ [iN q1]))) := fun b o e => by rw [upd_ne (ne_of_none e hl)]; exact s4 _ _ (s3 _ _ e)
            have S5 := S.keep s5
            obtain ⟨as5, a5, nl5, ha5, hna5⟩ := S5.node hn'
            obtain ⟨dx5, ob5⟩ := S5.ob
            refine ⟨_, rfl, st, C, dx5, _, _, rfl, ob5, TC.cl, TC.nN, flds_n ln dt, _, rfl, ln, _, _, _, rfl, rfl, SqL.of nl5, atI_nat (by rw [List.getElem?_map, ha5]; rfl), a5, n', rfl, hna5, fun pt6 H6 s6 hpt6 => ?_⟩
            refine ⟨pre ++ [num], wr', q1, n', pt6, _, rfl, s5.trans s6, ?_, hn', hpt6, ?_, ?_, ?_⟩
            · rw [List.map_append]; exact s6 _ _ upd_same
            · rw [List.length_append]; exact eq2
            · rw [← ewr, List.append_assoc]; rfl
            · rw [List.length_append]; show fl + (pre.length + 1) ≤ 1000; omega
def lk (ps : List (Str × V)) (x : Str) : Option V := valV (ps.map fun p => ((Sum.inr p.1 : Key), p.2)) (Sum.inr x)
def spLooked (K : PySem.W.Frag) (C : Addr) : Sp := fun vs H Q _ => ∃ (st ln dt : Addr) (nds : List Nd) (tabs : List (Key × V)) (t : Nat) (x : Str) (f : Nat) (ws : List Nat) (e : Nat) (n : Nd), vs = [.ref st, iN t, .str x] ∧ StoreAt K C st ln dt H nds tabs ∧ (valV tabs (Sum.inl (t : Int))).isSome = true ∧ x.length ≤ 1000 ∧ 0 ≤ mkS x ∧ f ≤ 1000 ∧
  wayF nds (mkS x) f 0 t = some (ws ++ [e]) ∧ nds[e]? = some n ∧ n.pairs.length ≤ 1000 ∧ (n.pairs.map (·.1)).Nodup ∧ ∀ H', Same H H' → Q ((lk n.pairs x).getD .non) H'
theorem scLo : FnScope ["self", "table", "name", "end"] ["self", "table", "name"] (defScope c_Store_looked) := ⟨rfl, rfl, rfl, by decide +kernel, rfl, by decide +kernel, by decide +kernel⟩
theorem ok_looked {f : Addr} {fd : FuncData} (F : Fun K "looked" "Store.looked" c_Store_looked f fd) (T : Txt K mg) (TC : TxtC K C) (DW : DefM P w K mg base 2 C "way" ["self", "table", "name"] (spWay K C)) (DR : Def P w K mg base 1 "pairs_in" ["node"] (spPairs K)) : FnOk P w K mg base CX0 3 f fd ["self", "table", "name"] (spLooked K C) := by
  refine F.ok scLo (fun vs H Q E h => ?_) (fun cdv A outer s H vs Q E hr h => ?_)
  · obtain ⟨st, ln, dt, nds, tabs, t, x, f, ws, e, n, rfl, _⟩ := h; rfl
  obtain ⟨st, ln, dt, nds, tabs, t, x, fu, ws, e, n, rfl, S, htab, hx, hm, hfu, hway, hn, hsz, hnd, q⟩ := h
  refine' ⟨?t, ?h, ?r⟩
  case h =>
    conv => arg 2; whnf
    with_reducible refine' pss_cons ?a1 (pss_one ?a2)
    case a1 => exact ps_set (i := 3) scLo.nd rfl (Or.inl rfl) (pe_ix ix_list (pe_m DW TC.cl hr (pv 0) (pac (pv 1) (pac (pv 2) pa_nil))) (pe_un un_neg pe_int) (fun _ _ => rfl))
    case a2 => exact ps_ret (pe_dget1 (hu_of hr) (pe_callTy (call_dict_pairs rfl) rfl T.dict (by decide +kernel) (pac (pe_d DR (hr.mono (by decide)) (pac (pe_ix ix_list (pe_fld (pv 0) rfl) (pv 3) (fun _ _ => rfl)) pa_nil)) pa_nil)) (pv 2) ⟨rfl, rfl, rfl, rfl⟩)
  obtain ⟨dx, ob⟩ := S.ob
  refine ⟨_, rfl, st, dx, _, rfl, ob, flds_no ln dt (by decide +kernel) (by decide +kernel), _, rfl, _, rfl, st, ln, dt, nds, tabs, t, x, fu, _, rfl, S, htab, hx, hm, hfu, hway, fun r H1 hr1 s1 el => ?_⟩
  refine ⟨_, rfl, r, _, _, iN e, rfl, rfl, SqL.of el, (by rw [List.map_append]; exact atI_last _ _), ?_⟩
  have S1 := S.keep s1
  obtain ⟨as, a, nl, ha, hna⟩ := S1.node hn
  obtain ⟨dx1, ob1⟩ := S1.ob
  refine ⟨_, rfl, st, C, dx1, _, _, rfl, ob1, TC.cl, TC.nN, flds_n ln dt, _, rfl, ln, _, _, _, rfl, rfl, SqL.of nl, atI_nat (by rw [List.getElem?_map, ha]; rfl), a, n, rfl, hna, fun pt H2 s2 hpt => ?_⟩
  obtain ⟨o, ts, ept, hod, hlen, hp⟩ := hpt
  refine ⟨pt, ts, n.pairs, rfl, ⟨o, ept, hod⟩, hlen, hsz, hp, hnd, fun d hd => ⟨d, rfl, .inl ⟨_, .inl upd_same⟩, _, rfl, _, DGet.k (k := Sum.inr x) upd_same, ?_⟩⟩
  exact q _ ((s1.trans s2).trans (same_new hd _))
end
end K6
set_option maxHeartbeats 4000000
namespace K6
open PySem L2
def forkP (num lev : Nat) : Nd → List Nat
  | .fork qs => qs
  | .leaf m _ => [0, 1, 2, 3].map fun g => if g = dig m lev then num else 0
  | .bare => []
def LeafOk : Nd → Prop
  | .leaf m ps => ∃ p1 pr, ps = p1 :: pr ∧ mkS p1.1 = m ∧ p1.1.length ≤ 1000 ∧ 0 ≤ m
  | _ => True
section
variable {P : Program} {w : World} {K : PySem.W.Frag} {mg : Str → Option Value} {base : Heap} {C : Addr}
def spFp (K : PySem.W.Frag) (C : Addr) : Sp := fun vs H Q _ => ∃ (st ln dt : Addr) (nds : List Nd) (tabs : List (Key × V)) (num lev : Nat) (n : Nd), vs = [.ref st, iN num, iN lev] ∧ StoreAt K C st ln dt H nds tabs ∧ nds[num]? = some n ∧ n ≠ .bare ∧ LeafOk n ∧ lev ≤ 1000 ∧
  ∀ r H', H r = none → Same H H' → H' r = some (.lst ((forkP num lev n).map iN)) → Q (.ref r) H'
abbrev nFp : List Str := ["self", "number", "level", "node", "first_name", "at"]
theorem scFp : FnScope nFp ["self", "number", "level"] (defScope c_Store_fork_parts) := ⟨rfl, rfl, rfl, by decide +kernel, rfl, by decide +kernel, by decide +kernel⟩
theorem ok_fp {f : Addr} {fd : FuncData} (F : Fun K "fork_parts" "Store.fork_parts" c_Store_fork_parts f fd) (T : Txt K mg) (TC : TxtC K C) (DP : Def P w K mg base 1 "parts_in" ["node"] (spParts K)) (DR : Def P w K mg base 1 "pairs_in" ["node"] (spPairs K))
    (DM : Def P w K mg base 1 "mark" ["name"] spMark) (DG : Def P w K mg base 1 "digit" ["number", "level"] spDigit) : FnOk P w K mg base CX0 2 f fd ["self", "number", "level"] (spFp K C) := by
  refine F.ok scFp (fun vs H Q E h => ?_) (fun cdv A outer s H vs Q E hr h => ?_)
  · obtain ⟨st, ln, dt, nds, tabs, num, lev, n, rfl, _⟩ := h; rfl
  obtain ⟨st, ln, dt, nds, tabs, num, lev, n, rfl, S, hn, hnb, hok, hlev, q⟩ := h
  obtain ⟨tz, hz⟩ := T.zero
  obtain ⟨af, hf, hft⟩ := T.figs
  refine' ⟨?t, ?h, ?r⟩
  case h =>
    conv => arg 2; whnf
    with_reducible refine' pss_cons ?a1 (pss_cons ?a2 (pss_cons ?a3 (pss_cons ?a4 (pss_one ?a5))))
    case a1 => exact ps_set (i := 3) scFp.nd rfl (Or.inl rfl) (pe_ix ix_list (pe_fld (pv 0) rfl) (pv 1) (fun _ _ => rfl))
    case a2 => exact ps_if (pt_truth (pe_d DP hr (pac (pv 3) pa_nil)) (fun _ => rfl)) (pss_one (ps_ret (pe_callTy call_list_of rfl T.list (by decide +kernel) (pac (pe_d DP hr (pac (pv 3) pa_nil)) pa_nil)))) pss_nil
    case a3 => exact ps_set (i := 4) scFp.nd rfl (Or.inl rfl) (pe_ix ix_tup (pe_ix ix_tup (pe_d DR hr (pac (pv 3) pa_nil)) pe_int (fun _ _ => rfl)) pe_int (fun _ _ => rfl))
    case a4 => exact ps_set (i := 5) scFp.nd rfl (Or.inr rfl) (pe_d DG hr (pac (pe_d DM hr (pac (pv 4) pa_nil)) (pac (pv 2) pa_nil)))
    case a5 => exact ps_ret (pe_comp (CompOk.of nFp c_Store_fork_parts rfl rfl (by decide +kernel)) rfl (pi_tup (pe_glob rfl hf (v := .ref af) rfl)) (fun _ _ _ _ _ => pe_ifExp (pt_cmpR op_eq (pv 6) (pv 5) (nomark _)) (pv 1) (pe_glob rfl hz (v := .int 0) ⟨_, rfl⟩)))
  obtain ⟨as, a, nl, ha, hna⟩ := S.node hn
  obtain ⟨dx, ob⟩ := S.ob
  refine ⟨_, rfl, st, C, dx, _, _, rfl, ob, TC.cl, TC.nN, flds_n ln dt, _, rfl, ln, _, _, _, rfl, rfl, SqL.of nl, atI_nat (by rw [List.getElem?_map, ha]; rfl), ?_⟩
  refine ⟨_, rfl, a, n, rfl, hna, fun pt H2 s2 hpt => ⟨_, .inr (.inl ⟨_, hpt, rfl⟩), ?_⟩⟩
  cases n with
  | bare => exact absurd rfl hnb
  | fork qs =>
    have h4 : qs.length = 4 := by obtain ⟨_, _, _, z⟩ := hna; exact z
    have hk : (!(((Nd.fork qs).parts).map (fun q : Nat => V.int (q : Int))).isEmpty) = true := by
      cases qs with
      | nil => cases h4
      | cons _ _ => rfl
    rw [hk]
    refine iteT ⟨_, rfl, a, _, rfl, hna.tf s2.tf, fun pt3 H3 s3 hpt3 => ⟨pt3, _, rfl, .inr hpt3, fun l hl => ?_⟩⟩
    have hl0 : H l = none := by
      cases e : H l with
      | none => rfl
      | some o => rw [s3 _ _ (s2 _ _ e)] at hl; cases hl
    exact q l _ hl0 ((s2.trans s3).trans (same_new hl _)) upd_same
  | leaf m ps =>
    obtain ⟨p1, pr, rfl, hm1, hx1, hm0⟩ := hok
    refine iteF ⟨_, rfl, a, _, rfl, hna.tf s2.tf, fun pt3 H3 s3 hpt3 => ?_⟩
    obtain ⟨o, ts, ept, hod, hlen, hp⟩ := hpt3
    cases ts with
    | nil => simp [Nd.pairs] at hlen
    | cons t1 tr =>
      have et1 := hp 0 t1 p1 rfl rfl
      refine ⟨pt3, _, _, _, rfl, rfl, .inl (.inr ⟨o, ept⟩), (show atI ((t1 :: tr).map V.ref) ((0 : Nat) : Int) = some (V.ref t1) from atI_nat rfl), t1, _, _, _, rfl, rfl, SqT.of et1, rfl, ?_⟩
      refine ⟨_, rfl, p1.1, rfl, hx1, fun H4 s4 => ⟨_, rfl, mkS p1.1, lev, rfl, by rw [hm1]; exact hm0, hlev, ?_⟩⟩
      refine ⟨af, rfl, ⟨_, hft _⟩, fun D hD => ?_⟩
      have s24 := (s2.trans s3).trans s4
      have hD0 : H D = none := by
        cases e : H D with
        | none => rfl
        | some o => rw [s24 _ _ e] at hD; cases hD
      refine comp_tup (K := K) (a := af) (xs := [.int 0, .int 1, .int 2, .int 3]) (by show 4 ≤ sizeLine; decide) (fun i ys H' => ys = (([0, 1, 2, 3] : List Nat).take i).map (fun g => iN (if g = dig m lev then num else 0)) ∧ i ≤ 4 ∧ H' D = some (.lst ys) ∧ Same H H') ?_ ?_ ?_ ?_
      · exact ⟨rfl, by decide, upd_same, s24.trans (same_new hD _)⟩
      · rintro i ys H5 ⟨rfl, hi, _, _⟩
        exact ⟨by rw [List.length_map, List.length_take]; show min i 4 = i; omega, hft _⟩
      · rintro i x ys H5 hi ⟨rfl, hi4, hD5, s5⟩
        have hi' : i < 4 := (List.getElem?_eq_some_iff.mp hi).1
        have ex : x = iN i := by
          rcases i with _ | _ | _ | _ | i
          · cases hi; rfl
          · cases hi; rfl
          · cases hi; rfl
          · cases hi; rfl
          · omega
        subst ex
        have fin : ∀ y, y = iN (if i = dig m lev then num else 0) → H5 D = some (.lst ((([0, 1, 2, 3] : List Nat).take i).map (fun g => iN (if g = dig m lev then num else 0)))) ∧ (((([0, 1, 2, 3] : List Nat).take i).map (fun g => iN (if g = dig m lev then num else 0)) ++ [y]) = (([0, 1, 2, 3] : List Nat).take (i + 1)).map (fun g => iN (if g = dig m lev then num else 0)) ∧ i + 1 ≤ 4 ∧ upd H5 D (.lst ((([0, 1, 2, 3] : List Nat).take i).map (fun g => iN (if g = dig m lev then num else 0)) ++ [y])) D = some (.lst ((([0, 1, 2, 3] : List Nat).take i).map (fun g => iN (if g = dig m lev then num else 0)) ++ [y])) ∧ Same H (upd H5 D (.lst ((([0, 1, 2, 3] : List Nat).take i).map (fun g => iN (if g = dig m lev then num else 0)) ++ [y])))) := by
          intro y ey
          refine ⟨hD5, ?_, by omega, upd_same, fun b o e => by rw [upd_ne (ne_of_none e hD0)]; exact s5 _ _ e⟩
          subst ey
          rcases i with _ | _ | _ | _ | i
          · rfl
          · rfl
          · rfl
          · rfl
          · omega
        have ed : decide (iN i = V.int (mkS p1.1 / 4 ^ lev % 4)) = decide (i = dig m lev) := by
          rw [hm1, ← dig_int]
          by_cases z : i = dig m lev
          · rw [decide_eq_true z, z]; exact decide_eq_true rfl
          · rw [decide_eq_false z]
            exact decide_eq_false fun y => z (by have := V.int.inj y; omega)
        refine ⟨_, rfl, _, rfl, rfl, _, rfl, ?_⟩
        rw [ed]
        by_cases z : i = dig m lev
        · rw [decide_eq_true z]
          exact iteT ⟨_, rfl, fin _ (by rw [if_pos z])⟩
        · rw [decide_eq_false z]
          exact iteF (fin _ (by rw [if_neg z]; rfl))
      · rintro ys H5 ⟨rfl, _, hD5, s5⟩
        refine q D H5 hD0 s5 ?_
        rw [hD5]
        rfl
end
end K6
set_option maxHeartbeats 4000000
namespace K6
open PySem L2
def gK (p : Str × V) : Key × V := (Sum.inr p.1, p.2)
theorem lk_def (ps : List (Str × V)) (x : Str) : lk ps x = valV (ps.map gK) (Sum.inr x) := rfl
theorem lk_nil (x : Str) : lk [] x = none := rfl
theorem lk_cons (p : Str × V) (ps : List (Str × V)) (x : Str) : lk (p :: ps) x = if p.1 = x then some p.2 else lk ps x := by
  by_cases h : p.1 = x
  · rw [if_pos h]; exact valV_pos (show (gK p).1 = Sum.inr x by rw [← h]; rfl)
  · rw [if_neg h]; exact valV_neg (show ¬ (gK p).1 = Sum.inr x from fun z => h (Sum.inr.inj z))
theorem lk_mem {ps : List (Str × V)} (hnd : (ps.map (·.1)).Nodup) {x : Str} {v : V} : lk ps x = some v ↔ (x, v) ∈ ps := by
  induction ps with
  | nil => simp [lk_nil]
  | cons p ps ih =>
    rw [List.map_cons, List.nodup_cons] at hnd
    rw [lk_cons]
    by_cases h : p.1 = x
    · rw [if_pos h]
      constructor
      · intro e
        cases e
        rw [← h]; exact List.mem_cons_self
      · intro e
        rcases List.mem_cons.mp e with e | e
        · rw [← e]
        · exact absurd (h ▸ List.mem_map_of_mem (f := (·.1)) e) hnd.1
    · rw [if_neg h, ih hnd.2, List.mem_cons]
      exact ⟨.inr, fun e => e.resolve_left fun z => h (by rw [← z])⟩
theorem lk_none {ps : List (Str × V)} {x : Str} (h : ∀ p ∈ ps, p.1 ≠ x) : lk ps x = none := by
  induction ps with
  | nil => rfl
  | cons p ps ih => rw [lk_cons, if_neg (h p List.mem_cons_self)]; exact ih fun q hq => h q (List.mem_cons_of_mem _ hq)
theorem lk_perm {ps qs : List (Str × V)} (h : ps.Perm qs) (hnd : (qs.map (·.1)).Nodup) (x : Str) : lk ps x = lk qs x := by
  have hnd' : (ps.map (·.1)).Nodup := (h.map (·.1)).nodup_iff.mpr hnd
  cases e : lk qs x with
  | some v => exact (lk_mem hnd').mpr (h.mem_iff.mpr ((lk_mem hnd).mp e))
  | none =>
    cases e2 : lk ps x with
    | none => rfl
    | some v => rw [(lk_mem hnd).mpr (h.mem_iff.mp ((lk_mem hnd').mp e2))] at e; cases e
def putP (ps : List (Str × V)) (x : Str) (v : V) : List (Str × V) :=
  if (ps.any fun p => decide (p.1 = x)) = true then ps.map (fun p => if p.1 = x then (p.1, v) else p) else ps ++ [(x, v)]
theorem putP_map (ps : List (Str × V)) (x : Str) (v : V) : putK (ps.map gK) (Sum.inr x) v = (putP ps x v).map gK := by
  have e : ∀ p : Str × V, decide ((gK p).1 = Sum.inr x) = decide (p.1 = x) := fun p => by
    by_cases h : p.1 = x
    · rw [decide_eq_true h]; exact decide_eq_true (by rw [← h]; rfl)
    · rw [decide_eq_false h]; exact decide_eq_false fun z => h (Sum.inr.inj z)
  have e1 : ((ps.map gK).any fun kv => decide (kv.1 = Sum.inr x)) = ps.any fun p => decide (p.1 = x) := by
    rw [List.any_map]; congr 1; funext p; exact e p
  unfold putK putP
  rw [e1]
  by_cases h : (ps.any fun p => decide (p.1 = x)) = true
  · rw [if_pos h, if_pos h, List.map_map, List.map_map]
    congr 1
    funext p
    show (if (gK p).1 = Sum.inr x then ((gK p).1, v) else gK p) = gK (if p.1 = x then (p.1, v) else p)
    by_cases z : p.1 = x
    · rw [if_pos z, if_pos (show (gK p).1 = Sum.inr x by rw [← z]; rfl)]; rfl
    · rw [if_neg z, if_neg (show ¬ (gK p).1 = Sum.inr x from fun y => z (Sum.inr.inj y))]
  · rw [if_neg h, if_neg h, List.map_append]; rfl
theorem putP_keys (ps : List (Str × V)) (x : Str) (v : V) : (putP ps x v).map (·.1) = if x ∈ ps.map (·.1) then ps.map (·.1) else ps.map (·.1) ++ [x] := by
  have e : (ps.any fun p => decide (p.1 = x)) = true ↔ x ∈ ps.map (·.1) := by
    rw [List.any_eq_true, List.mem_map]
    exact ⟨fun ⟨p, h, z⟩ => ⟨p, h, of_decide_eq_true z⟩, fun ⟨p, h, z⟩ => ⟨p, h, decide_eq_true z⟩⟩
  unfold putP
  by_cases h : (ps.any fun p => decide (p.1 = x)) = true
  · rw [if_pos h, if_pos (e.mp h), List.map_map]
    apply List.map_congr_left
    intro p _
    show (if p.1 = x then (p.1, v) else p).1 = p.1
    split <;> rfl
  · rw [if_neg h, if_neg fun z => h (e.mpr z), List.map_append]; rfl
theorem putP_lk (ps : List (Str × V)) (x y : Str) (v : V) : lk (putP ps x v) y = if y = x then some v else lk ps y := by
  rw [lk_def, ← putP_map, valV_put]
  by_cases h : y = x
  · rw [if_pos h, if_pos (by rw [h])]
  · rw [if_neg h, if_neg fun z => h (Sum.inr.inj z)]; rfl
structure NsOk (NS : List Str) : Prop where
  few : NS.length < 64
  len : ∀ x ∈ NS, x.length ≤ 1000
  lo : ∀ x ∈ NS, 0 ≤ mkS x
  hi : ∀ x ∈ NS, mkS x < 1024
structure LeafG (NS : List Str) (m : Int) (ps : List (Str × V)) : Prop where
  ne : ps ≠ []
  nd : (ps.map (·.1)).Nodup
  sub : ∀ p ∈ ps, p.1 ∈ NS
  mrk : ∀ p ∈ ps, mkS p.1 = m
def mkN (x : Str) : Nat := (mkS x).toNat
def TriE (NS : List Str) (nds : List Nd) (F : Str → Option V) (lev r num : Nat) : Prop :=
  (num = 0 ∧ nds[num]? = some .bare ∧ ∀ x ∈ NS, mkN x % 4 ^ lev = r → F x = none) ∨
  ∃ m ps, nds[num]? = some (.leaf m ps) ∧ LeafG NS m ps ∧ m.toNat % 4 ^ lev = r ∧ ∀ x ∈ NS, mkN x % 4 ^ lev = r → F x = lk ps x
def Tri (NS : List Str) (nds : List Nd) (F : Str → Option V) : Nat → Nat → Nat → Nat → Prop
  | 0, lev, r, num => TriE NS nds F lev r num
  | d + 1, lev, r, num => TriE NS nds F lev r num ∨ ∃ qs, nds[num]? = some (.fork qs) ∧ qs.length = 4 ∧ ∀ i q, qs[i]? = some q → Tri NS nds F d (lev + 1) (r + i * 4 ^ lev) q
def NEx (nds nds' : List Nd) : Prop := ∀ (i : Nat) (n : Nd), nds[i]? = some n → nds'[i]? = some n
theorem NEx.refl (nds : List Nd) : NEx nds nds := fun _ _ h => h
theorem NEx.trans {a b c : List Nd} (h : NEx a b) (h' : NEx b c) : NEx a c := fun i n e => h' i n (h i n e)
theorem NEx.app (nds : List Nd) (n : Nd) : NEx nds (nds ++ [n]) := fun i m e => by rw [List.getElem?_append_left (List.getElem?_eq_some_iff.mp e).1]; exact e
section
variable {NS : List Str} {nds nds' : List Nd} {F F' : Str → Option V}
theorem TriE.mono {lev r num : Nat} (h : TriE NS nds F lev r num) (e : NEx nds nds') : TriE NS nds' F lev r num := by
  rcases h with ⟨h1, h2, h3⟩ | ⟨m, ps, h1, h2⟩
  · exact .inl ⟨h1, e _ _ h2, h3⟩
  · exact .inr ⟨m, ps, e _ _ h1, h2⟩
theorem Tri.mono : ∀ (d : Nat) {lev r num : Nat}, Tri NS nds F d lev r num → NEx nds nds' → Tri NS nds' F d lev r num
  | 0, _, _, _, h, e => TriE.mono h e
  | d + 1, _, _, _, .inl h, e => .inl (TriE.mono h e)
  | d + 1, _, _, _, .inr ⟨qs, h1, h2, h3⟩, e => .inr ⟨qs, e _ _ h1, h2, fun i q hq => Tri.mono d (h3 i q hq) e⟩
theorem TriE.congr {lev r num : Nat} (h : TriE NS nds F lev r num) (e : ∀ x ∈ NS, mkN x % 4 ^ lev = r → F' x = F x) : TriE NS nds F' lev r num := by
  rcases h with ⟨h1, h2, h3⟩ | ⟨m, ps, h1, h2, h3, h4⟩
  · exact .inl ⟨h1, h2, fun x hx hr => by rw [e x hx hr]; exact h3 x hx hr⟩
  · exact .inr ⟨m, ps, h1, h2, h3, fun x hx hr => by rw [e x hx hr]; exact h4 x hx hr⟩
theorem res_mod (n lev : Nat) : n % 4 ^ (lev + 1) = n % 4 ^ lev + (n / 4 ^ lev % 4) * 4 ^ lev := by
  rw [Nat.pow_succ, Nat.mod_mul, Nat.mul_comm (4 ^ lev)]
theorem res_inv {n lev r i : Nat} (hr : r < 4 ^ lev) (h : n % 4 ^ (lev + 1) = r + i * 4 ^ lev) : n % 4 ^ lev = r ∧ n / 4 ^ lev % 4 = i := by
  rw [res_mod] at h
  have hp : 0 < 4 ^ lev := Nat.pow_pos (by decide)
  have h1 := Nat.mod_lt n hp
  have e1 : n % 4 ^ lev = r := by
    have z := congrArg (· % 4 ^ lev) h
    simp only [Nat.add_mul_mod_self_right] at z
    rwa [Nat.mod_mod, Nat.mod_eq_of_lt hr] at z
  refine ⟨e1, ?_⟩
  rw [e1] at h
  exact Nat.eq_of_mul_eq_mul_right hp (Nat.add_left_cancel h)
theorem res_lt {lev r i : Nat} (hr : r < 4 ^ lev) (hi : i < 4) : r + i * 4 ^ lev < 4 ^ (lev + 1) := by
  rw [Nat.pow_succ]
  have : i * 4 ^ lev ≤ 3 * 4 ^ lev := Nat.mul_le_mul_right _ (by omega)
  omega
theorem Tri.congr : ∀ (d : Nat) {lev r num : Nat}, r < 4 ^ lev → Tri NS nds F d lev r num → (∀ x ∈ NS, mkN x % 4 ^ lev = r → F' x = F x) → Tri NS nds F' d lev r num
  | 0, _, _, _, _, h, e => TriE.congr h e
  | d + 1, _, _, _, _, .inl h, e => .inl (TriE.congr h e)
  | d + 1, _, _, _, hr, .inr ⟨qs, h1, h2, h3⟩, e => .inr ⟨qs, h1, h2, fun i q hq => Tri.congr d (res_lt hr (by rw [← h2]; exact (List.getElem?_eq_some_iff.mp hq).1)) (h3 i q hq) fun x hx hz => e x hx (res_inv hr hz).1⟩
theorem dig_nat {n : Int} (h : 0 ≤ n) (lev : Nat) : dig n lev = n.toNat / 4 ^ lev % 4 := by
  obtain ⟨k, rfl⟩ := Int.eq_ofNat_of_zero_le h
  unfold dig
  have : ((k : Int) / 4 ^ lev % 4) = ((k / 4 ^ lev % 4 : Nat) : Int) := by norm_cast
  rw [this]
  rfl
theorem tri_way (N : NsOk NS) : ∀ (d : Nat) {lev r num : Nat} {x : Str}, r < 4 ^ lev → Tri NS nds F d lev r num → x ∈ NS → mkN x % 4 ^ lev = r →
    ∃ ws e n, wayF nds (mkS x) (d + 1) lev num = some (ws ++ [e]) ∧ nds[e]? = some n ∧ ((e = 0 ∧ n = .bare ∧ F x = none) ∨ ∃ m ps, n = .leaf m ps ∧ LeafG NS m ps ∧ F x = lk ps x) := by
  have end_ : ∀ {lev r num : Nat} {x : Str} (d : Nat), TriE NS nds F lev r num → x ∈ NS → mkN x % 4 ^ lev = r → ∃ ws e n, wayF nds (mkS x) (d + 1) lev num = some (ws ++ [e]) ∧ nds[e]? = some n ∧ ((e = 0 ∧ n = .bare ∧ F x = none) ∨ ∃ m ps, n = .leaf m ps ∧ LeafG NS m ps ∧ F x = lk ps x) := by
    intro lev r num x d h hx hr
    rcases h with ⟨h1, h2, h3⟩ | ⟨m, ps, h1, h2, h3, h4⟩
    · exact ⟨[], num, .bare, by unfold wayF; rw [h2]; rfl, h2, .inl ⟨h1, rfl, h3 x hx hr⟩⟩
    · exact ⟨[], num, .leaf m ps, by unfold wayF; rw [h1]; rfl, h1, .inr ⟨m, ps, rfl, h2, h4 x hx hr⟩⟩
  intro d
  induction d with
  | zero => exact fun _ h hx hr => end_ 0 h hx hr
  | succ d ih =>
    intro lev r num x hlt h hx hr
    rcases h with h | ⟨qs, h1, h2, h3⟩
    · exact end_ _ h hx hr
    · have hi : dig (mkS x) lev < qs.length := by rw [h2]; exact dig_lt _ _
      have hq := List.getElem?_eq_getElem hi
      obtain ⟨ws, e, n, e1, e2, e3⟩ := ih (res_lt hlt (dig_lt _ _)) (h3 _ _ hq) hx (by rw [res_mod, hr, dig_nat (N.lo x hx)]; rfl)
      refine ⟨num :: ws, e, n, ?_, e2, e3⟩
      unfold wayF
      rw [h1]
      show ((qs[dig (mkS x) lev]?).bind fun q => (wayF nds (mkS x) (d + 1) (lev + 1) q).map (num :: ·)) = _
      rw [hq]
      show (wayF nds (mkS x) (d + 1) (lev + 1) _).map (num :: ·) = _
      rw [e1]
      rfl
end
end K6
set_option maxHeartbeats 4000000
namespace K6
open PySem L2
theorem len_sub : ∀ {l N : List Str}, l.Nodup → (∀ x ∈ l, x ∈ N) → l.length ≤ N.length := by
  intro l
  induction l with
  | nil => intro N _ _; exact Nat.zero_le _
  | cons a l ih =>
    intro N hnd hs
    rw [List.nodup_cons] at hnd
    have ha : a ∈ N := hs a List.mem_cons_self
    have := ih (N := N.erase a) hnd.2 fun x hx => (List.mem_erase_of_ne (show x ≠ a from fun z => hnd.1 (by rw [← z]; exact hx))).mpr (hs x (List.mem_cons_of_mem _ hx))
    rw [List.length_erase_of_mem ha] at this
    have h1 : 0 < N.length := List.length_pos_of_mem ha
    rw [List.length_cons]; omega
section
variable {NS : List Str} {nds nds' : List Nd} {F F' : Str → Option V}
theorem LeafG.few {m : Int} {ps : List (Str × V)} (G : LeafG NS m ps) : ps.length ≤ NS.length := by
  have := len_sub G.nd (N := NS) fun x hx => by obtain ⟨p, hp, rfl⟩ := List.mem_map.mp hx; exact G.sub p hp
  rwa [List.length_map] at this
theorem LeafG.perm {m : Int} {ps qs : List (Str × V)} (G : LeafG NS m ps) (h : qs.Perm ps) : LeafG NS m qs :=
  ⟨fun z => G.ne (by rw [z] at h; exact (List.Perm.nil_eq h).symm), (h.map (·.1)).nodup_iff.mpr G.nd, fun p hp => G.sub p (h.mem_iff.mp hp), fun p hp => G.mrk p (h.mem_iff.mp hp)⟩
theorem LeafG.ok {m : Int} {ps : List (Str × V)} (N : NsOk NS) (G : LeafG NS m ps) : LeafOk (.leaf m ps) := by
  cases ps with
  | nil => exact absurd rfl G.ne
  | cons p pr =>
    have h1 := G.mrk p List.mem_cons_self
    have h2 := G.sub p List.mem_cons_self
    exact ⟨p, pr, rfl, h1, N.len _ h2, by rw [← h1]; exact N.lo _ h2⟩
theorem put_leaf {ps : List (Str × V)} {x : Str} (v : V) (hx : x ∈ NS) (hnd : (ps.map (·.1)).Nodup) (hs : ∀ p ∈ ps, p.1 ∈ NS) (hm : ∀ p ∈ ps, mkS p.1 = mkS x) : LeafG NS (mkS x) (putP ps x v) := by
  have hk := putP_keys ps x v
  have hmem : ∀ p ∈ putP ps x v, p.1 ∈ ps.map (·.1) ∨ p.1 = x := fun p hp => by
    have h1 : p.1 ∈ (putP ps x v).map (·.1) := List.mem_map_of_mem hp
    rw [hk] at h1
    by_cases h : x ∈ ps.map (·.1)
    · rw [if_pos h] at h1; exact .inl h1
    · rw [if_neg h] at h1
      rcases List.mem_append.mp h1 with z | z
      · exact .inl z
      · exact .inr (List.mem_singleton.mp z)
  refine ⟨fun z => ?_, ?_, fun p hp => ?_, fun p hp => ?_⟩
  · rw [z] at hk
    by_cases h : x ∈ ps.map (·.1)
    · rw [if_pos h] at hk; rw [← hk] at h; cases h
    · rw [if_neg h] at hk; simp at hk
  · rw [hk]
    by_cases h : x ∈ ps.map (·.1)
    · rw [if_pos h]; exact hnd
    · rw [if_neg h, List.nodup_append]
      exact ⟨hnd, by simp, fun a ha b hb e => h (by rw [List.mem_singleton.mp hb] at e; rw [← e]; exact ha)⟩
  · rcases hmem p hp with z | z
    · obtain ⟨q, hq, e⟩ := List.mem_map.mp z
      rw [← e]; exact hs q hq
    · rw [z]; exact hx
  · rcases hmem p hp with z | z
    · obtain ⟨q, hq, e⟩ := List.mem_map.mp z
      rw [← e]; exact hm q hq
    · rw [z]
def upF (F : Str → Option V) (x : Str) (v : V) : Str → Option V := fun y => if y = x then some v else F y
theorem tri_leaf {d lev r : Nat} {m : Int} {ps qs : List (Str × V)} {x : Str} {v : V} {num : Nat} (N : NsOk NS) (hx : x ∈ NS) (hr : mkN x % 4 ^ lev = r) (hn : nds[num]? = some (.leaf m qs)) (hm : m = mkS x) (G : LeafG NS (mkS x) (putP ps x v)) (hp : qs.Perm (putP ps x v))
    (hF : ∀ y ∈ NS, mkN y % 4 ^ lev = r → F y = lk ps y) : Tri NS nds (upF F x v) d lev r num := by
  subst hm
  have h : TriE NS nds (upF F x v) lev r num := by
    refine .inr ⟨mkS x, qs, hn, G.perm hp, hr, fun y hy hry => ?_⟩
    rw [lk_perm hp G.nd, putP_lk]
    unfold upF
    by_cases h : y = x
    · rw [if_pos h, if_pos h]
    · rw [if_neg h, if_neg h]; exact hF y hy hry
  cases d with
  | zero => exact h
  | succ d => exact .inl h
theorem fork_tri {d lev r num : Nat} {n : Nd} (N : NsOk NS) (h0 : nds[0]? = some .bare) (hr : r < 4 ^ lev) (h : Tri NS nds F (d + 1) lev r num) (hn : nds[num]? = some n) (hnb : n ≠ .bare) :
    (forkP num lev n).length = 4 ∧ ∀ (i q : Nat), (forkP num lev n)[i]? = some q → Tri NS nds F d (lev + 1) (r + i * 4 ^ lev) q := by
  have wrapE : ∀ {r' q : Nat}, TriE NS nds F (lev + 1) r' q → Tri NS nds F d (lev + 1) r' q := fun g => by
    cases d with
    | zero => exact g
    | succ d => exact .inl g
  rcases h with h | ⟨qs, h1, h2, h3⟩
  · rcases h with ⟨_, e, _⟩ | ⟨m, ps, e, G, hm, hF⟩
    · rw [hn] at e; cases e; exact absurd rfl hnb
    · rw [hn] at e; cases e
      obtain ⟨p1, pr, e1, e2, e3, e4⟩ := G.ok N
      refine ⟨rfl, fun i q hq => ?_⟩
      have hi : i < 4 := (List.getElem?_eq_some_iff.mp hq).1
      have hq' : (if i = dig m lev then num else 0) = q := by
        rcases i with _ | _ | _ | _ | i
        · exact Option.some.inj hq
        · exact Option.some.inj hq
        · exact Option.some.inj hq
        · exact Option.some.inj hq
        · omega
      have hmm : m.toNat % 4 ^ (lev + 1) = r + dig m lev * 4 ^ lev := by rw [res_mod, hm, dig_nat e4]
      by_cases z : i = dig m lev
      · rw [if_pos z] at hq'
        subst hq'
        exact wrapE (.inr ⟨m, ps, hn, G, by rw [hmm, z], fun y hy hry => hF y hy (res_inv hr hry).1⟩)
      · rw [if_neg z] at hq'
        subst hq'
        refine wrapE (.inl ⟨rfl, h0, fun y hy hry => ?_⟩)
        rw [hF y hy (res_inv hr hry).1]
        refine lk_none fun p hp e => z ?_
        have := (res_inv hr hry).2
        rw [← this, ← e]
        unfold mkN
        rw [G.mrk p hp, dig_nat e4]
  · rw [hn] at h1; cases h1
    exact ⟨h2, h3⟩
theorem last_lev {r num : Nat} {n : Nd} {x : Str} (N : NsOk NS) (h : Tri NS nds F 0 5 r num) (hn : nds[num]? = some n) (hnb : n ≠ .bare) (hx : x ∈ NS) (hr : mkN x % 4 ^ 5 = r) : n.hasM (mkS x) = true := by
  rcases h with ⟨_, e, _⟩ | ⟨m, ps, e, G, hm, hF⟩
  · rw [hn] at e; cases e; exact absurd rfl hnb
  · rw [hn] at e; cases e
    refine decide_eq_true ?_
    obtain ⟨p1, pr, e1, e2, e3, e4⟩ := G.ok N
    have h1 : mkS p1.1 < 1024 := N.hi _ (G.sub p1 (by rw [e1]; exact List.mem_cons_self))
    have h2 := N.hi x hx
    have h3 := N.lo x hx
    rw [e2] at h1
    unfold mkN at hr
    have h4 : m.toNat % 1024 = r := hm
    have h5 : (mkS x).toNat % 1024 = r := hr
    rw [Nat.mod_eq_of_lt (by omega)] at h4 h5
    omega
theorem fork_new {d lev r num num' : Nat} {qs : List Nat} {x : Str} {v : V} (N : NsOk NS) (hr : r < 4 ^ lev) (hx : x ∈ NS) (hxr : mkN x % 4 ^ lev = r) (hl : qs.length = 4) (hq : ∀ (i q : Nat), qs[i]? = some q → Tri NS nds F d (lev + 1) (r + i * 4 ^ lev) q)
    (e : NEx nds nds') (hn : Tri NS nds' F' d (lev + 1) (r + dig (mkS x) lev * 4 ^ lev) num') (hF : ∀ y, y ≠ x → F' y = F y) (h : nds'[num]? = some (.fork (qs.set (dig (mkS x) lev) num'))) : Tri NS nds' F' (d + 1) lev r num := by
  refine .inr ⟨_, h, by rw [List.length_set, hl], fun i q hi => ?_⟩
  have hi4 : i < 4 := by rw [← hl]; have := (List.getElem?_eq_some_iff.mp hi).1; rwa [List.length_set] at this
  rw [List.getElem?_set] at hi
  by_cases z : dig (mkS x) lev = i
  · rw [if_pos z, if_pos (by rw [hl, z]; exact hi4)] at hi
    cases hi
    rw [← z]
    exact hn
  · rw [if_neg z] at hi
    refine Tri.congr d (res_lt hr hi4) (Tri.mono d (hq i q hi) e) fun y hy hry => hF y fun w => z ?_
    rw [w] at hry
    rw [dig_nat (N.lo x hx)]
    exact (res_inv hr hry).2
end
end K6
set_option maxHeartbeats 4000000
namespace K6
open PySem L2
inductive PutR (x : Str) (v : V) : List Nd → Nat → Nat → List Nd → Nat → Prop
  | leaf {nds : List Nd} {lev num : Nat} {n : Nd} {qs : List (Str × V)} : nds[num]? = some n → (num = 0 ∨ n.hasM (mkS x) = true) → qs.Perm (putP n.pairs x v) → SortedP qs → PutR x v nds lev num (nds ++ [.leaf (mkS x) qs]) nds.length
  | fork {nds nds1 : List Nd} {lev num q1 num1 : Nat} {n : Nd} : nds[num]? = some n → num ≠ 0 → n.hasM (mkS x) = false → (forkP num lev n)[dig (mkS x) lev]? = some q1 → PutR x v nds (lev + 1) q1 nds1 num1 → PutR x v nds lev num (nds1 ++ [.fork ((forkP num lev n).set (dig (mkS x) lev) num1)]) nds1.length
section
variable {P : Program} {w : World} {K : PySem.W.Frag} {mg : Str → Option Value} {base : Heap} {C Pl : Addr} {NS : List Str}
def spPutI (K : PySem.W.Frag) (C Pl : Addr) (NS : List Str) : Nat → Sp
  | 0 => fun _ _ _ _ => False
  | d + 1 => fun vs H Q _ => ∃ (st ln dt : Addr) (nds : List Nd) (tabs : List (Key × V)) (num lev r : Nat) (x : Str) (v : V) (F : Str → Option V), vs = [.ref st, iN num, iN lev, .str x, v] ∧ StoreAt K C st ln dt H nds tabs ∧ nds[0]? = some .bare ∧ Tri NS nds F d lev r num ∧ r < 4 ^ lev ∧ lev + d = 5 ∧ x ∈ NS ∧ mkN x % 4 ^ lev = r ∧ nds.length + d + 1 ≤ 100000 ∧ LamAt H Pl lpLeaf qLeaf ∧
    ∀ (H' : Hp) (nds' : List Nd) (num' : Nat), StoreAt K C st ln dt H' nds' tabs → NEx nds nds' → nds'.length ≤ nds.length + d + 1 → Tri NS nds' (upF F x v) d lev r num' → PutR x v nds lev num nds' num' → LamAt H' Pl lpLeaf qLeaf → Kq [ln, Pl] H H' → TF H H' → Q (iN num') H'
abbrev nPi : List Str := ["self", "number", "level", "name", "value"]
theorem scPI : FnScope ["self", "number", "level", "name", "value", "node", "pairs", "parts", "figure"] nPi (defScope c_Store_put_in) := ⟨rfl, rfl, rfl, by decide +kernel, rfl, by decide +kernel, by decide +kernel⟩
theorem tri_node {nds : List Nd} {F : Str → Option V} : ∀ {d lev r num : Nat}, Tri NS nds F d lev r num → ∃ n, nds[num]? = some n ∧ (n = .bare → num = 0) := by
  have e : ∀ {lev r num : Nat}, TriE NS nds F lev r num → ∃ n, nds[num]? = some n ∧ (n = .bare → num = 0) := fun h => by
    rcases h with ⟨h1, h2, _⟩ | ⟨m, ps, h1, _⟩
    · exact ⟨_, h2, fun _ => h1⟩
    · exact ⟨_, h1, fun z => by cases z⟩
  intro d lev r num h
  cases d with
  | zero => exact e h
  | succ d =>
    rcases h with h | ⟨qs, h1, _⟩
    · exact e h
    · exact ⟨_, h1, fun z => by cases z⟩
theorem put_here {nds : List Nd} {F : Str → Option V} {d lev r num : Nat} {n : Nd} {x : Str} (h0 : nds[0]? = some .bare) (h : Tri NS nds F d lev r num) (hn : nds[num]? = some n) (hc : num = 0 ∨ n.hasM (mkS x) = true) :
    (n.pairs.map (·.1)).Nodup ∧ (∀ p ∈ n.pairs, p.1 ∈ NS) ∧ (∀ p ∈ n.pairs, mkS p.1 = mkS x) ∧ (∀ y ∈ NS, mkN y % 4 ^ lev = r → F y = lk n.pairs y) ∧ n.pairs.length ≤ NS.length := by
  have e : TriE NS nds F lev r num → (n.pairs.map (·.1)).Nodup ∧ (∀ p ∈ n.pairs, p.1 ∈ NS) ∧ (∀ p ∈ n.pairs, mkS p.1 = mkS x) ∧ (∀ y ∈ NS, mkN y % 4 ^ lev = r → F y = lk n.pairs y) ∧ n.pairs.length ≤ NS.length := fun g => by
    rcases g with ⟨h1, h2, h3⟩ | ⟨m, ps, h1, G, hm, hF⟩
    · rw [hn] at h2; cases h2
      exact ⟨List.nodup_nil, fun p hp => (by cases hp), fun p hp => (by cases hp), h3, Nat.zero_le _⟩
    · rw [hn] at h1; cases h1
      rcases hc with z | z
      · rw [z, h0] at hn; cases hn
      · have z' : m = mkS x := of_decide_eq_true z
        exact ⟨G.nd, G.sub, fun p hp => by rw [G.mrk p hp, z'], hF, G.few⟩
  cases d with
  | zero => exact e h
  | succ d =>
    rcases h with h | ⟨qs, h1, _⟩
    · exact e h
    · rw [hn] at h1; cases h1
      rcases hc with z | z
      · rw [z, h0] at hn; cases hn
      · cases z
theorem ok_puti {f : Addr} {fd : FuncData} {d k : Nat} (N : NsOk NS) (hk : 2 ≤ k) (F : Fun K "put_in" "Store.put_in" c_Store_put_in f fd) (T : Txt K mg) (TC : TxtC K C)
    (DH : Def P w K mg base 1 "has_mark" ["node", "number"] (spHasM K)) (DR : Def P w K mg base 1 "pairs_in" ["node"] (spPairs K)) (DM : Def P w K mg base 1 "mark" ["name"] spMark) (DG : Def P w K mg base 1 "digit" ["number", "level"] spDigit)
    (DL : Def P w K mg base 2 "leaf_of" ["pairs"] (spLeaf K Pl lpLeaf)) (DO : Def P w K mg base 1 "fork_of" ["parts"] (spForkOf K)) (DK : DefM P w K mg base 1 C "keep" ["self", "node"] (spKeep K C)) (DF : DefM P w K mg base 2 C "fork_parts" ["self", "number", "level"] (spFp K C))
    (DI : DefM P w K mg base k C "put_in" nPi (spPutI K C Pl NS d)) : FnOk P w K mg base CX0 (k + 1) f fd nPi (spPutI K C Pl NS (d + 1)) := by
  refine F.ok scPI (fun vs H Q E h => ?_) (fun cdv A outer s H vs Q E hr h => ?_)
  · obtain ⟨st, ln, dt, nds, tabs, num, lev, r, x, v, F, rfl, _⟩ := h; rfl
  obtain ⟨st, ln, dt, nds, tabs, num, lev, r, x, v, Fm, rfl, S, h0, htri, hrl, hlev, hx, hxr, hlen, hL, q⟩ := h
  obtain ⟨tz, hz⟩ := T.zero
  have hr1 := hr.mono (show 1 ≤ k by omega)
  have hr2 := hr.mono hk
  refine' ⟨?t, ?h, ?r⟩
  case h =>
    conv => arg 2; whnf
    with_reducible refine' pss_cons ?a1 (pss_cons (ps_if ?a2 (pss_cons ?c1 (pss_cons ?c2 (pss_one ?c3))) pss_nil) (pss_cons ?a3 (pss_cons ?a4 (pss_cons ?a5 (pss_one ?a6)))))
    case a1 => exact ps_set (i := 5) scPI.nd rfl (Or.inl rfl) (pe_ix ix_list (pe_fld (pv 0) rfl) (pv 1) (fun _ _ => rfl))
    case a2 => exact PW.pt (pw_or (pt_cmpR op_eq (pv 1) (pe_glob rfl hz (v := .int 0) ⟨_, rfl⟩) (nomark _)) (pw_or1 (pt_val (pe_d DH hr1 (pac (pv 5) (pac (pe_d DM hr1 (pac (pv 3) pa_nil)) pa_nil))))))
    case c1 => exact ps_set (i := 6) scPI.nd rfl (Or.inl rfl) (pe_callTy (call_dict_pairs rfl) rfl T.dict (by decide +kernel) (pac (pe_d DR hr1 (pac (pv 5) pa_nil)) pa_nil))
    case c2 => exact ps_dput (hu_of hr) (pv 6) (pv 3) (pv 4) rfl
    case c3 => exact ps_ret (pe_m DK TC.cl hr1 (pv 0) (pac (pe_d DL hr2 (pac (pe_callTy (call_list_items rfl) rfl T.list (by decide +kernel) (pac (pe_bm0 PySem.F.plainAttrs_dict PySem.F.slot_dict_items PySem.F.type_dict_items mt_items (pv 6)) pa_nil)) pa_nil)) pa_nil))
    case a3 => exact ps_set (i := 7) scPI.nd rfl (Or.inl rfl) (pe_m DF TC.cl hr2 (pv 0) (pac (pv 1) (pac (pv 2) pa_nil)))
    case a4 => exact ps_set (i := 8) scPI.nd rfl (Or.inl rfl) (pe_d DG hr1 (pac (pe_d DM hr1 (pac (pv 3) pa_nil)) (pac (pv 2) pa_nil)))
    case a5 => exact ps_asg (pe_m DI TC.cl hr (pv 0) (pac (pe_ix ix_list (pv 7) (pv 8) (fun _ _ => rfl)) (pac (pe_op op_add (pv 2) pe_int) (pac (pv 3) (pac (pv 4) pa_nil))))) (pg_sub (pv 7) (pv 8) set_list)
    case a6 => exact ps_ret (pe_m DK TC.cl hr1 (pv 0) (pac (pe_d DO hr1 (pac (pv 7) pa_nil)) pa_nil))
  obtain ⟨n, hn, hbare⟩ := tri_node htri
  obtain ⟨as, a, nl, ha, hna⟩ := S.node hn
  obtain ⟨dx, ob⟩ := S.ob
  obtain ⟨tb, htb⟩ := hL.tbl
  have hst : st ∉ [Pl] := fun z => by rw [List.mem_singleton.mp z, htb] at ob; cases ob
  have hln : ln ∉ [Pl] := fun z => by rw [List.mem_singleton.mp z, htb] at nl; cases nl
  have hdt : dt ∉ [Pl] := fun z => by have e := S.tb; rw [List.mem_singleton.mp z, htb] at e; cases e
  refine ⟨_, rfl, st, C, dx, _, _, rfl, ob, TC.cl, TC.nN, flds_n ln dt, _, rfl, ln, _, _, _, rfl, rfl, SqL.of nl, atI_nat (by rw [List.getElem?_map, ha]; rfl), ?_⟩
  refine ⟨_, rfl, rfl, _, rfl, ?_⟩
  have ed : decide (iN num = V.int 0) = decide (num = 0) := by
    by_cases z : num = 0
    · rw [decide_eq_true z, z]; exact decide_eq_true rfl
    · rw [decide_eq_false z]
      exact decide_eq_false fun y => z (by have := V.int.inj y; omega)
  rw [ed]
  rcases Classical.em (num = 0 ∨ n.hasM (mkS x) = true) with hc | hc
  · obtain ⟨hnd, hsub, hmrk, hF, hfew⟩ := put_here h0 htri hn hc
    by_cases z0 : num = 0
    rw [decide_eq_true z0]
    have s1 : Same H H := Same.refl H
    refine iteT (iteT ?_)
    rotate_left
    rw [decide_eq_false z0]
    refine iteF ⟨_, rfl, _, rfl, x, rfl, N.len x hx, fun H1 s1 => ⟨a, n, mkS x, rfl, hna.tf s1.tf, _, rfl, ?_⟩⟩
    rw [hc.resolve_left z0]
    refine iteT ?_
    all_goals
      have S1 := S.keep s1
      refine ⟨_, rfl, a, n, rfl, hna.tf s1.tf, fun pt H2 s2 hpt => ?_⟩
      obtain ⟨o, ts, ept, hod, hlts, hp⟩ := hpt
      have hfw := N.few
      refine ⟨pt, ts, n.pairs, rfl, ⟨o, ept, hod⟩, hlts, by omega, hp, hnd, fun dd hd => ?_⟩
      have hd0 : H dd = none := by
        cases e : H dd with
        | none => rfl
        | some o => rw [s2 _ _ (s1 _ _ e)] at hd; cases hd
      have s3 := same_new hd (.dK (n.pairs.map fun p => ((Sum.inr p.1 : Key), p.2)))
      refine ⟨_, rfl, _, rfl, _, rfl, dd, _, rfl, DPut.k (k := Sum.inr x) upd_same (by rw [List.length_map]; exact Nat.lt_of_le_of_lt (show n.pairs.length ≤ 64 by omega) (by decide)), ?_⟩
      have s4 : Same H (upd (upd H2 dd (.dK (n.pairs.map fun p => ((Sum.inr p.1 : Key), p.2)))) dd (.dK (putK (n.pairs.map fun p => ((Sum.inr p.1 : Key), p.2)) (Sum.inr x) v))) := fun b o e => by
        rw [upd_ne (ne_of_none e hd0), upd_ne (ne_of_none e hd0)]; exact s2 _ _ (s1 _ _ e)
      have ed4 : upd (upd H2 dd (.dK (n.pairs.map fun p => ((Sum.inr p.1 : Key), p.2)))) dd (.dK (putK (n.pairs.map fun p => ((Sum.inr p.1 : Key), p.2)) (Sum.inr x) v)) dd = some (.dK ((putP n.pairs x v).map gK)) := by
        rw [upd_same, ← putP_map]; rfl
      generalize upd (upd H2 dd (.dK (n.pairs.map fun p => ((Sum.inr p.1 : Key), p.2)))) dd (.dK (putK (n.pairs.map fun p => ((Sum.inr p.1 : Key), p.2)) (Sum.inr x) v)) = H4 at *
      have S4 := S.keep s4
      obtain ⟨dx4, ob4⟩ := S4.ob
      refine ⟨_, rfl, st, dx4, _, rfl, ob4, flds_no ln dt (by decide +kernel) (by decide +kernel), _, rfl, .inr (.inr (.inl ⟨rfl, .inl ⟨_, ed4⟩⟩)), dd, _, rfl, rfl, ed4, fun vv hvv => ?_⟩
      have s5 := same_new hvv (.ext (ViewOf vv dd))
      refine ⟨vv, dd, _, rfl, upd_same, s5 _ _ ed4, fun l ts2 H5 hl5 s5b hlt2 hnone htup hlst => ?_⟩
      have s6 : Same H H5 := (s4.trans s5).trans s5b
      have G := put_leaf (NS := NS) v hx hnd hsub hmrk
      have hPT : PairT H5 ts2 (putP n.pairs x v) := by
        refine ⟨by rw [hlt2, List.length_map], fun i b p e1 e2 => ?_⟩
        exact htup i b (gK p) e1 (by rw [List.getElem?_map, e2]; rfl)
      have hL5 := LamAt.same hL s6
      refine ⟨l, ts2, putP n.pairs x v, rfl, hlst, hPT, G.ne, by have := G.few; omega, fun p hp => N.len _ (G.sub p hp), hL5, fun a6 H6 p1 pr g6 L6 perm6 sort6 node6 => ?_⟩
      have tb5 : H5 Pl = some (.tbl tb) := s6 _ _ htb
      have tf6 : TF H5 H6 := g6.tf tb5
      have S6 := (S.keep s6).kq g6.kq tf6 hst hln hdt
      refine ⟨st, ln, dt, a6, nds, tabs, _, rfl, S6, node6, by omega, fun H7 S7 k7 tf7 => ?_⟩
      have nl6 : ∃ xs, H6 ln = some (.lst xs) := by obtain ⟨as6, e6, _⟩ := S6.nl; exact ⟨_, e6⟩
      have hmk : mkS p1.1 = mkS x := (G.perm perm6).mrk p1 List.mem_cons_self
      rw [hmk] at S7
      refine q H7 _ nds.length S7 (NEx.app nds _) (by rw [List.length_append]; show nds.length + 1 ≤ _; omega) ?_ (PutR.leaf hn hc perm6 sort6) (L6.kq k7 fun b hb => by rw [List.mem_singleton.mp hb]; exact nl6) ?_ ((s6.tf.trans tf6).trans tf7)
      · exact tri_leaf (ps := n.pairs) N hx hxr (by rw [List.getElem?_append_right (Nat.le_refl _), Nat.sub_self]; rfl) rfl G perm6 hF
      · exact (Same.kq s6).trans ((g6.kq.sub fun b hb => by simp at hb ⊢; exact .inr hb).trans (k7.sub fun b hb => by simp at hb ⊢; exact .inl hb))
  · have z0 : num ≠ 0 := fun z => hc (.inl z)
    have zm : n.hasM (mkS x) = false := by
      cases e : n.hasM (mkS x) with
      | false => rfl
      | true => exact absurd (.inr e) hc
    have hnb : n ≠ .bare := fun z => z0 (hbare z)
    rw [decide_eq_false z0]
    refine iteF ⟨_, rfl, _, rfl, x, rfl, N.len x hx, fun H1 s1 => ⟨a, n, mkS x, rfl, hna.tf s1.tf, _, rfl, ?_⟩⟩
    rw [zm]
    refine iteF ?_
    cases d with
    | zero =>
      have h5 : lev = 5 := by omega
      subst h5
      exact absurd (.inr (last_lev N htri hn hnb hx hxr)) hc
    | succ d =>
      obtain ⟨hf4, hft⟩ := fork_tri N h0 hrl htri hn hnb
      have hok : LeafOk n := by
        rcases htri with htri | ⟨qs, h1, _⟩
        · rcases htri with ⟨z, _⟩ | ⟨m, ps, h1, G, _⟩
          · exact absurd z z0
          · rw [hn] at h1; cases h1; exact G.ok N
        · rw [hn] at h1; cases h1; exact trivial
      have S1 := S.keep s1
      obtain ⟨dx1, ob1⟩ := S1.ob
      refine ⟨_, rfl, st, dx1, _, rfl, ob1, flds_no ln dt (by decide +kernel) (by decide +kernel), _, rfl, _, rfl, st, ln, dt, nds, tabs, num, lev, n, rfl, S1, hn, hnb, hok, by omega, fun rl H2 hrl1 s2 el => ?_⟩
      refine ⟨_, rfl, x, rfl, N.len x hx, fun H3 s3 => ⟨_, rfl, mkS x, lev, rfl, N.lo x hx, by omega, ?_⟩⟩
      have s13 : Same H H3 := (s1.trans s2).trans s3
      have S3 := S.keep s13
      have hrl0 : H rl = none := by
        cases e : H rl with
        | none => rfl
        | some o => rw [s1 _ _ e] at hrl1; cases hrl1
      have el3 := s3 _ _ el
      have hdl : dig (mkS x) lev < (forkP num lev n).length := by rw [hf4]; exact dig_lt _ _
      have hq1 := List.getElem?_eq_getElem hdl
      generalize (forkP num lev n)[dig (mkS x) lev] = q1 at hq1
      have hat : atI ((forkP num lev n).map iN) (mkS x / 4 ^ lev % 4) = some (iN q1) := by rw [← dig_int]; exact atI_nat (by rw [List.getElem?_map, hq1]; rfl)
      obtain ⟨dx3, ob3⟩ := S3.ob
      refine ⟨_, rfl, st, dx3, _, rfl, ob3, flds_no ln dt (by decide +kernel) (by decide +kernel), _, rfl, _, rfl, rl, _, _, _, rfl, rfl, SqL.of el3, hat, _, rfl, _, _, rfl, rfl, _, rfl, _, rfl, ?_⟩
      refine ⟨st, ln, dt, nds, tabs, q1, lev + 1, _, x, v, Fm, rfl, S3, h0, hft _ _ hq1, res_lt hrl (dig_lt _ _), by omega, hx, by rw [res_mod, hxr, dig_nat (N.lo x hx)]; rfl, by omega, LamAt.same hL s13, fun H5 nds5 num5 S5 ext5 len5 tri5 pr5 L5 kq5 tf5 => ?_⟩
      have nrl : rl ∉ [ln, Pl] := fun z => by
        rcases List.mem_cons.mp z with z | z
        · rw [z, nl] at hrl0; cases hrl0
        · rw [List.mem_singleton.mp z, htb] at hrl0; cases hrl0
      have el5 := kq5 _ _ nrl el3
      have hix : ixN ((forkP num lev n).map iN).length (mkS x / 4 ^ lev % 4) = some (dig (mkS x) lev) := by
        rw [← dig_int, List.length_map]
        unfold ixN
        rw [if_pos (by omega), if_pos (by omega)]
        rfl
      refine ⟨_, rfl, _, rfl, rl, _, _, _, rfl, rfl, el5, hix, ?_⟩
      have tf6 := tf_lst (o := .lst (((forkP num lev n).map iN).set (dig (mkS x) lev) (iN num5))) el5
      have k6 : Kq [rl] H5 (upd H5 rl (.lst (((forkP num lev n).map iN).set (dig (mkS x) lev) (iN num5)))) := kq_upd
      have nst : st ∉ [rl] := fun z => by rw [← List.mem_singleton.mp z, ob] at hrl0; cases hrl0
      have nln : ln ∉ [rl] := fun z => by rw [← List.mem_singleton.mp z, nl] at hrl0; cases hrl0
      have ndt : dt ∉ [rl] := fun z => by rw [← List.mem_singleton.mp z, S.tb] at hrl0; cases hrl0
      have S6 := S5.kq k6 tf6 nst nln ndt
      have el6 : upd H5 rl (.lst (((forkP num lev n).map iN).set (dig (mkS x) lev) (iN num5))) rl = some (.lst (((forkP num lev n).set (dig (mkS x) lev) num5).map iN)) := by rw [upd_same, List.map_set]
      have L6 := L5.kq k6 fun b hb => by rw [List.mem_singleton.mp hb]; exact ⟨_, el5⟩
      have kh : Kq [ln, Pl] H (upd H5 rl (.lst (((forkP num lev n).map iN).set (dig (mkS x) lev) (iN num5)))) := fun b o nb e => by
        rw [upd_ne (ne_of_none e hrl0)]; exact kq5 _ _ nb (s13 _ _ e)
      generalize upd H5 rl (.lst (((forkP num lev n).map iN).set (dig (mkS x) lev) (iN num5))) = H6 at *
      obtain ⟨dx6, ob6⟩ := S6.ob
      refine ⟨_, rfl, st, dx6, _, rfl, ob6, flds_no ln dt (by decide +kernel) (by decide +kernel), _, rfl, rl, (forkP num lev n).set (dig (mkS x) lev) num5, rfl, el6, by rw [List.length_set, hf4], fun a7 H7 s7 node7 => ?_⟩
      have S7 := S6.keep s7
      refine ⟨st, ln, dt, a7, nds5, tabs, _, rfl, S7, node7, by omega, fun H8 S8 k8 tf8 => ?_⟩
      have nl7 : ∃ xs, H7 ln = some (.lst xs) := by obtain ⟨as7, e7, _⟩ := S7.nl; exact ⟨_, e7⟩
      refine q H8 _ nds5.length S8 (ext5.trans (NEx.app nds5 _)) (by rw [List.length_append]; show nds5.length + 1 ≤ _; omega) ?_ (PutR.fork hn z0 zm hq1 pr5) ((LamAt.same L6 s7).kq k8 fun b hb => by rw [List.mem_singleton.mp hb]; exact nl7) ?_ ((((s13.tf.trans tf5).trans tf6).trans s7.tf).trans tf8)
      · refine fork_new (v := v) (num' := num5) (F := Fm) (qs := forkP num lev n) N hrl hx hxr hf4 hft (ext5.trans (NEx.app nds5 _)) (Tri.mono d tri5 (NEx.app nds5 _)) (fun y hy => if_neg hy) ?_
        rw [List.getElem?_append_right (Nat.le_refl _), Nat.sub_self]; rfl
      · exact (kh.trans (Same.kq s7)).trans (k8.sub fun b hb => by simp at hb ⊢; exact .inl hb)
end
end K6
set_option maxHeartbeats 4000000
namespace K6
open PySem L2
section
variable {P : Program} {w : World} {K : PySem.W.Frag} {mg : Str → Option Value} {base : Heap} {C Pl : Addr} {NS : List Str}
theorem ok_putd {f : Addr} {fd : FuncData} (N : NsOk NS) (F : Fun K "put_in" "Store.put_in" c_Store_put_in f fd) (T : Txt K mg) (TC : TxtC K C)
    (DH : Def P w K mg base 1 "has_mark" ["node", "number"] (spHasM K)) (DR : Def P w K mg base 1 "pairs_in" ["node"] (spPairs K)) (DM : Def P w K mg base 1 "mark" ["name"] spMark) (DG : Def P w K mg base 1 "digit" ["number", "level"] spDigit)
    (DL : Def P w K mg base 2 "leaf_of" ["pairs"] (spLeaf K Pl lpLeaf)) (DO : Def P w K mg base 1 "fork_of" ["parts"] (spForkOf K)) (DK : DefM P w K mg base 1 C "keep" ["self", "node"] (spKeep K C)) (DF : DefM P w K mg base 2 C "fork_parts" ["self", "number", "level"] (spFp K C))
    (b : Binds K fd nPi []) (mt : Meth K C "put_in" f) : ∀ d, FnOk P w K mg base CX0 (2 + d) f fd nPi (spPutI K C Pl NS d)
  | 0 => F.ok scPI (fun _ _ _ _ h => h.elim) (fun _ _ _ _ _ _ _ _ _ h => h.elim)
  | d + 1 => ok_puti N (Nat.le_add_right 2 d) F T TC DH DR DM DG DL DO DK DF ⟨f, fd, ok_putd N F T TC DH DR DM DG DL DO DK DF b mt d, b, mt⟩
def spAlike : Sp := fun vs H Q _ => ∃ u v, vs = [u, v] ∧ scal u v = true ∧ Q (.bl (decide (u = v))) H
theorem scAl : FnScope ["one", "other"] ["one", "other"] (defScope s_alike) := ⟨rfl, rfl, rfl, by decide +kernel, rfl, by decide +kernel, by decide +kernel⟩
theorem ok_alike {f : Addr} {fd : FuncData} (F : Fun K "alike" "alike" s_alike f fd) : FnOk P w K mg base CX0 1 f fd ["one", "other"] spAlike := by
  refine F.ok scAl (fun vs H Q E h => ?_) (fun cdv A outer s H vs Q E hr h => ?_)
  · obtain ⟨u, v, rfl, _⟩ := h; rfl
  obtain ⟨u, v, rfl, hs, q⟩ := h
  exact ⟨_, pss_one (ps_ret (pe_cmpR op_eq (pv 0) (pv 1) (nomark _))), ⟨_, rfl, _, rfl, hs, q⟩⟩
def ValV : V → Prop
  | .int _ => True
  | .str _ => True
  | _ => False
theorem ValV.scal {o : Option V} {v : V} (h : ValV v) (ho : ∀ u, o = some u → ValV u) : scal (o.getD .non) v = true := by
  cases o with
  | none => cases v <;> first | rfl | exact h.elim
  | some u =>
    have hu := ho u rfl
    cases u <;> first | exact hu.elim | (cases v <;> first | rfl | exact h.elim)
theorem ValV.ne {v : V} (h : ValV v) : v ≠ .non := fun z => by subst z; exact h
theorem tri_looked {nds : List Nd} {F : Str → Option V} {t : Nat} {x : Str} (N : NsOk NS) (h : Tri NS nds F 5 0 0 t) (hx : x ∈ NS) :
    ∃ ws e n, wayF nds (mkS x) 6 0 t = some (ws ++ [e]) ∧ nds[e]? = some n ∧ n.pairs.length ≤ 1000 ∧ (n.pairs.map (·.1)).Nodup ∧ lk n.pairs x = F x := by
  obtain ⟨ws, e, n, e1, e2, e3⟩ := tri_way N 5 (by decide) h hx (by rw [Nat.pow_zero, Nat.mod_one])
  refine ⟨ws, e, n, e1, e2, ?_⟩
  have hf := N.few
  rcases e3 with ⟨_, rfl, z⟩ | ⟨m, ps, rfl, G, z⟩
  · exact ⟨Nat.zero_le _, List.nodup_nil, by rw [z]; rfl⟩
  · exact ⟨by have := G.few; show ps.length ≤ 1000; omega, G.nd, z.symm⟩
def spPut (K : PySem.W.Frag) (C Pl : Addr) (NS : List Str) : Sp := fun vs H Q _ => ∃ (st ln dt : Addr) (nds : List Nd) (tabs : List (Key × V)) (t : Nat) (x : Str) (v : V) (F : Str → Option V), vs = [.ref st, iN t, .str x, v] ∧ StoreAt K C st ln dt H nds tabs ∧ nds[0]? = some .bare ∧ (valV tabs (Sum.inl (t : Int))).isSome = true ∧ Tri NS nds F 5 0 0 t ∧ x ∈ NS ∧ ValV v ∧ (∀ u, F x = some u → ValV u) ∧ nds.length + 6 ≤ 100000 ∧ tabs.length ≤ 100000 ∧ LamAt H Pl lpLeaf qLeaf ∧
  ∀ (H' : Hp) (nds' : List Nd) (tabs' : List (Key × V)) (t' : Nat), StoreAt K C st ln dt H' nds' tabs' → NEx nds nds' → nds'.length ≤ nds.length + 6 → tabs'.length ≤ tabs.length + 1 → (∀ k, (valV tabs k).isSome = true → (valV tabs' k).isSome = true) → (valV tabs' (Sum.inl (t' : Int))).isSome = true → Tri NS nds' (upF F x v) 5 0 0 t' → ((F x = some v ∧ t' = t ∧ nds' = nds ∧ tabs' = tabs) ∨ (F x ≠ some v ∧ PutR x v nds 0 t nds' t' ∧ tabs' = putK tabs (Sum.inl (t' : Int)) (.bl true))) → LamAt H' Pl lpLeaf qLeaf → Kq [ln, dt, Pl] H H' → TF H H' → Q (iN t') H'
theorem scPu : FnScope ["self", "table", "name", "value"] ["self", "table", "name", "value"] (defScope c_Store_put) := ⟨rfl, rfl, rfl, by decide +kernel, rfl, by decide +kernel, by decide +kernel⟩
theorem ok_put {f : Addr} {fd : FuncData} (N : NsOk NS) (F : Fun K "put" "Store.put" c_Store_put f fd) (TC : TxtC K C) (DA : Def P w K mg base 1 "alike" ["one", "other"] spAlike) (DLk : DefM P w K mg base 3 C "looked" ["self", "table", "name"] (spLooked K C))
    (DAs : DefM P w K mg base 1 C "as_table" ["self", "number"] (spAsT K C)) (DI : DefM P w K mg base 8 C "put_in" nPi (spPutI K C Pl NS 6)) : FnOk P w K mg base CX0 9 f fd ["self", "table", "name", "value"] (spPut K C Pl NS) := by
  refine F.ok scPu (fun vs H Q E h => ?_) (fun cdv A outer s H vs Q E hr h => ?_)
  · obtain ⟨st, ln, dt, nds, tabs, t, x, v, F, rfl, _⟩ := h; rfl
  obtain ⟨st, ln, dt, nds, tabs, t, x, v, Fm, rfl, S, h0, htab, htri, hx, hv, hFv, hlen, htl, hL, q⟩ := h
  have hr1 := hr.mono (show 1 ≤ 8 by decide)
  have hr3 := hr.mono (show 3 ≤ 8 by decide)
  refine' ⟨?t, ?h, ?r⟩
  case h =>
    conv => arg 2; whnf
    with_reducible refine' pss_cons (ps_if ?a1 (pss_one ?a2) pss_nil) (pss_one ?a3)
    case a1 => exact pt_val (pe_d DA hr1 (pac (pe_m DLk TC.cl hr3 (pv 0) (pac (pv 1) (pac (pv 2) pa_nil))) (pac (pv 3) pa_nil)))
    case a2 => exact ps_ret (pv 1)
    case a3 => exact ps_ret (pe_m DAs TC.cl hr1 (pv 0) (pac (pe_m DI TC.cl hr (pv 0) (pac (pv 1) (pac pe_int (pac (pv 2) (pac (pv 3) pa_nil))))) pa_nil))
  obtain ⟨dx, ob⟩ := S.ob
  obtain ⟨ws, e, n, e1, e2, e3, e4, e5⟩ := tri_looked N htri hx
  refine ⟨_, rfl, st, dx, _, rfl, ob, flds_no ln dt (by decide +kernel) (by decide +kernel), _, rfl, _, rfl, st, ln, dt, nds, tabs, t, x, 6, ws, e, n, rfl, S, htab, N.len x hx, N.lo x hx, by decide, e1, e2, e3, e4, fun H1 s1 => ?_⟩
  rw [e5]
  refine ⟨_, rfl, _, _, rfl, hv.scal hFv, _, rfl, ?_⟩
  have S1 := S.keep s1
  have hL1 := LamAt.same hL s1
  by_cases hc : (Fm x).getD .non = v
  · rw [decide_eq_true hc]
    refine iteT ⟨_, rfl, q H1 nds tabs t S1 (NEx.refl _) (by omega) (by omega) (fun _ h => h) htab (Tri.congr 5 (by decide) htri fun y _ _ => ?_) (.inl ⟨?_, rfl, rfl, rfl⟩) hL1 (Same.kq s1) s1.tf⟩
    rotate_left
    · cases eF : Fm x with
      | none => rw [eF] at hc; exact absurd hc.symm hv.ne
      | some u => rw [eF] at hc; exact congrArg some hc
    unfold upF
    by_cases z : y = x
    · rw [if_pos z, z]
      cases eF : Fm x with
      | none => rw [eF] at hc; exact absurd hc.symm hv.ne
      | some u => rw [eF] at hc; exact congrArg some hc.symm
    · rw [if_neg z]
  · rw [decide_eq_false hc]
    obtain ⟨dx1, ob1⟩ := S1.ob
    refine iteF ⟨_, rfl, st, dx1, _, rfl, ob1, flds_no ln dt (by decide +kernel) (by decide +kernel), _, rfl, st, dx1, _, rfl, ob1, flds_no ln dt (by decide +kernel) (by decide +kernel), _, rfl, _, rfl, _, rfl, ?_⟩
    refine ⟨st, ln, dt, nds, tabs, t, 0, 0, x, v, Fm, rfl, S1, h0, htri, by decide, rfl, hx, by rw [Nat.pow_zero, Nat.mod_one], hlen, hL1, fun H2 nds2 num2 S2 ext2 len2 tri2 pr2 L2' kq2 tf2 => ?_⟩
    refine ⟨st, ln, dt, nds2, tabs, num2, rfl, S2, by omega, fun H3 S3 k3 tf3 => ?_⟩
    obtain ⟨tb, htb⟩ := L2'.tbl
    refine q H3 nds2 _ num2 S3 ext2 len2 (length_putK _ _ _) (fun k hk => ?_) (by rw [valV_put, if_pos rfl]; rfl) tri2 (.inr ⟨fun z => hc (by rw [z]; rfl), pr2, rfl⟩) ?_ ?_ ((s1.tf.trans tf2).trans tf3)
    · rw [valV_put]
      by_cases z : k = Sum.inl (num2 : Int)
      · rw [if_pos z]; rfl
      · rw [if_neg z]; exact hk
    · have hdl : ∀ b ∈ [dt], ∃ xs, H2 b = some (.dK xs) := fun b hb => by rw [List.mem_singleton.mp hb]; exact ⟨_, S2.tb⟩
      rcases L2' with h | ⟨c, h, h2⟩
      · exact .inl (k3 _ _ (fun z => by obtain ⟨_, e⟩ := hdl _ z; rw [h] at e; cases e) h)
      · exact .inr ⟨c, k3 _ _ (fun z => by obtain ⟨_, e⟩ := hdl _ z; rw [h] at e; cases e) h, k3 _ _ (fun z => by obtain ⟨_, e⟩ := hdl _ z; rw [h2] at e; cases e) h2⟩
    · exact ((Same.kq s1).trans (kq2.sub fun b hb => by simp at hb ⊢; rcases hb with z | z; exact .inl z; exact .inr (.inr z))).trans (k3.sub fun b hb => by simp at hb ⊢; exact .inr (.inl hb))
end
end K6
set_option maxHeartbeats 4000000
namespace K6
open PySem L2
section
variable {NS : List Str} {nds nds' : List Nd} {F F' : Str → Option V}
def dnF (F : Str → Option V) (x : Str) : Str → Option V := fun y => if y = x then none else F y
def butP (ps : List (Str × V)) (x : Str) : List (Str × V) := ps.filter fun p => !decide (p.1 = x)
theorem butP_lk (ps : List (Str × V)) (x y : Str) : lk (butP ps x) y = if y = x then none else lk ps y := by
  induction ps with
  | nil => by_cases h : y = x
           · rw [if_pos h]; rfl
           · rw [if_neg h]; rfl
  | cons p ps ih =>
    unfold butP at ih ⊢
    rw [List.filter_cons]
    by_cases hp : p.1 = x
    · rw [decide_eq_true hp]
      show lk (ps.filter fun p => !decide (p.1 = x)) y = _
      rw [ih, lk_cons]
      by_cases h : y = x
      · rw [if_pos h, if_pos h]
      · rw [if_neg h, if_neg h, if_neg fun z => h (by rw [← z, hp])]
    · rw [decide_eq_false hp]
      show lk (p :: ps.filter fun p => !decide (p.1 = x)) y = _
      rw [lk_cons, ih, lk_cons]
      by_cases h : y = x
      · rw [if_pos h, if_pos h, if_neg fun z => hp (by rw [z, h])]
      · rw [if_neg h, if_neg h]
theorem LeafG.but {m : Int} {ps : List (Str × V)} {x : Str} (G : LeafG NS m ps) (h : butP ps x ≠ []) : LeafG NS m (butP ps x) := by
  have hs : (butP ps x).Sublist ps := List.filter_sublist
  exact ⟨h, G.nd.sublist (hs.map (·.1)), fun p hp => G.sub p (hs.subset hp), fun p hp => G.mrk p (hs.subset hp)⟩
theorem triE_wrap {d lev r num : Nat} (h : TriE NS nds F lev r num) : Tri NS nds F d lev r num := by
  cases d with
  | zero => exact h
  | succ d => exact .inl h
theorem take_here {d lev r num : Nat} {n : Nd} {x : Str} {v0 : V} (h : Tri NS nds F d lev r num) (hn : nds[num]? = some n) (hx : x ∈ NS) (hxr : mkN x % 4 ^ lev = r) (hF : F x = some v0) :
    (∃ ps, n = .leaf (mkS x) ps ∧ LeafG NS (mkS x) ps ∧ ∀ y ∈ NS, mkN y % 4 ^ lev = r → F y = lk ps y) ∨ ∃ qs d', d = d' + 1 ∧ n = .fork qs ∧ qs.length = 4 ∧ ∀ i q, qs[i]? = some q → Tri NS nds F d' (lev + 1) (r + i * 4 ^ lev) q := by
  have e : TriE NS nds F lev r num → ∃ ps, n = .leaf (mkS x) ps ∧ LeafG NS (mkS x) ps ∧ ∀ y ∈ NS, mkN y % 4 ^ lev = r → F y = lk ps y := fun g => by
    rcases g with ⟨_, _, h3⟩ | ⟨m, ps, h1, G, _, h4⟩
    · rw [h3 x hx hxr] at hF; cases hF
    · rw [hn] at h1; cases h1
      have hm : mkS x = m := by
        rw [h4 x hx hxr] at hF
        exact G.mrk _ ((lk_mem G.nd).mp hF)
      subst hm
      exact ⟨ps, rfl, G, h4⟩
  cases d with
  | zero => exact .inl (e h)
  | succ d =>
    rcases h with h | ⟨qs, h1, h2, h3⟩
    · exact .inl (e h)
    · rw [hn] at h1; cases h1
      exact .inr ⟨qs, d, rfl, rfl, h2, h3⟩
theorem tri_less {lev r num : Nat} {ps qs : List (Str × V)} {x : Str} (d : Nat) (hr : mkN x % 4 ^ lev = r) (hn : nds[num]? = some (.leaf (mkS x) qs)) (G : LeafG NS (mkS x) (butP ps x)) (hp : qs.Perm (butP ps x)) (hF : ∀ y ∈ NS, mkN y % 4 ^ lev = r → F y = lk ps y) : Tri NS nds (dnF F x) d lev r num := by
  refine triE_wrap (.inr ⟨mkS x, qs, hn, G.perm hp, hr, fun y hy hry => ?_⟩)
  rw [lk_perm hp G.nd, butP_lk]
  unfold dnF
  by_cases h : y = x
  · rw [if_pos h, if_pos h]
  · rw [if_neg h, if_neg h]; exact hF y hy hry
theorem tri_gone {lev r : Nat} {ps : List (Str × V)} {x : Str} (d : Nat) (h0 : nds[0]? = some .bare) (hb : butP ps x = []) (hF : ∀ y ∈ NS, mkN y % 4 ^ lev = r → F y = lk ps y) : Tri NS nds (dnF F x) d lev r 0 := by
  refine triE_wrap (.inl ⟨rfl, h0, fun y hy hry => ?_⟩)
  have := butP_lk ps x y
  rw [hb, lk_nil] at this
  unfold dnF
  by_cases h : y = x
  · rw [if_pos h]
  · rw [if_neg h] at this ⊢; rw [hF y hy hry]; exact this.symm
theorem parts_new {d lev r num' : Nat} {qs : List Nat} {x : Str} (N : NsOk NS) (hr : r < 4 ^ lev) (hx : x ∈ NS) (hxr : mkN x % 4 ^ lev = r) (hl : qs.length = 4) (hq : ∀ (i q : Nat), qs[i]? = some q → Tri NS nds F d (lev + 1) (r + i * 4 ^ lev) q)
    (e : NEx nds nds') (hn : Tri NS nds' F' d (lev + 1) (r + dig (mkS x) lev * 4 ^ lev) num') (hF : ∀ y, y ≠ x → F' y = F y) (i q : Nat) (hi : (qs.set (dig (mkS x) lev) num')[i]? = some q) : Tri NS nds' F' d (lev + 1) (r + i * 4 ^ lev) q := by
  have hi4 : i < 4 := by rw [← hl]; have := (List.getElem?_eq_some_iff.mp hi).1; rwa [List.length_set] at this
  rw [List.getElem?_set] at hi
  by_cases z : dig (mkS x) lev = i
  · rw [if_pos z, if_pos (by rw [hl, z]; exact hi4)] at hi
    cases hi
    rw [← z]
    exact hn
  · rw [if_neg z] at hi
    refine Tri.congr d (res_lt hr hi4) (Tri.mono d (hq i q hi) e) fun y hy hry => hF y fun w => z ?_
    rw [w] at hry
    rw [dig_nat (N.lo x hx)]
    exact (res_inv hr hry).2
theorem filter_one {qs : List Nat} {q : Nat} (h : (qs.filter fun p => !decide (p = 0)) = [q]) : ∃ i : Nat, qs[i]? = some q ∧ q ≠ 0 ∧ ∀ (j p : Nat), qs[j]? = some p → j ≠ i → p = 0 := by
  induction qs with
  | nil => cases h
  | cons a qs ih =>
    rw [List.filter_cons] at h
    by_cases ha : a = 0
    · rw [decide_eq_true ha] at h
      obtain ⟨i, h1, h2, h3⟩ := ih h
      refine ⟨i + 1, h1, h2, fun j p hj hne => ?_⟩
      cases j with
      | zero => cases hj; exact ha
      | succ j => exact h3 j p hj fun z => hne (by rw [z])
    · rw [decide_eq_false ha] at h
      have h' : a :: (qs.filter fun p => !decide (p = 0)) = [q] := h
      obtain ⟨e1, e2⟩ := List.cons.inj h'
      refine ⟨0, by rw [e1]; rfl, by rw [← e1]; exact ha, fun j p hj hne => ?_⟩
      cases j with
      | zero => exact absurd rfl hne
      | succ j =>
        have hp : p ∈ qs := List.mem_of_getElem? hj
        by_cases z : p = 0
        · exact z
        · have : p ∈ qs.filter fun p => !decide (p = 0) := List.mem_filter.mpr ⟨hp, by rw [decide_eq_false z]; rfl⟩
          rw [e2] at this; cases this
theorem tri_up {d lev r q : Nat} {qs : List Nat} {m : Int} {ps : List (Str × V)} (N : NsOk NS) (h0 : nds[0]? = some .bare) (hr : r < 4 ^ lev) (hl : qs.length = 4) (hq : ∀ (i q : Nat), qs[i]? = some q → Tri NS nds F d (lev + 1) (r + i * 4 ^ lev) q)
    (h1 : (qs.filter fun p => !decide (p = 0)) = [q]) (hn : nds[q]? = some (.leaf m ps)) : Tri NS nds F (d + 1) lev r q := by
  obtain ⟨i, hi, hq0, hoth⟩ := filter_one h1
  have leafE : TriE NS nds F (lev + 1) (r + i * 4 ^ lev) q := by
    have := hq i q hi
    cases d with
    | zero => exact this
    | succ d =>
      rcases this with h | ⟨qs', h, _⟩
      · exact h
      · rw [hn] at h; cases h
  rcases leafE with ⟨z, _⟩ | ⟨m', ps', e, G, hm, hF⟩
  · exact absurd z hq0
  · rw [hn] at e; cases e
    obtain ⟨p1, pr, e1, e2, e3, e4⟩ := G.ok N
    obtain ⟨hm1, hm2⟩ := res_inv hr hm
    refine .inl (.inr ⟨m, ps, hn, G, hm1, fun y hy hry => ?_⟩)
    have hj : dig (mkS y) lev < qs.length := by rw [hl]; exact dig_lt _ _
    have hyr : mkN y % 4 ^ (lev + 1) = r + dig (mkS y) lev * 4 ^ lev := by rw [res_mod, hry, dig_nat (N.lo y hy)]; rfl
    by_cases z : dig (mkS y) lev = i
    · rw [z] at hyr; exact hF y hy hyr
    · have hz := hoth _ _ (List.getElem?_eq_getElem hj) z
      have ht := hq _ _ (List.getElem?_eq_getElem hj)
      rw [hz] at ht
      have hE : TriE NS nds F (lev + 1) (r + dig (mkS y) lev * 4 ^ lev) 0 := by
        cases d with
        | zero => exact ht
        | succ d =>
          rcases ht with h | ⟨qs', h, _⟩
          · exact h
          · rw [h0] at h; cases h
      rcases hE with ⟨_, _, h3⟩ | ⟨m', ps', e, _⟩
      · rw [h3 y hy hyr]
        refine (lk_none fun p hp e => z ?_).symm
        rw [dig_nat (N.lo y hy), ← hm2, ← e, G.mrk p hp]
      · rw [h0] at e; cases e
theorem tri_fork {d lev r num : Nat} {qs : List Nat} (hn : nds[num]? = some (.fork qs)) (hl : qs.length = 4) (hq : ∀ (i q : Nat), qs[i]? = some q → Tri NS nds F d (lev + 1) (r + i * 4 ^ lev) q) : Tri NS nds F (d + 1) lev r num := .inr ⟨qs, hn, hl, hq⟩
end
theorem ix_tupK {X : Cx} {K : PySem.W.Frag} (hK : X.K = K) : IxR X (rIxT K) := by subst hK; exact ix_tup
inductive TakR (x : Str) : List Nd → Nat → Nat → List Nd → Nat → Prop
  | gone {nds : List Nd} {lev num : Nat} {ps : List (Str × V)} : nds[num]? = some (.leaf (mkS x) ps) → butP ps x = [] → TakR x nds lev num nds 0
  | less {nds : List Nd} {lev num : Nat} {ps qs : List (Str × V)} : nds[num]? = some (.leaf (mkS x) ps) → butP ps x ≠ [] → qs.Perm (butP ps x) → SortedP qs → TakR x nds lev num (nds ++ [.leaf (mkS x) qs]) nds.length
  | up {nds nds1 : List Nd} {lev num q1 num1 q : Nat} {qs : List Nat} {m : Int} {ps : List (Str × V)} : nds[num]? = some (.fork qs) → qs[dig (mkS x) lev]? = some q1 → TakR x nds (lev + 1) q1 nds1 num1 → ((qs.set (dig (mkS x) lev) num1).filter fun p => !decide (p = 0)) = [q] → nds1[q]? = some (.leaf m ps) → TakR x nds lev num nds1 q
  | fork {nds nds1 : List Nd} {lev num q1 num1 : Nat} {qs : List Nat} : nds[num]? = some (.fork qs) → qs[dig (mkS x) lev]? = some q1 → TakR x nds (lev + 1) q1 nds1 num1 → (∀ (q : Nat) (m : Int) (ps : List (Str × V)), ((qs.set (dig (mkS x) lev) num1).filter fun p => !decide (p = 0)) = [q] → nds1[q]? ≠ some (.leaf m ps)) → TakR x nds lev num (nds1 ++ [.fork (qs.set (dig (mkS x) lev) num1)]) nds1.length
section
variable {P : Program} {w : World} {K : PySem.W.Frag} {mg : Str → Option Value} {base : Heap} {C Pl : Addr} {NS : List Str}
def spTak (K : PySem.W.Frag) (C Pl : Addr) (NS : List Str) : Nat → Sp
  | 0 => fun _ _ _ _ => False
  | d + 1 => fun vs H Q _ => ∃ (st ln dt : Addr) (nds : List Nd) (tabs : List (Key × V)) (num lev r : Nat) (x : Str) (v0 : V) (F : Str → Option V), vs = [.ref st, iN num, iN lev, .str x] ∧ StoreAt K C st ln dt H nds tabs ∧ nds[0]? = some .bare ∧ Tri NS nds F d lev r num ∧ r < 4 ^ lev ∧ lev + d = 5 ∧ x ∈ NS ∧ mkN x % 4 ^ lev = r ∧ F x = some v0 ∧ nds.length + d + 1 ≤ 100000 ∧ LamAt H Pl lpLeaf qLeaf ∧
    ∀ (H' : Hp) (nds' : List Nd) (num' : Nat), StoreAt K C st ln dt H' nds' tabs → NEx nds nds' → nds'.length ≤ nds.length + d + 1 → Tri NS nds' (dnF F x) d lev r num' → TakR x nds lev num nds' num' → LamAt H' Pl lpLeaf qLeaf → Kq [ln, Pl] H H' → TF H H' → Q (iN num') H'
abbrev nTk : List Str := ["self", "number", "level", "name"]
abbrev nTa : List Str := ["self", "number", "level", "name", "node", "left", "parts", "figure", "filled"]
theorem scTk : FnScope nTa nTk (defScope c_Store_taken_from) := ⟨rfl, rfl, rfl, by decide +kernel, rfl, by decide +kernel, by decide +kernel⟩
theorem ok_tak {f : Addr} {fd : FuncData} {d k : Nat} (N : NsOk NS) (hk : 2 ≤ k) (F : Fun K "taken_from" "Store.taken_from" c_Store_taken_from f fd) (T : Txt K mg) (TC : TxtC K C)
    (DH : Def P w K mg base 1 "has_mark" ["node", "number"] (spHasM K)) (DP : Def P w K mg base 1 "parts_in" ["node"] (spParts K)) (DR : Def P w K mg base 1 "pairs_in" ["node"] (spPairs K)) (DM : Def P w K mg base 1 "mark" ["name"] spMark) (DG : Def P w K mg base 1 "digit" ["number", "level"] spDigit)
    (DL : Def P w K mg base 2 "leaf_of" ["pairs"] (spLeaf K Pl lpLeaf)) (DO : Def P w K mg base 1 "fork_of" ["parts"] (spForkOf K)) (DK : DefM P w K mg base 1 C "keep" ["self", "node"] (spKeep K C))
    (DI : DefM P w K mg base k C "taken_from" nTk (spTak K C Pl NS d)) : FnOk P w K mg base CX0 (k + 1) f fd nTk (spTak K C Pl NS (d + 1)) := by
  refine F.ok scTk (fun vs H Q E h => ?_) (fun cdv A outer s H vs Q E hr h => ?_)
  · obtain ⟨st, ln, dt, nds, tabs, num, lev, r, x, v0, F, rfl, _⟩ := h; rfl
  obtain ⟨st, ln, dt, nds, tabs, num, lev, r, x, v0, Fm, rfl, S, h0, htri, hrl, hlev, hx, hxr, hFx, hlen, hL, q⟩ := h
  obtain ⟨tz, hz⟩ := T.zero
  have hr1 := hr.mono (show 1 ≤ k by omega)
  have hr2 := hr.mono hk
  refine' ⟨?t, ?h, ?r⟩
  case h =>
    conv => arg 2; whnf
    with_reducible refine' pss_cons ?a1 (pss_cons (ps_if ?a2 (pss_cons ?c1 (pss_one ?c2)) pss_nil) (pss_cons ?a3 (pss_cons ?a4 (pss_cons ?a5 (pss_cons ?a6 (pss_cons (ps_if ?a7 (pss_one ?a8) pss_nil) (pss_one ?a9)))))))
    case a1 => exact ps_set (i := 4) scTk.nd rfl (Or.inl rfl) (pe_ix ix_list (pe_fld (pv 0) rfl) (pv 1) (fun _ _ => rfl))
    case a2 => exact pt_val (pe_d DH hr1 (pac (pv 4) (pac (pe_d DM hr1 (pac (pv 3) pa_nil)) pa_nil)))
    case c1 => exact ps_setCompV (i := 5) (CompOk.of nTa c_Store_taken_from rfl rfl (by decide +kernel)) rfl scTk.nd rfl (Or.inl rfl) (pi_tup (pe_d DR hr1 (pac (pv 4) pa_nil))) (fun _ _ _ _ _ => pt_cmpR op_ne (pe_ix (ix_tupK (K := K) rfl) (pv 9) pe_int (fun _ _ => rfl)) (pv 3) (nomark _)) (fun _ _ _ _ _ => pv 9) rfl
    case c2 => exact ps_ret (pe_ifExp (pt_truth (pv 5) (fun _ => rfl)) (pe_m DK TC.cl hr1 (pv 0) (pac (pe_d DL hr2 (pac (pv 5) pa_nil)) pa_nil)) (pe_glob rfl hz (v := .int 0) ⟨_, rfl⟩))
    case a3 => exact ps_set (i := 6) scTk.nd rfl (Or.inl rfl) (pe_callTy call_list_of rfl T.list (by decide +kernel) (pac (pe_d DP hr1 (pac (pv 4) pa_nil)) pa_nil))
    case a4 => exact ps_set (i := 7) scTk.nd rfl (Or.inl rfl) (pe_d DG hr1 (pac (pe_d DM hr1 (pac (pv 3) pa_nil)) (pac (pv 2) pa_nil)))
    case a5 => exact ps_asg (pe_m DI TC.cl hr (pv 0) (pac (pe_ix ix_list (pv 6) (pv 7) (fun _ _ => rfl)) (pac (pe_op op_add (pv 2) pe_int) (pac (pv 3) pa_nil)))) (pg_sub (pv 6) (pv 7) set_list)
    case a6 => exact ps_setCompV (i := 8) (CompOk.of nTa c_Store_taken_from rfl rfl (by decide +kernel)) rfl scTk.nd rfl (Or.inl rfl) (pi_list (pv 6)) (fun _ _ _ _ _ => pt_cmpR op_ne (pv 9) (pe_glob rfl hz (v := .int 0) ⟨_, rfl⟩) (nomark _)) (fun _ _ _ _ _ => pv 9) rfl
    case a7 => exact PW.pt (pw_and (pt_cmpR op_eq (pe_callB call_len_seq rfl T.len PySem.boot_len (pac (pv 8) pa_nil)) pe_int (nomark _)) (pw_and1 (pt_truth (pe_d DR hr1 (pac (pe_ix ix_list (pe_fld (pv 0) rfl) (pe_ix ix_list (pv 8) pe_int (fun _ _ => rfl)) (fun _ _ => rfl)) pa_nil)) (fun _ => rfl))))
    case a8 => exact ps_ret (pe_ix ix_list (pv 8) pe_int (fun _ _ => rfl))
    case a9 => exact ps_ret (pe_m DK TC.cl hr1 (pv 0) (pac (pe_d DO hr1 (pac (pv 6) pa_nil)) pa_nil))
  obtain ⟨n, hn, hbare⟩ := tri_node htri
  obtain ⟨as, a, nl, ha, hna⟩ := S.node hn
  obtain ⟨dx, ob⟩ := S.ob
  obtain ⟨tb, htb⟩ := hL.tbl
  have hst : st ∉ [Pl] := fun z => by rw [List.mem_singleton.mp z, htb] at ob; cases ob
  have hln : ln ∉ [Pl] := fun z => by rw [List.mem_singleton.mp z, htb] at nl; cases nl
  have hdt : dt ∉ [Pl] := fun z => by have e := S.tb; rw [List.mem_singleton.mp z, htb] at e; cases e
  refine ⟨_, rfl, st, C, dx, _, _, rfl, ob, TC.cl, TC.nN, flds_n ln dt, _, rfl, ln, _, _, _, rfl, rfl, SqL.of nl, atI_nat (by rw [List.getElem?_map, ha]; rfl), ?_⟩
  refine ⟨_, rfl, _, rfl, x, rfl, N.len x hx, fun H1 s1 => ⟨a, n, mkS x, rfl, hna.tf s1.tf, _, rfl, ?_⟩⟩
  rcases take_here htri hn hx hxr hFx with ⟨ps, rfl, G, hF⟩ | ⟨qs, d', rfl, rfl, hq4, hqs⟩
  · rw [show (Nd.leaf (mkS x) ps).hasM (mkS x) = true from decide_eq_true rfl]
    refine iteT ?_
    refine ⟨_, rfl, a, _, rfl, hna.tf s1.tf, fun pt H2 s2 hpt => ?_⟩
    obtain ⟨o, ts, ept, hod, hlts, hp⟩ := hpt
    have hlts' : ts.length = ps.length := hlts
    have s12 := s1.trans s2
    have hfw := N.few
    have hgf := G.few
    refine ⟨pt, rfl, ⟨_, .inl (.inr ⟨o, ept⟩)⟩, fun D hD => ?_⟩
    have hD0 : H D = none := by
      cases e : H D with
      | none => rfl
      | some o => rw [s12 _ _ e] at hD; cases hD
    have hzl : (ts.zip ps).length = ts.length := by rw [List.length_zip, hlts', Nat.min_self]
    have hzs : (ts.zip ps).map (·.2) = ps := List.map_snd_zip (by omega)
    refine compV_tup (K := K) (a := pt) (xs := ts.map V.ref) (by rw [List.length_map]; exact Nat.le_trans (show ts.length ≤ 64 by omega) (by decide))
      (fun i ys H' => ys = (((ts.zip ps).take i).filter fun z => !decide (z.2.1 = x)).map (fun z => V.ref z.1) ∧ H' D = some (.lst ys) ∧ Same H2 H') ⟨rfl, upd_same, same_new hD _⟩ ?_ ?_ ?_
    · rintro i ys H' ⟨rfl, _, s'⟩
      refine ⟨?_, .inl (.inr ⟨o, s' _ _ ept⟩)⟩
      rw [List.length_map]
      exact Nat.le_trans (List.length_filter_le _ _) (by rw [List.length_take]; exact Nat.min_le_left _ _)
    · rintro i v ys H' hi ⟨rfl, hDl, s'⟩
      have hit : i < ts.length := by have := (List.getElem?_eq_some_iff.mp hi).1; rwa [List.length_map] at this
      have et := List.getElem?_eq_getElem hit
      have ep := List.getElem?_eq_getElem (show i < ps.length by omega)
      generalize ts[i] = ti at et
      generalize ps[i] = pi at ep
      have hv : V.ref ti = v := by rw [List.getElem?_map, et] at hi; exact Option.some.inj hi
      subst hv
      have ez : (ts.zip ps)[i]? = some (ti, pi) := List.getElem?_zip_eq_some.mpr ⟨et, ep⟩
      have htup := s' _ _ (hp i ti pi et ep)
      have hts := take_succ_filter (fun z : Addr × (Str × V) => !decide (z.2.1 = x)) (ts.zip ps) i (ti, pi) ez
      refine ⟨_, rfl, ti, _, _, _, rfl, rfl, SqT.of htup, rfl, _, rfl, rfl, _, rfl, ?_⟩
      have edx : (!decide (V.str pi.1 = V.str x)) = !decide (pi.1 = x) := by
        by_cases z : pi.1 = x
        · rw [z, decide_eq_true rfl, decide_eq_true rfl]
        · rw [decide_eq_false z, decide_eq_false fun y => z (V.str.inj y)]
      rw [edx]
      by_cases z : pi.1 = x
      · rw [decide_eq_true z]
        refine iteF ⟨?_, hDl, s'⟩
        rw [hts]
        show _ = List.map _ (_ ++ if (!decide (pi.1 = x)) = true then [(ti, pi)] else [])
        rw [decide_eq_true z]
        simp
      · rw [decide_eq_false z]
        refine iteT ⟨_, rfl, hDl, ?_, upd_same, fun b u e => by rw [upd_ne (ne_of_none e hD)]; exact s' _ _ e⟩
        rw [hts]
        show _ = List.map _ (_ ++ if (!decide (pi.1 = x)) = true then [(ti, pi)] else [])
        rw [decide_eq_false z]
        simp
    · rintro ys H5 ⟨rfl, hD5, s5⟩
      rw [List.length_map, ← hzl, List.take_length] at hD5
      have hlp : ((ts.zip ps).filter fun z => !decide (z.2.1 = x)).map (·.2) = butP ps x := by
        unfold butP
        conv => rhs; rw [← hzs]
        rw [List.filter_map]; rfl
      have hlt : ((ts.zip ps).filter fun z => !decide (z.2.1 = x)).map (fun z => V.ref z.1) = (((ts.zip ps).filter fun z => !decide (z.2.1 = x)).map (·.1)).map V.ref := by rw [List.map_map]; rfl
      have s15 : Same H H5 := s12.trans s5
      have hPT : PairT H5 (((ts.zip ps).filter fun z => !decide (z.2.1 = x)).map (·.1)) (butP ps x) := by
        refine ⟨by rw [← hlp, List.length_map, List.length_map], fun i b p e1 e2 => ?_⟩
        rw [← hlp, List.getElem?_map] at e2
        rw [List.getElem?_map] at e1
        cases ez : ((ts.zip ps).filter fun z => !decide (z.2.1 = x))[i]? with
        | none => rw [ez] at e1; cases e1
        | some z =>
          rw [ez] at e1 e2
          cases (show some z.1 = some b from e1)
          cases (show some z.2 = some p from e2)
          obtain ⟨j, hj⟩ := List.mem_iff_getElem?.mp (List.mem_filter.mp (List.mem_of_getElem? ez)).1
          obtain ⟨h1, h2⟩ := List.getElem?_zip_eq_some.mp hj
          exact s5 _ _ (hp j _ _ h1 h2)
      refine ⟨_, rfl, _, .inl ⟨_, SqL.of hD5, rfl⟩, ?_⟩
      by_cases hb : butP ps x = []
      · have : ((ts.zip ps).filter fun z => !decide (z.2.1 = x)) = [] := by
          have := congrArg List.length hlp
          rw [hb, List.length_map] at this
          exact List.length_eq_zero_iff.mp this
        rw [this]
        exact iteF (q H5 nds 0 (S.keep s15) (NEx.refl _) (by omega) (tri_gone d h0 hb hF) (TakR.gone hn hb) (LamAt.same hL s15) (Same.kq s15) s15.tf)
      · have G2 := G.but hb
        have hne : (!(((ts.zip ps).filter fun z => !decide (z.2.1 = x)).map (fun z => V.ref z.1)).isEmpty) = true := by
          cases e : ((ts.zip ps).filter fun z => !decide (z.2.1 = x)) with
          | nil => rw [e] at hlp; exact absurd hlp.symm hb
          | cons _ _ => rfl
        rw [hne]
        have S5 := S.keep s15
        obtain ⟨dx5, ob5⟩ := S5.ob
        refine iteT ⟨_, rfl, st, dx5, _, rfl, ob5, flds_no ln dt (by decide +kernel) (by decide +kernel), _, rfl, D, _, butP ps x, rfl, by rw [hD5, hlt], hPT, hb, by have := G2.few; omega, fun p hp => N.len _ (G2.sub p hp), LamAt.same hL s15, fun a6 H6 p1 pr g6 L6 perm6 sort6 node6 => ?_⟩
        have tb5 : H5 Pl = some (.tbl tb) := s15 _ _ htb
        have tf6 : TF H5 H6 := g6.tf tb5
        have S6 := S5.kq g6.kq tf6 hst hln hdt
        refine ⟨st, ln, dt, a6, nds, tabs, _, rfl, S6, node6, by omega, fun H7 S7 k7 tf7 => ?_⟩
        have nl6 : ∃ xs, H6 ln = some (.lst xs) := by obtain ⟨as6, e6, _⟩ := S6.nl; exact ⟨_, e6⟩
        have hmk : mkS p1.1 = mkS x := (G2.perm perm6).mrk p1 List.mem_cons_self
        rw [hmk] at S7
        refine q H7 _ nds.length S7 (NEx.app nds _) (by rw [List.length_append]; show nds.length + 1 ≤ _; omega) ?_ (TakR.less hn hb perm6 sort6) (L6.kq k7 fun b hb => by rw [List.mem_singleton.mp hb]; exact nl6) ?_ ((s15.tf.trans tf6).trans tf7)
        · exact tri_less d hxr (by rw [List.getElem?_append_right (Nat.le_refl _), Nat.sub_self]; rfl) G2 perm6 hF
        · exact (Same.kq s15).trans ((g6.kq.sub fun b hb => by simp at hb ⊢; exact .inr hb).trans (k7.sub fun b hb => by simp at hb ⊢; exact .inl hb))
  · refine iteF ?_
    refine ⟨_, rfl, a, _, rfl, hna.tf s1.tf, fun pt H2 s2 hpt => ⟨pt, _, rfl, .inr hpt, fun rl hrl1 => ?_⟩⟩
    have s12 := s1.trans s2
    have hrl0 : H rl = none := by
      cases e : H rl with
      | none => rfl
      | some o => rw [s12 _ _ e] at hrl1; cases hrl1
    refine ⟨_, rfl, x, rfl, N.len x hx, fun H3 s3 => ⟨_, rfl, mkS x, lev, rfl, N.lo x hx, by omega, ?_⟩⟩
    have el3 : H3 rl = some (.lst (qs.map iN)) := s3 _ _ upd_same
    have s13 : Same H H3 := (s12.trans (same_new hrl1 _)).trans s3
    have S3 := S.keep s13
    have hdl : dig (mkS x) lev < qs.length := by rw [hq4]; exact dig_lt _ _
    have hq1 := List.getElem?_eq_getElem hdl
    generalize qs[dig (mkS x) lev] = q1 at hq1
    have hat : atI (qs.map iN) (mkS x / 4 ^ lev % 4) = some (iN q1) := by rw [← dig_int]; exact atI_nat (by rw [List.getElem?_map, hq1]; rfl)
    obtain ⟨dx3, ob3⟩ := S3.ob
    refine ⟨_, rfl, st, dx3, _, rfl, ob3, flds_no ln dt (by decide +kernel) (by decide +kernel), _, rfl, _, rfl, rl, _, _, _, rfl, rfl, SqL.of el3, hat, _, rfl, _, _, rfl, rfl, _, rfl, ?_⟩
    refine ⟨st, ln, dt, nds, tabs, q1, lev + 1, _, x, v0, Fm, rfl, S3, h0, hqs _ _ hq1, res_lt hrl (dig_lt _ _), by omega, hx, by rw [res_mod, hxr, dig_nat (N.lo x hx)]; rfl, hFx, by omega, LamAt.same hL s13, fun H5 nds5 num5 S5 ext5 len5 tri5 pr5 L5 kq5 tf5 => ?_⟩
    have nrl : rl ∉ [ln, Pl] := fun z => by
      rcases List.mem_cons.mp z with z | z
      · rw [z, nl] at hrl0; cases hrl0
      · rw [List.mem_singleton.mp z, htb] at hrl0; cases hrl0
    have el5 := kq5 _ _ nrl el3
    have hix : ixN (qs.map iN).length (mkS x / 4 ^ lev % 4) = some (dig (mkS x) lev) := by
      rw [← dig_int, List.length_map]
      unfold ixN
      rw [if_pos (by omega), if_pos (by omega)]
      rfl
    refine ⟨_, rfl, _, rfl, rl, _, _, _, rfl, rfl, el5, hix, ?_⟩
    have tf6 := tf_lst (o := .lst ((qs.map iN).set (dig (mkS x) lev) (iN num5))) el5
    have k6 : Kq [rl] H5 (upd H5 rl (.lst ((qs.map iN).set (dig (mkS x) lev) (iN num5)))) := kq_upd
    have nst : st ∉ [rl] := fun z => by rw [← List.mem_singleton.mp z, ob] at hrl0; cases hrl0
    have nln : ln ∉ [rl] := fun z => by rw [← List.mem_singleton.mp z, nl] at hrl0; cases hrl0
    have ndt : dt ∉ [rl] := fun z => by rw [← List.mem_singleton.mp z, S.tb] at hrl0; cases hrl0
    have S6 := S5.kq k6 tf6 nst nln ndt
    have el6 : upd H5 rl (.lst ((qs.map iN).set (dig (mkS x) lev) (iN num5))) rl = some (.lst ((qs.set (dig (mkS x) lev) num5).map iN)) := by rw [upd_same, List.map_set]
    have L6 := L5.kq k6 fun b hb => by rw [List.mem_singleton.mp hb]; exact ⟨_, el5⟩
    have kh : Kq [ln, Pl] H (upd H5 rl (.lst ((qs.map iN).set (dig (mkS x) lev) (iN num5)))) := fun b o nb e => by
      rw [upd_ne (ne_of_none e hrl0)]; exact kq5 _ _ nb (s13 _ _ e)
    generalize upd H5 rl (.lst ((qs.map iN).set (dig (mkS x) lev) (iN num5))) = H6 at *
    have hps : ∀ (i q : Nat), (qs.set (dig (mkS x) lev) num5)[i]? = some q → Tri NS nds5 (dnF Fm x) d' (lev + 1) (r + i * 4 ^ lev) q := fun i q hi => parts_new N hrl hx hxr hq4 hqs ext5 tri5 (fun y hy => if_neg hy) i q hi
    have hp4 : (qs.set (dig (mkS x) lev) num5).length = 4 := by rw [List.length_set, hq4]
    generalize hqn : qs.set (dig (mkS x) lev) num5 = qn at *
    have mkF : (∀ (q : Nat) (m : Int) (ps : List (Str × V)), (qn.filter fun p => !decide (p = 0)) = [q] → nds5[q]? ≠ some (.leaf m ps)) → TakR x nds lev num (nds5 ++ [.fork qn]) nds5.length := fun z => by
      rw [← hqn] at z ⊢
      exact TakR.fork hn hq1 pr5 z
    have h05 := ext5 _ _ h0
    have tfh : TF H H6 := (s13.tf.trans tf5).trans tf6
    refine ⟨_, rfl, rl, rfl, ⟨_, SqL.of el6⟩, fun D hD => ?_⟩
    refine compV_list (K := K) (a := rl) (xs := qn.map iN) (by rw [List.length_map, hp4]; decide)
      (fun i ys H' => ys = ((qn.take i).filter fun p => !decide (p = 0)).map iN ∧ H' D = some (.lst ys) ∧ Same H6 H') ⟨rfl, upd_same, same_new hD _⟩ ?_ ?_ ?_
    · rintro i ys H' ⟨rfl, _, s'⟩
      refine ⟨?_, SqL.of (s' _ _ el6)⟩
      rw [List.length_map]
      exact Nat.le_trans (List.length_filter_le _ _) (by rw [List.length_take]; exact Nat.min_le_left _ _)
    · rintro i v ys H' hi ⟨rfl, hDl, s'⟩
      have hit : i < qn.length := by have := (List.getElem?_eq_some_iff.mp hi).1; rwa [List.length_map] at this
      have et := List.getElem?_eq_getElem hit
      generalize qn[i] = qi at et
      have hv : iN qi = v := by rw [List.getElem?_map, et] at hi; exact Option.some.inj hi
      subst hv
      have hts := take_succ_filter (fun p : Nat => !decide (p = 0)) qn i qi et
      refine ⟨_, rfl, rfl, _, rfl, ?_⟩
      have edx : (!decide (iN qi = V.int 0)) = !decide (qi = 0) := by
        by_cases z : qi = 0
        · rw [z]; rfl
        · rw [decide_eq_false z, decide_eq_false fun y => z (by have := V.int.inj y; omega)]
      rw [edx]
      by_cases z : qi = 0
      · rw [decide_eq_true z]
        refine iteF ⟨?_, hDl, s'⟩
        rw [hts]
        show _ = List.map _ (_ ++ if (!decide (qi = 0)) = true then [qi] else [])
        rw [decide_eq_true z]
        simp
      · rw [decide_eq_false z]
        refine iteT ⟨_, rfl, hDl, ?_, upd_same, fun b u e => by rw [upd_ne (ne_of_none e hD)]; exact s' _ _ e⟩
        rw [hts]
        show _ = List.map _ (_ ++ if (!decide (qi = 0)) = true then [qi] else [])
        rw [decide_eq_false z]
        simp
    · rintro ys H7 ⟨rfl, hD7, s7⟩
      rw [List.length_map, List.take_length] at hD7
      generalize hfl : (qn.filter fun p => !decide (p = 0)) = fl at hD7
      have S7 := S6.keep s7
      refine ⟨_, rfl, D, _, rfl, .inl (SqL.of hD7), rfl, _, rfl, ?_⟩
      by_cases h1 : fl.length = 1
      · obtain ⟨q8, rfl⟩ : ∃ q8, fl = [q8] := by
          cases fl with
          | nil => cases h1
          | cons b t => cases t with
            | nil => exact ⟨b, rfl⟩
            | cons _ _ => simp at h1
        obtain ⟨i8, hi8, hq80, _⟩ := filter_one hfl
        obtain ⟨n8, hn8, _⟩ := tri_node (hps i8 q8 hi8)
        obtain ⟨as8, a8, nl8, ha8, hna8⟩ := S7.node hn8
        obtain ⟨dx8, ob8⟩ := S7.ob
        refine iteT ⟨_, rfl, st, C, dx8, _, _, rfl, ob8, TC.cl, TC.nN, flds_n ln dt, _, rfl, D, _, _, _, rfl, rfl, SqL.of hD7, (show atI ([q8].map iN) ((0 : Nat) : Int) = some (iN q8) from atI_nat rfl), ln, _, _, _, rfl, rfl, SqL.of nl8, atI_nat (by rw [List.getElem?_map, ha8]; rfl), a8, n8, rfl, hna8, fun pt9 H9 s9 hpt9 => ?_⟩
        obtain ⟨o9, ts9, ept9, _, hl9, _⟩ := hpt9
        refine ⟨_, .inr (.inl ⟨_, .inl (.inr ⟨o9, ept9⟩), rfl⟩), ?_⟩
        have s79 := s7.trans s9
        cases n8 with
        | leaf m8 ps8 =>
          have hne : (!(ts9.map V.ref).isEmpty) = true := by
            cases ts9 with
            | nil =>
              have hE : TriE NS nds5 (dnF Fm x) (lev + 1) (r + i8 * 4 ^ lev) q8 := by
                have := hps i8 q8 hi8
                cases d' with
                | zero => exact this
                | succ d' =>
                  rcases this with h | ⟨qs', h, _⟩
                  · exact h
                  · rw [hn8] at h; cases h
              rcases hE with ⟨z, _⟩ | ⟨m', ps', e, G, _⟩
              · exact absurd z hq80
              · rw [hn8] at e; cases e
                exact absurd (List.length_eq_zero_iff.mp (show ps8.length = 0 from hl9.symm)) G.ne
            | cons _ _ => rfl
          rw [hne]
          refine iteT ⟨_, rfl, D, _, _, _, rfl, rfl, SqL.of (s9 _ _ hD7), (show atI ([q8].map iN) ((0 : Nat) : Int) = some (iN q8) from atI_nat rfl), ?_⟩
          exact q H9 nds5 q8 (S6.keep s79) ext5 (by omega) (tri_up N h05 hrl hp4 hps hfl hn8) (TakR.up hn hq1 pr5 (by rw [hqn]; exact hfl) hn8) (LamAt.same L6 s79) (kh.trans (Same.kq s79)) (tfh.trans s79.tf)
        | bare =>
          rw [List.length_eq_zero_iff.mp (show ts9.length = 0 from hl9)]
          refine iteF ?_
          obtain ⟨dxA, obA⟩ := (S6.keep s79).ob
          refine ⟨_, rfl, st, dxA, _, rfl, obA, flds_no ln dt (by decide +kernel) (by decide +kernel), _, rfl, rl, qn, rfl, s79 _ _ el6, hp4, fun aB HB sB nodeB => ?_⟩
          have SB := (S6.keep s79).keep sB
          refine ⟨st, ln, dt, aB, nds5, tabs, _, rfl, SB, nodeB, by omega, fun HC SC kC tfC => ?_⟩
          have nlB : ∃ xs, HB ln = some (.lst xs) := by obtain ⟨asB, eB, _⟩ := SB.nl; exact ⟨_, eB⟩
          refine q HC _ nds5.length SC (ext5.trans (NEx.app nds5 _)) (by rw [List.length_append]; show nds5.length + 1 ≤ _; omega) ?_ (mkF fun q m ps e h => by rw [hfl] at e; cases e; rw [hn8] at h; cases h) ((LamAt.same (LamAt.same L6 s79) sB).kq kC fun b hb => by rw [List.mem_singleton.mp hb]; exact nlB) ?_ (((tfh.trans s79.tf).trans sB.tf).trans tfC)
          · exact tri_fork (by rw [List.getElem?_append_right (Nat.le_refl _), Nat.sub_self]; rfl) hp4 fun i q hi => Tri.mono d' (hps i q hi) (NEx.app nds5 _)
          · exact ((kh.trans (Same.kq s79)).trans (Same.kq sB)).trans (kC.sub fun b hb => by simp at hb ⊢; exact .inl hb)
        | fork qs8 =>
          rw [List.length_eq_zero_iff.mp (show ts9.length = 0 from hl9)]
          refine iteF ?_
          obtain ⟨dxA, obA⟩ := (S6.keep s79).ob
          refine ⟨_, rfl, st, dxA, _, rfl, obA, flds_no ln dt (by decide +kernel) (by decide +kernel), _, rfl, rl, qn, rfl, s79 _ _ el6, hp4, fun aB HB sB nodeB => ?_⟩
          have SB := (S6.keep s79).keep sB
          refine ⟨st, ln, dt, aB, nds5, tabs, _, rfl, SB, nodeB, by omega, fun HC SC kC tfC => ?_⟩
          have nlB : ∃ xs, HB ln = some (.lst xs) := by obtain ⟨asB, eB, _⟩ := SB.nl; exact ⟨_, eB⟩
          refine q HC _ nds5.length SC (ext5.trans (NEx.app nds5 _)) (by rw [List.length_append]; show nds5.length + 1 ≤ _; omega) ?_ (mkF fun q m ps e h => by rw [hfl] at e; cases e; rw [hn8] at h; cases h) ((LamAt.same (LamAt.same L6 s79) sB).kq kC fun b hb => by rw [List.mem_singleton.mp hb]; exact nlB) ?_ (((tfh.trans s79.tf).trans sB.tf).trans tfC)
          · exact tri_fork (by rw [List.getElem?_append_right (Nat.le_refl _), Nat.sub_self]; rfl) hp4 fun i q hi => Tri.mono d' (hps i q hi) (NEx.app nds5 _)
          · exact ((kh.trans (Same.kq s79)).trans (Same.kq sB)).trans (kC.sub fun b hb => by simp at hb ⊢; exact .inl hb)
      · have hd1 : decide (V.int (((fl.map iN).length : Nat) : Int) = V.int 1) = false := decide_eq_false fun z => h1 (by have := V.int.inj z; rw [List.length_map] at this; omega)
        rw [hd1]
        have s79 := s7
        refine iteF (iteF ?_)
        obtain ⟨dxA, obA⟩ := (S6.keep s79).ob
        refine ⟨_, rfl, st, dxA, _, rfl, obA, flds_no ln dt (by decide +kernel) (by decide +kernel), _, rfl, rl, qn, rfl, s79 _ _ el6, hp4, fun aB HB sB nodeB => ?_⟩
        have SB := (S6.keep s79).keep sB
        refine ⟨st, ln, dt, aB, nds5, tabs, _, rfl, SB, nodeB, by omega, fun HC SC kC tfC => ?_⟩
        have nlB : ∃ xs, HB ln = some (.lst xs) := by obtain ⟨asB, eB, _⟩ := SB.nl; exact ⟨_, eB⟩
        refine q HC _ nds5.length SC (ext5.trans (NEx.app nds5 _)) (by rw [List.length_append]; show nds5.length + 1 ≤ _; omega) ?_ (mkF fun q m ps e h => h1 (by rw [← hfl, e]; rfl)) ((LamAt.same (LamAt.same L6 s79) sB).kq kC fun b hb => by rw [List.mem_singleton.mp hb]; exact nlB) ?_ (((tfh.trans s79.tf).trans sB.tf).trans tfC)
        · exact tri_fork (by rw [List.getElem?_append_right (Nat.le_refl _), Nat.sub_self]; rfl) hp4 fun i q hi => Tri.mono d' (hps i q hi) (NEx.app nds5 _)
        · exact ((kh.trans (Same.kq s79)).trans (Same.kq sB)).trans (kC.sub fun b hb => by simp at hb ⊢; exact .inl hb)
theorem ok_takd {f : Addr} {fd : FuncData} (N : NsOk NS) (F : Fun K "taken_from" "Store.taken_from" c_Store_taken_from f fd) (T : Txt K mg) (TC : TxtC K C)
    (DH : Def P w K mg base 1 "has_mark" ["node", "number"] (spHasM K)) (DP : Def P w K mg base 1 "parts_in" ["node"] (spParts K)) (DR : Def P w K mg base 1 "pairs_in" ["node"] (spPairs K)) (DM : Def P w K mg base 1 "mark" ["name"] spMark) (DG : Def P w K mg base 1 "digit" ["number", "level"] spDigit)
    (DL : Def P w K mg base 2 "leaf_of" ["pairs"] (spLeaf K Pl lpLeaf)) (DO : Def P w K mg base 1 "fork_of" ["parts"] (spForkOf K)) (DK : DefM P w K mg base 1 C "keep" ["self", "node"] (spKeep K C))
    (b : Binds K fd nTk []) (mt : Meth K C "taken_from" f) : ∀ d, FnOk P w K mg base CX0 (2 + d) f fd nTk (spTak K C Pl NS d)
  | 0 => F.ok scTk (fun _ _ _ _ h => h.elim) (fun _ _ _ _ _ _ _ _ _ h => h.elim)
  | d + 1 => ok_tak N (Nat.le_add_right 2 d) F T TC DH DP DR DM DG DL DO DK ⟨f, fd, ok_takd N F T TC DH DP DR DM DG DL DO DK b mt d, b, mt⟩
def spWo (K : PySem.W.Frag) (C Pl : Addr) (NS : List Str) : Sp := fun vs H Q _ => ∃ (st ln dt : Addr) (nds : List Nd) (tabs : List (Key × V)) (t : Nat) (x : Str) (F : Str → Option V), vs = [.ref st, iN t, .str x] ∧ StoreAt K C st ln dt H nds tabs ∧ nds[0]? = some .bare ∧ (valV tabs (Sum.inl (t : Int))).isSome = true ∧ Tri NS nds F 5 0 0 t ∧ x ∈ NS ∧ (∀ u, F x = some u → ValV u) ∧ nds.length + 6 ≤ 100000 ∧ tabs.length ≤ 100000 ∧ LamAt H Pl lpLeaf qLeaf ∧
  ∀ (H' : Hp) (nds' : List Nd) (tabs' : List (Key × V)) (t' : Nat), StoreAt K C st ln dt H' nds' tabs' → NEx nds nds' → nds'.length ≤ nds.length + 6 → tabs'.length ≤ tabs.length + 1 → (∀ k, (valV tabs k).isSome = true → (valV tabs' k).isSome = true) → (valV tabs' (Sum.inl (t' : Int))).isSome = true → Tri NS nds' (dnF F x) 5 0 0 t' → ((F x = none ∧ t' = t ∧ nds' = nds ∧ tabs' = tabs) ∨ (F x ≠ none ∧ TakR x nds 0 t nds' t' ∧ tabs' = putK tabs (Sum.inl (t' : Int)) (.bl true))) → LamAt H' Pl lpLeaf qLeaf → Kq [ln, dt, Pl] H H' → TF H H' → Q (iN t') H'
theorem scWo : FnScope ["self", "table", "name"] ["self", "table", "name"] (defScope c_Store_without) := ⟨rfl, rfl, rfl, by decide +kernel, rfl, by decide +kernel, by decide +kernel⟩
theorem ok_wo {f : Addr} {fd : FuncData} (N : NsOk NS) (F : Fun K "without" "Store.without" c_Store_without f fd) (TC : TxtC K C) (DLk : DefM P w K mg base 3 C "looked" ["self", "table", "name"] (spLooked K C))
    (DAs : DefM P w K mg base 1 C "as_table" ["self", "number"] (spAsT K C)) (DI : DefM P w K mg base 8 C "taken_from" nTk (spTak K C Pl NS 6)) : FnOk P w K mg base CX0 9 f fd ["self", "table", "name"] (spWo K C Pl NS) := by
  refine F.ok scWo (fun vs H Q E h => ?_) (fun cdv A outer s H vs Q E hr h => ?_)
  · obtain ⟨st, ln, dt, nds, tabs, t, x, F, rfl, _⟩ := h; rfl
  obtain ⟨st, ln, dt, nds, tabs, t, x, Fm, rfl, S, h0, htab, htri, hx, hFv, hlen, htl, hL, q⟩ := h
  have hr1 := hr.mono (show 1 ≤ 8 by decide)
  have hr3 := hr.mono (show 3 ≤ 8 by decide)
  refine' ⟨?t, ?h, ?r⟩
  case h =>
    conv => arg 2; whnf
    with_reducible refine' pss_cons (ps_if ?a1 (pss_one ?a2) pss_nil) (pss_one ?a3)
    case a1 => exact pt_cmp (pc_isN (pe_m DLk TC.cl hr3 (pv 0) (pac (pv 1) (pac (pv 2) pa_nil))))
    case a2 => exact ps_ret (pv 1)
    case a3 => exact ps_ret (pe_m DAs TC.cl hr1 (pv 0) (pac (pe_m DI TC.cl hr (pv 0) (pac (pv 1) (pac pe_int (pac (pv 2) pa_nil)))) pa_nil))
  obtain ⟨dx, ob⟩ := S.ob
  obtain ⟨ws, e, n, e1, e2, e3, e4, e5⟩ := tri_looked N htri hx
  refine ⟨_, rfl, st, dx, _, rfl, ob, flds_no ln dt (by decide +kernel) (by decide +kernel), _, rfl, _, rfl, st, ln, dt, nds, tabs, t, x, 6, ws, e, n, rfl, S, htab, N.len x hx, N.lo x hx, by decide, e1, e2, e3, e4, fun H1 s1 => ?_⟩
  rw [e5]
  refine ⟨_, rfl, ?_⟩
  have S1 := S.keep s1
  have hL1 := LamAt.same hL s1
  cases eF : Fm x with
  | none =>
    refine iteT ⟨_, rfl, q H1 nds tabs t S1 (NEx.refl _) (by omega) (by omega) (fun _ h => h) htab (Tri.congr 5 (by decide) htri fun y _ _ => ?_) (.inl ⟨eF, rfl, rfl, rfl⟩) hL1 (Same.kq s1) s1.tf⟩
    unfold dnF
    by_cases z : y = x
    · rw [if_pos z, z, eF]
    · rw [if_neg z]
  | some u =>
    have hc : decide ((some u).getD .non = V.non) = false := decide_eq_false (hFv u eF).ne
    rw [hc]
    obtain ⟨dx1, ob1⟩ := S1.ob
    refine iteF ⟨_, rfl, st, dx1, _, rfl, ob1, flds_no ln dt (by decide +kernel) (by decide +kernel), _, rfl, st, dx1, _, rfl, ob1, flds_no ln dt (by decide +kernel) (by decide +kernel), _, rfl, _, rfl, ?_⟩
    refine ⟨st, ln, dt, nds, tabs, t, 0, 0, x, u, Fm, rfl, S1, h0, htri, by decide, rfl, hx, by rw [Nat.pow_zero, Nat.mod_one], eF, hlen, hL1, fun H2 nds2 num2 S2 ext2 len2 tri2 pr2 L2' kq2 tf2 => ?_⟩
    refine ⟨st, ln, dt, nds2, tabs, num2, rfl, S2, by omega, fun H3 S3 k3 tf3 => ?_⟩
    refine q H3 nds2 _ num2 S3 ext2 len2 (length_putK _ _ _) (fun k hk => ?_) (by rw [valV_put, if_pos rfl]; rfl) tri2 (.inr ⟨(fun z => by rw [eF] at z; cases z), pr2, rfl⟩) ?_ ?_ ((s1.tf.trans tf2).trans tf3)
    · rw [valV_put]
      by_cases z : k = Sum.inl (num2 : Int)
      · rw [if_pos z]; rfl
      · rw [if_neg z]; exact hk
    · have hdl : ∀ b ∈ [dt], ∃ xs, H2 b = some (.dK xs) := fun b hb => by rw [List.mem_singleton.mp hb]; exact ⟨_, S2.tb⟩
      rcases L2' with h | ⟨c, h, h2⟩
      · exact .inl (k3 _ _ (fun z => by obtain ⟨_, e⟩ := hdl _ z; rw [h] at e; cases e) h)
      · exact .inr ⟨c, k3 _ _ (fun z => by obtain ⟨_, e⟩ := hdl _ z; rw [h] at e; cases e) h, k3 _ _ (fun z => by obtain ⟨_, e⟩ := hdl _ z; rw [h2] at e; cases e) h2⟩
    · exact ((Same.kq s1).trans (kq2.sub fun b hb => by simp at hb ⊢; rcases hb with z | z; exact .inl z; exact .inr (.inr z))).trans (k3.sub fun b hb => by simp at hb ⊢; exact .inr (.inl hb))
def spNode (K : PySem.W.Frag) (C : Addr) : Sp := fun vs H Q _ => ∃ (st ln dt : Addr) (nds : List Nd) (tabs : List (Key × V)) (t : Nat) (n : Nd), vs = [.ref st, iN t] ∧ StoreAt K C st ln dt H nds tabs ∧ nds[t]? = some n ∧ ∀ a, NodeAt K H a n → Q (.ref a) H
theorem scNo : FnScope ["self", "number"] ["self", "number"] (defScope c_Store_node) := ⟨rfl, rfl, rfl, by decide +kernel, rfl, by decide +kernel, by decide +kernel⟩
theorem ok_node {f : Addr} {fd : FuncData} (F : Fun K "node" "Store.node" c_Store_node f fd) (T : Txt K mg) (TC : TxtC K C) : FnOk P w K mg base CX0 1 f fd ["self", "number"] (spNode K C) := by
  refine F.ok scNo (fun vs H Q E h => ?_) (fun cdv A outer s H vs Q E hr h => ?_)
  · obtain ⟨st, ln, dt, nds, tabs, t, n, rfl, _⟩ := h; rfl
  obtain ⟨st, ln, dt, nds, tabs, t, n, rfl, S, hn, q⟩ := h
  refine' ⟨?t, ?h, ?r⟩
  case h =>
    conv => arg 2; whnf
    with_reducible refine' pss_cons (ps_if ?a1 (pss_one ps_no) pss_nil) (pss_one ?a3)
    case a1 => exact pt_not (pt_chain op_le op_lt pe_int (pv 1) (pe_callB call_len_seq rfl T.len PySem.boot_len (pac (pe_fld (pv 0) rfl) pa_nil)))
    case a3 => exact ps_ret (pe_ix ix_list (pe_fld (pv 0) rfl) (pv 1) (fun _ _ => rfl))
  obtain ⟨as, a, nl, ha, hna⟩ := S.node hn
  obtain ⟨dx, ob⟩ := S.ob
  have hlt : t < as.length := (List.getElem?_eq_some_iff.mp ha).1
  refine ⟨_, rfl, _, _, rfl, rfl, _, rfl, ?_⟩
  rw [decide_eq_true (show (0 : Int) ≤ (t : Int) by omega)]
  refine iteT ⟨_, rfl, st, C, dx, _, _, rfl, ob, TC.cl, TC.nN, flds_n ln dt, ln, _, rfl, .inl (SqL.of nl), _, _, rfl, rfl, _, rfl, ?_⟩
  rw [decide_eq_true (show (t : Int) < (((as.map V.ref).length : Nat) : Int) by rw [List.length_map]; omega)]
  exact iteF ⟨_, rfl, st, C, dx, _, _, rfl, ob, TC.cl, TC.nN, flds_n ln dt, _, rfl, ln, _, _, _, rfl, rfl, SqL.of nl, atI_nat (by rw [List.getElem?_map, ha]; rfl), q a hna⟩
end
end K6
set_option maxHeartbeats 2000000
namespace L2
open PySem PySem.W PySem.Spec PyProof.Rows
section
variable {O : KeyOrd} {key : Nat → O.α} {n : Nat} {s : Shared} {cmp : Nat → Nat → (Bool → Shared → Prop) → Shared → Prop}
def PB (n : Nat) (p : Array Nat) : Prop := p.Perm (List.toArray (List.range n))
theorem PB.size {p : Array Nat} (h : PB n p) : p.size = n := by have := h.size_eq; simpa using this
theorem PB.lt {p : Array Nat} (h : PB n p) {i : Nat} (hi : i < n) : p.getD i 0 < n := by
  have hs := h.size
  have hm : p[i]'(by omega) ∈ List.range n := (Array.perm_iff_toList_perm.mp h).mem_iff.mp (by simp)
  have e : p.getD i 0 = p[i]'(by omega) := by simp [Array.getD, show i < p.size by omega]
  rw [e]; exact List.mem_range.mp hm
theorem nd_inj {α : Type} {l : List α} (h : l.Nodup) {i j : Nat} {hi : i < l.length} {hj : j < l.length} (e : l[i] = l[j]) : i = j := by
  have p := List.pairwise_iff_getElem.mp h
  rcases Nat.lt_trichotomy i j with z | z | z
  · exact absurd e (p i j hi hj z)
  · exact z
  · exact absurd e.symm (p j i hj hi z)
theorem PB.ne {p : Array Nat} (h : PB n p) {i j : Nat} (hi : i < n) (hj : j < n) (hij : i ≠ j) : p.getD i 0 ≠ p.getD j 0 := by
  have hs := h.size
  have hnd : p.toList.Nodup := (Array.perm_iff_toList_perm.mp h).nodup_iff.mpr List.nodup_range
  have e : ∀ k, k < n → p.getD k 0 = p.toList.getD k 0 := fun k hk => by simp [Array.getD, show k < p.size by omega, List.getD_eq_getElem?_getD]
  have e2 : ∀ k (hk : k < n), p.toList.getD k 0 = p.toList[k]'(by rw [Array.length_toList]; omega) := fun k hk => by simp [List.getD_eq_getElem?_getD, show k < p.size by omega]
  rw [e i hi, e j hj, e2 i hi, e2 j hj]
  intro z
  exact hij (nd_inj hnd z)
end
end L2
set_option maxHeartbeats 2000000
namespace L2
open PySem PySem.Spec PyProof.Rows
section
variable {X : Cx} {elt iter tg cnd : Expr} {xa xb : Str} {pos : Pos} {scope : Scope} {wi : TI} {te : TE} {tc : TT} {g : TG}
end
end L2
set_option maxHeartbeats 2000000
namespace L2
open PySem PySem.Spec PyProof.Rows
theorem Sep.pack' {Δ : Rs} : ∀ {Γ : Rs} {H : Hp}, Sep (Γ ++ Δ) H → ∃ h, Same h H ∧ Sep Γ h ∧ Sep Δ (cut H h)
  | [], H, S => ⟨fun _ => none, fun b o e => (by cases e), trivial, S.mono fun b o e => cut_some.mpr ⟨e, fun u q => (by cases q)⟩⟩
  | (b, T) :: Γ, H, ⟨g, m, t, S⟩ => by
    obtain ⟨h', l', G, S⟩ := Sep.pack' S
    refine ⟨fun c => match g c with | some o => some o | none => h' c, fun c o e => ?_, ⟨g, fun c o e => ?_, t, G.mono fun c o e => ?_⟩, S.mono fun c o e => ?_⟩
    · cases q : g c with
      | some u => simp only [q] at e; cases e; exact m _ _ q
      | none => simp only [q] at e; exact (cut_some.mp (l' _ _ e)).1
    · simp only [e]
    · obtain ⟨e1, e2⟩ := cut_some.mp (l' _ _ e)
      refine cut_some.mpr ⟨?_, e2⟩
      cases q : g c with
      | some u => simp only [q]; rw [m _ _ q] at e1; exact e1
      | none => simp only [q]; exact e
    · obtain ⟨e1, e2⟩ := cut_some.mp e
      obtain ⟨e3, e4⟩ := cut_some.mp e1
      refine cut_some.mpr ⟨e3, fun u q => ?_⟩
      cases z : g c with
      | some v => simp only [z] at q; cases q; exact e4 _ z
      | none => simp only [z] at q; exact e2 _ q
theorem Sep.pack {a : Addr} {Γ Δ : Rs} {H : Hp} {R : Res} (S : Sep (Γ ++ Δ) H) (f : ∀ h, Sep Γ h → R a h) : Sep ((a, R) :: Δ) H := by
  obtain ⟨h, l, G, S⟩ := Sep.pack' S
  exact ⟨h, l, f h G, S⟩
section
variable {X : Cx}
def rNeD : R2 := fun x y H Q => ∃ dx dy, DataOf H x dx ∧ DataOf H y dy ∧ dx.canLay0 = true ∧ dy.canLay0 = true ∧ dx.depth ≤ 60 ∧ Q (.bl (!PyData.eqv dx dy)) H
theorem op_neD (hu : X.A.units + 64 < cLine) : OpR X (compareOp .NotEq) rNeD := by
  intro pins s σ H x y v u Q I rx ry h
  obtain ⟨dx, dy, d1, d2, c1, c2, hd, q⟩ := h
  obtain ⟨_, as, r1⟩ := DataOf.reads I.hok v d1 rx
  obtain ⟨_, bs, r2⟩ := DataOf.reads I.hok u d2 ry
  exact SeqAt.compareNe_reads r1 r2 c1 c2 (by omega) ⟨.bl _, H, I, rfl, q⟩
end
section
variable {X : Cx} {k : Nat} {C : Addr} {x m : Str} {ps : List Str} {sp : Sp} {p pos apos : Pos} {o : Expr} {ta : TE}
theorem pe_m0 {pl : Sem Bool} (D : DefM X.prog X.w X.K X.mg X.base k C m ps sp) (c : Cls X.K C) (hr : Room k X.A) (he : PE X o ta)
    (ht : eval (.Call (.Attribute o m apos) [] [] pos) X.env = (do
      let ov ← eval o X.env
      standAt apos.atName
      let (f, first) ← holding [ov] (getMethod ov m pl)
      callWith pos f first (backTo pos (starEach [] X.env)) (backToKw pos (keywordEach [] X.env))) := by rfl) :
    PE X (.Call (.Attribute o m apos) [] [] pos) (tMeth C m sp [] E0 ta tNil) := by
  obtain ⟨f, fd, F, b, q⟩ := D
  exact pe_meth0 he c q F hr b .nil pass0 ht
end
end L2
set_option maxHeartbeats 2000000
namespace L2
open PySem PySem.Spec PyProof.Rows
def Itel (K : PySem.W.Frag) (a : Addr) : It :=
  ⟨fun i H => ∃ xs x, SqL K H a xs ∧ xs[i]? = some x, fun i H v H' => ∃ t x, H t = none ∧ (∀ xs, SqL K H a xs → xs[i]? = some x) ∧ v = .ref t ∧ H' = upd H t (.tup [.int (i : Int), x]), fun i H => ∃ xs, SqL K H a xs ∧ xs.length ≤ i⟩
theorem turn_enumL {P : Program} {w : World} {K : PySem.W.Frag} {elts : List Expr} {x1 : Nat} {tp : Pos} (a e it : Addr) (hne : e ≠ it) (hai : a ≠ it) (hae : a ≠ e) :
    Turn P w K (.Tuple elts x1 tp) (Itel K a) [e, it] e (fun i h => (∃ old, IsEnum h e it (i : Int) old) ∧ h.IsListIter it a i) where
  mem := by simp
  obj := fun i h st b hb => by
    obtain ⟨⟨old, he⟩, ⟨o, ho, c, d⟩⟩ := st
    rcases List.mem_cons.mp hb with q | hb
    · rw [q]; exact ⟨_, he, fun v z => by cases z⟩
    · rw [List.mem_singleton.mp hb]; exact ⟨o, ho, fun v z => by rw [d] at z; cases z⟩
  keep := fun i h h' st k => by
    obtain ⟨⟨old, he⟩, st⟩ := st
    exact ⟨⟨old, k e (by simp) _ he⟩, st.at fun o y => k it (by simp) o y⟩
  item := by
    intro X hP hw hK hc i pins s σ H E I hf st hg
    subst hP hw hK
    obtain ⟨⟨old, he⟩, hs⟩ := st
    obtain ⟨xs, x, hq, hx⟩ := hg
    obtain ⟨its, rv, p, hz⟩ := I.list hq
    obtain ⟨u, hu, ru⟩ := rv.get hx
    have hlt : i < its.toArray.size := by
      have := (List.getElem?_eq_some_iff.mp hu).1
      simpa using this
    have D := Draws.list (prog := X.prog) (w := X.w) (A := X.A.in1) (I.ok.hd hc) it a hai its.toArray
    refine wpAny_pyNext_enum_itemD (i := i) D he ⟨hs, p.isList⟩ hlt hne (by simp [hne, Ne.symm hae]) fun v h' tk hP hOut hst hT hsz hk => ?_
    have ev : v = u := by
      have : its[i]? = some v := by simpa using hP
      rw [hu] at this; exact (Option.some.inj this).symm
    subst ev
    have hel : e < s.heap.objs.size := Heap.lt_size he
    have hil : it < s.heap.objs.size := by obtain ⟨o, ho, _⟩ := hs; exact Heap.lt_size ho
    refine ⟨_, rfl, wpAny_letOwnedTupleGo_enum hOut fun h2 he2 hs2 => ?_⟩
    generalize hO : ({ cls := .type "tuple", data := .seq #[.int ((i : Nat) : Int) tk, v] } : Obj) = O at hT
    have I1 : Inv X pins σ (upd H s.heap.objs.size (.tup [.int (i : Int), x])) { s with heap := s.heap.push O, toks := tk + 1 } := by
      refine I.laid (t' := tk + 1) (fun b o y => Heap.get?_push_of_some _ y) (Nat.le_refl _) (show ObjOk X.prog X.w _ _ _ (.tup _) from ⟨by show 2 ≤ sizeLine; decide, [.int ((i : Nat) : Int) tk, v], .cons ⟨tk, rfl⟩ (.cons ru .nil), ?_⟩)
      rw [← hO]; exact IsTup.new _ _
    have hfree := I.hok.fresh (Nat.le_refl s.heap.objs.size)
    have hf2 : ∀ b ∈ [e, it], FpOk X pins (upd H s.heap.objs.size (.tup [.int (i : Int), x])) b := fun b hb => by
      obtain ⟨f0, f1⟩ := hf b hb
      have hb' : b ≠ s.heap.objs.size := by
        rcases List.mem_cons.mp hb with q | hb
        · rw [q]; exact Nat.ne_of_lt hel
        · rw [List.mem_singleton.mp hb]; exact Nat.ne_of_lt hil
      exact ⟨by rw [upd_ne hb']; exact f0, f1⟩
    have I2 : Inv X pins σ (upd H s.heap.objs.size (.tup [.int (i : Int), x])) { s with heap := h2, toks := tk + 1 } := by
      refine I1.turned2 (t' := tk + 1) (h' := h2) (fun b o hb y => ?_) hf2
      have hbe : b ≠ e := fun q => hb (by simp [q])
      have hbi : b ≠ it := fun q => hb (by simp [q])
      rw [hs2.2 b hbe]
      rcases Heap.get?_push_cases y with ⟨q1, q2⟩ | y
      · rw [q1, q2]; exact hT
      · exact hk b o hbe hbi y
    refine ⟨.ref s.heap.objs.size, _, I2, rfl, ⟨s.heap.objs.size, x, hfree, fun ys hy => by rw [I.list_inj hy hq]; exact hx, rfl, rfl⟩, ⟨⟨_, he2⟩, ?_⟩, fun b hb => (hf2 b hb).1⟩
    exact hst.1.at fun o y => by rw [hs2.2 it hne.symm]; exact y
  done := by
    intro X hP hw hK hc i pins s σ H E I hf st hg
    subst hP hw hK
    obtain ⟨⟨old, he⟩, hs⟩ := st
    obtain ⟨xs, hq, hle⟩ := hg
    obtain ⟨its, rv, p, hz⟩ := I.list hq
    have hl := rv.length
    obtain ⟨f0, f1, f2, f3, f4, f5⟩ := hf it (by simp)
    exact wpAny_pyNext_enum_end (I.ok.hd hc) he hs p.isList (by simp; omega) fun h' eb => ⟨rfl, I.turned (t' := s.toks) (fun b o hb y => eb b o hb y) f0 f1 f3 f4 f5⟩
  self := fun _ _ _ _ _ st h => by
    obtain ⟨⟨old, he⟩, _⟩ := st
    exact wpAny_pyIter_enum he h
def iEnumL (K : PySem.W.Frag) (tl : TE) : TI := fun σ H R => tl σ H fun v H1 => ∃ a xs, [v] = [V.ref a] ∧ H1 a = some (.lst xs) ∧ R (Itel K a) H1
section
variable {X : Cx}
theorem pi_enum0 {l : Expr} {tl : TE} {elts : List Expr} {x1 : Nat} {tp p pos : Pos} (hg : Gl X "enumerate") (hm : X.mg "enumerate" = none) (hl : PE X l tl)
    (he : starEach [l] X.env = [(false, eval l X.env)] := by rfl) : PI X (.Tuple elts x1 tp) (.Call (.Name "enumerate" p) [l] [] pos) (iEnumL X.K tl) := by
  intro pins s σ H R I h
  have ha : PA X [l] (tCons tl tNil) := pa_cons hl pa_nil he
  refine wpAny_Call_Name_kw (ld_blt I hg hm boot_enumerate ?_)
  refine PyProof.Rows.callWith_type1 (thn (ha pos pins s σ H (fun vs H1 => ∃ a xs, vs = [V.ref a] ∧ H1 a = some (.lst xs) ∧ R (Itel X.K a) H1) I h) fun us s1 ⟨vs, H1, I1, r1, a, xs, e, ea, q⟩ => ?_) he rfl
  subst e
  obtain ⟨u, rfl, r⟩ := vals1 r1
  cases r
  obtain ⟨z, its, n, rv, hll, eo⟩ := I1.lstM ea
  have hal : a < s1.heap.objs.size := Heap.lt_size eo
  refine call_enumerate_1 eo fun h' hE hit hsz hkk => wpAny_pyIter_enum hE ?_
  refine ⟨s1.heap.objs.size + 1, [s1.heap.objs.size + 1, s1.heap.objs.size], _, _, H1, rfl, I1.kept (t' := s1.toks) hkk, turn_enumL a _ _ (Nat.succ_ne_self _) (Nat.ne_of_lt hal) (Nat.ne_of_lt (Nat.lt_succ_of_lt hal)), ⟨⟨_, hE⟩, hit⟩, fun b hb => ?_, q⟩
  rcases List.mem_cons.mp hb with z | hb
  · rw [z]; exact I1.fpOk (Nat.le_succ _) (I1.hok.fresh (Nat.le_succ _))
  · rw [List.mem_singleton.mp hb]; exact I1.fpOk (Nat.le_refl _) (I1.hok.fresh (Nat.le_refl _))
end
end L2
set_option maxHeartbeats 2000000
namespace L2
open PySem PySem.Spec PyProof.Rows
def tPar3 (i j k : Nat) (ta : TA) : TS := fun D σ H => ta σ H fun vs H1 => ∃ u v w, vs = [u, v, w] ∧ D.nx (((σ.set i (some u)).set j (some v)).set k (some w)) H1
theorem ps_par3 {X : Cx} {pos : Pos} {i j k : Nat} {x y z : Str} {a b c : Expr} {ta : TA} {px py pz pt : Pos} {kt k2 pt2} (hc : X.calm = true) (hN : X.N.Nodup) (hi : X.N[i]? = some x) (hj : X.N[j]? = some y) (hk : X.N[k]? = some z) (hij : i ≠ j) (hik : i ≠ k) (hjk : j ≠ k)
    (hx : X.env.scope.names.lookup x = some .local) (hy : X.env.scope.names.lookup y = some .local) (hz : X.env.scope.names.lookup z = some .local) (ha : PA X [a, b, c] ta)
    (hw : swappedStores [.Tuple [.Name x px, .Name y py, .Name z pz] kt pt] (.Tuple [a, b, c] k2 pt2) X.env = pure (some [x, y, z]))
    (hs : swapsWithSole [.Tuple [.Name x px, .Name y py, .Name z pz] kt pt] (.Tuple [a, b, c] k2 pt2) pos.line X.env = pure false := by rfl) :
    PS X (.Assign [.Tuple [.Name x px, .Name y py, .Name z pz] kt pt] (.Tuple [a, b, c] k2 pt2) pos) (tPar3 i j k ta) := by
  intro pins s σ H D I h
  rw [exec_Assign_arm]
  refine wpAny_bind (wpAny_standAt ?_)
  rw [hs]
  refine wpAny_bind (wpAny_pure ?_)
  rw [if_neg (by decide)]
  refine wpAny_bind (Tuple_ (thn (ha _ pins s σ H _ I h) fun us s1 ⟨vs, H1, I1, r1, q1⟩ => ?_))
  obtain ⟨v1, v2, v3, e1, q1⟩ := q1
  subst e1
  obtain ⟨u1, u2, u3, rfl, rv1, rv2, rv3⟩ : ∃ u1 u2 u3, us = [u1, u2, u3] ∧ RelV v1 u1 ∧ RelV v2 u2 ∧ RelV v3 u3 := by
    cases r1 with
    | cons p q =>
      cases q with
      | cons p' q' =>
        cases q' with
        | cons p'' q'' =>
          cases q''
          exact ⟨_, _, _, rfl, p, p', p''⟩
  refine wpAny_newObj_type ?_ (by show 3 ≤ sizeLine; decide)
  have I2 : Inv X pins σ H1 { s1 with heap := s1.heap.push { cls := .type "tuple", data := .seq [u1, u2, u3].toArray } } := I1.kept (t' := s1.toks) fun b o e => Heap.get?_push_of_some _ e
  rw [hw]
  refine wpAny_bind (wpAny_pure ?_)
  show wpAny (model X.prog X.w) X.A (do rule "assign.swapped-stores"; let items ← unpackItems (.ref s1.heap.objs.size) 3 none; assignInOrder [fun v => bindName X.env z v, fun v => bindName X.env y v, fun v => bindName X.env x v] items.reverse; pure Flow.next) _ _ _
  refine wpAny_bind (wpAny_rule (wpAny_bind (unpackItems_tuple (items := #[u1, u2, u3]) (I.ok.hd hc) (IsTup.new s1.heap _) fun h' hx' => ?_)))
  have I3 := I2.kept (h' := h') (t' := s1.toks) fun b o e => hx' b o (Nat.ne_of_lt (Heap.lt_size e)) e
  show wpAny _ _ (assignInOrder [fun v => bindName X.env z v, fun v => bindName X.env y v, fun v => bindName X.env x v] [u3, u2, u1] >>= fun _ => pure Flow.next) _ _ _
  refine wpAny_bind (assignInOrder_cons (wpAny_bindName (store_ok I3 hN hk (.inl hz) rv3 (fun s2 I4 => ?_) (.inr hz))))
  refine assignInOrder_cons (wpAny_bindName (store_ok I4 hN hj (.inl hy) rv2 (fun s3 I5 => ?_) (.inr hy)))
  refine assignInOrder_cons (wpAny_bindName (store_ok I5 hN hi (.inl hx) rv1 (fun s4 I6 => assignInOrder_nil (wpAny_pure ?_)) (.inr hx)))
  rw [List.set_comm _ _ (Ne.symm hjk), List.set_comm _ _ (Ne.symm hik), List.set_comm _ _ (Ne.symm hij)] at I6
  exact ⟨_, H1, I6, q1⟩
end L2
set_option maxHeartbeats 2000000
namespace L2
open PySem PySem.Spec PyProof.Rows
section
variable {X : Cx}
end
end L2
set_option maxHeartbeats 2000000
namespace L2
open PySem
theorem Sep.newE {Δ : Rs} {H H2 : Hp} {o : HO} (S : Sep Δ H) {p : Addr} (hp : H p = none) (e : upd H p o = H2) : Sep ((p, Pt o) :: Δ) H2 := e ▸ S.new hp o
theorem Sep.putE {Δ Δ' : Rs} {H H2 : Hp} {o o' : HO} {a : Addr} (S : Sep Δ H) (e : upd H a o' = H2) [P : Pull a Δ (Pt o) Δ'] (m : mutO o = true := by rfl) : Sep ((a, Pt o') :: Δ') H2 := e ▸ S.put a o' m
end L2
set_option maxHeartbeats 2000000
namespace L2
open PySem PySem.W PySem.Spec PyProof.Rows
section
variable {prog : Program} {w : World} {A : Around} {E : Value → Shared → Prop} {s : Shared} {a : Addr} {as : List Addr} {ks : List Str} {P : PySem.Fin → Shared → Prop}
end
def SortedPr (ps : List (Str × V)) : Prop := ps.Pairwise fun p q => ¬ (q.1.cps.toList < p.1.cps.toList)
def pvlL (H : Hp) (a : Addr) : V := match H a with
  | some (.tup [_, v]) => v
  | _ => .non
theorem pairs_outL {H : Hp} {ts ts' : List Addr} {ps : List (Str × V)} (h : PairT H ts ps) (o : OutT (ps.map (·.1)) ts ts') : ∃ ps', ps'.Perm ps ∧ SortedPr ps' ∧ PairT H ts' ps' := by
  obtain ⟨zs, hp, e, hs⟩ := o
  have val : ∀ (i : Nat) (a : Addr) (p : Str × V), ts[i]? = some a → ps[i]? = some p → pvlL H a = p.2 := fun i a p e1 e2 => by unfold pvlL; rw [h.2 i a p e1 e2]
  have hz : ((ps.map (·.1)).zip ts).map (fun z => (z.1, pvlL H z.2)) = ps := by
    apply List.ext_getElem?
    intro i
    rw [List.getElem?_map]
    cases e2 : ps[i]? with
    | none =>
      have : ((ps.map (·.1)).zip ts)[i]? = none := by
        rw [List.getElem?_eq_none_iff] at e2 ⊢
        rw [List.length_zip, List.length_map]; omega
      rw [this]; rfl
    | some p =>
      have hi : i < ps.length := (List.getElem?_eq_some_iff.mp e2).1
      obtain ⟨a, ea⟩ : ∃ a, ts[i]? = some a := ⟨_, List.getElem?_eq_getElem (by rw [h.1]; exact hi)⟩
      have : ((ps.map (·.1)).zip ts)[i]? = some (p.1, a) := by
        rw [List.getElem?_zip_eq_some]
        exact ⟨by rw [List.getElem?_map, e2]; rfl, ea⟩
      rw [this]
      show some (p.1, pvlL H a) = some p
      rw [val i a p ea e2]
  refine ⟨zs.map fun z => (z.1, pvlL H z.2), ?_, ?_, ?_⟩
  · have := hp.map fun z : Str × Addr => (z.1, pvlL H z.2)
    rwa [hz] at this
  · unfold SortedPr; rw [List.pairwise_map]; exact hs
  · refine ⟨by rw [e, List.length_map, List.length_map], fun i a p e1 e2 => ?_⟩
    rw [e, List.getElem?_map] at e1
    rw [List.getElem?_map] at e2
    cases ez : zs[i]? with
    | none => rw [ez] at e1; cases e1
    | some z =>
      rw [ez] at e1 e2
      cases (show some z.2 = some a from e1)
      cases (show some (z.1, pvlL H z.2) = some p from e2)
      have hm := hp.mem_iff.mp (List.mem_of_getElem? ez)
      obtain ⟨j, hj⟩ := List.mem_iff_getElem?.mp hm
      rw [List.getElem?_zip_eq_some] at hj
      obtain ⟨h1, h2⟩ := hj
      rw [List.getElem?_map] at h1
      cases e3 : ps[j]? with
      | none => rw [e3] at h1; cases h1
      | some pj =>
        rw [e3] at h1
        have h1' : pj.1 = z.1 := by simpa using h1
        have := h.2 j z.2 pj h2 e3
        rw [this, val j z.2 pj h2 e3, h1']
section
variable {X : Cx}
def kP (p : Str × V) : Key × V := (Sum.inr p.1, p.2)
end
end L2
set_option maxHeartbeats 2000000
namespace L2
open PySem
def NameOk (x : Str) : Prop := 1 ≤ x.length ∧ x.length ≤ 8 ∧ x.cps.toList.all letr = true
theorem one_len (c : Nat) : (⟨#[c]⟩ : Str).length = 1 := rfl
def a26 : Str := "abcdefghijklmnopqrstuvwxyz"
theorem a26_len : a26.length = 26 := by decide +kernel
theorem a26_all : a26.cps.toList.all letr = true := by decide +kernel
theorem map_at {α : Type} {f : α → V} {xs : List α} {r : Int} (h0 : 0 ≤ r) (h1 : r < (xs.length : Int)) : ∃ x ∈ xs, atI (xs.map f) r = some (f x) := by
  have hl : r.toNat < xs.length := by omega
  exact ⟨_, List.getElem_mem hl, atI_of h0 (by rw [List.getElem?_map, List.getElem?_eq_getElem hl]; rfl)⟩
theorem list_at {xs : List V} {r : Int} (h0 : 0 ≤ r) (h1 : r < (xs.length : Int)) : ∃ x ∈ xs, atI xs r = some x := by
  have hl : r.toNat < xs.length := by omega
  exact ⟨_, List.getElem_mem hl, atI_of h0 (List.getElem?_eq_getElem hl)⟩
theorem Sep.le {Δ : Rs} {H : Hp} {p : Addr} {n m : Nat} (S : Sep ((p, Bx n) :: Δ) H) (h : n ≤ m) : Sep ((p, Bx m) :: Δ) H := by
  obtain ⟨g, l, r, S⟩ := S
  exact ⟨g, l, BoxAt.le r h, S⟩
def spValueS : Sp := fun vs H Q _ => ∃ (p : Addr) (n : Nat) (Δ : Rs), vs = [.ref p] ∧ Sep ((p, Bx n) :: Δ) H ∧ n ≤ 900000 ∧ ∀ (v : V) (H' : Hp), IsVal v → Sep ((p, Bx (n + 50)) :: Δ) H' → Q v H'
theorem value_S {vs : List V} {H : Hp} {Q : VK} {E : XK} (h : spValueS vs H Q E) : spValue vs H Q E := by
  obtain ⟨p, n, Δ, e, S, h1, q⟩ := h
  exact ⟨p, n, e, S.get p, h1, fun v H' hv B k => q v H' hv (S.box k B)⟩
def spBoxS (K : PySem.W.Frag) : Sp := fun vs H Q _ => ∃ (a : Addr) (ns : List Int) (k : Int) (Δ : Rs), vs = [.ref a, .int k] ∧ SqL K H a (ns.map V.int) ∧ Sep Δ H ∧ 0 ≤ k ∧ k ≤ 1000 ∧ ∀ (p : Addr) (H' : Hp), Same H H' → Sep ((p, Bx 0) :: Δ) H' → Q (.ref p) H'
theorem box_S {K : PySem.W.Frag} {vs : List V} {H : Hp} {Q : VK} {E : XK} (h : spBoxS K vs H Q E) : spBox K vs H Q E := by
  obtain ⟨a, ns, k, Δ, e, hS, S, h1, h2, q⟩ := h
  refine ⟨a, ns, k, e, hS, h1, h2, fun p H' hp B s => q p H' s ?_⟩
  obtain ⟨x, y, z, eb, w⟩ := B
  exact (S.made s hp eb).say p (Bx 0) fun h r => ⟨x, y, z, r, w⟩
inductive Stp where
  | set (x : Str) (v : V)
  | clr (x : Str)
def Stp.vs : Stp → List V
  | .set x v => [.str "set", .str x, v]
  | .clr x => [.str "clear", .str x]
def Stp.nm : Stp → Str
  | .set x _ => x
  | .clr x => x
def Stp.ok (NS : List Str) : Stp → Prop
  | .set x v => x ∈ NS ∧ IsVal v
  | .clr x => x ∈ NS
class IsLst (R : Res) (k : Nat) : Prop where
  lst : ∀ {a h}, R a h → ∃ xs, h a = some (.lst xs) ∧ xs.length = k
instance {xs : List V} : IsLst (Lst xs) xs.length := ⟨fun h => ⟨xs, h, rfl⟩⟩
end L2
set_option maxHeartbeats 2000000
namespace L2
open PySem
theorem textFrom_le (B : Nat) : ∀ (ts : List Str) (k : Nat) (acc : Str), (∀ t ∈ ts, t.length ≤ B) → (textFrom k acc ts).length ≤ acc.length + ts.length * (B + 2)
  | [], _, acc, _ => by show acc.length ≤ acc.length + 0 * (B + 2); omega
  | t :: r, k, acc, h => by
    have h1 := textFrom_le B r (k + 1) (acc ++ (if k > 0 then ", " else "" : String) ++ t) fun x hx => h x (List.mem_cons_of_mem _ hx)
    have h2 := h t List.mem_cons_self
    rw [app_len, app_len] at h1
    have h3 : (Str.ofString (if k > 0 then ", " else "" : String)).length ≤ 2 := by split <;> decide
    show (textFrom (k + 1) (acc ++ (if k > 0 then ", " else "" : String) ++ t) r).length ≤ acc.length + (r.length + 1) * (B + 2)
    rw [Nat.add_mul, Nat.one_mul]
    omega
theorem int_txt {i : Int} (h : i.natAbs ≤ 10 ^ 31) : i.natAbs.log2 < 1920 ∧ (Str.ofString (toString i)).length ≤ 40 := by
  constructor
  · by_cases z : i.natAbs = 0
    · rw [z]; decide
    · exact (Nat.log2_lt z).mpr (Nat.lt_of_le_of_lt h (by decide +kernel))
  · have e := int_text_length_le10 (a := i) (k := 32) (by decide) (Nat.lt_of_le_of_lt h (by decide))
    rw [str_len, PyProof.Rows.signs_ofString, List.length_map, String.length_toList]
    omega
theorem reprChar_len (q c : Nat) (h : c < 128) : (Builtin.Str.reprChar q c).length ≤ 4 := by
  by_cases e : (c == q || c == 92) = true
  · unfold Builtin.Str.reprChar; simp only [e, if_true]; show 2 ≤ 4; decide
  · have e2 : (c == 200 || c == 92) = false := by
      simp only [Bool.or_eq_true, not_or, beq_iff_eq] at e
      simp only [Bool.or_eq_false_iff, beq_eq_false_iff_ne]
      exact ⟨by omega, e.2⟩
    have z : Builtin.Str.reprChar q c = Builtin.Str.reprChar 200 c := by
      unfold Builtin.Str.reprChar
      simp only [Bool.not_eq_true] at e
      simp only [e, e2]
    rw [z]
    have all : ∀ c : _root_.Fin 128, (Builtin.Str.reprChar 200 c.val).length ≤ 4 := by decide +kernel
    exact all ⟨c, h⟩
theorem repr_len {x : Str} (h : ∀ c ∈ x.cps.toList, c < 128) : (reprText x).length ≤ 2 + 4 * x.length := by
  rw [← reprLen_eq, ← Array.foldl_toList, str_len]
  have gen : ∀ (l : List Nat) (n : Nat), (∀ c ∈ l, c < 128) → l.foldl (fun n c => n + (Builtin.Str.reprChar (reprQuote x) c).length) n ≤ n + 4 * l.length := by
    intro l
    induction l with
    | nil => intro n _; simp
    | cons c r ih =>
      intro n hc
      have h1 := reprChar_len (reprQuote x) c (hc c List.mem_cons_self)
      have h2 := ih (n + (Builtin.Str.reprChar (reprQuote x) c).length) fun d hd => hc d (List.mem_cons_of_mem _ hd)
      rw [List.foldl_cons, List.length_cons]
      omega
  exact gen _ _ h
def NvV (v : V) : Prop := v = .non ∨ IsVal v
def valD : V → PyData
  | .int i => .int i
  | .str x => .str x
  | _ => .none
structure Sml (d : PyData) (n k : Nat) : Prop where
  sh : d.showable = true
  ln : d.shown.length ≤ n
  dp : d.depth ≤ k
theorem str_sml {x : Str} {n : Nat} (h : ∀ c ∈ x.cps.toList, c < 128) (hl : 2 + 4 * x.length ≤ n) (k : Nat) : Sml (.str x) n k := ⟨rfl, Nat.le_trans (repr_len h) hl, Nat.zero_le _⟩
theorem nv_sml {v : V} (h : NvV v) (k : Nat) : Sml (valD v) 200 k := by
  rcases h with rfl | h
  · exact ⟨rfl, by show 4 ≤ 200; decide, Nat.zero_le _⟩
  · cases v with
    | int i =>
      obtain ⟨h1, h2⟩ := int_txt (show i.natAbs ≤ 10 ^ 31 from h)
      exact ⟨decide_eq_true h1, Nat.le_trans h2 (by decide), Nat.zero_le _⟩
    | str x =>
      refine str_sml (fun c hc => ?_) (by have : x.length ≤ 41 := h.1; omega) k
      have := List.all_eq_true.mp h.2 c hc
      unfold sgn at this
      simp only [Bool.and_eq_true, decide_eq_true_eq] at this
      omega
    | _ => exact h.elim
theorem name_sml {x : Str} (h : NameOk x) (k : Nat) : Sml (.str x) 40 k := by
  refine str_sml (fun c hc => ?_) (by have := h.2.1; omega) k
  have := List.all_eq_true.mp h.2.2 c hc
  unfold letr at this
  simp only [Bool.and_eq_true, decide_eq_true_eq] at this
  omega
theorem shownAll_map : ∀ ds : List PyData, PyData.shownAll ds = ds.map PyData.shown
  | [] => rfl
  | d :: r => by rw [PyData.shownAll, shownAll_map r]; rfl
theorem showableAll_of : ∀ {ds : List PyData}, (∀ d ∈ ds, d.showable = true) → PyData.showableAll ds = true
  | [], _ => rfl
  | d :: r, h => by rw [PyData.showableAll, h d List.mem_cons_self, showableAll_of fun e he => h e (List.mem_cons_of_mem _ he)]; rfl
theorem depthAll_of {k : Nat} : ∀ {ds : List PyData}, (∀ d ∈ ds, d.depth ≤ k) → PyData.depthAll ds ≤ k
  | [], _ => Nat.zero_le _
  | d :: r, h => by
    have h1 := h d List.mem_cons_self
    have h2 := depthAll_of (k := k) (ds := r) fun e he => h e (List.mem_cons_of_mem _ he)
    simp [PyData.depthAll]; omega
theorem list_sml {ds : List PyData} {n k : Nat} (h : ∀ d ∈ ds, Sml d n k) : Sml (.list ds) (2 + ds.length * (n + 2)) (k + 1) := by
  refine ⟨showableAll_of fun d hd => (h d hd).sh, ?_, ?_⟩
  · show (listText (PyData.shownAll ds)).length ≤ _
    rw [shownAll_map]
    show (textFrom 0 "[" (ds.map PyData.shown) ++ Str.ofString "]").length ≤ _
    rw [app_len]
    have z := textFrom_le n (ds.map PyData.shown) 0 "[" (fun t ht => by
      obtain ⟨d, hd, rfl⟩ := List.mem_map.mp ht
      exact (h d hd).ln)
    rw [List.length_map] at z
    have z1 : (Str.ofString "[").length = 1 := by decide
    have z2 : (Str.ofString "]").length = 1 := by decide
    have z3 : (textFrom 0 "[" (ds.map PyData.shown)).length ≤ 1 + ds.length * (n + 2) := by rw [← z1]; exact z
    omega
  · have := depthAll_of (k := k) fun d hd => (h d hd).dp
    show PyData.depthAll ds + 1 ≤ _
    omega
theorem pair_sml {a b : PyData} {n m k : Nat} (h1 : Sml a n k) (h2 : Sml b m k) : Sml (.tuple [a, b]) (4 + n + m) (k + 1) := by
  refine ⟨?_, ?_, ?_⟩
  · show PyData.showableAll [a, b] = true
    simp [PyData.showableAll, h1.sh, h2.sh]
  · show (tupleText [a.shown, b.shown]).length ≤ _
    have e : (tupleText [a.shown, b.shown]).length = 1 + (a.shown.length + 2 + b.shown.length) + 1 := by
      show ((Str.ofString "(" ++ ((a.shown ++ Str.ofString ", ") ++ b.shown)) ++ Str.ofString ")").length = _
      rw [app_len, app_len, app_len, app_len]; rfl
    have := h1.ln
    have := h2.ln
    omega
  · have := h1.dp
    have := h2.dp
    show PyData.depthAll [a, b] + 1 ≤ _
    simp [PyData.depthAll]; omega
def pairD (p : Str × V) : PyData := .tuple [.str p.1, valD p.2]
end L2
set_option maxHeartbeats 4000000
namespace K6
open PySem L2
def PsOf (NS : List Str) (F : Str → Option V) (lev r : Nat) (ps : List (Str × V)) : Prop := (ps.map (·.1)).Nodup ∧ ∀ x v, (x, v) ∈ ps ↔ x ∈ NS ∧ mkN x % 4 ^ lev = r ∧ F x = some v
def PsTo (NS : List Str) (F : Str → Option V) (lev r i : Nat) (ps : List (Str × V)) : Prop := (ps.map (·.1)).Nodup ∧ ∀ x v, (x, v) ∈ ps ↔ x ∈ NS ∧ mkN x % 4 ^ lev = r ∧ mkN x / 4 ^ lev % 4 < i ∧ F x = some v
theorem key_mem {ps : List (Str × V)} {x : Str} : x ∈ ps.map (·.1) ↔ ∃ v, (x, v) ∈ ps := by
  rw [List.mem_map]
  exact ⟨fun ⟨⟨a, v⟩, h, e⟩ => ⟨v, by cases e; exact h⟩, fun ⟨v, h⟩ => ⟨_, h, rfl⟩⟩
section
variable {NS : List Str} {F : Str → Option V} {lev r : Nat}
theorem PsTo.zero : PsTo NS F lev r 0 [] := ⟨List.nodup_nil, fun x v => ⟨(fun h => nomatch h), fun h => absurd h.2.2.1 (Nat.not_lt_zero _)⟩⟩
theorem PsTo.step {i : Nat} {ps qs : List (Str × V)} (h : PsTo NS F lev r i ps) (hr : r < 4 ^ lev) (g : PsOf NS F (lev + 1) (r + i * 4 ^ lev) qs) : PsTo NS F lev r (i + 1) (ps ++ qs) := by
  have inv : ∀ {n : Nat}, n % 4 ^ (lev + 1) = r + i * 4 ^ lev ↔ n % 4 ^ lev = r ∧ n / 4 ^ lev % 4 = i := fun {n} => ⟨fun z => res_inv hr z, fun ⟨z1, z2⟩ => by rw [res_mod, z1, z2]⟩
  refine ⟨?_, fun x v => ?_⟩
  · rw [List.map_append, List.nodup_append]
    refine ⟨h.1, g.1, fun a ha b hb e => ?_⟩
    subst e
    obtain ⟨u, hu⟩ := key_mem.mp ha
    obtain ⟨v, hv⟩ := key_mem.mp hb
    have h1 := ((h.2 _ _).mp hu).2.2.1
    have h2 := (inv.mp ((g.2 _ _).mp hv).2.1).2
    omega
  · rw [List.mem_append, h.2, g.2, inv]
    constructor
    · rintro (⟨h1, h2, h3, h4⟩ | ⟨h1, ⟨h2, h3⟩, h4⟩)
      · exact ⟨h1, h2, by omega, h4⟩
      · exact ⟨h1, h2, by omega, h4⟩
    · rintro ⟨h1, h2, h3, h4⟩
      by_cases z : mkN x / 4 ^ lev % 4 < i
      · exact .inl ⟨h1, h2, z, h4⟩
      · exact .inr ⟨h1, ⟨h2, by omega⟩, h4⟩
theorem PsTo.done {ps : List (Str × V)} (h : PsTo NS F lev r 4 ps) : PsOf NS F lev r ps :=
  ⟨h.1, fun x v => by rw [h.2]; exact ⟨fun ⟨a, b, _, c⟩ => ⟨a, b, c⟩, fun ⟨a, b, c⟩ => ⟨a, b, Nat.mod_lt _ (by decide), c⟩⟩⟩
theorem psOf_none (h : ∀ x ∈ NS, mkN x % 4 ^ lev = r → F x = none) : PsOf NS F lev r [] := ⟨List.nodup_nil, fun x v => ⟨(fun h => nomatch h), fun ⟨a, b, c⟩ => by rw [h x a b] at c; cases c⟩⟩
theorem psOf_leaf {m : Int} {ps : List (Str × V)} (G : LeafG NS m ps) (hm : m.toNat % 4 ^ lev = r) (hF : ∀ x ∈ NS, mkN x % 4 ^ lev = r → F x = lk ps x) : PsOf NS F lev r ps := by
  refine ⟨G.nd, fun x v => ⟨fun h => ?_, fun ⟨h1, h2, h3⟩ => ?_⟩⟩
  · have h1 := G.sub _ h
    have h2 : mkN x % 4 ^ lev = r := by unfold mkN; rw [G.mrk _ h]; exact hm
    exact ⟨h1, h2, by rw [hF x h1 h2]; exact (lk_mem G.nd).mpr h⟩
  · rw [hF x h1 h2] at h3
    exact (lk_mem G.nd).mp h3
theorem PsOf.few {ps : List (Str × V)} (h : PsOf NS F lev r ps) : ps.length ≤ NS.length := by
  have := len_sub h.1 (N := NS) fun x hx => by obtain ⟨v, hv⟩ := key_mem.mp hx; exact ((h.2 _ _).mp hv).1
  rwa [List.length_map] at this
end
section
variable {P : Program} {w : World} {K : PySem.W.Frag} {mg : Str → Option Value} {base : Heap} {C Pp : Addr} {NS : List Str}
def spPB (K : PySem.W.Frag) (C : Addr) (NS : List Str) : Nat → Sp
  | 0 => fun _ _ _ _ => False
  | d + 1 => fun vs H Q _ => ∃ (st ln dt : Addr) (nds : List Nd) (tabs : List (Key × V)) (num lev r : Nat) (F : Str → Option V), vs = [.ref st, iN num] ∧ StoreAt K C st ln dt H nds tabs ∧ Tri NS nds F d lev r num ∧ r < 4 ^ lev ∧
    ∀ (l : Addr) (H' : Hp) (ts : List Addr) (ps : List (Str × V)), H l = none → Same H H' → H' l = some (.lst (ts.map V.ref)) → PairT H' ts ps → PsOf NS F lev r ps → Q (.ref l) H'
theorem pairT_app {H : Hp} {ts us : List Addr} {ps qs : List (Str × V)} (h : PairT H ts ps) (g : PairT H us qs) : PairT H (ts ++ us) (ps ++ qs) := by
  refine ⟨by rw [List.length_append, List.length_append, h.1, g.1], fun i a p e1 e2 => ?_⟩
  by_cases hi : i < ts.length
  · rw [List.getElem?_append_left hi] at e1
    rw [List.getElem?_append_left (by rw [← h.1]; exact hi)] at e2
    exact h.2 i a p e1 e2
  · rw [List.getElem?_append_right (by omega)] at e1
    rw [List.getElem?_append_right (by rw [← h.1]; omega), ← h.1] at e2
    exact g.2 _ a p e1 e2
abbrev nPB : List Str := ["self", "number", "node", "told", "part"]
abbrev pnPB : List Str := ["self", "number"]
theorem scPB : FnScope nPB pnPB (defScope c_Store_pairs_below) := ⟨rfl, rfl, rfl, by decide +kernel, rfl, by decide +kernel, by decide +kernel⟩
theorem ok_pb {f : Addr} {fd : FuncData} {d k : Nat} (N : NsOk NS) (hk : 1 ≤ k) (F : Fun K "pairs_below" "Store.pairs_below" c_Store_pairs_below f fd) (T : Txt K mg) (TC : TxtC K C)
    (DR : Def P w K mg base 1 "pairs_in" ["node"] (spPairs K)) (DP : Def P w K mg base 1 "parts_in" ["node"] (spParts K))
    (DS_pairs_below : DefM P w K mg base k C "pairs_below" pnPB (spPB K C NS d)) : FnOk P w K mg base CX0 (k + 1) f fd pnPB (spPB K C NS (d + 1)) := by
  refine F.ok scPB (fun vs H Q E h => ?_) (fun cdv A outer s H vs Q E hr h => ?_)
  · obtain ⟨st, ln, dt, nds, tabs, num, lev, r, F, rfl, _⟩ := h; rfl
  obtain ⟨st, ln, dt, nds, tabs, num, lev, r, Fm, rfl, S, htri, hrl, q⟩ := h
  have hr1 := hr.mono hk
  refine' ⟨?t, ?h, ?r⟩
  case h =>
    conv => arg 2; whnf
    with_reducible refine' (pss_cons ?h1 (pss_cons ?h2 (pss_cons (ps_for ?h3 ?h4 ?h5 ?h6 (pss_one ?h7) ?h8) (pss_one ?h9))))
    case h1 => exact ps_set (i := 2) scPB.nd rfl (Or.inl rfl) (pe_ix ix_list (pe_fld (pv 0) rfl) (pv 1) (fun _ _ => rfl))
    case h2 => exact ps_set (i := 3) scPB.nd rfl (Or.inl rfl) (pe_callTy call_list_of rfl T.list (by decide +kernel) (pac (pe_d DR hr1 (pac (pv 2) pa_nil)) pa_nil))
    case h3 => exact PassesOwn.never
    case h4 => exact rfl
    case h5 => exact pi_tup (pe_d DP hr1 (pac (pv 2) pa_nil))
    case h6 => exact pg_name (i := 4) scPB.nd rfl (Or.inl rfl)
    case h7 => exact ps_expr (pe_bm PySem.F.plainAttrs_list PySem.F.slot_list_extend PySem.F.type_list_extend mt_extend (pv 3) (pac (pe_m DS_pairs_below TC.cl hr (pv 0) (pac (pv 4) pa_nil)) pa_nil))
    case h8 => exact fun _ => rfl
    case h9 => exact ps_ret (pv 3)
  obtain ⟨n, hn, _⟩ := tri_node htri
  obtain ⟨as, a, nl, ha, hna⟩ := S.node hn
  obtain ⟨dx, ob⟩ := S.ob
  refine ⟨_, rfl, st, C, dx, _, _, rfl, ob, TC.cl, TC.nN, flds_n ln dt, _, rfl, ln, _, _, _, rfl, rfl, SqL.of nl, atI_nat (by rw [List.getElem?_map, ha]; rfl), ?_⟩
  refine ⟨_, rfl, a, n, rfl, hna, fun pt H1 s1 hpt => ?_⟩
  obtain ⟨o, ts, ept, hod, hPT⟩ := hpt
  refine ⟨pt, _, rfl, .inr (.inl (.inr ⟨o, ept⟩)), fun l hl => ?_⟩
  have hlH : H l = none := none_back s1 hl
  have s2 := same_new hl (.lst (ts.map V.ref))
  refine ⟨_, rfl, a, n, rfl, hna.tf (s1.trans s2).tf, fun pa H3 s3 hpa => ?_⟩
  have s03 : Same H H3 := (s1.trans s2).trans s3
  refine ⟨pa, rfl, ⟨_, hpa⟩, ?_⟩
  have hlen : ∀ {lev' r' : Nat} {ps : List (Str × V)}, PsOf NS Fm lev' r' ps → ps.length ≤ 63 := fun h => by have := h.few; have := N.few; omega
  have ends : n.parts = [] → PsOf NS Fm lev r n.pairs := fun z => by
    have e : TriE NS nds Fm lev r num → PsOf NS Fm lev r n.pairs := fun g => by
      rcases g with ⟨_, h2, h3⟩ | ⟨m, ps, h1, G, hm, hF⟩
      · rw [hn] at h2; cases h2; exact psOf_none h3
      · rw [hn] at h1; cases h1; exact psOf_leaf G hm hF
    cases d with
    | zero => exact e htri
    | succ d =>
      rcases htri with h | ⟨qs, h1, h2, _⟩
      · exact e h
      · rw [hn] at h1; cases h1
        rw [show qs = [] from z] at h2; cases h2
  refine for_tup (K := K) (xs := n.parts.map fun q : Nat => V.int (q : Int)) (fun i σ H' => ∃ (y : Option V) (us : List Addr) (ps : List (Str × V)), σ = [some (.ref st), some (iN num), some (.ref a), some (.ref l), y] ∧ Same H H' ∧ Same H1 H' ∧ SqT K H' pa (n.parts.map fun q : Nat => V.int (q : Int)) ∧ H' l = some (.lst (us.map V.ref)) ∧ PairT H' us ps ∧ (n.parts = [] → ps = n.pairs) ∧ (n.parts ≠ [] → PsTo NS Fm lev r i ps))
    ⟨_, ts, n.pairs, rfl, s03, s2.trans s3, hpa, s3 _ _ upd_same, (hPT.tf s2.tf).tf s3.tf, fun _ => rfl, fun z => ?_⟩ (fun i σ H' _ h => ?_) ?_ ?_
  · cases n with
    | bare => exact absurd rfl z
    | leaf m ps => exact absurd rfl z
    | fork qs => exact PsTo.zero
  · obtain ⟨_, _, _, _, _, _, h, _⟩ := h; exact h
  · rintro i x σ H4 hx ⟨y, us, ps, rfl, s4, s14, hpa4, el4, hpt4, hb4, hf4⟩
    rw [List.getElem?_map] at hx
    cases eq1 : n.parts[i]? with
    | none => rw [eq1] at hx; cases hx
    | some q1 =>
      rw [eq1] at hx
      cases (show some (V.int (q1 : Int)) = some x from hx)
      have hne : n.parts ≠ [] := fun z => by rw [z] at eq1; simp at eq1
      have hto := hf4 hne
      cases n with
      | bare => exact absurd rfl hne
      | leaf m ps => exact absurd rfl hne
      | fork qs =>
        cases d with
        | zero =>
          rcases htri with ⟨_, h2, _⟩ | ⟨m, ps, h1, _⟩
          · rw [hn] at h2; cases h2
          · rw [hn] at h1; cases h1
        | succ d =>
          rcases htri with h | ⟨qs', h1, h2, h3⟩
          · rcases h with ⟨_, h2, _⟩ | ⟨m, ps, h1, _⟩
            · rw [hn] at h2; cases h2
            · rw [hn] at h1; cases h1
          · rw [hn] at h1; cases h1
            have tq := h3 i q1 eq1
            have hi4 : i < 4 := by rw [← h2]; exact (List.getElem?_eq_some_iff.mp eq1).1
            have S4 := S.keep s4
            obtain ⟨dx4, ob4⟩ := S4.ob
            refine ⟨_, rfl, .inl ⟨rfl, _, SqL.of el4⟩, _, rfl, st, dx4, _, rfl, ob4, flds_no ln dt (by decide +kernel) (by decide +kernel), _, rfl, ?_⟩
            refine ⟨st, ln, dt, nds, tabs, q1, lev + 1, r + i * 4 ^ lev, Fm, rfl, S4, tq, res_lt hrl hi4, fun l2 H5 us2 ps2 hl2 s5 el5 hpt5 hps5 => ?_⟩
            have nl2 : l2 ≠ l := fun z => by rw [z, el4] at hl2; cases hl2
            have el45 := s5 _ _ el4
            have b1 := hlen hps5
            have b2 : ps.length ≤ 63 := by
              have h1 := len_sub hto.1 (N := NS) fun x hx => by obtain ⟨v, hv⟩ := key_mem.mp hx; exact ((hto.2 _ _).mp hv).1
              rw [List.length_map] at h1
              have := N.few
              omega
            refine ⟨l, l2, _, _, rfl, rfl, el45, el5, by rw [List.length_map, List.length_map, hpt4.1, hpt5.1]; exact small (show _ ≤ 200 by omega), ?_⟩
            have tf5 := tf_lst (o := .lst (us.map V.ref ++ us2.map V.ref)) el45
            refine ⟨_, us ++ us2, ps ++ ps2, rfl, fun b o e => ?_, fun b o e => ?_, (hpa4.tf s5.tf).tf tf5, ?_, pairT_app ((hpt4.tf s5.tf).tf tf5) (hpt5.tf tf5), fun z => absurd z hne, fun _ => hto.step hrl hps5⟩
            · rw [upd_ne (ne_of_none e hlH)]; exact s5 _ _ (s4 _ _ e)
            · rw [upd_ne (ne_of_none e hl)]; exact s5 _ _ (s14 _ _ e)
            · rw [List.map_append]; exact upd_same
  · rintro σ H4 ⟨y, us, ps, rfl, s4, s14, hpa4, el4, hpt4, hb4, hf4⟩
    refine ⟨_, rfl, q l H4 us ps hlH s4 el4 hpt4 ?_⟩
    by_cases z : n.parts = []
    · rw [hb4 z]; exact ends z
    · have h4 := hf4 z
      rw [List.length_map] at h4
      cases n with
      | bare => exact absurd rfl z
      | leaf m ps => exact absurd rfl z
      | fork qs =>
        obtain ⟨_, _, _, hl4⟩ := hna
        rw [show (Nd.fork qs).parts.length = 4 from hl4] at h4
        exact h4.done
theorem ok_pbd {f : Addr} {fd : FuncData} (N : NsOk NS) (F : Fun K "pairs_below" "Store.pairs_below" c_Store_pairs_below f fd) (T : Txt K mg) (TC : TxtC K C) (DR : Def P w K mg base 1 "pairs_in" ["node"] (spPairs K)) (DP : Def P w K mg base 1 "parts_in" ["node"] (spParts K))
    (b : Binds K fd pnPB []) (mt : Meth K C "pairs_below" f) : ∀ d, FnOk P w K mg base CX0 (1 + d) f fd pnPB (spPB K C NS d)
  | 0 => F.ok scPB (fun _ _ _ _ h => h.elim) (fun _ _ _ _ _ _ _ _ _ h => h.elim)
  | d + 1 => ok_pb N (Nat.le_add_right 1 d) F T TC DR DP ⟨f, fd, ok_pbd N F T TC DR DP b mt d, b, mt⟩
def lamPosR : Stmt → Pos
  | .Return (some (.Call _ _ [⟨_, .Lambda _ _ _ p, _⟩] _)) _ => p
  | _ => ⟨0, 0, 0, 0⟩
def lpPairs : Pos := lamPosR ((defBody c_Store_pairs).getD 1 (.Pass ⟨0, 0, 0, 0⟩))
def qPairs : Str := (("Store.pairs" : Str) ++ ".<locals>.") ++ "<lambda>"
def spPairsM (K : PySem.W.Frag) (C Pp : Addr) (NS : List Str) : Sp := fun vs H Q _ => ∃ (st ln dt : Addr) (nds : List Nd) (tabs : List (Key × V)) (t : Nat) (F : Str → Option V), vs = [.ref st, iN t] ∧ StoreAt K C st ln dt H nds tabs ∧ (valV tabs (Sum.inl (t : Int))).isSome = true ∧ Tri NS nds F 5 0 0 t ∧ LamAt H Pp lpPairs qPairs ∧
  ∀ (l : Addr) (H' : Hp) (ts : List Addr) (ps : List (Str × V)), H l = none → Grown Pp H H' → LamAt H' Pp lpPairs qPairs → H' l = some (.lst (ts.map V.ref)) → PairT H' ts ps → PsOf NS F 0 0 ps → SortedPr ps → Q (.ref l) H'
abbrev nPs : List Str := ["self", "table"]
abbrev pnPs : List Str := ["self", "table"]
theorem scPs : FnScope nPs pnPs (defScope c_Store_pairs) := ⟨rfl, rfl, rfl, by decide +kernel, rfl, by decide +kernel, by decide +kernel⟩
theorem ok_pairsM {f c Pl : Addr} {fd : FuncData} (N : NsOk NS) (F : FunC K "pairs" "Store.pairs" c_Store_pairs f fd c Pl) (T : Txt K mg) (TC : TxtC K C) (hBm : BmAt base mg) (DS_check_table : DefM P w K mg base 7 C "check_table" ["self", "table"] (spCheck K C))
    (DS_pairs_below : DefM P w K mg base 7 C "pairs_below" pnPB (spPB K C NS 6)) : FnOk P w K mg base CX0 8 f fd pnPs (spPairsM K C Pl NS) := by
  refine F.ok scPs (fun vs H Q E h => ?_) (fun A outer s H vs Q E hr h => ?_)
  · obtain ⟨st, ln, dt, nds, tabs, t, F, rfl, _⟩ := h; rfl
  obtain ⟨st, ln, dt, nds, tabs, t, Fm, rfl, S, htab, htri, hL, q⟩ := h
  refine' ⟨?t, ?h, ?r⟩
  case h =>
    conv => arg 2; whnf
    with_reducible refine' (pss_cons ?h1 (pss_one ?h2))
    case h1 => exact ps_expr (pe_m DS_check_table TC.cl hr (pv 0) (pac (pv 1) pa_nil))
    case h2 => exact ps_ret (pe_sortF (c := c) (Pl := Pl) rfl T.sorted (pe_m DS_pairs_below TC.cl hr (pv 0) (pac (pv 1) pa_nil)) hr rfl F.hd hBm)
  obtain ⟨dx, ob⟩ := S.ob
  refine ⟨_, rfl, st, dx, _, rfl, ob, flds_no ln dt (by decide +kernel) (by decide +kernel), _, rfl, st, ln, dt, nds, tabs, t, rfl, S, htab, ?_⟩
  refine ⟨_, rfl, st, dx, _, rfl, ob, flds_no ln dt (by decide +kernel) (by decide +kernel), _, rfl, st, ln, dt, nds, tabs, t, 0, 0, Fm, rfl, S, htri, by decide, fun l1 H1 ts ps hl1 s1 el1 hpt hps => ?_⟩
  have hpl : ps.length ≤ 63 := by have := hps.few; have := N.few; omega
  refine ⟨l1, ts, ps.map (·.1), rfl, el1, by rw [hpt.1]; omega, by rw [List.length_map, hpt.1], fun i a k e1 e2 => ?_, LamAt.same hL s1, fun H2 l ts' gr hL2 hl hO => ?_⟩
  · rw [List.getElem?_map] at e2
    cases e3 : ps[i]? with
    | none => rw [e3] at e2; cases e2
    | some p =>
      rw [e3] at e2
      cases (show some p.1 = some k from e2)
      exact ⟨_, hpt.2 i a p e1 e3⟩
  · obtain ⟨tb, etb⟩ := (LamAt.same hL s1).tbl
    have hpt2 := hpt.tf (gr.tf etb)
    obtain ⟨ps', hp1, hp2, hp3⟩ := pairs_outL hpt2 hO
    have hlH : H l = none := by
      cases e : H l with
      | none => rfl
      | some o =>
        have e1 := s1 _ _ e
        by_cases z : l = Pl
        · obtain ⟨tb2, etb2⟩ := hL2.tbl; rw [z, etb2] at hl; cases hl
        · rw [gr _ _ z e1] at hl; cases hl
    have s3 := same_new hl (.lst (ts'.map V.ref))
    refine q l _ ts' ps' hlH (fun b o nb e => s3 _ _ (gr b o nb (s1 _ _ e))) (LamAt.same hL2 s3) upd_same (hp3.tf s3.tf) ⟨(hp1.map (·.1)).nodup_iff.mpr hps.1, fun x v => by rw [hp1.mem_iff]; exact hps.2 x v⟩ hp2
end
end K6
set_option maxHeartbeats 4000000
namespace K6
open PySem L2
section
variable {P : Program} {w : World} {K : PySem.W.Frag} {mg : Str → Option Value} {base : Heap}
abbrev DTake (P : Program) (w : World) (K : PySem.W.Frag) (mg : Str → Option Value) (base : Heap) : Prop := Def P w K mg base 1 "_law_take" ["_law_box_here", "_law_many"] (spTake 4611686018427387904)
abbrev M62 : Int := 4611686018427387904
theorem pick {p : Addr} {σ : St} {H : Hp} {D : Ends} {tn more : Int} {m : Nat} (h0 : σ[0]? = some (some (.ref p))) (h4 : σ[4]? = some (some (.int tn))) (h6 : σ[6]? = some (some (.int more))) (hB : BoxAt H p m) (hm : m ≤ 900000) (hmore : 0 ≤ more) (hM : more ≤ 26)
    (k : ∀ (σ' : St) (more' : Int) (H' : Hp), (σ' = σ ∧ more' = more ∨ σ' = σ.set 6 (some (.int more'))) → 0 ≤ more' → more' ≤ more → BoxAt H' p (m + 2) → Kp p H H' → D.nx σ' H') :
    tIfS (tAnd (tB (tOp rEq (tVar 4) (tC (.int 0)))) (tAnd (tB (tOp (rI0 fun i j => .bl (decide (j < i))) (tVar 6) (tC (.int 0)))) (tB (tOp rEq (tCall (spTake M62) [] E0 (tCons (tVar 0) (tCons (tC (.int 2)) tNil))) (tC (.int 0))))))
      (tAsg (tCall (spTake M62) [] E0 (tCons (tVar 0) (tCons (tVar 6) tNil))) (gName 6)) tNext D σ H := by
  refine ⟨_, h4, rfl, _, rfl, ite2 (fun _ => ?_) (fun _ => iteF (k _ _ _ (.inl ⟨rfl, rfl⟩) hmore (Int.le_refl _) (hB.le (by omega)) (Kp.refl p H)))⟩
  refine ⟨_, h6, _, _, rfl, rfl, _, rfl, ite2 (fun c => ?_) (fun _ => iteF (k _ _ _ (.inl ⟨rfl, rfl⟩) hmore (Int.le_refl _) (hB.le (by omega)) (Kp.refl p H)))⟩
  have hpos : 0 < more := of_decide_eq_true c
  refine ⟨_, h0, p, m, 2, rfl, hB, by omega, by decide, by decide, fun r H1 a0 a1 B1 k1 => ⟨rfl, _, rfl, ite2 (fun _ => ?_) (fun _ => k _ _ _ (.inl ⟨rfl, rfl⟩) hmore (Int.le_refl _) (B1.le (by omega)) k1)⟩⟩
  refine ⟨_, h0, _, h6, p, m + 1, more, rfl, B1, by omega, hpos, by show more < 4611686018427387904; omega, fun r2 H2 b0 b1 B2 k2 => ?_⟩
  exact k _ r2 _ (.inr rfl) b0 (by omega) (B2.le (by omega)) (k1.trans k2)
def spOf : Sp := fun vs H Q _ => ∃ (p : Addr) (m : Nat) (own : Int), vs = [.ref p, .int own] ∧ BoxAt H p m ∧ m ≤ 800000 ∧ 36 ≤ own ∧ own ≤ 1000 ∧ ∀ (x : Str) (H' : Hp), x.length = 8 → x.cps.toList.all letr = true → BoxAt H' p (m + 32) → Kp p H H' → Q (.str x) H'
abbrev nO : List Str := ["_law_box_here", "_law_own", "_law_letters", "_law_left", "_law_turn", "_law_place", "_law_more"]
theorem scO : FnScope nO ["_law_box_here", "_law_own"] (defScope s_l_of_mark) := ⟨rfl, rfl, rfl, by decide +kernel, rfl, by decide +kernel, by decide +kernel⟩
def alf : Str := "_abcdefghijklmnopqrstuvwxyz"
theorem alf_len : alf.length = 27 := by decide +kernel
theorem alf_at : (List.range 27).all (fun k => decide (k = 0) || (match alf.cps.toList[k]? with | some c => letr c | none => false)) = true := by decide +kernel
theorem alf_get {z : Int} (h1 : 1 ≤ z) (h2 : z ≤ 26) : ∃ c, atI alf.cps.toList z = some c ∧ letr c = true := by
  have hk : z.toNat < 27 := by omega
  have h := List.all_eq_true.mp alf_at z.toNat (List.mem_range.mpr hk)
  have hl : alf.cps.toList.length = 27 := by rw [← str_len]; exact alf_len
  have hz : decide (z.toNat = 0) = false := decide_eq_false (by omega)
  rw [hz, List.getElem?_eq_getElem (by rw [hl]; exact hk)] at h
  refine ⟨_, ?_, by simpa using h⟩
  have e : atI alf.cps.toList ((z.toNat : Nat) : Int) = some alf.cps.toList[z.toNat] := atI_nat (List.getElem?_eq_getElem (by rw [hl]; exact hk))
  rwa [show ((z.toNat : Nat) : Int) = z by omega] at e
theorem ok_of {f : Addr} {fd : FuncData} (F : Fun K "_law_of_mark" "_law_of_mark" s_l_of_mark f fd) (T : Txt K mg) (D : DTake P w K mg base) : FnOk P w K mg base CX0 2 f fd ["_law_box_here", "_law_own"] spOf := by
  refine F.ok scO (fun vs H Q E h => ?_) (fun cdv A outer s H vs Q E hr h => ?_)
  · obtain ⟨p, m, own, rfl, _⟩ := h; rfl
  obtain ⟨p, m, own, rfl, hB, hm, ho1, ho2, q⟩ := h
  refine' ⟨?t, ?h, ?r⟩
  case h =>
    conv => arg 2; whnf
    with_reducible refine' pss_cons ?a1 (pss_cons (ps_for ?c0 ?c1 ?c2 ?c3 (pss_one (ps_for ?d0 ?d1 ?d2 ?d3 (pss_cons ?b1 (pss_cons ?b2 (pss_cons ?b3 (pss_one ?b4)))) ?d4)) ?c4) (pss_one ?a3))
    case a1 => exact ps_par (i := 2) (j := 3) rfl scO.nd rfl rfl (by decide) rfl rfl (pac (pe_op op_rep (pe_lst (pac pe_int pa_nil)) pe_int) (pac (pe_op op_sub (pv 1) pe_int) pa_nil)) rfl
    case c0 => exact PassesOwn.never
    case c1 => exact rfl
    case c2 => exact pi_range1 rfl T.range (pac pe_int pa_nil)
    case c3 => exact pg_name (i := 4) scO.nd rfl (Or.inl rfl)
    case c4 => exact fun _ => rfl
    case d0 => exact PassesOwn.never
    case d1 => exact rfl
    case d2 => exact pi_range3 rfl T.range (pac pe_int (pac pe_int (pac (pe_un un_neg pe_int) pa_nil)))
    case d3 => exact pg_name (i := 5) scO.nd rfl (Or.inl rfl)
    case d4 => exact fun _ => rfl
    case b1 => exact ps_set (i := 6) scO.nd rfl (Or.inl rfl) (pe_callB (call_min2 rfl) rfl T.min (by decide +kernel) (pac (pe_op op_sub pe_int (pe_ix ix_list (pv 2) (pe_op op_sub (pv 5) pe_int) (fun _ _ => rfl))) (pac (pe_op op_fdiv (pv 3) (pv 5)) pa_nil)))
    case b2 => exact ps_if (PW.pt (pw_and (pt_cmpR op_eq (pv 4) pe_int (nomark _)) (pw_and (pt_cmpR op_gt (pv 6) pe_int (nomark _)) (pw_and1 (pt_cmpR op_eq (pe_d D hr (pac (pv 0) (pac pe_int pa_nil))) pe_int (nomark _)))))) (pss_one (ps_set (i := 6) scO.nd rfl (Or.inl rfl) (pe_d D hr (pac (pv 0) (pac (pv 6) pa_nil))))) pss_nil
    case b3 => exact ps_asg (pe_op op_add (pe_ix ix_list (pv 2) (pe_op op_sub (pv 5) pe_int) (fun _ _ => rfl)) (pv 6)) (pg_sub (pv 2) (pe_op op_sub (pv 5) pe_int) set_list)
    case b4 => exact ps_set (i := 3) scO.nd rfl (Or.inl rfl) (pe_op op_sub (pv 3) (pe_op op_mul (pv 6) (pv 5)))
    case a3 => exact ps_ret (pe_bm PySem.F.plainAttrs_str PySem.F.slot_str_join PySem.F.type_str_join mt_join pe_str (pac (pe_comp (CompOk.of nO s_l_of_mark rfl rfl (by decide +kernel)) rfl (pi_list (pv 2)) (fun _ _ _ _ _ => pe_ix ix_str pe_str (pv 7) (fun _ _ => rfl))) pa_nil))
  refine ⟨(by show 1 ≤ sizeLine; decide), fun a ha => ⟨a, 8, [.int 1], rfl, rfl, upd_same, by decide, by decide, (by show 1 * 8 ≤ sizeLine; decide), fun l hl => ?_⟩⟩
  refine ⟨_, rfl, _, _, rfl, rfl, _, _, rfl, ?_⟩
  have s1 := same_new ha (.lst [.int 1])
  have s2 := same_new hl (.lst (List.replicate (Int.toNat 8) [V.int 1]).flatten)
  have hlp : l ≠ p := fun e => by obtain ⟨_, _, _, z, _⟩ := hB.same s1; rw [e, z] at hl; cases hl
  have e0 : upd (upd H a (.lst [.int 1])) l (.lst (List.replicate (Int.toNat 8) [V.int 1]).flatten) l = some (.lst ((List.replicate 8 (1 : Int)).map V.int)) := upd_same
  have B0 := (hB.same s1).same s2
  have k0 : Kp p H _ := (s1.trans s2).kp p
  generalize upd (upd H a (.lst [.int 1])) l (.lst (List.replicate (Int.toNat 8) [V.int 1]).flatten) = H0 at *
  refine ⟨2, rfl, by decide, by decide, ?_⟩
  refine for_range (fun t σ H' => ∃ y4 y5 y6 ls left, σ = [some (.ref p), some (.int own), some (.ref l), some (.int left), y4, y5, y6] ∧ ls.length = 8 ∧ (∀ z ∈ ls, (1 : Int) ≤ z ∧ z ≤ 26) ∧ 0 ≤ left ∧ left ≤ 1000 ∧ H' l = some (.lst (ls.map V.int)) ∧ BoxAt H' p (m + 16 * t) ∧ Kp p H H')
    ⟨_, _, _, List.replicate 8 1, own - 36, rfl, rfl, fun z hz => by rw [List.eq_of_mem_replicate hz]; decide, by omega, by omega, e0, B0, k0⟩ ?_ ?_
  · rintro t σ H1 ht ⟨y4, y5, y6, ls, left, rfl, hlen, hls, hl0, hl1, el, B1, k1⟩
    have ht2 : t < 2 := ht
    refine ⟨1, rfl, 8, 0, -1, 8, rfl, by decide, by decide, by decide, by decide, ?_⟩
    refine for_range3 (fun i σ H' => ∃ y5 y6 ls left, σ = [some (.ref p), some (.int own), some (.ref l), some (.int left), some (.int (0 + (t : Int))), y5, y6] ∧ ls.length = 8 ∧ (∀ z ∈ ls, (1 : Int) ≤ z ∧ z ≤ 26) ∧ 0 ≤ left ∧ left ≤ 1000 ∧ H' l = some (.lst (ls.map V.int)) ∧ BoxAt H' p (m + 16 * t + 2 * i) ∧ Kp p H H')
      ⟨_, _, ls, left, rfl, hlen, hls, hl0, hl1, el, B1, k1⟩ ?_ ?_
    · rintro i σ H2 hi ⟨y5, y6, ls, left, rfl, hlen, hls, hl0, hl1, el, B2, k2⟩
      generalize hpl : (8 : Int) + (i : Int) * -1 = pl
      have hpl1 : 1 ≤ pl ∧ pl ≤ 8 := by omega
      have hj : (pl - 1).toNat < ls.length := by omega
      have hzb := hls ls[(pl - 1).toNat] (List.getElem_mem hj)
      generalize hzi : ls[(pl - 1).toNat] = zi at hzb
      have hat : atI (ls.map V.int) (pl - 1) = some (.int zi) := by
        have z : atI (ls.map V.int) (((pl - 1).toNat : Nat) : Int) = some (.int zi) := atI_nat (by rw [List.getElem?_map, List.getElem?_eq_getElem hj, hzi]; rfl)
        rwa [show (((pl - 1).toNat : Nat) : Int) = pl - 1 by omega] at z
      have hix : ixN (ls.map V.int).length (pl - 1) = some (pl - 1).toNat := by
        unfold ixN; rw [if_pos (by omega), if_pos (by rw [List.length_map, hlen]; omega)]
      refine ⟨_, rfl, _, rfl, _, _, rfl, rfl, l, _, _, _, rfl, rfl, SqL.of el, hat, _, _, rfl, rfl, _, rfl, _, rfl, _, _, rfl, rfl, ⟨by omega, by omega⟩, _, _, rfl, ?_⟩
      have hdiv0 : 0 ≤ left / pl := Int.ediv_nonneg hl0 (by omega)
      have hdiv1 : left / pl * pl ≤ left := Int.ediv_mul_le left (by omega)
      generalize hq : left / pl = dq at *
      generalize hmr : (if dq < 26 - zi then dq else 26 - zi) = more
      have hmore : 0 ≤ more ∧ more ≤ 26 - zi ∧ more ≤ dq := by rw [← hmr]; split <;> omega
      refine pick (p := p) (tn := 0 + (t : Int)) (more := more) (m := m + 16 * t + 2 * i) rfl rfl (by rw [← hmr]; rfl) B2 (by omega) hmore.1 (by omega) fun σ' more' H3 hσ m0 m1 B3 k3 => ?_
      have hσ' : σ' = [some (.ref p), some (.int own), some (.ref l), some (.int left), some (.int (0 + (t : Int))), some (.int pl), some (.int more')] := by
        rcases hσ with ⟨rfl, rfl⟩ | rfl
        · rw [← hmr]; rfl
        · rfl
      subst hσ'
      have el3 := k3 l _ hlp el
      have hmp : more' * pl ≤ left := Int.le_trans (Int.mul_le_mul_of_nonneg_right (show more' ≤ dq by omega) (by omega)) hdiv1
      have hmp0 : 0 ≤ more' * pl := Int.mul_nonneg m0 (by omega)
      refine ⟨_, rfl, _, rfl, _, _, rfl, rfl, l, _, _, _, rfl, rfl, SqL.of el3, hat, _, rfl, _, _, rfl, rfl, _, rfl, _, rfl, _, _, rfl, rfl, l, _, _, _, rfl, rfl, el3, hix, ?_⟩
      refine ⟨_, rfl, _, rfl, _, rfl, _, _, rfl, rfl, .inl ⟨by omega, by omega⟩, _, _, rfl, rfl, ?_⟩
      refine ⟨some (.int pl), some (.int more'), ls.set (pl - 1).toNat (zi + more'), left - more' * pl, rfl, by rw [List.length_set]; exact hlen, fun z hz => ?_, by omega, by omega, ?_, ?_, ?_⟩
      · rcases List.mem_or_eq_of_mem_set hz with h | h
        · exact hls z h
        · rw [h]; omega
      · rw [List.map_set]; exact upd_same
      · obtain ⟨c1, c2, c3, c4, c5⟩ := B3
        exact ⟨c1, c2, c3, by rw [upd_ne hlp.symm]; exact c4, c5.1, c5.2.1, by have := c5.2.2; omega⟩
      · intro b o nb hb
        rw [upd_ne (fun e => ?_)]
        · exact k3 b o nb (k2 b o nb hb)
        · rw [e] at hb
          have hh := s1 l _ hb
          rw [hh] at hl; cases hl
    · rintro σ H2 ⟨y5, y6, ls, left, rfl, hlen, hls, hl0, hl1, el, B2, k2⟩
      exact ⟨_, _, _, ls, left, rfl, hlen, hls, hl0, hl1, el, B2.le (by show m + 16 * t + 2 * 8 ≤ m + 16 * (t + 1); omega), k2⟩
  · rintro σ H1 ⟨y4, y5, y6, ls, left, rfl, hlen, hls, hl0, hl1, el, B1, k1⟩
    refine ⟨rfl, _, rfl, l, rfl, ⟨_, SqL.of el⟩, fun Dl hD => ?_⟩
    have hne : l ≠ Dl := ne_of_none el hD
    refine comp_list (K := K) (a := l) (xs := ls.map V.int) (by rw [List.length_map, hlen]; decide)
      (fun i ys H' => ∃ zs : List Str, ys = zs.map V.str ∧ zs.length = i ∧ (∀ z ∈ zs, ∃ c, z = ⟨#[c]⟩ ∧ letr c = true) ∧ H' = upd H1 Dl (.lst ys))
      ⟨[], rfl, rfl, (fun _ h => nomatch h), rfl⟩ ?_ ?_ ?_
    · rintro i ys H' ⟨zs, rfl, hz, _, rfl⟩
      exact ⟨by rw [List.length_map]; exact hz, SqL.of (by rw [upd_ne hne]; exact el)⟩
    · rintro i x ys H' hx ⟨zs, rfl, hz, hall, rfl⟩
      obtain ⟨z, hzm, rfl⟩ := List.mem_map.mp (List.mem_of_getElem? hx)
      obtain ⟨c, hc, hlc⟩ := alf_get (hls z hzm).1 (hls z hzm).2
      refine ⟨_, rfl, alf, z, c, rfl, rfl, by rw [alf_len]; decide, hc, upd_same, zs ++ [⟨#[c]⟩], by rw [List.map_append]; rfl, by rw [List.length_append, hz]; rfl, ?_, upd_upd⟩
      intro y hy
      rcases List.mem_append.mp hy with h | h
      · exact hall y h
      · rw [List.mem_singleton.mp h]; exact ⟨c, rfl, hlc⟩
    · rintro ys H' ⟨zs, rfl, hz, hall, rfl⟩
      rw [List.length_map, hlen] at hz
      have ones : ∀ l : List Str, (∀ z ∈ l, ∃ c, z = ⟨#[c]⟩ ∧ letr c = true) → (l.map (·.length)).sum = l.length ∧ (l.flatMap (·.cps.toList)).length = l.length ∧ (l.flatMap (·.cps.toList)).all letr = true := by
        intro l
        induction l with
        | nil => intro _; exact ⟨rfl, rfl, rfl⟩
        | cons z r ih =>
          intro h
          obtain ⟨c, rfl, hc⟩ := h z List.mem_cons_self
          obtain ⟨g1, g2, g3⟩ := ih fun y hy => h y (List.mem_cons_of_mem _ hy)
          refine ⟨?_, ?_, ?_⟩
          · rw [List.map_cons, List.sum_cons, g1, List.length_cons]; show 1 + _ = _; omega
          · have e0 : ((⟨#[c]⟩ : Str) :: r).flatMap (·.cps.toList) = c :: r.flatMap (·.cps.toList) := rfl
            rw [e0, List.length_cons, List.length_cons, g2]
          · rw [List.flatMap_cons, List.all_append, g3]; simp [hc]
      obtain ⟨g1, g2, g3⟩ := ones zs hall
      refine ⟨_, Dl, zs, rfl, rfl, SqL.of upd_same, ?_, q _ _ ?_ ?_ (B1.same (same_new hD _)) (k1.trans ((same_new hD _).kp p))⟩
      · rw [g1, hz]; decide
      · rw [str_len]; show (Txt.join (Str.ofString "") zs).cps.toList.length = 8; rw [join_codes, g2, hz]
      · show (Txt.join (Str.ofString "") zs).cps.toList.all letr = true; rw [join_codes]; exact g3
end
def InvN (p d : Addr) (m : Nat) (many way step low size first : Int) (H : Hp) (i : Nat) (σ : St) (H' : Hp) : Prop :=
  ∃ y8 y9 y10 y11 kvs, σ = [some (.ref p), some (.int many), some (.int way), some (.ref d), some (.int step), some (.int low), some (.int size), some (.int first), y8, y9, y10, y11] ∧ H' d = some (.dK kvs) ∧
    (∀ q ∈ kvs, ∃ x, q.1 = Sum.inr x ∧ NameOk x) ∧ (kvs.length ≤ i ∧ (1 ≤ i → kvs ≠ [])) ∧ BoxAt H' p (m + 5 + 40 * i) ∧ Kp p H H'
theorem InvN.put {p d : Addr} {m : Nat} {many way step low size first : Int} {H H1 : Hp} {i : Nat} {kvs : List (Key × V)} (x : Str) (y8 y9 y10 y11 : Option V) (hx : NameOk x) (hd : H1 d = some (.dK kvs)) (hk : ∀ q ∈ kvs, ∃ x, q.1 = Sum.inr x ∧ NameOk x) (hl : kvs.length ≤ i)
    (hB : BoxAt H1 p (m + 5 + 40 * i + 40)) (k : Kp p H H1) (hn : H d = none) (hdp : d ≠ p) :
    InvN p d m many way step low size first H (i + 1) [some (.ref p), some (.int many), some (.int way), some (.ref d), some (.int step), some (.int low), some (.int size), some (.int first), y8, y9, y10, y11] (upd H1 d (.dK (putK kvs (Sum.inr x) (.bl true)))) := by
  refine ⟨_, _, _, _, _, rfl, upd_same, fun q hq => ?_, ⟨Nat.le_trans putK_len (by omega), fun _ => putK_ne⟩, ?_, fun b o nb hb => ?_⟩
  · rcases putK_mem hq with e | ⟨r, hr, e⟩
    · exact ⟨x, e, hx⟩
    · obtain ⟨y, e2, hy⟩ := hk r hr
      exact ⟨y, e.trans e2, hy⟩
  · obtain ⟨c1, c2, c3, c4, c5, c6, c7⟩ := hB
    exact ⟨c1, c2, c3, by rw [upd_ne hdp.symm]; exact c4, c5, c6, by omega⟩
  · rw [upd_ne (ne_of_none hb hn)]; exact k b o nb hb
def a6 : Str := "abcdef"
theorem a6_len : a6.length = 6 := by decide +kernel
theorem a6_all : a6.cps.toList.all letr = true := by decide +kernel
theorem atI_memK {α : Type} {xs : List α} {r : Int} (h0 : 0 ≤ r) (h1 : r < (xs.length : Int)) : ∃ v, atI xs r = some v ∧ v ∈ xs := by
  have hk : r.toNat < xs.length := by omega
  have z : atI xs ((r.toNat : Nat) : Int) = some xs[r.toNat] := atI_nat (List.getElem?_eq_getElem hk)
  have e : ((r.toNat : Nat) : Int) = r := by omega
  rw [e] at z
  exact ⟨_, z, List.getElem_mem hk⟩
theorem sign_of {x : Str} {n : Nat} (hl : x.length = n) (ha : x.cps.toList.all letr = true) {r : Int} (h0 : 0 ≤ r) (h1 : r < n) : ∃ c, atI x.cps.toList r = some c ∧ letr c = true := by
  obtain ⟨c, hc, hm⟩ := atI_memK (xs := x.cps.toList) h0 (by rw [← str_len, hl]; exact h1)
  exact ⟨c, hc, List.all_eq_true.mp ha c hm⟩
theorem app_all {x : Str} {c : Nat} (h : x.cps.toList.all letr = true) (hc : letr c = true) : (x ++ (⟨#[c]⟩ : Str)).cps.toList.all letr = true := by
  rw [app_codes, List.all_append, h]
  show (true && (letr c && true)) = true
  rw [hc]; rfl
def slot9 (σ : List (Option V)) : Nat := match (σ[9]? : Option (Option V)) with
  | some (some (.int m)) => m.toNat
  | _ => 0
section
variable {P : Program} {w : World} {K : PySem.W.Frag} {mg : Str → Option Value} {base : Heap}
def spNames : Sp := fun vs H Q _ => ∃ (p : Addr) (m : Nat) (many : Int), vs = [.ref p, .int many] ∧ BoxAt H p m ∧ m ≤ 700000 ∧ 0 ≤ many ∧ many ≤ 50 ∧
  ∀ (l : Addr) (H' : Hp) (xs : List Str), H l = none → H' l = some (.lst (xs.map V.str)) → xs.length ≤ 50 → (1 ≤ many → xs ≠ []) → (∀ x ∈ xs, NameOk x) → BoxAt H' p (m + 3000) → Kp p H H' → Q (.ref l) H'
abbrev nNm : List Str := ["_law_box_here", "_law_many", "_law_way_here", "_law_found", "_law_step", "_law_low", "_law_size", "_law_first", "_law_k", "_law_number", "_law_letters", "_law_place"]
theorem scNm : FnScope nNm ["_law_box_here", "_law_many"] (defScope s_l_names) := ⟨rfl, rfl, rfl, by decide +kernel, rfl, by decide +kernel, by decide +kernel⟩
theorem ok_names {f : Addr} {fd : FuncData} (F : Fun K "_law_names" "_law_names" s_l_names f fd) (T : Txt K mg) (D1 : DTake P w K mg base) (DO : Def P w K mg base 2 "_law_of_mark" ["_law_box_here", "_law_own"] spOf) : FnOk P w K mg base CX0 3 f fd ["_law_box_here", "_law_many"] spNames := by
  refine F.ok scNm (fun vs H Q E h => ?_) (fun cdv A outer s H vs Q E hr h => ?_)
  · obtain ⟨p, m, many, rfl, _⟩ := h; rfl
  obtain ⟨p, m, many, rfl, hB, hm, hm0, hm1, q⟩ := h
  have D := D1.mono (show 1 ≤ 2 by decide)
  refine' ⟨?t, ?h, ?r⟩
  case h =>
    conv => arg 2; whnf
    with_reducible refine' pss_cons ?a1 (pss_cons ?a2 (pss_cons ?a3 (pss_cons (ps_for ?c0 ?c1 ?c2 ?c3 (pss_one (ps_if ?i0 (pss_cons ?b1 (pss_cons (ps_while ?w0 ?w1 (pss_cons ?w2 (pss_one ?w3))) (pss_one ?b3))) (pss_one (ps_if ?i1 (pss_cons ?e1 (pss_cons (ps_for ?d0 ?d1 ?d2 ?d3 (pss_one ?d5) ?d4) (pss_one ?e3))) (pss_one ?g1))))) ?c4) (pss_one ?a5))))
    case a1 => exact ps_par (i := 2) (j := 3) rfl scNm.nd rfl rfl (by decide) rfl rfl (pac (pe_d D hr (pac (pv 0) (pac pe_int pa_nil))) (pac pe_dnewK pa_nil)) rfl
    case a2 => exact ps_par (i := 4) (j := 5) rfl scNm.nd rfl rfl (by decide) rfl rfl (pac (pe_ix ix_list (pe_lst (pa1 pe_int (pa1 pe_int (pa1 pe_int (pa1 pe_int pa_nil rfl) rfl) rfl) rfl)) (pe_d D hr (pac (pv 0) (pac pe_int pa_nil))) (fun _ _ => rfl)) (pac (pe_op op_add pe_int (pe_d D hr (pac (pv 0) (pac pe_int pa_nil)))) pa_nil)) rfl
    case a3 => exact ps_par (i := 6) (j := 7) rfl scNm.nd rfl rfl (by decide) rfl rfl (pac (pe_op op_add pe_int (pe_d D hr (pac (pv 0) (pac pe_int pa_nil)))) (pac (pe_d D hr (pac (pv 0) (pac pe_int pa_nil))) pa_nil)) rfl
    case c0 => exact PassesOwn.never
    case c1 => exact rfl
    case c2 => exact pi_range1 rfl T.range (pac (pv 1) pa_nil)
    case c3 => exact pg_name (i := 8) scNm.nd rfl (Or.inl rfl)
    case c4 => exact fun _ => rfl
    case i0 => exact pt_cmpR op_eq (pv 2) pe_int (nomark _)
    case b1 => exact ps_par (i := 9) (j := 10) rfl scNm.nd rfl rfl (by decide) rfl rfl (pac (pe_op op_add pe_int (pe_d D hr (pac (pv 0) (pac (pe_op op_shr (pe_op op_pow pe_int pe_int) (pe_op op_mul pe_int (pe_d D hr (pac (pv 0) (pac pe_int pa_nil))))) pa_nil)))) (pac pe_str pa_nil)) rfl
    case w0 => exact PassesOwn.never
    case w1 => exact PW.pt (pw_and (pt_cmpR op_gt (pv 9) pe_int (nomark _)) (pw_and1 (pt_cmpR op_lt (pe_callB call_len_str rfl T.len PySem.boot_len (pac (pv 10) pa_nil)) pe_int (nomark _))))
    case w2 => exact ps_set (i := 10) scNm.nd rfl (Or.inl rfl) (pe_op op_add_str (pv 10) (pe_ix ix_str pe_str (pe_op op_mod (pv 9) pe_int) (fun _ _ => rfl)))
    case w3 => exact ps_set (i := 9) scNm.nd rfl (Or.inl rfl) (pe_op op_fdiv (pv 9) pe_int)
    case b3 => exact ps_dput (hu_of hr) (pv 3) (pv 10) pe_bl rfl
    case i1 => exact pt_cmpR op_eq (pv 2) pe_int (nomark _)
    case e1 => exact ps_par (i := 9) (j := 10) rfl scNm.nd rfl rfl (by decide) rfl rfl (pac (pe_op op_mod (pe_op op_add (pv 7) (pe_op op_mul pe_int (pv 8))) pe_int) (pac pe_str pa_nil)) rfl
    case d0 => exact PassesOwn.never
    case d1 => exact rfl
    case d2 => exact pi_range1 rfl T.range (pac (pv 6) pa_nil)
    case d3 => exact pg_name (i := 11) scNm.nd rfl (Or.inl rfl)
    case d4 => exact fun _ => rfl
    case d5 => exact ps_par (i := 10) (j := 9) rfl scNm.nd rfl rfl (by decide) rfl rfl (pac (pe_op op_add_str (pv 10) (pe_ix ix_str pe_str (pe_op op_mod (pv 9) pe_int) (fun _ _ => rfl))) (pac (pe_op op_fdiv (pv 9) pe_int) pa_nil)) rfl
    case e3 => exact ps_dput (hu_of hr) (pv 3) (pv 10) pe_bl rfl
    case g1 => exact ps_dput (hu_of hr) (pv 3) (pe_d DO hr (pac (pv 0) (pac (pe_op op_add (pv 5) (pe_op op_mul (pv 4) (pe_d D hr (pac (pv 0) (pac (pe_op op_add pe_int (pe_op op_fdiv (pe_op op_sub pe_int (pv 5)) (pv 4))) pa_nil))))) pa_nil))) pe_bl rfl
    case a5 => exact ps_ret (pe_callTy (call_list_dict rfl) rfl T.list (by decide +kernel) (pac (pv 3) pa_nil))
  refine ⟨_, rfl, p, m, 4, rfl, hB, by omega, by decide, by decide, fun way H1 a0 a1 B1 k1 => fun d hd => ⟨_, _, rfl, ?_⟩⟩
  have hdp : d ≠ p := fun e => by obtain ⟨_, _, _, z, _⟩ := B1; rw [e, z] at hd; cases hd
  have hdn : H d = none := by
    cases e : H d with
    | none => rfl
    | some o => have := k1 d o hdp e; rw [this] at hd; cases hd
  have ed1 : upd H1 d (.dK []) d = some (.dK []) := upd_same
  have Bd := B1.same (same_new hd (.dK []))
  have kd : Kp p H _ := k1.trans ((same_new hd (.dK [])).kp p)
  generalize upd H1 d (.dK []) = H1' at *
  refine ⟨(by show 4 ≤ sizeLine; decide), fun a ha => ?_⟩
  have hap : a ≠ p := fun e => by obtain ⟨_, _, _, z, _⟩ := Bd; rw [e, z] at ha; cases ha
  refine ⟨_, rfl, p, m + 1, 4, rfl, Bd.same (same_new ha _), by omega, by decide, by decide, fun r2 H2 b0 b1 B2 k2 => ?_⟩
  obtain ⟨v, hv, hmem⟩ := atI_memK (xs := ([.int 4, .int 16, .int 64, .int 256] : List V)) b0 b1
  obtain ⟨step, rfl, hs1, hs2⟩ : ∃ st : Int, v = .int st ∧ 4 ≤ st ∧ st ≤ 256 := by
    simp only [List.mem_cons, List.not_mem_nil, or_false] at hmem
    rcases hmem with rfl | rfl | rfl | rfl
    · exact ⟨4, rfl, by decide, by decide⟩
    · exact ⟨16, rfl, by decide, by decide⟩
    · exact ⟨64, rfl, by decide, by decide⟩
    · exact ⟨256, rfl, by decide, by decide⟩
  refine ⟨a, _, _, _, rfl, rfl, SqL.of (k2 a _ hap upd_same), hv, _, rfl, p, m + 2, 256, rfl, B2, by omega, by decide, by decide, fun r3 H3 c0 c1 B3 k3 => ⟨_, _, rfl, rfl, _, _, rfl, ?_⟩⟩
  refine ⟨_, rfl, p, m + 3, 3, rfl, B3, by omega, by decide, by decide, fun r4 H4 d0 d1 B4 k4 => ⟨_, _, rfl, rfl, _, rfl, p, m + 4, 1296, rfl, B4, by omega, by decide, by decide, fun first H5 e0 e1 B5 k5 => ⟨_, _, rfl, ?_⟩⟩⟩
  have hlow : 36 ≤ 36 + r3 ∧ 36 + r3 ≤ 291 := by omega
  have hsize : 3 ≤ 3 + r4 ∧ 3 + r4 ≤ 5 := by omega
  have K5 : Kp p H H5 := ((((kd.trans ((same_new ha _).kp p)).trans k2).trans k3).trans k4).trans k5
  have ed5 : H5 d = some (.dK []) := k5 d _ hdp (k4 d _ hdp (k3 d _ hdp (k2 d _ hdp (same_new ha _ d _ ed1))))
  refine ⟨_, rfl, many, rfl, by omega, by omega, ?_⟩
  refine for_range (InvN p d m many way step (36 + r3) (3 + r4) first H) ⟨_, _, _, _, [], rfl, ed5, (fun _ h => nomatch h), ⟨Nat.le_refl _, fun z => absurd z (by decide)⟩, B5.le (by omega), K5⟩ ?_ ?_
  · rintro i σ H6 hi ⟨y8, y9, y10, y11, kvs, rfl, ed, hk, ⟨hl, _⟩, B6, k6⟩
    have hi50 : i < 50 := by omega
    have hkl : kvs.length < sizeLine := Nat.lt_of_le_of_lt (show kvs.length ≤ 50 by omega) (by decide)
    refine ⟨_, rfl, rfl, _, rfl, ite2 (fun cw => ?_) (fun cw => ?_)⟩
    · -- any letters
      refine ⟨_, rfl, _, _, rfl, rfl, ⟨by decide, by decide, by decide⟩, _, rfl, p, _, 18, rfl, B6, by omega, by decide, by decide, fun r7 H7 f0 f1 B7 k7 => ?_⟩
      refine ⟨_, _, rfl, rfl, .inl ⟨by decide, by decide⟩, _, _, rfl, rfl, (by show (0 : Int) ≤ 2 * r7; omega), p, _, _, rfl, B7, by omega, ?_, ?_, fun r8 H8 g0 g1 B8 k8 => ⟨_, _, rfl, rfl, _, _, rfl, ?_⟩⟩
      · obtain ⟨k, hk1, hk2⟩ : ∃ k : Nat, (2 * r7).toNat = k ∧ k ≤ 34 := ⟨_, rfl, by omega⟩
        show (0 : Int) < 26 ^ (8 : Int).toNat / 2 ^ (2 * r7).toNat
        rw [hk1]
        have h1 : (2 ^ k : Nat) ≤ 2 ^ 34 := Nat.pow_le_pow_right (by decide) hk2
        have h2 : 0 < (2 ^ k : Nat) := Nat.pow_pos (by decide)
        have h3 : ((2 : Int) ^ k) = ((2 ^ k : Nat) : Int) := by push_cast; rfl
        have h4 : (26 : Int) ^ (8 : Int).toNat = 208827064576 := by decide
        rw [h3, h4]
        generalize (2 ^ k : Nat) = z at *
        have := Int.le_ediv_of_mul_le (show (0 : Int) < z by omega) (show 1 * (z : Int) ≤ 208827064576 by omega)
        omega
      · show (26 : Int) ^ (8 : Int).toNat / 2 ^ (2 * r7).toNat < 4611686018427387904
        have h4 : (26 : Int) ^ (8 : Int).toNat = 208827064576 := by decide
        have h5 : (0 : Int) < 2 ^ (2 * r7).toNat := Int.pow_pos (by decide)
        rw [h4]
        have := Int.ediv_le_self (b := (2 : Int) ^ (2 * r7).toNat) (show (0 : Int) ≤ 208827064576 by decide)
        omega
      have ed8 := k8 d _ hdp (k7 d _ hdp ed)
      refine while_by (fun σ H' => ∃ (nn : Int) (x : Str), σ = [some (.ref p), some (.int many), some (.int way), some (.ref d), some (.int step), some (.int (36 + r3)), some (.int (3 + r4)), some (.int first), some (.int (0 + (i : Int))), some (.int nn), some (.str x), y11] ∧ H' = H8 ∧ 0 ≤ nn ∧ x.length ≤ 8 ∧ x.cps.toList.all letr = true ∧ (x.length = 0 → 0 < nn)) (fun σ _ => slot9 σ)
        ⟨1 + r8, Str.ofString "", rfl, rfl, by omega, by decide, by decide +kernel, fun _ => by omega⟩ ?_ ?_
      · rintro σ H9 ⟨nn, x, rfl, rfl, hn0, hx8, hxa, hxn⟩
        have hfin : 1 ≤ x.length → InvN p d m many way step (36 + r3) (3 + r4) first H (i + 1) [some (.ref p), some (.int many), some (.int way), some (.ref d), some (.int step), some (.int (36 + r3)), some (.int (3 + r4)), some (.int first), some (.int (0 + (i : Int))), some (.int nn), some (.str x), y11] (upd H9 d (.dK (putK kvs (Sum.inr x) (.bl true)))) := fun h1 =>
          InvN.put x _ _ _ _ ⟨h1, hx8, hxa⟩ ed8 hk hl (B8.le (by omega)) ((k6.trans k7).trans k8) hdn hdp
        refine ⟨_, rfl, _, _, rfl, rfl, _, rfl, ite2 (fun c1 => ?_) (fun c1 => iteF ⟨_, rfl, _, rfl, d, _, rfl, DPut.k (k := Sum.inr x) ed8 hkl, hfin ?_⟩)⟩
        · have hpos : 0 < nn := of_decide_eq_true c1
          refine ⟨_, rfl, x, rfl, len1 (by omega), _, _, rfl, rfl, _, rfl, ite2 (fun c2 => ?_) (fun c2 => ⟨_, rfl, _, rfl, d, _, rfl, DPut.k (k := Sum.inr x) ed8 hkl, hfin ?_⟩)⟩
          · have hx7 : (x.length : Int) < 8 := of_decide_eq_true c2
            obtain ⟨c, hc, hcl⟩ := sign_of a26_len a26_all (r := nn % 26) (Int.emod_nonneg _ (by decide)) (Int.emod_lt_of_pos _ (by decide))
            refine ⟨_, rfl, _, rfl, _, _, rfl, rfl, (by show (0 : Int) < 26; decide), a26, _, c, rfl, rfl, by rw [a26_len]; decide, hc, _, _, rfl, rfl, by rw [one_len]; exact len1 (by omega), ?_⟩
            refine ⟨_, rfl, _, _, rfl, rfl, ⟨by decide, by decide⟩, ⟨nn / 26, x ++ ⟨#[c]⟩, rfl, rfl, Int.ediv_nonneg hn0 (by decide), by rw [app_len, one_len]; omega, app_all hxa hcl, fun z => by rw [app_len, one_len] at z; omega⟩, ?_⟩
            show (nn / 26).toNat < nn.toNat
            omega
          · have : ¬ ((x.length : Int) < 8) := fun z => c2 (decide_eq_true z)
            omega
        · have : ¬ (0 < nn) := fun z => c1 (decide_eq_true z)
          rcases Nat.eq_zero_or_pos x.length with z | z
          · have := hxn z; omega
          · exact z
      · rintro σ H9 Q1 Q2 hq ⟨v, e, i1, j1, e1, e2, c, e3, h⟩
        refine ⟨v, e, i1, j1, e1, e2, c, e3, ?_⟩
        cases c with
        | true =>
          obtain ⟨v2, f1, z, f2, f3, i2, j2, f4, f5, c2, f6, h2⟩ := (show _ from h)
          exact iteT ⟨v2, f1, z, f2, f3, i2, j2, f4, f5, c2, f6, hq _ _ h2⟩
        | false => exact iteF (hq _ _ (show Q1 false H9 from h))
    · refine ⟨_, rfl, rfl, _, rfl, ite2 (fun cw2 => ?_) (fun cw2 => ?_)⟩
      · -- few letters
        refine ⟨_, rfl, _, rfl, _, _, rfl, rfl, .inl ⟨by decide, by decide⟩, _, _, rfl, rfl, _, _, rfl, rfl, (by show (0 : Int) < 1296; decide), _, _, rfl, ?_⟩
        refine ⟨_, rfl, 3 + r4, rfl, by omega, by omega, ?_⟩
        refine for_range (fun j σ H' => ∃ (nn : Int) (x : Str) (y : Option V), σ = [some (.ref p), some (.int many), some (.int way), some (.ref d), some (.int step), some (.int (36 + r3)), some (.int (3 + r4)), some (.int first), some (.int (0 + (i : Int))), some (.int nn), some (.str x), y] ∧ H' = H6 ∧ x.length = j ∧ x.cps.toList.all letr = true)
          ⟨_, Str.ofString "", _, rfl, rfl, by decide, by decide +kernel⟩ ?_ ?_
        · rintro j σ H7 hj ⟨nn, x, y, rfl, rfl, hxl, hxa⟩
          have hj5 : j < 5 := by omega
          obtain ⟨c, hc, hcl⟩ := sign_of a6_len a6_all (r := nn % 6) (Int.emod_nonneg _ (by decide)) (Int.emod_lt_of_pos _ (by decide))
          refine ⟨_, rfl, _, rfl, _, _, rfl, rfl, (by show (0 : Int) < 6; decide), a6, _, c, rfl, rfl, by rw [a6_len]; decide, hc, _, _, rfl, rfl, by rw [one_len]; exact len1 (by omega), ?_⟩
          exact ⟨_, rfl, _, _, rfl, rfl, ⟨by decide, by decide⟩, _, _, rfl, nn / 6, x ++ ⟨#[c]⟩, _, rfl, rfl, by rw [app_len, one_len, hxl], app_all hxa hcl⟩
        · rintro σ H7 ⟨nn, x, y, rfl, rfl, hxl, hxa⟩
          have hx3 : 3 ≤ x.length ∧ x.length ≤ 5 := by omega
          exact ⟨_, rfl, _, rfl, d, _, rfl, DPut.k (k := Sum.inr x) ed hkl, InvN.put x _ _ _ _ ⟨by omega, by omega, hxa⟩ ed hk hl (B6.le (by omega)) k6 hdn hdp⟩
      · -- of a mark
        have hst : 0 < step := by omega
        have hq0 : 0 ≤ (936 - (36 + r3)) / step := Int.ediv_nonneg (by omega) (by omega)
        have hq1 : (936 - (36 + r3)) / step * step ≤ 936 - (36 + r3) := Int.ediv_mul_le _ (by omega)
        have hq2 : (936 - (36 + r3)) / step ≤ 936 := Int.le_trans (Int.ediv_le_self _ (by omega)) (by omega)
        refine ⟨_, rfl, _, rfl, _, rfl, _, rfl, _, rfl, _, rfl, _, _, rfl, rfl, _, rfl, _, _, rfl, rfl, ⟨by omega, by omega⟩, _, _, rfl, rfl, p, _, _, rfl, B6, by omega, ?_, ?_, fun r7 H7 f0 f1 B7 k7 => ?_⟩
        · show (0 : Int) < 1 + (936 - (36 + r3)) / step; omega
        · show 1 + (936 - (36 + r3)) / step < 4611686018427387904; omega
        have f1' : r7 ≤ (936 - (36 + r3)) / step := by
          have : r7 < 1 + (936 - (36 + r3)) / step := f1
          omega
        have hown1 : step * r7 ≤ 936 - (36 + r3) := by
          rw [Int.mul_comm]
          exact Int.le_trans (Int.mul_le_mul_of_nonneg_right f1' (by omega)) hq1
        have hown0 : 0 ≤ step * r7 := Int.mul_nonneg (by omega) f0
        refine ⟨_, _, rfl, rfl, .inl ⟨by omega, by omega⟩, _, _, rfl, rfl, p, _, _, rfl, B7, by omega, by omega, by omega, fun x H8 hx8 hxa B8 k8 => ?_⟩
        have ed8 := k8 d _ hdp (k7 d _ hdp ed)
        exact ⟨d, _, rfl, DPut.k (k := Sum.inr x) ed8 hkl, InvN.put x _ _ _ _ ⟨by omega, by omega, hxa⟩ ed8 hk hl (B8.le (by omega)) ((k6.trans k7).trans k8) hdn hdp⟩
  · rintro σ H6 ⟨y8, y9, y10, y11, kvs, rfl, ed, hk, ⟨hl, hne⟩, B6, k6⟩
    have hn50 : many.toNat ≤ 50 := by omega
    refine ⟨_, rfl, d, kvs, rfl, ed, fun l hl' => ?_⟩
    have keys : ∀ kvs : List (Key × V), (∀ q ∈ kvs, ∃ x, q.1 = Sum.inr x ∧ NameOk x) → ∃ xs : List Str, (kvs.map fun q => kV q.1) = xs.map V.str ∧ xs.length = kvs.length ∧ ∀ x ∈ xs, NameOk x := by
      intro kvs
      induction kvs with
      | nil => intro _; exact ⟨[], rfl, rfl, fun _ h => nomatch h⟩
      | cons q r ih =>
        intro h
        obtain ⟨x, e, hx⟩ := h q List.mem_cons_self
        obtain ⟨xs, e1, e2, e3⟩ := ih fun z hz => h z (List.mem_cons_of_mem _ hz)
        refine ⟨x :: xs, ?_, by rw [List.length_cons, List.length_cons, e2], fun y hy => ?_⟩
        · rw [List.map_cons, List.map_cons, e1, e]; rfl
        · rcases List.mem_cons.mp hy with z | z
          · rw [z]; exact hx
          · exact e3 y z
    obtain ⟨xs, e1, e2, e3⟩ := keys kvs hk
    have hlp : l ≠ p := fun z => by obtain ⟨_, _, _, y, _⟩ := B6; rw [z, y] at hl'; cases hl'
    have hlf : H l = none := by
      cases e : H l with
      | none => rfl
      | some o => rw [k6 l o hlp e] at hl'; cases hl'
    exact q l _ xs hlf (by rw [← e1]; exact upd_same) (by omega) (fun h1 z => hne (by omega) (by rw [z] at e2; exact List.length_eq_zero_iff.mp e2.symm)) e3 ((B6.same (same_new hl' _)).le (by omega)) (k6.trans ((same_new hl' _).kp p))
end
end K6
set_option maxHeartbeats 4000000
namespace K6
open PySem L2
section
variable {P : Program} {w : World} {K : PySem.W.Frag} {mg : Str → Option Value} {base : Heap}
abbrev vSigns : Str := litOf (defBody s_l_value)
theorem vs_len : vSigns.length = 94 := by decide +kernel
theorem vs_all : vSigns.cps.toList.all sgn = true := by decide +kernel
abbrev nVv : List Str := ["_law_box_here", "_law_way_here", "_law_signs"]
theorem scVal : FnScope nVv ["_law_box_here"] (defScope s_l_value) := ⟨rfl, rfl, rfl, by decide +kernel, rfl, by decide +kernel, by decide +kernel⟩
theorem ok_value {f : Addr} {fd : FuncData} (F : Fun K "_law_value" "_law_value" s_l_value f fd) (T : Txt K mg) (D : DTake P w K mg base) : FnOk P w K mg base CX0 2 f fd ["_law_box_here"] spValue := by
  refine F.ok scVal (fun vs H Q E h => ?_) (fun cdv A outer s H vs Q E hr h => ?_)
  · obtain ⟨p, n, rfl, _⟩ := h; rfl
  obtain ⟨p, n, rfl, hB, hn, q⟩ := h
  refine ⟨_, pss_cons (ps_set (i := 1) scVal.nd rfl (Or.inl rfl) (pe_d D hr (pac (pv 0) (pac pe_int pa_nil))))
    (pss_cons (ps_if (pt_cmpR op_lt (pv 1) pe_int (nomark _)) (pss_one (ps_ret (pe_op op_sub (pe_d D hr (pac (pv 0) (pac pe_int pa_nil))) pe_int))) pss_nil)
    (pss_cons (ps_if (pt_cmpR op_eq (pv 1) pe_int (nomark _)) (pss_one (ps_ret (pe_ix ix_list (pe_lst (pa1 (pe_op op_sub (pe_op op_pow pe_int pe_int) pe_int) (pa1 (pe_op op_sub pe_int (pe_op op_pow pe_int pe_int)) (pa1 (pe_op op_pow pe_int pe_int) (pa1 pe_int pa_nil rfl) rfl) rfl) rfl)) (pe_d D hr (pac (pv 0) (pac pe_int pa_nil))) (fun _ _ => rfl)))) pss_nil)
    (pss_cons (ps_if (pt_cmpR op_eq (pv 1) pe_int (nomark _)) (pss_one (ps_ret (pe_ix ix_list (pe_lst (pa1 pe_str (pa1 pe_str (pa1 pe_str (pa1 pe_str (pa1 pe_str (pa1 pe_str (pa1 pe_str (pa1 pe_str pa_nil rfl) rfl) rfl) rfl) rfl) rfl) rfl) rfl)) (pe_d D hr (pac (pv 0) (pac pe_int pa_nil))) (fun _ _ => rfl)))) pss_nil)
    (pss_cons (ps_set (i := 2) scVal.nd rfl (Or.inr rfl) pe_str)
    (pss_one (ps_ret (pe_bm PySem.F.plainAttrs_str PySem.F.slot_str_join PySem.F.type_str_join mt_join pe_str (pac (pe_comp (CompOk.of nVv s_l_value rfl rfl (by decide +kernel)) rfl
      (pi_range1 rfl T.range (pac (pe_d D hr (pac (pv 0) (pac (pe_ifExp (pt_cmpR op_eq (pv 1) pe_int (nomark _)) pe_int pe_int) pa_nil))) pa_nil))
      (fun _ _ _ _ _ => pe_ix ix_str (pv 2) (pe_d D hr (pac (pv 0) (pac (pe_callB (call_lenK (K := K) rfl) rfl T.len PySem.boot_len (pac (pv 2) pa_nil)) pa_nil))) (fun _ _ => rfl))) pa_nil)))))))), ?_⟩
  refine ⟨_, rfl, p, n, 6, rfl, hB, by omega, by decide, by decide, fun r1 H1 a0 a1 B1 k1 => ?_⟩
  refine ⟨_, rfl, _, _, rfl, rfl, _, rfl, ite2 (fun c => ?_) (fun c => ?_)⟩
  · refine ⟨_, rfl, p, n + 1, 7, rfl, B1, by omega, by decide, by decide, fun r2 H2 b0 b1 B2 k2 => ⟨_, _, rfl, rfl, ?_⟩⟩
    exact q _ _ (by show (r2 - 3).natAbs ≤ 10 ^ 31; omega) (B2.le (by omega)) (k1.trans k2)
  refine ⟨_, rfl, rfl, _, rfl, ite2 (fun c2 => ?_) (fun c2 => ?_)⟩
  · refine ⟨_, _, rfl, rfl, ⟨by decide, by decide, by decide⟩, _, _, rfl, rfl, _, _, rfl, rfl, ⟨by decide, by decide, by decide⟩, _, _, rfl, rfl, _, _, rfl, rfl, ⟨by decide, by decide, by decide⟩, (by show 4 ≤ sizeLine; decide), fun l hl => ?_⟩
    have hne : l ≠ p := fun e => by obtain ⟨_, _, _, z, _⟩ := B1; rw [e, z] at hl; cases hl
    refine ⟨_, rfl, p, n + 1, 4, rfl, B1.same (same_new hl _), by omega, by decide, by decide, fun r2 H2 b0 b1 B2 k2 => ?_⟩
    obtain ⟨v, hv, hm⟩ := atI_mem (xs := ([.int (10 ^ (30 : Int).toNat - 1), .int (1 - 10 ^ (30 : Int).toNat), .int (10 ^ (29 : Int).toNat), .int 0] : List V)) b0 b1
    refine ⟨l, _, _, v, rfl, rfl, SqL.of (k2 l _ hne upd_same), hv, q _ _ ?_ (B2.le (by omega)) (k1.trans ((same_new hl _).kp p |>.trans k2))⟩
    have all : (([.int (10 ^ (30 : Int).toNat - 1), .int (1 - 10 ^ (30 : Int).toNat), .int (10 ^ (29 : Int).toNat), .int 0] : List V)).all valOk = true := by decide +kernel
    exact isVal_of (List.all_eq_true.mp all v hm)
  refine ⟨_, rfl, rfl, _, rfl, ite2 (fun c3 => ?_) (fun c3 => ?_)⟩
  · refine ⟨(by show 8 ≤ sizeLine; decide), fun l hl => ?_⟩
    have hne : l ≠ p := fun e => by obtain ⟨_, _, _, z, _⟩ := B1; rw [e, z] at hl; cases hl
    refine ⟨_, rfl, p, n + 1, 8, rfl, B1.same (same_new hl _), by omega, by decide, by decide, fun r2 H2 b0 b1 B2 k2 => ?_⟩
    obtain ⟨v, hv, hm⟩ := atI_mem (xs := ([.str "", .str "0", .str "-1", .str "a", .str "none", .str "'", .str "\\", .str " "] : List V)) b0 b1
    refine ⟨l, _, _, v, rfl, rfl, SqL.of (k2 l _ hne upd_same), hv, q _ _ ?_ (B2.le (by omega)) (k1.trans ((same_new hl _).kp p |>.trans k2))⟩
    have all : (([.str "", .str "0", .str "-1", .str "a", .str "none", .str "'", .str "\\", .str " "] : List V)).all valOk = true := by decide +kernel
    exact isVal_of (List.all_eq_true.mp all v hm)
  refine ⟨rfl, ?_⟩
  have fin : ∀ (r2 : Int) (H2 : Hp), 0 ≤ r2 → r2 < 41 → BoxAt H2 p (n + 2) → Kp p H1 H2 → ∃ j : Int, [V.int r2] = [.int j] ∧ -(2 ^ 62) ≤ j ∧ j < 2 ^ 62 ∧ ∀ D, H2 D = none → CompW (Itr 0 j.toNat)
      (tOp rIxS (tVar 2) (tCall (spTake 4611686018427387904) [] E0 (tCons (tVar 0) (tCons (tCB (fun xs H Q => ∃ x n, xs = [x] ∧ LenV K x H n ∧ Q (.int n) H) (tCons (tVar 2) tNil)) tNil))))
      [some (.ref p), some (.int r1), some (.str vSigns)] D (fun x H3 => ∃ sep a ys, V.str "" = .str sep ∧ [x] = [.ref a] ∧ SqL K H3 a (ys.map V.str) ∧ (ys.map (·.length)).sum + ys.length * sep.length ≤ 16777216 ∧ Q (.str (Txt.join sep ys)) H3) H2 := by
    intro r2 H2 b0 b1 B2 k2
    refine ⟨r2, rfl, by omega, by omega, fun Dl hD => ?_⟩
    have hne : Dl ≠ p := fun e => by obtain ⟨_, _, _, z, _⟩ := B2; rw [e, z] at hD; cases hD
    refine comp_range (Nat.le_trans (show r2.toNat ≤ 1000 by omega) (len1 (Nat.le_refl _)))
      (fun i ys H' => ∃ zs : List Str, ys = zs.map V.str ∧ zs.length = i ∧ (∀ z ∈ zs, ∃ c, z = ⟨#[c]⟩ ∧ sgn c = true) ∧ H' Dl = some (.lst ys) ∧ BoxAt H' p (n + 2 + i) ∧ Kp p H1 H' ∧ i ≤ r2.toNat)
      ⟨[], rfl, rfl, (fun _ h => nomatch h), upd_same, B2.same (same_new hD _), k2.trans ((same_new hD _).kp p), Nat.zero_le _⟩ ?_ ?_ ?_
    · rintro i ys H' ⟨zs, rfl, hz, _⟩; rw [List.length_map]; exact hz
    · rintro i ys H' hi ⟨zs, rfl, hz, hall, hDl, B', k', _⟩
      refine ⟨_, rfl, _, rfl, _, rfl, _, 94, rfl, ⟨by rw [vs_len]; decide, vs_len.symm⟩, p, n + 2 + i, 94, rfl, B', by omega, by decide, by decide, fun r3 H3 d0 d1 B3 k3 => ?_⟩
      have hl : vSigns.cps.toList.length = 94 := by rw [← str_len]; exact vs_len
      obtain ⟨c, hc, hm⟩ := atI_mem (xs := vSigns.cps.toList) d0 (by rw [hl]; exact d1)
      refine ⟨vSigns, r3, c, rfl, rfl, (by rw [vs_len]; decide), hc, k3 Dl _ hne hDl, zs ++ [⟨#[c]⟩], by rw [List.map_append]; rfl, by rw [List.length_append, hz]; rfl, ?_, upd_same, ?_, fun b o nb e => ?_, hi⟩
      · intro z hz'
        rcases List.mem_append.mp hz' with h | h
        · exact hall z h
        · rw [List.mem_singleton.mp h]; exact ⟨c, rfl, List.all_eq_true.mp vs_all c hm⟩
      · obtain ⟨x1, x2, x3, x4, x5⟩ := B3
        exact ⟨x1, x2, x3, by rw [upd_ne hne.symm]; exact x4, x5⟩
      · rw [upd_ne (ne_of_none (k2 b o nb e) hD)]; exact k3 b o nb (k' b o nb e)
    · rintro ys H' ⟨zs, rfl, hz, hall, hDl, B', k', _⟩
      have ones : ∀ l : List Str, (∀ z ∈ l, ∃ c, z = ⟨#[c]⟩ ∧ sgn c = true) → (l.map (·.length)).sum = l.length ∧ (l.flatMap (·.cps.toList)).length = l.length ∧ (l.flatMap (·.cps.toList)).all sgn = true := by
        intro l
        induction l with
        | nil => intro _; exact ⟨rfl, rfl, rfl⟩
        | cons z r ih =>
          intro h
          obtain ⟨c, rfl, hc⟩ := h z List.mem_cons_self
          obtain ⟨g1, g2, g3⟩ := ih fun y hy => h y (List.mem_cons_of_mem _ hy)
          refine ⟨?_, ?_, ?_⟩
          · rw [List.map_cons, List.sum_cons, g1, List.length_cons]; show 1 + _ = _; omega
          · have e0 : ((⟨#[c]⟩ : Str) :: r).flatMap (·.cps.toList) = c :: r.flatMap (·.cps.toList) := rfl
            rw [e0, List.length_cons, List.length_cons, g2]
          · rw [List.flatMap_cons, List.all_append, g3]; simp [hc]
      obtain ⟨g1, g2, g3⟩ := ones zs hall
      refine ⟨_, Dl, zs, rfl, rfl, SqL.of hDl, ?_, q _ _ ⟨?_, ?_⟩ (B'.le (by omega)) (k1.trans k')⟩
      · rw [g1]; show _ + _ * 0 ≤ _; omega
      · rw [str_len]; show (Txt.join (Str.ofString "") zs).cps.toList.length ≤ 41; rw [join_codes, g2]; omega
      · show (Txt.join (Str.ofString "") zs).cps.toList.all sgn = true; rw [join_codes]; exact g3
  refine ⟨_, rfl, _, rfl, rfl, _, rfl, ite2 (fun c4 => ?_) (fun c4 => ?_)⟩
  · exact ⟨p, n + 1, 4, rfl, B1, by omega, by decide, by decide, fun r2 H2 b0 b1 B2 k2 => fin r2 H2 b0 (by omega) B2 k2⟩
  · exact ⟨p, n + 1, 41, rfl, B1, by omega, by decide, by decide, fun r2 H2 b0 b1 B2 k2 => fin r2 H2 b0 (by omega) B2 k2⟩
end
end K6
set_option maxHeartbeats 2000000
namespace L2
open PySem
def Sto (K : PySem.W.Frag) (C : Addr) (nds : List Nd) (tabs : List (Key × V)) : Res := fun st h => nds[0]? = some .bare ∧ ∃ ln dt, StoreAt K C st ln dt h nds tabs
def LamR (lp : Pos) (q : Str) : Res := fun Pl h => LamAt h Pl lp q
instance {K : PySem.W.Frag} {C : Addr} {nds : List Nd} {tabs : List (Key × V)} : Up (Sto K C nds tabs) := ⟨fun ⟨h0, ln, dt, h⟩ s => ⟨h0, ln, dt, h.keep s⟩⟩
theorem LamAt.same' {H H' : Hp} {Pl : Addr} {lp : Pos} {q : Str} (h : LamAt H Pl lp q) (s : Same H H') : LamAt H' Pl lp q := by
  rcases h with h | ⟨c, h1, h2⟩
  · exact .inl (s _ _ h)
  · exact .inr ⟨c, s _ _ h1, s _ _ h2⟩
instance {lp : Pos} {q : Str} : Up (LamR lp q) := ⟨fun h s => LamAt.same' h s⟩
def some_of (H : Hp) (L : List Addr) : Hp := fun b => if b ∈ L then H b else match H b with
  | some o => if mutO o = true then none else some o
  | none => none
theorem some_le {H : Hp} {L : List Addr} : Same (some_of H L) H := fun b o e => by
  unfold some_of at e
  split at e
  · exact e
  · split at e
    · rename_i o' h'
      split at e
      · cases e
      · cases e; exact h'
    · cases e
theorem some_in {H : Hp} {L : List Addr} {b : Addr} (h : b ∈ L) : some_of H L b = H b := by unfold some_of; rw [if_pos h]
theorem some_im {H : Hp} {L : List Addr} {b : Addr} {o : HO} (e : H b = some o) (m : mutO o = false) : some_of H L b = some o := by
  unfold some_of
  split
  · exact e
  · simp only [e, m, Bool.false_eq_true, if_false]
theorem some_mut {H : Hp} {L : List Addr} {b : Addr} {o : HO} (e : some_of H L b = some o) (m : mutO o = true) : b ∈ L := by
  unfold some_of at e
  split at e
  · assumption
  · split at e
    · split at e
      · cases e
      · rename_i h; cases e; exact absurd m h
    · cases e
theorem some_tf {H : Hp} {L : List Addr} : TF H (some_of H L) := ⟨fun b xs e => some_im e rfl, fun b o u e => some_im e rfl⟩
theorem Sep.stoLam {K : PySem.W.Frag} {C st Pl : Addr} {lp : Pos} {q : Str} {nds : List Nd} {tabs : List (Key × V)} {Δ : Rs} {H : Hp} (S : Sep ((st, Sto K C nds tabs) :: (Pl, LamR lp q) :: Δ) H) :
    ∃ ln dt, StoreAt K C st ln dt H nds tabs ∧ nds[0]? = some .bare ∧ LamAt H Pl lp q ∧ ∀ H' nds' tabs', StoreAt K C st ln dt H' nds' tabs' → nds'[0]? = some .bare → LamAt H' Pl lp q → Kq [ln, dt, Pl] H H' → Sep ((st, Sto K C nds' tabs') :: (Pl, LamR lp q) :: Δ) H' := by
  obtain ⟨h1, l1, ⟨b0, ln, dt, r1⟩, h2, l2, r2, S⟩ := S
  have r2' : LamAt h2 Pl lp q := r2
  refine ⟨ln, dt, r1.keep l1, b0, (LamAt.same' r2' l2).same' cut_le, fun H' nds' tabs' S' b0' L' kq => ?_⟩
  obtain ⟨tb, etb⟩ := r2'.tbl
  obtain ⟨tb', etb'⟩ := L'.tbl
  obtain ⟨dx, ob⟩ := r1.ob
  obtain ⟨as, nl, _⟩ := r1.nl
  obtain ⟨dx', ob'⟩ := S'.ob
  obtain ⟨as', nl', nlen', nod'⟩ := S'.nl
  have nPl : Pl ∉ [st, ln, dt] := fun z => by
    simp only [List.mem_cons, List.not_mem_nil, or_false] at z
    rcases z with z | z | z
    · rw [z, ob'] at etb'; cases etb'
    · rw [z, nl'] at etb'; cases etb'
    · rw [z, S'.tb] at etb'; cases etb'
  refine ⟨some_of H' [st, ln, dt], some_le, ⟨b0', ln, dt, ⟨⟨dx', by rw [some_in (by simp)]; exact ob'⟩, ⟨as', by rw [some_in (by simp)]; exact nl', nlen', fun i a n e1 e2 => (nod' i a n e1 e2).tf some_tf⟩, by rw [some_in (by simp)]; exact S'.tb⟩⟩, ?_⟩
  have imm : ∀ b o, H' b = some o → mutO o = false → cut H' (some_of H' [st, ln, dt]) b = some o := fun b o e m => cut_some.mpr ⟨e, fun u z => by have := some_le _ _ z; rw [e] at this; cases this; exact m⟩
  refine ⟨some_of (cut H' (some_of H' [st, ln, dt])) [Pl], some_le, ?_, S.mono fun b o e => ?_⟩
  · have ePl : some_of (cut H' (some_of H' [st, ln, dt])) [Pl] Pl = H' Pl := by
      rw [some_in (by simp)]
      have : cut H' (some_of H' [st, ln, dt]) Pl = some (.tbl tb') := cut_some.mpr ⟨etb', fun u z => by
        cases m : mutO u with
        | false => rfl
        | true => exact absurd (some_mut z m) nPl⟩
      rw [this, etb']
    rcases L' with z | ⟨c, z1, z2⟩
    · exact .inl (by rw [ePl]; exact z)
    · refine .inr ⟨c, by rw [ePl]; exact z1, ?_⟩
      exact some_im (imm _ _ z2 rfl) rfl
  · obtain ⟨e1, e2⟩ := cut_some.mp e
    obtain ⟨e3, e4⟩ := cut_some.mp e1
    have n1 : b ≠ ln := fun z => by have := e4 _ (z ▸ nl); cases this
    have n2 : b ≠ dt := fun z => by have := e4 _ (z ▸ r1.tb); cases this
    have n3 : b ≠ Pl := fun z => by have := e2 _ (z ▸ etb); cases this
    have n4 : b ≠ st := fun z => by have := e4 _ (z ▸ ob); cases this
    have e5 := kq b o (by simp [n1, n2, n3]) e3
    refine cut_some.mpr ⟨cut_some.mpr ⟨e5, fun u z => ?_⟩, fun u z => ?_⟩
    · cases m : mutO u with
      | false => rfl
      | true => have := some_mut z m; simp [n1, n2, n4] at this
    · cases m : mutO u with
      | false => rfl
      | true => have := some_mut z m; simp [n3] at this
def InsR (C : Addr) (fs : List (Str × V)) : Res := fun a h => ∃ dx, h a = some (.ins C dx fs)
instance {C : Addr} {fs : List (Str × V)} : Up (InsR C fs) := ⟨fun ⟨dx, h⟩ s => ⟨dx, s _ _ h⟩⟩
end L2
set_option maxHeartbeats 4000000
namespace K6
open PySem L2
section
variable {P : Program} {w : World} {K : PySem.W.Frag} {mg : Str → Option Value} {base : Heap} {C Pl : Addr} {NS : List Str}
abbrev LamL : Res := LamR lpLeaf qLeaf
def spPutS (K : PySem.W.Frag) (C Pl : Addr) : Sp := fun vs H Q _ => ∃ (NS : List Str) (st : Addr) (nds : List Nd) (tabs : List (Key × V)) (t : Nat) (x : Str) (v : V) (F : Str → Option V) (Δ : Rs), NsOk NS ∧ vs = [.ref st, iN t, .str x, v] ∧ Sep ((st, Sto K C nds tabs) :: (Pl, LamL) :: Δ) H ∧ (valV tabs (Sum.inl (t : Int))).isSome = true ∧ Tri NS nds F 5 0 0 t ∧ x ∈ NS ∧ ValV v ∧ (∀ u, F x = some u → ValV u) ∧ nds.length + 6 ≤ 100000 ∧ tabs.length ≤ 100000 ∧
  ∀ (H' : Hp) (nds' : List Nd) (tabs' : List (Key × V)) (t' : Nat), Sep ((st, Sto K C nds' tabs') :: (Pl, LamL) :: Δ) H' → NEx nds nds' → nds'.length ≤ nds.length + 6 → tabs'.length ≤ tabs.length + 1 → (∀ k, (valV tabs k).isSome = true → (valV tabs' k).isSome = true) → (valV tabs' (Sum.inl (t' : Int))).isSome = true → Tri NS nds' (upF F x v) 5 0 0 t' → ((F x = some v ∧ t' = t ∧ nds' = nds ∧ tabs' = tabs) ∨ (F x ≠ some v ∧ PutR x v nds 0 t nds' t' ∧ tabs' = putK tabs (Sum.inl (t' : Int)) (.bl true))) → Q (iN t') H'
def spWoS (K : PySem.W.Frag) (C Pl : Addr) : Sp := fun vs H Q _ => ∃ (NS : List Str) (st : Addr) (nds : List Nd) (tabs : List (Key × V)) (t : Nat) (x : Str) (F : Str → Option V) (Δ : Rs), NsOk NS ∧ vs = [.ref st, iN t, .str x] ∧ Sep ((st, Sto K C nds tabs) :: (Pl, LamL) :: Δ) H ∧ (valV tabs (Sum.inl (t : Int))).isSome = true ∧ Tri NS nds F 5 0 0 t ∧ x ∈ NS ∧ (∀ u, F x = some u → ValV u) ∧ nds.length + 6 ≤ 100000 ∧ tabs.length ≤ 100000 ∧
  ∀ (H' : Hp) (nds' : List Nd) (tabs' : List (Key × V)) (t' : Nat), Sep ((st, Sto K C nds' tabs') :: (Pl, LamL) :: Δ) H' → NEx nds nds' → nds'.length ≤ nds.length + 6 → tabs'.length ≤ tabs.length + 1 → (∀ k, (valV tabs k).isSome = true → (valV tabs' k).isSome = true) → (valV tabs' (Sum.inl (t' : Int))).isSome = true → Tri NS nds' (dnF F x) 5 0 0 t' → ((F x = none ∧ t' = t ∧ nds' = nds ∧ tabs' = tabs) ∨ (F x ≠ none ∧ TakR x nds 0 t nds' t' ∧ tabs' = putK tabs (Sum.inl (t' : Int)) (.bl true))) → Q (iN t') H'
theorem put_S {f : Addr} {fd : FuncData} {k : Nat} {ps : List Str} (h : ∀ NS, NsOk NS → FnOk P w K mg base CX0 k f fd ps (spPut K C Pl NS)) : FnOk P w K mg base CX0 k f fd ps (spPutS K C Pl) :=
  (FnOk.ex h).conv fun vs H Q E ⟨NS, st, nds, tabs, t, x, v, F, Δ, N, e, S, h1, h2, h3, h4, h5, h6, h7, q⟩ => by
    obtain ⟨ln, dt, SA, b0, L, back⟩ := S.stoLam
    exact ⟨NS, N, st, ln, dt, nds, tabs, t, x, v, F, e, SA, b0, h1, h2, h3, h4, h5, h6, h7, L, fun H' nds' tabs' t' S' ext len tl mono tok tri rel L' kq tf => q H' nds' tabs' t' (back H' nds' tabs' S' (ext _ _ b0) L' kq) ext len tl mono tok tri rel⟩
theorem wo_S {f : Addr} {fd : FuncData} {k : Nat} {ps : List Str} (h : ∀ NS, NsOk NS → FnOk P w K mg base CX0 k f fd ps (spWo K C Pl NS)) : FnOk P w K mg base CX0 k f fd ps (spWoS K C Pl) :=
  (FnOk.ex h).conv fun vs H Q E ⟨NS, st, nds, tabs, t, x, F, Δ, N, e, S, h1, h2, h3, h4, h5, h6, q⟩ => by
    obtain ⟨ln, dt, SA, b0, L, back⟩ := S.stoLam
    exact ⟨NS, N, st, ln, dt, nds, tabs, t, x, F, e, SA, b0, h1, h2, h3, h4, h5, h6, L, fun H' nds' tabs' t' S' ext len tl mono tok tri rel L' kq tf => q H' nds' tabs' t' (back H' nds' tabs' S' (ext _ _ b0) L' kq) ext len tl mono tok tri rel⟩
def spInitS (K : PySem.W.Frag) (C : Addr) : Sp := fun vs H Q _ => ∃ (p dx : Addr) (H0 : Hp) (Δ : Rs), vs = [.ref p] ∧ H = upd (upd H0 dx (.own p)) p (.ins C dx []) ∧ H0 p = none ∧ H0 dx = none ∧ dx ≠ p ∧ Sep Δ H0 ∧ ∀ H', Same H0 H' → Sep ((p, Sto K C [.bare] [(Sum.inl 0, .bl true)]) :: Δ) H' → Q .non H'
theorem init_S {vs : List V} {H : Hp} {Q : VK} {E : XK} (h : spInitS K C vs H Q E) : spInit K C vs H Q E := by
  obtain ⟨p, dx, H0, Δ, e, rfl, h1, h2, h3, S, q⟩ := h
  refine ⟨p, dx, e, upd_same, fun ln dt H' hln hdt SA kq => ?_⟩
  have sH : Same H0 (upd (upd H0 dx (.own p)) p (.ins C dx [])) := (same_new h2 _).trans (same_new (by rw [upd_ne h3.symm]; exact h1) _)
  have s0 : Same H0 H' := fun b o e => kq b o (by simp only [List.mem_singleton]; exact ne_of_none e h1) (sH b o e)
  refine q H' s0 ?_
  have n1 := none_back sH hln
  have n2 := none_back sH hdt
  obtain ⟨dx', ob⟩ := SA.ob
  obtain ⟨as, nl, nlen, nod⟩ := SA.nl
  refine ⟨some_of H' [p, ln, dt], some_le, ⟨rfl, ln, dt, ⟨⟨dx', by rw [some_in (by simp)]; exact ob⟩, ⟨as, by rw [some_in (by simp)]; exact nl, nlen, fun i a n e1 e2 => (nod i a n e1 e2).tf some_tf⟩, by rw [some_in (by simp)]; exact SA.tb⟩⟩, S.mono fun b o e => cut_some.mpr ⟨s0 _ _ e, fun u z => ?_⟩⟩
  cases m : mutO u with
  | false => rfl
  | true =>
    have := some_mut z m
    simp only [List.mem_cons, List.not_mem_nil, or_false] at this
    rcases this with z | z | z
    · exact absurd z (ne_of_none e h1)
    · exact absurd z (ne_of_none e n1)
    · exact absurd z (ne_of_none e n2)
def spMade (K : PySem.W.Frag) (C : Addr) : Sp := fun vs H Q _ => ∃ (st : Addr) (nds : List Nd) (tabs : List (Key × V)), vs = [.ref st] ∧ Sto K C nds tabs st H ∧ Q (.int (nds.length : Int)) H
theorem scMd : FnScope ["self"] ["self"] (defScope c_Store_made) := ⟨rfl, rfl, rfl, by decide +kernel, rfl, by decide +kernel, by decide +kernel⟩
theorem ok_made {f : Addr} {fd : FuncData} (F : Fun K "made" "Store.made" c_Store_made f fd) (T : Txt K mg) (TC : TxtC K C) : FnOk P w K mg base CX0 1 f fd ["self"] (spMade K C) := by
  refine F.ok scMd (fun vs H Q E h => ?_) (fun cdv A outer s H vs Q E hr h => ?_)
  · obtain ⟨st, nds, tabs, rfl, _⟩ := h; rfl
  obtain ⟨st, nds, tabs, rfl, ⟨b0, ln, dt, ⟨⟨dx, ob⟩, ⟨as, nl, hl, hn⟩, tb⟩⟩, q⟩ := h
  refine ⟨_, pss_one (ps_ret (pe_callB call_len_seq rfl T.len PySem.boot_len (pac (pe_fld (pv 0) rfl) pa_nil))), ?_⟩
  refine ⟨_, rfl, st, C, dx, _, _, rfl, ob, TC.cl, TC.nN, flds_n ln dt, ln, _, rfl, .inl (SqL.of nl), ?_⟩
  rw [List.length_map, hl]; exact q
end
end K6
set_option maxHeartbeats 2000000
namespace L2
open PySem
structure Plc where
  ah : Nat
  st : Stp
  tb : Nat
  co : Nat
def StpL (ss : List Stp) : Res := fun l h => ∃ as : List Addr, h l = some (.lst (V.non :: as.map V.ref)) ∧ as.length = ss.length ∧ ∀ (i : Nat) (a : Addr) (s : Stp), as[i]? = some a → ss[i]? = some s → h a = some (.tup s.vs)
instance {ss : List Stp} : Up (StpL ss) := ⟨fun ⟨as, e, l, h⟩ s => ⟨as, s _ _ e, l, fun i a x e1 e2 => s _ _ (h i a x e1 e2)⟩⟩
abbrev rFl (st la ls lt lc : Addr) : List (Str × V) := [("kept", .ref st), ("aheads", .ref la), ("steps", .ref ls), ("tables", .ref lt), ("costs", .ref lc)]
abbrev RoaL (K : PySem.W.Frag) (CR CS : Addr) (pls : List Plc) (nds : List Nd) (tabs : List (Key × V)) (r st la ls lt lc : Addr) : Rs :=
  [(r, InsR CR (rFl st la ls lt lc)), (st, Sto K CS nds tabs), (la, Lst (V.non :: pls.map fun q => V.int (q.ah : Int))), (ls, StpL (pls.map (·.st))), (lt, Lst (V.int 0 :: pls.map fun q => V.int (q.tb : Int))), (lc, Lst (V.int 0 :: pls.map fun q => V.int (q.co : Int)))]
def Roa (K : PySem.W.Frag) (CR CS : Addr) (pls : List Plc) (nds : List Nd) (tabs : List (Key × V)) : Res := fun r h => ∃ st la ls lt lc, Sep (RoaL K CR CS pls nds tabs r st la ls lt lc) h
instance {K : PySem.W.Frag} {CR CS : Addr} {pls : List Plc} {nds : List Nd} {tabs : List (Key × V)} : Up (Roa K CR CS pls nds tabs) := ⟨fun ⟨st, la, ls, lt, lc, S⟩ s => ⟨st, la, ls, lt, lc, S.mono s⟩⟩
theorem Sep.imm {Δ : Rs} {H : Hp} {a : Addr} {o : HO} (S : Sep Δ H) (e : H a = some o) (m : mutO o = false) : Sep ((a, Pt o) :: Δ) H := by
  refine ⟨one a o, fun b u q => ?_, one_some.mpr ⟨rfl, rfl⟩, S.mono fun b u q => cut_some.mpr ⟨q, fun v z => ?_⟩⟩
  · obtain ⟨rfl, rfl⟩ := one_some.mp q; exact e
  · obtain ⟨rfl, rfl⟩ := one_some.mp z; exact m
theorem Sep.updR {Δ Δ' : Rs} {H : Hp} {R T : Res} (S : Sep Δ H) (a : Addr) (o' : HO) [P : Pull a Δ R Δ'] (m : ∀ h, R a h → ∃ o, h a = some o ∧ mutO o = true)
    (f : ∀ h, R a h → Same h H → ∀ h', h' a = some o' → (∀ b o, b ≠ a → h b = some o → h' b = some o) → (∀ b o, b ≠ a → H b = some o → mutO o = false → h' b = some o) → T a h') : Sep ((a, T) :: Δ') (upd H a o') := by
  obtain ⟨h, l, r, S⟩ := P.out S
  obtain ⟨o, ea, ma⟩ := m h r
  refine ⟨fun b => if b = a then some o' else match h b with | some u => some u | none => some_of H [] b, fun b u e => ?_, f h r l _ (if_pos rfl) (fun b u nb e => ?_) (fun b u nb e mu => ?_), S.mono fun b u e => ?_⟩
  · dsimp only at e
    by_cases hb : b = a
    · rw [if_pos hb] at e; cases e; rw [hb]; exact upd_same
    · rw [if_neg hb] at e
      rw [upd_ne hb]
      cases q : h b with
      | some z => rw [q] at e; cases e; exact l _ _ q
      | none => rw [q] at e; exact some_le _ _ e
  · rw [if_neg nb, e]
  · rw [if_neg nb]
    cases q : h b with
    | some z => have := l _ _ q; rw [e] at this; cases this; rfl
    | none => exact some_im e mu
  · obtain ⟨e1, e2⟩ := cut_some.mp e
    have hb : b ≠ a := fun z => by have := e2 o (by rw [z]; exact ea); rw [ma] at this; cases this
    refine cut_some.mpr ⟨by rw [upd_ne hb]; exact e1, fun v q => ?_⟩
    simp only [if_neg hb] at q
    cases z : h b with
    | some x => rw [z] at q; cases q; exact e2 _ z
    | none =>
      rw [z] at q
      cases mm : mutO v with
      | false => rfl
      | true => have := some_mut q mm; cases this
def Stp.ap : Stp → (Str → Option V) → (Str → Option V)
  | .set x v, F => fun y => if y = x then some v else F y
  | .clr x, F => fun y => if y = x then none else F y
def envs (pls : List Plc) : List (Str → Option V) := pls.foldl (fun es q => es ++ [q.st.ap (es.getD q.ah fun _ => none)]) [fun _ => none]
end L2
set_option maxHeartbeats 2000000
namespace L2
open PySem
theorem Sep.im {Δ : Rs} {H : Hp} {a : Addr} {R T : Res} [U : Up R] (S : Sep ((a, R) :: Δ) H) (f : ∀ h, R a h → Same h H → (∀ b o, H b = some o → mutO o = false → h b = some o) → T a h) : Sep ((a, T) :: Δ) H := by
  obtain ⟨h, l, r, S⟩ := S
  have s1 : Same h fun b => match h b with | some o => some o | none => some_of H [] b := fun b o e => by simp only [e]
  have le : Same (fun b => match h b with | some o => some o | none => some_of H [] b) H := fun b o e => by
    dsimp only at e
    cases q : h b with
    | some z => rw [q] at e; cases e; exact l _ _ q
    | none => rw [q] at e; exact some_le _ _ e
  refine ⟨_, le, f _ (U.up r s1) le fun b o e m => ?_, S.mono fun b o e => ?_⟩
  · cases q : h b with
    | some z => have := l _ _ q; rw [e] at this; cases this; rfl
    | none => exact some_im e m
  · obtain ⟨e1, e2⟩ := cut_some.mp e
    refine cut_some.mpr ⟨e1, fun u q => ?_⟩
    try dsimp only at q
    cases z : h b with
    | some x => rw [z] at q; cases q; exact e2 _ z
    | none =>
      rw [z] at q
      cases mm : mutO u with
      | false => rfl
      | true => have := some_mut q mm; cases this
theorem Sep.read {Δ Δ' : Rs} {H : Hp} {R : Res} {d : Addr} {o : HO} (S : Sep Δ H) (a : Addr) [P : Pull a Δ R Δ'] (f : ∀ h, R a h → h d = some o) : H d = some o := by
  obtain ⟨h, l, r, _⟩ := P.out S
  exact l _ _ (f h r)
def PLs (ps : List (Str × V)) : Res := fun l h => ∃ ts : List Addr, h l = some (.lst (ts.map V.ref)) ∧ PairT h ts ps
instance {ps : List (Str × V)} : Up (PLs ps) := ⟨fun ⟨ts, e, p⟩ s => ⟨ts, s _ _ e, p.tf s.tf⟩⟩
theorem Sep.pls {Δ : Rs} {H : Hp} {l : Addr} {ts : List Addr} {ps : List (Str × V)} (S : Sep ((l, Lst (ts.map V.ref)) :: Δ) H) (h : PairT H ts ps) : Sep ((l, PLs ps) :: Δ) H :=
  S.im fun g e _ im => ⟨ts, e, h.1, fun i a p e1 e2 => im _ _ (h.2 i a p e1 e2) rfl⟩
def DicL (pss : List (List (Str × V))) : Res := fun l h => ∃ ds : List Addr, h l = some (.lst (ds.map V.ref)) ∧ ds.length = pss.length ∧ ∀ (i : Nat) (d : Addr) (ps : List (Str × V)), ds[i]? = some d → pss[i]? = some ps → h d = some (.dK (ps.map kP))
instance {pss : List (List (Str × V))} : Up (DicL pss) := ⟨fun ⟨ds, e, l, h⟩ s => ⟨ds, s _ _ e, l, fun i d ps e1 e2 => s _ _ (h i d ps e1 e2)⟩⟩
theorem DicL.at {pss : List (List (Str × V))} {l : Addr} {h : Hp} {i : Nat} {ps : List (Str × V)} (D : DicL pss l h) (e : pss[i]? = some ps) : ∃ (ds : List Addr) (d : Addr), h l = some (.lst (ds.map V.ref)) ∧ ds.length = pss.length ∧ ds[i]? = some d ∧ h d = some (.dK (ps.map kP)) := by
  obtain ⟨ds, el, hl, hd⟩ := D
  have hi : i < ds.length := by rw [hl]; exact (List.getElem?_eq_some_iff.mp e).1
  exact ⟨ds, ds[i], el, hl, List.getElem?_eq_getElem hi, hd i _ ps (List.getElem?_eq_getElem hi) e⟩
theorem Sep.dicApp {Δ : Rs} {H : Hp} {pss : List (List (Str × V))} {ps : List (Str × V)} {ds : List Addr} {ld d : Addr} (S : Sep ((ld, DicL pss) :: (d, Dic (ps.map kP)) :: Δ) H) (e : H ld = some (.lst (ds.map V.ref))) : Sep ((ld, DicL (pss ++ [ps])) :: Δ) (upd H ld (.lst (ds.map V.ref ++ [V.ref d]))) := by
  have S1 := S.updR ld (.lst (ds.map V.ref ++ [V.ref d])) (T := fun l h => h l = some (.lst (ds.map V.ref ++ [V.ref d])) ∧ ds.length = pss.length ∧ ∀ (i : Nat) (d : Addr) (ps : List (Str × V)), ds[i]? = some d → pss[i]? = some ps → h d = some (.dK (ps.map kP)))
    (fun h ⟨ds, e, _⟩ => ⟨_, e, rfl⟩) fun h r l h' e1 e2 e3 => by
      obtain ⟨ds', e4, hl, hd⟩ := r
      have e5 := l _ _ e4
      rw [e] at e5
      have e6 : ds = ds' := (List.map_inj_right (fun x y z => by cases z; rfl)).mp (HO.lst.inj (Option.some.inj e5))
      subst e6
      refine ⟨e1, hl, fun i d ps q1 q2 => e2 _ _ (fun z => ?_) (hd i d ps q1 q2)⟩
      have := hd i d ps q1 q2
      rw [z, e4] at this; cases this
  refine Sep.pack (Γ := [(ld, _), (d, Dic (ps.map kP))]) S1 fun h G => ?_
  obtain ⟨h1, l1, ⟨r1, r2, r3⟩, h2, l2, r4, _⟩ := G
  refine ⟨ds ++ [d], by rw [List.map_append]; exact l1 _ _ r1, by rw [List.length_append, List.length_append, r2]; rfl, fun i d' ps' q1 q2 => ?_⟩
  by_cases hi : i < ds.length
  · rw [List.getElem?_append_left hi] at q1
    rw [List.getElem?_append_left (by omega)] at q2
    exact l1 _ _ (r3 i d' ps' q1 q2)
  · rw [List.getElem?_append_right (by omega)] at q1 q2
    have h0 : i - ds.length = 0 := by
      cases z : i - ds.length with
      | zero => rfl
      | succ j => rw [z] at q1; simp at q1
    rw [h0] at q1
    rw [show i - pss.length = 0 by omega] at q2
    cases (show some d = some d' from q1)
    cases (show some ps = some ps' from q2)
    exact cut_le _ _ (l2 _ _ r4)
theorem name_val {x : Str} (h : NameOk x) : IsVal (.str x) := by
  refine ⟨by have := h.2.1; omega, ?_⟩
  rw [List.all_eq_true]
  intro c hc
  have := List.all_eq_true.mp h.2.2 c hc
  unfold letr at this
  unfold sgn
  simp only [Bool.and_eq_true, decide_eq_true_eq] at this ⊢
  omega
def but (H : Hp) (l : Addr) : Hp := fun b => if b = l then none else H b
theorem but_le {H : Hp} {l : Addr} : Same (but H l) H := fun b o e => by
  unfold but at e
  split at e
  · cases e
  · exact e
theorem but_ne {H : Hp} {l b : Addr} (h : b ≠ l) : but H l b = H b := by unfold but; rw [if_neg h]
theorem but_at {H : Hp} {l : Addr} : but H l l = none := by unfold but; rw [if_pos rfl]
end L2
set_option maxHeartbeats 2000000
namespace L2
open PySem
def DicX (pss : List (List (Str × V))) (ds : List Addr) : Res := fun l h => h l = some (.lst (ds.map V.ref)) ∧ ds.length = pss.length ∧ ∀ (i : Nat) (d : Addr) (ps : List (Str × V)), ds[i]? = some d → pss[i]? = some ps → h d = some (.dK (ps.map kP))
instance {pss : List (List (Str × V))} {ds : List Addr} : Up (DicX pss ds) := ⟨fun ⟨e, l, h⟩ s => ⟨s _ _ e, l, fun i d ps e1 e2 => s _ _ (h i d ps e1 e2)⟩⟩
theorem DicX.l {pss : List (List (Str × V))} {ds : List Addr} {l : Addr} {h : Hp} (D : DicX pss ds l h) : DicL pss l h := ⟨ds, D⟩
theorem PE.conv {X : Cx} {e : Expr} {te te' : TE} (h : PE X e te) (c : ∀ σ H Q, te' σ H Q → te σ H Q) : PE X e te' := fun pins s σ H Q I z => h pins s σ H Q I (c σ H Q z)
def tAt (ip it : Nat) : TE := fun σ H Q => ∃ (p lt : Addr) (n : Nat) (xs : List V) (Δ : Rs), σ[ip]? = some (some (.ref p)) ∧ σ[it]? = some (some (.ref lt)) ∧ Sep ((p, Bx n) :: (lt, Lst xs) :: Δ) H ∧ n ≤ 500000 ∧ 1 ≤ xs.length ∧ xs.length ≤ 1000 ∧
  ∀ (k : Nat) (H' : Hp), k < xs.length → Sep ((p, Bx (n + 2)) :: (lt, Lst xs) :: Δ) H' → Q (.int (k : Int)) H'
def tVal (ip ih inm il : Nat) : TE := fun σ H Q => ∃ (p d nl : Addr) (n : Nat) (x : Str) (ps : List (Str × V)) (NS : List Str) (Δ : Rs), σ[ip]? = some (some (.ref p)) ∧ σ[ih]? = some (some (.ref d)) ∧ σ[inm]? = some (some (.str x)) ∧ σ[il]? = some (some (.ref nl)) ∧ Sep ((p, Bx n) :: (nl, Lst (NS.map V.str)) :: (d, Dic (ps.map kP)) :: Δ) H ∧ n ≤ 500000 ∧ NS.length ≤ 50 ∧ (∀ x ∈ NS, NameOk x) ∧ (∀ p ∈ ps, IsVal p.2) ∧
  ∀ (v : V) (H' : Hp), IsVal v → Sep ((p, Bx (n + 61)) :: (nl, Lst (NS.map V.str)) :: (d, Dic (ps.map kP)) :: Δ) H' → Q v H'
end L2
set_option maxHeartbeats 2000000
namespace L2
open PySem PySem.Spec PyProof.Rows
section
variable {X : Cx}
end
end L2
set_option maxHeartbeats 2000000
namespace L2
open PySem PySem.Spec PyProof.Rows
mutual
inductive DatT (K : PySem.W.Frag) (H : Hp) : V → PyData → Prop
  | non : DatT K H .non .none
  | int (i) : DatT K H (.int i) (.int i)
  | str (x) : DatT K H (.str x) (.str x)
  | tup {a xs ds} : SqT K H a xs → DatTs K H xs ds → DatT K H (.ref a) (.tuple ds)
inductive DatTs (K : PySem.W.Frag) (H : Hp) : List V → List PyData → Prop
  | nil : DatTs K H [] []
  | cons {v d vs ds} : DatT K H v d → DatTs K H vs ds → DatTs K H (v :: vs) (d :: ds)
end
section
variable {X : Cx} {pins : List (Addr × Obj)} {σ : St} {H : Hp} {s : Shared}
mutual
theorem DatT.reads (I : Inv X pins σ H s) : ∀ {v d} (u : Value), DatT X.K H v d → RelV v u → d.hasDict = false ∧ ∃ as, Reads s.heap u d as
  | _, _, u, .non, r => by cases (show u = .none from r); exact ⟨rfl, _, .none⟩
  | _, _, u, .int i, r => by obtain ⟨t, e⟩ := (show ∃ t, u = .int i t from r); subst e; exact ⟨rfl, _, .int i t⟩
  | _, _, u, .str x, r => by obtain ⟨t, e⟩ := (show ∃ t, u = .str x t from r); subst e; exact ⟨rfl, _, .str x t⟩
  | _, _, u, .tup (a := a) (xs := xs) e q, r => by
    cases (show u = .ref a from r)
    obtain ⟨its, rv, ⟨o, g, c, n, d⟩, _⟩ := I.tuple e
    obtain ⟨nd, as, ra⟩ := DatTs.reads I its q rv
    exact ⟨by simpa [PyData.hasDict] using nd, _, .tuple g c d (by simpa using ra)⟩
theorem DatTs.reads (I : Inv X pins σ H s) : ∀ {vs ds} (us : List Value), DatTs X.K H vs ds → Vals vs us → PyData.hasDictAll ds = false ∧ ∃ as, ReadsAll s.heap us ds as
  | _, _, _, .nil, .nil => ⟨rfl, _, .nil⟩
  | _, _, _, .cons r t, .cons rv tv => by
    obtain ⟨n1, as, r1⟩ := DatT.reads I _ r rv
    obtain ⟨n2, bs, r2⟩ := DatTs.reads I _ t tv
    exact ⟨by simp [PyData.hasDictAll, n1, n2], _, .cons r1 r2⟩
end
end
theorem piled_le (n : Nat) : ∀ ts : List Str, (∀ t ∈ ts, t.length ≤ n) → piled ts ≤ ts.length * (n + 2)
  | [], _ => by simp [piled]
  | t :: r, h => by
    have h1 := piled_le n r fun x hx => h x (List.mem_cons_of_mem _ hx)
    have h2 := h t List.mem_cons_self
    rw [List.length_cons, Nat.add_mul]
    simp only [piled] at h1 ⊢
    simp only [List.map_cons, List.sum_cons] at h1 ⊢
    omega
theorem tuple_sml {ds : List PyData} {n k : Nat} (h : ∀ d ∈ ds, Sml d n k) : Sml (.tuple ds) (3 + ds.length * (n + 2)) (k + 1) := by
  refine ⟨showableAll_of fun d hd => (h d hd).sh, ?_, ?_⟩
  · show (tupleText (PyData.shownAll ds)).length ≤ _
    rw [shownAll_map]
    have z2 : (Str.ofString (if (ds.map PyData.shown).length == 1 then ",)" else ")" : String)).length ≤ 2 := by split <;> decide
    have z3 : (Str.join ", " (ds.map PyData.shown)).length ≤ ds.length * (n + 2) := by
      cases ds with
      | nil => show 0 ≤ _; omega
      | cons d r =>
        have e := join_length_add ((d :: r).map PyData.shown) (by simp)
        have p := piled_le n ((d :: r).map PyData.shown) (fun t ht => by
          obtain ⟨x, hx, rfl⟩ := List.mem_map.mp ht
          exact (h x hx).ln)
        rw [List.length_map] at p
        omega
    show (Str.ofString "(" ++ Str.join ", " (ds.map PyData.shown) ++ Str.ofString (if (ds.map PyData.shown).length == 1 then ",)" else ")" : String)).length ≤ _
    rw [app_len, app_len]
    have z1 : (Str.ofString "(").length = 1 := by decide
    omega
  · have := depthAll_of (k := k) fun d hd => (h d hd).dp
    show PyData.depthAll ds + 1 ≤ _
    omega
theorem Sml.le {d : PyData} {n m k j : Nat} (h : Sml d n k) (h1 : n ≤ m) (h2 : k ≤ j) : Sml d m j := ⟨h.sh, Nat.le_trans h.ln h1, Nat.le_trans h.dp h2⟩
theorem int_sml {i : Int} (h : i.natAbs ≤ 10 ^ 31) (k : Nat) : Sml (.int i) 40 k := ⟨decide_eq_true (int_txt h).1, (int_txt h).2, Nat.zero_le _⟩
def ndD : Nd → PyData
  | .bare => .tuple [.str "bare"]
  | .leaf m ps => .tuple [.str "leaf", .int m, .tuple (ps.map pairD)]
  | .fork qs => .tuple [.str "fork", .tuple (qs.map fun q : Nat => .int (q : Int))]
def NdSh : Nd → Prop
  | .bare => True
  | .leaf m ps => m.natAbs ≤ 10 ^ 31 ∧ ps.length ≤ 63 ∧ ∀ p ∈ ps, NameOk p.1 ∧ IsVal p.2
  | .fork qs => qs.length = 4 ∧ ∀ q ∈ qs, q ≤ 1000000
theorem ints_datT {K : PySem.W.Frag} {H : Hp} : ∀ qs : List Nat, DatTs K H (qs.map fun q : Nat => V.int (q : Int)) (qs.map fun q : Nat => .int (q : Int))
  | [] => .nil
  | _ :: r => .cons (.int _) (ints_datT r)
theorem pairs_datT {K : PySem.W.Frag} {H : Hp} : ∀ {ts : List Addr} {ps : List (Str × V)}, PairT H ts ps → (∀ p ∈ ps, IsVal p.2) → DatTs K H (ts.map V.ref) (ps.map pairD)
  | [], [], _, _ => .nil
  | [], _ :: _, h, _ => by cases h.1
  | _ :: _, [], h, _ => by cases h.1
  | t :: ts, p :: ps, h, hv => by
    have v1 : DatT K H p.2 (valD p.2) := by
      have := hv p List.mem_cons_self
      cases e : p.2 with
      | int i => exact .int _
      | str x => exact .str _
      | _ => rw [e] at this; exact this.elim
    exact .cons (.tup (SqT.of (h.2 0 t p rfl rfl)) (.cons (.str _) (.cons v1 .nil))) (pairs_datT ⟨by simpa using h.1, fun i a q e1 e2 => h.2 (i + 1) a q e1 e2⟩ fun q hq => hv q (List.mem_cons_of_mem _ hq))
theorem node_datT {K : PySem.W.Frag} {H : Hp} {a : Addr} {n : Nd} (h : NodeAt K H a n) (ok : NdSh n) : DatT K H (.ref a) (ndD n) := by
  cases n with
  | bare => exact .tup h (.cons (.str _) .nil)
  | leaf m ps =>
    obtain ⟨t, e, o, ts, e2, _, hp⟩ := h
    exact .tup e (.cons (.str _) (.cons (.int _) (.cons (.tup (.inl (.inr ⟨o, e2⟩)) (pairs_datT hp fun p hp => (ok.2.2 p hp).2)) .nil)))
  | fork qs =>
    obtain ⟨t, e, e2, _⟩ := h
    exact .tup e (.cons (.str _) (.cons (.tup e2 (ints_datT qs)) .nil))
theorem lit_sml {x : Str} (h : (x.cps.toList.all fun c => decide (c < 128)) = true) (hl : x.length ≤ 20) (k : Nat) : Sml (.str x) 100 k := str_sml (fun c hc => of_decide_eq_true (List.all_eq_true.mp h c hc)) (by omega) k
theorem node_sml {n : Nd} (ok : NdSh n) : Sml (ndD n) 70000 3 := by
  cases n with
  | bare => exact (tuple_sml (n := 100) (k := 0) fun d hd => by rw [List.mem_singleton.mp hd]; exact lit_sml (by decide +kernel) (by decide +kernel) 0).le (by decide) (by decide)
  | leaf m ps =>
    obtain ⟨h1, h2, h3⟩ := ok
    have s1 : Sml (.tuple (ps.map pairD)) 20000 2 := (tuple_sml (n := 244) (k := 1) fun d hd => by
      obtain ⟨p, hp, rfl⟩ := List.mem_map.mp hd
      exact pair_sml (n := 40) (m := 200) (k := 0) (name_sml (h3 p hp).1 0) (nv_sml (.inr (h3 p hp).2) 0)).le (by rw [List.length_map]; have : ps.length * (244 + 2) ≤ 63 * 246 := Nat.mul_le_mul_right _ h2; omega) (by decide)
    refine (tuple_sml (n := 20000) (k := 2) fun d hd => ?_).le (by show 3 + 3 * 20002 ≤ _; decide) (by decide)
    rcases List.mem_cons.mp hd with rfl | hd
    · exact (lit_sml (by decide +kernel) (by decide +kernel) 0).le (by decide) (by decide)
    rcases List.mem_cons.mp hd with rfl | hd
    · exact (int_sml h1 0).le (by decide) (by decide)
    rw [List.mem_singleton.mp hd]; exact s1
  | fork qs =>
    obtain ⟨h1, h2⟩ := ok
    have s1 : Sml (.tuple (qs.map fun q : Nat => .int (q : Int))) 1000 1 := (tuple_sml (n := 40) (k := 0) fun d hd => by
      obtain ⟨q, hq, rfl⟩ := List.mem_map.mp hd
      exact int_sml (by have := h2 q hq; omega) 0).le (by rw [List.length_map, h1]; decide) (by decide)
    refine (tuple_sml (n := 1000) (k := 1) fun d hd => ?_).le (by show 3 + 2 * 1002 ≤ _; decide) (by decide)
    rcases List.mem_cons.mp hd with rfl | hd
    · exact (lit_sml (by decide +kernel) (by decide +kernel) 0).le (by decide) (by decide)
    rw [List.mem_singleton.mp hd]; exact s1
end L2
set_option maxHeartbeats 4000000
namespace K6
open PySem L2
section
variable {P : Program} {w : World} {K : PySem.W.Frag} {mg : Str → Option Value} {base : Heap} {C Pl Pp : Addr} {NS : List Str}
abbrev LamP : Res := LamR lpPairs qPairs
theorem Sep.afterPairs {st ln dt : Addr} {nds : List Nd} {tabs : List (Key × V)} {Δ : Rs} {H H' : Hp} (SA : StoreAt K C st ln dt H nds tabs) (b0 : nds[0]? = some .bare) (L : LamAt H Pp lpPairs qPairs)
    (back : ∀ H' nds' tabs', StoreAt K C st ln dt H' nds' tabs' → nds'[0]? = some .bare → LamAt H' Pp lpPairs qPairs → Kq [ln, dt, Pp] H H' → Sep ((st, Sto K C nds' tabs') :: (Pp, LamP) :: Δ) H') (g : Grown Pp H H') (L' : LamAt H' Pp lpPairs qPairs) : Sep ((st, Sto K C nds tabs) :: (Pp, LamP) :: Δ) H' := by
  obtain ⟨tb, etb⟩ := L.tbl
  have no : ∀ {a : Addr} {o : HO}, H a = some o → (∀ tb, o ≠ .tbl tb) → a ∉ [Pp] := fun h1 h2 z => by rw [List.mem_singleton.mp z, etb] at h1; exact h2 _ (Option.some.inj h1).symm
  obtain ⟨dx, ob⟩ := SA.ob
  obtain ⟨as, nl, _⟩ := SA.nl
  exact back H' nds tabs (SA.kq g.kq (g.tf etb) (no ob (by intro tb z; cases z)) (no nl (by intro tb z; cases z)) (no SA.tb (by intro tb z; cases z))) b0 L' (g.kq.sub fun b hb => by simp at hb ⊢; exact .inr (.inr hb))
def spPairsS (K : PySem.W.Frag) (C Pp : Addr) : Sp := fun vs H Q _ => ∃ (NS : List Str) (st : Addr) (nds : List Nd) (tabs : List (Key × V)) (t : Nat) (F : Str → Option V) (Δ : Rs), NsOk NS ∧ vs = [.ref st, iN t] ∧ Sep ((st, Sto K C nds tabs) :: (Pp, LamP) :: Δ) H ∧ (valV tabs (Sum.inl (t : Int))).isSome = true ∧ Tri NS nds F 5 0 0 t ∧
  ∀ (l : Addr) (H' : Hp) (ps : List (Str × V)), Sep ((l, PLs ps) :: (st, Sto K C nds tabs) :: (Pp, LamP) :: Δ) H' → PsOf NS F 0 0 ps → SortedPr ps → Q (.ref l) H'
theorem pairs_S {f : Addr} {fd : FuncData} {k : Nat} {ps : List Str} (h : ∀ NS, NsOk NS → FnOk P w K mg base CX0 k f fd ps (spPairsM K C Pp NS)) : FnOk P w K mg base CX0 k f fd ps (spPairsS K C Pp) :=
  (FnOk.ex h).conv fun vs H Q E ⟨NS, st, nds, tabs, t, F, Δ, N, e, S, h1, h2, q⟩ => by
    obtain ⟨ln, dt, SA, b0, L, back⟩ := S.stoLam
    refine ⟨NS, N, st, ln, dt, nds, tabs, t, F, e, SA, h1, h2, L, fun l H' ts ps hl g L' el hpt hps hsr => q l H' ps ?_ hps hsr⟩
    have g2 : Grown Pp H (but H' l) := fun b o nb e => by rw [but_ne (ne_of_none e hl)]; exact g b o nb e
    have L2 : LamAt (but H' l) Pp lpPairs qPairs := by
      rcases L' with z | ⟨c, z1, z2⟩
      · exact .inl (by rw [but_ne (fun y => by rw [y, el] at z; cases z)]; exact z)
      · exact .inr ⟨c, by rw [but_ne (fun y => by rw [y, el] at z1; cases z1)]; exact z1, by rw [but_ne (fun y => by rw [y, el] at z2; cases z2)]; exact z2⟩
    exact (Sep.made (Sep.afterPairs SA b0 L back g2 L2) but_le but_at el).pls hpt
def spLookS (K : PySem.W.Frag) (C : Addr) : Sp := fun vs H Q _ => ∃ (NS : List Str) (st : Addr) (nds : List Nd) (tabs : List (Key × V)) (t : Nat) (x : Str) (F : Str → Option V), NsOk NS ∧ vs = [.ref st, iN t, .str x] ∧ Sto K C nds tabs st H ∧ (valV tabs (Sum.inl (t : Int))).isSome = true ∧ Tri NS nds F 5 0 0 t ∧ x ∈ NS ∧ ∀ H', Same H H' → Q ((F x).getD .non) H'
theorem look_S {f : Addr} {fd : FuncData} {k : Nat} {ps : List Str} (h : FnOk P w K mg base CX0 k f fd ps (spLooked K C)) : FnOk P w K mg base CX0 k f fd ps (spLookS K C) :=
  h.conv fun vs H Q E ⟨NS, st, nds, tabs, t, x, F, N, e, ⟨b0, ln, dt, S⟩, h1, h2, hx, q⟩ => by
    obtain ⟨ws, z, n, e1, e2, e3, e4, e5⟩ := tri_looked N h2 hx
    exact ⟨st, ln, dt, nds, tabs, t, x, 6, ws, z, n, e, S, h1, N.len x hx, N.lo x hx, by decide, e1, e2, e3, e4, fun H' s => by rw [e5]; exact q H' s⟩
def spNamesS : Sp := fun vs H Q _ => ∃ (p : Addr) (m : Nat) (many : Int) (Δ : Rs), vs = [.ref p, .int many] ∧ Sep ((p, Bx m) :: Δ) H ∧ m ≤ 700000 ∧ 0 ≤ many ∧ many ≤ 50 ∧
  ∀ (l : Addr) (H' : Hp) (xs : List Str), Sep ((l, Lst (xs.map V.str)) :: (p, Bx (m + 3000)) :: Δ) H' → xs.length ≤ 50 → (1 ≤ many → xs ≠ []) → (∀ x ∈ xs, NameOk x) → Q (.ref l) H'
theorem names_S {vs : List V} {H : Hp} {Q : VK} {E : XK} (h : spNamesS vs H Q E) : spNames vs H Q E := by
  obtain ⟨p, m, many, Δ, e, S, h1, h2, h3, q⟩ := h
  refine ⟨p, m, many, e, S.get p, h1, h2, h3, fun l H' xs hl el h4 h5 h6 B k => q l H' xs ?_ h4 h5 h6⟩
  have hlp : l ≠ p := fun z => by obtain ⟨_, _, _, y, _⟩ := S.get p; rw [z, y] at hl; cases hl
  have k2 : Kp p H (but H' l) := fun b o nb e => by rw [but_ne (ne_of_none e hl)]; exact k b o nb e
  have B2 : BoxAt (but H' l) p (m + 3000) := by
    obtain ⟨x, y, z, e, w⟩ := B
    exact ⟨x, y, z, by rw [but_ne hlp.symm]; exact e, w⟩
  exact Sep.made (S.box k2 B2) but_le but_at el
def spNodeS (K : PySem.W.Frag) (C : Addr) : Sp := fun vs H Q _ => ∃ (st : Addr) (nds : List Nd) (tabs : List (Key × V)) (t : Nat) (n : Nd), vs = [.ref st, iN t] ∧ Sto K C nds tabs st H ∧ nds[t]? = some n ∧ ∀ a, NodeAt K H a n → Q (.ref a) H
theorem node_S {vs : List V} {H : Hp} {Q : VK} {E : XK} (h : spNodeS K C vs H Q E) : spNode K C vs H Q E := by
  obtain ⟨st, nds, tabs, t, n, e, ⟨_, ln, dt, S⟩, hn, q⟩ := h
  exact ⟨st, ln, dt, nds, tabs, t, n, e, S, hn, q⟩
theorem wayF_len {nds : List Nd} {m : Int} : ∀ {f lev num : Nat} {ws : List Nat}, wayF nds m f lev num = some ws → ws.length ≤ f
  | 0, _, _, _, h => by cases h
  | f + 1, lev, num, ws, h => by
    unfold wayF at h
    cases e : nds[num]? with
    | none => rw [e] at h; cases h
    | some n =>
      rw [e] at h
      cases n with
      | bare => cases h; show 1 ≤ f + 1; omega
      | leaf m ps => cases h; show 1 ≤ f + 1; omega
      | fork qs =>
        cases e2 : qs[dig m lev]? with
        | none => simp [e2] at h
        | some q1 =>
          have h2 : (wayF nds m f (lev + 1) q1).map (num :: ·) = some ws := by simpa [e2] using h
          cases e3 : wayF nds m f (lev + 1) q1 with
          | none => rw [e3] at h2; cases h2
          | some w1 =>
            rw [e3] at h2
            cases h2
            have := wayF_len e3
            rw [List.length_cons]; omega
def spWayS (K : PySem.W.Frag) (C : Addr) : Sp := fun vs H Q _ => ∃ (NS : List Str) (st : Addr) (nds : List Nd) (tabs : List (Key × V)) (t : Nat) (x : Str) (F : Str → Option V), NsOk NS ∧ vs = [.ref st, iN t, .str x] ∧ Sto K C nds tabs st H ∧ (valV tabs (Sum.inl (t : Int))).isSome = true ∧ Tri NS nds F 5 0 0 t ∧ x ∈ NS ∧ ∀ r H' ws e, H r = none → Same H H' → (ws ++ [e]).length ≤ 6 → wayF nds (mkS x) 6 0 t = some (ws ++ [e]) → H' r = some (.lst ((ws ++ [e]).map iN)) → Q (.ref r) H'
theorem way_S {vs : List V} {H : Hp} {Q : VK} {E : XK} (h : spWayS K C vs H Q E) : spWay K C vs H Q E := by
  obtain ⟨NS, st, nds, tabs, t, x, F, N, e, ⟨_, ln, dt, S⟩, h1, h2, hx, q⟩ := h
  obtain ⟨ws, z, n, e1, e2, e3, e4, e5⟩ := tri_looked N h2 hx
  exact ⟨st, ln, dt, nds, tabs, t, x, 6, _, e, S, h1, N.len x hx, N.lo x hx, by decide, e1, fun r H' hr s el => q r H' ws z hr s (wayF_len e1) e1 el⟩
end
end K6
set_option maxHeartbeats 4000000
namespace K6
open PySem L2
section
variable {P : Program} {w : World} {K : PySem.W.Frag} {mg : Str → Option Value} {base : Heap} {C Pl : Addr} {NS : List Str}
theorem and3 {n : Int} (h : 0 ≤ n) : Builtin.bitAnd n 3 = n % 4 := by
  unfold Builtin.bitAnd
  rw [decide_eq_true h, decide_eq_true (show (0 : Int) ≤ 3 by decide)]
  show ((n.toNat &&& 3 : Nat) : Int) = n % 4
  have : n.toNat &&& 3 = n.toNat % 4 := Nat.and_two_pow_sub_one_eq_mod n.toNat 2
  rw [this]
  omega
def spLDig : Sp := fun vs H Q _ => ∃ (n : Int) (k : Nat), vs = [.int n, .int k] ∧ 0 ≤ n ∧ k ≤ 1000 ∧ Q (.int (n / 4 ^ k % 4)) H
theorem scLD : FnScope ["_law_number", "_law_level"] ["_law_number", "_law_level"] (defScope s_l_digit) := ⟨rfl, rfl, rfl, by decide +kernel, rfl, by decide +kernel, by decide +kernel⟩
theorem ok_ldigit {f : Addr} {fd : FuncData} (F : Fun K "_law_digit" "_law_digit" s_l_digit f fd) : FnOk P w K mg base CX0 1 f fd ["_law_number", "_law_level"] spLDig := by
  refine F.ok scLD (fun vs H Q E h => ?_) (fun cdv A outer s H vs Q E hr h => ?_)
  · obtain ⟨n, k, rfl, _⟩ := h; rfl
  obtain ⟨n, k, rfl, hn, hk, q⟩ := h
  refine ⟨_, pss_one (ps_ret (pe_op op_and (pe_op op_shr (pv 0) (pe_op op_mul pe_int (pv 1))) pe_int)), ?_⟩
  refine ⟨_, rfl, _, rfl, _, _, rfl, rfl, .inl ⟨by decide, by decide⟩, _, _, rfl, rfl, (by show (0 : Int) ≤ 2 * (k : Int); omega), _, _, rfl, rfl, ?_⟩
  have e1 : (2 * (k : Int)).toNat = 2 * k := by omega
  have e2 : (2 : Int) ^ (2 * k) = 4 ^ k := by rw [Int.pow_mul]; rfl
  have h0 : 0 ≤ n / (2 : Int) ^ (2 * (k : Int)).toNat := Int.ediv_nonneg hn (by rw [e1, e2]; exact Int.pow_nonneg (by decide))
  have e3 : Builtin.bitAnd (n / 2 ^ (2 * (k : Int)).toNat) 3 = n / 4 ^ k % 4 := by rw [and3 h0, e1, e2]
  rw [← e3] at q
  exact q
def lmTo (l : List Nat) (i : Nat) : List Int := (List.range i).map fun (j : Nat) => ((j : Int) + 1) * (((l.getD j 0 : Nat) : Int) - 96)
theorem lm_sum (l : List Nat) : ∀ i, (lmTo l i).sum = mkTo l i
  | 0 => rfl
  | i + 1 => by
    unfold lmTo
    rw [List.range_succ, List.map_append, List.sum_append]
    have := lm_sum l i
    unfold lmTo at this
    rw [this]
    show mkTo l i + (((i : Int) + 1) * (((l.getD i 0 : Nat) : Int) - 96) + 0) = mkTo l i + ((i : Int) + 1) * (((l.getD i 0 : Nat) : Int) - 97 + 1)
    rw [show ((l.getD i 0 : Nat) : Int) - 97 + 1 = ((l.getD i 0 : Nat) : Int) - 96 by omega]; omega
def spLMark : Sp := fun vs H Q _ => ∃ x : Str, vs = [.str x] ∧ x.length ≤ 100 ∧ x.cps.toList.all letr = true ∧ ∀ H', Same H H' → Q (.int (mkS x)) H'
theorem scLM : FnScope ["_law_name"] ["_law_name"] (defScope s_l_mark) := ⟨rfl, rfl, rfl, by decide +kernel, rfl, by decide +kernel, by decide +kernel⟩
theorem ok_lmark {f : Addr} {fd : FuncData} (F : Fun K "_law_mark" "_law_mark" s_l_mark f fd) (T : Txt K mg) (hsum : mg "sum" = none) : FnOk P w K mg base CX0 1 f fd ["_law_name"] spLMark := by
  refine F.ok scLM (fun vs H Q E h => ?_) (fun cdv A outer s H vs Q E hr h => ?_)
  · obtain ⟨x, rfl, _⟩ := h; rfl
  obtain ⟨x, rfl, hx, hall, q⟩ := h
  have nd3 : (["_law_name", "_law_k", "_law_sign"] : List Str).Nodup := by decide +kernel
  refine' ⟨?t, ?h, ?r⟩
  case h =>
    conv => arg 2; whnf
    with_reducible refine' pss_one ?a1
    case a1 => exact ps_ret (pe_callB (call_sum rfl) rfl hsum (by decide +kernel) (pac (pe_compT (xa := "_law_k") (xb := "_law_sign") (CompOkT.of ["_law_name"] s_l_mark rfl rfl (by decide +kernel)) rfl (pi_enum1 rfl T.enumerate (pv 0)) (fun _ _ _ _ _ => pg_tup2 (K := K) rfl rfl (pg_name (i := 1) nd3 rfl (Or.inl rfl) (Or.inr rfl)) (pg_name (i := 2) nd3 rfl (Or.inl rfl) (Or.inr rfl))) (fun _ _ _ _ _ => pe_op op_mul (pv 1) (pe_op op_sub (pe_callB call_ord rfl T.ord (by decide +kernel) (pac (pv 2) pa_nil)) pe_int))) pa_nil))
  refine ⟨_, rfl, x, rfl, fun D hD => ?_⟩
  have hz : x.cps.size ≤ 100 := hx
  refine comp_enum (Nat.le_trans hz (by decide)) (fun i ys H' => ys = (lmTo x.cps.toList i).map V.int ∧ i ≤ x.cps.size ∧ H' D = some (.lst ys) ∧ Same H H') ⟨rfl, Nat.zero_le _, upd_same, same_new hD _⟩ ?_ ?_ ?_
  · rintro i ys H' ⟨rfl, _⟩; unfold lmTo; rw [List.length_map, List.length_map, List.length_range]
  · rintro i c t ys H1 wa wb hc ht ⟨rfl, hi, hD1, s1⟩
    have hi' : i < x.cps.size := (Array.getElem?_eq_some_iff.mp hc).1
    have htD : D ≠ t := fun z => by rw [z, ht] at hD1; cases hD1
    refine ⟨t, _, rfl, SqT.of upd_same, rfl, _, _, rfl, _, _, rfl, rfl, ⟨_, _, rfl⟩, ?_⟩
    refine ⟨_, rfl, _, rfl, _, rfl, rfl, _, _, rfl, rfl, _, _, rfl, rfl, .inl ⟨by omega, by omega⟩, by rw [upd_ne htD]; exact hD1, ?_, hi', upd_same, fun b o e => by rw [upd_ne (ne_of_none e hD)]; exact (s1.trans (same_new ht _)) _ _ e⟩
    have e1 : x.cps.toList.getD i 0 = c := by rw [List.getD_eq_getElem?_getD, Array.getElem?_toList, hc]; rfl
    unfold lmTo
    rw [List.range_succ, List.map_append, List.map_append]
    show _ ++ [V.int (((i : Int) + 1) * (((⟨#[c]⟩ : Str).cps.getD 0 0 : Nat) - 96))] = _ ++ [V.int (((i : Int) + 1) * (((x.cps.toList.getD i 0 : Nat) : Int) - 96))]
    rw [e1]; rfl
  · rintro ys H1 ⟨rfl, _, hD1, s1⟩
    refine ⟨D, _, rfl, SqL.of hD1, ?_, ?_, ?_⟩
    · unfold lmTo; rw [List.length_map, List.length_range]; omega
    · intro z hz'
      unfold lmTo at hz'
      obtain ⟨j, hj, rfl⟩ := List.mem_map.mp hz'
      have hj' : j < x.cps.size := List.mem_range.mp hj
      have hlj : j < x.cps.toList.length := by rw [Array.length_toList]; exact hj'
      have hc := List.all_eq_true.mp hall _ (List.getElem_mem hlj)
      have hg : x.cps.toList.getD j 0 = x.cps.toList[j] := by rw [List.getD_eq_getElem?_getD, List.getElem?_eq_getElem hlj]; rfl
      rw [hg]
      generalize x.cps.toList[j] = c at hc
      unfold letr at hc
      simp only [Bool.and_eq_true, decide_eq_true_eq] at hc
      rw [Int.natAbs_mul]
      exact Nat.le_trans (Nat.mul_le_mul (show ((j : Int) + 1).natAbs ≤ 100 by omega) (show ((c : Int) - 96).natAbs ≤ 26 by omega)) (by decide)
    · rw [lm_sum]; exact q H1 s1
end
end K6
set_option maxHeartbeats 4000000
namespace K6
open PySem L2
def fil (qs : List Nat) : List Nat := qs.filter fun p => !decide (p = 0)
def LeafAt (nds : List Nd) (num : Nat) : Prop := ∃ m ps, nds[num]? = some (.leaf m ps)
def Big (nds : List Nd) (qs : List Nat) : Prop := 2 ≤ (fil qs).length ∨ ∃ q qs', fil qs = [q] ∧ nds[q]? = some (.fork qs')
def Can (nds : List Nd) : Nat → Nat → Prop
  | 0, num => num = 0 ∨ LeafAt nds num
  | d + 1, num => (num = 0 ∨ LeafAt nds num) ∨ ∃ qs, nds[num]? = some (.fork qs) ∧ (∀ q ∈ qs, Can nds d q) ∧ Big nds qs
theorem LeafAt.mono {nds nds' : List Nd} {num : Nat} (h : LeafAt nds num) (e : NEx nds nds') : LeafAt nds' num := let ⟨m, ps, z⟩ := h; ⟨m, ps, e _ _ z⟩
theorem Big.mono {nds nds' : List Nd} {qs : List Nat} (h : Big nds qs) (e : NEx nds nds') : Big nds' qs := by
  rcases h with h | ⟨q, qs', h1, h2⟩
  · exact .inl h
  · exact .inr ⟨q, qs', h1, e _ _ h2⟩
theorem Can.mono {nds nds' : List Nd} (e : NEx nds nds') : ∀ {d num : Nat}, Can nds d num → Can nds' d num
  | 0, _, h => h.imp id fun z => z.mono e
  | d + 1, _, .inl h => .inl (h.imp id fun z => z.mono e)
  | d + 1, _, .inr ⟨qs, h1, h2, h3⟩ => .inr ⟨qs, e _ _ h1, fun q hq => Can.mono e (h2 q hq), h3.mono e⟩
theorem Can.low {nds : List Nd} {d num : Nat} (h : num = 0 ∨ LeafAt nds num) : Can nds d num := by
  cases d with
  | zero => exact h
  | succ d => exact .inl h
theorem Can.kind {nds : List Nd} {d num : Nat} (h : Can nds d num) (h0 : num ≠ 0) : LeafAt nds num ∨ ∃ qs, nds[num]? = some (.fork qs) := by
  cases d with
  | zero => exact .inl (h.resolve_left h0)
  | succ d =>
    rcases h with h | ⟨qs, h1, _⟩
    · exact .inl (h.resolve_left h0)
    · exact .inr ⟨qs, h1⟩
theorem PutR.ext {x : Str} {v : V} {nds nds' : List Nd} {lev num num' : Nat} (h : PutR x v nds lev num nds' num') : NEx nds nds' := by
  induction h with
  | leaf => exact NEx.app _ _
  | fork _ _ _ _ _ ih => exact ih.trans (NEx.app _ _)
theorem TakR.ext {x : Str} {nds nds' : List Nd} {lev num num' : Nat} (h : TakR x nds lev num nds' num') : NEx nds nds' := by
  induction h with
  | gone => exact NEx.refl _
  | less => exact NEx.app _ _
  | up _ _ _ _ _ ih => exact ih
  | fork _ _ _ _ ih => exact ih.trans (NEx.app _ _)
end K6
set_option maxHeartbeats 4000000
namespace K6
open PySem L2
inductive Way (nds : List Nd) (m : Int) : Nat → Nat → List Nat → Prop
  | stop {lev num : Nat} {n : Nd} : nds[num]? = some n → (∀ qs, n ≠ .fork qs) → Way nds m lev num [num]
  | go {lev num q : Nat} {qs ws : List Nat} : nds[num]? = some (.fork qs) → qs[dig m lev]? = some q → Way nds m (lev + 1) q ws → Way nds m lev num (num :: ws)
theorem Way.mono {nds nds' : List Nd} {m : Int} {lev num : Nat} {ws : List Nat} (e : NEx nds nds') (h : Way nds m lev num ws) : Way nds' m lev num ws := by
  induction h with
  | stop h1 h2 => exact .stop (e _ _ h1) h2
  | go h1 h2 _ ih => exact .go (e _ _ h1) h2 ih
theorem Way.ne {nds : List Nd} {m : Int} {lev num : Nat} {ws : List Nat} (h : Way nds m lev num ws) : ws ≠ [] := by
  cases h <;> exact List.cons_ne_nil _ _
theorem Way.at {nds : List Nd} {m : Int} {lev num : Nat} {ws : List Nat} {n : Nd} (h : Way nds m lev num ws) (e : nds[num]? = some n) (hn : ∀ qs, n ≠ .fork qs) : ws = [num] := by
  cases h with
  | stop => rfl
  | go h1 => rw [e] at h1; cases h1; exact absurd rfl (hn _)
theorem Way.fork {nds : List Nd} {m : Int} {lev num q : Nat} {qs ws : List Nat} (h : Way nds m lev num ws) (e : nds[num]? = some (.fork qs)) (hq : qs[dig m lev]? = some q) : ∃ ws1, ws = num :: ws1 ∧ Way nds m (lev + 1) q ws1 := by
  cases h with
  | stop h1 h2 => rw [e] at h1; cases h1; exact absurd rfl (h2 _)
  | go h1 h2 h3 => rw [e] at h1; cases h1; rw [hq] at h2; cases h2; exact ⟨_, rfl, h3⟩
theorem wayF_way {nds : List Nd} {m : Int} : ∀ {f lev num : Nat} {ws : List Nat}, wayF nds m f lev num = some ws → Way nds m lev num ws
  | 0, _, _, _, h => by cases h
  | f + 1, lev, num, ws, h => by
    unfold wayF at h
    cases e : nds[num]? with
    | none => rw [e] at h; cases h
    | some n =>
      rw [e] at h
      cases n with
      | fork qs =>
        have h' : ((qs[dig m lev]?).bind fun q => (wayF nds m f (lev + 1) q).map (num :: ·)) = some ws := h
        cases e2 : qs[dig m lev]? with
        | none => rw [e2] at h'; cases h'
        | some q =>
          rw [e2] at h'
          have h2 : (wayF nds m f (lev + 1) q).map (num :: ·) = some ws := h'
          cases e3 : wayF nds m f (lev + 1) q with
          | none => rw [e3] at h2; cases h2
          | some w1 =>
            rw [e3] at h2
            cases (show some (num :: w1) = some ws from h2)
            exact .go e e2 (wayF_way e3)
      | bare => cases (show some [num] = some ws from h); exact .stop e (fun qs z => by cases z)
      | leaf m' ps => cases (show some [num] = some ws from h); exact .stop e (fun qs z => by cases z)
def offP (ps : List Nat) (d : Nat) : List Nat := ps.take d ++ ps.drop (d + 1)
theorem offP_set (ps : List Nat) (d v : Nat) : offP (ps.set d v) d = offP ps d := by
  unfold offP
  rw [List.take_set_of_le (Nat.le_refl _), List.drop_set_of_lt (Nat.lt_succ_self _)]
def OffW (nds : List Nd) (s lev : Nat) (m : Int) (ow : List Nat) : Prop :=
  nds[s]? = some (.fork ow) ∨ ∃ m' ps, nds[s]? = some (.leaf m' ps) ∧ ow = if dig m' lev = dig m lev then [0, 0, 0, 0] else [0, 0, 0, 0].set (dig m' lev) s
theorem off_leaf {num lev : Nat} {m m' : Int} {ps : List (Str × V)} : offP (forkP num lev (.leaf m' ps)) (dig m lev) = offP (if dig m' lev = dig m lev then [0, 0, 0, 0] else [0, 0, 0, 0].set (dig m' lev) num) (dig m lev) := by
  have h1 := dig_lt m lev
  have h2 := dig_lt m' lev
  show offP ([0, 1, 2, 3].map fun g => if g = dig m' lev then num else 0) (dig m lev) = _
  generalize dig m lev = a at *
  generalize dig m' lev = b at *
  have ha : a = 0 ∨ a = 1 ∨ a = 2 ∨ a = 3 := by omega
  have hb : b = 0 ∨ b = 1 ∨ b = 2 ∨ b = 3 := by omega
  rcases ha with rfl | rfl | rfl | rfl <;> rcases hb with rfl | rfl | rfl | rfl <;> rfl
def Md (x : Str) (nds nds' : List Nd) (lev num' : Nat) (os : List Nat) : Prop := ∃ (ws : List Nat) (e : Nat) (n : Nd), Way nds' (mkS x) lev num' (ws ++ [e]) ∧ nds'[e]? = some n ∧ (∀ qs, n ≠ .fork qs) ∧
  ws ++ (if n.hasM (mkS x) = true then [e] else []) = (List.range' nds.length (nds'.length - nds.length)).reverse ∧ nds.length ≤ nds'.length ∧
  ∀ (i w : Nat), ws[i]? = some w → ∃ ps s ow, nds'[w]? = some (.fork ps) ∧ os[min i (os.length - 1)]? = some s ∧ OffW nds s (lev + i) (mkS x) ow ∧ offP ps (dig (mkS x) (lev + i)) = offP ow (dig (mkS x) (lev + i))
theorem rev_up {L k : Nat} (h : L ≤ k) : k :: (List.range' L (k - L)).reverse = (List.range' L (k + 1 - L)).reverse := by
  rw [show k + 1 - L = (k - L) + 1 by omega, List.range'_1_concat, List.reverse_append]
  rw [show L + (k - L) = k by omega]; rfl
theorem Md.up {x : Str} {nds nds1 : List Nd} {lev num q num1 : Nat} {ps fp : List Nat} {ow os os1 : List Nat} (M : Md x nds nds1 (lev + 1) num1 os1) (hq : fp[dig (mkS x) lev]? = some q) (hs : os[0]? = some num) (ho : OffW nds num lev (mkS x) ow) (he : offP fp (dig (mkS x) lev) = offP ow (dig (mkS x) lev))
    (hos : ∀ (i : Nat) (w s : Nat), (∃ ws e, Way nds1 (mkS x) (lev + 1) num1 (ws ++ [e]) ∧ ws[i]? = some w) → os1[min i (os1.length - 1)]? = some s → os[min (i + 1) (os.length - 1)]? = some s) : Md x nds (nds1 ++ [.fork (fp.set (dig (mkS x) lev) num1)]) lev nds1.length os := by
  obtain ⟨ws, e, n, W, hn, hf, hr, hle, hp⟩ := M
  have ex := NEx.app nds1 (.fork (fp.set (dig (mkS x) lev) num1))
  have top : (nds1 ++ [Nd.fork (fp.set (dig (mkS x) lev) num1)])[nds1.length]? = some (.fork (fp.set (dig (mkS x) lev) num1)) := by rw [List.getElem?_append_right (Nat.le_refl _), Nat.sub_self]; rfl
  refine ⟨nds1.length :: ws, e, n, .go top (by rw [List.getElem?_set_self (List.getElem?_eq_some_iff.mp hq).1]) (W.mono ex), ex _ _ hn, hf, ?_, ?_, fun i w hw => ?_⟩
  · rw [List.cons_append, hr, List.length_append]; exact rev_up hle
  · rw [List.length_append]; exact Nat.le_trans hle (Nat.le_add_right _ _)
  · cases i with
    | zero =>
      cases (show some nds1.length = some w from hw)
      exact ⟨_, num, ow, top, by rw [Nat.zero_min]; exact hs, ho, by rw [Nat.add_zero, offP_set]; exact he⟩
    | succ i =>
      have hw' : ws[i]? = some w := hw
      obtain ⟨ps, s, ow', h1, h2, h3, h4⟩ := hp i w hw'
      rw [show lev + (i + 1) = lev + 1 + i by omega]
      exact ⟨ps, s, ow', ex _ _ h1, hos i w s ⟨ws, e, W, hw'⟩ h2, h3, h4⟩
theorem min_up {os1 : List Nat} {num i s : Nat} (hne : os1 ≠ []) (h : os1[min i (os1.length - 1)]? = some s) : (num :: os1)[min (i + 1) ((num :: os1).length - 1)]? = some s := by
  have hl := List.length_pos_iff.mpr hne
  rw [show min (i + 1) ((num :: os1).length - 1) = min i (os1.length - 1) + 1 by rw [List.length_cons]; omega]
  exact h
theorem PutR.made {x : Str} {v : V} {nds nds' : List Nd} {lev num num' : Nat} (h0 : nds[0]? = some .bare) (h : PutR x v nds lev num nds' num') : ∀ {os : List Nat}, Way nds (mkS x) lev num os → Md x nds nds' lev num' os := by
  induction h with
  | @leaf lev num n qs hn hc hp hs =>
    intro os _
    have top : (nds ++ [Nd.leaf (mkS x) qs])[nds.length]? = some (.leaf (mkS x) qs) := by rw [List.getElem?_append_right (Nat.le_refl _), Nat.sub_self]; rfl
    refine ⟨[], nds.length, .leaf (mkS x) qs, .stop top (fun qs z => by cases z), top, (fun qs z => by cases z), ?_, by rw [List.length_append]; exact Nat.le_add_right _ _, fun i w h => by simp at h⟩
    have hM : (Nd.leaf (mkS x) qs).hasM (mkS x) = true := decide_eq_true rfl
    rw [if_pos hM, List.length_append, show nds.length + [Nd.leaf (mkS x) qs].length - nds.length = 1 by simp]; rfl
  | @fork nds1 lev num q1 num1 n hn hz hm hq hr ih =>
    intro os hw
    cases n with
    | bare => simp [forkP] at hq
    | fork qs =>
      obtain ⟨os1, rfl, hw1⟩ := hw.fork hn hq
      exact Md.up (ps := []) (ih hw1) hq rfl (.inl hn) rfl fun i w s _ h => min_up hw1.ne h
    | leaf m' ps =>
      have hos := hw.at hn (fun qs z => by cases z)
      subst hos
      have hq' : q1 = num ∨ q1 = 0 := by
        have := List.mem_of_getElem? hq
        obtain ⟨g, _, e⟩ := List.mem_map.mp this
        split at e
        · exact .inl e.symm
        · exact .inr e.symm
      refine Md.up (ps := []) (os1 := [q1]) (ih ?_) hq rfl (.inr ⟨m', ps, hn, rfl⟩) off_leaf fun i w s hx h => ?_
      · rcases hq' with z | z
        · rw [z]; exact .stop hn (fun qs z => by cases z)
        · rw [z]; exact .stop h0 (fun qs z => by cases z)
      · rcases hq' with z | z
        · rw [z] at h
          rw [show min i ([num].length - 1) = 0 by simp] at h
          rw [show min (i + 1) ([num].length - 1) = 0 by simp]
          exact h
        · obtain ⟨ws, e, W, hwi⟩ := hx
          rw [z] at hr
          cases hr with
          | leaf _ _ _ _ =>
            have := W.at (n := .leaf (mkS x) _) (by rw [List.getElem?_append_right (Nat.le_refl _), Nat.sub_self]; rfl) (fun qs z => by cases z)
            have : ws = [] := by
              cases ws with
              | nil => rfl
              | cons a r => have h9 := congrArg List.length this; simp at h9
            rw [this] at hwi; simp at hwi
          | fork _ h2 => exact absurd rfl h2
theorem TakR.made {NS : List Str} {x : Str} {nds nds' : List Nd} {lev num num' : Nat} (N : NsOk NS) (hx : x ∈ NS) (h0 : nds[0]? = some .bare) (h : TakR x nds lev num nds' num') : ∀ {d r : Nat} {F : Str → Option V}, Tri NS nds F d lev r num → r < 4 ^ lev → mkN x % 4 ^ lev = r → ∀ {os : List Nat}, Way nds (mkS x) lev num os → Md x nds nds' lev num' os := by
  induction h with
  | @gone lev num ps hn hb =>
    intro d r F _ _ _ os _
    exact ⟨[], 0, .bare, .stop h0 (fun qs z => by cases z), h0, (fun qs z => by cases z), by rw [Nat.sub_self]; rfl, Nat.le_refl _, fun i w h => by simp at h⟩
  | @less lev num ps qs hn hb hp hs =>
    intro d r F _ _ _ os _
    have top : (nds ++ [Nd.leaf (mkS x) qs])[nds.length]? = some (.leaf (mkS x) qs) := by rw [List.getElem?_append_right (Nat.le_refl _), Nat.sub_self]; rfl
    refine ⟨[], nds.length, .leaf (mkS x) qs, .stop top (fun qs z => by cases z), top, (fun qs z => by cases z), ?_, by rw [List.length_append]; exact Nat.le_add_right _ _, fun i w h => by simp at h⟩
    have hM : (Nd.leaf (mkS x) qs).hasM (mkS x) = true := decide_eq_true rfl
    rw [if_pos hM, List.length_append, show nds.length + [Nd.leaf (mkS x) qs].length - nds.length = 1 by simp]; rfl
  | @up nds1 lev num q1 num1 q qs m ps hn hq hr hf hl ih =>
    intro d r F tri hlt hmod os hw
    obtain ⟨qs', hn', hlen, parts, d', hd'⟩ : ∃ qs', nds[num]? = some (.fork qs') ∧ qs'.length = 4 ∧ ∃ d', (∀ i q, qs'[i]? = some q → Tri NS nds F d' (lev + 1) (r + i * 4 ^ lev) q) ∧ d = d' + 1 := by
      cases d with
      | zero =>
        rcases tri with ⟨_, z, _⟩ | ⟨_, _, z, _⟩
        · rw [hn] at z; cases z
        · rw [hn] at z; cases z
      | succ d =>
        rcases tri with (⟨_, z, _⟩ | ⟨_, _, z, _⟩) | ⟨qs', h1, h2, h3⟩
        · rw [hn] at z; cases z
        · rw [hn] at z; cases z
        · exact ⟨qs', h1, h2, d, h3, rfl⟩
    rw [hn] at hn'
    cases hn'
    obtain ⟨os1, rfl, hw1⟩ := hw.fork hn hq
    have hmod1 : mkN x % 4 ^ (lev + 1) = r + dig (mkS x) lev * 4 ^ lev := by rw [res_mod, hmod, dig_nat (N.lo x hx)]; rfl
    obtain ⟨ws, e, n, W, hne, hnf, hrg, hle, hp⟩ := ih (d' _ _ hq) (res_lt hlt (dig_lt _ _)) hmod1 hw1
    have hin : q ∈ qs.set (dig (mkS x) lev) num1 ∧ q ≠ 0 := by
      have : q ∈ (qs.set (dig (mkS x) lev) num1).filter fun p => !decide (p = 0) := by rw [hf]; exact List.mem_cons_self
      obtain ⟨h1, h2⟩ := List.mem_filter.mp this
      exact ⟨h1, fun z => by rw [z] at h2; simp at h2⟩
    by_cases hz : num1 = 0
    · subst hz
      have hb1 : nds1[0]? = some .bare := hr.ext _ _ h0
      have hW := W.at hb1 (fun qs z => by cases z)
      have hws : ws = [] ∧ e = 0 := by
        cases ws with
        | nil => exact ⟨rfl, by simpa using hW⟩
        | cons a r => have h9 := congrArg List.length hW; simp at h9
      obtain ⟨rfl, rfl⟩ := hws
      rw [hb1] at hne
      cases hne
      have hlen0 : nds1.length - nds.length = 0 := by
        have h9 := congrArg List.length hrg
        rw [List.length_reverse, List.length_range'] at h9
        exact h9.symm
      obtain ⟨j, hj⟩ := List.mem_iff_getElem?.mp hin.1
      have hjd : j ≠ dig (mkS x) lev := fun z => by
        rw [z, List.getElem?_set_self (List.getElem?_eq_some_iff.mp hq).1] at hj
        exact hin.2 (Option.some.inj hj).symm
      rw [List.getElem?_set_ne (fun z => hjd z.symm)] at hj
      have hql : q < nds.length := by have := (List.getElem?_eq_some_iff.mp hl).1; omega
      have hlo : nds[q]? = some (.leaf m ps) := by
        have h8 := List.getElem?_eq_getElem hql
        have h9 := hr.ext _ _ h8
        rw [hl] at h9
        rw [h8]; exact h9.symm
      have hmm : m ≠ mkS x := fun z => by
        have tj := d' j q hj
        have key : ∃ m2 ps2, nds[q]? = some (.leaf m2 ps2) ∧ m2.toNat % 4 ^ (lev + 1) = r + j * 4 ^ lev := by
          have te : TriE NS nds F (lev + 1) (r + j * 4 ^ lev) q := by
            cases parts with
            | zero => exact tj
            | succ p =>
              rcases tj with tj | ⟨_, z2, _⟩
              · exact tj
              · rw [hlo] at z2; cases z2
          rcases te with ⟨_, z2, _⟩ | ⟨m2, ps2, z2, _, z3, _⟩
          · rw [hlo] at z2; cases z2
          · exact ⟨m2, ps2, z2, z3⟩
        obtain ⟨m2, ps2, z2, z3⟩ := key
        rw [hlo] at z2
        cases z2
        rw [z] at z3
        have z4 : mkN x % 4 ^ (lev + 1) = r + j * 4 ^ lev := z3
        rw [hmod1] at z4
        have hp4 : 0 < 4 ^ lev := Nat.pow_pos (by decide)
        have : dig (mkS x) lev * 4 ^ lev = j * 4 ^ lev := by omega
        exact hjd (Nat.eq_of_mul_eq_mul_right hp4 this).symm
      refine ⟨[], q, .leaf m ps, .stop hl (fun qs z => by cases z), hl, (fun qs z => by cases z), ?_, hle, fun i w h => by simp at h⟩
      have hM : ¬ (Nd.leaf m ps).hasM (mkS x) = true := fun z => hmm (of_decide_eq_true z)
      rw [if_neg hM, hlen0]; rfl
    · have hmem : num1 ∈ (qs.set (dig (mkS x) lev) num1).filter fun p => !decide (p = 0) := by
        rw [List.mem_filter]
        refine ⟨List.mem_of_getElem? (List.getElem?_set_self (List.getElem?_eq_some_iff.mp hq).1), by simp [hz]⟩
      rw [hf] at hmem
      have hqn : num1 = q := List.mem_singleton.mp hmem
      subst hqn
      have hW := W.at hl (fun qs z => by cases z)
      have hws : ws = [] ∧ e = num1 := by
        cases ws with
        | nil => exact ⟨rfl, by simpa using hW⟩
        | cons a r => have h9 := congrArg List.length hW; simp at h9
      obtain ⟨rfl, rfl⟩ := hws
      exact ⟨[], e, n, .stop hne hnf, hne, hnf, hrg, hle, fun i w h => by simp at h⟩
  | @fork nds1 lev num q1 num1 qs hn hq hr hf ih =>
    intro d r F tri hlt hmod os hw
    obtain ⟨d', tq⟩ : ∃ d', Tri NS nds F d' (lev + 1) (r + dig (mkS x) lev * 4 ^ lev) q1 := by
      cases d with
      | zero =>
        rcases tri with ⟨_, z, _⟩ | ⟨_, _, z, _⟩
        · rw [hn] at z; cases z
        · rw [hn] at z; cases z
      | succ d =>
        rcases tri with (⟨_, z, _⟩ | ⟨_, _, z, _⟩) | ⟨qs', h1, h2, h3⟩
        · rw [hn] at z; cases z
        · rw [hn] at z; cases z
        · rw [hn] at h1; cases h1; exact ⟨d, h3 _ _ hq⟩
    obtain ⟨os1, rfl, hw1⟩ := hw.fork hn hq
    have hmod1 : mkN x % 4 ^ (lev + 1) = r + dig (mkS x) lev * 4 ^ lev := by rw [res_mod, hmod, dig_nat (N.lo x hx)]; rfl
    exact Md.up (ps := []) (ih tq (res_lt hlt (dig_lt _ _)) hmod1 hw1) hq rfl (.inl hn) rfl fun i w s _ h => min_up hw1.ne h
end K6
set_option maxHeartbeats 2000000
namespace L2
open PySem
def AnyL (k : Nat) : Res := fun l h => ∃ xs, h l = some (.lst xs) ∧ xs.length ≤ k
instance {k : Nat} : Up (AnyL k) := ⟨fun ⟨xs, e, l⟩ s => ⟨xs, s _ _ e, l⟩⟩
end L2
set_option maxHeartbeats 2000000
namespace L2
open PySem PySem.W PySem.Spec PyProof.Rows
section
variable {X : Cx}
end
end L2
set_option maxHeartbeats 2000000
namespace L2
open PySem
def tCut (t u : TS) : TS := fun D σ H => ∃ I : St → Hp → Prop, t { D with nx := I } σ H ∧ ∀ σ' H', I σ' H' → u D σ' H'
theorem pss_cut {X : Cx} {st : Stmt} {rest : List Stmt} {t u : TS} (h1 : PS X st t) (h2 : PSs X rest u) : PSs X (st :: rest) (tCut t u) := by
  intro pins s σ H D I h
  obtain ⟨J, h, g⟩ := h
  refine wpAny_execs_cons (thn (h1 pins s σ H { D with nx := J } I h) fun f s1 q => ?_)
  cases f with
  | next =>
    obtain ⟨σ', H', I', q⟩ := q
    exact h2 pins s1 σ' H' D I' (g _ _ q)
  | ret v => exact q
  | brk => exact q
  | cont => exact q
abbrev r1 (u : Addr × Addr) : V := .ref u.1
def PastX (es : List (Nat × List (Str × V))) (us : List (Addr × Addr)) : Res := fun l h => h l = some (.lst (us.map r1)) ∧ us.length = es.length ∧ ∀ (i : Nat) (u : Addr × Addr) (e : Nat × List (Str × V)), us[i]? = some u → es[i]? = some e → h u.1 = some (.tup [.int (e.1 : Int), .ref u.2]) ∧ h u.2 = some (.dK (e.2.map kP))
def Past (es : List (Nat × List (Str × V))) : Res := fun l h => ∃ us, PastX es us l h
instance {es : List (Nat × List (Str × V))} {us : List (Addr × Addr)} : Up (PastX es us) := ⟨fun ⟨e, l, h⟩ s => ⟨s _ _ e, l, fun i u e e1 e2 => ⟨s _ _ (h i u e e1 e2).1, s _ _ (h i u e e1 e2).2⟩⟩⟩
instance {es : List (Nat × List (Str × V))} : Up (Past es) := ⟨fun ⟨us, e, l, h⟩ s => ⟨us, s _ _ e, l, fun i u e e1 e2 => ⟨s _ _ (h i u e e1 e2).1, s _ _ (h i u e e1 e2).2⟩⟩⟩
theorem Past.at {es : List (Nat × List (Str × V))} {l : Addr} {h : Hp} {i : Nat} {e : Nat × List (Str × V)} (D : Past es l h) (he : es[i]? = some e) : ∃ (us : List (Addr × Addr)) (u : Addr × Addr), h l = some (.lst (us.map r1)) ∧ us.length = es.length ∧ us[i]? = some u ∧ h u.1 = some (.tup [.int (e.1 : Int), .ref u.2]) ∧ h u.2 = some (.dK (e.2.map kP)) := by
  obtain ⟨us, el, hl, hd⟩ := D
  have hi : i < us.length := by rw [hl]; exact (List.getElem?_eq_some_iff.mp he).1
  exact ⟨us, us[i], el, hl, List.getElem?_eq_getElem hi, hd i _ e (List.getElem?_eq_getElem hi) he⟩
end L2
set_option maxHeartbeats 2000000
namespace L2
open PySem PySem.Spec PyProof.Rows
section
variable {X : Cx} {pins : List (Addr × Obj)} {σ : St} {H : Hp} {s : Shared} {d : Addr} {o : Obj} {kvs : List (Key × V)}
end
section
variable {X : Cx} {tg : Expr}
end
end L2
set_option maxHeartbeats 2000000
namespace L2
open PySem PySem.W PySem.Spec PyProof.Rows
section
variable {X : Cx}
end
end L2
set_option maxHeartbeats 2000000
namespace L2
open PySem
end L2
set_option maxHeartbeats 2000000
namespace L2
open PySem PySem.W PySem.Spec PyProof.Rows
section
variable {X : Cx}
theorem call_sorted_ints : CallR X (.builtin "sorted") (fun xs H Q => ∃ (l0 : Addr) (ns : List Int), xs = [.ref l0] ∧ SqL X.K H l0 (ns.map V.int) ∧ ns.length < 64 ∧
    ∀ (l : Addr) (ns' : List Int), H l = none → ns'.Perm ns → ns'.Pairwise (· ≤ ·) → Q (.ref l) (upd H l (.lst (ns'.map V.int)))) := by
  intro pins s σ H xs us Q I r h
  obtain ⟨l0, ns, rfl, el, h64, q⟩ := h
  obtain ⟨u, rfl, ru⟩ := vals1 r
  cases ru
  obtain ⟨its, rv, p, hz⟩ := I.list el
  have hI := intsAre_of rv
  have hl : its.length = ns.length := by have := rv.length; rw [List.length_map] at this; exact this.symm
  refine sorted_ints (vs := its) p.isList hI (by omega) fun out ns' ho hp hs => ?_
  obtain ⟨e, he⟩ := sortedAll_at s.heap its out
  have hge : s.heap.objs.size ≤ s.heap.objs.size + 1 := Nat.le_succ _
  refine ⟨.ref (s.heap.objs.size + 1), _, I.laid (t' := s.toks) (h' := sortedAll s.heap its out) (o := .lst (ns'.map V.int)) (fun b o hb => sortedAll_old hb) hge ⟨?_, out.toList, e, vals_ints ho, by rw [Array.toArray_toList]; exact he⟩, rfl, q _ ns' (I.hok.fresh hge) hp hs⟩
  rw [List.length_map, hp.length_eq, sizeLine_eq]; omega
theorem vals_ix : ∀ {xs : List V} {us : List Value}, xs.length = us.length → (∀ (j : Nat) x u, xs[j]? = some x → us[j]? = some u → RelV x u) → Vals xs us
  | [], [], _, _ => .nil
  | [], _ :: _, e, _ => by cases e
  | _ :: _, [], e, _ => by cases e
  | x :: xs, u :: us, e, h => .cons (h 0 x u rfl rfl) (vals_ix (by simpa using e) fun j y v e1 e2 => h (j + 1) y v e1 e2)
def rngL (lo : Int) (n : Nat) : List Int := (List.range n).map fun (i : Nat) => lo + (i : Int)
theorem call_range2 : CallR X (.type "range") (fun xs H Q => ∃ (lo hi : Int), xs = [.int lo, .int hi] ∧ ∀ r, H r = none → Q (.ref r) (upd H r (.rng lo hi))) := by
  intro pins s σ H xs us Q I r h
  obtain ⟨lo, hi, rfl, q⟩ := h
  obtain ⟨u, v, rfl, ⟨t, rfl⟩, ⟨t', rfl⟩⟩ := vals2 r
  exact call_range_2 ⟨.ref s.heap.objs.size, _, I.laid (t' := s.toks + 1) (o := .rng lo hi) (fun b o e => Heap.get?_push_of_some _ e) (Nat.le_refl _) ⟨t, t', s.toks, Heap.get?_push_size _ rfl⟩, rfl, q _ (I.hok.fresh (Nat.le_refl _))⟩
theorem call_list_rng (hc : X.calm = true) : CallR X (.type "list") (fun xs H Q => ∃ (r : Addr) (lo hi : Int), xs = [.ref r] ∧ H r = some (.rng lo hi) ∧ -(2 ^ 62) ≤ lo ∧ lo < 2 ^ 62 ∧ -(2 ^ 62) ≤ hi ∧ hi < 2 ^ 62 ∧ hi - lo ≤ 10000 ∧
    ∀ (l : Addr), H l = none → Q (.ref l) (upd H l (.lst ((rngL lo (hi - lo).toNat).map V.int)))) := by
  intro pins s σ H xs us Q I r h
  obtain ⟨r0, lo, hi, rfl, er, h1, h2, h3, h4, h5, q⟩ := h
  obtain ⟨u, rfl, ru⟩ := vals1 r
  cases ru
  obtain ⟨t, u, v, hg⟩ := (show ObjOk X.prog X.w H s.heap r0 (.rng lo hi) from I.hok r0 _ er)
  refine call_list_range (n := (hi - lo).toNat) (I.ok.hd hc) (r := r0) (a := lo) (b := hi) (c := 1) (t := t) (u := u) (v := v) hg (small_one h1 h2 h3 h4) (rangeSize_nat _ _) (by omega) fun h' tk acc c' hk ha hI => ?_
  have hv : Vals ((rngL lo (hi - lo).toNat).map V.int) acc.toList := by
    have h9 : acc.toList.length = (hi - lo).toNat := by rw [Array.length_toList]; exact hI.1
    have h8 : (rngL lo (hi - lo).toNat).length = (hi - lo).toNat := by unfold rngL; rw [List.length_map, List.length_range]
    refine vals_ix (by rw [h9, List.length_map]; exact h8) fun j x u e1 e2 => ?_
    obtain ⟨t, rfl⟩ := hI.2 j u (by rw [← Array.getElem?_toList]; exact e2)
    unfold rngL at e1
    rw [List.map_map, List.getElem?_map] at e1
    cases e3 : (List.range (hi - lo).toNat)[j]? with
    | none => rw [e3] at e1; cases e1
    | some i =>
      rw [e3] at e1
      have hi9 : i = j := by
        have := List.getElem?_eq_some_iff.mp e3
        obtain ⟨hj, e4⟩ := this
        rw [List.getElem_range] at e4; exact e4.symm
      subst hi9
      cases (show some (V.int (lo + (i : Int))) = some x from e1)
      exact ⟨t, by rw [Int.mul_one]⟩
  refine ⟨.ref s.heap.objs.size, _, I.laid (t' := tk) (h' := h') (o := .lst ((rngL lo (hi - lo).toNat).map V.int)) hk (Nat.le_refl _) ⟨?_, acc.toList, c', hv, by rw [Array.toArray_toList]; exact ha⟩, rfl, q _ (I.hok.fresh (Nat.le_refl _))⟩
  unfold rngL
  rw [List.length_map, List.length_map, List.length_range, sizeLine_eq]; omega
end
end L2
set_option maxHeartbeats 4000000
namespace K6
open PySem L2
def HeldOk (NS : List Str) (ps : List (Str × V)) : Prop := (ps.map (·.1)).Nodup ∧ ∀ p ∈ ps, p.1 ∈ NS ∧ IsVal p.2
theorem HeldOk.few {NS : List Str} {ps : List (Str × V)} (h : HeldOk NS ps) : ps.length ≤ NS.length := by
  have := len_sub h.1 (N := NS) fun x hx => by obtain ⟨p, hp, rfl⟩ := List.mem_map.mp hx; exact (h.2 p hp).1
  rwa [List.length_map] at this
theorem str_int (i : Int) : (toString i : Str) = Str.ofString (toString i) := rfl
def mkB : Nat → Int
  | 0 => 0
  | i + 1 => mkB i + ((i : Int) + 1) * 26
theorem mk_bnd {l : List Nat} : ∀ i, i ≤ l.length → l.all letr = true → 0 ≤ mkTo l i ∧ mkTo l i ≤ mkB i
  | 0, _, _ => ⟨Int.le_refl _, Int.le_refl _⟩
  | i + 1, hi, ha => by
    obtain ⟨h0, h1⟩ := mk_bnd i (by omega) ha
    have hlj : i < l.length := hi
    have hc := List.all_eq_true.mp ha _ (List.getElem_mem hlj)
    have hg : l.getD i 0 = l[i] := by rw [List.getD_eq_getElem?_getD, List.getElem?_eq_getElem hlj]; rfl
    unfold letr at hc
    simp only [Bool.and_eq_true, decide_eq_true_eq] at hc
    show 0 ≤ mkTo l i + ((i : Int) + 1) * (((l.getD i 0 : Nat) : Int) - 97 + 1) ∧ mkTo l i + ((i : Int) + 1) * (((l.getD i 0 : Nat) : Int) - 97 + 1) ≤ mkB i + ((i : Int) + 1) * 26
    rw [hg]
    have p0 : (0 : Int) ≤ ((i : Int) + 1) * (((l[i] : Nat) : Int) - 97 + 1) := Int.mul_nonneg (by omega) (by omega)
    have p1 : ((i : Int) + 1) * (((l[i] : Nat) : Int) - 97 + 1) ≤ ((i : Int) + 1) * 26 := Int.mul_le_mul_of_nonneg_left (by omega) (by omega)
    omega
theorem ns_ok {NS : List Str} (hl : NS.length ≤ 50) (h : ∀ x ∈ NS, NameOk x) : NsOk NS := by
  have b : ∀ x ∈ NS, 0 ≤ mkS x ∧ mkS x < 1024 := fun x hx => by
    obtain ⟨h1, h8, ha⟩ := h x hx
    obtain ⟨g0, g1⟩ := mk_bnd (l := x.cps.toList) x.length (by rw [← str_len]; exact Nat.le_refl _) ha
    have hB : ∀ i, i ≤ 8 → mkB i < 1024 := by decide
    have := hB x.length h8
    exact ⟨g0, by show mkTo _ _ < _; omega⟩
  exact ⟨by omega, fun x hx => by have := (h x hx).2.1; omega, fun x hx => (b x hx).1, fun x hx => (b x hx).2⟩
def ScR (K : PySem.W.Frag) (ns : List Int) : Res := fun a h => SqL K h a (ns.map V.int)
theorem sq_up {K : PySem.W.Frag} {H H' : Hp} {a : Addr} {xs : List V} (h : SqL K H a xs) (s : Same H H') : SqL K H' a xs := by
  rcases h with (h | ⟨o, h⟩) | h
  · exact .inl (.inl (s _ _ h))
  · exact .inl (.inr ⟨o, s _ _ h⟩)
  · exact .inr h
instance {K : PySem.W.Frag} {ns : List Int} : Up (ScR K ns) := ⟨fun h s => sq_up h s⟩
theorem sep_lam {H : Hp} {Pl : Addr} {lp : Pos} {q : Str} {Δ : Rs} (hL : LamAt H Pl lp q) (S : Sep Δ (cut H (some_of H [Pl]))) : Sep ((Pl, LamR lp q) :: Δ) H := by
  refine ⟨some_of H [Pl], some_le, ?_, S⟩
  have ePl : some_of H [Pl] Pl = H Pl := some_in (by simp)
  rcases hL with z | ⟨c, z1, z2⟩
  · exact .inl (by rw [ePl]; exact z)
  · exact .inr ⟨c, by rw [ePl]; exact z1, some_im z2 rfl⟩
theorem at_cut {H : Hp} {Pl b : Addr} {o : HO} (e : H b = some o) (h : b ≠ Pl) : cut H (some_of H [Pl]) b = some o := cut_some.mpr ⟨e, fun u z => by
  cases m : mutO u with
  | false => rfl
  | true => exact absurd (List.mem_singleton.mp (some_mut z m)) h⟩
theorem lam_cut {H : Hp} {Pl Pp : Addr} {lp lq : Pos} {q r : Str} (hP : LamAt H Pl lq r) (hL : LamAt H Pp lp q) (h : Pl ≠ Pp) : LamAt (cut H (some_of H [Pl])) Pp lp q := by
  obtain ⟨tb, etb⟩ := hP.tbl
  rcases hL with z | ⟨c, z1, z2⟩
  · exact .inl (at_cut z h.symm)
  · exact .inr ⟨c, at_cut z1 h.symm, at_cut z2 (fun y => by rw [y, etb] at z2; cases z2)⟩
theorem sql_cut {K : PySem.W.Frag} {H : Hp} {Pl a : Addr} {lq : Pos} {r : Str} {xs : List V} (hP : LamAt H Pl lq r) (hS : SqL K H a xs) : SqL K (cut H (some_of H [Pl])) a xs := by
  obtain ⟨tb, etb⟩ := hP.tbl
  rcases hS.obj with z | ⟨o, e, nt, z⟩
  · exact z _
  · refine z _ (at_cut e fun y => ?_)
    rw [y, etb] at e; cases e; exact absurd rfl (nt _)
theorem sep_start {K : PySem.W.Frag} {H : Hp} {a Pl Pp : Addr} {ns : List Int} (hS : SqL K H a (ns.map V.int)) (hL : LamAt H Pl lpLeaf qLeaf) (hP : LamAt H Pp lpPairs qPairs) (hne : Pl ≠ Pp) : Sep [(Pl, LamL), (Pp, LamP), (a, ScR K ns)] H := by
  have h1 := lam_cut hL hP hne
  exact sep_lam hL (sep_lam h1 ⟨_, fun b o e => e, sql_cut h1 (sql_cut hL hS), trivial⟩)
theorem putP_mem {ps : List (Str × V)} {x : Str} {v : V} {p : Str × V} (h : p ∈ putP ps x v) : p = (x, v) ∨ p ∈ ps := by
  unfold putP at h
  split at h
  · obtain ⟨r, hr, e⟩ := List.mem_map.mp h
    split at e
    · rename_i z; rw [← e, z]; exact .inl rfl
    · rw [← e]; exact .inr hr
  · rcases List.mem_append.mp h with h | h
    · exact .inr h
    · exact .inl (List.mem_singleton.mp h)
theorem HeldOk.put {NS : List Str} {ps : List (Str × V)} {x : Str} {v : V} (h : HeldOk NS ps) (hx : x ∈ NS) (hv : IsVal v) : HeldOk NS (putP ps x v) := by
  refine ⟨?_, fun p hp => ?_⟩
  · rw [putP_keys]
    by_cases z : x ∈ ps.map (·.1)
    · rw [if_pos z]; exact h.1
    · rw [if_neg z, List.nodup_append]
      exact ⟨h.1, by simp, fun a ha b hb e => z (by rw [List.mem_singleton.mp hb] at e; rw [← e]; exact ha)⟩
  · rcases putP_mem hp with rfl | z
    · exact ⟨hx, hv⟩
    · exact h.2 p z
theorem upF_lk (ps : List (Str × V)) (x : Str) (v : V) : upF (lk ps) x v = lk (putP ps x v) := funext fun y => (putP_lk ps x y v).symm
theorem isVal_v {v : V} (h : IsVal v) : ValV v := by
  cases v <;> first | trivial | exact h.elim
structure WdS (NS : List Str) (nds : List Nd) (tabs : List (Key × V)) (ts : List Nat) (pss : List (List (Str × V))) : Prop where
  len : pss.length = ts.length
  each : ∀ (i t : Nat) (ps : List (Str × V)), ts[i]? = some t → pss[i]? = some ps → (valV tabs (Sum.inl (t : Int))).isSome = true ∧ Tri NS nds (lk ps) 5 0 0 t ∧ HeldOk NS ps
theorem WdS.more {NS : List Str} {nds nds' : List Nd} {tabs tabs' : List (Key × V)} {ts : List Nat} {pss : List (List (Str × V))} (W : WdS NS nds tabs ts pss) (e : NEx nds nds') (ht : ∀ k, (valV tabs k).isSome = true → (valV tabs' k).isSome = true) {t : Nat} {ps : List (Str × V)} (h1 : (valV tabs' (Sum.inl (t : Int))).isSome = true) (h2 : Tri NS nds' (lk ps) 5 0 0 t) (h3 : HeldOk NS ps) : WdS NS nds' tabs' (ts ++ [t]) (pss ++ [ps]) := by
  have hl := W.len
  refine ⟨by rw [List.length_append, List.length_append, hl]; rfl, fun i t' ps' e1 e2 => ?_⟩
  by_cases hi : i < ts.length
  · rw [List.getElem?_append_left hi] at e1
    rw [List.getElem?_append_left (by omega)] at e2
    obtain ⟨g1, g2, g3⟩ := W.each i t' ps' e1 e2
    exact ⟨ht _ g1, Tri.mono 5 g2 e, g3⟩
  · rw [List.getElem?_append_right (by omega)] at e1 e2
    have h0 : i - ts.length = 0 := by
      cases z : i - ts.length with
      | zero => rfl
      | succ j => rw [z] at e1; simp at e1
    rw [h0] at e1
    rw [show i - pss.length = 0 by omega] at e2
    cases (show some t = some t' from e1)
    cases (show some ps = some ps' from e2)
    exact ⟨h1, h2, h3⟩
theorem WdS.at {NS : List Str} {nds : List Nd} {tabs : List (Key × V)} {ts : List Nat} {pss : List (List (Str × V))} (W : WdS NS nds tabs ts pss) {i : Nat} (hi : i < ts.length) : ∃ t ps, ts[i]? = some t ∧ pss[i]? = some ps ∧ (valV tabs (Sum.inl (t : Int))).isSome = true ∧ Tri NS nds (lk ps) 5 0 0 t ∧ HeldOk NS ps := by
  have h1 := List.getElem?_eq_getElem hi
  have h2 := List.getElem?_eq_getElem (l := pss) (show i < pss.length by rw [W.len]; exact hi)
  exact ⟨_, _, h1, h2, W.each i _ _ h1 h2⟩
theorem tri0 {NS : List Str} {nds : List Nd} (h : nds[0]? = some .bare) : Tri NS nds (lk []) 5 0 0 0 := .inl (.inl ⟨rfl, h, fun _ _ _ => rfl⟩)
theorem held0 {NS : List Str} : HeldOk NS [] := ⟨List.nodup_nil, fun _ h => nomatch h⟩
section
variable {P : Program} {w : World} {K : PySem.W.Frag} {mg : Str → Option Value} {base : Heap} {C Pl Pp : Addr}
def spSV : Sp := fun vs H Q _ => ∃ (p nl : Addr) (n : Nat) (NS : List Str) (Δ : Rs), vs = [.ref p, .ref nl] ∧ Sep ((p, Bx n) :: (nl, Lst (NS.map V.str)) :: Δ) H ∧ NS.length ≤ 50 ∧ (∀ x ∈ NS, NameOk x) ∧ n ≤ 800000 ∧
  ∀ (v : V) (H' : Hp), IsVal v → Sep ((p, Bx (n + 60)) :: (nl, Lst (NS.map V.str)) :: Δ) H' → Q v H'
abbrev nSV : List Str := ["_law_box_here", "_law_names_here"]
abbrev pnSV : List Str := ["_law_box_here", "_law_names_here"]
theorem scSV : FnScope nSV pnSV (defScope s_l_some_value) := ⟨rfl, rfl, rfl, by decide +kernel, rfl, by decide +kernel, by decide +kernel⟩
theorem ok_sv {f : Addr} {fd : FuncData} (F : Fun K "_law_some_value" "_law_some_value" s_l_some_value f fd) (T : TxtB mg) (DT : DTk P w K mg base 1) (DV : Def P w K mg base 2 "_law_value" ["_law_box_here"] spValueS) : FnOk P w K mg base CX0 3 f fd pnSV spSV := by
  refine F.ok scSV (fun vs H Q E h => ?_) (fun cdv A outer s H vs Q E hr h => ?_)
  · obtain ⟨p, nl, n, NS, Δ, rfl, _⟩ := h; rfl
  obtain ⟨p, nl, n, NS, Δ, rfl, S, hl, hN, hn, q⟩ := h
  have hr1 := hr.mono (show 1 ≤ 2 by decide)
  have hr2 := hr
  refine' ⟨?t, ?h, ?r⟩
  case h =>
    conv => arg 2; whnf
    with_reducible refine' (pss_cons (ps_if ?h1 (pss_one ?h2) pss_nil) (pss_one ?h3))
    case h1 => exact pt_cmpR op_eq (pe_d DT hr1 (pac (pv 0) (pac pe_int pa_nil))) pe_int (nomark _)
    case h2 => exact ps_ret (pe_ix ix_list (pe_op op_cat (pe_callTy call_list_of rfl T.list (by decide +kernel) (pac (pv 1) pa_nil)) (pe_lst (pac pe_str (pac pe_str pa_nil)))) (pe_d DT hr1 (pac (pv 0) (pac (pe_op op_add (pe_callB call_len_seq rfl T.len PySem.boot_len (pac (pv 1) pa_nil)) pe_int) pa_nil))) (fun _ _ => rfl))
    case h3 => exact ps_ret (pe_d DV hr2 (pac (pv 0) pa_nil))
  refine ⟨_, rfl, p, n, 8, _, rfl, S, by omega, by decide, by decide, fun r H1 a0 a1 S1 => ⟨rfl, _, rfl, ite2 (fun c => ?_) (fun c => ?_)⟩⟩
  · refine ⟨_, rfl, nl, _, rfl, .inl (SqL.of (S1.get nl)), fun l hl1 => ?_⟩
    generalize hE : upd H1 l _ = H2
    have S2 := S1.newE hl1 hE
    clear hE
    refine ⟨(by show 2 ≤ sizeLine; decide), fun l2 hl2 => ?_⟩
    generalize hE : upd H2 l2 _ = H3
    have S3 := S2.newE hl2 hE
    clear hE
    refine ⟨l, l2, _, _, rfl, rfl, S3.get l, S3.get l2, small (show _ ≤ 1000 by rw [List.length_map]; show NS.length + 2 ≤ 1000; omega), fun l3 hl3 => ?_⟩
    generalize hE : upd H3 l3 _ = H4
    have S4 := ((S3.newE hl3 hE).drop l).drop l2
    clear hE
    refine ⟨_, rfl, _, rfl, nl, _, rfl, .inl (SqL.of (S4.get nl)), _, _, rfl, rfl, p, _, _, _, rfl, S4.pull p, by omega, by rw [List.length_map]; omega, by rw [List.length_map]; omega, fun r2 H5 b0 b1 S5 => ?_⟩
    rw [List.length_map] at b1
    obtain ⟨u, hu, hat⟩ := list_at (xs := NS.map V.str ++ [V.str "set", V.str "leaf"]) b0 (by rw [List.length_append, List.length_map]; show r2 < ((NS.length + 2 : Nat) : Int); omega)
    refine ⟨l3, _, _, _, rfl, rfl, SqL.of (S5.get l3), hat, ?_⟩
    refine q _ _ ?_ (((S5.drop l3).pull p).le (by omega))
    rcases List.mem_append.mp hu with y | y
    · obtain ⟨x, hx, rfl⟩ := List.mem_map.mp y
      exact name_val (hN x hx)
    · have all : ([.str "set", .str "leaf"] : List V).all valOk = true := by decide +kernel
      exact isVal_of (List.all_eq_true.mp all u y)
  · exact ⟨_, rfl, p, _, _, rfl, S1, by omega, fun v H2 hv S2 => q v H2 hv (S2.le (by omega))⟩
end
def NdOk (NS : List Str) (len : Nat) : Nd → Prop
  | .bare => True
  | .leaf m ps => LeafG NS m ps ∧ ∀ p ∈ ps, IsVal p.2
  | .fork qs => qs.length = 4 ∧ ∀ q ∈ qs, q < len
def NdsOk (NS : List Str) (nds : List Nd) : Prop := nds[0]? = some .bare ∧ ∀ (i : Nat) (n : Nd), nds[i]? = some n → NdOk NS nds.length n
theorem NdOk.le {NS : List Str} {a b : Nat} {n : Nd} (h : NdOk NS a n) (l : a ≤ b) : NdOk NS b n := by
  cases n with
  | bare => trivial
  | leaf m ps => exact h
  | fork qs => exact ⟨h.1, fun q hq => Nat.lt_of_lt_of_le (h.2 q hq) l⟩
theorem NdsOk.app {NS : List Str} {nds : List Nd} {n : Nd} (h : NdsOk NS nds) (hn : NdOk NS (nds.length + 1) n) : NdsOk NS (nds ++ [n]) := by
  refine ⟨by rw [List.getElem?_append_left (List.getElem?_eq_some_iff.mp h.1).1]; exact h.1, fun i m e => ?_⟩
  rw [List.length_append]
  by_cases hi : i < nds.length
  · rw [List.getElem?_append_left hi] at e
    exact (h.2 i m e).le (Nat.le_add_right _ _)
  · rw [List.getElem?_append_right (by omega)] at e
    have h0 : i - nds.length = 0 := by
      cases z : i - nds.length with
      | zero => rfl
      | succ j => rw [z] at e; simp at e
    rw [h0] at e
    cases (show some n = some m from e)
    exact hn
theorem PutR.ok {NS : List Str} {x : Str} {v : V} {nds nds' : List Nd} {lev num num' : Nat} (h : PutR x v nds lev num nds' num') (hx : x ∈ NS) (hv : IsVal v) (O : NdsOk NS nds) : NdsOk NS nds' ∧ num' < nds'.length ∧ nds.length ≤ num' ∧ NEx nds nds' := by
  induction h with
  | @leaf lev num n qs hn hc hp hs =>
    have hnum := (List.getElem?_eq_some_iff.mp hn).1
    have key : (n.pairs.map (·.1)).Nodup ∧ (∀ p ∈ n.pairs, p.1 ∈ NS) ∧ (∀ p ∈ n.pairs, mkS p.1 = mkS x) ∧ ∀ p ∈ n.pairs, IsVal p.2 := by
      have o := O.2 num n hn
      cases n with
      | bare => exact ⟨List.nodup_nil, (fun _ h => nomatch h), (fun _ h => nomatch h), (fun _ h => nomatch h)⟩
      | fork qs => exact ⟨List.nodup_nil, (fun _ h => nomatch h), (fun _ h => nomatch h), (fun _ h => nomatch h)⟩
      | leaf m ps =>
        rcases hc with z | z
        · rw [z, O.1] at hn; cases hn
        · have e : m = mkS x := of_decide_eq_true z
          exact ⟨o.1.nd, o.1.sub, fun p hp => by rw [← e]; exact o.1.mrk p hp, o.2⟩
    have G := put_leaf (NS := NS) v hx key.1 key.2.1 key.2.2.1
    refine ⟨O.app ⟨G.perm hp, fun p h => ?_⟩, by rw [List.length_append]; exact Nat.lt_succ_self _, Nat.le_refl _, NEx.app nds _⟩
    rcases putP_mem (hp.mem_iff.mp h) with rfl | z
    · exact hv
    · exact key.2.2.2 p z
  | @fork nds1 lev num q1 num1 n hn h0 hm hq hr ih =>
    obtain ⟨O1, l1, l2, ex⟩ := ih
    have hnum := (List.getElem?_eq_some_iff.mp hn).1
    have hle : nds.length ≤ nds1.length := by omega
    have key : (forkP num lev n).length = 4 ∧ ∀ q ∈ forkP num lev n, q < nds.length := by
      have o := O.2 num n hn
      cases n with
      | bare => simp [forkP] at hq
      | fork qs => exact o
      | leaf m ps =>
        refine ⟨rfl, fun q hq => ?_⟩
        obtain ⟨g, _, rfl⟩ := List.mem_map.mp hq
        split
        · exact hnum
        · omega
    refine ⟨O1.app ⟨by rw [List.length_set]; exact key.1, fun q hq => ?_⟩, by rw [List.length_append]; exact Nat.lt_succ_self _, by omega, ex.trans (NEx.app nds1 _)⟩
    rcases List.mem_or_eq_of_mem_set hq with z | z
    · have := key.2 q z; omega
    · rw [z]; omega
theorem TakR.ok {NS : List Str} {x : Str} {nds nds' : List Nd} {lev num num' : Nat} (h : TakR x nds lev num nds' num') (O : NdsOk NS nds) : NdsOk NS nds' ∧ num' < nds'.length ∧ NEx nds nds' := by
  induction h with
  | @gone lev num ps hn hb => exact ⟨O, (List.getElem?_eq_some_iff.mp O.1).1, NEx.refl _⟩
  | @less lev num ps qs hn hb hp hs =>
    have o := O.2 num _ hn
    refine ⟨O.app ⟨(o.1.but hb).perm hp, fun p h => o.2 p ?_⟩, by rw [List.length_append]; exact Nat.lt_succ_self _, NEx.app nds _⟩
    exact (List.mem_filter.mp (hp.mem_iff.mp h)).1
  | @up nds1 lev num q1 num1 q qs m ps hn hq hr hf hl ih =>
    obtain ⟨O1, l1, ex⟩ := ih
    exact ⟨O1, (List.getElem?_eq_some_iff.mp hl).1, ex⟩
  | @fork nds1 lev num q1 num1 qs hn hq hr hf ih =>
    obtain ⟨O1, l1, ex⟩ := ih
    have o := O.2 num _ hn
    have hle : nds.length ≤ nds1.length := by
      cases e : nds.length with
      | zero => omega
      | succ k =>
        have h1 := List.getElem?_eq_getElem (l := nds) (show k < nds.length by omega)
        have := (List.getElem?_eq_some_iff.mp (ex k _ h1)).1
        omega
    refine ⟨O1.app ⟨by rw [List.length_set]; exact o.1, fun q hq => ?_⟩, by rw [List.length_append]; exact Nat.lt_succ_self _, ex.trans (NEx.app nds1 _)⟩
    rcases List.mem_or_eq_of_mem_set hq with z | z
    · have := o.2 q z; omega
    · rw [z]; omega
theorem HeldOk.but {NS : List Str} {ps : List (Str × V)} {x : Str} (h : HeldOk NS ps) : HeldOk NS (butP ps x) := by
  have hs : (butP ps x).Sublist ps := List.filter_sublist
  exact ⟨h.1.sublist (hs.map (·.1)), fun p hp => h.2 p (hs.subset hp)⟩
theorem dnF_lk (ps : List (Str × V)) (x : Str) : dnF (lk ps) x = lk (butP ps x) := funext fun y => (butP_lk ps x y).symm
theorem drop_but (ps : List (Str × V)) (x : Str) : dropK (ps.map kP) (Sum.inr x) = (butP ps x).map kP := by
  unfold dropK butP
  rw [List.filter_map]
  congr 1
  apply List.filter_congr
  intro p _
  show _ = !decide (p.1 = x)
  by_cases z : p.1 = x
  · simp [kP, z]
  · simp [kP, z]
theorem but_none {ps : List (Str × V)} {x : Str} (h : lk ps x = none) : butP ps x = ps := by
  unfold butP
  rw [List.filter_eq_self]
  intro p hp
  have : p.1 ≠ x := fun z => by
    have h2 : ∀ {l : List (Str × V)}, (∃ p ∈ l, p.1 = x) → lk l x ≠ none := by
      intro l
      induction l with
      | nil => rintro ⟨_, h, _⟩; cases h
      | cons a l ih =>
        rintro ⟨p, hp, e⟩
        rw [lk_cons]
        by_cases z : a.1 = x
        · rw [if_pos z]; intro y; cases y
        · rw [if_neg z]
          rcases List.mem_cons.mp hp with y | y
          · rw [y] at e; exact absurd e z
          · exact ih ⟨p, y, e⟩
    exact h2 ⟨p, hp, z⟩ h
  simp [this]
def Dd (nds : List Nd) (t : Nat) (ps : List (Str × V)) (x : Str) (nds' : List Nd) (t' : Nat) (ps' : List (Str × V)) : Prop :=
  (∃ v, IsVal v ∧ ps' = putP ps x v ∧ ((lk ps x = some v ∧ t' = t ∧ nds' = nds) ∨ (lk ps x ≠ some v ∧ PutR x v nds 0 t nds' t'))) ∨
  (ps' = butP ps x ∧ ((lk ps x = none ∧ t' = t ∧ nds' = nds) ∨ (lk ps x ≠ none ∧ TakR x nds 0 t nds' t')))
theorem Dd.ok {NS : List Str} {nds nds' : List Nd} {t t' : Nat} {ps ps' : List (Str × V)} {x : Str} (h : Dd nds t ps x nds' t' ps') (hx : x ∈ NS) (O : NdsOk NS nds) : NdsOk NS nds' := by
  rcases h with ⟨v, hv, _, (⟨_, _, rfl⟩ | ⟨_, r⟩)⟩ | ⟨_, (⟨_, _, rfl⟩ | ⟨_, r⟩)⟩
  · exact O
  · exact (r.ok hx hv O).1
  · exact O
  · exact (r.ok O).1
section
variable {P : Program} {w : World} {K : PySem.W.Frag} {mg : Str → Option Value} {base : Heap} {C Pl Pp : Addr}
def spDeed (K : PySem.W.Frag) (C Pl : Addr) : Sp := fun vs H Q _ => ∃ (NS : List Str) (p st nl lt ld : Addr) (nds : List Nd) (tabs : List (Key × V)) (n : Nat) (ts : List Nat) (pss : List (List (Str × V))) (Δ : Rs), vs = [.ref p, .ref st, .ref nl, .ref lt, .ref ld] ∧ NsOk NS ∧ (∀ x ∈ NS, NameOk x) ∧ NS.length ≤ 50 ∧ NS ≠ [] ∧ Sep ((p, Bx n) :: (st, Sto K C nds tabs) :: (Pl, LamL) :: (nl, Lst (NS.map V.str)) :: (lt, Lst (ts.map iN)) :: (ld, DicL pss) :: Δ) H ∧ WdS NS nds tabs ts pss ∧ 1 ≤ ts.length ∧ ts.length ≤ 500 ∧ nds.length ≤ 5000 ∧ tabs.length ≤ 5000 ∧ n ≤ 400000 ∧
  ∀ (k : Nat) (x : Str) (t t' : Nat) (ps ps' : List (Str × V)) (nds' : List Nd) (tabs' : List (Key × V)) (tp : Addr) (H' : Hp), k < ts.length → ts[k]? = some t → pss[k]? = some ps → x ∈ NS → Dd nds t ps x nds' t' ps' → WdS NS nds' tabs' (ts ++ [t']) (pss ++ [ps']) → NEx nds nds' → nds'.length ≤ nds.length + 6 → tabs'.length ≤ tabs.length + 1 → (∀ k, (valV tabs k).isSome = true → (valV tabs' k).isSome = true) →
    Sep ((tp, Tup [.int (k : Int), .str x]) :: (p, Bx (n + 70)) :: (st, Sto K C nds' tabs') :: (Pl, LamL) :: (nl, Lst (NS.map V.str)) :: (lt, Lst ((ts ++ [t']).map iN)) :: (ld, DicL (pss ++ [ps'])) :: Δ) H' → Q (.ref tp) H'
abbrev nDe : List Str := ["_law_box_here", "_law_store", "_law_names_here", "_law_tables", "_law_dicts", "_law_at", "_law_more", "_law_name", "_law_value_here", "_law_told"]
abbrev pnDe : List Str := ["_law_box_here", "_law_store", "_law_names_here", "_law_tables", "_law_dicts"]
theorem scDe : FnScope nDe pnDe (defScope s_l_deed) := ⟨rfl, rfl, rfl, by decide +kernel, rfl, by decide +kernel, by decide +kernel⟩
theorem ok_deed {f : Addr} {fd : FuncData} (F : Fun K "_law_deed" "_law_deed" s_l_deed f fd) (T : TxtB mg) (TC : TxtC K C) (DT : DTk P w K mg base 1) (DSV : Def P w K mg base 9 "_law_some_value" pnSV spSV) (DS_put : DefM P w K mg base 9 C "put" ["self", "table", "name", "value"] (spPutS K C Pl)) (DS_without : DefM P w K mg base 9 C "without" ["self", "table", "name"] (spWoS K C Pl)) : FnOk P w K mg base CX0 10 f fd pnDe (spDeed K C Pl) := by
  refine F.ok scDe (fun vs H Q E h => ?_) (fun cdv A outer s H vs Q E hr h => ?_)
  · obtain ⟨NS, p, st, nl, lt, ld, nds, tabs, n, ts, pss, Δ, rfl, _⟩ := h; rfl
  obtain ⟨NS, p, st, nl, lt, ld, nds, tabs, n, ts, pss, Δ, rfl, N, hN, hNl, hNe, S, W, hts, hts2, hnd, htb, hn, q⟩ := h
  have hr1 := hr.mono (show 1 ≤ 9 by decide)
  refine' ⟨?t, ?h, ?r⟩
  case h =>
    conv => arg 2; whnf
    with_reducible refine' (pss_cons ?h1 (pss_cons ?h2 (pss_cons (ps_if ?h3 (pss_cons ?h4 (pss_cons ?h5 (pss_one ?h6))) (pss_cons ?h7 (pss_one ?h8))) (pss_cons ?h9 (pss_cons ?h10 (pss_one ?h11))))))
    case h1 =>
      refine ps_set (i := 5) scDe.nd rfl (Or.inl rfl) (PE.conv (te' := tAt 0 3) (pe_ifExp (pt_cmpR op_gt (pe_d DT hr1 (pac (pv 0) (pac pe_int pa_nil))) pe_int (nomark _)) (pe_op op_sub (pe_callB call_len_seq rfl T.len PySem.boot_len (pac (pv 3) pa_nil)) pe_int) (pe_d DT hr1 (pac (pv 0) (pac (pe_callB call_len_seq rfl T.len PySem.boot_len (pac (pv 3) pa_nil)) pa_nil)))) ?_)
      rintro σ H Q ⟨p, lt, n, xs, Δ, e1, e2, S, hn, hx, hl, q⟩
      refine ⟨_, e1, p, n, 3, _, rfl, S, by omega, by decide, by decide, fun r H1 a0 a1 S1 => ⟨_, _, rfl, rfl, _, rfl, ite2 (fun c => ?_) (fun c => ?_)⟩⟩
      · refine ⟨_, e2, lt, _, rfl, .inl (SqL.of (S1.get lt)), _, _, rfl, rfl, ?_⟩
        show Q (.int (((xs.length : Nat) : Int) - 1)) H1
        rw [show ((xs.length : Nat) : Int) - 1 = ((xs.length - 1 : Nat) : Int) by omega]
        exact q _ _ (by omega) (S1.le (by omega))
      · refine ⟨_, e1, _, e2, lt, _, rfl, .inl (SqL.of (S1.get lt)), p, _, _, _, rfl, S1, by omega, by omega, by omega, fun r2 H2 b0 b1 S2 => ?_⟩
        obtain ⟨k, rfl⟩ : ∃ k : Nat, r2 = (k : Int) := ⟨r2.toNat, by omega⟩
        exact q k _ (by omega) S2
    case h2 => exact ps_par (i := 6) (j := 7) rfl scDe.nd rfl rfl (by decide) rfl rfl (pac (pe_callTy call_dict_copy rfl T.dict (by decide +kernel) (pac (pe_ix ix_list (pv 4) (pv 5) (fun _ _ => rfl)) pa_nil)) (pac (pe_ix ix_list (pv 2) (pe_d DT hr1 (pac (pv 0) (pac (pe_callB call_len_seq rfl T.len PySem.boot_len (pac (pv 2) pa_nil)) pa_nil))) (fun _ _ => rfl)) pa_nil)) rfl
    case h3 => exact pt_cmpR op_gt (pe_d DT hr1 (pac (pv 0) (pac pe_int pa_nil))) pe_int (nomark _)
    case h4 =>
      refine ps_set (i := 8) scDe.nd rfl (Or.inl rfl) (PE.conv (te' := tVal 0 6 7 2) (pe_ifExp (PW.pt (pw_and (pt_cmp (pc_din (hu_of hr) (pv 7) (pv 6))) (pw_and1 (pt_cmpR op_eq (pe_d DT hr1 (pac (pv 0) (pac pe_int pa_nil))) pe_int (nomark _))))) (pe_dget (hu_of hr) (pv 6) (pv 7) (fun _ _ => rfl)) (pe_d DSV hr (pac (pv 0) (pac (pv 2) pa_nil)))) ?_)
      rintro σ H Q ⟨p, d, nl, n, x, ps, NS, Δ, e1, e2, e3, e4, S, hn, hl, hN, hv, q⟩
      have ed := S.get d
      have val : ∀ v, valV (ps.map kP) (Sum.inr x) = some v → IsVal v := fun v e => by
        unfold valV at e
        cases ef : (ps.map kP).find? fun q => decide (q.1 = Sum.inr x) with
        | none => rw [ef] at e; cases e
        | some q =>
          rw [ef] at e; cases e
          obtain ⟨r, hr, e5⟩ := List.mem_map.mp (List.mem_of_find?_eq_some ef)
          rw [← e5]; exact hv r hr
      have other : ∀ m H1, m ≤ n + 1 → Sep ((p, Bx m) :: (nl, Lst (NS.map V.str)) :: (d, Dic (ps.map kP)) :: Δ) H1 → ∀ v H', IsVal v → Sep ((p, Bx (m + 60)) :: (nl, Lst (NS.map V.str)) :: (d, Dic (ps.map kP)) :: Δ) H' → Q v H' := fun m H1 hm _ v H' hv S' => q v H' hv (S'.le (by omega))
      refine ⟨_, e3, _, e2, d, _, rfl, DGet.k (k := Sum.inr x) ed, _, rfl, ite2 (fun c => ?_) (fun c => ?_)⟩
      · refine ⟨_, e1, p, n, 4, _, rfl, S, by omega, by decide, by decide, fun r H1 a0 a1 S1 => ⟨rfl, _, rfl, ite2 (fun c2 => ?_) (fun c2 => ?_)⟩⟩
        · obtain ⟨v, ev⟩ := Option.isSome_iff_exists.mp c
          have ed1 := S1.get d
          exact ⟨_, e2, _, e3, d, v, rfl, ev ▸ DGet.k (k := Sum.inr x) ed1, q v _ (val v ev) (S1.le (by omega))⟩
        · exact ⟨_, e1, _, e4, p, nl, _, NS, _, rfl, S1, hl, hN, by omega, fun v H2 hv2 S2 => other _ _ (by omega) S1 v H2 hv2 S2⟩
      · exact ⟨_, e1, _, e4, p, nl, _, NS, _, rfl, S, hl, hN, by omega, fun v H2 hv2 S2 => other _ _ (by omega) S v H2 hv2 S2⟩
    case h5 => exact ps_set (i := 9) scDe.nd rfl (Or.inl rfl) (pe_m DS_put TC.cl hr (pv 1) (pac (pe_ix ix_list (pv 3) (pv 5) (fun _ _ => rfl)) (pac (pv 7) (pac (pv 8) pa_nil))))
    case h6 => exact ps_dput (hu_of hr) (pv 6) (pv 7) (pv 8) rfl
    case h7 => exact ps_set (i := 9) scDe.nd rfl (Or.inl rfl) (pe_m DS_without TC.cl hr (pv 1) (pac (pe_ix ix_list (pv 3) (pv 5) (fun _ _ => rfl)) (pac (pv 7) pa_nil)))
    case h8 => exact ps_expr (pe_dpop2 (pv 6) (pv 7) pe_non ⟨rfl, rfl, rfl, rfl⟩)
    case h9 => exact ps_expr (pe_bm PySem.F.plainAttrs_list PySem.F.slot_list_append PySem.F.type_list_append mt_append (pv 3) (pac (pv 9) pa_nil))
    case h10 => exact ps_expr (pe_bm PySem.F.plainAttrs_list PySem.F.slot_list_append PySem.F.type_list_append mt_append (pv 4) (pac (pv 6) pa_nil))
    case h11 => exact ps_ret (pe_tup (pac (pv 5) (pac (pv 7) pa_nil)))
  refine ⟨p, lt, n, ts.map iN, _, rfl, rfl, (S.pull lt).pull p, by omega, by rw [List.length_map]; omega, by rw [List.length_map]; omega, fun k H1 hk S1 => ?_⟩
  rw [List.length_map] at hk
  obtain ⟨t, ps, et, eps, htab, htri, hok⟩ := W.at hk
  obtain ⟨ds, d, eld, hdl, ed, edk⟩ := DicL.at (S1.get ld) eps
  refine ⟨_, rfl, _, rfl, ld, _, _, _, rfl, rfl, SqL.of eld, atI_nat (by rw [List.getElem?_map, ed]; rfl), d, _, rfl, edk, fun hd hhd => ?_⟩
  generalize hE : upd H1 hd _ = H2
  have S2 := S1.newE hhd hE
  clear hE
  refine ⟨_, rfl, _, rfl, _, rfl, nl, _, rfl, .inl (SqL.of (S2.get nl)), p, _, _, _, rfl, S2.pull p, by omega, by rw [List.length_map]; have := List.length_pos_iff.mpr hNe; omega, by rw [List.length_map]; omega, fun r2 H3 b1 b2 S3 => ?_⟩
  rw [List.length_map] at b2
  obtain ⟨x, hx, hat⟩ := map_at (f := V.str) b1 b2
  refine ⟨nl, _, _, _, rfl, rfl, SqL.of (S3.get nl), hat, _, _, rfl, ?_⟩
  refine ⟨_, rfl, p, _, 4, _, rfl, S3.pull p, by omega, by decide, by decide, fun r3 H4 c1 c2 S4 => ⟨_, _, rfl, rfl, _, rfl, ite2 (fun c => ?_) (fun c => ?_)⟩⟩
  · refine ⟨p, hd, nl, _, x, ps, NS, _, rfl, rfl, rfl, rfl, ((S4.pull hd).pull nl).pull p, by omega, hNl, hN, fun z hz => (hok.2 z hz).2, fun v H5 hv S5 => ?_⟩
    obtain ⟨_, ln6, dt6, SA6⟩ := S5.get st
    obtain ⟨dx6, ob6⟩ := SA6.ob
    refine ⟨_, rfl, st, dx6, _, rfl, ob6, flds_no ln6 dt6 (by decide +kernel) (by decide +kernel), _, rfl, _, rfl, lt, _, _, _, rfl, rfl, SqL.of (S5.get lt), atI_nat (by rw [List.getElem?_map, et]; rfl), _, rfl, _, rfl, ?_⟩
    refine ⟨NS, st, nds, tabs, t, x, v, lk ps, _, N, rfl, (S5.pull Pl).pull st, htab, htri, hx, isVal_v hv, (fun u hu => isVal_v (hok.2 _ ((lk_mem hok.1).mp hu)).2), by omega, by omega, fun H6 nds' tabs' t' S6 ext len tl mono tok tri rel => ?_⟩
    refine ⟨_, rfl, _, rfl, _, rfl, hd, _, rfl, DPut.k (k := Sum.inr x) (S6.get hd) (smallL (show _ ≤ 1000 by rw [List.length_map]; have := hok.few; omega)), ?_⟩
    generalize hE : upd H6 hd _ = H7
    have S7 := S6.putE hE
    clear hE
    rw [show putK (ps.map kP) (Sum.inr x) v = (putP ps x v).map kP from putP_map ps x v] at S7
    rw [upF_lk] at tri
    have hok2 := hok.put hx hv
    have W2 := W.more ext mono tok tri hok2
    have dd : Dd nds t ps x nds' t' (putP ps x v) := .inl ⟨v, hv, rfl, by
      rcases rel with ⟨a, b, c, _⟩ | ⟨a, b, _⟩
      · exact .inl ⟨a, b, c⟩
      · exact .inr ⟨a, b⟩⟩
    generalize putP ps x v = ps2 at *
    obtain ⟨ds2, eld2, hdl2, _⟩ := S7.get ld
    refine ⟨_, rfl, .inl ⟨rfl, _, SqL.of (S7.get lt)⟩, _, rfl, lt, _, _, rfl, rfl, S7.get lt, smallL (show _ ≤ 1000 by rw [List.length_map]; omega), ?_⟩
    generalize hE : upd H7 lt _ = H8
    have S8 := S7.putE hE
    clear hE
    rw [show ts.map iN ++ [iN t'] = (ts ++ [t']).map iN by rw [List.map_append]; rfl] at S8
    obtain ⟨ds3, eld3, hdl3, _⟩ := S8.get ld
    refine ⟨_, rfl, .inl ⟨rfl, _, SqL.of eld3⟩, _, rfl, ld, _, _, rfl, rfl, eld3, smallL (show _ ≤ 1000 by rw [List.length_map, hdl3, W.len]; omega), ?_⟩
    have S9 := ((S8.pull hd).pull ld).dicApp eld3
    generalize upd H8 ld _ = H9 at *
    refine ⟨_, rfl, _, rfl, (by show 2 ≤ sizeLine; decide), fun tp htp => ?_⟩
    generalize hE : upd H9 tp _ = H10
    have S10 := S9.newE htp hE
    clear hE
    exact q k x t t' ps _ nds' tabs' tp H10 hk et eps hx dd W2 ext len tl mono ((((((((S10.pull ld).pull lt).pull nl).pull Pl).pull st).pull p).le (by omega)).pull tp)
  · obtain ⟨_, ln6, dt6, SA6⟩ := S4.get st
    obtain ⟨dx6, ob6⟩ := SA6.ob
    refine ⟨_, rfl, st, dx6, _, rfl, ob6, flds_no ln6 dt6 (by decide +kernel) (by decide +kernel), _, rfl, _, rfl, lt, _, _, _, rfl, rfl, SqL.of (S4.get lt), atI_nat (by rw [List.getElem?_map, et]; rfl), _, rfl, ?_⟩
    refine ⟨NS, st, nds, tabs, t, x, lk ps, _, N, rfl, (S4.pull Pl).pull st, htab, htri, hx, (fun u hu => isVal_v (hok.2 _ ((lk_mem hok.1).mp hu)).2), by omega, by omega, fun H6 nds' tabs' t' S6 ext len tl mono tok tri rel => ?_⟩
    rw [dnF_lk] at tri
    have hok2 := hok.but (x := x)
    have W2 := W.more ext mono tok tri hok2
    have dd : Dd nds t ps x nds' t' (butP ps x) := .inr ⟨rfl, by
      rcases rel with ⟨a, b, c, _⟩ | ⟨a, b, _⟩
      · exact .inl ⟨a, b, c⟩
      · exact .inr ⟨a, b⟩⟩
    have e6 := S6.get hd
    refine ⟨_, rfl, hd, rfl, .inl ⟨_, .inl e6⟩, _, rfl, _, Sum.inr x, e6, rfl, fun v ev => ?_, fun ev => ?_⟩
    · generalize hE : upd H6 hd _ = H7
      have S7 := S6.putE hE
      clear hE
      rw [drop_but] at S7
      generalize butP ps x = ps2 at *
      obtain ⟨ds2, eld2, hdl2, _⟩ := S7.get ld
      refine ⟨_, rfl, .inl ⟨rfl, _, SqL.of (S7.get lt)⟩, _, rfl, lt, _, _, rfl, rfl, S7.get lt, smallL (show _ ≤ 1000 by rw [List.length_map]; omega), ?_⟩
      generalize hE : upd H7 lt _ = H8
      have S8 := S7.putE hE
      clear hE
      rw [show ts.map iN ++ [iN t'] = (ts ++ [t']).map iN by rw [List.map_append]; rfl] at S8
      obtain ⟨ds3, eld3, hdl3, _⟩ := S8.get ld
      refine ⟨_, rfl, .inl ⟨rfl, _, SqL.of eld3⟩, _, rfl, ld, _, _, rfl, rfl, eld3, smallL (show _ ≤ 1000 by rw [List.length_map, hdl3, W.len]; omega), ?_⟩
      have S9 := ((S8.pull hd).pull ld).dicApp eld3
      generalize upd H8 ld _ = H9 at *
      refine ⟨_, rfl, _, rfl, (by show 2 ≤ sizeLine; decide), fun tp htp => ?_⟩
      generalize hE : upd H9 tp _ = H10
      have S10 := S9.newE htp hE
      clear hE
      exact q k x t t' ps _ nds' tabs' tp H10 hk et eps hx dd W2 ext len tl mono ((((((((S10.pull ld).pull lt).pull nl).pull Pl).pull st).pull p).le (by omega)).pull tp)
    · have S7 := S6
      rw [but_none (show lk ps x = none from ev)] at hok2 W2 dd
      obtain ⟨ds2, eld2, hdl2, _⟩ := S7.get ld
      refine ⟨_, rfl, .inl ⟨rfl, _, SqL.of (S7.get lt)⟩, _, rfl, lt, _, _, rfl, rfl, S7.get lt, smallL (show _ ≤ 1000 by rw [List.length_map]; omega), ?_⟩
      generalize hE : upd H6 lt _ = H8
      have S8 := S7.putE hE
      clear hE
      rw [show ts.map iN ++ [iN t'] = (ts ++ [t']).map iN by rw [List.map_append]; rfl] at S8
      obtain ⟨ds3, eld3, hdl3, _⟩ := S8.get ld
      refine ⟨_, rfl, .inl ⟨rfl, _, SqL.of eld3⟩, _, rfl, ld, _, _, rfl, rfl, eld3, smallL (show _ ≤ 1000 by rw [List.length_map, hdl3, W.len]; omega), ?_⟩
      have S9 := ((S8.pull hd).pull ld).dicApp eld3
      generalize upd H8 ld _ = H9 at *
      refine ⟨_, rfl, _, rfl, (by show 2 ≤ sizeLine; decide), fun tp htp => ?_⟩
      generalize hE : upd H9 tp _ = H10
      have S10 := S9.newE htp hE
      clear hE
      exact q k x t t' ps _ nds' tabs' tp H10 hk et eps hx dd W2 ext len tl mono ((((((((S10.pull ld).pull lt).pull nl).pull Pl).pull st).pull p).le (by omega)).pull tp)
end
end K6
set_option maxHeartbeats 2000000
namespace L2
open PySem PySem.Spec PyProof.Rows
theorem ixN_nat {n j : Nat} (h : j < n) : ixN n (j : Int) = some j := by
  unfold ixN
  rw [if_pos (by omega), if_pos (by omega)]; rfl
theorem for_enumL {K : PySem.W.Frag} {a : Addr} {xs : List V} {g : TG} {tb : TS} {D : Ends} {σ : St} {H : Hp} (Pv : Nat → St → Hp → Prop) (h0 : Pv 0 σ H) (hl : ∀ i σ H, i ≤ xs.length → Pv i σ H → SqL K H a xs)
    (hs : ∀ i x t σ H, xs[i]? = some x → H t = none → Pv i σ H → g (.ref t) σ (upd H t (.tup [.int (i : Int), x])) fun σ2 H2 => tb { D with nx := Pv (i + 1), ct := Pv (i + 1), bk := D.nx } σ2 H2) (hd : ∀ σ H, Pv xs.length σ H → D.nx σ H) :
    ∃ W : Nat → Nat → St → Hp → Prop, (∃ m, W 0 m σ H) ∧ ∀ i m σ H, W i m σ H →
      ((Itel K a).stop i H ∧ D.nx σ H) ∨ ((Itel K a).go i H ∧ ∃ N : St → Hp → Prop, (∀ σ' H', N σ' H' → ∃ m', m' < m ∧ W (i + 1) m' σ' H') ∧ ∀ y H', (Itel K a).yld i H y H' → g y σ H' fun σ2 H2 => tb { D with nx := N, ct := N, bk := D.nx } σ2 H2) := by
  refine ⟨fun i m σ H => m = xs.length - i ∧ i ≤ xs.length ∧ Pv i σ H, ⟨xs.length, by simp, Nat.zero_le _, h0⟩, ?_⟩
  rintro i m σ H ⟨rfl, hi, p⟩
  have q := hl i σ H hi p
  by_cases hlt : i < xs.length
  · refine .inr ⟨⟨xs, xs[i], q, by simp [hlt]⟩, Pv (i + 1), fun σ' H' z => ⟨xs.length - (i + 1), by omega, rfl, hlt, z⟩, fun y H' hy => ?_⟩
    obtain ⟨t, x, ht, hx, rfl, rfl⟩ := hy
    exact hs i x t σ H (hx xs q) ht p
  · have e : i = xs.length := by omega
    subst e
    exact .inl ⟨⟨xs, q, Nat.le_refl _⟩, hd σ H p⟩
theorem ints_data {H : Hp} {a : Addr} {xs : List Int} (e : H a = some (.lst (xs.map V.int))) : DataOf H (.ref a) (.list (xs.map PyData.int)) ∧ (PyData.list (xs.map PyData.int)).canLay0 = true ∧ (PyData.list (xs.map PyData.int)).depth ≤ 60 := by
  have h1 : ∀ xs : List Int, DatasOf H (xs.map V.int) (xs.map PyData.int) := by
    intro xs
    induction xs with
    | nil => exact .nil
    | cons x r ih => exact .cons (.int x) ih
  have h2 : ∀ xs : List Int, PyData.canLayAll0 (xs.map PyData.int) = true := by
    intro xs
    induction xs with
    | nil => rfl
    | cons x r ih => exact ih
  have h3 : ∀ xs : List Int, PyData.depthAll (xs.map PyData.int) = 0 := by
    intro xs
    induction xs with
    | nil => rfl
    | cons x r ih => rw [List.map_cons, PyData.depthAll, ih]; rfl
  refine ⟨.lst e (h1 xs), by rw [PyData.canLay0]; exact h2 xs, ?_⟩
  rw [PyData.depth, h3]; decide
theorem call_reprL {X : Cx} {K : PySem.W.Frag} (hK : X.K = K) (hg : X.A.guards = some []) (hu : X.A.units + 64 < cLine) : CallR X (.builtin "repr") (fun xs H Q => ∃ (l : Addr) (vs : List V) (ds : List PyData), xs = [.ref l] ∧ H l = some (.lst vs) ∧ DatTs K H vs ds ∧ (PyData.list ds).showable = true ∧ (PyData.list ds).shown.length ≤ sizeLine ∧ (PyData.list ds).depth ≤ 60 ∧ Q (.str (PyData.list ds).shown) H) := by
  subst hK
  intro pins s σ H xs us Q I r h
  obtain ⟨l, vs, ds, rfl, el, dd, hs, hz, hd, q⟩ := h
  obtain ⟨u, rfl, ru⟩ := vals1 r
  cases ru
  obtain ⟨_, its, n, rv, g⟩ := (show ObjOk X.prog X.w H s.heap l (.lst vs) from I.hok l _ el)
  obtain ⟨nd, as, ra⟩ := DatTs.reads I its dd rv
  have nd' : (PyData.list ds).hasDict = false := by simpa [PyData.hasDict] using nd
  exact repr_of_reads' (Reads.list g rfl rfl (by simpa using ra)) hs (fun z => by rw [nd'] at z; cases z) hg (by omega) (fun _ _ e => e) (fun h' t' k hk => ⟨.str _, H, I.kept (t' := k) hk, ⟨_, rfl⟩, q⟩) hz
end L2
set_option maxHeartbeats 4000000
namespace K6
open PySem L2
def NdL (K : PySem.W.Frag) (nds : List Nd) : Res := fun l h => ∃ as : List Addr, h l = some (.lst (as.map V.ref)) ∧ as.length = nds.length ∧ ∀ (i : Nat) (a : Addr) (n : Nd), as[i]? = some a → nds[i]? = some n → NodeAt K h a n
instance {K : PySem.W.Frag} {nds : List Nd} : Up (NdL K nds) := ⟨fun ⟨as, e, l, h⟩ s => ⟨as, s _ _ e, l, fun i a n e1 e2 => (h i a n e1 e2).tf s.tf⟩⟩
theorem NdL.at {K : PySem.W.Frag} {nds : List Nd} {l : Addr} {h : Hp} {i : Nat} {n : Nd} (D : NdL K nds l h) (e : nds[i]? = some n) : ∃ (as : List Addr) (a : Addr), h l = some (.lst (as.map V.ref)) ∧ atI (as.map V.ref) (i : Int) = some (.ref a) ∧ NodeAt K h a n := by
  obtain ⟨as, el, hl, hd⟩ := D
  have hi : i < as.length := by rw [hl]; exact (List.getElem?_eq_some_iff.mp e).1
  exact ⟨as, as[i], el, atI_nat (by rw [List.getElem?_map, List.getElem?_eq_getElem hi]; rfl), hd i _ n (List.getElem?_eq_getElem hi) e⟩
theorem last_iN (pre : List Nat) (num : Nat) : atI ((pre ++ [num]).map iN) (-1) = some (iN num) := by rw [List.map_append]; exact atI_last _ _
section
variable {P : Program} {w : World} {K : PySem.W.Frag} {mg : Str → Option Value} {base : Heap} {C Pl Pp : Addr}
def spWy (K : PySem.W.Frag) : Sp := fun vs H Q _ => ∃ (no : Addr) (nds : List Nd) (num : Nat) (own : Int) (ws : List Nat) (Δ : Rs), vs = [.ref no, iN num, .int own] ∧ Sep ((no, NdL K nds) :: Δ) H ∧ 0 ≤ own ∧ Way nds own 0 num ws ∧ ws.length ≤ 100 ∧
  ∀ (l : Addr) (H' : Hp), Sep ((l, Lst (ws.map iN)) :: (no, NdL K nds) :: Δ) H' → Q (.ref l) H'
abbrev nWy : List Str := ["_law_nodes", "_law_number", "_law_own", "_law_found"]
abbrev pnWy : List Str := ["_law_nodes", "_law_number", "_law_own"]
theorem scWy : FnScope nWy pnWy (defScope s_l_way) := ⟨rfl, rfl, rfl, by decide +kernel, rfl, by decide +kernel, by decide +kernel⟩
theorem ok_wy {f : Addr} {fd : FuncData} (F : Fun K "_law_way" "_law_way" s_l_way f fd) (T : TxtB mg) (DLD : Def P w K mg base 1 "_law_digit" ["_law_number", "_law_level"] spLDig) : FnOk P w K mg base CX0 2 f fd pnWy (spWy K) := by
  refine F.ok scWy (fun vs H Q E h => ?_) (fun cdv A outer s H vs Q E hr h => ?_)
  · obtain ⟨no, nds, num, own, ws, Δ, rfl, _⟩ := h; rfl
  obtain ⟨no, nds, num0, own, ws, Δ, rfl, S, hown, hW, hws, q⟩ := h
  have hr1 := hr
  refine' ⟨?t, ?h, ?r⟩
  case h =>
    conv => arg 2; whnf
    with_reducible refine' (pss_cons ?h1 (pss_cons (ps_while ?h2 ?h3 (pss_one ?h4)) (pss_one ?h5)))
    case h1 => exact ps_set (i := 3) scWy.nd rfl (Or.inl rfl) (pe_lst (pac (pv 1) pa_nil))
    case h2 => exact PassesOwn.never
    case h3 => exact pt_cmpR op_eq (pe_ix ix_tup (pe_ix ix_list (pv 0) (pe_ix ix_list (pv 3) (pe_un un_neg pe_int) (fun _ _ => rfl)) (fun _ _ => rfl)) pe_int (fun _ _ => rfl)) pe_str (nomark _)
    case h4 => exact ps_expr (pe_bm PySem.F.plainAttrs_list PySem.F.slot_list_append PySem.F.type_list_append mt_append (pv 3) (pac (pe_ix ix_tup (pe_ix ix_tup (pe_ix ix_list (pv 0) (pe_ix ix_list (pv 3) (pe_un un_neg pe_int) (fun _ _ => rfl)) (fun _ _ => rfl)) pe_int (fun _ _ => rfl)) (pe_d DLD hr1 (pac (pv 2) (pac (pe_op op_sub (pe_callB call_len_seq rfl T.len PySem.boot_len (pac (pv 3) pa_nil)) pe_int) pa_nil))) (fun _ _ => rfl)) pa_nil))
    case h5 => exact ps_ret (pv 3)
  refine ⟨_, rfl, (by show 1 ≤ sizeLine; decide), fun l hl => ?_⟩
  generalize hE : upd H l _ = H1
  have S1 := S.newE hl hE
  clear hE
  refine ⟨fun m σ H' => ∃ (pre wr : List Nat) (num : Nat), m = wr.length ∧ σ = [some (.ref no), some (iN num0), some (.int own), some (.ref l)] ∧ Sep ((l, Lst ((pre ++ [num]).map iN)) :: (no, NdL K nds) :: Δ) H' ∧ Way nds own pre.length num wr ∧ ws = pre ++ wr, ⟨_, [], ws, num0, rfl, rfl, S1, hW, rfl⟩, ?_⟩
  rintro m σ H2 ⟨pre, wr, num, rfl, rfl, S2, hW2, hws2⟩
  obtain ⟨n, hn⟩ : ∃ n, nds[num]? = some n := by cases hW2 <;> exact ⟨_, by assumption⟩
  obtain ⟨as, a, eno, hat, hnd⟩ := NdL.at (S2.get no) hn
  have stop : (∀ qs, n ≠ .fork qs) → Sep ((l, Lst (ws.map iN)) :: (no, NdL K nds) :: Δ) H2 := fun hf => by
    have := hW2.at hn hf
    rw [hws2, this]; exact S2
  have hlen : pre.length < 100 := by
    have := List.length_pos_iff.mpr hW2.ne
    rw [hws2, List.length_append] at hws; omega
  cases n with
  | bare =>
    refine ⟨_, rfl, _, rfl, _, rfl, l, _, _, _, rfl, rfl, SqL.of (S2.get l), last_iN pre num, no, _, _, _, rfl, rfl, SqL.of eno, hat, a, _, _, _, rfl, rfl, hnd, rfl, rfl, _, rfl, ?_⟩
    rw [nbf]
    exact iteF ⟨_, rfl, q l H2 (stop fun qs z => by cases z)⟩
  | leaf m ps =>
    obtain ⟨t, e, _⟩ := hnd
    refine ⟨_, rfl, _, rfl, _, rfl, l, _, _, _, rfl, rfl, SqL.of (S2.get l), last_iN pre num, no, _, _, _, rfl, rfl, SqL.of eno, hat, a, _, _, _, rfl, rfl, e, rfl, rfl, _, rfl, ?_⟩
    rw [nlf]
    exact iteF ⟨_, rfl, q l H2 (stop fun qs z => by cases z)⟩
  | fork qs =>
    obtain ⟨t, e, et, h4⟩ := hnd
    have hdq := List.getElem?_eq_getElem (l := qs) (i := dig own pre.length) (by rw [h4]; exact dig_lt _ _)
    generalize qs[dig own pre.length]'(by rw [h4]; exact dig_lt _ _) = qn at hdq
    obtain ⟨wr1, rfl, hW3⟩ := hW2.fork hn hdq
    have hatq : atI (qs.map fun q : Nat => V.int (q : Int)) (own / 4 ^ pre.length % 4) = some (iN qn) := by rw [← dig_int]; exact atI_nat (by rw [List.getElem?_map, hdq]; rfl)
    refine ⟨_, rfl, _, rfl, _, rfl, l, _, _, _, rfl, rfl, SqL.of (S2.get l), last_iN pre num, no, _, _, _, rfl, rfl, SqL.of eno, hat, a, _, _, _, rfl, rfl, e, rfl, rfl, _, rfl, ?_⟩
    refine iteT ⟨_, fun _ _ h => h, ?_⟩
    refine ⟨_, rfl, .inl ⟨rfl, _, SqL.of (S2.get l)⟩, _, rfl, _, rfl, _, rfl, l, _, _, _, rfl, rfl, SqL.of (S2.get l), last_iN pre num, no, _, _, _, rfl, rfl, SqL.of eno, hat, a, _, _, _, rfl, rfl, e, rfl, _, rfl, _, rfl, l, _, rfl, .inl (SqL.of (S2.get l)), _, _, rfl, rfl, own, pre.length, ?_, hown, by omega, t, _, _, _, rfl, rfl, et, hatq, l, _, _, rfl, rfl, S2.get l, smallL (show _ ≤ 1000 by rw [List.length_map, List.length_append]; show pre.length + 1 ≤ 1000; omega), ?_⟩
    · rw [List.length_map, List.length_append]
      show [V.int own, V.int (((pre.length + 1 : Nat) : Int) - 1)] = _
      rw [show ((pre.length + 1 : Nat) : Int) - 1 = (pre.length : Int) by omega]
    · generalize hE : upd H2 l _ = H3
      have S3 := S2.putE hE
      clear hE
      refine ⟨wr1.length, Nat.lt_succ_self _, pre ++ [num], wr1, qn, rfl, rfl, ?_, by rw [List.length_append]; exact hW3, by rw [hws2, List.append_assoc]; rfl⟩
      rw [show (pre ++ [num] ++ [qn]).map iN = (pre ++ [num]).map iN ++ [iN qn] by rw [List.map_append]; rfl]
      exact S3
def spOW (K : PySem.W.Frag) : Sp := fun vs H Q _ => ∃ (no lo : Addr) (nds : List Nd) (os : List Nat) (lev s : Nat) (own : Int) (ow : List Nat) (Δ : Rs), vs = [.ref no, .ref lo, iN lev, .int own] ∧ Sep ((no, NdL K nds) :: (lo, Lst (os.map iN)) :: Δ) H ∧ 0 ≤ own ∧ lev ≤ 100 ∧ os.length ≤ 100 ∧ os ≠ [] ∧ os[min lev (os.length - 1)]? = some s ∧ OffW nds s lev own ow ∧ (∀ m ps, nds[s]? = some (.leaf m ps) → 0 ≤ m) ∧
  ∀ (l : Addr) (H' : Hp), Sep ((l, Lst (ow.map iN)) :: (no, NdL K nds) :: (lo, Lst (os.map iN)) :: Δ) H' → Q (.ref l) H'
abbrev nOW : List Str := ["_law_nodes", "_law_old", "_law_level", "_law_own", "_law_stood", "_law_parts", "_law_other"]
abbrev pnOW : List Str := ["_law_nodes", "_law_old", "_law_level", "_law_own"]
theorem scOW : FnScope nOW pnOW (defScope s_l_off_way) := ⟨rfl, rfl, rfl, by decide +kernel, rfl, by decide +kernel, by decide +kernel⟩
theorem ok_ow {f : Addr} {fd : FuncData} (F : Fun K "_law_off_way" "_law_off_way" s_l_off_way f fd) (T : TxtB mg) (DLD : Def P w K mg base 1 "_law_digit" ["_law_number", "_law_level"] spLDig) : FnOk P w K mg base CX0 2 f fd pnOW (spOW K) := by
  refine F.ok scOW (fun vs H Q E h => ?_) (fun cdv A outer s H vs Q E hr h => ?_)
  · obtain ⟨no, lo, nds, os, lev, s, own, ow, Δ, rfl, _⟩ := h; rfl
  obtain ⟨no, lo, nds, os, lev, s9, own, ow, Δ, rfl, S, hown, hlev, hosl, hosn, hs, hO, hm0, q⟩ := h
  have hr1 := hr
  refine' ⟨?t, ?h, ?r⟩
  case h =>
    conv => arg 2; whnf
    with_reducible refine' (pss_cons ?h1 (pss_cons (ps_if ?h2 (pss_one ?h3) pss_nil) (pss_cons ?h4 (pss_cons (ps_if ?h5 (pss_one ?h6) pss_nil) (pss_one ?h7)))))
    case h1 => exact ps_set (i := 4) scOW.nd rfl (Or.inl rfl) (pe_ix ix_list (pv 1) (pe_callB (call_min2 rfl) rfl T.min (by decide +kernel) (pac (pv 2) (pac (pe_op op_sub (pe_callB call_len_seq rfl T.len PySem.boot_len (pac (pv 1) pa_nil)) pe_int) pa_nil))) (fun _ _ => rfl))
    case h2 => exact pt_cmpR op_eq (pe_ix ix_tup (pe_ix ix_list (pv 0) (pv 4) (fun _ _ => rfl)) pe_int (fun _ _ => rfl)) pe_str (nomark _)
    case h3 => exact ps_ret (pe_callTy call_list_of rfl T.list (by decide +kernel) (pac (pe_ix ix_tup (pe_ix ix_list (pv 0) (pv 4) (fun _ _ => rfl)) pe_int (fun _ _ => rfl)) pa_nil))
    case h4 => exact ps_par (i := 5) (j := 6) rfl scOW.nd rfl rfl (by decide) rfl rfl (pac (pe_lst (pac pe_int (pac pe_int (pac pe_int (pac pe_int pa_nil))))) (pac (pe_ix ix_tup (pe_ix ix_list (pv 0) (pv 4) (fun _ _ => rfl)) pe_int (fun _ _ => rfl)) pa_nil)) rfl
    case h5 => exact pt_cmpR op_ne (pe_d DLD hr1 (pac (pv 6) (pac (pv 2) pa_nil))) (pe_d DLD hr1 (pac (pv 3) (pac (pv 2) pa_nil))) (nomark _)
    case h6 => exact ps_asg (pv 4) (pg_sub (pv 5) (pe_d DLD hr1 (pac (pv 6) (pac (pv 2) pa_nil))) set_list)
    case h7 => exact ps_ret (pv 5)
  have hpos := List.length_pos_iff.mpr hosn
  have hst : atI (os.map iN) (if ((os.map iN).length : Int) - 1 < (lev : Int) then ((os.map iN).length : Int) - 1 else (lev : Int)) = some (iN s9) := by
    rw [List.length_map]
    rw [show (if ((os.length : Nat) : Int) - 1 < (lev : Int) then ((os.length : Nat) : Int) - 1 else (lev : Int)) = ((min lev (os.length - 1) : Nat) : Int) by split <;> omega]
    exact atI_nat (by rw [List.getElem?_map, hs]; rfl)
  refine ⟨_, rfl, _, rfl, _, rfl, lo, _, rfl, .inl (SqL.of (S.get lo)), _, _, rfl, rfl, _, _, rfl, lo, _, _, _, rfl, rfl, SqL.of (S.get lo), hst, ?_⟩
  rcases hO with hO | ⟨m', ps, hO, how⟩
  · obtain ⟨as, a, eno, hat, t, e, et, h4⟩ := NdL.at (S.get no) hO
    refine ⟨_, rfl, _, rfl, no, _, _, _, rfl, rfl, SqL.of eno, hat, a, _, _, _, rfl, rfl, e, rfl, rfl, _, rfl, ?_⟩
    refine iteT ⟨_, rfl, _, rfl, no, _, _, _, rfl, rfl, SqL.of eno, hat, a, _, _, _, rfl, rfl, e, rfl, t, _, rfl, .inr et, fun l hl => ?_⟩
    exact q l _ (S.new hl _)
  · obtain ⟨as, a, eno, hat, t, e, _⟩ := NdL.at (S.get no) hO
    refine ⟨_, rfl, _, rfl, no, _, _, _, rfl, rfl, SqL.of eno, hat, a, _, _, _, rfl, rfl, e, rfl, rfl, _, rfl, ?_⟩
    rw [nlf]
    refine iteF ⟨(by show 4 ≤ sizeLine; decide), fun l hl => ?_⟩
    generalize hE : upd H l _ = H1
    have S1 := S.newE hl hE
    clear hE
    obtain ⟨as1, a1, eno1, hat1, t1, e1, _⟩ := NdL.at (S1.get no) hO
    refine ⟨_, rfl, _, rfl, no, _, _, _, rfl, rfl, SqL.of eno1, hat1, a1, _, _, _, rfl, rfl, e1, rfl, _, _, rfl, ?_⟩
    have hm' := hm0 m' ps hO
    refine ⟨_, rfl, _, rfl, m', lev, rfl, hm', by omega, _, rfl, _, rfl, own, lev, rfl, hown, by omega, rfl, _, rfl, ?_⟩
    have e9 : ∀ n : Int, n / 4 ^ lev % 4 = (dig n lev : Int) := fun n => (dig_int n lev).symm
    rw [e9, e9]
    by_cases hd : dig m' lev = dig own lev
    · rw [hd, decide_eq_true rfl]
      refine iteF ⟨_, rfl, q l H1 ?_⟩
      rw [how, if_pos hd]; exact S1
    · rw [decide_eq_false (fun z => hd (by have := V.int.inj z; omega))]
      refine iteT ⟨_, rfl, _, rfl, _, rfl, _, rfl, m', lev, rfl, hm', by omega, l, _, _, dig m' lev, rfl, rfl, S1.get l, ?_, _, rfl, ?_⟩
      · rw [e9]; exact ixN_nat (by have := dig_lt m' lev; show dig m' lev < 4; omega)
      · generalize hE : upd H1 l _ = H2
        have S2 := S1.putE hE
        clear hE
        refine q l H2 ?_
        rw [how, if_neg hd, List.map_set]; exact S2
theorem sIx_m1 (xs : List V) (y : V) (d : Nat) : HT.sIx (xs ++ [y]).length d (some (-1)) = xs.length := by
  unfold HT.sIx
  simp only [List.length_append, List.length_cons, List.length_nil]
  rw [if_pos (by decide)]
  omega
theorem cut_init (xs : List V) (y : V) : cutV (xs ++ [y]) none (some (-1)) = xs := by
  unfold cutV
  rw [sIx_m1]
  show ((xs ++ [y]).drop 0).take (xs.length - 0) = xs
  rw [List.drop_zero, Nat.sub_zero, List.take_left' rfl]
theorem cut_last (xs : List V) (y : V) : cutV (xs ++ [y]) (some (-1)) none = [y] := by
  unfold cutV
  rw [sIx_m1]
  show ((xs ++ [y]).drop xs.length).take ((xs ++ [y]).length - xs.length) = [y]
  rw [List.drop_left' rfl, List.length_append, show xs.length + [y].length - xs.length = 1 by simp]; rfl
theorem cut_to (xs : List V) (d : Nat) : cutV xs none (some (d : Int)) = xs.take d := by
  unfold cutV
  rw [HT.sIx_nat]
  show (xs.drop 0).take (min d xs.length - 0) = xs.take d
  rw [List.drop_zero, Nat.sub_zero]
  by_cases h : d ≤ xs.length
  · rw [Nat.min_eq_left h]
  · rw [Nat.min_eq_right (by omega), List.take_of_length_le (Nat.le_refl _), List.take_of_length_le (by omega)]
theorem cut_from (xs : List V) (d : Nat) : cutV xs (some ((d : Int) + 1)) none = xs.drop (d + 1) := by
  unfold cutV
  rw [show ((d : Int) + 1) = ((d + 1 : Nat) : Int) by omega, HT.sIx_nat]
  show (xs.drop (min (d + 1) xs.length)).take (xs.length - min (d + 1) xs.length) = xs.drop (d + 1)
  by_cases h : d + 1 ≤ xs.length
  · rw [Nat.min_eq_left h, List.take_of_length_le (by rw [List.length_drop]; exact Nat.le_refl _)]
  · rw [Nat.min_eq_right (by omega), List.drop_of_length_le (Nat.le_refl _), List.drop_of_length_le (by omega)]; exact List.take_nil
theorem off_cut (ps : List Nat) (d : Nat) : cutV (ps.map iN) none (some (d : Int)) ++ cutV (ps.map iN) (some ((d : Int) + 1)) none = ((offP ps d).map fun n : Nat => (n : Int)).map V.int := by
  rw [cut_to, cut_from]
  unfold offP
  rw [List.map_map, List.map_append, List.map_take, List.map_drop]; rfl
theorem OffW.mono {nds nds' : List Nd} {s lev : Nat} {m : Int} {ow : List Nat} (e : NEx nds nds') (h : OffW nds s lev m ow) : OffW nds' s lev m ow := by
  rcases h with h | ⟨m', ps, h, z⟩
  · exact .inl (e _ _ h)
  · exact .inr ⟨m', ps, e _ _ h, z⟩
theorem rng_up (L k : Nat) : ∀ (i : Nat), i = i → (List.range' L k).map (fun n : Nat => (n : Int)) = rngL (L : Int) k := by
  intro _ _
  unfold rngL
  rw [List.range'_eq_map_range, List.map_map]
  exact List.map_congr_left fun i _ => by show ((L + i : Nat) : Int) = _; omega
theorem srt_ints {xs ys : List Int} (hp : xs.Perm ys) (h1 : xs.Pairwise (· ≤ ·)) (h2 : ys.Pairwise (· ≤ ·)) : xs = ys := hp.eq_of_pairwise (fun a b _ _ h h' => Int.le_antisymm h h') h1 h2
def spMR (K : PySem.W.Frag) : Sp := fun vs H Q _ => ∃ (no : Addr) (nds nds' : List Nd) (t t' : Nat) (x : Str) (os : List Nat) (Δ : Rs), vs = [.ref no, iN nds.length, iN t, iN t', .str x] ∧ NameOk x ∧ 0 ≤ mkS x ∧ Sep ((no, NdL K nds') :: Δ) H ∧ NEx nds nds' ∧ ((t' = t ∧ nds' = nds) ∨ (t' ≠ t ∧ Md x nds nds' 0 t' os)) ∧ Way nds (mkS x) 0 t os ∧ os.length ≤ 100 ∧ nds'.length ≤ nds.length + 6 ∧ (∀ (i : Nat) m ps, nds'[i]? = some (.leaf m ps) → 0 ≤ m) ∧ nds'.length ≤ 5000 ∧
  ∀ H', Sep ((no, NdL K nds') :: Δ) H' → Q (.bl true) H'
abbrev nMR : List Str := ["_law_nodes", "_law_before", "_law_handed", "_law_told", "_law_name", "_law_own", "_law_old", "_law_way_here", "_law_last", "_law_due_new", "_law_level", "_law_number", "_law_due", "_law_parts", "_law_at"]
abbrev pnMR : List Str := ["_law_nodes", "_law_before", "_law_handed", "_law_told", "_law_name"]
theorem scMR : FnScope nMR pnMR (defScope s_l_made_right) := ⟨rfl, rfl, rfl, by decide +kernel, rfl, by decide +kernel, by decide +kernel⟩
theorem ok_mr {f : Addr} {fd : FuncData} (F : Fun K "_law_made_right" "_law_made_right" s_l_made_right f fd) (T : TxtB mg) (DLM : Def P w K mg base 1 "_law_mark" ["_law_name"] spLMark) (DLD : Def P w K mg base 1 "_law_digit" ["_law_number", "_law_level"] spLDig) (DWy : Def P w K mg base 2 "_law_way" pnWy (spWy K)) (DOW : Def P w K mg base 2 "_law_off_way" pnOW (spOW K)) : FnOk P w K mg base CX0 3 f fd pnMR (spMR K) := by
  refine F.ok scMR (fun vs H Q E h => ?_) (fun cdv A outer s H vs Q E hr h => ?_)
  · obtain ⟨no, nds, nds', t, t', x, os, Δ, rfl, _⟩ := h; rfl
  obtain ⟨no, nds, nds', t, t', x, os, Δ, rfl, hx, hm0, S, ext, hrel, hW, hosl, hlen, hlm, h5000, q⟩ := h
  have hr1 := hr.mono (show 1 ≤ 2 by decide)
  refine' ⟨?t, ?h, ?r⟩
  case h =>
    conv => arg 2; whnf
    with_reducible refine' (pss_cons ?h1 (pss_cons (ps_if ?h2 (pss_one ?h3) pss_nil) (pss_cons ?h4 (pss_cons ?h5 (pss_cut ?h6 (pss_cons (ps_if ?h7 (pss_one ?h8) pss_nil) (pss_cons (ps_for ?h9 ?h10 ?h11 ?h12 (pss_cons ?h13 (pss_cons ?h14 (pss_one (ps_if ?h15 (pss_one ?h16) pss_nil)))) ?h17) (pss_one ?h18))))))))
    case h1 => exact ps_set (i := 5) scMR.nd rfl (Or.inl rfl) (pe_d DLM hr1 (pac (pv 4) pa_nil))
    case h2 => exact pt_cmpR op_eq (pv 3) (pv 2) (nomark _)
    case h3 => exact ps_ret (pe_cmpR op_eq (pe_callB call_len_seq rfl T.len PySem.boot_len (pac (pv 0) pa_nil)) (pv 1) (nomark _))
    case h4 => exact ps_par (i := 6) (j := 7) rfl scMR.nd rfl rfl (by decide) rfl rfl (pac (pe_d DWy hr (pac (pv 0) (pac (pv 2) (pac (pv 5) pa_nil)))) (pac (pe_d DWy hr (pac (pv 0) (pac (pv 3) (pac (pv 5) pa_nil)))) pa_nil)) rfl
    case h5 => exact ps_set (i := 8) scMR.nd rfl (Or.inl rfl) (pe_ix ix_list (pv 0) (pe_ix ix_list (pv 7) (pe_un un_neg pe_int) (fun _ _ => rfl)) (fun _ _ => rfl))
    case h6 => exact ps_set (i := 9) scMR.nd rfl (Or.inl rfl) (pe_op op_cat (pe_slice sl_list (pv 7) po_none (po_some (pe_un un_neg pe_int))) (pe_op op_rep (pe_slice sl_list (pv 7) (po_some (pe_un un_neg pe_int)) po_none) (pe_callTy call_int1 rfl T.int (by decide +kernel) (pac (pe_and (pe_cmpR op_eq (pe_ix ix_tup (pv 8) pe_int (fun _ _ => rfl)) pe_str (nomark _)) (pe_one (pe_cmpR op_eq (pe_ix ix_tup (pv 8) pe_int (fun _ _ => rfl)) (pv 5) (nomark _)))) pa_nil))))
    case h7 => exact PW.pt (pw_or (pt_cmpR (op_neD hr.units) (pe_callB call_sorted_ints rfl T.sorted (by decide +kernel) (pac (pv 9) pa_nil)) (pe_callTy (call_list_rng rfl) rfl T.list (by decide +kernel) (pac (pe_callTy call_range2 rfl T.range (by decide +kernel) (pac (pv 1) (pac (pe_callB call_len_seq rfl T.len PySem.boot_len (pac (pv 0) pa_nil)) pa_nil))) pa_nil)) (nomark _)) (pw_or1 (pt_cmpR op_gt (pe_callB call_len_seq rfl T.len PySem.boot_len (pac (pv 9) pa_nil)) pe_int (nomark _))))
    case h8 => exact ps_ret pe_bl
    case h9 => exact PassesOwn.never
    case h10 => exact rfl
    case h11 => exact pi_enum0 rfl T.enumerate (pe_slice sl_list (pv 7) po_none (po_some (pe_un un_neg pe_int)))
    case h12 => exact pg_tup rfl (pgs_cons (pg_name (i := 10) scMR.nd rfl (Or.inl rfl)) (pgs_cons (pg_name (i := 11) scMR.nd rfl (Or.inl rfl)) pgs_nil))
    case h13 => exact ps_par (i := 12) (j := 13) rfl scMR.nd rfl rfl (by decide) rfl rfl (pac (pe_d DOW hr (pac (pv 0) (pac (pv 6) (pac (pv 10) (pac (pv 5) pa_nil))))) (pac (pe_callTy call_list_of rfl T.list (by decide +kernel) (pac (pe_ix ix_tup (pe_ix ix_list (pv 0) (pv 11) (fun _ _ => rfl)) pe_int (fun _ _ => rfl)) pa_nil)) pa_nil)) rfl
    case h14 => exact ps_set (i := 14) scMR.nd rfl (Or.inl rfl) (pe_d DLD hr1 (pac (pv 5) (pac (pv 10) pa_nil)))
    case h15 => exact pt_cmpR (op_neD hr.units) (pe_op op_cat (pe_slice sl_list (pv 13) po_none (po_some (pv 14))) (pe_slice sl_list (pv 13) (po_some (pe_op op_add (pv 14) pe_int)) po_none)) (pe_op op_cat (pe_slice sl_list (pv 12) po_none (po_some (pv 14))) (pe_slice sl_list (pv 12) (po_some (pe_op op_add (pv 14) pe_int)) po_none)) (nomark _)
    case h16 => exact ps_ret pe_bl
    case h17 => exact fun _ => rfl
    case h18 => exact ps_ret pe_bl
  refine ⟨_, rfl, x, rfl, by have := hx.2.1; omega, hx.2.2, fun H1 s1 => ?_⟩
  have S1 := S.mono s1
  refine ⟨_, rfl, _, rfl, rfl, _, rfl, ?_⟩
  rcases hrel with ⟨rfl, rfl⟩ | ⟨hne, M⟩
  · rw [decide_eq_true rfl]
    obtain ⟨as, eno, hal, _⟩ := S1.get no
    refine iteT ⟨_, rfl, no, _, rfl, .inl (SqL.of eno), _, rfl, rfl, ?_⟩
    rw [List.length_map, hal]
    rw [show decide (V.int ((nds'.length : Nat) : Int) = iN nds'.length) = true from decide_eq_true rfl]
    exact q H1 S1
  · rw [decide_eq_false (fun z => hne (by have := V.int.inj z; omega))]
    obtain ⟨ws, e, n, W, hne2, hnf, hrg, hle, hpt⟩ := M
    have hwl : ws.length ≤ 6 := by
      have h9 := congrArg List.length hrg
      rw [List.length_reverse, List.length_range', List.length_append] at h9
      omega
    refine iteF ⟨_, rfl, _, rfl, _, rfl, no, nds', t, mkS x, os, _, rfl, S1, hm0, hW.mono ext, hosl, fun l1 H2 S2 => ⟨_, rfl, _, rfl, _, rfl, no, nds', t', mkS x, ws ++ [e], _, rfl, S2.pull no, hm0, W, by rw [List.length_append]; show ws.length + 1 ≤ 100; omega, fun l2 H3 S3 => ⟨_, _, rfl, ?_⟩⟩⟩
    obtain ⟨as, a, eno, hat, hnd⟩ := NdL.at (S3.get no) hne2
    refine ⟨_, rfl, _, rfl, _, rfl, l2, _, _, _, rfl, rfl, SqL.of (S3.get l2), last_iN ws e, no, _, _, _, rfl, rfl, SqL.of eno, hat, ?_⟩
    have hM : n.hasM (mkS x) = true ↔ ∃ ps, n = .leaf (mkS x) ps := by
      cases n with
      | bare => exact ⟨(fun z => by cases z), fun ⟨_, z⟩ => by cases z⟩
      | fork qs => exact absurd rfl (hnf qs)
      | leaf m ps => exact ⟨fun z => ⟨ps, by rw [of_decide_eq_true z]⟩, fun ⟨_, z⟩ => by cases z; exact decide_eq_true rfl⟩
    generalize hdue : ws ++ (if n.hasM (mkS x) = true then [e] else []) = due at hrg
    have hcut1 : cutV ((ws ++ [e]).map iN) none (some (-1)) = ws.map iN := by rw [List.map_append]; exact cut_init _ _
    have hcut2 : cutV ((ws ++ [e]).map iN) (some (-1)) none = [iN e] := by rw [List.map_append]; exact cut_last _ _
    refine ⟨fun σ H' => ∃ dn, σ = [some (.ref no), some (iN nds.length), some (iN t), some (iN t'), some (.str x), some (.int (mkS x)), some (.ref l1), some (.ref l2), some (.ref a), some (.ref dn), none, none, none, none, none] ∧ Sep ((no, NdL K nds') :: (l1, Lst (os.map iN)) :: (l2, Lst ((ws ++ [e]).map iN)) :: (dn, Lst (due.map iN)) :: Δ) H', ?_, ?_⟩
    · refine ⟨_, rfl, _, rfl, _, rfl, l2, _, rfl, SqL.of (S3.get l2), fun sa hsa => ?_⟩
      generalize hE : upd H3 sa _ = H4
      have S4 := S3.newE hsa hE
      have s4 : Same H3 H4 := hE ▸ same_new hsa _
      clear hE
      rw [hcut1] at S4
      refine ⟨_, rfl, _, rfl, _, rfl, l2, _, rfl, SqL.of (S4.get l2), fun sb hsb => ?_⟩
      generalize hE : upd H4 sb _ = H5
      have S5 := S4.newE hsb hE
      have s5 : Same H4 H5 := hE ▸ same_new hsb _
      clear hE
      rw [hcut2] at S5
      have fin : ∀ kb : Bool, (kb = n.hasM (mkS x)) → ∀ p, H5 p = none → Sep ((p, Lst (List.replicate (if kb = true then (1 : Int) else 0).toNat [iN e]).flatten) :: (sb, Lst [iN e]) :: (sa, Lst (ws.map iN)) :: (l2, Lst ((ws ++ [e]).map iN)) :: (no, NdL K nds') :: (l1, Lst (os.map iN)) :: Δ) (upd H5 p (.lst (List.replicate (if kb = true then (1 : Int) else 0).toNat [iN e]).flatten)) := fun kb _ p hp => S5.new hp _
      have dueE : ∀ kb : Bool, kb = n.hasM (mkS x) → ws.map iN ++ (List.replicate (if kb = true then (1 : Int) else 0).toNat [iN e]).flatten = due.map iN := fun kb hk => by
        rw [← hdue, ← hk]
        cases kb with
        | true => rw [List.map_append]; rfl
        | false => rw [List.map_append]; rfl
      have tail : ∀ kb : Bool, kb = n.hasM (mkS x) → ∀ p, H5 p = none → ∀ dn, (upd H5 p (.lst (List.replicate (if kb = true then (1 : Int) else 0).toNat [iN e]).flatten)) dn = none → Sep ((no, NdL K nds') :: (l1, Lst (os.map iN)) :: (l2, Lst ((ws ++ [e]).map iN)) :: (dn, Lst (due.map iN)) :: Δ) (upd (upd H5 p (.lst (List.replicate (if kb = true then (1 : Int) else 0).toNat [iN e]).flatten)) dn (.lst (ws.map iN ++ (List.replicate (if kb = true then (1 : Int) else 0).toNat [iN e]).flatten))) := fun kb hk p hp dn hdn => by
        have S7 := (fin kb hk p hp).new hdn (.lst (ws.map iN ++ (List.replicate (if kb = true then (1 : Int) else 0).toNat [iN e]).flatten))
        have S8 := ((((S7.drop p).drop sb).drop sa).pull l2).pull l1 |>.pull no
        rw [dueE kb hk] at S8 ⊢
        exact S8
      have small1 : ∀ kb : Bool, [iN e].length * (if kb = true then (1 : Int) else 0).toNat ≤ sizeLine := fun kb => by
        cases kb
        · show 1 * 0 ≤ sizeLine; decide
        · show 1 * 1 ≤ sizeLine; decide
      have small2 : ∀ kb : Bool, (ws.map iN).length + (List.replicate (if kb = true then (1 : Int) else 0).toNat [iN e]).flatten.length ≤ sizeLine := fun kb => by
        rw [List.length_map]
        have : (List.replicate (if kb = true then (1 : Int) else 0).toNat [iN e]).flatten.length ≤ 1 := by
          cases kb
          · show 0 ≤ 1; decide
          · show 1 ≤ 1; decide
        have h9 : 100 ≤ sizeLine := by decide
        omega
      have b63 : ∀ kb : Bool, -(2 ^ 63) ≤ (if kb = true then (1 : Int) else 0) ∧ (if kb = true then (1 : Int) else 0) < 2 ^ 63 := fun kb => by cases kb <;> decide
      have hnd5 : NodeAt K H5 a n := (hnd.tf s4.tf).tf s5.tf
      cases n with
      | fork qs => exact absurd rfl (hnf qs)
      | bare =>
        have hk : false = Nd.bare.hasM (mkS x) := rfl
        refine ⟨_, rfl, a, _, _, _, rfl, rfl, hnd5, rfl, rfl, _, rfl, ?_⟩
        rw [show decide (V.str (Str.ofString "bare") = V.str (Str.ofString "leaf")) = false by decide +kernel]
        refine iteF (.inr ⟨false, rfl, sb, _, _, rfl, rfl, S5.get sb, (b63 false).1, (b63 false).2, small1 false, fun p hp => ⟨sa, p, _, _, rfl, rfl, ?_, upd_same, small2 false, fun dn hdn => ⟨dn, rfl, tail false hk p hp dn hdn⟩⟩⟩)
        exact (fin false hk p hp).get sa
      | leaf m ps =>
        obtain ⟨tp, e5, _⟩ := hnd5
        have hk : decide (V.int m = V.int (mkS x)) = (Nd.leaf m ps).hasM (mkS x) := by
          show _ = decide (m = mkS x)
          by_cases z : m = mkS x
          · rw [z, decide_eq_true rfl, decide_eq_true rfl]
          · rw [decide_eq_false z, decide_eq_false fun y => z (V.int.inj y)]
        refine ⟨_, rfl, a, _, _, _, rfl, rfl, e5, rfl, rfl, _, rfl, ?_⟩
        refine iteT ⟨_, rfl, a, _, _, _, rfl, rfl, e5, rfl, _, rfl, rfl, .inr ⟨_, rfl, sb, _, _, rfl, rfl, S5.get sb, (b63 _).1, (b63 _).2, small1 _, fun p hp => ⟨sa, p, _, _, rfl, rfl, ?_, upd_same, small2 _, fun dn hdn => ⟨dn, rfl, tail _ hk p hp dn hdn⟩⟩⟩⟩
        exact (fin _ hk p hp).get sa
    · clear S S1 S2 S3 eno hat hnd
      rintro σ H4 ⟨dn, rfl, S4⟩
      have hdl : due.length ≤ 6 := by
        have h9 := congrArg List.length hrg
        rw [List.length_reverse, List.length_range'] at h9; omega
      have eI : due.map iN = (due.map fun n : Nat => (n : Int)).map V.int := by rw [List.map_map]; rfl
      have hS4 := S4.get dn
      refine ⟨_, rfl, dn, due.map (fun n : Nat => (n : Int)), rfl, SqL.of (eI ▸ hS4), by rw [List.length_map]; omega, fun la ns' hla hp hs => ?_⟩
      generalize hE : upd H4 la _ = H5
      have S5 := S4.newE hla hE
      clear hE
      obtain ⟨as5, eno5, hal5, _⟩ := S5.get no
      refine ⟨_, rfl, _, rfl, no, _, rfl, .inl (SqL.of eno5), _, _, rfl, fun rr hrr => ⟨rr, _, _, rfl, upd_same, by show _ ≤ (nds.length : Int); omega, by show (nds.length : Int) < _; omega, by rw [List.length_map, hal5]; omega, by rw [List.length_map, hal5]; omega, by rw [List.length_map, hal5]; show (nds'.length : Int) - (nds.length : Int) ≤ _; omega, fun lb hlb => ?_⟩⟩
      generalize hE : upd (upd H5 rr _) lb _ = H6
      have S6 := (S5.new hrr _).newE hlb hE
      clear hE
      have hk : (((as5.map V.ref).length : Int) - (nds.length : Int)).toNat = nds'.length - nds.length := by rw [List.length_map, hal5]; omega
      have S6 := S6.say lb (Lst ((rngL (nds.length : Int) (nds'.length - nds.length)).map V.int)) fun h z => by rw [← hk]; exact z
      have heq : ns' = rngL (nds.length : Int) (nds'.length - nds.length) := by
        refine srt_ints (hp.trans ?_) hs ?_
        · rw [hrg, List.map_reverse, rng_up nds.length _ 0 rfl]; exact List.reverse_perm _
        · unfold rngL
          rw [List.pairwise_map]
          exact List.pairwise_lt_range.imp fun {a b} h => by omega
      subst heq
      obtain ⟨z1, z2, z3⟩ := ints_data (S6.get la)
      obtain ⟨y1, _, _⟩ := ints_data (S6.get lb)
      refine ⟨_, _, z1, y1, z2, z2, z3, _, rfl, ?_⟩
      rw [SeqAt.eqv_refl _ z2]
      refine iteF ⟨_, rfl, dn, _, rfl, .inl (SqL.of (S6.get dn)), _, _, rfl, rfl, _, rfl, ?_⟩
      rw [List.length_map, decide_eq_false (show ¬ ((due.length : Nat) : Int) > 6 by omega)]
      have S7 := (((S6.drop lb).drop rr).drop la).drop dn
      refine iteF ⟨_, rfl, _, rfl, _, rfl, l2, _, rfl, SqL.of (S7.get l2), fun se hse => ⟨se, _, rfl, upd_same, ?_⟩⟩
      rw [hcut1]
      generalize hE : upd H6 se _ = H7
      have S8 := S7.newE hse hE
      clear hE
      have S9 : Sep ((se, Lst (ws.map iN)) :: (no, NdL K nds') :: (l1, Lst (os.map iN)) :: (l2, Lst ((ws ++ [e]).map iN)) :: Δ) H7 := S8
      refine for_enumL (K := K) (xs := ws.map iN) (fun i σ H' => ∃ x10 x11 x12 x13 x14, σ = [some (.ref no), some (iN nds.length), some (iN t), some (iN t'), some (.str x), some (.int (mkS x)), some (.ref l1), some (.ref l2), some (.ref a), some (.ref dn), x10, x11, x12, x13, x14] ∧ Sep ((se, Lst (ws.map iN)) :: (no, NdL K nds') :: (l1, Lst (os.map iN)) :: (l2, Lst ((ws ++ [e]).map iN)) :: Δ) H') ⟨_, _, _, _, _, rfl, S9⟩ (fun i σ H' _ h => ?_) ?_ ?_
      · obtain ⟨_, _, _, _, _, _, S'⟩ := h; exact SqL.of (S'.get se)
      · rintro i v t0 σ H8 hv ht0 ⟨x10, x11, x12, x13, x14, rfl, S10⟩
        rw [List.getElem?_map] at hv
        cases hw : ws[i]? with
        | none => rw [hw] at hv; cases hv
        | some w =>
          rw [hw] at hv
          cases (show some (iN w) = some v from hv)
          have hi : i < ws.length := (List.getElem?_eq_some_iff.mp hw).1
          obtain ⟨ps, s9, ow, h1, h2, h3, h4⟩ := hpt i w hw
          rw [Nat.zero_add] at h3 h4
          refine ⟨t0, _, rfl, SqT.of upd_same, rfl, _, _, rfl, _, _, rfl, rfl, ?_⟩
          generalize hE : upd H8 t0 _ = H9
          have S11 := (S10.newE ht0 hE).tail
          clear hE
          refine ⟨_, rfl, _, rfl, _, rfl, _, rfl, no, l1, nds', os, i, s9, mkS x, ow, _, rfl, (S11.pull l1).pull no, hm0, by omega, hosl, hW.ne, h2, h3.mono ext, fun m ps hz => hlm _ _ _ hz, fun ld H10 S12 => ?_⟩
          obtain ⟨as9, a9, eno9, hat9, t9, e9, et9, hps4⟩ := NdL.at (S12.get no) h1
          have how4 : ow.length = 4 := by
            rcases h3 with h3 | ⟨m', ps', h3, z⟩
            · obtain ⟨_, _, _, _, _, _, _, z⟩ := NdL.at (S12.get no) (ext _ _ h3); exact z
            · rw [z]; split <;> first | rfl | rw [List.length_set]; rfl
          refine ⟨_, rfl, _, rfl, no, _, _, _, rfl, rfl, SqL.of eno9, hat9, a9, _, _, _, rfl, rfl, e9, rfl, t9, _, rfl, .inr et9, fun lp hlp => ⟨_, _, rfl, ?_⟩⟩
          generalize hE : upd H10 lp _ = H11
          have S13 := S12.newE hlp hE
          clear hE
          refine ⟨_, rfl, _, rfl, mkS x, i, rfl, hm0, by omega, ?_⟩
          rw [← dig_int]
          refine ⟨_, rfl, _, rfl, _, rfl, lp, _, rfl, SqL.of (S13.get lp), fun s1 hs1 => ?_⟩
          generalize hE : upd H11 s1 _ = H12
          have S14 := S13.newE hs1 hE
          clear hE
          refine ⟨_, rfl, _, rfl, _, _, rfl, rfl, _, rfl, lp, _, rfl, SqL.of (S14.get lp), fun s2 hs2 => ?_⟩
          generalize hE : upd H12 s2 _ = H13
          have S15 := S14.newE hs2 hE
          clear hE
          have hsz : ∀ (qs : List Nat) (a b c d : Option Int), qs.length = 4 → (cutV (qs.map iN) a b).length + (cutV (qs.map iN) c d).length ≤ sizeLine := fun qs a b c d hq => by
            have z1 := cutV_length (qs.map iN) a b
            have z2 := cutV_length (qs.map iN) c d
            rw [List.length_map, hq] at z1 z2
            have h9 : 100 ≤ sizeLine := by decide
            omega
          refine ⟨s1, s2, _, _, rfl, rfl, S15.get s1, S15.get s2, hsz ps _ _ _ _ hps4, fun c1 hc1 => ?_⟩
          generalize hE : upd H13 c1 _ = H14
          have S16 := (S15.newE hc1 hE).say c1 (Lst (((offP ps (dig (mkS x) i)).map fun n : Nat => (n : Int)).map V.int)) fun h z => by rw [← off_cut]; exact z
          clear hE
          rw [h4] at S16
          refine ⟨_, rfl, _, rfl, _, rfl, ld, _, rfl, SqL.of (S16.get ld), fun s3 hs3 => ?_⟩
          generalize hE : upd H14 s3 _ = H15
          have S17 := S16.newE hs3 hE
          clear hE
          refine ⟨_, rfl, _, rfl, _, _, rfl, rfl, _, rfl, ld, _, rfl, SqL.of (S17.get ld), fun s4 hs4 => ?_⟩
          generalize hE : upd H15 s4 _ = H16
          have S18 := S17.newE hs4 hE
          clear hE
          refine ⟨s3, s4, _, _, rfl, rfl, S18.get s3, S18.get s4, hsz ow _ _ _ _ how4, fun c2 hc2 => ?_⟩
          generalize hE : upd H16 c2 _ = H17
          have S19 := (S18.newE hc2 hE).say c2 (Lst (((offP ow (dig (mkS x) i)).map fun n : Nat => (n : Int)).map V.int)) fun h z => by rw [← off_cut]; exact z
          clear hE
          obtain ⟨z1, z2, z3⟩ := ints_data (S19.get c1)
          obtain ⟨y1, _, _⟩ := ints_data (S19.get c2)
          refine ⟨_, _, z1, y1, z2, z2, z3, _, rfl, ?_⟩
          rw [SeqAt.eqv_refl _ z2]
          exact iteF ⟨_, _, _, _, _, rfl, ((((((((((S19.drop c2).drop s4).drop s3).drop c1).drop s2).drop s1).drop lp).drop ld).pull l2).pull l1 |>.pull no).pull se⟩
      · rintro σ H8 ⟨x10, x11, x12, x13, x14, rfl, S10⟩
        exact q H8 ((((S10.drop se).drop l1).drop l2))
end
end K6
set_option maxHeartbeats 4000000
namespace K6
open PySem L2
theorem node_sml2 {n : Nd} (ok : NdSh n) (h50 : ∀ m ps, n = .leaf m ps → ps.length ≤ 50) : Sml (ndD n) 38000 3 := by
  cases n with
  | bare => exact (node_sml ok |> fun _ => (tuple_sml (n := 100) (k := 0) fun d hd => by rw [List.mem_singleton.mp hd]; exact lit_sml (by decide +kernel) (by decide +kernel) 0).le (by decide) (by decide))
  | leaf m ps =>
    obtain ⟨h1, _, h3⟩ := ok
    have h2 := h50 m ps rfl
    have s1 : Sml (.tuple (ps.map pairD)) 12400 2 := (tuple_sml (n := 244) (k := 1) fun d hd => by
      obtain ⟨p, hp, rfl⟩ := List.mem_map.mp hd
      exact pair_sml (n := 40) (m := 200) (k := 0) (name_sml (h3 p hp).1 0) (nv_sml (.inr (h3 p hp).2) 0)).le (by rw [List.length_map]; have : ps.length * (244 + 2) ≤ 50 * 246 := Nat.mul_le_mul_right _ h2; omega) (by decide)
    refine (tuple_sml (n := 12400) (k := 2) fun d hd => ?_).le (by show 3 + 3 * 12402 ≤ _; decide) (by decide)
    rcases List.mem_cons.mp hd with rfl | hd
    · exact (lit_sml (by decide +kernel) (by decide +kernel) 0).le (by decide) (by decide)
    rcases List.mem_cons.mp hd with rfl | hd
    · exact (int_sml h1 0).le (by decide) (by decide)
    rw [List.mem_singleton.mp hd]; exact s1
  | fork qs =>
    obtain ⟨h1, h2⟩ := ok
    have s1 : Sml (.tuple (qs.map fun q : Nat => .int (q : Int))) 1000 1 := (tuple_sml (n := 40) (k := 0) fun d hd => by
      obtain ⟨q, hq, rfl⟩ := List.mem_map.mp hd
      exact int_sml (by have := h2 q hq; omega) 0).le (by rw [List.length_map, h1]; decide) (by decide)
    refine (tuple_sml (n := 1000) (k := 1) fun d hd => ?_).le (by show 3 + 2 * 1002 ≤ _; decide) (by decide)
    rcases List.mem_cons.mp hd with rfl | hd
    · exact (lit_sml (by decide +kernel) (by decide +kernel) 0).le (by decide) (by decide)
    rw [List.mem_singleton.mp hd]; exact s1
theorem nodes_datT {K : PySem.W.Frag} {H : Hp} : ∀ {as : List Addr} {nds : List Nd}, as.length = nds.length → (∀ (i : Nat) a n, as[i]? = some a → nds[i]? = some n → NodeAt K H a n) → (∀ n ∈ nds, NdSh n) → DatTs K H (as.map V.ref) (nds.map ndD)
  | [], [], _, _, _ => .nil
  | [], _ :: _, e, _, _ => by cases e
  | _ :: _, [], e, _, _ => by cases e
  | a :: as, n :: nds, e, h, ok => .cons (node_datT (h 0 a n rfl rfl) (ok n List.mem_cons_self)) (nodes_datT (by simpa using e) (fun i b m e1 e2 => h (i + 1) b m e1 e2) fun m hm => ok m (List.mem_cons_of_mem _ hm))
theorem NdOk.sh {NS : List Str} {len : Nat} {n : Nd} (N : NsOk NS) (hN : ∀ x ∈ NS, NameOk x) (hl : len ≤ 100000) (h : NdOk NS len n) : NdSh n := by
  cases n with
  | bare => trivial
  | leaf m ps =>
    obtain ⟨G, hv⟩ := h
    refine ⟨?_, by have := G.few; have := N.few; omega, fun p hp => ⟨hN _ (G.sub p hp), hv p hp⟩⟩
    cases ps with
    | nil => exact absurd rfl G.ne
    | cons p r =>
      have h1 := G.mrk p List.mem_cons_self
      have h2 := G.sub p List.mem_cons_self
      have := N.lo _ h2
      have := N.hi _ h2
      omega
  | fork qs => exact ⟨h.1, fun q hq => by have := h.2 q hq; omega⟩
theorem NdOk.pos {NS : List Str} {len : Nat} {m : Int} {ps : List (Str × V)} (N : NsOk NS) (h : NdOk NS len (.leaf m ps)) : 0 ≤ m := by
  obtain ⟨G, _⟩ := h
  cases ps with
  | nil => exact absurd rfl G.ne
  | cons p r =>
    have h1 := G.mrk p List.mem_cons_self
    have h2 := G.sub p List.mem_cons_self
    have := N.lo _ h2
    omega
theorem Sep.ndL {K : PySem.W.Frag} {Δ : Rs} {H : Hp} {l : Addr} {as : List Addr} {nds : List Nd} (S : Sep ((l, Lst (as.map V.ref)) :: Δ) H) (hl : as.length = nds.length) (h : ∀ (i : Nat) a n, as[i]? = some a → nds[i]? = some n → NodeAt K H a n) : Sep ((l, NdL K nds) :: Δ) H :=
  L2.Sep.im S fun g e _ im => ⟨as, e, hl, fun i a n e1 e2 => (h i a n e1 e2).tf ⟨fun b xs e => im _ _ e rfl, fun b o u e => im _ _ e rfl⟩⟩
theorem nd_join {nds nds' : List Nd} {as bs : List Addr} {K : PySem.W.Frag} {H : Hp} (e : NEx nds nds') (ha : as.length = nds.length) (hb : bs.length = nds'.length - nds.length) (hle : nds.length ≤ nds'.length) (h1 : ∀ (i : Nat) a n, as[i]? = some a → nds[i]? = some n → NodeAt K H a n) (h2 : ∀ (j : Nat) a n, bs[j]? = some a → nds'[nds.length + j]? = some n → NodeAt K H a n) :
    (as ++ bs).length = nds'.length ∧ ∀ (i : Nat) a n, (as ++ bs)[i]? = some a → nds'[i]? = some n → NodeAt K H a n := by
  refine ⟨by rw [List.length_append]; omega, fun i a n e1 e2 => ?_⟩
  by_cases hi : i < as.length
  · rw [List.getElem?_append_left hi] at e1
    have h9 := List.getElem?_eq_getElem (l := nds) (i := i) (by omega)
    have := e i _ h9
    rw [e2] at this
    exact h1 i a n e1 (by rw [h9]; exact this.symm)
  · rw [List.getElem?_append_right (by omega)] at e1
    exact h2 (i - as.length) a n e1 (by rw [show nds.length + (i - as.length) = i by omega]; exact e2)
theorem Dd.rel {NS : List Str} {nds nds' : List Nd} {t t' : Nat} {ps ps' : List (Str × V)} {x : Str} (N : NsOk NS) (hx : x ∈ NS) (h0 : nds[0]? = some .bare) (d : Dd nds t ps x nds' t' ps') (tri : Tri NS nds (lk ps) 5 0 0 t) (tri' : Tri NS nds' (lk ps') 5 0 0 t') (ext : NEx nds nds') {os : List Nat} (W : Way nds (mkS x) 0 t os) : (t' = t ∧ nds' = nds) ∨ (t' ≠ t ∧ Md x nds nds' 0 t' os) := by
  have uni : ∀ y ∈ NS, t' = t → lk ps y = lk ps' y := fun y hy e => by
    rw [e] at tri'
    obtain ⟨ws, e1, n, h1, h2, _, _, h3⟩ := tri_looked N (Tri.mono 5 tri ext) hy
    obtain ⟨ws', e2, n', g1, g2, _, _, g3⟩ := tri_looked N tri' hy
    rw [h1] at g1
    have e9 := (List.append_inj' (Option.some.inj g1) rfl).2
    cases e9
    rw [h2] at g2
    cases g2
    rw [← h3, g3]
  rcases d with ⟨v, hv, rfl, (⟨_, a, b⟩ | ⟨a, r⟩)⟩ | ⟨rfl, (⟨_, a, b⟩ | ⟨a, r⟩)⟩
  · exact .inl ⟨a, b⟩
  · refine .inr ⟨fun z => a ?_, r.made h0 W⟩
    rw [uni x hx z, putP_lk, if_pos rfl]
  · exact .inl ⟨a, b⟩
  · refine .inr ⟨fun z => a ?_, r.made N hx h0 tri (by decide) (by rw [Nat.pow_zero, Nat.mod_one]) W⟩
    rw [uni x hx z, butP_lk, if_pos rfl]
section
variable {P : Program} {w : World} {K : PySem.W.Frag} {mg : Str → Option Value} {base : Heap} {C Pl Pp : Addr}
def spLaw (K : PySem.W.Frag) (Pl Pp : Addr) : Sp := fun vs H Q _ => ∃ (a : Addr) (ns : List Int), vs = [.ref a] ∧ SqL K H a (ns.map V.int) ∧ ns.length ≤ 63 ∧ LamAt H Pl lpLeaf qLeaf ∧ LamAt H Pp lpPairs qPairs ∧ Pl ≠ Pp ∧ ∀ H', Q (.bl true) H'
abbrev nLw : List Str := ["_law_script", "_law_k", "_law_box_here", "_law_store", "_law_names_here", "_law_tables", "_law_dicts", "_law_nodes", "_law_turn", "_law_at", "_law_name", "_law_before"]
abbrev pnLw : List Str := ["_law_script"]
theorem scLw : FnScope nLw pnLw (defScope s_law) := ⟨rfl, rfl, rfl, by decide +kernel, rfl, by decide +kernel, by decide +kernel⟩
theorem ok_law {f : Addr} {fd : FuncData} (F : Fun K "law" "law" s_law f fd) (T : TxtB mg) (TC : TxtC K C) (DB : Def P w K mg base 10 "_law_box" ["_law_script", "_law_k"] (spBoxS K)) (DT : DTk P w K mg base 1) (DN : Def P w K mg base 10 "_law_names" ["_law_box_here", "_law_many"] spNamesS) (DDe : Def P w K mg base 10 "_law_deed" pnDe (spDeed K C Pl)) (DMR : Def P w K mg base 10 "_law_made_right" pnMR (spMR K))
    (DSto : DefI P w K mg base 9 C "Store" ["self"] (spInitS K C)) (DS_node : DefM P w K mg base 10 C "node" ["self", "number"] (spNodeS K C)) (DS_made : DefM P w K mg base 10 C "made" ["self"] (spMade K C)) : FnOk P w K mg base CX0 11 f fd pnLw (spLaw K Pl Pp) := by
  refine F.ok scLw (fun vs H Q E h => ?_) (fun cdv A outer s H vs Q E hr h => ?_)
  · obtain ⟨a, ns, rfl, _⟩ := h; rfl
  obtain ⟨a, ns, rfl, hS, h63, hL, hP, hne, q⟩ := h
  have S := sep_start hS hL hP hne
  have hr1 := hr.mono (show 1 ≤ 10 by decide)
  refine' ⟨?t, ?h, ?r⟩
  case h =>
    conv => arg 2; whnf
    with_reducible refine' (pss_cons (ps_for ?h1 ?h2 ?h3 ?h4 (pss_cons ?h5 (pss_cons ?h6 (pss_cons ?h7 (pss_cons (ps_for ?h8 ?h9 ?h10 ?h11 (pss_cons ?h12 (pss_cons ?h13 (pss_cons ?h14 (pss_one (ps_if ?h15 (pss_one ?h16) pss_nil))))) ?h17) (pss_one (ps_if ?h18 (pss_one ?h19) pss_nil)))))) ?h20) (pss_one ?h21))
    case h1 => exact PassesOwn.never
    case h2 => exact rfl
    case h3 => exact pi_range1 rfl T.range (pac (pe_op op_add pe_int (pe_callB (call_min2 rfl) rfl T.min (by decide +kernel) (pac pe_int (pac (pe_callB call_len_seq rfl T.len PySem.boot_len (pac (pv 0) pa_nil)) pa_nil)))) pa_nil)
    case h4 => exact pg_name (i := 1) scLw.nd rfl (Or.inl rfl)
    case h5 => exact ps_asg (pe_tup (pac (pe_d DB hr (pac (pv 0) (pac (pv 1) pa_nil))) (pac (pe_i0 DSto hr) pa_nil))) (pg_tup rfl (pgs_cons (pg_name (i := 2) scLw.nd rfl (Or.inl rfl)) (pgs_cons (pg_name (i := 3) scLw.nd rfl (Or.inr rfl)) pgs_nil)))
    case h6 => exact ps_set (i := 4) scLw.nd rfl (Or.inl rfl) (pe_d DN hr (pac (pv 2) (pac (pe_op op_add pe_int (pe_d DT hr1 (pac (pv 2) (pac pe_int pa_nil)))) pa_nil)))
    case h7 => exact ps_par3 (i := 5) (j := 6) (k := 7) rfl scLw.nd rfl rfl rfl (by decide) (by decide) (by decide) rfl rfl rfl (pac (pe_lst (pac pe_int pa_nil)) (pac (pe_lst (pac pe_dnewK pa_nil)) (pac (pe_lst (pac (pe_m DS_node TC.cl hr (pv 3) (pac pe_int pa_nil)) pa_nil)) pa_nil))) rfl
    case h8 => exact PassesOwn.never
    case h9 => exact rfl
    case h10 => exact pi_range1 rfl T.range (pac (pe_op op_add pe_int (pe_d DT hr1 (pac (pv 2) (pac pe_int pa_nil)))) pa_nil)
    case h11 => exact pg_name (i := 8) scLw.nd rfl (Or.inl rfl)
    case h12 => exact ps_asg (pe_d DDe hr (pac (pv 2) (pac (pv 3) (pac (pv 4) (pac (pv 5) (pac (pv 6) pa_nil)))))) (pg_tup rfl (pgs_cons (pg_name (i := 9) scLw.nd rfl (Or.inl rfl)) (pgs_cons (pg_name (i := 10) scLw.nd rfl (Or.inl rfl)) pgs_nil)))
    case h13 => exact ps_set (i := 11) scLw.nd rfl (Or.inl rfl) (pe_callB call_len_seq rfl T.len PySem.boot_len (pac (pv 7) pa_nil))
    case h14 => exact ps_set (i := 7) scLw.nd rfl (Or.inl rfl) (pe_op op_cat (pv 7) (pe_comp (CompOk.of nLw s_law rfl rfl (by decide +kernel)) rfl (pi_range2 rfl T.range (pac (pv 11) (pac (pe_m0 DS_made TC.cl hr (pv 3)) pa_nil)))  (fun _ _ _ _ _ => pe_m DS_node TC.cl hr (pv 3) (pac (pv 12) pa_nil))))
    case h15 => exact pt_not (pt_val (pe_d DMR hr (pac (pv 7) (pac (pv 11) (pac (pe_ix ix_list (pv 5) (pv 9) (fun _ _ => rfl)) (pac (pe_ix ix_list (pv 5) (pe_un un_neg pe_int) (fun _ _ => rfl)) (pac (pv 10) pa_nil)))))))
    case h16 => exact ps_ret pe_bl
    case h17 => exact fun _ => rfl
    case h18 => exact pt_cmpR op_ne (pe_callB (call_reprL (K := K) rfl hr.gd hr.units) rfl T.repr (by decide +kernel) (pac (pe_comp (CompOk.of nLw s_law rfl rfl (by decide +kernel)) rfl (pi_range1 rfl T.range (pac (pe_m0 DS_made TC.cl hr (pv 3)) pa_nil))  (fun _ _ _ _ _ => pe_m DS_node TC.cl hr (pv 3) (pac (pv 12) pa_nil))) pa_nil)) (pe_callB (call_reprL (K := K) rfl hr.gd hr.units) rfl T.repr (by decide +kernel) (pac (pv 7) pa_nil)) (nomark _)
    case h19 => exact ps_ret pe_bl
    case h20 => exact fun _ => rfl
    case h21 => exact ps_ret pe_bl
  refine ⟨_, rfl, a, _, rfl, .inl hS, _, _, rfl, _, _, rfl, rfl, ?_⟩
  rw [List.length_map]
  generalize hm : (1 : Int) + (if ((ns.length : Nat) : Int) < 1 then ((ns.length : Nat) : Int) else 1) = m
  have hm9 : 0 ≤ m ∧ m ≤ 9 := by rw [← hm]; split <;> omega
  refine ⟨m, congrArg (fun z => [V.int z]) hm, by omega, by omega, ?_⟩
  refine for_range (fun i σ H' => ∃ x1 x2 x3 x4 x5 x6 x7 x8 x9 x10 x11, σ = [some (.ref a), x1, x2, x3, x4, x5, x6, x7, x8, x9, x10, x11] ∧ Sep [(Pl, LamL), (Pp, LamP), (a, ScR K ns)] H') ⟨_, _, _, _, _, _, _, _, _, _, _, rfl, S⟩ ?_ ?_
  · rintro i σ H1 hi ⟨x1, x2, x3, x4, x5, x6, x7, x8, x9, x10, x11, rfl, S1⟩
    refine ⟨_, rfl, _, rfl, a, ns, _, _, rfl, S1.get a, S1, by omega, by omega, fun p H2 s2 S2 => ?_⟩
    intro st dx hst hdx hne2
    refine ⟨st, dx, _, _, rfl, rfl, hst, hdx, hne2, S2, fun H3 s3 S3 => ⟨rfl, (by show 2 ≤ sizeLine; decide), fun tt htt => ⟨tt, _, rfl, SqT.of upd_same, rfl, _, _, rfl, _, _, rfl, rfl, ?_⟩⟩⟩
    generalize hE : upd H3 tt _ = H3'
    have S3 := (S3.newE htt hE).tail
    clear hE
    refine ⟨_, rfl, _, rfl, p, 0, 27, _, rfl, S3.pull p, by decide, by decide, by decide, fun r1 H4 a0 a1 S4 => ⟨_, _, rfl, rfl, p, _, _, _, rfl, S4, by omega, by omega, by omega, fun nl H5 NS S5 hl50 hne5 hN => ?_⟩⟩
    have N := ns_ok hl50 hN
    have hNe : NS ≠ [] := hne5 (by omega)
    have hNl : NS.length ≤ 50 := hl50
    refine ⟨(by show 1 ≤ sizeLine; decide), fun lt hlt => fun d0 hd0 => ⟨(by show 1 ≤ sizeLine; decide), fun ld hld => ?_⟩⟩
    generalize hE : upd (upd (upd H5 lt _) d0 _) ld _ = H6
    have S6 := ((S5.new hlt _).new hd0 _).newE hld hE
    clear hE
    have S7 : Sep ((ld, DicL [[]]) :: (lt, Lst [V.int 0]) :: (nl, Lst (NS.map V.str)) :: (p, Bx (0 + 1 + 3000)) :: (st, Sto K C [.bare] [(Sum.inl 0, .bl true)]) :: [(Pl, LamL), (Pp, LamP), (a, ScR K ns)]) H6 := by
      refine Sep.pack (Γ := [(ld, Lst [V.ref d0]), (d0, Dic [])]) ((S6.pull d0).pull ld) fun h G => ?_
      refine ⟨[d0], G.get ld, rfl, fun i d ps e1 e2 => ?_⟩
      cases i with
      | zero => cases e1; cases e2; exact G.get d0
      | succ i => simp at e1
    have ST := S7.get st
    obtain ⟨b0, ln, dt, SA⟩ := id ST
    obtain ⟨dx5, ob5⟩ := SA.ob
    refine ⟨_, rfl, st, dx5, _, rfl, ob5, flds_no ln dt (by decide +kernel) (by decide +kernel), st, _, _, 0, .bare, rfl, ST, rfl, fun na hna => ⟨(by show 1 ≤ sizeLine; decide), fun no hno => ⟨_, _, _, rfl, ?_⟩⟩⟩
    generalize hE : upd H6 no _ = H7
    have s67 : Same H6 H7 := hE ▸ same_new hno _
    have S8 := S7.newE hno hE
    clear hE
    have S9 := Sep.ndL (as := [na]) (nds := [.bare]) S8 rfl fun i a n e1 e2 => by
      cases i with
      | zero => cases e1; cases e2; exact hna.tf s67.tf
      | succ i => simp at e1
    refine ⟨_, rfl, p, _, 41, _, rfl, S9.pull p, by decide, by decide, by decide, fun m2 H9 c0 c1 S11 => ⟨_, _, rfl, rfl, 20 + m2, rfl, by omega, by omega, ?_⟩⟩
    have W0 : WdS NS [.bare] [(Sum.inl 0, .bl true)] [0] [[]] := ⟨rfl, fun i t ps e1 e2 => by
      cases i with
      | zero => cases e1; cases e2; exact ⟨rfl, tri0 rfl, held0⟩
      | succ i => simp at e1⟩
    have O0 : NdsOk NS [.bare] := ⟨rfl, fun i n e => by
      cases i with
      | zero => cases e; trivial
      | succ i => simp at e⟩
    refine for_range (fun i σ H' => ∃ x1 x8 x9 x10 x11 no nds tabs n ts pss, σ = [some (.ref a), x1, some (.ref p), some (.ref st), some (.ref nl), some (.ref lt), some (.ref ld), some (.ref no), x8, x9, x10, x11] ∧ Sep ((p, Bx n) :: (st, Sto K C nds tabs) :: (Pl, LamL) :: (Pp, LamP) :: (nl, Lst (NS.map V.str)) :: (lt, Lst (ts.map iN)) :: (ld, DicL pss) :: (no, NdL K nds) :: [(a, ScR K ns)]) H' ∧ WdS NS nds tabs ts pss ∧ NdsOk NS nds ∧ ts.length = i + 1 ∧ nds.length ≤ 1 + 6 * i ∧ tabs.length ≤ 1 + i ∧ n ≤ 3100 + 100 * i)
      ⟨_, _, _, _, _, no, _, _, _, [0], [[]], rfl, (((((((S11.pull no).pull ld).pull lt).pull nl).pull Pp).pull Pl).pull st).pull p, W0, O0, rfl, by decide, by decide, by decide⟩ ?_ ?_
    · rintro j σ H10 hj ⟨x1, x8, x9, x10, x11, no, nds, tabs, n, ts, pss, rfl, S12, W, O, hts, hnd, htb, hn⟩
      have hj61 : j < 61 := by omega
      refine ⟨_, rfl, _, rfl, _, rfl, _, rfl, _, rfl, NS, p, st, nl, lt, ld, nds, tabs, n, ts, pss, _, rfl, N, hN, hNl, hNe, (((((S12.pull ld).pull lt).pull nl).pull Pl).pull st).pull p, W, by omega, by omega, by omega, by omega, by omega, fun k x t t' ps ps' nds' tabs' tp H11 hk et eps hx dd W2 ext len tl mono S13 => ?_⟩
      refine ⟨tp, _, rfl, SqT.of (S13.get tp), rfl, _, _, rfl, _, _, rfl, rfl, ?_⟩
      have S14 := S13.drop tp
      have O2 := dd.ok hx O
      have hle : nds.length ≤ nds'.length := by
        rcases Nat.lt_or_ge nds'.length nds.length with z | z
        · have h9 := List.getElem?_eq_getElem (l := nds) (i := nds'.length) z
          have h8 := (List.getElem?_eq_some_iff.mp (ext _ _ h9)).1
          omega
        · exact z
      have S15 : Sep ((no, NdL K nds) :: (p, Bx (n + 70)) :: (st, Sto K C nds' tabs') :: (Pl, LamL) :: (Pp, LamP) :: (nl, Lst (NS.map V.str)) :: (lt, Lst ((ts ++ [t']).map iN)) :: (ld, DicL (pss ++ [ps'])) :: [(a, ScR K ns)]) H11 := (((((((S14.pull ld).pull lt).pull nl).pull Pp).pull Pl).pull st).pull p).pull no
      obtain ⟨as, eno, hal, hna⟩ := S15.get no
      refine ⟨_, rfl, no, _, rfl, .inl (SqL.of eno), ?_⟩
      rw [List.length_map, hal]
      have ST2 := S15.get st
      obtain ⟨_, ln2, dt2, SA2⟩ := id ST2
      obtain ⟨dx2, ob2⟩ := SA2.ob
      refine ⟨_, rfl, _, rfl, _, rfl, st, dx2, _, rfl, ob2, flds_no ln2 dt2 (by decide +kernel) (by decide +kernel), st, nds', tabs', rfl, ST2, (nds.length : Int), (nds'.length : Int), rfl, ⟨by omega, by omega, by omega, by omega⟩, fun D hD => ?_⟩
      rw [show ((nds'.length : Int) - (nds.length : Int)).toNat = nds'.length - nds.length by omega]
      refine comp_range (small (show _ ≤ 1000 by omega)) (fun i ys H => ∃ bs : List Addr, ys = bs.map V.ref ∧ bs.length = i ∧ Sep ((D, Lst ys) :: (no, NdL K nds) :: (p, Bx (n + 70)) :: (st, Sto K C nds' tabs') :: (Pl, LamL) :: (Pp, LamP) :: (nl, Lst (NS.map V.str)) :: (lt, Lst ((ts ++ [t']).map iN)) :: (ld, DicL (pss ++ [ps'])) :: [(a, ScR K ns)]) H ∧ H no = some (.lst (as.map V.ref)) ∧ (∀ (i : Nat) a n, as[i]? = some a → nds[i]? = some n → NodeAt K H a n) ∧ ∀ (j : Nat) b m, bs[j]? = some b → nds'[nds.length + j]? = some m → NodeAt K H b m) ?_ ?_ ?_ ?_
      · have sD := same_new hD (.lst [])
        exact ⟨[], rfl, rfl, S15.new hD _, sD _ _ eno, fun i a n e1 e2 => (hna i a n e1 e2).tf sD.tf, fun _ _ _ h => by simp at h⟩
      · rintro i ys H ⟨bs, rfl, rfl, _⟩; exact List.length_map _
      · rintro i ys H hi ⟨bs, rfl, rfl, S', eno', hna', hb'⟩
        have hg := List.getElem?_eq_getElem (l := nds') (show nds.length + bs.length < nds'.length by omega)
        generalize nds'[nds.length + bs.length] = nd at hg
        have ST3 := S'.get st
        obtain ⟨_, ln3, dt3, SA3⟩ := id ST3
        obtain ⟨dx3, ob3⟩ := SA3.ob
        have eD : H D = some (.lst (bs.map V.ref)) := S'.get D
        refine ⟨_, rfl, st, dx3, _, rfl, ob3, flds_no ln3 dt3 (by decide +kernel) (by decide +kernel), _, rfl, st, nds', tabs', nds.length + bs.length, nd, by show [V.ref st, V.int ((nds.length : Int) + (bs.length : Int))] = [V.ref st, V.int ((nds.length + bs.length : Nat) : Int)]; rw [Int.natCast_add], ST3, hg, fun nb hnb => ⟨eD, bs ++ [nb], by rw [List.map_append]; rfl, by rw [List.length_append]; rfl, ?_⟩⟩
        have tf : TF H (upd H D (.lst (bs.map V.ref ++ [V.ref nb]))) := ⟨fun b xs e => by rw [upd_ne (fun z => by rw [z, eD] at e; cases e)]; exact e, fun b o u e => by rw [upd_ne (fun z => by rw [z, eD] at e; cases e)]; exact e⟩
        have hnoD : no ≠ D := fun z => by
          have h9 := S'.pull no
          obtain ⟨h1, l1, r1, S9⟩ := h9
          obtain ⟨h2, l2, r2, _⟩ := S9.pull D
          obtain ⟨as9, e9, _⟩ := r1
          have e8 : h2 D = some _ := r2
          obtain ⟨_, e7⟩ := cut_some.mp (l2 _ _ e8)
          rw [z] at e9
          have := e7 _ e9
          cases this
        refine ⟨S'.put D _, by rw [upd_ne hnoD]; exact eno', fun i a n e1 e2 => (hna' i a n e1 e2).tf tf, fun j b m e1 e2 => ?_⟩
        by_cases hjb : j < bs.length
        · rw [List.getElem?_append_left hjb] at e1
          exact (hb' j b m e1 e2).tf tf
        · rw [List.getElem?_append_right (by omega)] at e1
          have h0 : j - bs.length = 0 := by
            cases z : j - bs.length with
            | zero => rfl
            | succ k => rw [z] at e1; simp at e1
          rw [h0] at e1
          cases (show some nb = some b from e1)
          rw [show nds.length + j = nds.length + bs.length by omega, hg] at e2
          cases e2
          exact hnb.tf tf
      · rintro ys H ⟨bs, rfl, hbl, S16, eno', hna', hb'⟩
        refine ⟨no, D, _, _, rfl, rfl, eno', S16.get D, small (show _ ≤ 2000 by rw [List.length_map, List.length_map]; omega), fun no2 hno2 => ?_⟩
        generalize hE : upd H no2 _ = H13
        have s13 : Same H H13 := hE ▸ same_new hno2 _
        have S17 := ((S16.newE hno2 hE).drop D).drop no
        clear hE
        rw [← List.map_append] at S17
        obtain ⟨jl, jn⟩ := nd_join ext hal hbl hle (fun i a n e1 e2 => (hna' i a n e1 e2).tf s13.tf) (fun j b m e1 e2 => (hb' j b m e1 e2).tf s13.tf)
        have S18 := Sep.ndL S17 jl jn
        obtain ⟨htab, htri, hok⟩ := W.each k t ps et eps
        obtain ⟨htab2, htri2, hok2⟩ := W2.each ts.length t' ps' (by rw [List.getElem?_append_right (Nat.le_refl _), Nat.sub_self]; rfl) (by rw [List.getElem?_append_right (by rw [W.len]; exact Nat.le_refl _), W.len, Nat.sub_self]; rfl)
        have hlast : atI ((ts ++ [t']).map iN) (-1) = some (iN t') := by rw [List.map_append]; exact atI_last _ _
        obtain ⟨wsO, eO, _, hwO, _⟩ := tri_looked N htri hx
        have hWay := wayF_way hwO
        refine ⟨_, rfl, _, rfl, _, rfl, _, rfl, lt, _, _, _, rfl, rfl, SqL.of (S18.get lt), atI_nat (by rw [List.getElem?_map, List.getElem?_append_left hk, et]; rfl), _, rfl, _, rfl, lt, _, _, _, rfl, rfl, SqL.of (S18.get lt), hlast, _, rfl, ?_⟩
        refine ⟨no2, nds, nds', t, t', x, _, _, rfl, hN x hx, N.lo x hx, S18, ext, Dd.rel N hx O.1 dd htri htri2 ext hWay, hWay, ?_, len, fun i m ps hz => (O2.2 i _ hz).pos N, by omega, fun H14 S19 => ⟨_, rfl, iteF ?_⟩⟩
        · have := wayF_len hwO; omega
        · exact ⟨_, _, _, _, _, no2, nds', tabs', _, ts ++ [t'], pss ++ [ps'], rfl, (((((((S19.pull no2).pull ld).pull lt).pull nl).pull Pp).pull Pl).pull st).pull p, W2, O2, by rw [List.length_append, hts]; rfl, by omega, by omega, by omega⟩
    · rintro σ H10 ⟨x1, x8, x9, x10, x11, no, nds, tabs, n, ts, pss, rfl, S12, W, O, hts, hnd, htb, hn⟩
      have ST2 := S12.get st
      obtain ⟨_, ln2, dt2, SA2⟩ := id ST2
      obtain ⟨dx2, ob2⟩ := SA2.ob
      have hm61 : (20 + m2).toNat ≤ 61 := by omega
      obtain ⟨as, eno, hal, hna⟩ := S12.get no
      have hsh : ∀ n ∈ nds, NdSh n := fun n hn => by
        obtain ⟨i9, hi9⟩ := List.mem_iff_getElem?.mp hn
        exact (O.2 _ _ hi9).sh N hN (by omega)
      have hsm : Sml (.list (nds.map ndD)) (2 + (nds.map ndD).length * (38000 + 2)) 4 := list_sml fun d hd => by
        obtain ⟨n, hn, rfl⟩ := List.mem_map.mp hd
        refine node_sml2 (hsh n hn) fun m ps e => ?_
        obtain ⟨i9, hi9⟩ := List.mem_iff_getElem?.mp hn
        have := O.2 _ _ hi9
        rw [e] at this
        have := this.1.few; omega
      have hln : (PyData.list (nds.map ndD)).shown.length ≤ sizeLine := Nat.le_trans hsm.ln (by rw [List.length_map, sizeLine_eq]; omega)
      have hdp : (PyData.list (nds.map ndD)).depth ≤ 60 := Nat.le_trans hsm.dp (by decide)
      refine ⟨_, rfl, st, dx2, _, rfl, ob2, flds_no ln2 dt2 (by decide +kernel) (by decide +kernel), st, nds, tabs, rfl, ST2, (nds.length : Int), rfl, by omega, by omega, fun D hD => ?_⟩
      rw [show ((nds.length : Nat) : Int).toNat = nds.length by omega]
      refine comp_range (small (show _ ≤ 1000 by omega)) (fun i ys H => ∃ bs : List Addr, ys = bs.map V.ref ∧ bs.length = i ∧ Sep ((D, Lst ys) :: (p, Bx n) :: (st, Sto K C nds tabs) :: (Pl, LamL) :: (Pp, LamP) :: (nl, Lst (NS.map V.str)) :: (lt, Lst (ts.map iN)) :: (ld, DicL pss) :: (no, NdL K nds) :: [(a, ScR K ns)]) H ∧ ∀ (j : Nat) b m, bs[j]? = some b → nds[j]? = some m → NodeAt K H b m) ?_ ?_ ?_ ?_
      · exact ⟨[], rfl, rfl, S12.new hD _, fun _ _ _ h => by simp at h⟩
      · rintro i ys H ⟨bs, rfl, rfl, _⟩; exact List.length_map _
      · rintro i ys H hi ⟨bs, rfl, rfl, S', hb'⟩
        have hg := List.getElem?_eq_getElem (l := nds) hi
        generalize nds[bs.length] = nd at hg
        have ST3 := S'.get st
        obtain ⟨_, ln3, dt3, SA3⟩ := id ST3
        obtain ⟨dx3, ob3⟩ := SA3.ob
        have eD : H D = some (.lst (bs.map V.ref)) := S'.get D
        refine ⟨_, rfl, st, dx3, _, rfl, ob3, flds_no ln3 dt3 (by decide +kernel) (by decide +kernel), _, rfl, st, nds, tabs, bs.length, nd, by show [V.ref st, V.int ((0 : Int) + (bs.length : Int))] = [V.ref st, V.int (bs.length : Int)]; rw [Int.zero_add], ST3, hg, fun nb hnb => ⟨eD, bs ++ [nb], by rw [List.map_append]; rfl, by rw [List.length_append]; rfl, ?_⟩⟩
        have tf : TF H (upd H D (.lst (bs.map V.ref ++ [V.ref nb]))) := ⟨fun b xs e => by rw [upd_ne (fun z => by rw [z, eD] at e; cases e)]; exact e, fun b o u e => by rw [upd_ne (fun z => by rw [z, eD] at e; cases e)]; exact e⟩
        refine ⟨S'.put D _, fun j b m e1 e2 => ?_⟩
        by_cases hjb : j < bs.length
        · rw [List.getElem?_append_left hjb] at e1
          exact (hb' j b m e1 e2).tf tf
        · rw [List.getElem?_append_right (by omega)] at e1
          have h0 : j - bs.length = 0 := by
            cases z : j - bs.length with
            | zero => rfl
            | succ k => rw [z] at e1; simp at e1
          rw [h0] at e1
          cases (show some nb = some b from e1)
          rw [show j = bs.length by omega, hg] at e2
          cases e2
          exact hnb.tf tf
      · rintro ys H ⟨bs, rfl, hbl, S16, hb'⟩
        obtain ⟨as2, eno2, hal2, hna2⟩ := S16.get no
        refine ⟨D, _, _, rfl, S16.get D, nodes_datT hbl hb' hsh, hsm.sh, hln, hdp, _, rfl, no, _, _, rfl, eno2, nodes_datT hal2 hna2 hsh, hsm.sh, hln, hdp, rfl, _, rfl, ?_⟩
        rw [decide_eq_true rfl]
        exact iteF ⟨_, _, _, _, _, _, _, _, _, _, _, rfl, ((((((S16.drop D).drop p).drop st).drop nl).drop lt).drop ld).drop no⟩
  · rintro σ H1 ⟨x1, x2, x3, x4, x5, x6, x7, x8, x9, x10, x11, rfl, S1⟩
    exact q H1
end
end K6
set_option maxHeartbeats 4000000
namespace K6
open PySem L2
open PySem.W in
theorem all_mk {l : PySem.W.OpenLaw} {w : World} {K : PySem.W.Frag} {h : Heap} {mg : Str → Option Value} {fa : Addr}
    {f_z0 f_z1 f_z2 f_z3 f_z4 f_z5 f_z6 f_z7 f_z8 f_z9 f_z10 f_z11 f_z12 f_z13 f_z14 f_z15 f_z16 f_z17 f_z18 f_z19 f_z20 f_z21 f_z22 f_z23 f_z24 f_z25 f_z26 f_z27 f_z28 f_z29 f_z30 f_z31 f_z32 f_z33 f_z34 f_z35 f_z36 C_Store ca_leaf_of ca_Store_pairs P_leaf_of P_Store_pairs : Addr} (X : K.In h) (G : h.Ns mainGlobals mg) (hfa : mg "law" = some (.ref fa))
    {od_z0 an_z0 od_z1 an_z1 od_z2 an_z2 od_z3 an_z3 od_z4 an_z4 od_z5 an_z5 od_z6 an_z6 od_z7 an_z7 od_z8 an_z8 od_z9 an_z9 od_z10 an_z10 od_z11 an_z11 od_z12 an_z12 od_z13 an_z13 od_z14 an_z14 od_z15 an_z15 od_z16 an_z16 od_z17 an_z17 od_z18 an_z18 od_z19 an_z19 od_z20 an_z20 od_z21 an_z21 od_z22 an_z22 od_z23 an_z23 od_z24 an_z24 od_z25 an_z25 od_z26 an_z26 od_z27 an_z27 od_z28 an_z28 od_z29 an_z29 od_z30 an_z30 od_z31 an_z31 od_z32 an_z32 od_z33 an_z33 od_z34 an_z34 od_z35 an_z35 od_z36 an_z36 : Option Addr} {sl_z0 sl_z1 sl_z2 sl_z3 sl_z4 sl_z5 sl_z6 sl_z7 sl_z8 sl_z9 sl_z10 sl_z11 sl_z12 sl_z13 sl_z14 sl_z15 sl_z16 sl_z17 sl_z18 sl_z19 sl_z20 sl_z21 sl_z22 sl_z23 sl_z24 sl_z25 sl_z26 sl_z27 sl_z28 sl_z29 sl_z30 sl_z31 sl_z32 sl_z33 sl_z34 sl_z35 sl_z36 : Array (Option Value)} {oc_z0 kV_z0 dc_z0 pm_z0 ct_z0 cd_z0 oc_z1 kV_z1 dc_z1 pm_z1 ct_z1 cd_z1 oc_z2 kV_z2 dc_z2 pm_z2 ct_z2 cd_z2 oc_z3 kV_z3 dc_z3 pm_z3 ct_z3 oc_z4 kV_z4 dc_z4 pm_z4 ct_z4 cd_z4 oc_z5 kV_z5 dc_z5 pm_z5 ct_z5 cd_z5 oc_z6 kV_z6 dc_z6 pm_z6 ct_z6 cd_z6 oc_z7 kV_z7 dc_z7 pm_z7 ct_z7 cd_z7 oc_z8 kV_z8 dc_z8 pm_z8 ct_z8 cd_z8 oc_z9 kV_z9 dc_z9 pm_z9 ct_z9 cd_z9 oc_z10 kV_z10 dc_z10 pm_z10 ct_z10 cd_z10 oc_z11 kV_z11 dc_z11 pm_z11 ct_z11 cd_z11 oc_z12 kV_z12 dc_z12 pm_z12 ct_z12 cd_z12 oc_z13 kV_z13 dc_z13 pm_z13 ct_z13 cd_z13 oc_z14 kV_z14 dc_z14 pm_z14 ct_z14 cd_z14 oc_z15 kV_z15 dc_z15 pm_z15 ct_z15 cd_z15 oc_z16 kV_z16 dc_z16 pm_z16 ct_z16 cd_z16 oc_z17 kV_z17 dc_z17 pm_z17 ct_z17 cd_z17 oc_z18 kV_z18 dc_z18 pm_z18 ct_z18 cd_z18 oc_z19 kV_z19 dc_z19 pm_z19 ct_z19 cd_z19 oc_z20 kV_z20 dc_z20 pm_z20 ct_z20 oc_z21 kV_z21 dc_z21 pm_z21 ct_z21 cd_z21 oc_z22 kV_z22 dc_z22 pm_z22 ct_z22 cd_z22 oc_z23 kV_z23 dc_z23 pm_z23 ct_z23 cd_z23 oc_z24 kV_z24 dc_z24 pm_z24 ct_z24 cd_z24 oc_z25 kV_z25 dc_z25 pm_z25 ct_z25 cd_z25 oc_z26 kV_z26 dc_z26 pm_z26 ct_z26 cd_z26 oc_z27 kV_z27 dc_z27 pm_z27 ct_z27 cd_z27 oc_z28 kV_z28 dc_z28 pm_z28 ct_z28 cd_z28 oc_z29 kV_z29 dc_z29 pm_z29 ct_z29 cd_z29 oc_z30 kV_z30 dc_z30 pm_z30 ct_z30 cd_z30 oc_z31 kV_z31 dc_z31 pm_z31 ct_z31 cd_z31 oc_z32 kV_z32 dc_z32 pm_z32 ct_z32 cd_z32 oc_z33 kV_z33 dc_z33 pm_z33 ct_z33 cd_z33 oc_z34 kV_z34 dc_z34 pm_z34 ct_z34 cd_z34 oc_z35 kV_z35 dc_z35 pm_z35 ct_z35 cd_z35 oc_z36 kV_z36 dc_z36 pm_z36 ct_z36 cd_z36 : Value}
    (aC_Store : PySem.W.nsIn K mainGlobals "Store" = some (some (.ref C_Store)))
    (pg_Store : PySem.W.plainGet K C_Store Str.empty = true)
    (hd_Store : PySem.W.hasDictIn K C_Store = true)
    (po_Store : PySem.W.plainOver K C_Store = true)
    (sa_Store : PySem.W.findIn K (.ref C_Store) "__setattr__" = some (some (.builtin "object.__setattr__")))
    (mk_Store : PySem.W.makesIn K C_Store = true)
    (kc_Store : PySem.W.keepIn K (.ref C_Store) = true)
    (na_Store_nodes : PySem.W.findIn K (.ref C_Store) "nodes" = some none)
    (na_Store_tables : PySem.W.findIn K (.ref C_Store) "tables" = some none)
    (a_z0 : PySem.W.nsIn K mainGlobals "alike" = some (some (.ref f_z0)))
    (l_z0 : K.lookup f_z0 = some ⟨oc_z0, od_z0, .func (PySem.W.fnOf "alike" "alike" (defArgs s_alike) (defBody s_alike) (defScope s_alike) .none kV_z0 dc_z0 pm_z0 an_z0 cd_z0 ct_z0), sl_z0⟩)
    (c_c_z0 : PySem.W.codeIn K cd_z0 "alike" = true)
    (k_z0 : PySem.W.keepIn K (.ref f_z0) = true)
    (a_z1 : PySem.W.nsIn K mainGlobals "mark" = some (some (.ref f_z1)))
    (l_z1 : K.lookup f_z1 = some ⟨oc_z1, od_z1, .func (PySem.W.fnOf "mark" "mark" (defArgs s_mark) (defBody s_mark) (defScope s_mark) .none kV_z1 dc_z1 pm_z1 an_z1 cd_z1 ct_z1), sl_z1⟩)
    (c_c_z1 : PySem.W.codeIn K cd_z1 "mark" = true)
    (k_z1 : PySem.W.keepIn K (.ref f_z1) = true)
    (a_z2 : PySem.W.nsIn K mainGlobals "digit" = some (some (.ref f_z2)))
    (l_z2 : K.lookup f_z2 = some ⟨oc_z2, od_z2, .func (PySem.W.fnOf "digit" "digit" (defArgs s_digit) (defBody s_digit) (defScope s_digit) .none kV_z2 dc_z2 pm_z2 an_z2 cd_z2 ct_z2), sl_z2⟩)
    (c_c_z2 : PySem.W.codeIn K cd_z2 "digit" = true)
    (k_z2 : PySem.W.keepIn K (.ref f_z2) = true)
    (a_z3 : PySem.W.nsIn K mainGlobals "leaf_of" = some (some (.ref f_z3)))
    (l_z3 : K.lookup f_z3 = some ⟨oc_z3, od_z3, .func (PySem.W.fnOf "leaf_of" "leaf_of" (defArgs s_leaf_of) (defBody s_leaf_of) (defScope s_leaf_of) .none kV_z3 dc_z3 pm_z3 an_z3 (.ref ca_leaf_of) ct_z3), sl_z3⟩)
    (c_c_z3 : PySem.W.codeIn K (.ref ca_leaf_of) "leaf_of" = true)
    (k_z3 : PySem.W.keepIn K (.ref f_z3) = true)
    (ht_z3 : codeHdIn K ca_leaf_of P_leaf_of = true)
    (a_z4 : PySem.W.nsIn K mainGlobals "fork_of" = some (some (.ref f_z4)))
    (l_z4 : K.lookup f_z4 = some ⟨oc_z4, od_z4, .func (PySem.W.fnOf "fork_of" "fork_of" (defArgs s_fork_of) (defBody s_fork_of) (defScope s_fork_of) .none kV_z4 dc_z4 pm_z4 an_z4 cd_z4 ct_z4), sl_z4⟩)
    (c_c_z4 : PySem.W.codeIn K cd_z4 "fork_of" = true)
    (k_z4 : PySem.W.keepIn K (.ref f_z4) = true)
    (a_z5 : PySem.W.nsIn K mainGlobals "parts_in" = some (some (.ref f_z5)))
    (l_z5 : K.lookup f_z5 = some ⟨oc_z5, od_z5, .func (PySem.W.fnOf "parts_in" "parts_in" (defArgs s_parts_in) (defBody s_parts_in) (defScope s_parts_in) .none kV_z5 dc_z5 pm_z5 an_z5 cd_z5 ct_z5), sl_z5⟩)
    (c_c_z5 : PySem.W.codeIn K cd_z5 "parts_in" = true)
    (k_z5 : PySem.W.keepIn K (.ref f_z5) = true)
    (a_z6 : PySem.W.nsIn K mainGlobals "pairs_in" = some (some (.ref f_z6)))
    (l_z6 : K.lookup f_z6 = some ⟨oc_z6, od_z6, .func (PySem.W.fnOf "pairs_in" "pairs_in" (defArgs s_pairs_in) (defBody s_pairs_in) (defScope s_pairs_in) .none kV_z6 dc_z6 pm_z6 an_z6 cd_z6 ct_z6), sl_z6⟩)
    (c_c_z6 : PySem.W.codeIn K cd_z6 "pairs_in" = true)
    (k_z6 : PySem.W.keepIn K (.ref f_z6) = true)
    (a_z7 : PySem.W.nsIn K mainGlobals "has_mark" = some (some (.ref f_z7)))
    (l_z7 : K.lookup f_z7 = some ⟨oc_z7, od_z7, .func (PySem.W.fnOf "has_mark" "has_mark" (defArgs s_has_mark) (defBody s_has_mark) (defScope s_has_mark) .none kV_z7 dc_z7 pm_z7 an_z7 cd_z7 ct_z7), sl_z7⟩)
    (c_c_z7 : PySem.W.codeIn K cd_z7 "has_mark" = true)
    (k_z7 : PySem.W.keepIn K (.ref f_z7) = true)
    (a_z8 : PySem.W.findIn K (.ref C_Store) "__init__" = some (some (.ref f_z8)))
    (i_z8 : PySem.W.isFn K (.ref f_z8) = true)
    (l_z8 : K.lookup f_z8 = some ⟨oc_z8, od_z8, .func (PySem.W.fnOf "__init__" "Store.__init__" (defArgs c_Store___init__) (defBody c_Store___init__) (defScope c_Store___init__) .none kV_z8 dc_z8 pm_z8 an_z8 cd_z8 ct_z8), sl_z8⟩)
    (c_c_z8 : PySem.W.codeIn K cd_z8 "Store.__init__" = true)
    (k_z8 : PySem.W.keepIn K (.ref f_z8) = true)
    (a_z9 : PySem.W.findIn K (.ref C_Store) "check_table" = some (some (.ref f_z9)))
    (i_z9 : PySem.W.isFn K (.ref f_z9) = true)
    (l_z9 : K.lookup f_z9 = some ⟨oc_z9, od_z9, .func (PySem.W.fnOf "check_table" "Store.check_table" (defArgs c_Store_check_table) (defBody c_Store_check_table) (defScope c_Store_check_table) .none kV_z9 dc_z9 pm_z9 an_z9 cd_z9 ct_z9), sl_z9⟩)
    (c_c_z9 : PySem.W.codeIn K cd_z9 "Store.check_table" = true)
    (k_z9 : PySem.W.keepIn K (.ref f_z9) = true)
    (a_z10 : PySem.W.findIn K (.ref C_Store) "keep" = some (some (.ref f_z10)))
    (i_z10 : PySem.W.isFn K (.ref f_z10) = true)
    (l_z10 : K.lookup f_z10 = some ⟨oc_z10, od_z10, .func (PySem.W.fnOf "keep" "Store.keep" (defArgs c_Store_keep) (defBody c_Store_keep) (defScope c_Store_keep) .none kV_z10 dc_z10 pm_z10 an_z10 cd_z10 ct_z10), sl_z10⟩)
    (c_c_z10 : PySem.W.codeIn K cd_z10 "Store.keep" = true)
    (k_z10 : PySem.W.keepIn K (.ref f_z10) = true)
    (a_z11 : PySem.W.findIn K (.ref C_Store) "as_table" = some (some (.ref f_z11)))
    (i_z11 : PySem.W.isFn K (.ref f_z11) = true)
    (l_z11 : K.lookup f_z11 = some ⟨oc_z11, od_z11, .func (PySem.W.fnOf "as_table" "Store.as_table" (defArgs c_Store_as_table) (defBody c_Store_as_table) (defScope c_Store_as_table) .none kV_z11 dc_z11 pm_z11 an_z11 cd_z11 ct_z11), sl_z11⟩)
    (c_c_z11 : PySem.W.codeIn K cd_z11 "Store.as_table" = true)
    (k_z11 : PySem.W.keepIn K (.ref f_z11) = true)
    (a_z12 : PySem.W.findIn K (.ref C_Store) "way" = some (some (.ref f_z12)))
    (i_z12 : PySem.W.isFn K (.ref f_z12) = true)
    (l_z12 : K.lookup f_z12 = some ⟨oc_z12, od_z12, .func (PySem.W.fnOf "way" "Store.way" (defArgs c_Store_way) (defBody c_Store_way) (defScope c_Store_way) .none kV_z12 dc_z12 pm_z12 an_z12 cd_z12 ct_z12), sl_z12⟩)
    (c_c_z12 : PySem.W.codeIn K cd_z12 "Store.way" = true)
    (k_z12 : PySem.W.keepIn K (.ref f_z12) = true)
    (a_z13 : PySem.W.findIn K (.ref C_Store) "looked" = some (some (.ref f_z13)))
    (i_z13 : PySem.W.isFn K (.ref f_z13) = true)
    (l_z13 : K.lookup f_z13 = some ⟨oc_z13, od_z13, .func (PySem.W.fnOf "looked" "Store.looked" (defArgs c_Store_looked) (defBody c_Store_looked) (defScope c_Store_looked) .none kV_z13 dc_z13 pm_z13 an_z13 cd_z13 ct_z13), sl_z13⟩)
    (c_c_z13 : PySem.W.codeIn K cd_z13 "Store.looked" = true)
    (k_z13 : PySem.W.keepIn K (.ref f_z13) = true)
    (a_z14 : PySem.W.findIn K (.ref C_Store) "fork_parts" = some (some (.ref f_z14)))
    (i_z14 : PySem.W.isFn K (.ref f_z14) = true)
    (l_z14 : K.lookup f_z14 = some ⟨oc_z14, od_z14, .func (PySem.W.fnOf "fork_parts" "Store.fork_parts" (defArgs c_Store_fork_parts) (defBody c_Store_fork_parts) (defScope c_Store_fork_parts) .none kV_z14 dc_z14 pm_z14 an_z14 cd_z14 ct_z14), sl_z14⟩)
    (c_c_z14 : PySem.W.codeIn K cd_z14 "Store.fork_parts" = true)
    (k_z14 : PySem.W.keepIn K (.ref f_z14) = true)
    (a_z15 : PySem.W.findIn K (.ref C_Store) "put_in" = some (some (.ref f_z15)))
    (i_z15 : PySem.W.isFn K (.ref f_z15) = true)
    (l_z15 : K.lookup f_z15 = some ⟨oc_z15, od_z15, .func (PySem.W.fnOf "put_in" "Store.put_in" (defArgs c_Store_put_in) (defBody c_Store_put_in) (defScope c_Store_put_in) .none kV_z15 dc_z15 pm_z15 an_z15 cd_z15 ct_z15), sl_z15⟩)
    (c_c_z15 : PySem.W.codeIn K cd_z15 "Store.put_in" = true)
    (k_z15 : PySem.W.keepIn K (.ref f_z15) = true)
    (a_z16 : PySem.W.findIn K (.ref C_Store) "put" = some (some (.ref f_z16)))
    (i_z16 : PySem.W.isFn K (.ref f_z16) = true)
    (l_z16 : K.lookup f_z16 = some ⟨oc_z16, od_z16, .func (PySem.W.fnOf "put" "Store.put" (defArgs c_Store_put) (defBody c_Store_put) (defScope c_Store_put) .none kV_z16 dc_z16 pm_z16 an_z16 cd_z16 ct_z16), sl_z16⟩)
    (c_c_z16 : PySem.W.codeIn K cd_z16 "Store.put" = true)
    (k_z16 : PySem.W.keepIn K (.ref f_z16) = true)
    (a_z17 : PySem.W.findIn K (.ref C_Store) "taken_from" = some (some (.ref f_z17)))
    (i_z17 : PySem.W.isFn K (.ref f_z17) = true)
    (l_z17 : K.lookup f_z17 = some ⟨oc_z17, od_z17, .func (PySem.W.fnOf "taken_from" "Store.taken_from" (defArgs c_Store_taken_from) (defBody c_Store_taken_from) (defScope c_Store_taken_from) .none kV_z17 dc_z17 pm_z17 an_z17 cd_z17 ct_z17), sl_z17⟩)
    (c_c_z17 : PySem.W.codeIn K cd_z17 "Store.taken_from" = true)
    (k_z17 : PySem.W.keepIn K (.ref f_z17) = true)
    (a_z18 : PySem.W.findIn K (.ref C_Store) "without" = some (some (.ref f_z18)))
    (i_z18 : PySem.W.isFn K (.ref f_z18) = true)
    (l_z18 : K.lookup f_z18 = some ⟨oc_z18, od_z18, .func (PySem.W.fnOf "without" "Store.without" (defArgs c_Store_without) (defBody c_Store_without) (defScope c_Store_without) .none kV_z18 dc_z18 pm_z18 an_z18 cd_z18 ct_z18), sl_z18⟩)
    (c_c_z18 : PySem.W.codeIn K cd_z18 "Store.without" = true)
    (k_z18 : PySem.W.keepIn K (.ref f_z18) = true)
    (a_z19 : PySem.W.findIn K (.ref C_Store) "pairs_below" = some (some (.ref f_z19)))
    (i_z19 : PySem.W.isFn K (.ref f_z19) = true)
    (l_z19 : K.lookup f_z19 = some ⟨oc_z19, od_z19, .func (PySem.W.fnOf "pairs_below" "Store.pairs_below" (defArgs c_Store_pairs_below) (defBody c_Store_pairs_below) (defScope c_Store_pairs_below) .none kV_z19 dc_z19 pm_z19 an_z19 cd_z19 ct_z19), sl_z19⟩)
    (c_c_z19 : PySem.W.codeIn K cd_z19 "Store.pairs_below" = true)
    (k_z19 : PySem.W.keepIn K (.ref f_z19) = true)
    (a_z20 : PySem.W.findIn K (.ref C_Store) "pairs" = some (some (.ref f_z20)))
    (i_z20 : PySem.W.isFn K (.ref f_z20) = true)
    (l_z20 : K.lookup f_z20 = some ⟨oc_z20, od_z20, .func (PySem.W.fnOf "pairs" "Store.pairs" (defArgs c_Store_pairs) (defBody c_Store_pairs) (defScope c_Store_pairs) .none kV_z20 dc_z20 pm_z20 an_z20 (.ref ca_Store_pairs) ct_z20), sl_z20⟩)
    (c_c_z20 : PySem.W.codeIn K (.ref ca_Store_pairs) "Store.pairs" = true)
    (k_z20 : PySem.W.keepIn K (.ref f_z20) = true)
    (ht_z20 : codeHdIn K ca_Store_pairs P_Store_pairs = true)
    (a_z21 : PySem.W.findIn K (.ref C_Store) "node" = some (some (.ref f_z21)))
    (i_z21 : PySem.W.isFn K (.ref f_z21) = true)
    (l_z21 : K.lookup f_z21 = some ⟨oc_z21, od_z21, .func (PySem.W.fnOf "node" "Store.node" (defArgs c_Store_node) (defBody c_Store_node) (defScope c_Store_node) .none kV_z21 dc_z21 pm_z21 an_z21 cd_z21 ct_z21), sl_z21⟩)
    (c_c_z21 : PySem.W.codeIn K cd_z21 "Store.node" = true)
    (k_z21 : PySem.W.keepIn K (.ref f_z21) = true)
    (a_z22 : PySem.W.findIn K (.ref C_Store) "made" = some (some (.ref f_z22)))
    (i_z22 : PySem.W.isFn K (.ref f_z22) = true)
    (l_z22 : K.lookup f_z22 = some ⟨oc_z22, od_z22, .func (PySem.W.fnOf "made" "Store.made" (defArgs c_Store_made) (defBody c_Store_made) (defScope c_Store_made) .none kV_z22 dc_z22 pm_z22 an_z22 cd_z22 ct_z22), sl_z22⟩)
    (c_c_z22 : PySem.W.codeIn K cd_z22 "Store.made" = true)
    (k_z22 : PySem.W.keepIn K (.ref f_z22) = true)
    (a_z23 : PySem.W.nsIn K mainGlobals "_law_cell_at" = some (some (.ref f_z23)))
    (l_z23 : K.lookup f_z23 = some ⟨oc_z23, od_z23, .func (PySem.W.fnOf "_law_cell_at" "_law_cell_at" (defArgs s_l_cell_at) (defBody s_l_cell_at) (defScope s_l_cell_at) .none kV_z23 dc_z23 pm_z23 an_z23 cd_z23 ct_z23), sl_z23⟩)
    (c_c_z23 : PySem.W.codeIn K cd_z23 "_law_cell_at" = true)
    (k_z23 : PySem.W.keepIn K (.ref f_z23) = true)
    (a_z24 : PySem.W.nsIn K mainGlobals "_law_box" = some (some (.ref f_z24)))
    (l_z24 : K.lookup f_z24 = some ⟨oc_z24, od_z24, .func (PySem.W.fnOf "_law_box" "_law_box" (defArgs s_l_box) (defBody s_l_box) (defScope s_l_box) .none kV_z24 dc_z24 pm_z24 an_z24 cd_z24 ct_z24), sl_z24⟩)
    (c_c_z24 : PySem.W.codeIn K cd_z24 "_law_box" = true)
    (k_z24 : PySem.W.keepIn K (.ref f_z24) = true)
    (a_z25 : PySem.W.nsIn K mainGlobals "_law_take" = some (some (.ref f_z25)))
    (l_z25 : K.lookup f_z25 = some ⟨oc_z25, od_z25, .func (PySem.W.fnOf "_law_take" "_law_take" (defArgs s_l_take) (defBody s_l_take) (defScope s_l_take) .none kV_z25 dc_z25 pm_z25 an_z25 cd_z25 ct_z25), sl_z25⟩)
    (c_c_z25 : PySem.W.codeIn K cd_z25 "_law_take" = true)
    (k_z25 : PySem.W.keepIn K (.ref f_z25) = true)
    (a_z26 : PySem.W.nsIn K mainGlobals "_law_of_mark" = some (some (.ref f_z26)))
    (l_z26 : K.lookup f_z26 = some ⟨oc_z26, od_z26, .func (PySem.W.fnOf "_law_of_mark" "_law_of_mark" (defArgs s_l_of_mark) (defBody s_l_of_mark) (defScope s_l_of_mark) .none kV_z26 dc_z26 pm_z26 an_z26 cd_z26 ct_z26), sl_z26⟩)
    (c_c_z26 : PySem.W.codeIn K cd_z26 "_law_of_mark" = true)
    (k_z26 : PySem.W.keepIn K (.ref f_z26) = true)
    (a_z27 : PySem.W.nsIn K mainGlobals "_law_names" = some (some (.ref f_z27)))
    (l_z27 : K.lookup f_z27 = some ⟨oc_z27, od_z27, .func (PySem.W.fnOf "_law_names" "_law_names" (defArgs s_l_names) (defBody s_l_names) (defScope s_l_names) .none kV_z27 dc_z27 pm_z27 an_z27 cd_z27 ct_z27), sl_z27⟩)
    (c_c_z27 : PySem.W.codeIn K cd_z27 "_law_names" = true)
    (k_z27 : PySem.W.keepIn K (.ref f_z27) = true)
    (a_z28 : PySem.W.nsIn K mainGlobals "_law_value" = some (some (.ref f_z28)))
    (l_z28 : K.lookup f_z28 = some ⟨oc_z28, od_z28, .func (PySem.W.fnOf "_law_value" "_law_value" (defArgs s_l_value) (defBody s_l_value) (defScope s_l_value) .none kV_z28 dc_z28 pm_z28 an_z28 cd_z28 ct_z28), sl_z28⟩)
    (c_c_z28 : PySem.W.codeIn K cd_z28 "_law_value" = true)
    (k_z28 : PySem.W.keepIn K (.ref f_z28) = true)
    (a_z29 : PySem.W.nsIn K mainGlobals "_law_some_value" = some (some (.ref f_z29)))
    (l_z29 : K.lookup f_z29 = some ⟨oc_z29, od_z29, .func (PySem.W.fnOf "_law_some_value" "_law_some_value" (defArgs s_l_some_value) (defBody s_l_some_value) (defScope s_l_some_value) .none kV_z29 dc_z29 pm_z29 an_z29 cd_z29 ct_z29), sl_z29⟩)
    (c_c_z29 : PySem.W.codeIn K cd_z29 "_law_some_value" = true)
    (k_z29 : PySem.W.keepIn K (.ref f_z29) = true)
    (a_z30 : PySem.W.nsIn K mainGlobals "_law_mark" = some (some (.ref f_z30)))
    (l_z30 : K.lookup f_z30 = some ⟨oc_z30, od_z30, .func (PySem.W.fnOf "_law_mark" "_law_mark" (defArgs s_l_mark) (defBody s_l_mark) (defScope s_l_mark) .none kV_z30 dc_z30 pm_z30 an_z30 cd_z30 ct_z30), sl_z30⟩)
    (c_c_z30 : PySem.W.codeIn K cd_z30 "_law_mark" = true)
    (k_z30 : PySem.W.keepIn K (.ref f_z30) = true)
    (a_z31 : PySem.W.nsIn K mainGlobals "_law_digit" = some (some (.ref f_z31)))
    (l_z31 : K.lookup f_z31 = some ⟨oc_z31, od_z31, .func (PySem.W.fnOf "_law_digit" "_law_digit" (defArgs s_l_digit) (defBody s_l_digit) (defScope s_l_digit) .none kV_z31 dc_z31 pm_z31 an_z31 cd_z31 ct_z31), sl_z31⟩)
    (c_c_z31 : PySem.W.codeIn K cd_z31 "_law_digit" = true)
    (k_z31 : PySem.W.keepIn K (.ref f_z31) = true)
    (a_z32 : PySem.W.nsIn K mainGlobals "_law_way" = some (some (.ref f_z32)))
    (l_z32 : K.lookup f_z32 = some ⟨oc_z32, od_z32, .func (PySem.W.fnOf "_law_way" "_law_way" (defArgs s_l_way) (defBody s_l_way) (defScope s_l_way) .none kV_z32 dc_z32 pm_z32 an_z32 cd_z32 ct_z32), sl_z32⟩)
    (c_c_z32 : PySem.W.codeIn K cd_z32 "_law_way" = true)
    (k_z32 : PySem.W.keepIn K (.ref f_z32) = true)
    (a_z33 : PySem.W.nsIn K mainGlobals "_law_off_way" = some (some (.ref f_z33)))
    (l_z33 : K.lookup f_z33 = some ⟨oc_z33, od_z33, .func (PySem.W.fnOf "_law_off_way" "_law_off_way" (defArgs s_l_off_way) (defBody s_l_off_way) (defScope s_l_off_way) .none kV_z33 dc_z33 pm_z33 an_z33 cd_z33 ct_z33), sl_z33⟩)
    (c_c_z33 : PySem.W.codeIn K cd_z33 "_law_off_way" = true)
    (k_z33 : PySem.W.keepIn K (.ref f_z33) = true)
    (a_z34 : PySem.W.nsIn K mainGlobals "_law_made_right" = some (some (.ref f_z34)))
    (l_z34 : K.lookup f_z34 = some ⟨oc_z34, od_z34, .func (PySem.W.fnOf "_law_made_right" "_law_made_right" (defArgs s_l_made_right) (defBody s_l_made_right) (defScope s_l_made_right) .none kV_z34 dc_z34 pm_z34 an_z34 cd_z34 ct_z34), sl_z34⟩)
    (c_c_z34 : PySem.W.codeIn K cd_z34 "_law_made_right" = true)
    (k_z34 : PySem.W.keepIn K (.ref f_z34) = true)
    (a_z35 : PySem.W.nsIn K mainGlobals "_law_deed" = some (some (.ref f_z35)))
    (l_z35 : K.lookup f_z35 = some ⟨oc_z35, od_z35, .func (PySem.W.fnOf "_law_deed" "_law_deed" (defArgs s_l_deed) (defBody s_l_deed) (defScope s_l_deed) .none kV_z35 dc_z35 pm_z35 an_z35 cd_z35 ct_z35), sl_z35⟩)
    (c_c_z35 : PySem.W.codeIn K cd_z35 "_law_deed" = true)
    (k_z35 : PySem.W.keepIn K (.ref f_z35) = true)
    (a_z36 : PySem.W.nsIn K mainGlobals "law" = some (some (.ref f_z36)))
    (l_z36 : K.lookup f_z36 = some ⟨oc_z36, od_z36, .func (PySem.W.fnOf "law" "law" (defArgs s_law) (defBody s_law) (defScope s_law) .none kV_z36 dc_z36 pm_z36 an_z36 cd_z36 ct_z36), sl_z36⟩)
    (c_c_z36 : PySem.W.codeIn K cd_z36 "law" = true)
    (k_z36 : PySem.W.keepIn K (.ref f_z36) = true)
    (z_len : PySem.W.nsIn K mainGlobals "len" = some none)
    (z_abs : PySem.W.nsIn K mainGlobals "abs" = some none)
    (z_int : PySem.W.nsIn K mainGlobals "int" = some none)
    (z_range : PySem.W.nsIn K mainGlobals "range" = some none)
    (z_min : PySem.W.nsIn K mainGlobals "min" = some none)
    (z_max : PySem.W.nsIn K mainGlobals "max" = some none)
    (z_repr : PySem.W.nsIn K mainGlobals "repr" = some none)
    (z_enumerate : PySem.W.nsIn K mainGlobals "enumerate" = some none)
    (z_ord : PySem.W.nsIn K mainGlobals "ord" = some none)
    (z_list : PySem.W.nsIn K mainGlobals "list" = some none)
    (z_tuple : PySem.W.nsIn K mainGlobals "tuple" = some none)
    (z_dict : PySem.W.nsIn K mainGlobals "dict" = some none)
    (z_sorted : PySem.W.nsIn K mainGlobals "sorted" = some none)
    (z_sum : PySem.W.nsIn K mainGlobals "sum" = some none)
    (z_all : PySem.W.nsIn K mainGlobals "all" = some none)
    (z_any : PySem.W.nsIn K mainGlobals "any" = some none)
    (z_divmod : PySem.W.nsIn K mainGlobals "divmod" = some none)
    (z_str : PySem.W.nsIn K mainGlobals "str" = some none)
    (z_isinstance : PySem.W.nsIn K mainGlobals "isinstance" = some none)
    (z_set : PySem.W.nsIn K mainGlobals "set" = some none)
    (z_zip : PySem.W.nsIn K mainGlobals "zip" = some none)
    (z_reversed : PySem.W.nsIn K mainGlobals "reversed" = some none)
    (z_bool : PySem.W.nsIn K mainGlobals "bool" = some none)
    {tb : Tok}
    (gBASE : PySem.W.nsIn K mainGlobals "BASE" = some (some (.int 4 tb)))
    {tz : Tok}
    (gZERO : PySem.W.nsIn K mainGlobals "BARE_NUMBER" = some (some (.int 0 tz)))
    {ab : Addr}
    (gBARE : PySem.W.nsIn K mainGlobals "BARE" = some (some (.ref ab)))
    (tBARE : tupIn K ab [.str "bare"] = true)
    {af : Addr}
    (gFIG : PySem.W.nsIn K mainGlobals "FIGURES" = some (some (.ref af)))
    (tFIG : tupIn K af [.int 0, .int 1, .int 2, .int 3] = true) :
    ∃ fd : FuncData, (∀ (s : Shared) (v : Value), BindsTo s fd ⟨[v], []⟩ [("_law_script", v)]) ∧ ∀ base : Heap, K.In base → base.Ns mainGlobals mg → BmAt base mg → FnOk l.prog w K mg base CX0 11 fa fd ["_law_script"] (spLaw K P_leaf_of P_Store_pairs) := by
  have e := hfa.symm.trans (PySem.W.mg_of X G a_z36)
  cases e
  have n_len := PySem.W.mg_none_of X G z_len
  have n_abs := PySem.W.mg_none_of X G z_abs
  have n_int := PySem.W.mg_none_of X G z_int
  have n_range := PySem.W.mg_none_of X G z_range
  have n_min := PySem.W.mg_none_of X G z_min
  have n_max := PySem.W.mg_none_of X G z_max
  have n_repr := PySem.W.mg_none_of X G z_repr
  have n_enumerate := PySem.W.mg_none_of X G z_enumerate
  have n_ord := PySem.W.mg_none_of X G z_ord
  have n_list := PySem.W.mg_none_of X G z_list
  have n_tuple := PySem.W.mg_none_of X G z_tuple
  have n_dict := PySem.W.mg_none_of X G z_dict
  have n_sorted := PySem.W.mg_none_of X G z_sorted
  have n_sum := PySem.W.mg_none_of X G z_sum
  have n_all := PySem.W.mg_none_of X G z_all
  have n_any := PySem.W.mg_none_of X G z_any
  have n_divmod := PySem.W.mg_none_of X G z_divmod
  have n_str := PySem.W.mg_none_of X G z_str
  have n_isinstance := PySem.W.mg_none_of X G z_isinstance
  have n_set := PySem.W.mg_none_of X G z_set
  have n_zip := PySem.W.mg_none_of X G z_zip
  have n_reversed := PySem.W.mg_none_of X G z_reversed
  have n_bool := PySem.W.mg_none_of X G z_bool
  have g_gBASE := PySem.W.mg_of X G gBASE
  have g_gZERO := PySem.W.mg_of X G gZERO
  have g_gBARE := PySem.W.mg_of X G gBARE
  have g_gFIG := PySem.W.mg_of X G gFIG
  have cl_Store : Cls K C_Store := ⟨pg_Store, hd_Store, po_Store, sa_Store⟩
  have mC_Store := PySem.W.mg_of X G aC_Store
  have TB : TxtB mg := ⟨n_len, n_abs, n_int, n_range, n_min, n_max, n_repr, n_enumerate, n_ord, n_list, n_tuple, n_dict, n_sorted, n_sum, n_all, n_any, n_divmod, n_str, n_isinstance, n_set, n_zip, n_reversed, n_bool⟩
  have T : Txt K mg := ⟨TB, ⟨_, g_gBASE⟩, ⟨_, g_gZERO⟩, ⟨_, g_gBARE, tup_of_K tBARE⟩, ⟨_, g_gFIG, tup_of_K tFIG⟩⟩
  have TC : TxtC K C_Store := ⟨cl_Store, na_Store_nodes, na_Store_tables⟩
  have F_z0 := fun_mk (st := s_alike) l_z0 c_c_z0 k_z0
  have FF_z0 := F_z0
  have b_z0 := FF_z0.binds (ps := ["one", "other"]) fun _ _ _ _ _ _ us hl => match us, hl with | [_, _], _ => rfl
  have m_z0 := PySem.W.mg_of X G a_z0
  have F_z1 := fun_mk (st := s_mark) l_z1 c_c_z1 k_z1
  have FF_z1 := F_z1
  have b_z1 := FF_z1.binds (ps := ["name"]) fun _ _ _ _ _ _ us hl => match us, hl with | [_], _ => rfl
  have m_z1 := PySem.W.mg_of X G a_z1
  have F_z2 := fun_mk (st := s_digit) l_z2 c_c_z2 k_z2
  have FF_z2 := F_z2
  have b_z2 := FF_z2.binds (ps := ["number", "level"]) fun _ _ _ _ _ _ us hl => match us, hl with | [_, _], _ => rfl
  have m_z2 := PySem.W.mg_of X G a_z2
  have F_z3 : FunC K "leaf_of" "leaf_of" s_leaf_of f_z3 _ ca_leaf_of P_leaf_of := ⟨⟨_, _, _, _, _, _, _, _, rfl, l_z3, c_c_z3⟩, k_z3, ht_z3⟩
  have FF_z3 := F_z3.fn
  have b_z3 := FF_z3.binds (ps := ["pairs"]) fun _ _ _ _ _ _ us hl => match us, hl with | [_], _ => rfl
  have m_z3 := PySem.W.mg_of X G a_z3
  have F_z4 := fun_mk (st := s_fork_of) l_z4 c_c_z4 k_z4
  have FF_z4 := F_z4
  have b_z4 := FF_z4.binds (ps := ["parts"]) fun _ _ _ _ _ _ us hl => match us, hl with | [_], _ => rfl
  have m_z4 := PySem.W.mg_of X G a_z4
  have F_z5 := fun_mk (st := s_parts_in) l_z5 c_c_z5 k_z5
  have FF_z5 := F_z5
  have b_z5 := FF_z5.binds (ps := ["node"]) fun _ _ _ _ _ _ us hl => match us, hl with | [_], _ => rfl
  have m_z5 := PySem.W.mg_of X G a_z5
  have F_z6 := fun_mk (st := s_pairs_in) l_z6 c_c_z6 k_z6
  have FF_z6 := F_z6
  have b_z6 := FF_z6.binds (ps := ["node"]) fun _ _ _ _ _ _ us hl => match us, hl with | [_], _ => rfl
  have m_z6 := PySem.W.mg_of X G a_z6
  have F_z7 := fun_mk (st := s_has_mark) l_z7 c_c_z7 k_z7
  have FF_z7 := F_z7
  have b_z7 := FF_z7.binds (ps := ["node", "number"]) fun _ _ _ _ _ _ us hl => match us, hl with | [_, _], _ => rfl
  have m_z7 := PySem.W.mg_of X G a_z7
  have F_z8 := fun_mk (st := c_Store___init__) l_z8 c_c_z8 k_z8
  have FF_z8 := F_z8
  have b_z8 := FF_z8.binds (ps := ["self"]) fun _ _ _ _ _ _ us hl => match us, hl with | [_], _ => rfl
  have m_z8 : Mk K C_Store f_z8 := ⟨mk_Store, a_z8, i_z8, kc_Store⟩
  have F_z9 := fun_mk (st := c_Store_check_table) l_z9 c_c_z9 k_z9
  have FF_z9 := F_z9
  have b_z9 := FF_z9.binds (ps := ["self", "table"]) fun _ _ _ _ _ _ us hl => match us, hl with | [_, _], _ => rfl
  have m_z9 : Meth K C_Store "check_table" f_z9 := ⟨a_z9, i_z9, k_z9⟩
  have F_z10 := fun_mk (st := c_Store_keep) l_z10 c_c_z10 k_z10
  have FF_z10 := F_z10
  have b_z10 := FF_z10.binds (ps := ["self", "node"]) fun _ _ _ _ _ _ us hl => match us, hl with | [_, _], _ => rfl
  have m_z10 : Meth K C_Store "keep" f_z10 := ⟨a_z10, i_z10, k_z10⟩
  have F_z11 := fun_mk (st := c_Store_as_table) l_z11 c_c_z11 k_z11
  have FF_z11 := F_z11
  have b_z11 := FF_z11.binds (ps := ["self", "number"]) fun _ _ _ _ _ _ us hl => match us, hl with | [_, _], _ => rfl
  have m_z11 : Meth K C_Store "as_table" f_z11 := ⟨a_z11, i_z11, k_z11⟩
  have F_z12 := fun_mk (st := c_Store_way) l_z12 c_c_z12 k_z12
  have FF_z12 := F_z12
  have b_z12 := FF_z12.binds (ps := ["self", "table", "name"]) fun _ _ _ _ _ _ us hl => match us, hl with | [_, _, _], _ => rfl
  have m_z12 : Meth K C_Store "way" f_z12 := ⟨a_z12, i_z12, k_z12⟩
  have F_z13 := fun_mk (st := c_Store_looked) l_z13 c_c_z13 k_z13
  have FF_z13 := F_z13
  have b_z13 := FF_z13.binds (ps := ["self", "table", "name"]) fun _ _ _ _ _ _ us hl => match us, hl with | [_, _, _], _ => rfl
  have m_z13 : Meth K C_Store "looked" f_z13 := ⟨a_z13, i_z13, k_z13⟩
  have F_z14 := fun_mk (st := c_Store_fork_parts) l_z14 c_c_z14 k_z14
  have FF_z14 := F_z14
  have b_z14 := FF_z14.binds (ps := ["self", "number", "level"]) fun _ _ _ _ _ _ us hl => match us, hl with | [_, _, _], _ => rfl
  have m_z14 : Meth K C_Store "fork_parts" f_z14 := ⟨a_z14, i_z14, k_z14⟩
  have F_z15 := fun_mk (st := c_Store_put_in) l_z15 c_c_z15 k_z15
  have FF_z15 := F_z15
  have b_z15 := FF_z15.binds (ps := ["self", "number", "level", "name", "value"]) fun _ _ _ _ _ _ us hl => match us, hl with | [_, _, _, _, _], _ => rfl
  have m_z15 : Meth K C_Store "put_in" f_z15 := ⟨a_z15, i_z15, k_z15⟩
  have F_z16 := fun_mk (st := c_Store_put) l_z16 c_c_z16 k_z16
  have FF_z16 := F_z16
  have b_z16 := FF_z16.binds (ps := ["self", "table", "name", "value"]) fun _ _ _ _ _ _ us hl => match us, hl with | [_, _, _, _], _ => rfl
  have m_z16 : Meth K C_Store "put" f_z16 := ⟨a_z16, i_z16, k_z16⟩
  have F_z17 := fun_mk (st := c_Store_taken_from) l_z17 c_c_z17 k_z17
  have FF_z17 := F_z17
  have b_z17 := FF_z17.binds (ps := ["self", "number", "level", "name"]) fun _ _ _ _ _ _ us hl => match us, hl with | [_, _, _, _], _ => rfl
  have m_z17 : Meth K C_Store "taken_from" f_z17 := ⟨a_z17, i_z17, k_z17⟩
  have F_z18 := fun_mk (st := c_Store_without) l_z18 c_c_z18 k_z18
  have FF_z18 := F_z18
  have b_z18 := FF_z18.binds (ps := ["self", "table", "name"]) fun _ _ _ _ _ _ us hl => match us, hl with | [_, _, _], _ => rfl
  have m_z18 : Meth K C_Store "without" f_z18 := ⟨a_z18, i_z18, k_z18⟩
  have F_z19 := fun_mk (st := c_Store_pairs_below) l_z19 c_c_z19 k_z19
  have FF_z19 := F_z19
  have b_z19 := FF_z19.binds (ps := ["self", "number"]) fun _ _ _ _ _ _ us hl => match us, hl with | [_, _], _ => rfl
  have m_z19 : Meth K C_Store "pairs_below" f_z19 := ⟨a_z19, i_z19, k_z19⟩
  have F_z20 : FunC K "pairs" "Store.pairs" c_Store_pairs f_z20 _ ca_Store_pairs P_Store_pairs := ⟨⟨_, _, _, _, _, _, _, _, rfl, l_z20, c_c_z20⟩, k_z20, ht_z20⟩
  have FF_z20 := F_z20.fn
  have b_z20 := FF_z20.binds (ps := ["self", "table"]) fun _ _ _ _ _ _ us hl => match us, hl with | [_, _], _ => rfl
  have m_z20 : Meth K C_Store "pairs" f_z20 := ⟨a_z20, i_z20, k_z20⟩
  have F_z21 := fun_mk (st := c_Store_node) l_z21 c_c_z21 k_z21
  have FF_z21 := F_z21
  have b_z21 := FF_z21.binds (ps := ["self", "number"]) fun _ _ _ _ _ _ us hl => match us, hl with | [_, _], _ => rfl
  have m_z21 : Meth K C_Store "node" f_z21 := ⟨a_z21, i_z21, k_z21⟩
  have F_z22 := fun_mk (st := c_Store_made) l_z22 c_c_z22 k_z22
  have FF_z22 := F_z22
  have b_z22 := FF_z22.binds (ps := ["self"]) fun _ _ _ _ _ _ us hl => match us, hl with | [_], _ => rfl
  have m_z22 : Meth K C_Store "made" f_z22 := ⟨a_z22, i_z22, k_z22⟩
  have F_z23 := fun_mk (st := s_l_cell_at) l_z23 c_c_z23 k_z23
  have FF_z23 := F_z23
  have b_z23 := FF_z23.binds (ps := ["_law_script", "_law_k"]) fun _ _ _ _ _ _ us hl => match us, hl with | [_, _], _ => rfl
  have m_z23 := PySem.W.mg_of X G a_z23
  have F_z24 := fun_mk (st := s_l_box) l_z24 c_c_z24 k_z24
  have FF_z24 := F_z24
  have b_z24 := FF_z24.binds (ps := ["_law_script", "_law_k"]) fun _ _ _ _ _ _ us hl => match us, hl with | [_, _], _ => rfl
  have m_z24 := PySem.W.mg_of X G a_z24
  have F_z25 := fun_mk (st := s_l_take) l_z25 c_c_z25 k_z25
  have FF_z25 := F_z25
  have b_z25 := FF_z25.binds (ps := ["_law_box_here", "_law_many"]) fun _ _ _ _ _ _ us hl => match us, hl with | [_, _], _ => rfl
  have m_z25 := PySem.W.mg_of X G a_z25
  have F_z26 := fun_mk (st := s_l_of_mark) l_z26 c_c_z26 k_z26
  have FF_z26 := F_z26
  have b_z26 := FF_z26.binds (ps := ["_law_box_here", "_law_own"]) fun _ _ _ _ _ _ us hl => match us, hl with | [_, _], _ => rfl
  have m_z26 := PySem.W.mg_of X G a_z26
  have F_z27 := fun_mk (st := s_l_names) l_z27 c_c_z27 k_z27
  have FF_z27 := F_z27
  have b_z27 := FF_z27.binds (ps := ["_law_box_here", "_law_many"]) fun _ _ _ _ _ _ us hl => match us, hl with | [_, _], _ => rfl
  have m_z27 := PySem.W.mg_of X G a_z27
  have F_z28 := fun_mk (st := s_l_value) l_z28 c_c_z28 k_z28
  have FF_z28 := F_z28
  have b_z28 := FF_z28.binds (ps := ["_law_box_here"]) fun _ _ _ _ _ _ us hl => match us, hl with | [_], _ => rfl
  have m_z28 := PySem.W.mg_of X G a_z28
  have F_z29 := fun_mk (st := s_l_some_value) l_z29 c_c_z29 k_z29
  have FF_z29 := F_z29
  have b_z29 := FF_z29.binds (ps := ["_law_box_here", "_law_names_here"]) fun _ _ _ _ _ _ us hl => match us, hl with | [_, _], _ => rfl
  have m_z29 := PySem.W.mg_of X G a_z29
  have F_z30 := fun_mk (st := s_l_mark) l_z30 c_c_z30 k_z30
  have FF_z30 := F_z30
  have b_z30 := FF_z30.binds (ps := ["_law_name"]) fun _ _ _ _ _ _ us hl => match us, hl with | [_], _ => rfl
  have m_z30 := PySem.W.mg_of X G a_z30
  have F_z31 := fun_mk (st := s_l_digit) l_z31 c_c_z31 k_z31
  have FF_z31 := F_z31
  have b_z31 := FF_z31.binds (ps := ["_law_number", "_law_level"]) fun _ _ _ _ _ _ us hl => match us, hl with | [_, _], _ => rfl
  have m_z31 := PySem.W.mg_of X G a_z31
  have F_z32 := fun_mk (st := s_l_way) l_z32 c_c_z32 k_z32
  have FF_z32 := F_z32
  have b_z32 := FF_z32.binds (ps := ["_law_nodes", "_law_number", "_law_own"]) fun _ _ _ _ _ _ us hl => match us, hl with | [_, _, _], _ => rfl
  have m_z32 := PySem.W.mg_of X G a_z32
  have F_z33 := fun_mk (st := s_l_off_way) l_z33 c_c_z33 k_z33
  have FF_z33 := F_z33
  have b_z33 := FF_z33.binds (ps := ["_law_nodes", "_law_old", "_law_level", "_law_own"]) fun _ _ _ _ _ _ us hl => match us, hl with | [_, _, _, _], _ => rfl
  have m_z33 := PySem.W.mg_of X G a_z33
  have F_z34 := fun_mk (st := s_l_made_right) l_z34 c_c_z34 k_z34
  have FF_z34 := F_z34
  have b_z34 := FF_z34.binds (ps := ["_law_nodes", "_law_before", "_law_handed", "_law_told", "_law_name"]) fun _ _ _ _ _ _ us hl => match us, hl with | [_, _, _, _, _], _ => rfl
  have m_z34 := PySem.W.mg_of X G a_z34
  have F_z35 := fun_mk (st := s_l_deed) l_z35 c_c_z35 k_z35
  have FF_z35 := F_z35
  have b_z35 := FF_z35.binds (ps := ["_law_box_here", "_law_store", "_law_names_here", "_law_tables", "_law_dicts"]) fun _ _ _ _ _ _ us hl => match us, hl with | [_, _, _, _, _], _ => rfl
  have m_z35 := PySem.W.mg_of X G a_z35
  have F_z36 := fun_mk (st := s_law) l_z36 c_c_z36 k_z36
  have FF_z36 := F_z36
  refine ⟨PySem.W.fnOf "law" "law" (defArgs s_law) (defBody s_law) (defScope s_law) .none kV_z36 dc_z36 pm_z36 an_z36 cd_z36 ct_z36, fun s v => .of_eq rfl, fun base _ _ hBm => ?_⟩
  have D_z0 : Def l.prog w K mg base 1 "alike" ["one", "other"] _ := ⟨_, _, ok_alike F_z0, b_z0, k_z0, m_z0⟩
  have D_z1 : Def l.prog w K mg base 1 "mark" ["name"] _ := ⟨_, _, ok_mark F_z1 T, b_z1, k_z1, m_z1⟩
  have D_z2 : Def l.prog w K mg base 1 "digit" ["number", "level"] _ := ⟨_, _, ok_digit F_z2 T, b_z2, k_z2, m_z2⟩
  have D_z3 : Def l.prog w K mg base 2 "leaf_of" ["pairs"] _ := ⟨_, _, ok_leaf F_z3 T hBm D_z1, b_z3, k_z3, m_z3⟩
  have D_z4 : Def l.prog w K mg base 1 "fork_of" ["parts"] _ := ⟨_, _, ok_forkof F_z4 T, b_z4, k_z4, m_z4⟩
  have D_z5 : Def l.prog w K mg base 1 "parts_in" ["node"] _ := ⟨_, _, ok_parts F_z5, b_z5, k_z5, m_z5⟩
  have D_z6 : Def l.prog w K mg base 1 "pairs_in" ["node"] _ := ⟨_, _, ok_pairs F_z6, b_z6, k_z6, m_z6⟩
  have D_z7 : Def l.prog w K mg base 1 "has_mark" ["node", "number"] _ := ⟨_, _, ok_hasm F_z7, b_z7, k_z7, m_z7⟩
  have D_z8 : DefI l.prog w K mg base 9 C_Store "Store" ["self"] _ := ⟨_, _, (FnOk.conv (sp' := spInitS K C_Store) (ok_init F_z8 T TC) (fun _ _ _ _ h => init_S h)).mono (by decide), b_z8, m_z8, mC_Store⟩
  have D_z9 : DefM l.prog w K mg base 1 C_Store "check_table" ["self", "table"] _ := ⟨_, _, ok_check F_z9 TC, b_z9, m_z9⟩
  have D_z10 : DefM l.prog w K mg base 1 C_Store "keep" ["self", "node"] _ := ⟨_, _, ok_keep F_z10 T TC, b_z10, m_z10⟩
  have D_z11 : DefM l.prog w K mg base 1 C_Store "as_table" ["self", "number"] _ := ⟨_, _, ok_ast F_z11 TC, b_z11, m_z11⟩
  have D_z12 : DefM l.prog w K mg base 2 C_Store "way" ["self", "table", "name"] (spWay K C_Store) := ⟨_, _, ok_way F_z12 T TC D_z9 D_z5 D_z1 D_z2, b_z12, m_z12⟩
  have D_Store_wayS : DefM l.prog w K mg base 2 C_Store "way" ["self", "table", "name"] (spWayS K C_Store) := ⟨_, _, (ok_way F_z12 T TC D_z9 D_z5 D_z1 D_z2).conv fun _ _ _ _ h => way_S h, b_z12, m_z12⟩
  have D_z13 : DefM l.prog w K mg base 3 C_Store "looked" ["self", "table", "name"] (spLooked K C_Store) := ⟨_, _, ok_looked F_z13 T TC D_z12 D_z6, b_z13, m_z13⟩
  have D_Store_lookS : DefM l.prog w K mg base 3 C_Store "looked" ["self", "table", "name"] (spLookS K C_Store) := ⟨_, _, look_S (ok_looked F_z13 T TC D_z12 D_z6), b_z13, m_z13⟩
  have D_z14 : DefM l.prog w K mg base 2 C_Store "fork_parts" ["self", "number", "level"] _ := ⟨_, _, ok_fp F_z14 T TC D_z5 D_z6 D_z1 D_z2, b_z14, m_z14⟩
  have D_z15 : ∀ NS, NsOk NS → DefM l.prog w K mg base 8 C_Store "put_in" nPi (spPutI K C_Store P_leaf_of NS 6) := fun NS N => ⟨_, _, ok_putd N F_z15 T TC D_z7 D_z6 D_z1 D_z2 D_z3 D_z4 D_z10 D_z14 b_z15 m_z15 6, b_z15, m_z15⟩
  have D_z16 : DefM l.prog w K mg base 9 C_Store "put" ["self", "table", "name", "value"] (spPutS K C_Store P_leaf_of) := ⟨_, _, put_S fun NS N => ok_put N F_z16 TC D_z0 D_z13 D_z11 (D_z15 NS N), b_z16, m_z16⟩
  have D_z17 : ∀ NS, NsOk NS → DefM l.prog w K mg base 8 C_Store "taken_from" nTk (spTak K C_Store P_leaf_of NS 6) := fun NS N => ⟨_, _, ok_takd N F_z17 T TC D_z7 D_z5 D_z6 D_z1 D_z2 D_z3 D_z4 D_z10 b_z17 m_z17 6, b_z17, m_z17⟩
  have D_z18 : DefM l.prog w K mg base 9 C_Store "without" ["self", "table", "name"] (spWoS K C_Store P_leaf_of) := ⟨_, _, wo_S fun NS N => ok_wo N F_z18 TC D_z13 D_z11 (D_z17 NS N), b_z18, m_z18⟩
  have D_z19 : ∀ NS, NsOk NS → DefM l.prog w K mg base 7 C_Store "pairs_below" pnPB (spPB K C_Store NS 6) := fun NS N => ⟨_, _, ok_pbd N F_z19 T TC D_z6 D_z5 b_z19 m_z19 6, b_z19, m_z19⟩
  have D_Store_pairsM : ∀ NS, NsOk NS → DefM l.prog w K mg base 8 C_Store "pairs" pnPs (spPairsM K C_Store P_Store_pairs NS) := fun NS N => ⟨_, _, ok_pairsM N F_z20 T TC hBm (D_z9.mono (by decide)) (D_z19 NS N), b_z20, m_z20⟩
  have D_z20 : DefM l.prog w K mg base 8 C_Store "pairs" pnPs (spPairsS K C_Store P_Store_pairs) := ⟨_, _, pairs_S fun NS N => ok_pairsM N F_z20 T TC hBm (D_z9.mono (by decide)) (D_z19 NS N), b_z20, m_z20⟩
  have D_z21 : DefM l.prog w K mg base 1 C_Store "node" ["self", "number"] (spNodeS K C_Store) := ⟨_, _, (ok_node F_z21 T TC).conv fun _ _ _ _ h => node_S h, b_z21, m_z21⟩
  have D_z22 : DefM l.prog w K mg base 1 C_Store "made" ["self"] _ := ⟨_, _, ok_made F_z22 T TC, b_z22, m_z22⟩
  have D_z23 : Def l.prog w K mg base 1 "_law_cell_at" ["_law_script", "_law_k"] _ := ⟨_, _, ok_cell F_z23 TB, b_z23, k_z23, m_z23⟩
  have D_z24 : Def l.prog w K mg base 2 "_law_box" ["_law_script", "_law_k"] _ := ⟨_, _, FnOk.conv (sp' := spBoxS K) (ok_box F_z24 TB D_z23) (fun _ _ _ _ h => box_S h), b_z24, k_z24, m_z24⟩
  have DT0 : DTake l.prog w K mg base := ⟨_, _, ok_take F_z25, b_z25, k_z25, m_z25⟩
  have D_z25 : DTk l.prog w K mg base 1 := DT0.conv fun _ _ _ _ h => take_S h
  have D_z26 : Def l.prog w K mg base 2 "_law_of_mark" ["_law_box_here", "_law_own"] _ := ⟨_, _, ok_of F_z26 T DT0, b_z26, k_z26, m_z26⟩
  have D_z27 : Def l.prog w K mg base 3 "_law_names" ["_law_box_here", "_law_many"] _ := ⟨_, _, FnOk.conv (sp' := spNamesS) (ok_names F_z27 T DT0 D_z26) (fun _ _ _ _ h => names_S h), b_z27, k_z27, m_z27⟩
  have D_z28 : Def l.prog w K mg base 2 "_law_value" ["_law_box_here"] _ := ⟨_, _, FnOk.conv (sp' := spValueS) (ok_value F_z28 T DT0) (fun _ _ _ _ h => value_S h), b_z28, k_z28, m_z28⟩
  have D_z29 : Def l.prog w K mg base 3 "_law_some_value" ["_law_box_here", "_law_names_here"] _ := ⟨_, _, ok_sv F_z29 TB D_z25 D_z28, b_z29, k_z29, m_z29⟩
  have D_z30 : Def l.prog w K mg base 1 "_law_mark" ["_law_name"] _ := ⟨_, _, ok_lmark F_z30 T n_sum, b_z30, k_z30, m_z30⟩
  have D_z31 : Def l.prog w K mg base 1 "_law_digit" ["_law_number", "_law_level"] _ := ⟨_, _, ok_ldigit F_z31, b_z31, k_z31, m_z31⟩
  have D_z32 : Def l.prog w K mg base 2 "_law_way" ["_law_nodes", "_law_number", "_law_own"] _ := ⟨_, _, ok_wy F_z32 TB D_z31, b_z32, k_z32, m_z32⟩
  have D_z33 : Def l.prog w K mg base 2 "_law_off_way" ["_law_nodes", "_law_old", "_law_level", "_law_own"] _ := ⟨_, _, ok_ow F_z33 TB D_z31, b_z33, k_z33, m_z33⟩
  have D_z34 : Def l.prog w K mg base 3 "_law_made_right" ["_law_nodes", "_law_before", "_law_handed", "_law_told", "_law_name"] _ := ⟨_, _, ok_mr F_z34 TB D_z30 D_z31 D_z32 D_z33, b_z34, k_z34, m_z34⟩
  have D_z35 : Def l.prog w K mg base 10 "_law_deed" ["_law_box_here", "_law_store", "_law_names_here", "_law_tables", "_law_dicts"] _ := ⟨_, _, ok_deed F_z35 TB TC D_z25 (D_z29.mono (by decide)) D_z16 D_z18, b_z35, k_z35, m_z35⟩
  exact ok_law F_z36 TB TC (D_z24.mono (by decide)) D_z25 (D_z27.mono (by decide)) D_z35 (D_z34.mono (by decide)) D_z8 (D_z21.mono (by decide)) (D_z22.mono (by decide))
theorem walk {l : PySem.W.OpenLaw} {q : Program} {loose : List Str} {XP : (Str → Option Value) → Heap → Prop} {YP : World → Heap → Prop} {d : DefRec} {K : Params → PySem.W.Frag} {ts : List Addr} {P_leaf_of P_Store_pairs : Addr} (hn : l.most = some 63) (hdf : d.params.defaults = [])
    (hY : ∀ (w : World) (h : Heap), YP w h → (K w.params).In h ∧ ∀ b ∈ ts, h.get? b = some (PySem.W.tabObj #[]))
    (hK : ∀ (w : World) (b : Addr), b ∈ ts → (K w.params).lookup b = none ∧ ∃ c, PySem.W.codeHdIn (K w.params) c b = true)
    (hP_leaf_of : P_leaf_of ∈ ts) (hP_Store_pairs : P_Store_pairs ∈ ts) (hne : P_leaf_of ≠ P_Store_pairs) (F : ∀ (w : World) (mg : Str → Option Value) (fa : Addr) (h : Heap), (K w.params).In h → h.Ns mainGlobals mg → mg d.name = some (.ref fa) →
      ∃ fd : FuncData, (∀ (s : Shared) (u : Value), BindsTo s fd ⟨[u], []⟩ [("_law_script", u)]) ∧ ∀ base : Heap, (K w.params).In base → base.Ns mainGlobals mg → BmAt base mg → FnOk l.prog w (K w.params) mg base CX0 11 fa fd ["_law_script"] (spLaw (K w.params) P_leaf_of P_Store_pairs)) :
    PySem.W.WalkO q loose XP YP l.row.toRowW d [] (fun f vs => PySem.call f vs) :=
  L2.walk_ofT (n := 63) (k := 11) (x := "_law_script") (CX := fun _ => CX0) (sp := fun w => spLaw (K w.params) P_leaf_of P_Store_pairs) (ts := ts) hn (by decide) hdf ⟨rfl, by decide, by decide, rfl⟩ hY hK F (fun w H a ns hl hO hS hT => ⟨a, ns, rfl, hS, hl, .inl (hT _ hP_leaf_of), .inl (hT _ hP_Store_pairs), hne, fun _ => rfl⟩) fun _ _ _ _ _ z => z
end K6
namespace PySem.W.Fast
def tw610482895091720343 := 0
def tw3910591357544454000 := 0
def tw9336557926182305669 := 0
def tw11823966787278681012 := 0
def tw14900024613357379361 := 0
def tw2838126355040540181 := 0
def tw3241578272810300792 := 0
def tw16477257705894754917 := 0
def tw5314718182167905246 := 0
def tw5272098145595254565 := 0
def tw1626308146272634377 := 0
def tw5922462323881358258 := 0
def tw15859208854120798304 := 0
def tw5824528472598475766 := 0
def tw1962735182172159080 := 0
def tw7397622237480674304 := 0
def tw12441128186319306991 := 0
def tw5023867879302811186 := 0
def tw7978650754028562145 := 0
def tw9764349931640113991 := 0
def tw3760971408279349271 := 0
def tw11142042056385145012 := 0
def tw6811323209788016785 := 0
def tw7326064630776814361 := 0
def tw5978158222989471334 := 0
def tw11548608508126359444 := 0
def tw227226232672812661 := 0
def tw12867460047005967066 := 0
def tw2795628372006395814 := 0
def tw10696592013382390152 := 0
def tw17958917635038444714 := 0
def tw2569801579580577177 := 0
def tw9098369908755163724 := 0
def tw205369652521387741 := 0
def tw2480295517448827948 := 0
def tw8039580513825094501 := 0
def tw17670230542271966419 := 0
def tw7686328783672742007 := 0
def tw18197557892335169709 := 0
def tw16354440673176172362 := 0
def tw8593823382185369559 := 0
def tw16258974417274491084 := 0
def tw594802199352073314 := 0
def tw5650430907281114756 := 0
def tw15437344588705984235 := 0
def tw10965492456023658926 := 0
def tw2243192283472808127 := 0
def tw13747024072337753888 := 0
def tw13475950174590483694 := 0
def tw7980705103417960444 := 0
def tw3306248182295100463 := 0
def tw5705586066859320279 := 0
def tw9802933382810019344 := 0
def tw3077745424403511486 := 0
def tw7489404824284808014 := 0
def tw8239014613240867364 := 0
def tw13179020320662531649 := 0
def tw14704538757086011075 := 0
def tw8691913090733913973 := 0
def tw7683613598045785381 := 0
def tw2108630260637290452 := 0
def tw8835336298365212421 := 0
def tw9385430281673007330 := 0
def tw15485857380898435118 := 0
def tw8087064680924978446 := 0
def tw6339411333091081032 := 0
def tw9514052521290587311 := 0
def tw4709355943852084949 := 0
def tw16409174997673533474 := 0
def tw226536202205124377 := 0
def tw14023493026112215045 := 0
def tw8597499619829658458 := 0
def tw4450720767451731632 := 0
def tw9051722919140222708 := 0
def tw16222014864101392746 := 0
def tw7567549055374762228 := 0
def tw16494629309455526144 := 0
def tw16323445459265197661 := 0
def tw4542242456268486820 := 0
def tw6623738074726728453 := 0
def tw7630587011848566885 := 0
def tw15098908602359235702 := 0
def tw5228504366350155849 := 0
def tw4643559921297555324 := 0
def tw6042832675371897228 := 0
def tw6596296248211548685 := 0
def tw4663032249034274279 := 0
def tw9347190630929757172 := 0
def tw13093610335432612932 := 0
def tw8816702088046713383 := 0
def tw5114640016463094436 := 0
def tw6101377422060415458 := 0
def tw11914754283752954789 := 0
def tw3621243327564224089 := 0
def tw12666110200965934467 := 0
def tw1065024328113286392 := 0
def tw2441256078704156293 := 0
def tw3942874394121513442 := 0
def tw6012374584745349673 := 0
def tw9723045474099928181 := 0
def tw15400790619523473764 := 0
def tw13310516038982692595 := 0
def tw13926098963103786905 := 0
def tw3681311866549950389 := 0
def tw3890871783129975342 := 0
def tw17631002514088894692 := 0
def tw6653160879383036446 := 0
def tw4809863157153866942 := 0
def tw17322958125855130973 := 0
def tw10415711352114167040 := 0
def tw12105846414676313435 := 0
def tw6712147276683464188 := 0
def tw9575019212775282040 := 0
def tw7703185289806229869 := 0
def tw12636057552000444204 := 0
def tw12866511078489928179 := 0
def tw9184570665551273737 := 0
def tw9579195907619642888 := 0
def tw3750626074950818367 := 0
def tw17385189011791902166 := 0
def tw12146810201589342131 := 0
def tw16785337055055092245 := 0
def tw11799192711046087907 := 0
def tw3979214199909821253 := 0
def tw11342159728292970370 := 0
def tw12125512505480195111 := 0
def tw11605115109633184669 := 0
def tw10460311662871752961 := 0
def tw1926874995171617130 := 0
def tw899538833381273184 := 0
def tw2904872709612447580 := 0
def tw1805779703807184986 := 0
def tw15455773404804113634 := 0
def tw16601500217490090948 := 0
def tw10427831317502828121 := 0
def tw10358712627670799710 := 0
def tw9059862778767216231 := 0
def tw9339664398852860716 := 0
def tw4300678705717467017 := 0
def tw8394719570045393934 := 0
def tw16522144910608134103 := 0
def tw9562081616918614371 := 0
def tw9381086485548500578 := 0
def tw6951484992279807539 := 0
def tw647863727508190044 := 0
def tw6357932184077263949 := 0
def tw4551275987563365846 := 0
def tw2972040187312657036 := 0
def tw18093611633830766031 := 0
def tw16905933425151250895 := 0
def tw16696614734848552006 := 0
def tw16608754773723378186 := 0
def tw12205155065920561172 := 0
def tw11980399619736410411 := 0
def tw11266270684478986546 := 0
def tw7156592905854365139 := 0
def tw7731921060916529767 := 0
def tw17257567813388537530 := 0
def tw14159963907278647853 := 0
def tw5709466067518927016 := 0
def tw14377250985743111111 := 0
def tw7193929952484133046 := 0
def tw3271190134956784243 := 0
def tw17691064162233557611 := 0
def tw7970128582718109164 := 0
def tw13878910323090659780 := 0
def tw10350548436602865779 := 0
def tw1774875165465767601 := 0
def tw9297463191316644497 := 0
def tw1954368685231727120 := 0
def tw9925357880022203913 := 0
def tw9355769358855302694 := 0
def tw8677755212782758560 := 0
def tw733212359103294475 := 0
def tw3914067927672062898 := 0
def tw2749636962853679404 := 0
def tw2199641861815120368 := 0
def tw17895099496471075709 := 0
def tw17413245675489254882 := 0
def tw17349102353723884917 := 0
def tw17104117382107571684 := 0
def tw16351240710513448441 := 0
def tw15071396649813976712 := 0
def tw14413245775128048558 := 0
def tw14202571507228430306 := 0
def tw14072602872625407880 := 0
def tw12184908486862114770 := 0
def tw11541997120466476498 := 0
def tw11443955950132058801 := 0
def tw6499746802385159958 := 0
def tw7596421324826699120 := 0
def tw5270920566569829834 := 0
def tw4963865384797472731 := 0
def tw4862436915765768995 := 0
def tw4780469139084079226 := 0
def tw247592222056408706 := 0
def tw17867289146908194643 := 0
def tw17838793607966260942 := 0
def tw1774813893401132615 := 0
def tw15213616499656810691 := 0
def tw14022033534784649661 := 0
def tw12923213946512593256 := 0
def tw7480550989019062262 := 0
def tw1030316513401828240 := 0
def tw8956851715667628401 := 0
def tw1350261373630804921 := 0
def tw9870366850985965848 := 0
def tw17420571263390844544 := 0
def tw15544010619228483996 := 0
def tw146000636465458326 := 0
def tw12955503769533766525 := 0
def tw12259357610351800660 := 0
def tw11405860945088244081 := 0
def tw1024970547501837670 := 0
def tw10248252457002008712 := 0
def tw14931541563742374776 := 0
def tw12309562673746710835 := 0
def tw6651706906656668681 := 0
def tw13923558344804204665 := 0
def tw18362741414969857821 := 0
def tw13059171105989769772 := 0
def tw9453956266433748182 := 0
def tw17201280378859615102 := 0
def tw5042169607131472344 := 0
def tw17335547712184530467 := 0
def tw16804067954652549254 := 0
def tw13974920121187316403 := 0
def tw10329955999192798144 := 0
def tw10669756663651535064 := 0
def tw10173813439249059946 := 0
def tw7868466522615194085 := 0
def tw7747767202710491728 := 0
def tw566660551023775380 := 0
def tw4515579055295833750 := 0
def tw2743690621973434533 := 0
def tw2053430212452078403 := 0
def tw17658211756365294745 := 0
def tw17534025434787883933 := 0
def tw14577581224710731725 := 0
def tw14079119350926650675 := 0
def tw1386038923578738621 := 0
def tw13203205661024318190 := 0
def tw11829676398378321575 := 0
def tw11650446399378566989 := 0
def tw10707700981257995984 := 0
def tw766920173619475903 := 0
def tw7632360498603113403 := 0
def tw6376995089754252750 := 0
def tw4609447199725798908 := 0
def tw3550992274291928900 := 0
def tw2942964429427878994 := 0
def tw2819587214437854491 := 0
def tw251994515393138916 := 0
def tw17022994629519828788 := 0
def tw16014548799933535253 := 0
def tw13085566011928945060 := 0
def tw10105841674799152569 := 0
def tw9921414079389264233 := 0
def tw9910243078266534226 := 0
def tw9822213618526365412 := 0
def tw9683251927039495698 := 0
def tw9468801478851294192 := 0
def tw9415162640108304212 := 0
def tw9371144358287967308 := 0
def tw9287992670377865418 := 0
def tw9133766885484407071 := 0
def tw9038573570159172005 := 0
def tw8868229099651561712 := 0
def tw8676151674663026896 := 0
def tw8631119044908863606 := 0
def tw8469833496753591438 := 0
def tw8263028945490289273 := 0
def tw8013108446857610465 := 0
def tw7997787805354148939 := 0
def tw7844297473715769359 := 0
def tw7622588719163790385 := 0
def tw7544697539036643 := 0
def tw7441031037871979829 := 0
def tw7207879375117356517 := 0
def tw6842411370065292814 := 0
def tw6758545412275665305 := 0
def tw6703733943207670138 := 0
def tw6633303629710615570 := 0
def tw6369883225943441883 := 0
def tw6369646315316258909 := 0
def tw6350775114571974859 := 0
def tw6167494461505305022 := 0
def tw5697923598105172149 := 0
def tw5667384592877404928 := 0
def tw5643681055547423987 := 0
def tw5604122528050362978 := 0
def tw5460982231277322078 := 0
def tw5227618634382606188 := 0
def tw5177103783001856767 := 0
def tw4926235095905425380 := 0
def tw471922514766059961 := 0
def tw4716830296119560701 := 0
def tw4669872833080247626 := 0
def tw4500563083343144317 := 0
def tw450014386392795048 := 0
def tw4393973934497671399 := 0
def tw4365985867014962971 := 0
def tw4163904711948404266 := 0
def tw4132883338977347481 := 0
def tw4113499601366103417 := 0
def tw3965996127424482976 := 0
def tw3923362522876534140 := 0
def tw3847558813992080625 := 0
def tw3742177977495031880 := 0
def tw3578620176094622256 := 0
def tw3177927538498274065 := 0
def tw3106214428330217221 := 0
def tw2952979145139092739 := 0
def tw2893296397301831316 := 0
def tw2741451966881046707 := 0
def tw2706339552467827964 := 0
def tw2669590220435780059 := 0
def tw2632587103226179339 := 0
def tw2546746573038573676 := 0
def tw2406860283098015304 := 0
def tw2372960287037265539 := 0
def tw1966717870007752703 := 0
def tw18433426707102045556 := 0
def tw1840478317931404933 := 0
def tw18240292482297110098 := 0
def tw18225474413972209049 := 0
def tw18102311260842126722 := 0
def tw17712677535535727775 := 0
def tw17667293802711303577 := 0
def tw17626691740508090720 := 0
def tw17572193398184637191 := 0
def tw17485970435916297518 := 0
def tw17472921363179693516 := 0
def tw17070305888336735668 := 0
def tw17029704144984705239 := 0
def tw16923362187157395141 := 0
def tw16835972193167749909 := 0
def tw16808563576726175980 := 0
def tw1650645539306796453 := 0
def tw16425834951138787845 := 0
def tw16278051400911158907 := 0
def tw15847317032704641699 := 0
def tw15537159042108640627 := 0
def tw15398036259685529904 := 0
def tw15390352051840754739 := 0
def tw15361222031217630395 := 0
end PySem.W.Fast
open PySem PySem.W PyProof.Rows
set_option maxRecDepth 100000 in
set_option maxHeartbeats 0 in
theorem PySem.Challenge.cw_roadsettings_k06_nodes_made_and_kept_holds : PySem.Challenge.rw_roadsettings_k06_nodes_made_and_kept.Holds := by
  w_on; o_law; k_head; (case hw => w_witness2)
  k_fill
  refine' K6.walk (l := PySem.Challenge.rw_roadsettings_k06_nodes_made_and_kept) (P_leaf_of := 83) (P_Store_pairs := 167) rfl rfl (fun w h Y => ⟨PySem.W.km_in_of Y, PySem.W.km_tabs_of Y⟩) ?hK ?hP0 ?hP1 (by decide) ?F
  case hP0 => decide
  case hP1 => decide
  case hK =>
    intro w b hb
    simp only [List.mem_cons, List.not_mem_nil, or_false] at hb
    rcases hb with rfl | rfl
    · exact ⟨by kernel_rfl, 87, by kernel_rfl⟩
    · exact ⟨by kernel_rfl, 171, by kernel_rfl⟩
  case F =>
    intro w mg fa h KX G hmg
    refine' K6.all_mk KX G hmg ?aC_Store ?pg_Store ?hd_Store ?po_Store ?sa_Store ?mk_Store ?kc_Store ?na_Store_nodes ?na_Store_tables ?a_z0 ?l_z0 ?c_c_z0 ?k_z0 ?a_z1 ?l_z1 ?c_c_z1 ?k_z1 ?a_z2 ?l_z2 ?c_c_z2 ?k_z2 ?a_z3 ?l_z3 ?c_c_z3 ?k_z3 ?ht_z3 ?a_z4 ?l_z4 ?c_c_z4 ?k_z4 ?a_z5 ?l_z5 ?c_c_z5 ?k_z5 ?a_z6 ?l_z6 ?c_c_z6 ?k_z6 ?a_z7 ?l_z7 ?c_c_z7 ?k_z7 ?a_z8 ?i_z8 ?l_z8 ?c_c_z8 ?k_z8 ?a_z9 ?i_z9 ?l_z9 ?c_c_z9 ?k_z9 ?a_z10 ?i_z10 ?l_z10 ?c_c_z10 ?k_z10 ?a_z11 ?i_z11 ?l_z11 ?c_c_z11 ?k_z11 ?a_z12 ?i_z12 ?l_z12 ?c_c_z12 ?k_z12 ?a_z13 ?i_z13 ?l_z13 ?c_c_z13 ?k_z13 ?a_z14 ?i_z14 ?l_z14 ?c_c_z14 ?k_z14 ?a_z15 ?i_z15 ?l_z15 ?c_c_z15 ?k_z15 ?a_z16 ?i_z16 ?l_z16 ?c_c_z16 ?k_z16 ?a_z17 ?i_z17 ?l_z17 ?c_c_z17 ?k_z17 ?a_z18 ?i_z18 ?l_z18 ?c_c_z18 ?k_z18 ?a_z19 ?i_z19 ?l_z19 ?c_c_z19 ?k_z19 ?a_z20 ?i_z20 ?l_z20 ?c_c_z20 ?k_z20 ?ht_z20 ?a_z21 ?i_z21 ?l_z21 ?c_c_z21 ?k_z21 ?a_z22 ?i_z22 ?l_z22 ?c_c_z22 ?k_z22 ?a_z23 ?l_z23 ?c_c_z23 ?k_z23 ?a_z24 ?l_z24 ?c_c_z24 ?k_z24 ?a_z25 ?l_z25 ?c_c_z25 ?k_z25 ?a_z26 ?l_z26 ?c_c_z26 ?k_z26 ?a_z27 ?l_z27 ?c_c_z27 ?k_z27 ?a_z28 ?l_z28 ?c_c_z28 ?k_z28 ?a_z29 ?l_z29 ?c_c_z29 ?k_z29 ?a_z30 ?l_z30 ?c_c_z30 ?k_z30 ?a_z31 ?l_z31 ?c_c_z31 ?k_z31 ?a_z32 ?l_z32 ?c_c_z32 ?k_z32 ?a_z33 ?l_z33 ?c_c_z33 ?k_z33 ?a_z34 ?l_z34 ?c_c_z34 ?k_z34 ?a_z35 ?l_z35 ?c_c_z35 ?k_z35 ?a_z36 ?l_z36 ?c_c_z36 ?k_z36 ?z_len ?z_abs ?z_int ?z_range ?z_min ?z_max ?z_repr ?z_enumerate ?z_ord ?z_list ?z_tuple ?z_dict ?z_sorted ?z_sum ?z_all ?z_any ?z_divmod ?z_str ?z_isinstance ?z_set ?z_zip ?z_reversed ?z_bool ?gBASE ?gZERO ?gBARE ?tBARE ?gFIG ?tFIG
    (case aC_Store => k_is)
    (case pg_Store => k_is)
    (case hd_Store => k_is)
    (case po_Store => k_is)
    (case sa_Store => k_is)
    (case mk_Store => k_is)
    (case kc_Store => k_is)
    (case na_Store_nodes => k_is)
    (case na_Store_tables => k_is)
    (case a_z0 => k_is)
    (case l_z0 => k_is)
    (case c_c_z0 => k_is)
    (case k_z0 => k_is)
    (case a_z1 => k_is)
    (case l_z1 => k_is)
    (case c_c_z1 => k_is)
    (case k_z1 => k_is)
    (case a_z2 => k_is)
    (case l_z2 => k_is)
    (case c_c_z2 => k_is)
    (case k_z2 => k_is)
    (case a_z3 => k_is)
    (case l_z3 => k_is)
    (case c_c_z3 => k_is)
    (case k_z3 => k_is)
    (case ht_z3 => kernel_rfl)
    (case a_z4 => k_is)
    (case l_z4 => k_is)
    (case c_c_z4 => k_is)
    (case k_z4 => k_is)
    (case a_z5 => k_is)
    (case l_z5 => k_is)
    (case c_c_z5 => k_is)
    (case k_z5 => k_is)
    (case a_z6 => k_is)
    (case l_z6 => k_is)
    (case c_c_z6 => k_is)
    (case k_z6 => k_is)
    (case a_z7 => k_is)
    (case l_z7 => k_is)
    (case c_c_z7 => k_is)
    (case k_z7 => k_is)
    (case a_z8 => k_is)
    (case i_z8 => k_is)
    (case l_z8 => k_is)
    (case c_c_z8 => k_is)
    (case k_z8 => k_is)
    (case a_z9 => k_is)
    (case i_z9 => k_is)
    (case l_z9 => k_is)
    (case c_c_z9 => k_is)
    (case k_z9 => k_is)
    (case a_z10 => k_is)
    (case i_z10 => k_is)
    (case l_z10 => k_is)
    (case c_c_z10 => k_is)
    (case k_z10 => k_is)
    (case a_z11 => k_is)
    (case i_z11 => k_is)
    (case l_z11 => k_is)
    (case c_c_z11 => k_is)
    (case k_z11 => k_is)
    (case a_z12 => k_is)
    (case i_z12 => k_is)
    (case l_z12 => k_is)
    (case c_c_z12 => k_is)
    (case k_z12 => k_is)
    (case a_z13 => k_is)
    (case i_z13 => k_is)
    (case l_z13 => k_is)
    (case c_c_z13 => k_is)
    (case k_z13 => k_is)
    (case a_z14 => k_is)
    (case i_z14 => k_is)
    (case l_z14 => k_is)
    (case c_c_z14 => k_is)
    (case k_z14 => k_is)
    (case a_z15 => k_is)
    (case i_z15 => k_is)
    (case l_z15 => k_is)
    (case c_c_z15 => k_is)
    (case k_z15 => k_is)
    (case a_z16 => k_is)
    (case i_z16 => k_is)
    (case l_z16 => k_is)
    (case c_c_z16 => k_is)
    (case k_z16 => k_is)
    (case a_z17 => k_is)
    (case i_z17 => k_is)
    (case l_z17 => k_is)
    (case c_c_z17 => k_is)
    (case k_z17 => k_is)
    (case a_z18 => k_is)
    (case i_z18 => k_is)
    (case l_z18 => k_is)
    (case c_c_z18 => k_is)
    (case k_z18 => k_is)
    (case a_z19 => k_is)
    (case i_z19 => k_is)
    (case l_z19 => k_is)
    (case c_c_z19 => k_is)
    (case k_z19 => k_is)
    (case a_z20 => k_is)
    (case i_z20 => k_is)
    (case l_z20 => k_is)
    (case c_c_z20 => k_is)
    (case k_z20 => k_is)
    (case ht_z20 => kernel_rfl)
    (case a_z21 => k_is)
    (case i_z21 => k_is)
    (case l_z21 => k_is)
    (case c_c_z21 => k_is)
    (case k_z21 => k_is)
    (case a_z22 => k_is)
    (case i_z22 => k_is)
    (case l_z22 => k_is)
    (case c_c_z22 => k_is)
    (case k_z22 => k_is)
    (case a_z23 => k_is)
    (case l_z23 => k_is)
    (case c_c_z23 => k_is)
    (case k_z23 => k_is)
    (case a_z24 => k_is)
    (case l_z24 => k_is)
    (case c_c_z24 => k_is)
    (case k_z24 => k_is)
    (case a_z25 => k_is)
    (case l_z25 => k_is)
    (case c_c_z25 => k_is)
    (case k_z25 => k_is)
    (case a_z26 => k_is)
    (case l_z26 => k_is)
    (case c_c_z26 => k_is)
    (case k_z26 => k_is)
    (case a_z27 => k_is)
    (case l_z27 => k_is)
    (case c_c_z27 => k_is)
    (case k_z27 => k_is)
    (case a_z28 => k_is)
    (case l_z28 => k_is)
    (case c_c_z28 => k_is)
    (case k_z28 => k_is)
    (case a_z29 => k_is)
    (case l_z29 => k_is)
    (case c_c_z29 => k_is)
    (case k_z29 => k_is)
    (case a_z30 => k_is)
    (case l_z30 => k_is)
    (case c_c_z30 => k_is)
    (case k_z30 => k_is)
    (case a_z31 => k_is)
    (case l_z31 => k_is)
    (case c_c_z31 => k_is)
    (case k_z31 => k_is)
    (case a_z32 => k_is)
    (case l_z32 => k_is)
    (case c_c_z32 => k_is)
    (case k_z32 => k_is)
    (case a_z33 => k_is)
    (case l_z33 => k_is)
    (case c_c_z33 => k_is)
    (case k_z33 => k_is)
    (case a_z34 => k_is)
    (case l_z34 => k_is)
    (case c_c_z34 => k_is)
    (case k_z34 => k_is)
    (case a_z35 => k_is)
    (case l_z35 => k_is)
    (case c_c_z35 => k_is)
    (case k_z35 => k_is)
    (case a_z36 => k_is)
    (case l_z36 => k_is)
    (case c_c_z36 => k_is)
    (case k_z36 => k_is)
    (case z_len => k_is)
    (case z_abs => k_is)
    (case z_int => k_is)
    (case z_range => k_is)
    (case z_min => k_is)
    (case z_max => k_is)
    (case z_repr => k_is)
    (case z_enumerate => k_is)
    (case z_ord => k_is)
    (case z_list => k_is)
    (case z_tuple => k_is)
    (case z_dict => k_is)
    (case z_sorted => k_is)
    (case z_sum => k_is)
    (case z_all => k_is)
    (case z_any => k_is)
    (case z_divmod => k_is)
    (case z_str => k_is)
    (case z_isinstance => k_is)
    (case z_set => k_is)
    (case z_zip => k_is)
    (case z_reversed => k_is)
    (case z_bool => k_is)
    (case gBASE => k_is)
    (case gZERO => k_is)
    (case gBARE => k_is)
    (case tBARE => kernel_rfl)
    (case gFIG => k_is)
    (case tFIG => kernel_rfl)
