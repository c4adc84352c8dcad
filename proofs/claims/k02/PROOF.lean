import PyProof.Rows.All
import Wide.All
import OpenK.AllK
import Wide.FinOn
import Lean
import PyProof.EqAt
import PyProof.EqKinds
import PyProof.TupleCall
import KE.KRevIter
import PyProof.NeKinds
import PyProof.SliceStr2
import KE.KDictList
import PyProof.CollectIter
import PyProof.StrLawsRepr
import PyProof.Rows.StrClose
import PySem.Challenge.RW_patchkin_k02_stores_begun

set_option Elab.async false
set_option linter.all false
set_option maxRecDepth 100000
/-! THE HAND LAYER, for ints, bools, texts, own classes, LISTS and tuples (index, slices, in, append, pop ..), calls, loops. Paste it whole ahead of your own text; what your proof does not reach may be deleted. -/
namespace L2
open PySem PySem.Spec PyProof.Rows

/-- a key: an int or a str -/
abbrev Key := Sum Int Str
def keyIs : Key → Value → Bool
  | .inl k, v => Value.isInt k v
  | .inr x, v => Value.isStrOf x v
def keyH (w : World) : Key → Int
  | .inl k => hashInt k
  | .inr x => hashStr w x
theorem keyIs_shape : ∀ {k : Key} {v : Value}, keyIs k v = true → (∃ i t, k = Sum.inl i ∧ v = Value.int i t) ∨ (∃ x t, k = Sum.inr x ∧ v = Value.str x t)
  | .inl i, v, h => by
    obtain ⟨t, e⟩ := Value.isInt_shape (k := i) (v := v) h
    exact .inl ⟨i, t, rfl, e⟩
  | .inr x, v, h => by
    obtain ⟨t, e⟩ := Value.isStrOf_shape (x := x) (v := v) h
    exact .inr ⟨x, t, rfl, e⟩
theorem keyIs_int (i : Int) (t : Tok) : keyIs (.inl i) (.int i t) = true := by simp [keyIs, Value.isInt]
theorem keyIs_str (x : Str) (t : Tok) : keyIs (.inr x) (.str x t) = true := by simp [keyIs, Value.isStrOf]
theorem key_ll (a b : Int) : decide ((Sum.inl a : Key) = Sum.inl b) = (a == b) := by
  by_cases e : a = b
  · subst e; simp
  · have h : ¬ (Sum.inl a : Key) = Sum.inl b := fun q => e (Sum.inl.inj q)
    rw [decide_eq_false h]
    exact (beq_eq_false_iff_ne.mpr e).symm
theorem key_rr (a b : Str) : decide ((Sum.inr a : Key) = Sum.inr b) = decide (a = b) := by
  by_cases e : a = b
  · subst e; simp
  · have h : ¬ (Sum.inr a : Key) = Sum.inr b := fun q => e (Sum.inr.inj q)
    rw [decide_eq_false h, decide_eq_false e]
theorem key_lr (a : Int) (b : Str) : decide ((Sum.inl a : Key) = Sum.inr b) = false := decide_eq_false (fun q => nomatch q)
theorem key_rl (a : Str) (b : Int) : decide ((Sum.inr a : Key) = Sum.inl b) = false := decide_eq_false (fun q => nomatch q)
def mixKind (prog : Program) (w : World) : PySem.KeyKind prog w Key where
  is := keyIs
  hash := keyH w
  inj := fun v a b ha hb => by
    rcases keyIs_shape ha with ⟨i, t, rfl, rfl⟩ | ⟨x, t, rfl, rfl⟩
    · rcases keyIs_shape hb with ⟨j, u, rfl, e⟩ | ⟨y, u, rfl, e⟩
      · injection e with e1 _; rw [e1]
      · exact nomatch e
    · rcases keyIs_shape hb with ⟨j, u, rfl, e⟩ | ⟨y, u, rfl, e⟩
      · exact nomatch e
      · injection e with e1 _; rw [e1]
  byValue := fun k v h => by
    rcases keyIs_shape h with ⟨i, t, rfl, rfl⟩ | ⟨x, t, rfl, rfl⟩ <;> rfl
  pyHash := fun hv h => by
    rcases keyIs_shape hv with ⟨i, t, rfl, rfl⟩ | ⟨x, t, rfl, rfl⟩
    · exact wpAny_pyHash_int h
    · exact wpAny_pyHash_str h
  eqBool := fun hu hv h => by
    rcases keyIs_shape hu with ⟨i, t, rfl, rfl⟩ | ⟨x, t, rfl, rfl⟩
    · rcases keyIs_shape hv with ⟨j, u, rfl, rfl⟩ | ⟨y, u, rfl, rfl⟩
      · rw [key_ll] at h; exact wpAny_eqBool_int h
      · rw [key_lr] at h; exact SeqAt.EqAt.int_str i t y u _ _ _ _ h
    · rcases keyIs_shape hv with ⟨j, u, rfl, rfl⟩ | ⟨y, u, rfl, rfl⟩
      · rw [key_rl] at h; exact SeqAt.EqAt.str_int x t j u _ _ _ _ h
      · rw [key_rr] at h; exact wpAny_eqBool_str h
  «strs» := fun k x t v h => by
    rcases keyIs_shape h with ⟨i, u, rfl, e⟩ | ⟨y, u, rfl, e⟩
    · exact nomatch e
    · injection e with e1 _
      subst e1
      cases v <;> rfl
theorem mixKind_int (prog : Program) (w : World) (i : Int) (t : Tok) : (mixKind prog w).is (.inl i) (.int i t) = true := keyIs_int i t
theorem mixKind_str (prog : Program) (w : World) (x : Str) (t : Tok) : (mixKind prog w).is (.inr x) (.str x t) = true := keyIs_str x t
end L2

namespace L2
open PySem PySem.Spec PyProof.Rows

/-- a value, without the heap -/
inductive V where
  | non | bl (b : Bool) | int (i : Int) | str (x : Str) | byt (b : Array UInt8) | flt (b : UInt64) | ref (a : Addr) | ty (n : String)
  deriving DecidableEq
def RelV : V → Value → Prop
  | .non, u => u = Value.none
  | .bl b, u => u = Value.bool b
  | .int i, u => ∃ t, u = Value.int i t
  | .str x, u => ∃ t, u = Value.str x t
  | .byt b, u => ∃ t, u = Value.bytes b t
  | .flt b, u => ∃ t, u = Value.float b t
  | .ref a, u => u = Value.ref a
  | .ty n, u => u = Value.type n
abbrev Vals : List V → List Value → Prop := Paired RelV
theorem Vals.length {xs : List V} {us : List Value} (r : Vals xs us) : xs.length = us.length := Paired.length r
theorem Vals.get : ∀ {xs : List V} {us : List Value} {i : Nat} {x : V}, Vals xs us → xs[i]? = some x → ∃ u, us[i]? = some u ∧ RelV x u
  | _, _, _, _, .nil, e => by simp at e
  | _, _, 0, _, .cons r _, e => by simp at e; subst e; exact ⟨_, rfl, r⟩
  | _, _, i + 1, x, .cons _ t, e => by
    obtain ⟨u, h1, h2⟩ := Vals.get (i := i) (x := x) t (by simpa using e)
    exact ⟨u, by simpa using h1, h2⟩
theorem Vals.set {x : V} {u : Value} (r : RelV x u) : ∀ {xs : List V} {us : List Value} (i : Nat), Vals xs us → Vals (xs.set i x) (us.set i u)
  | _, _, _, .nil => .nil
  | _, _, 0, .cons _ t => .cons r t
  | _, _, i + 1, .cons q t => .cons q (Vals.set r i t)
theorem Vals.append : ∀ {xs ys : List V} {us ws : List Value}, Vals xs us → Vals ys ws → Vals (xs ++ ys) (us ++ ws)
  | _, _, _, _, .nil, s => s
  | _, _, _, _, .cons r t, s => .cons r (Vals.append t s)
theorem Vals.take : ∀ {xs : List V} {us : List Value} (n : Nat), Vals xs us → Vals (xs.take n) (us.take n)
  | _, _, 0, _ => .nil
  | _, _, _ + 1, .nil => .nil
  | _, _, n + 1, .cons r t => .cons r (Vals.take n t)
theorem Vals.drop : ∀ {xs : List V} {us : List Value} (n : Nat), Vals xs us → Vals (xs.drop n) (us.drop n)
  | _, _, 0, r => r
  | _, _, _ + 1, .nil => .nil
  | _, _, n + 1, .cons _ t => Vals.drop n t
theorem Vals.none_of : ∀ {xs : List V} {us : List Value} {i : Nat}, Vals xs us → xs[i]? = none → us[i]? = none := fun {xs us i} r e => by
  have h1 := r.length
  have h2 : xs.length ≤ i := List.getElem?_eq_none_iff.mp e
  exact List.getElem?_eq_none_iff.mpr (by omega)
def RelO : Option V → Option Value → Prop
  | some v, some u => RelV v u
  | none, none => True
  | _, _ => False
def KV {κ : Type} : List (κ × V) → List (κ × Value) → Prop := Paired fun (p : κ × V) (q : κ × Value) => p.1 = q.1 ∧ RelV p.2 q.2
/-- a key of a dict (00_mix): an int or a text -/
def kV : Key → V
  | .inl i => .int i
  | .inr x => .str x
/-- what stands at a tracked address -/
inductive HO where
  /-- a list -/
  | lst (xs : List V)
  /-- a tuple (never changes) -/
  | tup (xs : List V)
  /-- a dict whose keys are ints and texts; one whose keys are tuples of ints and texts (the empty one is both) -/
  | dK (kvs : List (Key × V)) | dT (kvs : List (List Key × V))
  /-- a set of ints: its members, its size -/
  | set (S : Int → Bool) (n : Nat)
  /-- an instance of the class at C, its dict at dx, its attributes -/
  | ins (C dx : Addr) (fs : List (Str × V))
  /-- the dict of the instance at x -/
  | own (x : Addr)
  /-- the dict of an exception -/
  | xd (fs : List (Str × V))
  /-- a bound method, f of x -/
  | met (f x : Addr)
  /-- a range object lo, lo + 1, .. below hi -/
  | rng (lo hi : Int)
  /-- a thing that is known to the object (the script; a dict while a loop walks it): read, never written while it is so -/
  | frz (o : Obj) (u : HO)
  /-- a code object's table -/
  | tbl (ps : Array Value)
  /-- any other thing, by what is true of its one object (a def of one's own: SetO a S n := HO.ext fun h => ..) -/
  | ext (φ : Heap → Prop)
abbrev Hp := Addr → Option HO
def upd (H : Hp) (a : Addr) (o : HO) : Hp := fun b => if b = a then some o else H b
theorem upd_same {H : Hp} {a : Addr} {o : HO} : upd H a o a = some o := by unfold upd; rw [if_pos rfl]
theorem upd_ne {H : Hp} {a b : Addr} {o : HO} (h : b ≠ a) : upd H a o b = H b := by unfold upd; rw [if_neg h]
/-- two objects of different content stand apart -/
theorem ne_of {H : Hp} {a b : Addr} {o u : HO} (h : H a = some o) (h' : H b = some u) (d : o ≠ u) : a ≠ b := by
  intro e; subst e; rw [h] at h'; exact d (Option.some.inj h')
theorem ne_of_none {H : Hp} {a b : Addr} {o : HO} (h : H a = some o) (h' : H b = none) : a ≠ b := by
  intro e; subst e; rw [h] at h'; cases h'
section
variable (P : Program) (w : World)
def ObjOk (H : Hp) (h : Heap) (a : Addr) : HO → Prop
  | .lst xs => xs.length ≤ sizeLine ∧ ∃ (its : List Value) (n : Nat), Vals xs its ∧ h.get? a = some { cls := .type "list", data := .seq its.toArray n }
  | .tup xs => xs.length ≤ sizeLine ∧ ∃ its : List Value, Vals xs its ∧ IsTup h a its.toArray
  | .dK kvs => kvs.length ≤ sizeLine ∧ (a == sysModules) = false ∧ ∃ vs, KV kvs vs ∧ h.DictOf (mixKind P w) a vs
  | .dT kvs => kvs.length ≤ sizeLine ∧ (a == sysModules) = false ∧ ∃ xs : List (List Key × Addr × Value),
      Paired (fun (p : List Key × V) (q : List Key × Addr × Value) => p.1 = q.1 ∧ H q.2.1 = some (.tup (p.1.map kV)) ∧ RelV p.2 q.2.2) kvs xs ∧
      ∃ o es ep, h.get? a = some o ∧ o.ExactDict ∧ o.data = .dict es ep ∧ es.toList = xs.map (entryOfKey (tupleKind (mixKind P w))) ∧ (xs.map (·.1)).Nodup
  | .set S n => h.SetOf (intKind P w) a S n
  | .ins C dx fs => H dx = some (.own a) ∧ fs.length ≤ 1000 ∧ dx ≠ a ∧ h.get? a = some (PySem.W.instObj C dx) ∧
      ∃ mA, h.Ns1 dx mA ∧ (∀ f, RelO (fs.lookup f) (mA f)) ∧ PySem.Within mA (fs.map (·.1))
  | .own _ => ∃ o, h.get? a = some o
  | .xd fs => ∃ mA, h.Ns1 a mA ∧ ∀ f, RelO (fs.lookup f) (mA f)
  | .rng lo hi => ∃ t u v, h.get? a = some { cls := .type "range", data := .fields #[.int lo t, .int hi u, .int 1 v] }
  | .frz o u => h.get? a = some o ∧ ObjOk H h a u
  | .tbl ps => h.get? a = some { cls := .none, data := .fields ps }
  | .met f x => h.get? a = some (PySem.W.methodObj (.ref f) (.ref x))
  | .ext φ => φ h ∧ (∃ o, h.get? a = some o) ∧ ∀ h1 h2 : Heap, φ h1 → (∀ o, h1.get? a = some o → h2.get? a = some o) → φ h2
/-- the abstract heap is held -/
def HOk (H : Hp) (h : Heap) : Prop := ∀ a o, H a = some o → ObjOk P w H h a o
end

section
variable {P : Program} {w : World} {H H' : Hp} {h h' : Heap} {a : Addr} {o : HO}
theorem ObjOk.lt (x : ObjOk P w H h a o) : a < h.objs.size := by
  cases o with
  | lst xs => obtain ⟨_, _, _, _, e⟩ := x; exact Heap.lt_size e
  | tup xs => obtain ⟨_, _, _, p⟩ := x; exact p.lt
  | dK kvs => obtain ⟨_, _, _, _, o, _, _, e, _⟩ := x; exact Heap.lt_size e
  | dT kvs => obtain ⟨_, _, _, _, o, _, _, e, _⟩ := x; exact Heap.lt_size e
  | set S n => obtain ⟨o, _, _, _, e, _⟩ := x; exact Heap.lt_size e
  | ins C dx fs => obtain ⟨_, _, _, e, _⟩ := x; exact Heap.lt_size e
  | own y => obtain ⟨_, e⟩ := x; exact Heap.lt_size e
  | xd fs => obtain ⟨_, ⟨_, _, _, e, _⟩, _⟩ := x; exact Heap.lt_size e
  | rng lo hi => obtain ⟨_, _, _, e⟩ := x; exact Heap.lt_size e
  | frz ob u => obtain ⟨e, _⟩ := x; exact Heap.lt_size e
  | tbl ps => exact Heap.lt_size (show h.get? a = some _ from x)
  | met f y => exact Heap.lt_size (show h.get? a = some _ from x)
  | ext φ => obtain ⟨_, ⟨_, e⟩, _⟩ := x; exact Heap.lt_size e
theorem Paired.mapP {α β : Type} {F G : α → β → Prop} : ∀ {l₁ : List α} {l₂ : List β}, Paired F l₁ l₂ → (∀ a b, F a b → G a b) → Paired G l₁ l₂
  | _, _, .nil, _ => .nil
  | _, _, .cons r t, f => .cons (f _ _ r) (Paired.mapP t f)
/-- what an object's description leans on: its own object, its own dict, the tuples -/
theorem ObjOk.stay (x : ObjOk P w H h a o) (k : ∀ b u, (b = a ∨ H b = some (.own a)) → h.get? b = some u → h'.get? b = some u)
    (ho : ∀ b, H b = some (.own a) → H' b = some (.own a)) (ht : ∀ b xs, H b = some (.tup xs) → H' b = some (.tup xs)) : ObjOk P w H' h' a o := by
  induction o with
  | lst xs => obtain ⟨z, its, n, r, e⟩ := x; exact ⟨z, its, n, r, k _ _ (.inl rfl) e⟩
  | tup xs => obtain ⟨z, its, r, ob, e, c⟩ := x; exact ⟨z, its, r, ob, k _ _ (.inl rfl) e, c⟩
  | dK kvs => obtain ⟨z, y, vs, r, ob, es, ep, e, c⟩ := x; exact ⟨z, y, vs, r, ob, es, ep, k _ _ (.inl rfl) e, c⟩
  | dT kvs =>
    obtain ⟨z, y, xs, r, ob, es, ep, e, c⟩ := x
    exact ⟨z, y, xs, Paired.mapP r fun p q z => ⟨z.1, ht _ _ z.2.1, z.2.2⟩, ob, es, ep, k _ _ (.inl rfl) e, c⟩
  | set S n => obtain ⟨ob, es, ep, t, e, c⟩ := x; exact ⟨ob, es, ep, t, k _ _ (.inl rfl) e, c⟩
  | ins C dx fs =>
    obtain ⟨d, z, ne, e, mA, ⟨od, es, ep, e2, c⟩, r⟩ := x
    exact ⟨ho _ d, z, ne, k _ _ (.inl rfl) e, mA, ⟨od, es, ep, k _ _ (.inr d) e2, c⟩, r⟩
  | own y => obtain ⟨ob, e⟩ := x; exact ⟨ob, k _ _ (.inl rfl) e⟩
  | xd fs => obtain ⟨mA, ⟨od, es, ep, e, c⟩, r⟩ := x; exact ⟨mA, ⟨od, es, ep, k _ _ (.inl rfl) e, c⟩, r⟩
  | rng lo hi => obtain ⟨t, u, v, e⟩ := x; exact ⟨t, u, v, k _ _ (.inl rfl) e⟩
  | frz ob u ih => obtain ⟨e, q⟩ := x; exact ⟨k _ _ (.inl rfl) e, ih q⟩
  | tbl ps =>
    have e : h.get? a = some { cls := .none, data := .fields ps } := x
    show h'.get? a = some { cls := .none, data := .fields ps }
    exact k a _ (.inl rfl) e
  | met f y =>
    have e : h.get? a = some (PySem.W.methodObj (.ref f) (.ref y)) := x
    show h'.get? a = some (PySem.W.methodObj (.ref f) (.ref y))
    exact k a _ (.inl rfl) e
  | ext φ => obtain ⟨p, ⟨o, e⟩, st⟩ := x; exact ⟨st _ _ p fun o q => k _ _ (.inl rfl) q, ⟨o, k _ _ (.inl rfl) e⟩, st⟩
theorem HOk.lt (x : HOk P w H h) (e : H a = some o) : a < h.objs.size := (x a o e).lt
theorem HOk.fresh (x : HOk P w H h) (e : h.objs.size ≤ a) : H a = none := by
  cases q : H a with
  | none => rfl
  | some u => exact absurd (Nat.lt_of_lt_of_le (x.lt q) e) (Nat.lt_irrefl _)
/-- every object of the heap is kept -/
theorem HOk.kept (x : HOk P w H h) (k : ∀ b u, h.get? b = some u → h'.get? b = some u) : HOk P w H h' := fun a o e =>
  (x a o e).stay (fun b u _ q => k b u q) (fun _ q => q) fun _ _ q => q
/-- a new object is laid and tracked -/
theorem HOk.laid (x : HOk P w H h) (k : ∀ b u, h.get? b = some u → h'.get? b = some u) (hp : h.objs.size ≤ a) (new : ObjOk P w (upd H a o) h' a o) : HOk P w (upd H a o) h' := fun b u e => by
  have hn := x.fresh hp
  by_cases hb : b = a
  · subst hb; rw [upd_same] at e; cases e; exact new
  · rw [upd_ne hb] at e
    exact (x b u e).stay (fun c v _ q => k c v q) (fun c q => by rw [upd_ne (ne_of_none q hn)]; exact q) fun c xs q => by rw [upd_ne (ne_of_none q hn)]; exact q
end

/-- what may be read as u: it is u, or a known u -/
def Rd (H : Hp) (a : Addr) (u : HO) : Prop := H a = some u ∨ ∃ o, H a = some (.frz o u)
theorem Rd.of {H : Hp} {a : Addr} {u : HO} (h : H a = some u) : Rd H a u := .inl h
theorem Rd.ok {P : Program} {w : World} {H : Hp} {h : Heap} {a : Addr} {u : HO} (r : Rd H a u) (x : HOk P w H h) : ObjOk P w H h a u := by
  rcases r with r | ⟨o, r⟩
  · exact x a u r
  · obtain ⟨_, q⟩ := x a _ r
    exact q
/-- what may be written -/
def Mut : Option HO → Prop
  | some (.lst _) => True
  | some (.dK _) => True
  | some (.dT _) => True
  | some (.set _ _) => True
  | some (.ins _ _ _) => True
  | some (.ext _) => True
  | _ => False
section
variable {P : Program} {w : World} {H : Hp} {h h' : Heap} {x e : Addr} {o' : HO}
/-- the object at e is changed: x itself, or the dict of the instance x -/
theorem HOk.write (ok : HOk P w H h) (mu : Mut (H x)) (he : e = x ∨ H e = some (.own x)) (k : ∀ b u, b ≠ e → h.get? b = some u → h'.get? b = some u) (heo : ∃ u, h'.get? e = some u)
    (new : ObjOk P w (upd H x o') h' x o') : HOk P w (upd H x o') h' := fun b u q => by
  have nown : ∀ c y, H c = some (.own y) → c ≠ x := fun c y r z => by subst z; rw [r] at mu; exact mu
  have ntup : ∀ c xs, H c = some (.tup xs) → c ≠ x := fun c xs r z => by subst z; rw [r] at mu; exact mu
  by_cases hb : b = x
  · subst hb; rw [upd_same] at q; cases q; exact new
  · rw [upd_ne hb] at q
    by_cases hbe : b = e
    · have q' : H b = some (.own x) := by
        rcases he with z | z
        · exact absurd (hbe.trans z) hb
        · rw [hbe]; exact z
      rw [q] at q'; cases q'
      obtain ⟨v, hv⟩ := heo
      exact ⟨v, by rw [hbe]; exact hv⟩
    · refine (ok b u q).stay (fun c v hc r => k c v ?_ r) (fun c r => by rw [upd_ne (nown c b r)]; exact r) fun c xs r => by rw [upd_ne (ntup c xs r)]; exact r
      rcases hc with rfl | hc
      · exact hbe
      · rintro rfl
        rcases he with z | z
        · exact nown c b hc z
        · rw [hc] at z; cases z; exact hb rfl
end

/-! ### kept unless tracked; of the frames at fs (the callers') the slots may change (an exception that passes writes there); of the records at ex (iterators) nothing is said -/
structure Un (fs ex : List Addr) (H H' : Hp) (h h' : Heap) : Prop where
  keep : ∀ b o, h.get? b = some o → H b = none → b ∉ fs → b ∉ ex → h'.get? b = some o
  slot : ∀ b o, h.get? b = some o → H b = none → b ∈ fs → b ∉ ex → ∃ sl, h'.get? b = some { o with slots := sl }
  free : ∀ b o, h.get? b = some o → H b = none → b ∉ ex → H' b = none
  there : ∀ b o, h.get? b = some o → b ∉ ex → ∃ o', h'.get? b = some o'
  tups : ∀ b xs, H b = some (.tup xs) → H' b = some (.tup xs)
  frzs : ∀ b o u, H b = some (.frz o u) → H' b = some (.frz o u)
  tbls : ∀ b ps, H b = some (.tbl ps) → ∃ more, H' b = some (.tbl (ps ++ more))
section
variable {fs fs' ex ex' : List Addr} {H H1 H2 : Hp} {h h1 h2 h' : Heap} {a x e : Addr} {o : HO}
theorem Un.any (u : Un fs ex H H1 h h1) {b : Addr} {ob : Obj} (q : h.get? b = some ob) (n : H b = none) (hx : b ∉ ex) : ∃ sl, h1.get? b = some { ob with slots := sl } := by
  by_cases hb : b ∈ fs
  · exact u.slot b ob q n hb hx
  · exact ⟨ob.slots, u.keep b ob q n hb hx⟩
theorem Un.trans (a : Un fs ex H H1 h h1) (b : Un fs ex H1 H2 h1 h2) : Un fs ex H H2 h h2 where
  keep := fun c ob q n hc hx => b.keep c ob (a.keep c ob q n hc hx) (a.free c ob q n hx) hc hx
  slot := fun c ob q n hc hx => by
    obtain ⟨sl, e1⟩ := a.slot c ob q n hc hx
    obtain ⟨sl', e2⟩ := b.slot c _ e1 (a.free c ob q n hx) hc hx
    exact ⟨sl', e2⟩
  free := fun c ob q n hx => by
    obtain ⟨o', e1⟩ := a.there c ob q hx
    exact b.free c o' e1 (a.free c ob q n hx) hx
  there := fun c ob q hx => by
    obtain ⟨o', e1⟩ := a.there c ob q hx
    exact b.there c o' e1 hx
  tups := fun c xs q => b.tups c xs (a.tups c xs q)
  frzs := fun c ob xs q => b.frzs c ob xs (a.frzs c ob xs q)
  tbls := fun c ps q => by
    obtain ⟨m1, e1⟩ := a.tbls c ps q
    obtain ⟨m2, e2⟩ := b.tbls c _ e1
    exact ⟨m1 ++ m2, by rw [e2, Array.append_assoc]⟩
theorem Un.kept (k : ∀ b u, h.get? b = some u → h'.get? b = some u) : Un fs ex H H h h' :=
  ⟨fun b ob q _ _ _ => k b ob q, fun b ob q _ _ _ => ⟨ob.slots, k b ob q⟩, fun _ _ _ n _ => n, fun b ob q _ => ⟨ob, k b ob q⟩, fun _ _ q => q, fun _ _ _ q => q, fun _ ps q => ⟨#[], by rw [q]; simp⟩⟩
theorem Un.refl : Un fs ex H H h h := Un.kept fun _ _ q => q
theorem Un.laid (k : ∀ b u, h.get? b = some u → h'.get? b = some u) (hp : h.objs.size ≤ a) (hn : H a = none) : Un fs ex H (upd H a o) h h' where
  keep := fun b u q _ _ _ => k b u q
  slot := fun b u q _ _ _ => ⟨u.slots, k b u q⟩
  free := fun b u q n _ => by rw [upd_ne (Nat.ne_of_lt (Nat.lt_of_lt_of_le (Heap.lt_size q) hp))]; exact n
  there := fun b u q _ => ⟨u, k b u q⟩
  tups := fun b xs q => by rw [upd_ne (ne_of_none q hn)]; exact q
  frzs := fun b u xs q => by rw [upd_ne (ne_of_none q hn)]; exact q
  tbls := fun b ps q => ⟨#[], by rw [upd_ne (ne_of_none q hn), q]; simp⟩
theorem Un.write (mu : Mut (H x)) (he : e = x ∨ H e = some (.own x)) (k : ∀ b u, b ≠ e → h.get? b = some u → h'.get? b = some u) (heo : ∃ u, h'.get? e = some u) : Un fs ex H (upd H x o) h h' := by
  have hx : ∀ b, H b = none → b ≠ x := fun b n z => by subst z; rw [n] at mu; exact mu
  have hb : ∀ b, H b = none → b ≠ e := fun b n z => by
    subst z
    rcases he with r | r
    · exact hx b n r
    · rw [n] at r; cases r
  have hm : ∀ b u, H b = some u → ¬ Mut (some u) → b ≠ x := fun b u q nm z => by subst z; rw [q] at mu; exact nm mu
  refine ⟨fun b u q n _ _ => k b u (hb b n) q, fun b u q n _ _ => ⟨u.slots, k b u (hb b n) q⟩, fun b u q n _ => by rw [upd_ne (hx b n)]; exact n, fun b u q _ => ?_,
    fun b xs q => by rw [upd_ne (hm b _ q fun z => z)]; exact q, fun b u xs q => by rw [upd_ne (hm b _ q fun z => z)]; exact q, fun b ps q => ⟨#[], by rw [upd_ne (hm b _ q fun z => z), q]; simp⟩⟩
  by_cases hbe : b = e
  · subst hbe; exact heo
  · exact ⟨u, k b u hbe q⟩
theorem Un.mono (u : Un fs ex H H1 h h1) (hs : ∀ b ∈ fs, b ∈ fs') (hx : ∀ b ∈ ex, b ∈ ex') : Un fs' ex' H H1 h h1 :=
  ⟨fun b ob q n hb he => u.keep b ob q n (fun z => hb (hs b z)) fun z => he (hx b z), fun _ _ q n _ he => u.any q n fun z => he (hx _ z), fun b ob q n he => u.free b ob q n fun z => he (hx b z), fun b ob q he => u.there b ob q fun z => he (hx b z), u.tups, u.frzs, u.tbls⟩
end

/-! ### the heap without what is tracked -/
def trk (h : Heap) (H : Hp) : List Addr := (List.range h.objs.size).filter fun a => (H a).isSome
def hidT (h : Heap) (H : Hp) : Heap := PySem.W.hideAll h (trk h H)
theorem hidT_size (h : Heap) (H : Hp) : (hidT h H).objs.size = h.objs.size := PySem.W.hideAll_size _ _
theorem hidT_get {h : Heap} {H : Hp} {b : Addr} {o : Obj} (e : h.get? b = some o) (n : H b = none) : (hidT h H).get? b = some o :=
  PySem.W.hideAll_get _ e fun hm => by
    have q : (H b).isSome = true := (List.mem_filter.mp hm).2
    rw [n] at q; simp at q
theorem of_hidT {h : Heap} {H : Hp} {b : Addr} {o : Obj} (e : (hidT h H).get? b = some o) : h.get? b = some o ∧ H b = none := by
  have e' : h.get? b = some o := PySem.W.of_hideAll (trk h H) e
  refine ⟨e', ?_⟩
  cases q : H b with
  | none => rfl
  | some x =>
    have hm : b ∈ trk h H := List.mem_filter.mpr ⟨List.mem_range.mpr (Heap.lt_size e'), by simp [q]⟩
    have z : (hidT h H).get? b = none := PySem.W.hideAll_none (trk h H) hm
    rw [z] at e; cases e
/-! ### OpenK's ledger, filled with every new object but one -/
def allNews (g h : Heap) (L : Addr) : List (Addr × Obj) := (List.range h.objs.size).filterMap fun a => if a = L ∨ (g.get? a).isSome = true then none else (h.get? a).map fun o => (a, o)
def rest (g h : Heap) (L d : Addr) : List (Addr × Obj) := (allNews g h L).filter fun p => decide (p.1 ≠ d)
end L2

namespace L2
open PySem PySem.Spec PyProof.Rows

/-- the module's facts, over the base: the heap at the law's entry without what is tracked there -/
structure Mod (K : PySem.W.Frag) (mg : Str → Option Value) (base : Heap) : Prop where
  kin : K.In base
  glob : base.Ns mainGlobals mg
  blt : ∃ mb, base.Ns builtinsNs mb ∧ ∀ x : Str, x ≠ "__name__" → mb x = bootBuiltins x
  nolimit : base.NoLimit
/-- the context: a def's body (or a comprehension's block) running. base: fixed through the whole law; s₀, H₀: the entry; outer: the frames whose slots others may change (a def's callers); stack: all frames that run;
   ex: iterators that were made ahead of the entry and are walked here (a comprehension's); fn: the names whose cells were made at the entry (a def: all; a comprehension's block: its own); calm: not within an except suite; pn: pins that every state bears; xe: what is wanted of an exception that leaves the code -/
structure Cx where
  prog : Program
  w : World
  K : PySem.W.Frag
  mg : Str → Option Value
  base : Heap
  A : Around
  N : List Str
  s₀ : Shared
  H₀ : Hp
  env : Env
  outer : List Env
  stack : List Env
  ex : List Addr
  fn : Str → Bool
  calm : Bool
  pn : List (Addr × Obj)
  xe : Value → Shared → Prop
/-- the callers' frames -/
def frs (l : List Env) : List Addr := l.filterMap (·.frame)
abbrev Cx.fs (X : Cx) : List Addr := frs X.outer
def Vis (sc : Scope) (x : Str) : Prop := sc.names.lookup x = some .local ∨ sc.names.lookup x = some .cell ∨ sc.names.lookup x = some .free
def Loc (sc : Scope) (x : Str) : Prop := sc.names.lookup x = some .local ∨ sc.names.lookup x = some .cell
def Look (env : Env) (h : Heap) (m : Str → Option Value) (x : Str) (u : Value) : Prop :=
  (env.kindOf x = some .local ∧ m x = some u) ∨ ((env.kindOf x = some .cell ∨ env.kindOf x = some .free) ∧ ∃ c, env.cells.lookup x = some c ∧ h.IsCell c (some u))
structure Cx.Ok (X : Cx) : Prop where
  mod : Mod X.K X.mg X.base
  kind : X.env.scope.kind = .function
  glob : X.env.globals = mainGlobals
  blt : X.env.builtins = builtinsNs
  above : X.s₀.heap.objs.size ≤ X.env.locals
  inj : ∀ x y c, X.env.cells.lookup x = some c → X.env.cells.lookup y = some c → x = y
  has : ∀ x, (X.env.kindOf x = some .cell ∨ X.env.kindOf x = some .free) → ∃ c, X.env.cells.lookup x = some c
  cab : ∀ x c, X.fn x = true → X.env.cells.lookup x = some c → X.s₀.heap.objs.size ≤ c
  hd : X.calm = true → X.A.handled = none
  frames : X.A.frames = some X.stack
  stk : X.stack = X.outer ∨ (X.stack = X.env :: X.outer ∧ X.env.frame = some X.env.locals)
  exf : ∀ b ∈ X.ex, b ≠ X.env.locals ∧ ∀ x c, X.env.cells.lookup x = some c → c ≠ b
  bs : ∀ b o, X.base.get? b = some o → X.s₀.heap.get? b = some o ∧ X.H₀ b = none
  bsz : X.base.objs.size ≤ X.s₀.heap.objs.size
  noex : ∀ b o, X.base.get? b = some o → b ∉ X.ex
  exfs : ∀ b ∈ X.ex, b ∉ X.fs
  funs : X.s₀.heap.FunFrames X.base X.outer
  frf : ∀ b ∈ X.fs, X.H₀ b = none
structure Inv (X : Cx) (pins : List (Addr × Obj)) (σ : List (Option V)) (H : Hp) (s : Shared) : Prop where
  ok : X.Ok
  os : s.os = X.s₀.os
  bare : AllBare s.gens
  base : Un X.fs X.ex X.H₀ H X.s₀.heap s.heap
  loc : ∃ m, s.heap.Ns X.env.locals m ∧ ∀ (i : Nat) (x : Str) (v : V), X.N[i]? = some x → σ[i]? = some (some v) → Vis X.env.scope x → ∃ u, RelV v u ∧ Look X.env s.heap m x u
  cell : ∀ x c, X.env.cells.lookup x = some c → ∃ v, s.heap.IsCell c v
  free : H X.env.locals = none
  freeC : ∀ x c, X.env.cells.lookup x = some c → H c = none
  pin : ∀ p ∈ X.pn ++ pins, s.heap.get? p.1 = some p.2 ∧ H p.1 = none ∧ p.1 ≠ X.env.locals ∧ p.1 ∉ X.fs ∧ ∀ v, p.2.data ≠ .cell v
  hok : HOk X.prog X.w H s.heap
  len : σ.length = X.N.length
section
variable {X : Cx} {pins : List (Addr × Obj)} {σ : List (Option V)} {H H' : Hp} {s : Shared} {h' : Heap}

theorem Cx.Ok.nofr (ok : X.Ok) {b : Addr} {o : Obj} (e : X.base.get? b = some o) : b ∉ X.fs := fun hb => by
  have := (ok.funs.mem hb).1
  rw [e] at this; cases this
theorem Inv.bs (I : Inv X pins σ H s) : ∀ b o, X.base.get? b = some o → s.heap.get? b = some o ∧ H b = none := fun b o e =>
  ⟨I.base.keep b o (I.ok.bs b o e).1 (I.ok.bs b o e).2 (I.ok.nofr e) (I.ok.noex b o e), I.base.free b o (I.ok.bs b o e).1 (I.ok.bs b o e).2 (I.ok.noex b o e)⟩
theorem Inv.bk (I : Inv X pins σ H s) : ∀ b o, X.base.get? b = some o → s.heap.get? b = some o := fun b o e => (I.bs b o e).1
theorem Inv.mod (I : Inv X pins σ H s) : Mod X.K X.mg X.base := I.ok.mod
theorem Inv.kIn (I : Inv X pins σ H s) : X.K.In s.heap := I.ok.mod.kin.keeps I.bk
theorem Inv.nolimit (I : Inv X pins σ H s) : s.heap.NoLimit := I.ok.mod.nolimit.keeps I.bk
theorem Inv.lt (I : Inv X pins σ H s) : X.env.locals < s.heap.objs.size := let ⟨_, hn, _⟩ := I.loc; hn.lt
theorem Inv.sz (I : Inv X pins σ H s) : X.s₀.heap.objs.size ≤ s.heap.objs.size := Nat.le_trans I.ok.above (Nat.le_of_lt I.lt)
theorem Inv.nofs (I : Inv X pins σ H s) {a : Addr} (h : s.heap.objs.size ≤ a) : a ∉ X.fs := fun hb => by
  obtain ⟨_, o, ho, _⟩ := I.ok.funs.mem hb
  exact absurd (Nat.lt_of_lt_of_le (Heap.lt_size ho) (Nat.le_trans I.sz h)) (Nat.lt_irrefl _)
theorem Inv.cne (I : Inv X pins σ H s) : ∀ x c, X.env.cells.lookup x = some c → c ≠ X.env.locals := fun x c e z => by
  obtain ⟨v, o, ho, hd⟩ := I.cell x c e
  obtain ⟨m, ⟨o', es, ep, ho', hd', _⟩, _⟩ := I.loc
  rw [z, ho'] at ho; cases ho; rw [hd'] at hd; cases hd
theorem Inv.funs (I : Inv X pins σ H s) : s.heap.FunFrames X.base X.outer := by
  have all : ∀ (l : List Env), (∀ b ∈ frs l, b ∈ X.fs) → X.s₀.heap.FunFrames X.base l → s.heap.FunFrames X.base l := by
    intro l
    induction l with
    | nil => intro _ _; trivial
    | cons env r ih =>
      intro hs hl
      obtain ⟨hk, ⟨L, o, hf, hn, ho, hd⟩, hr⟩ := hl
      have hL : L ∈ X.fs := hs L (by unfold frs; rw [List.filterMap_cons, hf]; exact List.mem_cons_self)
      obtain ⟨sl, e⟩ := I.base.slot L o ho (I.ok.frf L hL) hL fun z => I.ok.exfs L z hL
      exact ⟨hk, ⟨L, _, hf, hn, e, hd⟩, ih (fun b hb => hs b (by unfold frs; rw [List.filterMap_cons, hf]; exact List.mem_cons_of_mem _ hb)) hr⟩
  exact all X.outer (fun _ hb => hb) I.ok.funs
/-- the frames that run, for a call -/
theorem Inv.stack (I : Inv X pins σ H s) : s.heap.FunFrames X.base X.stack := by
  rcases I.ok.stk with e | ⟨e, hf⟩
  · rw [e]; exact I.funs
  · rw [e]
    obtain ⟨m, hn, _⟩ := I.loc
    refine .cons (by rw [I.ok.kind]; decide) hf hn ?_ I.funs
    exact Heap.get?_none_of_le (Nat.le_trans I.ok.bsz I.ok.above)
theorem Inv.stkSub (I : Inv X pins σ H s) : ∀ b ∈ frs X.stack, b ∈ X.env.locals :: X.fs := fun b hb => by
  rcases I.ok.stk with e | ⟨e, hf⟩
  · rw [e] at hb; exact List.mem_cons_of_mem _ hb
  · rw [e] at hb
    unfold frs at hb
    rw [List.filterMap_cons, hf] at hb
    exact hb
theorem Inv.stkFree (I : Inv X pins σ H s) : ∀ b ∈ frs X.stack, H b = none := fun b hb => by
  rcases List.mem_cons.mp (I.stkSub b hb) with e | hb
  · rw [e]; exact I.free
  · obtain ⟨_, o, ho, _⟩ := I.ok.funs.mem hb
    exact I.base.free b o ho (I.ok.frf b hb) fun z => I.ok.exfs b z hb
/-- THE STEP: the untracked objects but the frame and the records at ch are kept (the callers' frames up to slots), the frame's map is kept, the new abstract heap is held -/
theorem Inv.step {g' : Array GenState} {t' : Nat} {d' : Drawn} {ch : List Addr} (I : Inv X pins σ H s)
    (hch : ∀ b ∈ ch, (b ∈ X.ex ∨ X.s₀.heap.objs.size ≤ b) ∧ b ≠ X.env.locals ∧ (∀ x c, X.env.cells.lookup x = some c → c ≠ b) ∧ ∀ p ∈ X.pn ++ pins, p.1 ≠ b)
    (keep : ∀ b o, b ≠ X.env.locals → b ∉ X.fs → b ∉ ch → s.heap.get? b = some o → H b = none → h'.get? b = some o)
    (slot : ∀ b o, b ≠ X.env.locals → b ∈ X.fs → b ∉ ch → s.heap.get? b = some o → H b = none → ∃ sl, h'.get? b = some { o with slots := sl }) (free : ∀ b o, b ∉ ch → s.heap.get? b = some o → H b = none → H' b = none)
    (there : ∀ b o, b ∉ ch → s.heap.get? b = some o → ∃ o', h'.get? b = some o')
    (tups : ∀ b xs, H b = some (.tup xs) → H' b = some (.tup xs)) (frzs : ∀ b o u, H b = some (.frz o u) → H' b = some (.frz o u)) (tbls : ∀ b ps, H b = some (.tbl ps) → ∃ more, H' b = some (.tbl (ps ++ more)))
    (ns : ∀ m, s.heap.Ns X.env.locals m → h'.Ns X.env.locals m) (hok : HOk X.prog X.w H' h') (hg : AllBare g') :
    Inv X pins σ H' { s with heap := h', gens := g', drawn := d', toks := t' } := by
  have neL : ∀ b o, X.s₀.heap.get? b = some o → b ≠ X.env.locals := fun b o e => Nat.ne_of_lt (Nat.lt_of_lt_of_le (Heap.lt_size e) I.ok.above)
  have neC : ∀ b o, X.s₀.heap.get? b = some o → b ∉ X.ex → b ∉ ch := fun b o e hx hb => by
    rcases (hch b hb).1 with z | z
    · exact hx z
    · exact absurd (Nat.lt_of_lt_of_le (Heap.lt_size e) z) (Nat.lt_irrefl _)
  have cellK : ∀ x c, X.env.cells.lookup x = some c → ∀ v, s.heap.IsCell c v → h'.IsCell c v := fun x c e v ⟨o, ho, hd⟩ => by
    have nch : c ∉ ch := fun z => (hch c z).2.2.1 x c e rfl
    by_cases hc : c ∈ X.fs
    · obtain ⟨sl, q⟩ := slot c o (I.cne x c e) hc nch ho (I.freeC x c e)
      exact ⟨_, q, hd⟩
    · exact ⟨o, keep c o (I.cne x c e) hc nch ho (I.freeC x c e), hd⟩
  refine ⟨I.ok, I.os, hg, ⟨fun b o e n hb hx => ?_, fun b o e n hb hx => ?_, fun b o e n hx => ?_, fun b o e hx => ?_, fun b xs e => tups b xs (I.base.tups b xs e), fun b o xs e => frzs b o xs (I.base.frzs b o xs e), fun b ps e => ?_⟩, ?_, fun x c e => ?_, ?_, fun x c e => ?_, fun p hp => ?_, hok, I.len⟩
  · exact keep b o (neL b o e) hb (neC b o e hx) (I.base.keep b o e n hb hx) (I.base.free b o e n hx)
  · obtain ⟨sl, e1⟩ := I.base.slot b o e n hb hx
    obtain ⟨sl', e2⟩ := slot b _ (neL b o e) hb (neC b o e hx) e1 (I.base.free b o e n hx)
    exact ⟨sl', e2⟩
  · obtain ⟨o', e1⟩ := I.base.there b o e hx
    exact free b o' (neC b o e hx) e1 (I.base.free b o e n hx)
  · obtain ⟨o', e1⟩ := I.base.there b o e hx
    exact there b o' (neC b o e hx) e1
  · obtain ⟨m1, e1⟩ := I.base.tbls b ps e
    obtain ⟨m2, e2⟩ := tbls b _ e1
    exact ⟨m1 ++ m2, by rw [e2, Array.append_assoc]⟩
  · obtain ⟨m, hn, hl⟩ := I.loc
    refine ⟨m, ns m hn, fun i x v e1 e2 e3 => ?_⟩
    obtain ⟨u, r, l⟩ := hl i x v e1 e2 e3
    refine ⟨u, r, ?_⟩
    rcases l with l | ⟨k, c, e, z⟩
    · exact .inl l
    · exact .inr ⟨k, c, e, cellK x c e _ z⟩
  · obtain ⟨v, z⟩ := I.cell x c e
    exact ⟨v, cellK x c e v z⟩
  · obtain ⟨m, ⟨o, _, _, ho, _⟩, _⟩ := I.loc
    exact free _ o (fun z => (hch _ z).2.1 rfl) ho I.free
  · obtain ⟨v, o, ho, hd⟩ := I.cell x c e
    exact free c o (fun z => (hch c z).2.2.1 x c e rfl) ho (I.freeC x c e)
  · obtain ⟨e, n, ne, nf, d⟩ := I.pin p hp
    have nch : p.1 ∉ ch := fun z => (hch p.1 z).2.2.2 p hp rfl
    exact ⟨keep p.1 p.2 ne nf nch e n, free p.1 p.2 nch e n, ne, nf, d⟩
/-- .. where the frame's own object is kept too -/
theorem Inv.un {t' : Nat} (I : Inv X pins σ H s) (u : Un X.fs [] H H' s.heap h') (hok : HOk X.prog X.w H' h') : Inv X pins σ H' { s with heap := h', toks := t' } := by
  obtain ⟨m, ⟨o, es, ep, ho, r⟩, _⟩ := id I.loc
  obtain ⟨sl, hL⟩ := u.any ho I.free (by simp)
  exact I.step (g' := s.gens) (d' := s.drawn) (ch := []) (fun _ z => nomatch z) (fun b o _ hb _ e n => u.keep b o e n hb (by simp)) (fun b o _ hb _ e n => u.slot b o e n hb (by simp)) (fun b o _ e n => u.free b o e n (by simp)) (fun b o _ e => u.there b o e (by simp)) u.tups u.frzs u.tbls (fun m' hm => by
    obtain ⟨o', es', ep', ho', r'⟩ := hm
    rw [ho] at ho'; cases ho'
    exact ⟨_, es', ep', hL, r'⟩) hok I.bare
/-- behind a call (or a comprehension's block): the slots of this frame may have changed too, the records at ch may have turned -/
theorem Inv.call {g' : Array GenState} {t' : Nat} {d' : Drawn} {ch : List Addr} (I : Inv X pins σ H s) (u : Un (frs X.stack) ch H H' s.heap h') (hok : HOk X.prog X.w H' h') (hg : AllBare g')
    (hch : ∀ b ∈ ch, (b ∈ X.ex ∨ X.s₀.heap.objs.size ≤ b) ∧ b ≠ X.env.locals ∧ (∀ x c, X.env.cells.lookup x = some c → c ≠ b) ∧ ∀ p ∈ X.pn ++ pins, p.1 ≠ b) :
    Inv X pins σ H' { s with heap := h', gens := g', drawn := d', toks := t' } := by
  obtain ⟨m, ⟨o, es, ep, ho, r⟩, _⟩ := id I.loc
  obtain ⟨sl, hL⟩ := u.any ho I.free fun z => (hch _ z).2.1 rfl
  exact I.step (ch := ch) hch (fun b o hL hb hc e n => u.keep b o e n (fun z => (List.mem_cons.mp (I.stkSub b z)).elim hL hb) hc) (fun b o _ _ hc e n => u.any e n hc) (fun b o hc e n => u.free b o e n hc) (fun b o hc e => u.there b o e hc) u.tups u.frzs u.tbls (fun m' hm => by
    obtain ⟨o', es', ep', ho', r'⟩ := hm
    rw [ho] at ho'; cases ho'
    exact ⟨_, es', ep', hL, r'⟩) hok hg
/-- an untracked record of ours (an iterator) has turned -/
theorem Inv.turned {t' : Nat} {it : Addr} (I : Inv X pins σ H s) (k : ∀ b o, b ≠ it → s.heap.get? b = some o → h'.get? b = some o) (hn : H it = none) (hL : it ≠ X.env.locals)
    (h1 : it ∈ X.ex ∨ X.s₀.heap.objs.size ≤ it) (h2 : ∀ x c, X.env.cells.lookup x = some c → c ≠ it) (h3 : ∀ p ∈ X.pn ++ pins, p.1 ≠ it) : Inv X pins σ H { s with heap := h', toks := t' } := by
  have nit : ∀ b u, H b = some u → b ≠ it := fun b u e z => by rw [z, hn] at e; cases e
  refine I.step (g' := s.gens) (d' := s.drawn) (ch := [it]) (fun b hb => ?_) (fun b o _ _ hc e _ => k b o (fun z => hc (by simp [z])) e) (fun b o _ _ hc e _ => ⟨o.slots, k b o (fun z => hc (by simp [z])) e⟩) (fun _ _ _ _ n => n)
    (fun b o hc e => ⟨o, k b o (fun z => hc (by simp [z])) e⟩) (fun _ _ e => e) (fun _ _ _ e => e) (fun b ps e => ⟨#[], by rw [e]; simp⟩) (fun m hm => ?_) (fun b u e => ?_) I.bare
  · have e : b = it := by simpa using hb
    subst e
    exact ⟨h1, hL, h2, h3⟩
  · obtain ⟨o, es, ep, ho, r⟩ := hm
    exact ⟨o, es, ep, k _ o (Ne.symm hL) ho, r⟩
  · refine (I.hok b u e).stay (fun c v hc q => k c v ?_ q) (fun _ q => q) fun _ _ q => q
    rcases hc with z | z
    · rw [z]; exact nit b u e
    · exact nit c _ z
theorem Inv.tok (I : Inv X pins σ H s) (t : Nat) : Inv X pins σ H { s with toks := t } := I.un (h' := s.heap) (t' := t) Un.refl I.hok
/-- all objects kept -/
theorem Inv.kept {t' : Nat} (I : Inv X pins σ H s) (k : ∀ b u, s.heap.get? b = some u → h'.get? b = some u) : Inv X pins σ H { s with heap := h', toks := t' } := I.un (Un.kept k) (I.hok.kept k)
/-- a new object laid and tracked -/
theorem Inv.laid {a : Addr} {o : HO} {t' : Nat} (I : Inv X pins σ H s) (k : ∀ b u, s.heap.get? b = some u → h'.get? b = some u) (hp : s.heap.objs.size ≤ a) (new : ObjOk X.prog X.w (upd H a o) h' a o) :
    Inv X pins σ (upd H a o) { s with heap := h', toks := t' } := I.un (Un.laid k hp (I.hok.fresh hp)) (I.hok.laid k hp new)
/-- an object written -/
theorem Inv.write {x e : Addr} {o : HO} {t' : Nat} (I : Inv X pins σ H s) (mu : Mut (H x)) (he : e = x ∨ H e = some (.own x)) (k : ∀ b u, b ≠ e → s.heap.get? b = some u → h'.get? b = some u) (heo : ∃ u, h'.get? e = some u)
    (new : ObjOk X.prog X.w (upd H x o) h' x o) : Inv X pins σ (upd H x o) { s with heap := h', toks := t' } := I.un (Un.write mu he k heo) (I.hok.write mu he k heo new)
theorem Inv.pins_of {pins' : List (Addr × Obj)} (I : Inv X pins σ H s) (h : ∀ p ∈ pins', s.heap.get? p.1 = some p.2 ∧ H p.1 = none ∧ p.1 ≠ X.env.locals ∧ p.1 ∉ X.fs ∧ ∀ v, p.2.data ≠ .cell v) : Inv X pins' σ H s :=
  ⟨I.ok, I.os, I.bare, I.base, I.loc, I.cell, I.free, I.freeC, fun p hp => (List.mem_append.mp hp).elim (fun z => I.pin p (List.mem_append_left _ z)) (h p), I.hok, I.len⟩
theorem nodup_ix {N : List Str} (hN : N.Nodup) {i j : Nat} {x : Str} (a : N[i]? = some x) (b : N[j]? = some x) : i = j := by
  obtain ⟨h1, e1⟩ := List.getElem?_eq_some_iff.mp a
  obtain ⟨h2, e2⟩ := List.getElem?_eq_some_iff.mp b
  exact (List.getElem_inj hN).mp (e1.trans e2.symm)
/-- a name is stored; what changed -/
theorem store_ok2 {M : Model} {A : Around} {E : Value → Shared → Prop} {i : Nat} {x : Str} {v : V} {u : Value} {Q : Unit → Shared → Prop} (I : Inv X pins σ H s) (hN : X.N.Nodup) (hi : X.N[i]? = some x) (hx : Loc X.env.scope x) (r : RelV v u)
    (h : ∀ s', Inv X pins (σ.set i (some v)) H s' → (∃ a, Heap.SameBut a s.heap s'.heap ∧ (a = X.env.locals ∨ X.env.cells.lookup x = some a)) → Q () s') (hf : X.fn x = true ∨ X.env.scope.names.lookup x = some .local := by first | exact .inl rfl | exact .inr rfl | assumption) : wpAny M A (storeName X.env x u) Q E s := by
  obtain ⟨m, hn, hl⟩ := id I.loc
  have hcls : (X.env.scope.kind == .class || (X.env.scope.kind == .module && X.env.locals != X.env.globals)) = false := by rw [I.ok.kind]; rfl
  have hiσ : i < σ.length := by rw [I.len]; exact (List.getElem?_eq_some_iff.mp hi).1
  have cne := I.cne
  have tracked : ∀ {a : Addr} {h' : Heap}, (∃ o, s.heap.get? a = some o ∧ H a = none) → Heap.SameBut a s.heap h' → HOk X.prog X.w H h' := fun {a h'} ha hs b ob e => by
    obtain ⟨_, _, hfree⟩ := ha
    refine (I.hok b ob e).stay (fun c w' hc q => (hs.2 c ?_).trans q) (fun _ q => q) fun _ _ q => q
    rintro rfl
    rcases hc with rfl | hc
    · rw [hfree] at e; cases e
    · rw [hfree] at hc; cases hc
  rcases hx with hk | hk
  · refine wpAny_storeName_local hk hn (fun h' hn' hs => ?_) hcls
    obtain ⟨oL, _, _, hoL, _⟩ := id hn
    refine h _ ⟨I.ok, I.os, I.bare, ⟨fun b o e n hb hx => ?_, fun b o e n hb hx => ?_, I.base.free, fun b o e hx => ?_, I.base.tups, I.base.frzs, I.base.tbls⟩, ⟨_, hn', fun j y v' e1 e2 e3 => ?_⟩, fun y c e => ?_, I.free, I.freeC, fun p hp => ?_, tracked ⟨oL, hoL, I.free⟩ hs, by simpa using I.len⟩ ⟨_, hs, .inl rfl⟩
    · exact (hs.2 b (Nat.ne_of_lt (Nat.lt_of_lt_of_le (Heap.lt_size e) I.ok.above))).trans (I.base.keep b o e n hb hx)
    · obtain ⟨sl, e1⟩ := I.base.slot b o e n hb hx
      exact ⟨sl, (hs.2 b (Nat.ne_of_lt (Nat.lt_of_lt_of_le (Heap.lt_size e) I.ok.above))).trans e1⟩
    · obtain ⟨o', e1⟩ := I.base.there b o e hx
      exact ⟨o', (hs.2 b (Nat.ne_of_lt (Nat.lt_of_lt_of_le (Heap.lt_size e) I.ok.above))).trans e1⟩
    · by_cases hj : j = i
      · subst hj
        rw [hi] at e1; cases e1
        rw [List.getElem?_set_self hiσ] at e2
        cases e2
        exact ⟨u, r, .inl ⟨hk, by simp⟩⟩
      · rw [List.getElem?_set_ne (Ne.symm hj)] at e2
        obtain ⟨u', r', q⟩ := hl j y v' e1 e2 e3
        refine ⟨u', r', ?_⟩
        rcases q with ⟨k, e⟩ | ⟨k, c, e, z⟩
        · refine .inl ⟨k, ?_⟩
          have : y ≠ x := fun e => hj (nodup_ix hN e1 (e ▸ hi))
          simp [this, e]
        · exact .inr ⟨k, c, e, z.sameBut hs (cne y c e)⟩
    · obtain ⟨w', z⟩ := I.cell y c e
      exact ⟨w', z.sameBut hs (cne y c e)⟩
    · obtain ⟨e, n, ne, nf, d⟩ := I.pin p hp
      exact ⟨(hs.2 p.1 ne).trans e, n, ne, nf, d⟩
  · have hfn : X.fn x = true := by
      rcases hf with z | z
      · exact z
      · rw [z] at hk; cases hk
    obtain ⟨c, hc⟩ := I.ok.has x (.inl hk)
    obtain ⟨w', z⟩ := I.cell x c hc
    refine wpAny_storeName_cell I.ok.kind hk hc z (fun h' hc' hs => ?_)
    obtain ⟨oc, hoc, hocd⟩ := id z
    refine h { s with heap := h' } ⟨I.ok, I.os, I.bare, ⟨fun b o e n hb hx => ?_, fun b o e n hb hx => ?_, I.base.free, fun b o e hx => ?_, I.base.tups, I.base.frzs, I.base.tbls⟩, ⟨m, hn.sameBut hs (Ne.symm (cne x c hc)), fun j y v' e1 e2 e3 => ?_⟩, fun y c' e => ?_, I.free, I.freeC, fun p hp => ?_, tracked ⟨oc, hoc, I.freeC x c hc⟩ hs, by simpa using I.len⟩ ⟨c, hs, .inr hc⟩
    · exact (hs.2 b (Nat.ne_of_lt (Nat.lt_of_lt_of_le (Heap.lt_size e) (I.ok.cab x c hfn hc)))).trans (I.base.keep b o e n hb hx)
    · obtain ⟨sl, e1⟩ := I.base.slot b o e n hb hx
      exact ⟨sl, (hs.2 b (Nat.ne_of_lt (Nat.lt_of_lt_of_le (Heap.lt_size e) (I.ok.cab x c hfn hc)))).trans e1⟩
    · obtain ⟨o', e1⟩ := I.base.there b o e hx
      exact ⟨o', (hs.2 b (Nat.ne_of_lt (Nat.lt_of_lt_of_le (Heap.lt_size e) (I.ok.cab x c hfn hc)))).trans e1⟩
    · by_cases hj : j = i
      · subst hj
        rw [hi] at e1; cases e1
        rw [List.getElem?_set_self hiσ] at e2
        cases e2
        exact ⟨u, r, .inr ⟨.inl hk, c, hc, hc'⟩⟩
      · rw [List.getElem?_set_ne (Ne.symm hj)] at e2
        obtain ⟨u', r', q⟩ := hl j y v' e1 e2 e3
        refine ⟨u', r', ?_⟩
        rcases q with q | ⟨k, c', e, z'⟩
        · exact .inl q
        · refine .inr ⟨k, c', e, z'.sameBut hs ?_⟩
          rintro rfl
          exact hj (nodup_ix hN e1 (I.ok.inj _ _ _ e hc ▸ hi))
    · by_cases hcc : c' = c
      · subst hcc; exact ⟨_, hc'⟩
      · obtain ⟨w2, z2⟩ := I.cell y c' e
        exact ⟨w2, z2.sameBut hs hcc⟩
    · obtain ⟨e, n, ne, nf, d⟩ := I.pin p hp
      refine ⟨(hs.2 p.1 ?_).trans e, n, ne, nf, d⟩
      intro q
      rw [q, hoc] at e
      have q' : oc = p.2 := Option.some.inj e
      exact d w' (by rw [← q']; exact hocd)
theorem store_ok {M : Model} {A : Around} {E : Value → Shared → Prop} {i : Nat} {x : Str} {v : V} {u : Value} {Q : Unit → Shared → Prop} (I : Inv X pins σ H s) (hN : X.N.Nodup) (hi : X.N[i]? = some x) (hx : Loc X.env.scope x) (r : RelV v u)
    (h : ∀ s', Inv X pins (σ.set i (some v)) H s' → Q () s') (hf : X.fn x = true ∨ X.env.scope.names.lookup x = some .local := by first | exact .inl rfl | exact .inr rfl | assumption) : wpAny M A (storeName X.env x u) Q E s :=
  store_ok2 I hN hi hx r (fun s' I' _ => h s' I') hf
/-- behind a call or a block, the state as it is -/
theorem Inv.call' {s' : Shared} {ch : List Addr} (I : Inv X pins σ H s) (ho : s'.os = s.os) (u : Un (frs X.stack) ch H H' s.heap s'.heap) (hok : HOk X.prog X.w H' s'.heap) (hg : AllBare s'.gens)
    (hch : ∀ b ∈ ch, (b ∈ X.ex ∨ X.s₀.heap.objs.size ≤ b) ∧ b ≠ X.env.locals ∧ (∀ x c, X.env.cells.lookup x = some c → c ≠ b) ∧ ∀ p ∈ X.pn ++ pins, p.1 ≠ b) : Inv X pins σ H' s' := by
  obtain ⟨h', g', d', t', o'⟩ := s'
  have e : o' = s.os := ho
  subst e
  exact I.call (g' := g') (t' := t') (d' := d') u hok hg hch
end

/-! ### the judgements -/
/-- an exception: its class, its own dict's address (where it has one), the abstract heap behind it -/
abbrev XK := Value → Option Addr → Hp → Prop
abbrev St := List (Option V)
abbrev VK := V → Hp → Prop
/-- an expression's reading; a test's; an argument list's -/
abbrev TE := St → Hp → VK → Prop
abbrev TT := St → Hp → (Bool → Hp → Prop) → Prop
abbrev TA := St → Hp → (List V → Hp → Prop) → Prop
/-- what is wanted behind a statement -/
structure Ends where
  nx : St → Hp → Prop
  rt : VK
  bk : St → Hp → Prop := fun _ _ => False
  ct : St → Hp → Prop := fun _ _ => False
abbrev TS := Ends → St → Hp → Prop
def EP (X : Cx) (pins : List (Addr × Obj)) (σ : St) (Q : VK) (u : Value) (s' : Shared) : Prop := ∃ v H', Inv X pins σ H' s' ∧ RelV v u ∧ Q v H'
def TP (X : Cx) (pins : List (Addr × Obj)) (σ : St) (Q : Bool → Hp → Prop) (b : Bool) (s' : Shared) : Prop := ∃ H', Inv X pins σ H' s' ∧ Q b H'
def AP (X : Cx) (pins : List (Addr × Obj)) (σ : St) (Q : List V → Hp → Prop) (us : List Value) (s' : Shared) : Prop := ∃ vs H', Inv X pins σ H' s' ∧ Vals vs us ∧ Q vs H'
def SP (X : Cx) (pins : List (Addr × Obj)) (D : Ends) (f : Flow) (s' : Shared) : Prop :=
  match f with
  | .next => ∃ σ' H', Inv X pins σ' H' s' ∧ D.nx σ' H'
  | .brk => ∃ σ' H', Inv X pins σ' H' s' ∧ D.bk σ' H'
  | .cont => ∃ σ' H', Inv X pins σ' H' s' ∧ D.ct σ' H'
  | .ret u => ∃ v σ' H', Inv X pins σ' H' s' ∧ RelV v u ∧ D.rt v H'
def PE (X : Cx) (e : Expr) (t : TE) : Prop :=
  ∀ (pins : List (Addr × Obj)) (s : Shared) (σ : St) (H : Hp) (Q : VK), Inv X pins σ H s → t σ H Q → wpAny (model X.prog X.w) X.A (eval e X.env) (EP X pins σ Q) X.xe s
def PT (X : Cx) (e : Expr) (t : TT) : Prop :=
  ∀ (pins : List (Addr × Obj)) (s : Shared) (σ : St) (H : Hp) (Q : Bool → Hp → Prop), Inv X pins σ H s → t σ H Q → wpAny (model X.prog X.w) X.A (isTrue e X.env (eval e X.env)) (TP X pins σ Q) X.xe s
/-- a test whatever its 'whole' is (and, or) -/
def PW (X : Cx) (e : Expr) (t : TT) : Prop :=
  ∀ (whole : Sem Value) (pins : List (Addr × Obj)) (s : Shared) (σ : St) (H : Hp) (Q : Bool → Hp → Prop), Inv X pins σ H s → t σ H Q → wpAny (model X.prog X.w) X.A (isTrue e X.env whole) (TP X pins σ Q) X.xe s
theorem PW.pt {X : Cx} {e : Expr} {t : TT} (h : PW X e t) : PT X e t := h _
/-- an argument list (no star), from the left -/
def PA (X : Cx) (es : List Expr) (t : TA) : Prop :=
  ∀ (pos : Pos) (pins : List (Addr × Obj)) (s : Shared) (σ : St) (H : Hp) (Q : List V → Hp → Prop), Inv X pins σ H s → t σ H Q → wpAny (model X.prog X.w) X.A (spliced (backTo pos (starEach es X.env))) (AP X pins σ Q) X.xe s
def PS (X : Cx) (st : Stmt) (t : TS) : Prop :=
  ∀ (pins : List (Addr × Obj)) (s : Shared) (σ : St) (H : Hp) (D : Ends), Inv X pins σ H s → t D σ H → wpAny (model X.prog X.w) X.A (exec st X.env) (SP X pins D) X.xe s
def PSs (X : Cx) (st : List Stmt) (t : TS) : Prop :=
  ∀ (pins : List (Addr × Obj)) (s : Shared) (σ : St) (H : Hp) (D : Ends), Inv X pins σ H s → t D σ H → wpAny (model X.prog X.w) X.A (execs st X.env) (SP X pins D) X.xe s
/-- weaken the end -/
theorem thn {α : Type} {t : Sem α} {Q Q' : α → Shared → Prop} {M : Model} {A : Around} {E : Value → Shared → Prop} {s : Shared} (h : wpAny M A t Q E s) (hQ : ∀ a s, Q a s → Q' a s) : wpAny M A t Q' E s := wpAny_mono h hQ fun _ _ x => x
end L2

namespace L2
open PySem PySem.Spec PyProof.Rows
section
variable {X : Cx}

/-! ### names and constants -/
def tVar (i : Nat) : TE := fun σ H Q => ∃ v, σ[i]? = some (some v) ∧ Q v H
def tC (v : V) : TE := fun _ H Q => Q v H
theorem pe_var {i : Nat} {x : Str} {pos : Pos} (hN : X.N[i]? = some x) (hv : Vis X.env.scope x) (hd : (x == ("__debug__" : Str)) = false := by decide) (hcd : (x == ("__classdict__" : Str)) = false := by decide) : PE X (.Name x pos) (tVar i) := by
  intro pins s σ H Q I h
  obtain ⟨v, e, h⟩ := h
  obtain ⟨m, hn, hl⟩ := I.loc
  obtain ⟨u, r, l⟩ := hl i x v hN e hv
  have fin : EP X pins σ Q u s := ⟨v, H, I, r, h⟩
  rcases l with ⟨hk, hm⟩ | ⟨hk, c, hc, hcell⟩
  · exact wpAny_Name (wpAny_loadName_local I.ok.kind hk hn hm fin) hd
  · rcases hk with hk | hk
    · exact wpAny_Name (wpAny_loadName_cell I.ok.kind hk hc hcell fin) hd
    · exact wpAny_Name (wpAny_loadName_free I.ok.kind hk hc hcell fin hcd) hd
theorem pe_int {i j pos} : PE X (.Constant (.int i) j pos) (tC (.int i)) := fun _ _ _ H _ I h => wpAny_Constant_int ⟨.int i, H, I.tok _, ⟨_, rfl⟩, h⟩
theorem pe_bl {b j pos} : PE X (.Constant (.bool b) j pos) (tC (.bl b)) := fun _ _ _ H _ I h => Constant_bool ⟨.bl b, H, I, rfl, h⟩
theorem pe_str {x j pos} : PE X (.Constant (.str x) j pos) (tC (.str x)) := fun _ _ _ H _ I h => Calls.Constant_str ⟨.str x, H, I.tok _, ⟨_, rfl⟩, h⟩
/-- a global name of the def -/
def Gl (X : Cx) (x : Str) : Prop := X.env.kindOf x = some .globalImplicit
theorem ld_glob {E : Value → Shared → Prop} {pins : List (Addr × Obj)} {s : Shared} {σ : St} {H : Hp} {x : Str} {u : Value} {pos : Pos} {Q : Value → Shared → Prop} (I : Inv X pins σ H s) (hg : Gl X x) (hm : X.mg x = some u) (h : Q u s)
    (hd : (x == ("__debug__" : Str)) = false := by decide) : wpAny (model X.prog X.w) X.A (eval (.Name x pos) X.env) Q E s :=
  Calls.Name_function_global I.ok.kind hg (Calls.loadGlobal_global (by rw [I.ok.glob]; exact I.mod.glob.keeps I.bk) hm h) hd
theorem ld_blt {E : Value → Shared → Prop} {pins : List (Addr × Obj)} {s : Shared} {σ : St} {H : Hp} {x : Str} {u : Value} {pos : Pos} {Q : Value → Shared → Prop} (I : Inv X pins σ H s) (hg : Gl X x) (hm : X.mg x = none) (hv : bootBuiltins x = some u) (h : Q u s)
    (hn : x ≠ "__name__" := by decide) (hd : (x == ("__debug__" : Str)) = false := by decide) : wpAny (model X.prog X.w) X.A (eval (.Name x pos) X.env) Q E s := by
  obtain ⟨mb, h1, h2⟩ := I.mod.blt
  exact Calls.Name_function_global I.ok.kind hg (Calls.loadGlobal_builtin (by rw [I.ok.glob]; exact I.mod.glob.keeps I.bk) hm (by rw [I.ok.blt]; exact h1.keeps I.bk) ((h2 x hn).trans hv) h) hd
/-- a module's constant, a class, a function, as a value -/
theorem pe_glob {x : Str} {v : V} {u : Value} {pos : Pos} (hg : Gl X x) (hm : X.mg x = some u) (r : RelV v u) (hd : (x == ("__debug__" : Str)) = false := by decide) : PE X (.Name x pos) (tC v) :=
  fun _ _ _ H _ I h => ld_glob I hg hm ⟨v, H, I, r, h⟩ hd
theorem pe_bltn {x : Str} {v : V} {u : Value} {pos : Pos} (hg : Gl X x) (hm : X.mg x = none) (hv : bootBuiltins x = some u) (r : RelV v u) (hn : x ≠ "__name__" := by decide) (hd : (x == ("__debug__" : Str)) = false := by decide) : PE X (.Name x pos) (tC v) :=
  fun _ _ _ H _ I h => ld_blt I hg hm hv ⟨v, H, I, r, h⟩ hn hd
/-! ### arithmetic -/
variable {a b : Expr} {ta tb : TE} {pos : Pos}
/-! ### comparisons -/
def PC (X : Cx) (op : CmpOp) (a b : Expr) (t : TE) : Prop :=
  ∀ (pins : List (Addr × Obj)) (s : Shared) (σ : St) (H : Hp) (Q : VK), Inv X pins σ H s → t σ H Q →
    wpAny (model X.prog X.w) X.A (eval a X.env) (fun v s₁ => wpAny (model X.prog X.w) X.A (eval b X.env) (fun u s₂ => wpAny (model X.prog X.w) X.A (compareOp op v u) (EP X pins σ Q) X.xe s₂) X.xe s₁) X.xe s
theorem nobehind (b : Expr) {op : CmpOp} (h : op ≠ .In) (h2 : op ≠ .NotIn) : behindInMarks op b = false := by
  have e1 : (op == CmpOp.In) = false := by cases op <;> first | rfl | exact absurd rfl h
  have e2 : (op == CmpOp.NotIn) = false := by cases op <;> first | rfl | exact absurd rfl h2
  cases b <;> simp [behindInMarks, e1, e2]
def tNotN (ta : TE) : TE := fun σ H Q => ta σ H fun x H1 => Q (.bl (!decide (x = .non))) H1
theorem RelV.none_iff {x : V} {v : Value} (r : RelV x v) : (v == Value.none) = decide (x = .non) := by
  cases x with
  | non => cases r; rfl
  | bl _ => cases r; rfl
  | int _ => obtain ⟨t, rfl⟩ := r; rfl
  | str _ => obtain ⟨t, rfl⟩ := r; rfl
  | byt _ => obtain ⟨t, rfl⟩ := r; rfl
  | flt _ => obtain ⟨t, rfl⟩ := r; rfl
  | ref _ => cases r; rfl
  | ty _ => cases r; rfl
theorem pc_notN {j pos'} (ha : PE X a ta) : PC X .IsNot a (.Constant .none j pos') (tNotN ta) := by
  intro pins s σ H Q I h
  refine thn (ha pins s σ H _ I h) fun v s1 ⟨x, H1, I1, r1, q1⟩ => ?_
  exact Constant_none (isnot_none_gen ⟨.bl _, H1, I1, by rw [r1.none_iff]; rfl, q1⟩)
/-- a comparison as a value, as a test -/
def tB (t : TE) : TT := fun σ H Q => t σ H fun x H1 => ∃ c, x = .bl c ∧ Q c H1
theorem pt_cmp {op : CmpOp} {t : TE} (h : PC X op a b t) (h1 : behindInMarks op b = false := by first | exact nobehind _ (by decide) (by decide) | rfl) : PT X (.Compare a [op] [b] pos) (tB t) := by
  intro pins s σ H Q I hw
  refine wpAny_isTrue_Compare1 (thn (h pins s σ H _ I hw) fun v s1 h1 => thn h1 fun u s2 h2 => thn h2 fun c s3 ⟨x, H1, I1, r1, q1⟩ => ?_) h1
  obtain ⟨d, rfl, q⟩ := q1
  cases r1
  exact wpAny_truthy_bool ⟨H1, I1, q⟩
/-- an expression whose value is a bool, as a test -/
theorem pt_val {e : Expr} {t : TE} (h : PE X e t) (he : ∀ whole, isTrue e X.env whole = (do let v ← whole; standAt e.pos; holding [v] (truthy v)) := by intro _; rfl) : PT X e (tB t) := by
  intro pins s σ H Q I hw
  refine isTrue_plain (thn (h pins s σ H _ I hw) fun v s1 ⟨x, H1, I1, r1, q1⟩ => ?_) (he _)
  obtain ⟨d, rfl, q⟩ := q1
  cases r1
  exact wpAny_truthy_bool ⟨H1, I1, q⟩
/-! ### and, or, not -/
variable {tA tB' : TT} {rest : List Expr}
def tOr (t u : TT) : TT := fun σ H Q => t σ H fun c H1 => if c = true then Q true H1 else u σ H1 Q
def tNot (t : TT) : TT := fun σ H Q => t σ H fun c H1 => Q (!c) H1
theorem pw_or1 (ha : PT X a tA) : PW X (.BoolOp .Or [a] pos) tA := by
  intro wh pins s σ H Q I h
  refine isTrue_or (thn (ha pins s σ H Q I h) fun c s1 e => ?_)
  cases c with
  | false => exact isTrue_or_nil e
  | true => exact e
theorem pw_or (ha : PT X a tA) (hb : PW X (.BoolOp .Or (b :: rest) pos) tB') : PW X (.BoolOp .Or (a :: b :: rest) pos) (tOr tA tB') := by
  intro wh pins s σ H Q I h
  refine isTrue_or (thn (ha pins s σ H _ I h) fun c s1 ⟨H1, I1, q1⟩ => ?_)
  cases c with
  | true => exact ⟨H1, I1, q1⟩
  | false => exact hb wh pins s1 σ H1 Q I1 q1
theorem pt_not (ha : PT X a tA) : PT X (.UnaryOp .Not a pos) (tNot tA) := by
  intro pins s σ H Q I h
  exact isTrue_not (ha pins s σ H (fun c H1 => Q (!c) H1) I h)
/-- .. as values (bools) -/
def tAndV (ta tb : TE) : TE := fun σ H Q => ta σ H fun x H1 => ∃ c, x = .bl c ∧ if c = true then tb σ H1 Q else Q (.bl false) H1
def tOrV (ta tb : TE) : TE := fun σ H Q => ta σ H fun x H1 => ∃ c, x = .bl c ∧ if c = true then Q (.bl true) H1 else tb σ H1 Q
theorem pe_one {op} {t : TE} (h : PE X a t) : PE X (.BoolOp op [a] pos) t := fun pins s σ H Q I hw => BoolOp_one (h pins s σ H Q I hw)
theorem pe_and (ha : PE X a ta) (hb : PE X (.BoolOp .And (b :: rest) pos) tb) : PE X (.BoolOp .And (a :: b :: rest) pos) (tAndV ta tb) := by
  intro pins s σ H Q I h
  refine BoolOp_and (thn (ha pins s σ H _ I h) fun v s1 ⟨x, H1, I1, r1, q1⟩ => ?_)
  obtain ⟨c, rfl, q1⟩ := q1
  cases r1
  refine wpAny_truthy_bool ?_
  cases c with
  | true => exact hb pins s1 σ H1 Q I1 q1
  | false => exact ⟨.bl false, H1, I1, rfl, q1⟩
theorem pe_or (ha : PE X a ta) (hb : PE X (.BoolOp .Or (b :: rest) pos) tb) : PE X (.BoolOp .Or (a :: b :: rest) pos) (tOrV ta tb) := by
  intro pins s σ H Q I h
  refine BoolOp_or (thn (ha pins s σ H _ I h) fun v s1 ⟨x, H1, I1, r1, q1⟩ => ?_)
  obtain ⟨c, rfl, q1⟩ := q1
  cases r1
  refine wpAny_truthy_bool ?_
  cases c with
  | false => exact hb pins s1 σ H1 Q I1 q1
  | true => exact ⟨.bl true, H1, I1, rfl, q1⟩
end
end L2

namespace L2
open PySem PySem.Spec PyProof.Rows

/-! ### a list, a tuple that is read: tracked, frozen, or an object of the module -/
def SqL (K : PySem.W.Frag) (H : Hp) (a : Addr) (xs : List V) : Prop :=
  Rd H a (.lst xs) ∨
    ∃ (o : Obj) (its : Array Value) (n : Nat), K.lookup a = some o ∧ o.cls = .type "list" ∧ o.dict = none ∧ o.data = .seq its n ∧ its.size ≤ sizeLine ∧ Vals xs its.toList
def SqT (K : PySem.W.Frag) (H : Hp) (a : Addr) (xs : List V) : Prop :=
  Rd H a (.tup xs) ∨
    ∃ (o : Obj) (its : Array Value) (n : Nat), K.lookup a = some o ∧ o.cls = .type "tuple" ∧ o.data = .seq its n ∧ its.size ≤ sizeLine ∧ Vals xs its.toList
def absV : Value → Option V
  | .none => some .non
  | .bool b => some (.bl b)
  | .int i _ => some (.int i)
  | .str x _ => some (.str x)
  | .bytes b _ => some (.byt b)
  | .float b _ => some (.flt b)
  | .ref a => some (.ref a)
  | .type n => some (.ty n)
  | _ => none
theorem RelV.abs {x : V} {u : Value} (r : RelV x u) : absV u = some x := by
  cases x with
  | non => cases r; rfl
  | bl _ => cases r; rfl
  | int _ => obtain ⟨t, rfl⟩ := r; rfl
  | str _ => obtain ⟨t, rfl⟩ := r; rfl
  | byt _ => obtain ⟨t, rfl⟩ := r; rfl
  | flt _ => obtain ⟨t, rfl⟩ := r; rfl
  | ref _ => cases r; rfl
  | ty _ => cases r; rfl
theorem RelV.inj {x y : V} {u : Value} (r : RelV x u) (q : RelV y u) : x = y := Option.some.inj (r.abs.symm.trans q.abs)
theorem Vals.inj : ∀ {xs ys : List V} {us : List Value}, Vals xs us → Vals ys us → xs = ys
  | _, _, _, .nil, .nil => rfl
  | _, _, _, .cons r t, .cons r' t' => by rw [r.inj r', Vals.inj t t']
section
variable {X : Cx} {pins : List (Addr × Obj)} {σ : St} {H : Hp} {s : Shared} {a : Addr} {xs ys : List V}
theorem SqL.of {K : PySem.W.Frag} (h : H a = some (.lst xs)) : SqL K H a xs := .inl (.inl h)
theorem SqT.of {K : PySem.W.Frag} (h : H a = some (.tup xs)) : SqT K H a xs := .inl (.inl h)
theorem Inv.list (I : Inv X pins σ H s) (h : SqL X.K H a xs) : ∃ its : List Value, Vals xs its ∧ PlainL s.heap a its.toArray ∧ xs.length ≤ sizeLine := by
  rcases h with h | ⟨o, its, n, hk, hc, hd, hs, hz, r⟩
  · obtain ⟨z, its, n, r, e⟩ := h.ok I.hok
    exact ⟨its, r, ⟨_, n, e, rfl, rfl, rfl⟩, z⟩
  · refine ⟨its.toList, r, ⟨o, n, I.kIn a o hk, hc, hd, by simpa using hs⟩, ?_⟩
    have e := r.length
    simp only [Array.length_toList] at e
    omega
theorem Inv.tuple (I : Inv X pins σ H s) (h : SqT X.K H a xs) : ∃ its : List Value, Vals xs its ∧ IsTup s.heap a its.toArray ∧ xs.length ≤ sizeLine := by
  rcases h with h | ⟨o, its, n, hk, hc, hs, hz, r⟩
  · obtain ⟨z, its, r, p⟩ := h.ok I.hok
    exact ⟨its, r, p, z⟩
  · refine ⟨its.toList, r, ⟨o, I.kIn a o hk, hc, n, by simpa using hs⟩, ?_⟩
    have e := r.length
    simp only [Array.length_toList] at e
    omega
theorem Inv.list_inj (I : Inv X pins σ H s) (h : SqL X.K H a xs) (h' : SqL X.K H a ys) : xs = ys := by
  obtain ⟨its, r, ⟨o, n, e, _, _, d⟩, _⟩ := I.list h
  obtain ⟨its', r', ⟨o', n', e', _, _, d'⟩, _⟩ := I.list h'
  rw [e] at e'; cases e'
  rw [d] at d'
  injection d' with d1 _
  have : its = its' := by simpa using congrArg Array.toList d1
  subst this
  exact r.inj r'
theorem Inv.tuple_inj (I : Inv X pins σ H s) (h : SqT X.K H a xs) (h' : SqT X.K H a ys) : xs = ys := by
  obtain ⟨its, r, ⟨o, e, _, n, d⟩, _⟩ := I.tuple h
  obtain ⟨its', r', ⟨o', e', _, n', d'⟩, _⟩ := I.tuple h'
  rw [e] at e'; cases e'
  rw [d] at d'
  injection d' with d1 _
  have : its = its' := by simpa using congrArg Array.toList d1
  subst this
  exact r.inj r'
end

/-! ### another wish about exceptions -/
abbrev Cx.wish (X : Cx) (E : Value → Shared → Prop) : Cx := { X with xe := E }
/-- no exception leaves -/
abbrev Cx.nox (X : Cx) : Cx := X.wish fun _ _ => False
theorem Cx.Ok.wish {X : Cx} (ok : X.Ok) (E : Value → Shared → Prop) : (X.wish E).Ok :=
  ⟨ok.mod, ok.kind, ok.glob, ok.blt, ok.above, ok.inj, ok.has, ok.cab, ok.hd, ok.frames, ok.stk, ok.exf, ok.bs, ok.bsz, ok.noex, ok.exfs, ok.funs, ok.frf⟩
theorem Cx.Ok.unwish {X : Cx} {E : Value → Shared → Prop} (ok : (X.wish E).Ok) : X.Ok :=
  ⟨ok.mod, ok.kind, ok.glob, ok.blt, ok.above, ok.inj, ok.has, ok.cab, ok.hd, ok.frames, ok.stk, ok.exf, ok.bs, ok.bsz, ok.noex, ok.exfs, ok.funs, ok.frf⟩
section
variable {X : Cx} {pins : List (Addr × Obj)} {σ : St} {H : Hp} {s : Shared} {E : Value → Shared → Prop}
theorem Inv.wish (I : Inv X pins σ H s) (E : Value → Shared → Prop) : Inv (X.wish E) pins σ H s := ⟨I.ok.wish E, I.os, I.bare, I.base, I.loc, I.cell, I.free, I.freeC, I.pin, I.hok, I.len⟩
theorem Inv.unwish (I : Inv (X.wish E) pins σ H s) : Inv X pins σ H s := ⟨I.ok.unwish, I.os, I.bare, I.base, I.loc, I.cell, I.free, I.freeC, I.pin, I.hok, I.len⟩
theorem SP.unwish {D : Ends} {f : Flow} {s' : Shared} (h : SP (X.wish E) pins D f s') : SP X pins D f s' := by
  cases f with
  | next => obtain ⟨σ', H', I, q⟩ := h; exact ⟨σ', H', I.unwish, q⟩
  | brk => obtain ⟨σ', H', I, q⟩ := h; exact ⟨σ', H', I.unwish, q⟩
  | cont => obtain ⟨σ', H', I, q⟩ := h; exact ⟨σ', H', I.unwish, q⟩
  | ret u => obtain ⟨v, σ', H', I, r, q⟩ := h; exact ⟨v, σ', H', I.unwish, r, q⟩
theorem PE.nox {e : Expr} {t : TE} (h : PE X.nox e t) : PE X e t := fun pins s σ H Q I hw =>
  wpAny_mono (h pins s σ H Q (I.wish _) hw) (fun _ _ ⟨v, H', I', r, q⟩ => ⟨v, H', I'.unwish, r, q⟩) fun _ _ z => False.elim z
theorem PT.nox {e : Expr} {t : TT} (h : PT X.nox e t) : PT X e t := fun pins s σ H Q I hw =>
  wpAny_mono (h pins s σ H Q (I.wish _) hw) (fun _ _ ⟨H', I', q⟩ => ⟨H', I'.unwish, q⟩) fun _ _ z => False.elim z
theorem PSs.nox {st : List Stmt} {t : TS} (h : PSs X.nox st t) : PSs X st t := fun pins s σ H D I hw =>
  wpAny_mono (h pins s σ H D (I.wish _) hw) (fun _ _ q => q.unwish) fun _ _ z => False.elim z
end

/-! ### blocks and small statements -/
section
variable {X : Cx} {st : Stmt} {rest : List Stmt} {t u : TS} {e : Expr} {te : TE} {pos : Pos}
def tNext : TS := fun D σ H => D.nx σ H
def tSeq (t u : TS) : TS := fun D σ H => t { D with nx := u D } σ H
theorem pss_nil : PSs X [] tNext := fun _ _ σ H _ I h => wpAny_execs_nil ⟨σ, H, I, h⟩
theorem pss_cons (h1 : PS X st t) (h2 : PSs X rest u) : PSs X (st :: rest) (tSeq t u) := by
  intro pins s σ H D I h
  refine wpAny_execs_cons (thn (h1 pins s σ H { D with nx := u D } I h) fun f s1 q => ?_)
  cases f with
  | next =>
    obtain ⟨σ', H', I', q⟩ := q
    exact h2 pins s1 σ' H' D I' q
  | ret v => exact q
  | brk => exact q
  | cont => exact q
theorem pss_one (h1 : PS X st t) : PSs X [st] t := by
  intro pins s σ H D I h
  refine wpAny_execs_cons (thn (h1 pins s σ H D I h) fun f s1 q => ?_)
  cases f with
  | next => exact wpAny_execs_nil q
  | ret v => exact q
  | brk => exact q
  | cont => exact q
/-- in a def's body nothing is shown -/
theorem Inv.quiet {pins : List (Addr × Obj)} {σ : St} {H : Hp} {s : Shared} (I : Inv X pins σ H s) : interactive X.env = false := by simp [interactive, I.ok.kind]
/-- an expression whose value is dropped -/
def tDrop (te : TE) : TS := fun D σ H => te σ H fun _ H1 => D.nx σ H1
theorem ps_expr (he : PE X e te) (hs : swapsWith e none pos.line X.env = pure false := by rfl) : PS X (.Expr e pos) (tDrop te) := by
  intro pins s σ H D I h
  exact wpAny_Expr_any (thn (he pins s σ H _ I h) fun v s1 ⟨x, H1, I1, r1, q1⟩ => ⟨σ, H1, I1, q1⟩) I.quiet hs
def tRet (te : TE) : TS := fun D σ H => te σ H D.rt
theorem ps_ret (he : PE X e te) : PS X (.Return (some e) pos) (tRet te) := by
  intro pins s σ H D I h
  exact wpAny_Return_some (thn (he pins s σ H _ I h) fun v s1 ⟨x, H1, I1, r1, q1⟩ => ⟨x, σ, H1, I1, r1, q1⟩)
def tIfS (c : TT) (t u : TS) : TS := fun D σ H => c σ H fun b H1 => if b = true then t D σ H1 else u D σ H1
theorem ps_if {c : Expr} {a b : List Stmt} {tc : TT} (hc : PT X c tc) (ha : PSs X a t) (hb : PSs X b u) : PS X (.If c a b pos) (tIfS tc t u) := by
  intro pins s σ H D I h
  refine wpAny_If (thn (hc pins s σ H _ I h) fun d s1 ⟨H1, I1, q1⟩ => ?_)
  cases d with
  | true => exact ha pins s1 σ H1 D I1 q1
  | false => exact hb pins s1 σ H1 D I1 q1
/-- code that the proof never comes to -/
def tNever : TS := fun _ _ _ => False
theorem ps_never : PS X st tNever := fun _ _ _ _ _ _ h => h.elim
theorem pss_never {sts : List Stmt} : PSs X sts tNever := fun _ _ _ _ _ _ h => h.elim
end

/-! ### targets -/
abbrev TG := V → St → Hp → (St → Hp → Prop) → Prop
def PG (X : Cx) (target : Expr) (t : TG) : Prop :=
  ∀ (pins : List (Addr × Obj)) (s : Shared) (σ : St) (H : Hp) (v : V) (u : Value) (Q : St → Hp → Prop), Inv X pins σ H s → RelV v u → t v σ H Q →
    wpAny (model X.prog X.w) X.A (assign target X.env u) (fun _ s' => ∃ σ' H', Inv X pins σ' H' s' ∧ Q σ' H') X.xe s
section
variable {X : Cx} {pos : Pos}
def gName (i : Nat) : TG := fun v σ H Q => Q (σ.set i (some v)) H
theorem pg_name {i : Nat} {x : Str} (hN : X.N.Nodup) (hi : X.N[i]? = some x) (hx : Loc X.env.scope x) (hf : X.fn x = true ∨ X.env.scope.names.lookup x = some .local := by first | exact .inl rfl | exact .inr rfl | assumption) : PG X (.Name x pos) (gName i) := by
  intro pins s σ H v u Q I r h
  exact wpAny_assign_Name (store_ok I hN hi hx r (fun s' I' => ⟨_, H, I', h⟩) hf)
/-- target = value -/
def tAsg (te : TE) (g : TG) : TS := fun D σ H => te σ H fun x H1 => g x σ H1 D.nx
/-- name = value -/
theorem ps_set {i : Nat} {x : Str} {e : Expr} {te : TE} {pos' : Pos} (hN : X.N.Nodup) (hi : X.N[i]? = some x) (hx : Loc X.env.scope x) (he : PE X e te) (hs : swapsWith e (some (.Name x pos')) pos.line X.env = pure false := by rfl) (hf : X.fn x = true ∨ X.env.scope.names.lookup x = some .local := by first | exact .inl rfl | exact .inr rfl | assumption) :
    PS X (.Assign [.Name x pos'] e pos) (tAsg te (gName i)) := by
  intro pins s σ H D I h
  refine wpAny_Assign_Name (thn (he pins s σ H _ I h) fun v s1 ⟨y, H1, I1, r1, q1⟩ => ?_) hs
  exact store_ok I1 hN hi hx r1 (fun s2 I2 => ⟨_, H1, I2, q1⟩) hf
end

/-! ### while -/
section
variable {X : Cx} {pos : Pos}
/-- the invariant W with its measure -/
def tWhile (c : TT) (tb : TS) : TS := fun D σ H => ∃ W : Nat → St → Hp → Prop, (∃ m, W m σ H) ∧ ∀ m σ H, W m σ H →
  c σ H fun b H1 => if b = true then ∃ N : St → Hp → Prop, (∀ σ' H', N σ' H' → ∃ m', m' < m ∧ W m' σ' H') ∧ tb { D with nx := N, ct := N, bk := D.nx } σ H1 else D.nx σ H1
theorem ps_while {c : Expr} {body : List Stmt} {tc : TT} {tb : TS} (hp : PassesOwn (model X.prog X.w) X.A X.env X.xe) (hc : PT X c tc) (hb : PSs X body tb) : PS X (.While c body [] pos) (tWhile tc tb) := by
  intro pins s σ H D I h
  obtain ⟨W, ⟨m0, w0⟩, turn⟩ := h
  refine wpAny_While (codeAny_whileLoop (fun n s' => ∃ σ' H', Inv X pins σ' H' s' ∧ W n σ' H') ?_ m0 ⟨σ, H, I, w0⟩)
  rintro n s1 ⟨σ1, H1, I1, w1⟩
  refine wpAny_passesOwn hp (thn (hc pins s1 σ1 H1 _ I1 (turn n σ1 H1 w1)) fun b s2 ⟨H2, I2, q2⟩ => ?_)
  cases b with
  | true =>
    obtain ⟨N, hN, q2⟩ := q2
    rw [if_pos rfl]
    refine wpAny_passesOwn hp (thn (hb pins s2 σ1 H2 _ I2 q2) fun f s3 q3 => ?_)
    cases f with
    | next =>
      obtain ⟨σ3, H3, I3, n3⟩ := q3
      obtain ⟨m', hm, w3⟩ := hN σ3 H3 n3
      exact ⟨m', hm, σ3, H3, I3, w3⟩
    | cont =>
      obtain ⟨σ3, H3, I3, n3⟩ := q3
      obtain ⟨m', hm, w3⟩ := hN σ3 H3 n3
      exact ⟨m', hm, σ3, H3, I3, w3⟩
    | brk => exact q3
    | ret v => exact q3
  | false =>
    rw [if_neg Bool.false_ne_true]
    exact wpAny_execs_nil ⟨σ1, H2, I2, q2⟩
end

/-! ### what a loop or a comprehension walks -/
/-- at turn i: it yields x (the heap may grow), or it stops -/
structure It where
  go : Nat → Hp → Prop
  yld : Nat → Hp → V → Hp → Prop
  stop : Nat → Hp → Prop
/-- the iterator's own objects may turn: they are not the frame's, not pinned, younger than the entry (or a comprehension's own) -/
def FpOk (X : Cx) (pins : List (Addr × Obj)) (H : Hp) (b : Addr) : Prop :=
  H b = none ∧ b ≠ X.env.locals ∧ b ∉ X.fs ∧ (b ∈ X.ex ∨ X.s₀.heap.objs.size ≤ b) ∧ (∀ x c, X.env.cells.lookup x = some c → c ≠ b) ∧ ∀ p ∈ X.pn ++ pins, p.1 ≠ b
theorem Inv.fpOk {X : Cx} {pins : List (Addr × Obj)} {σ : St} {H H' : Hp} {s : Shared} {b : Addr} (I : Inv X pins σ H s) (hb : s.heap.objs.size ≤ b) (hn : H' b = none) : FpOk X pins H' b := by
  refine ⟨hn, Nat.ne_of_gt (Nat.lt_of_lt_of_le I.lt hb), I.nofs hb, .inr (Nat.le_trans I.sz hb), fun x c e z => ?_, fun p hp z => ?_⟩
  · obtain ⟨v, q⟩ := I.cell x c e
    exact absurd (Nat.lt_of_lt_of_le q.lt (by rw [z]; exact hb)) (Nat.lt_irrefl _)
  · exact absurd (Nat.lt_of_lt_of_le (Heap.lt_size (I.pin p hp).1) (by rw [z]; exact hb)) (Nat.lt_irrefl _)
structure Turn (P : Program) (w : World) (K : PySem.W.Frag) (tg : Expr) (J : It) (fp : List Addr) (it : Addr) (tn : Nat → Heap → Prop) : Prop where
  mem : it ∈ fp
  obj : ∀ i h, tn i h → ∀ b ∈ fp, ∃ o, h.get? b = some o ∧ ∀ v, o.data ≠ .cell v
  keep : ∀ i h h', tn i h → (∀ b ∈ fp, ∀ o, h.get? b = some o → h'.get? b = some o) → tn i h'
  item : ∀ (X : Cx), X.prog = P → X.w = w → X.K = K → X.calm = true → ∀ (i : Nat) (pins : List (Addr × Obj)) (s : Shared) (σ : St) (H : Hp) (E : Value → Shared → Prop), Inv X pins σ H s → (∀ b ∈ fp, FpOk X pins H b) → tn i s.heap → J.go i H →
    wpAny (model P w) X.A (pyNext (.ref it)) (fun r s1 => ∃ u, r = some u ∧
      wpAny (model P w) X.A (letOwnedTupleGo tg (.ref it) u) (fun _ s2 => ∃ x H', Inv X pins σ H' s2 ∧ RelV x u ∧ J.yld i H x H' ∧ tn (i + 1) s2.heap ∧ ∀ b ∈ fp, H' b = none) E s1) E s
  done : ∀ (X : Cx), X.prog = P → X.w = w → X.K = K → X.calm = true → ∀ (i : Nat) (pins : List (Addr × Obj)) (s : Shared) (σ : St) (H : Hp) (E : Value → Shared → Prop), Inv X pins σ H s → (∀ b ∈ fp, FpOk X pins H b) → tn i s.heap → J.stop i H →
    wpAny (model P w) X.A (pyNext (.ref it)) (fun r s1 => r = none ∧ Inv X pins σ H s1) E s
  self : ∀ (A : Around) (i : Nat) (s : Shared) (Q : Value → Shared → Prop) (E : Value → Shared → Prop), tn i s.heap → Q (.ref it) s → wpAny (model P w) A (pyIter (.ref it)) Q E s
abbrev TI := St → Hp → (It → Hp → Prop) → Prop
/-- an iterator has come -/
def PIE (X : Cx) (pins : List (Addr × Obj)) (σ : St) (tg : Expr) (R : It → Hp → Prop) (itv : Value) (s2 : Shared) : Prop :=
  ∃ (it : Addr) (fp : List Addr) (tn : Nat → Heap → Prop) (J : It) (H' : Hp), itv = .ref it ∧ Inv X pins σ H' s2 ∧ Turn X.prog X.w X.K tg J fp it tn ∧ tn 0 s2.heap ∧ (∀ b ∈ fp, FpOk X pins H' b) ∧ R J H'
def PI (X : Cx) (tg iter : Expr) (wi : TI) : Prop :=
  ∀ (pins : List (Addr × Obj)) (s : Shared) (σ : St) (H : Hp) (R : It → Hp → Prop), Inv X pins σ H s → wi σ H R →
    wpAny (model X.prog X.w) X.A (eval iter X.env) (fun v s1 => wpAny (model X.prog X.w) X.A (pyIter v) (PIE X pins σ tg R) X.xe s1) X.xe s
/-- the step ahead of the store is nothing for an iterator that keeps no tuple -/
theorem go_of {M : Model} {A : Around} {E : Value → Shared → Prop} {s : Shared} {tg : Expr} {it : Addr} {u : Value} {o : Obj} {n : String} {vs : Array Value} {Q : Unit → Shared → Prop} (ho : s.heap.get? it = some o) (hc : o.cls = .type n) (hd : o.data = .fields vs)
    (hn : ["enumerate", "zip", "dict_itemiterator", "dict_reverseitemiterator", "odict_iterator", "itertools.zip_longest", "itertools.pairwise"].contains n = false) (hQ : Q () s) : wpAny M A (letOwnedTupleGo tg (.ref it) u) Q E s := by
  unfold letOwnedTupleGo
  cases tg <;> first
    | exact wpAny_pure hQ
    | (cases u <;> first
        | exact wpAny_pure hQ
        | (refine wpAny_bind (wpAny_load ho ?_)
           rw [hc, hd]
           show wpAny M A (if (["enumerate", "zip", "dict_itemiterator", "dict_reverseitemiterator", "odict_iterator", "itertools.zip_longest", "itertools.pairwise"].contains n && vs[0]? == some (rawInt _)) = true then _ else _) Q E s
           rw [if_neg (by intro h; rw [hn, Bool.false_and] at h; cases h)]
           exact wpAny_pure hQ))
/-- the list at a, as it stands at each turn (a loop may append to it) -/
def Itl (K : PySem.W.Frag) (a : Addr) : It :=
  ⟨fun i H => ∃ xs x, SqL K H a xs ∧ xs[i]? = some x, fun i H x H' => H' = H ∧ ∀ xs, SqL K H a xs → xs[i]? = some x, fun i H => ∃ xs, SqL K H a xs ∧ xs.length ≤ i⟩
/-- lo, lo + 1, .. (n of them) -/
def Itr (lo : Int) (n : Nat) : It := ⟨fun i _ => i < n, fun i H x H' => H' = H ∧ x = .int (lo + i), fun i _ => n ≤ i⟩
theorem turn_list {P : Program} {w : World} {K : PySem.W.Frag} {tg : Expr} (a it : Addr) : Turn P w K tg (Itl K a) [it] it (fun i h => h.IsListIter it a i) where
  mem := by simp
  obj := fun i h st b hb => by
    have e : b = it := by simpa using hb
    subst e
    obtain ⟨o, e, c, d⟩ := st
    exact ⟨o, e, fun v z => by rw [d] at z; cases z⟩
  keep := fun i h h' st k => st.at fun o e => k it (by simp) o e
  item := by
    intro X hP hw hK hc i pins s σ H E I hf st hg
    subst hP hw hK
    obtain ⟨xs, x, hq, hx⟩ := hg
    obtain ⟨its, rv, p, hz⟩ := I.list hq
    obtain ⟨u, hu, ru⟩ := rv.get hx
    obtain ⟨f0, f1, f2, f3, f4, f5⟩ := hf it (by simp)
    refine wpAny_pyNext_list_item st p.isList (x := u) (by simpa using hu) fun h' st' sb => ?_
    have I1 : Inv X pins σ H { s with heap := h' } := I.turned (t' := s.toks) (fun b o hb e => (sb.2 b hb).trans e) f0 f1 f3 f4 f5
    obtain ⟨o, e, c, d⟩ := id st'
    exact ⟨u, rfl, go_of (s := { s with heap := h' }) e c d (by decide) ⟨x, H, I1, ru, ⟨rfl, fun ys hy => by rw [I.list_inj hy hq]; exact hx⟩, st', fun b hb => (hf b hb).1⟩⟩
  done := by
    intro X hP hw hK hc i pins s σ H E I hf st hg
    subst hP hw hK
    obtain ⟨xs, hq, hx⟩ := hg
    obtain ⟨its, rv, p, hz⟩ := I.list hq
    obtain ⟨f0, f1, f2, f3, f4, f5⟩ := hf it (by simp)
    have hl := rv.length
    exact wpAny_pyNext_list_end (I.ok.hd hc) st p.isList (by simp; omega) fun h' eb => ⟨rfl, I.turned (t' := s.toks) (fun b o hb e => eb b o hb e) f0 f1 f3 f4 f5⟩
  self := fun _ _ _ _ _ st h => wpAny_pyIter_listiter st h
theorem turn_range {P : Program} {w : World} {K : PySem.W.Frag} {tg : Expr} (it : Addr) (lo : Int) (n : Nat) : Turn P w K tg (Itr lo n) [it] it (fun i h => IsRangeIter h it (lo + (i : Nat) * 1) ((n : Int) - (i : Nat)) 1) where
  mem := by simp
  obj := fun i h st b hb => by
    have e : b = it := by simpa using hb
    subst e
    exact ⟨_, st, fun v z => by
      have z' : Data.fields _ = Data.cell v := z
      cases z'⟩
  keep := fun i h h' st k => k it (by simp) _ st
  item := by
    intro X hP hw hK hc i pins s σ H E I hf st hg
    subst hP hw hK
    obtain ⟨f0, f1, f2, f3, f4, f5⟩ := hf it (by simp)
    have W := Walks.range (prog := X.prog) (w := X.w) (I.ok.hd hc) it lo 1 n
    refine W.item i s _ _ hg st fun v h' tk hv st' kk => ?_
    obtain ⟨t, rfl⟩ := hv
    have I1 : Inv X pins σ H { s with heap := h', toks := tk } := I.turned (fun b o hb e => kk b o (by simpa using hb) e) f0 f1 f3 f4 f5
    refine ⟨_, rfl, go_of (s := { s with heap := h', toks := tk }) (n := "range_iterator") st' rfl rfl (by decide) ⟨.int (lo + i), H, I1, ⟨t, ?_⟩, ⟨rfl, rfl⟩, st', fun b hb => (hf b hb).1⟩⟩
    rw [Int.mul_one]
  done := by
    intro X hP hw hK hc i pins s σ H E I hf st hg
    subst hP hw hK
    obtain ⟨f0, f1, f2, f3, f4, f5⟩ := hf it (by simp)
    exact wpAny_pyNext_range_end (I.ok.hd hc) st (by have : n ≤ i := hg; omega) fun h' eb => ⟨rfl, I.turned (t' := s.toks) (fun b o hb e => eb b o hb e) f0 f1 f3 f4 f5⟩
  self := fun _ _ _ _ _ st h => wpAny_pyIter_rangeiter st h
end L2

namespace L2
open PySem PySem.Spec PyProof.Rows
section
variable {X : Cx} {tg : Expr}
def iList (K : PySem.W.Frag) (tl : TE) : TI := fun σ H R => tl σ H fun x H1 => ∃ a, x = .ref a ∧ (∃ xs, SqL K H1 a xs) ∧ R (Itl K a) H1
theorem pi_list {l : Expr} {tl : TE} (hl : PE X l tl) : PI X tg l (iList X.K tl) := by
  intro pins s σ H R I h
  refine thn (hl pins s σ H _ I h) fun v s1 ⟨x, H1, I1, r1, q1⟩ => ?_
  obtain ⟨a, e, ⟨xs, hq⟩, q⟩ := q1
  subst e
  cases r1
  obtain ⟨its, rv, p, hz⟩ := I1.list hq
  refine wpAny_pyIter_list p.isList ?_
  refine ⟨s1.heap.objs.size, [s1.heap.objs.size], _, _, H1, rfl, I1.kept (t' := s1.toks) fun b o e => Heap.get?_push_of_some _ e, turn_list a _, ⟨_, Heap.get?_push_size _ rfl, rfl, rfl⟩, fun b hb => ?_, q⟩
  have e : b = s1.heap.objs.size := by simpa using hb
  subst e
  exact I1.fpOk (Nat.le_refl _) (I1.hok.fresh (Nat.le_refl _))
/-- a range object just made, walked -/
theorem range_it {pins : List (Addr × Obj)} {σ : St} {H : Hp} {s : Shared} {R : It → Hp → Prop} {E : Value → Shared → Prop} {lo hi : Int} {t u v : Tok} {tk : Nat} (I : Inv X pins σ H s) (h1 : -(2 ^ 62) ≤ lo) (h2 : lo < 2 ^ 62) (h3 : -(2 ^ 62) ≤ hi) (h4 : hi < 2 ^ 62)
    (q : R (Itr lo (hi - lo).toNat) H) : wpAny (model X.prog X.w) X.A (pyIter (.ref s.heap.objs.size)) (PIE X pins σ tg R) E { s with heap := s.heap.push { cls := .type "range", data := .fields #[.int lo t, .int hi u, .int 1 v] }, toks := tk } := by
  refine wpAny_pyIter_range (IsRange.new ..) (small_one h1 h2 h3 h4) ?_
  have I1 : Inv X pins σ H { s with heap := s.heap.push { cls := .type "range", data := .fields #[.int lo t, .int hi u, .int 1 v] }, toks := tk } := I.kept fun b o e => Heap.get?_push_of_some _ e
  refine ⟨(s.heap.push { cls := .type "range", data := .fields #[.int lo t, .int hi u, .int 1 v] }).objs.size, [(s.heap.push { cls := .type "range", data := .fields #[.int lo t, .int hi u, .int 1 v] }).objs.size], _, _, H, rfl,
    I1.kept (t' := tk) fun b o e => Heap.get?_push_of_some _ e, turn_range _ lo (hi - lo).toNat, ?_, fun b hb => ?_, q⟩
  · have e1 : lo + ((0 : Nat) : Int) * 1 = lo := by simp
    have e2 : (((hi - lo).toNat : Nat) : Int) - ((0 : Nat) : Int) = Builtin.Range.rangeSize lo hi 1 := by rw [rangeSize_one]; split <;> omega
    show IsRangeIter _ _ (lo + ((0 : Nat) : Int) * 1) ((((hi - lo).toNat : Nat) : Int) - ((0 : Nat) : Int)) 1
    rw [e1, e2]
    exact Heap.get?_push_size _ rfl
  · have e : b = (s.heap.push { cls := .type "range", data := .fields #[.int lo t, .int hi u, .int 1 v] }).objs.size := by simpa using hb
    subst e
    exact I1.fpOk (Nat.le_refl _) (I1.hok.fresh (Nat.le_refl _))
def iRng1 (ta : TA) : TI := fun σ H R => ta σ H fun vs H1 => ∃ j : Int, vs = [.int j] ∧ -(2 ^ 62) ≤ j ∧ j < 2 ^ 62 ∧ R (Itr 0 j.toNat) H1
theorem pi_range1 {a : Expr} {ta : TA} {p pos : Pos} (hg : Gl X "range") (hm : X.mg "range" = none) (ha : PA X [a] ta) (hs : starEach [a] X.env = [(false, eval a X.env)] := by rfl) : PI X tg (.Call (.Name "range" p) [a] [] pos) (iRng1 ta) := by
  intro pins s σ H R I h
  refine Call_ (ld_blt I hg hm boot_range (PyProof.Rows.callWith_type1 (thn (ha pos pins s σ H _ I h) fun us s1 ⟨vs, H1, I1, r1, q1⟩ => ?_) hs rfl))
  obtain ⟨j, e, q1, q2, q⟩ := q1
  subst e
  cases r1 with
  | cons r rr =>
    cases rr
    obtain ⟨t, rfl⟩ := r
    exact call_range_1 (range_it I1 (by omega) (by omega) q1 q2 (by simpa using q))
/-! ### for -/
/-- W: the invariant by the turn and a measure; N: what the body is to reach -/
def tFor (wi : TI) (g : TG) (tb : TS) : TS := fun D σ H => wi σ H fun J H1 => ∃ W : Nat → Nat → St → Hp → Prop, (∃ m, W 0 m σ H1) ∧ ∀ i m σ H, W i m σ H →
  (J.stop i H ∧ D.nx σ H) ∨ (J.go i H ∧ ∃ N : St → Hp → Prop, (∀ σ' H', N σ' H' → ∃ m', m' < m ∧ W (i + 1) m' σ' H') ∧ ∀ x H', J.yld i H x H' → g x σ H' fun σ2 H2 => tb { D with nx := N, ct := N, bk := D.nx } σ2 H2)
/-- the records at fp as they stand -/
def pinsAt (fp : List Addr) (h : Heap) : List (Addr × Obj) := fp.filterMap fun b => (h.get? b).map fun o => (b, o)
theorem mem_pinsAt {fp : List Addr} {h : Heap} {b : Addr} {o : Obj} (hb : b ∈ fp) (e : h.get? b = some o) : (b, o) ∈ pinsAt fp h := List.mem_filterMap.mpr ⟨b, hb, by rw [e]; rfl⟩
theorem of_pinsAt {fp : List Addr} {h : Heap} {p : Addr × Obj} (hp : p ∈ pinsAt fp h) : p.1 ∈ fp ∧ h.get? p.1 = some p.2 := by
  obtain ⟨b, hb, e⟩ := List.mem_filterMap.mp hp
  cases q : h.get? b with
  | none => rw [q] at e; cases e
  | some o =>
    rw [q] at e
    have e' : (b, o) = p := Option.some.inj e
    subst e'
    exact ⟨hb, q⟩
theorem Inv.pinned {pins : List (Addr × Obj)} {σ : St} {H : Hp} {s : Shared} {fp : List Addr} (I : Inv X pins σ H s) (hf : ∀ b ∈ fp, FpOk X pins H b) (ho : ∀ b ∈ fp, ∃ o, s.heap.get? b = some o ∧ ∀ v, o.data ≠ .cell v) : Inv X (pins ++ pinsAt fp s.heap) σ H s :=
  I.pins_of fun p hp => (List.mem_append.mp hp).elim (fun z => I.pin p (List.mem_append_right _ z)) fun z => by
    obtain ⟨hb, e⟩ := of_pinsAt z
    obtain ⟨f0, f1, f2, _⟩ := hf p.1 hb
    obtain ⟨o, e', d⟩ := ho p.1 hb
    rw [e] at e'; cases e'
    exact ⟨e, f0, f1, f2, d⟩
theorem Inv.unpinned {pins pl : List (Addr × Obj)} {σ : St} {H : Hp} {s : Shared} (I : Inv X (pins ++ pl) σ H s) : Inv X pins σ H s := I.pins_of fun p hp => I.pin p (List.mem_append_right _ (List.mem_append_left _ hp))
theorem ps_for {iter : Expr} {body : List Stmt} {wi : TI} {g : TG} {tb : TS} {pos : Pos} (hp : PassesOwn (model X.prog X.w) X.A X.env X.xe) (hc : X.calm = true) (hi : PI X tg iter wi) (hg : PG X tg g) (hb : PSs X body tb)
    (hs : ∀ x, foldedSetIterable iter X.env x = pure x := by intro _; rfl) : PS X (.For tg iter body [] pos) (tFor wi g tb) := by
  intro pins s σ H D I h
  refine wpAny_For (thn (hi pins s σ H _ I h) fun v s1 h1 => thn h1 fun itv s2 h2 => ?_) hs
  obtain ⟨it, fp, tn, J, H2, e, I2, T, st2, f2, W, ⟨m0, w0⟩, turn⟩ := h2
  subst e
  -- what stays true of the iterator's objects through the loop
  have stat : ∀ {H' : Hp}, (∀ b ∈ fp, H' b = none) → ∀ b ∈ fp, FpOk X pins H' b := fun hn b hb => ⟨hn b hb, (f2 b hb).2⟩
  refine codeAny_forLoop_any (fun n s' => ∃ i σ' H', Inv X pins σ' H' s' ∧ tn i s'.heap ∧ (∀ b ∈ fp, H' b = none) ∧ W i n σ' H') ?_ m0 ⟨0, σ, H2, I2, st2, fun b hb => (f2 b hb).1, w0⟩
  rintro n s3 ⟨i, σ3, H3, I3, st3, fr3, w3⟩
  rcases turn i n σ3 H3 w3 with ⟨stop, qn⟩ | ⟨go, N, hN, step⟩
  · refine wpAny_passesOwn hp (thn (T.done X rfl rfl rfl hc i pins s3 σ3 H3 X.xe I3 (stat fr3) st3 stop) fun r s4 ⟨hr, I4⟩ => ?_)
    subst hr
    exact wpAny_execs_nil ⟨σ3, H3, I4, qn⟩
  · refine wpAny_passesOwn hp (thn (T.item X rfl rfl rfl hc i pins s3 σ3 H3 X.xe I3 (stat fr3) st3 go) fun r s4 ⟨u, hr, h4⟩ => ?_)
    subst hr
    refine wpAny_passesOwn hp (thn h4 fun _ s5 ⟨x, H5, I5, r5, y5, st5, fr5⟩ => ?_)
    have I5' := I5.pinned (stat fr5) (T.obj _ _ st5)
    refine wpAny_passesOwn hp (thn (hg _ s5 σ3 H5 x u _ I5' r5 (step x H5 y5)) fun _ s6 ⟨σ6, H6, I6, q6⟩ => ?_)
    refine wpAny_passesOwn hp (thn (hb _ s6 σ6 H6 _ I6 q6) fun f s7 q7 => ?_)
    have again : ∀ {σ7 : St} {H7 : Hp}, Inv X (pins ++ pinsAt fp s5.heap) σ7 H7 s7 → N σ7 H7 → ∃ m, m < n ∧ ∃ i σ' H', Inv X pins σ' H' s7 ∧ tn i s7.heap ∧ (∀ b ∈ fp, H' b = none) ∧ W i m σ' H' := fun {σ7 H7} I7 n7 => by
      obtain ⟨m', hm, w7⟩ := hN σ7 H7 n7
      refine ⟨m', hm, i + 1, σ7, H7, I7.unpinned, T.keep _ _ _ st5 fun b hb o e => (I7.pin (b, o) (List.mem_append_right _ (List.mem_append_right _ (mem_pinsAt hb e)))).1, fun b hb => ?_, w7⟩
      obtain ⟨o, e, d⟩ := T.obj _ _ st5 b hb
      exact (I7.pin (b, o) (List.mem_append_right _ (List.mem_append_right _ (mem_pinsAt hb e)))).2.1
    cases f with
    | next => obtain ⟨σ7, H7, I7, n7⟩ := q7; exact again I7 n7
    | cont => obtain ⟨σ7, H7, I7, n7⟩ := q7; exact again I7 n7
    | brk => obtain ⟨σ7, H7, I7, q7⟩ := q7; exact ⟨σ7, H7, I7.unpinned, q7⟩
    | ret v => obtain ⟨x7, σ7, H7, I7, r7, q7⟩ := q7; exact ⟨x7, σ7, H7, I7.unpinned, r7, q7⟩
end

/-! ### the forms one uses -/
/-- over a list that the body leaves as it is -/
theorem for_list {K : PySem.W.Frag} {a : Addr} {xs : List V} {g : TG} {tb : TS} {D : Ends} {σ : St} {H : Hp} (Pv : Nat → St → Hp → Prop) (h0 : Pv 0 σ H) (hl : ∀ i σ H, i ≤ xs.length → Pv i σ H → SqL K H a xs)
    (hs : ∀ i x σ H, xs[i]? = some x → Pv i σ H → g x σ H fun σ2 H2 => tb { D with nx := Pv (i + 1), ct := Pv (i + 1), bk := D.nx } σ2 H2) (hd : ∀ σ H, Pv xs.length σ H → D.nx σ H) :
    ∃ W : Nat → Nat → St → Hp → Prop, (∃ m, W 0 m σ H) ∧ ∀ i m σ H, W i m σ H →
      ((Itl K a).stop i H ∧ D.nx σ H) ∨ ((Itl K a).go i H ∧ ∃ N : St → Hp → Prop, (∀ σ' H', N σ' H' → ∃ m', m' < m ∧ W (i + 1) m' σ' H') ∧ ∀ x H', (Itl K a).yld i H x H' → g x σ H' fun σ2 H2 => tb { D with nx := N, ct := N, bk := D.nx } σ2 H2) := by
  refine ⟨fun i m σ H => m = xs.length - i ∧ i ≤ xs.length ∧ Pv i σ H, ⟨xs.length, by simp, Nat.zero_le _, h0⟩, ?_⟩
  rintro i m σ H ⟨rfl, hi, p⟩
  have q := hl i σ H hi p
  by_cases hlt : i < xs.length
  · refine .inr ⟨⟨xs, xs[i], q, by simp [hlt]⟩, Pv (i + 1), fun σ' H' p' => ⟨xs.length - (i + 1), by omega, rfl, hlt, p'⟩, fun x H' y => ?_⟩
    obtain ⟨e, y⟩ := y
    subst e
    exact hs i x σ _ (y xs q) p
  · have e : i = xs.length := by omega
    subst e
    exact .inl ⟨⟨xs, q, Nat.le_refl _⟩, hd σ H p⟩
theorem for_range {lo : Int} {n : Nat} {g : TG} {tb : TS} {D : Ends} {σ : St} {H : Hp} (Pv : Nat → St → Hp → Prop) (h0 : Pv 0 σ H)
    (hs : ∀ i σ H, i < n → Pv i σ H → g (.int (lo + i)) σ H fun σ2 H2 => tb { D with nx := Pv (i + 1), ct := Pv (i + 1), bk := D.nx } σ2 H2) (hd : ∀ σ H, Pv n σ H → D.nx σ H) :
    ∃ W : Nat → Nat → St → Hp → Prop, (∃ m, W 0 m σ H) ∧ ∀ i m σ H, W i m σ H →
      ((Itr lo n).stop i H ∧ D.nx σ H) ∨ ((Itr lo n).go i H ∧ ∃ N : St → Hp → Prop, (∀ σ' H', N σ' H' → ∃ m', m' < m ∧ W (i + 1) m' σ' H') ∧ ∀ x H', (Itr lo n).yld i H x H' → g x σ H' fun σ2 H2 => tb { D with nx := N, ct := N, bk := D.nx } σ2 H2) := by
  refine ⟨fun i m σ H => m = n - i ∧ i ≤ n ∧ Pv i σ H, ⟨n, by simp, Nat.zero_le _, h0⟩, ?_⟩
  rintro i m σ H ⟨rfl, hi, p⟩
  by_cases hlt : i < n
  · refine .inr ⟨hlt, Pv (i + 1), fun σ' H' p' => ⟨n - (i + 1), by omega, rfl, hlt, p'⟩, fun x H' y => ?_⟩
    obtain ⟨e, y⟩ := y
    subst e y
    exact hs i σ _ hlt p
  · have e : i = n := by omega
    subst e
    exact .inl ⟨Nat.le_refl _, hd σ H p⟩
end L2

namespace L2
open PySem PySem.Spec PyProof.Rows

abbrev R2 := V → V → Hp → VK → Prop
/-- a two-place operation on values: f is binaryOp op, inplaceOp op or compareOp op -/
def OpR (X : Cx) (f : Value → Value → Sem Value) (r : R2) : Prop :=
  ∀ (pins : List (Addr × Obj)) (s : Shared) (σ : St) (H : Hp) (x y : V) (v u : Value) (Q : VK), Inv X pins σ H s → RelV x v → RelV y u → r x y H Q →
    wpAny (model X.prog X.w) X.A (f v u) (EP X pins σ Q) X.xe s
/-- a one-place operation -/
def UnR (X : Cx) (f : Value → Sem Value) (r : V → Hp → VK → Prop) : Prop :=
  ∀ (pins : List (Addr × Obj)) (s : Shared) (σ : St) (H : Hp) (x : V) (v : Value) (Q : VK), Inv X pins σ H s → RelV x v → r x H Q →
    wpAny (model X.prog X.w) X.A (f v) (EP X pins σ Q) X.xe s
/-- a call of a value that is known (a builtin, a type) with values -/
def CallR (X : Cx) (f : Value) (r : List V → Hp → VK → Prop) : Prop :=
  ∀ (pins : List (Addr × Obj)) (s : Shared) (σ : St) (H : Hp) (xs : List V) (us : List Value) (Q : VK), Inv X pins σ H s → Vals xs us → r xs H Q →
    wpAny (model X.prog X.w) X.A (call f us) (EP X pins σ Q) X.xe s
/-- a value's truth -/
def TruR (X : Cx) (r : V → Hp → (Bool → Hp → Prop) → Prop) : Prop :=
  ∀ (pins : List (Addr × Obj)) (s : Shared) (σ : St) (H : Hp) (x : V) (v : Value) (Q : Bool → Hp → Prop), Inv X pins σ H s → RelV x v → r x H Q →
    wpAny (model X.prog X.w) X.A (truthy v) (TP X pins σ Q) X.xe s
def tOp (r : R2) (ta tb : TE) : TE := fun σ H Q => ta σ H fun x H1 => tb σ H1 fun y H2 => r x y H2 Q
def tUn (r : V → Hp → VK → Prop) (ta : TE) : TE := fun σ H Q => ta σ H fun x H1 => r x H1 Q
/-- ints in, under C, and a value out -/
def rI (C : Int → Int → Prop) (g : Int → Int → V) : R2 := fun x y H Q => ∃ i j, x = .int i ∧ y = .int j ∧ C i j ∧ Q (g i j) H
def rI0 (g : Int → Int → V) : R2 := fun x y H Q => ∃ i j, x = .int i ∧ y = .int j ∧ Q (g i j) H
def rU (g : Int → V) : V → Hp → VK → Prop := fun x H Q => ∃ i, x = .int i ∧ Q (g i) H
section
variable {X : Cx} {a b c : Expr} {ta tb tc : TE} {pos : Pos}

theorem binT (ha : PE X a ta) (hb : PE X b tb) {pins : List (Addr × Obj)} {s : Shared} {σ : St} {H : Hp} {R : V → V → Hp → Prop} (I : Inv X pins σ H s)
    (h : ta σ H fun x H1 => tb σ H1 fun y H2 => R x y H2) {Q : Value → Shared → Prop} {f : Value → Value → Sem Value}
    (hf : ∀ v u s2 x y H2, Inv X pins σ H2 s2 → RelV x v → RelV y u → R x y H2 → wpAny (model X.prog X.w) X.A (f v u) Q X.xe s2) :
    wpAny (model X.prog X.w) X.A (eval a X.env) (fun v s₁ => wpAny (model X.prog X.w) X.A (eval b X.env) (fun u s₂ => wpAny (model X.prog X.w) X.A (f v u) Q X.xe s₂) X.xe s₁) X.xe s := by
  refine thn (ha pins s σ H _ I h) fun v s1 ⟨x, H1, I1, r1, q1⟩ => ?_
  refine thn (hb pins s1 σ H1 _ I1 q1) fun u s2 ⟨y, H2, I2, r2, q2⟩ => ?_
  exact hf v u s2 x y H2 I2 r1 r2 q2
theorem pe_op {op : Operator} {r : R2} (ho : OpR X (binaryOp op) r) (ha : PE X a ta) (hb : PE X b tb) : PE X (.BinOp a op b pos) (tOp r ta tb) := by
  intro pins s σ H Q I h
  exact wpAny_BinOp (binT ha hb I h fun v u s2 x y H2 I2 rx ry q => ho pins s2 σ H2 x y v u Q I2 rx ry q)
theorem pe_un {op : UnaryOp} {r : V → Hp → VK → Prop} (ho : UnR X (unaryOp op) r) (ha : PE X a ta) : PE X (.UnaryOp op a pos) (tUn r ta) := by
  intro pins s σ H Q I h
  exact UnaryOp_ (thn (ha pins s σ H _ I h) fun v s1 ⟨x, H1, I1, r1, q1⟩ => ho pins s1 σ H1 x v Q I1 r1 q1)
/-! ### ints -/
theorem opI {f : Value → Value → Sem Value} {C : Int → Int → Prop} {g : Int → Int → Int}
    (rule : ∀ (i j : Int) (t u : Tok) (s : Shared) (Q : Value → Shared → Prop) (E : Value → Shared → Prop), C i j → Q (.int (g i j) s.toks) { s with toks := s.toks + 1 } → wpAny (model X.prog X.w) X.A (f (.int i t) (.int j u)) Q E s) :
    OpR X f (rI C fun i j => .int (g i j)) := by
  intro pins s σ H x y v u Q I rx ry h
  obtain ⟨i, j, rfl, rfl, hc, q⟩ := h
  obtain ⟨t, rfl⟩ := rx
  obtain ⟨t', rfl⟩ := ry
  exact rule i j t t' s _ _ hc ⟨.int (g i j), H, I.tok _, ⟨_, rfl⟩, q⟩
theorem opI0 {f : Value → Value → Sem Value} {g : Int → Int → Int}
    (rule : ∀ (i j : Int) (t u : Tok) (s : Shared) (Q : Value → Shared → Prop) (E : Value → Shared → Prop), Q (.int (g i j) s.toks) { s with toks := s.toks + 1 } → wpAny (model X.prog X.w) X.A (f (.int i t) (.int j u)) Q E s) :
    OpR X f (rI0 fun i j => .int (g i j)) := by
  intro pins s σ H x y v u Q I rx ry h
  obtain ⟨i, j, rfl, rfl, q⟩ := h
  obtain ⟨t, rfl⟩ := rx
  obtain ⟨t', rfl⟩ := ry
  exact rule i j t t' s _ _ ⟨.int (g i j), H, I.tok _, ⟨_, rfl⟩, q⟩
theorem opB0 {f : Value → Value → Sem Value} {g : Int → Int → Bool}
    (rule : ∀ (i j : Int) (t u : Tok) (s : Shared) (Q : Value → Shared → Prop) (E : Value → Shared → Prop), Q (.bool (g i j)) s → wpAny (model X.prog X.w) X.A (f (.int i t) (.int j u)) Q E s) :
    OpR X f (rI0 fun i j => .bl (g i j)) := by
  intro pins s σ H x y v u Q I rx ry h
  obtain ⟨i, j, rfl, rfl, q⟩ := h
  obtain ⟨t, rfl⟩ := rx
  obtain ⟨t', rfl⟩ := ry
  exact rule i j t t' s _ _ ⟨.bl (g i j), H, I, rfl, q⟩
def CDiv (i j : Int) : Prop := 0 < j ∧ j < 1073741824
def CMul (i j : Int) : Prop := (-(2 ^ 64) < i ∧ i < 2 ^ 64) ∨ (-(2 ^ 64) < j ∧ j < 2 ^ 64)
theorem CMul.ok {i j : Int} (h : CMul i j) : IntMulOk i j := by
  rcases h with ⟨h1, h2⟩ | ⟨h1, h2⟩
  · exact .of_left (intBits_le_64 h1 h2)
  · exact .of_right (intBits_le_64 h1 h2)
theorem op_add : OpR X (binaryOp .Add) (rI0 fun i j => .int (i + j)) := opI0 fun _ _ _ _ _ _ _ q => add_int q
theorem op_mul : OpR X (binaryOp .Mult) (rI CMul fun i j => .int (i * j)) := opI fun _ _ _ _ _ _ _ hc q => mul_int q hc.ok
/-- // by a positive divisor -/
theorem op_fdiv : OpR X (binaryOp .FloorDiv) (rI CDiv fun i j => .int (i / j)) := opI fun i j _ _ _ _ _ hc q => by
  have h1 : (0 : Int) < j := hc.1
  have h2 : j < 1073741824 := hc.2
  exact floordiv_int (by omega) (by rw [Int.fdiv_eq_ediv_of_nonneg i (by omega)]; exact q) (.inl (PyProof.noPylong_small (by omega)))
/-- % by a positive divisor of any size -/
theorem op_mod : OpR X (binaryOp .Mod) (rI (fun _ j => 0 < j) fun i j => .int (i % j)) := opI fun i j _ _ _ _ _ hc q => by
  have h1 : (0 : Int) < j := hc
  exact mod_int' (by omega) (by rw [Int.fmod_eq_emod_of_nonneg i (by omega)]; exact q)
theorem unI {f : Value → Sem Value} {g : Int → Int}
    (rule : ∀ (i : Int) (t : Tok) (s : Shared) (Q : Value → Shared → Prop) (E : Value → Shared → Prop), Q (.int (g i) s.toks) { s with toks := s.toks + 1 } → wpAny (model X.prog X.w) X.A (f (.int i t)) Q E s) :
    UnR X f (rU fun i => .int (g i)) := by
  intro pins s σ H x v Q I rx h
  obtain ⟨i, rfl, q⟩ := h
  obtain ⟨t, rfl⟩ := rx
  exact rule i t s _ _ ⟨.int (g i), H, I.tok _, ⟨_, rfl⟩, q⟩
theorem un_neg : UnR X (unaryOp .USub) (rU fun i => .int (-i)) := unI fun _ _ _ _ _ q => neg_int q
/-! ### bools among ints: n += (a < b) -/
end

/-! ### comparisons -/
/-- the scalars that == tells apart as data does -/
def scal : V → V → Bool
  | .non, .non => true | .non, .int _ => true | .int _, .non => true | .non, .bl _ => true | .bl _, .non => true | .non, .str _ => true | .str _, .non => true
  | .int _, .int _ => true | .bl _, .bl _ => true | .str _, .str _ => true | .byt _, .byt _ => true
  | .int _, .str _ => true | .str _, .int _ => true | .bl _, .str _ => true | .str _, .bl _ => true
  | _, _ => false
def rEq : R2 := fun x y H Q => scal x y = true ∧ Q (.bl (decide (x = y))) H
def rNe : R2 := fun x y H Q => scal x y = true ∧ Q (.bl (!decide (x = y))) H
theorem dec_int {i j : Int} : decide (V.int i = V.int j) = (i == j) := by
  rw [Bool.eq_iff_iff]
  simp
theorem dec_bl {i j : Bool} : decide (V.bl i = V.bl j) = (i == j) := by
  rw [Bool.eq_iff_iff]
  simp
theorem dec_str {i j : Str} : decide (V.str i = V.str j) = (i == j) := by
  rw [Bool.eq_iff_iff]
  simp
theorem dec_byt {i j : Array UInt8} : decide (V.byt i = V.byt j) = (i.toList == j.toList) := by
  rw [Bool.eq_iff_iff]
  cases i
  cases j
  simp
section
variable {X : Cx} {a b c : Expr} {ta tb tc : TE} {pos : Pos}
theorem fin_bl {pins : List (Addr × Obj)} {σ : St} {H : Hp} {s : Shared} {Q : VK} {k k' : Bool} (I : Inv X pins σ H s) (q : Q (.bl k) H) (e : k = k') : EP X pins σ Q (.bool k') s := by
  subst e
  exact ⟨.bl k, H, I, rfl, q⟩
theorem op_eq : OpR X (compareOp .Eq) rEq := by
  intro pins s σ H x y v u Q I rx ry h
  obtain ⟨hs, q⟩ := h
  cases x with
  | non =>
    cases rx
    cases y with
    | non => cases ry; exact PySem.EqNone.eq_none_none (fin_bl I q (by simp))
    | bl j => cases ry; exact PySem.EqNone.eq_none_bool (fin_bl I q (by simp))
    | int j => obtain ⟨t', rfl⟩ := ry; exact PySem.EqNone.eq_none_int (fin_bl I q (by simp))
    | str j => obtain ⟨t', rfl⟩ := ry; exact PySem.EqNone.eq_none_str (fin_bl I q (by simp))
    | _ => exact absurd (show false = true from hs) Bool.false_ne_true
  | bl i =>
    cases rx
    cases y with
    | non => cases ry; exact PySem.EqNone.eq_bool_none (fin_bl I q (by simp))
    | bl j => cases ry; exact eq_bool (fin_bl I q dec_bl)
    | str j => obtain ⟨t', rfl⟩ := ry; exact PySem.EqMixed.eq_bool_str (fin_bl I q (by simp))
    | _ => exact absurd (show false = true from hs) Bool.false_ne_true
  | int i =>
    obtain ⟨t, rfl⟩ := rx
    cases y with
    | non => cases ry; exact PySem.EqNone.eq_int_none (fin_bl I q (by simp))
    | int j => obtain ⟨t', rfl⟩ := ry; exact eq_int (fin_bl I q dec_int)
    | str j => obtain ⟨t', rfl⟩ := ry; exact PySem.EqMixed.eq_int_str (fin_bl I q (by simp))
    | _ => exact absurd (show false = true from hs) Bool.false_ne_true
  | str i =>
    obtain ⟨t, rfl⟩ := rx
    cases y with
    | non => cases ry; exact PySem.EqNone.eq_str_none (fin_bl I q (by simp))
    | bl j => cases ry; exact PySem.EqMixed.eq_str_bool (fin_bl I q (by simp))
    | int j => obtain ⟨t', rfl⟩ := ry; exact PySem.EqMixed.eq_str_int (fin_bl I q (by simp))
    | str j => obtain ⟨t', rfl⟩ := ry; exact eq_str (fin_bl I q dec_str)
    | _ => exact absurd (show false = true from hs) Bool.false_ne_true
  | byt i =>
    obtain ⟨t, rfl⟩ := rx
    cases y with
    | byt j => obtain ⟨t', rfl⟩ := ry; exact PySem.W.eq_bytes (fin_bl I q dec_byt)
    | _ => exact absurd (show false = true from hs) Bool.false_ne_true
  | _ => cases y <;> exact absurd (show false = true from hs) Bool.false_ne_true
theorem op_ne : OpR X (compareOp .NotEq) rNe := by
  intro pins s σ H x y v u Q I rx ry h
  obtain ⟨hs, q⟩ := h
  cases x with
  | non =>
    cases rx
    cases y with
    | non => cases ry; exact PySem.EqNone.ne_none_none (fin_bl I q (by simp))
    | bl j => cases ry; exact PySem.EqNone.ne_none_bool (fin_bl I q (by simp))
    | int j => obtain ⟨t', rfl⟩ := ry; exact PySem.EqNone.ne_none_int (fin_bl I q (by simp))
    | str j => obtain ⟨t', rfl⟩ := ry; exact PySem.EqNone.ne_none_str (fin_bl I q (by simp))
    | _ => exact absurd (show false = true from hs) Bool.false_ne_true
  | bl i =>
    cases rx
    cases y with
    | non => cases ry; exact PySem.EqNone.ne_bool_none (fin_bl I q (by simp))
    | bl j => cases ry; exact ne_bool (fin_bl I q (congrArg not dec_bl))
    | str j => obtain ⟨t', rfl⟩ := ry; exact PySem.EqMixed.ne_bool_str (fin_bl I q (by simp))
    | _ => exact absurd (show false = true from hs) Bool.false_ne_true
  | int i =>
    obtain ⟨t, rfl⟩ := rx
    cases y with
    | non => cases ry; exact PySem.EqNone.ne_int_none (fin_bl I q (by simp))
    | int j => obtain ⟨t', rfl⟩ := ry; exact ne_int (fin_bl I q (congrArg not dec_int))
    | str j => obtain ⟨t', rfl⟩ := ry; exact PySem.EqMixed.ne_int_str (fin_bl I q (by simp))
    | _ => exact absurd (show false = true from hs) Bool.false_ne_true
  | str i =>
    obtain ⟨t, rfl⟩ := rx
    cases y with
    | non => cases ry; exact PySem.EqNone.ne_str_none (fin_bl I q (by simp))
    | bl j => cases ry; exact PySem.EqMixed.ne_str_bool (fin_bl I q (by simp))
    | int j => obtain ⟨t', rfl⟩ := ry; exact PySem.EqMixed.ne_str_int (fin_bl I q (by simp))
    | str j => obtain ⟨t', rfl⟩ := ry; exact ne_str (fin_bl I q (congrArg not dec_str))
    | _ => exact absurd (show false = true from hs) Bool.false_ne_true
  | byt i =>
    obtain ⟨t, rfl⟩ := rx
    cases y with
    | byt j => obtain ⟨t', rfl⟩ := ry; exact PySem.W.ne_bytes (fin_bl I q (congrArg not dec_byt))
    | _ => exact absurd (show false = true from hs) Bool.false_ne_true
  | _ => cases y <;> exact absurd (show false = true from hs) Bool.false_ne_true
theorem op_lt : OpR X (compareOp .Lt) (rI0 fun i j => .bl (decide (i < j))) := opB0 fun _ _ _ _ _ _ _ q => lt_int q
theorem op_le : OpR X (compareOp .LtE) (rI0 fun i j => .bl (decide (i ≤ j))) := opB0 fun _ _ _ _ _ _ _ q => le_int q
theorem op_notin_str : OpR X (compareOp .NotIn) (fun x y H Q => ∃ i j, x = .str i ∧ y = .str j ∧ Q (.bl (!(!(Builtin.Str.occurrences j i 0 j.length 1).isEmpty))) H) := by
  intro pins s σ H x y v u Q I rx ry h
  obtain ⟨i, j, rfl, rfl, q⟩ := h
  obtain ⟨t, rfl⟩ := rx
  obtain ⟨t', rfl⟩ := ry
  exact notIn_str (fin_bl I q rfl)
/-- two rules for one operation: by cases -/
theorem OpR.or {f : Value → Value → Sem Value} {r r' : R2} (h : OpR X f r) (h' : OpR X f r') : OpR X f (fun x y H Q => r x y H Q ∨ r' x y H Q) := by
  intro pins s σ H x y v u Q I rx ry q
  rcases q with q | q
  · exact h pins s σ H x y v u Q I rx ry q
  · exact h' pins s σ H x y v u Q I rx ry q
theorem nomark (b : Expr) {op : CmpOp} (h : op ≠ .In := by decide) (h2 : op ≠ .NotIn := by decide) : behindInMarks op b = false := by
  have e1 : (op == CmpOp.In) = false := by cases op <;> first | rfl | exact absurd rfl h
  have e2 : (op == CmpOp.NotIn) = false := by cases op <;> first | rfl | exact absurd rfl h2
  cases b <;> simp [behindInMarks, e1, e2]
/-- a comparison as a value; hm: nomark b, or (for in, not in) by with_unfolding_all rfl -/
theorem pe_cmpR {op : CmpOp} {r : R2} (ho : OpR X (compareOp op) r) (ha : PE X a ta) (hb : PE X b tb) (hm : behindInMarks op b = false) : PE X (.Compare a [op] [b] pos) (tOp r ta tb) := by
  intro pins s σ H Q I h
  exact wpAny_Compare1 (binT ha hb I h fun v u s2 x y H2 I2 rx ry q => ho pins s2 σ H2 x y v u Q I2 rx ry q) hm
/-- a reading of a value as a test -/
def tTest (t : TE) : TT := fun σ H Q => t σ H fun x H' => ∃ k, x = .bl k ∧ Q k H'
theorem pt_cmpR {op : CmpOp} {r : R2} (ho : OpR X (compareOp op) r) (ha : PE X a ta) (hb : PE X b tb) (hm : behindInMarks op b = false) : PT X (.Compare a [op] [b] pos) (tTest (tOp r ta tb)) := by
  intro pins s σ H Q I h
  refine wpAny_isTrue_Compare1 (thn (ha pins s σ H _ I h) fun v s1 ⟨x, H1, I1, r1, q1⟩ => thn (hb pins s1 σ H1 _ I1 q1) fun u s2 ⟨y, H2, I2, r2, q2⟩ =>
    thn (ho pins s2 σ H2 x y v u _ I2 r1 r2 q2) fun c s3 ⟨z, H3, I3, r3, k, e, q3⟩ => ?_) hm
  subst e
  cases r3
  exact wpAny_truthy_bool ⟨H3, I3, q3⟩
/-- a op1 b op2 c -/
def tChain (r r' : R2) (ta tb tc : TE) : TE := fun σ H Q => ta σ H fun x H1 => tb σ H1 fun y H2 => r x y H2 fun z H3 => ∃ k, z = .bl k ∧
  (if k = true then tc σ H3 fun w' H4 => r' y w' H4 Q else Q (.bl false) H3)
theorem pt_chain {op op' : CmpOp} {r r' : R2} (ho : OpR X (compareOp op) r) (ho' : OpR X (compareOp op') r') (ha : PE X a ta) (hb : PE X b tb) (hc : PE X c tc)
    (hm : lastMarks [op, op'] [b, c] = false := by with_unfolding_all rfl) : PT X (.Compare a [op, op'] [b, c] pos) (tTest (tChain r r' ta tb tc)) := by
  intro pins s σ H Q I h
  refine isTrue_chain (thn (ha pins s σ H _ I h) fun v s1 ⟨x, H1, I1, r1, q1⟩ => test_link (thn (hb pins s1 σ H1 _ I1 q1) fun u s2 ⟨y, H2, I2, r2, q2⟩ =>
    thn (ho pins s2 σ H2 x y v u _ I2 r1 r2 q2) fun d s3 ⟨z, H3, I3, r3, k, e, q3⟩ => ?_)) hm
  subst e
  cases r3
  refine wpAny_truthy_bool ?_
  cases k with
  | false =>
    obtain ⟨k', e', q'⟩ := q3
    cases e'
    exact ite_ff ⟨H3, I3, q'⟩
  | true =>
    refine ite_tt (test_last (thn (hc pins s3 σ H3 _ I3 q3) fun w' s4 ⟨z', H4, I4, r4, q4⟩ => thn (ho' pins s4 σ H4 y z' u w' _ I4 r2 r4 q4) fun d' s5 ⟨z2, H5, I5, r5, k2, e2, q5⟩ => ?_))
    subst e2
    cases r5
    exact wpAny_truthy_bool ⟨H5, I5, q5⟩
/-! ### truth -/
/-- a value's truth by the abstract heap -/
def TruV (K : PySem.W.Frag) (x : V) (H : Hp) (k : Bool) : Prop :=
  match x with
  | .non => k = false
  | .bl b => k = b
  | .int i => k = (i != 0)
  | .str y => y.length ≤ sizeLine ∧ k = ((y.length : Int) != 0)
  | .byt y => y.size ≤ sizeLine ∧ k = ((y.size : Int) != 0)
  | .ref p => (∃ xs, SqL K H p xs ∧ k = !xs.isEmpty) ∨ (∃ xs, SqT K H p xs ∧ k = !xs.isEmpty) ∨ ∃ kvs, H p = some (.dK kvs) ∧ k = !kvs.isEmpty
  | _ => False
theorem isEmpty_kv {κ : Type} {kvs : List (κ × V)} {vs : List (κ × Value)} (r : KV kvs vs) : (!vs.isEmpty) = !kvs.isEmpty := by
  cases r <;> rfl
theorem isEmpty_of {xs : List V} {its : List Value} (r : Vals xs its) : (!its.toArray.isEmpty) = !xs.isEmpty := by
  cases r <;> simp
theorem line63 : (sizeLine : Nat) < 2 ^ 63 := by rw [sizeLine_eq]; decide
theorem tru_ok : TruR X (fun x H Q => ∃ k, TruV X.K x H k ∧ Q k H) := by
  intro pins s σ H x v Q I rx h
  obtain ⟨k, e, q⟩ := h
  have hl := line63
  have hs : sizeLine = 16777216 := sizeLine_eq
  cases x with
  | non =>
    cases rx
    have e' : k = false := e
    subst e'
    exact truthy_none ⟨H, I, q⟩
  | bl b =>
    cases rx
    have e' : k = b := e
    subst e'
    exact wpAny_truthy_bool ⟨H, I, q⟩
  | int i =>
    obtain ⟨t, rfl⟩ := rx
    have e' : k = (i != 0) := e
    subst e'
    exact PySem.P.truthy_int ⟨H, I, q⟩
  | str y =>
    obtain ⟨t, rfl⟩ := rx
    obtain ⟨hy, e'⟩ : y.length ≤ sizeLine ∧ k = ((y.length : Int) != 0) := e
    subst e'
    exact PySem.P.truthy_str (by omega) ⟨H, I.tok _, q⟩
  | byt y =>
    obtain ⟨t, rfl⟩ := rx
    obtain ⟨hy, e'⟩ : y.size ≤ sizeLine ∧ k = ((y.size : Int) != 0) := e
    subst e'
    exact PySem.W.truthy_bytes (by omega) ⟨H, I.tok _, q⟩
  | ref p =>
    cases rx
    have e' : (∃ xs, SqL X.K H p xs ∧ k = !xs.isEmpty) ∨ (∃ xs, SqT X.K H p xs ∧ k = !xs.isEmpty) ∨ ∃ kvs, H p = some (.dK kvs) ∧ k = !kvs.isEmpty := e
    rcases e' with ⟨xs, hx, e'⟩ | ⟨xs, hx, e'⟩ | ⟨kvs, hx, e'⟩
    · subst e'
      obtain ⟨its, r, pl, hz⟩ := I.list hx
      have hlen := r.length
      exact wpAny_truthy_list pl.isList (by simp only [List.size_toArray]; omega) ⟨H, I.tok _, by rw [isEmpty_of r]; exact q⟩
    · subst e'
      obtain ⟨its, r, pl, hz⟩ := I.tuple hx
      have hlen := r.length
      exact truthy_tuple pl (by simp only [List.size_toArray]; omega) ⟨H, I.tok _, by rw [isEmpty_of r]; exact q⟩
    · subst e'
      obtain ⟨hz, hS, vs, r, m⟩ : kvs.length ≤ sizeLine ∧ (p == sysModules) = false ∧ ∃ vs, KV kvs vs ∧ s.heap.DictOf (mixKind X.prog X.w) p vs := I.hok p _ hx
      have hlen : kvs.length = vs.length := Paired.length r
      exact wpAny_truthy_dict hS m (by omega) ⟨H, I.tok _, by rw [isEmpty_kv r]; exact q⟩
  | _ => exact (show False from e).elim
/-- any expression whose test is its value's truth (a name, a call, a subscript, a field ..: he by fun _ => rfl) -/
theorem pt_truth (ha : PE X a ta) (he : ∀ whole, isTrue a X.env whole = (do let v ← whole; standAt a.pos; holding [v] (truthy v))) :
    PT X a (fun σ H Q => ta σ H fun x H' => ∃ k, TruV X.K x H' k ∧ Q k H') := by
  intro pins s σ H Q I h
  exact isTrue_plain (thn (ha pins s σ H _ I h) fun v s1 ⟨x, H1, I1, r1, q1⟩ => tru_ok pins s1 σ H1 x v Q I1 r1 q1) (he _)
/-! ### strs and bytes -/
theorem op_add_str : OpR X (binaryOp .Add) (fun x y H Q => ∃ i j, x = .str i ∧ y = .str j ∧ i.length + j.length ≤ sizeLine ∧ Q (.str (i ++ j)) H) := by
  intro pins s σ H x y v u Q I rx ry h
  obtain ⟨i, j, rfl, rfl, hz, q⟩ := h
  obtain ⟨t, rfl⟩ := rx
  obtain ⟨t', rfl⟩ := ry
  exact add_str (fun t' tk => ⟨.str (i ++ j), H, I.tok _, ⟨_, rfl⟩, q⟩) hz
/-! ### scalar builtins, by CallR -/
theorem vals1 {x : V} {us : List Value} (r : Vals [x] us) : ∃ u, us = [u] ∧ RelV x u := by
  cases r with
  | cons r1 r2 => cases r2; exact ⟨_, rfl, r1⟩
theorem vals2 {x y : V} {us : List Value} (r : Vals [x, y] us) : ∃ u w', us = [u, w'] ∧ RelV x u ∧ RelV y w' := by
  cases r with
  | cons r1 r2 =>
    cases r2 with
    | cons r3 r4 => cases r4; exact ⟨_, _, rfl, r1, r3⟩
end
end L2

namespace L2
open PySem PySem.Spec PyProof.Rows

/-! ### an instance, its attributes a map -/
structure ObjM (h : Heap) (x dx C : Addr) (mA : Str → Option Value) : Prop where
  obj : h.get? x = some (PySem.W.instObj C dx)
  ns : h.Ns1 dx mA
  ne : dx ≠ x
theorem lookIn_ns {h : Heap} {dx : Addr} {mA : Str → Option Value} (n : h.Ns1 dx mA) : ∃ od, h.get? dx = some od ∧ ∀ name, PySem.W.lookIn name od = some (mA name) := by
  obtain ⟨o, es, ep, ho, hd, hk, _, hm⟩ := n
  refine ⟨o, ho, fun name => ?_⟩
  have e := hm name
  unfold nsFind findBy at e
  rw [← Array.find?_toList] at e
  unfold PySem.W.lookIn
  rw [hd]
  dsimp only
  split
  · rename_i y q
    rw [q] at e
    exact congrArg some e
  · rename_i q
    rw [q] at e
    have a : es.toList.any (·.refKey) = false := by
      rw [List.any_eq_false]
      intro y hy
      obtain ⟨z, t, hkey⟩ := hk y (Array.mem_toList_iff.mp hy)
      simp [DictEntry.refKey, hkey]
    have a' : ¬ es.toList.any (·.refKey) = true := by rw [a]; exact Bool.false_ne_true
    rw [if_neg a']
    exact congrArg some e
theorem ObjM.look {h : Heap} {x dx C : Addr} {mA : Str → Option Value} (I : ObjM h x dx C mA) : ∃ od, PySem.W.InstAt h x (PySem.W.instObj C dx) C (some od) ∧ ∀ name, PySem.W.lookIn name od = some (mA name) :=
  let ⟨od, ho, hl⟩ := lookIn_ns I.ns
  ⟨od, ⟨I.obj, rfl, rfl, ho⟩, hl⟩
section
variable {prog : Program} {w : World} {A : Around} {E : Value → Shared → Prop} {s : Shared} {K : PySem.W.Frag} {x dx C f : Addr} {mA : Str → Option Value} {name : Str} {v : Value}

theorem get_map {expr : Bool} {Q : Value → Shared → Prop} (X : K.In s.heap) (I : ObjM s.heap x dx C mA) (hg : PySem.W.plainGet K C name = true) (hh : PySem.W.hasDictIn K C = true)
    (ha : PySem.W.findIn K (.ref C) name = some none) (hv : mA name = some v) (hv' : PySem.W.handedIn v = true) (h : Q v { s with toks := s.toks + 1 }) :
    wpAny (model prog w) A (getAttr (.ref x) name expr) Q E s := by
  obtain ⟨od, J, hl⟩ := I.look
  exact PySem.W.get_value X J (PySem.W.plainGet_of hg).1 (PySem.W.findObj_own hh ha rfl (by rw [hl, hv])) hv' h
theorem get_meth {pl : Sem Bool} {Q : Value × List Value → Shared → Prop} (X : K.In s.heap) (I : ObjM s.heap x dx C mA) (hg : PySem.W.plainGet K C name = true)
    (hf : PySem.W.findIn K (.ref C) name = some (some (.ref f))) (ht : PySem.W.isFn K (.ref f) = true) (hv : mA name = none) (h : Q (.ref f, [.ref x]) s) :
    wpAny (model prog w) A (getMethod (.ref x) name pl) Q E s := by
  obtain ⟨od, J, hl⟩ := I.look
  exact PySem.W.method_fn X J (PySem.W.plainGet_of hg).1 (PySem.W.plainGet_of hg).2 hf (beq_iff_eq.mp ht) (by show (PySem.W.lookIn name od).map (·.isSome) = some false; rw [hl, hv]; rfl) h
theorem set_map {ns : List Str} {Q : Unit → Shared → Prop} (X : K.In s.heap) (I : ObjM s.heap x dx C mA)
    (hs : PySem.W.findIn K (.ref C) "__setattr__" = some (some (.builtin "object.__setattr__"))) (hp : PySem.W.plainOver K C = true) (ht : PySem.W.takerIn K C name = some none) (hh : PySem.W.hasDictIn K C = true)
    (hw : PySem.Within mA ns) (hsz : ns.length ≤ sizeLine)
    (h : ∀ h', ObjM h' x dx C (fun y => if y = name then some v else mA y) → Heap.SameBut dx s.heap h' → Q () { s with heap := h', toks := s.toks + 2 }) :
    wpAny (model prog w) A (setAttr (.ref x) name v) Q E s := by
  obtain ⟨od, J, hl⟩ := I.look
  refine PySem.W.set_plain X J hs (PySem.W.osa_open (s := { s with toks := s.toks + 1 }) (r := none) X J hp ht fun b => ?_)
  obtain ⟨cd, hc, hd'⟩ := PySem.W.any_some hh
  have hx : s.heap.get? x = some ⟨.ref C, some dx, .plain, #[]⟩ := I.obj
  refine wpAny_bind (wpAny_pure (wpAny_bind (wpAny_bind (wpAny_loadPart hx (wpAny_bind (PySem.W.Looks.here (s := { s with toks := s.toks + 1 }) (PySem.W.looks_clsIn X hc) ?_))))))
  rw [hd']
  refine wpAny_pure (a := some dx) (wpAny_bind (wpAny_pure (wpAny_bind ?_)))
  refine wpAny_nsSet1 (s := { s with toks := s.toks + 1 }) I.ns fun h' hn2 hs2 => ?_
  obtain ⟨oD, esD, epD, hoD, hdD, hcD⟩ := hn2.count (PySem.Within.cons name v hw)
  refine wpAny_bind (wpAny_lookBehind hoD (by rw [hdD]; exact pastItsLine_dict (Nat.le_trans hcD (by rw [List.length_cons]; omega))) ?_)
  exact wpAny_pure (h _ ⟨(hs2.2 _ (Ne.symm I.ne)).trans I.obj, hn2, I.ne⟩ hs2)
/-- C(..): the dict at the heap's end, the instance behind it; then its __init__ -/
theorem make_map {R : Result → Shared → Prop} {vs : List Value} {kw : List (Str × Value)} (X : K.In s.heap) (hm : PySem.W.makesIn K C = true)
    (hi : PySem.W.findIn K (.ref C) "__init__" = some (some (.ref f))) (hf : PySem.W.typeIn K (.ref f) = some (.type "function"))
    (h : codeAny (model prog w) (A.under (.builtin "type.__call__" ⟨.ref C :: vs, kw⟩)) (.call (.ref f) ⟨.ref (s.heap.objs.size + 1) :: vs, kw⟩) (PySem.W.InitBack (s.heap.objs.size + 1) R)
      { s with heap := (s.heap.push PySem.W.emptyDict).push (PySem.W.instObj C s.heap.objs.size) }) :
    codeAny (model prog w) A (.call (.ref C) ⟨vs, kw⟩) R s := by
  obtain ⟨hh, g, d, t, os⟩ := s
  exact PySem.W.make_core (PySem.W.makes_of X hm) (PySem.W.looks_findIn X hi) (fun self => PySem.W.bind_fn X self hf) (.inl rfl) h
end

/-! ### the attributes as a list of pairs -/
def putF (f : Str) (v : V) : List (Str × V) → List (Str × V)
  | [] => [(f, v)]
  | (g, x) :: r => if g = f then (g, v) :: r else (g, x) :: putF f v r
theorem lookup_putF (f g : Str) (v : V) : ∀ fs : List (Str × V), (putF f v fs).lookup g = if g = f then some v else fs.lookup g
  | [] => by
    show List.lookup g [(f, v)] = _
    by_cases h : g = f
    · have hb : (g == f) = true := beq_iff_eq.mpr h
      simp only [List.lookup, hb, if_pos h]
    · have hb : (g == f) = false := beq_eq_false_iff_ne.mpr h
      simp only [List.lookup, hb, if_neg h]
  | (k, x) :: r => by
    have ih := lookup_putF f g v r
    rw [show putF f v ((k, x) :: r) = (if k = f then (k, v) :: r else (k, x) :: putF f v r) from rfl]
    by_cases hk : k = f
    · rw [if_pos hk]
      by_cases h : g = k
      · have hb : (g == k) = true := beq_iff_eq.mpr h
        simp only [List.lookup, hb, if_pos (h.trans hk)]
      · have hb : (g == k) = false := beq_eq_false_iff_ne.mpr h
        simp only [List.lookup, hb, if_neg (fun e : g = f => h (e.trans hk.symm))]
    · rw [if_neg hk]
      by_cases h : g = k
      · have hb : (g == k) = true := beq_iff_eq.mpr h
        simp only [List.lookup, hb, if_neg (fun e : g = f => hk (h.symm.trans e))]
      · have hb : (g == k) = false := beq_eq_false_iff_ne.mpr h
        simp only [List.lookup, hb]
        exact ih
theorem keys_putF (f : Str) (v : V) : ∀ fs : List (Str × V), f ∈ (putF f v fs).map (·.1) ∧ ∀ g, g ∈ fs.map (·.1) → g ∈ (putF f v fs).map (·.1)
  | [] => ⟨by simp [putF], fun g h => by simp at h⟩
  | (k, x) :: r => by
    obtain ⟨i1, i2⟩ := keys_putF f v r
    rw [show putF f v ((k, x) :: r) = (if k = f then (k, v) :: r else (k, x) :: putF f v r) from rfl]
    by_cases hk : k = f
    · rw [if_pos hk]
      subst hk
      exact ⟨by simp, fun g h => by simpa using h⟩
    · rw [if_neg hk]
      refine ⟨?_, fun g h => ?_⟩
      · rw [List.map_cons]
        exact List.mem_cons_of_mem _ i1
      · rw [List.map_cons] at h ⊢
        rcases List.mem_cons.mp h with e | e
        · exact List.mem_cons.mpr (.inl e)
        · exact List.mem_cons_of_mem _ (i2 g e)
theorem length_putF (f : Str) (v : V) : ∀ fs : List (Str × V), (putF f v fs).length ≤ fs.length + 1
  | [] => by simp [putF]
  | (k, x) :: r => by
    have ih := length_putF f v r
    rw [show putF f v ((k, x) :: r) = (if k = f then (k, v) :: r else (k, x) :: putF f v r) from rfl]
    by_cases hk : k = f
    · rw [if_pos hk, List.length_cons, List.length_cons]; omega
    · rw [if_neg hk, List.length_cons, List.length_cons]; omega
theorem RelO.some_of {v : V} {o : Option Value} (r : RelO (some v) o) : ∃ u, o = some u ∧ RelV v u := by
  cases o with
  | none => exact (show False from r).elim
  | some u => exact ⟨u, rfl, r⟩
theorem RelO.none_of {o : Option Value} (r : RelO none o) : o = none := by
  cases o with
  | none => rfl
  | some u => exact (show False from r).elim
theorem handed_of {v : V} {u : Value} (r : RelV v u) : PySem.W.handedIn u = true := by
  cases v with
  | non => cases (show u = Value.none from r); rfl
  | bl b => cases (show u = Value.bool b from r); rfl
  | int i => obtain ⟨t, e⟩ := (show ∃ t, u = Value.int i t from r); cases e; rfl
  | str x => obtain ⟨t, e⟩ := (show ∃ t, u = Value.str x t from r); cases e; rfl
  | byt b => obtain ⟨t, e⟩ := (show ∃ t, u = Value.bytes b t from r); cases e; rfl
  | flt b => obtain ⟨t, e⟩ := (show ∃ t, u = Value.float b t from r); cases e; rfl
  | ref a => cases (show u = Value.ref a from r); rfl
  | ty n => cases (show u = Value.type n from r); rfl
section
variable {P : Program} {w : World} {H H' : Hp} {h h' : Heap} {a C dx : Addr} {fs fs' : List (Str × V)}
theorem ins_get (hok : HOk P w H h) (e : H a = some (.ins C dx fs)) : ∃ mA, ObjM h a dx C mA ∧ (∀ f, RelO (fs.lookup f) (mA f)) ∧ PySem.Within mA (fs.map (·.1)) ∧ fs.length ≤ 1000 ∧ H dx = some (.own a) := by
  obtain ⟨d, z, ne, ob, mA, n, r, q⟩ := (show ObjOk P w H h a (.ins C dx fs) from hok a _ e)
  exact ⟨mA, ⟨ob, n, ne⟩, r, q, z, d⟩
end

/-! ### what of the text a class must have -/
structure Cls (K : PySem.W.Frag) (C : Addr) : Prop where
  pg : PySem.W.plainGet K C Str.empty = true
  hd : PySem.W.hasDictIn K C = true
  po : PySem.W.plainOver K C = true
  sa : PySem.W.findIn K (.ref C) "__setattr__" = some (some (.builtin "object.__setattr__"))
theorem Cls.get {K : PySem.W.Frag} {C : Addr} (c : Cls K C) (f : Str) : PySem.W.plainGet K C f = true := c.pg
/-- no class of it has the name -/
def NoAttr (K : PySem.W.Frag) (C : Addr) (f : Str) : Prop := PySem.W.findIn K (.ref C) f = some none
theorem NoAttr.taker {K : PySem.W.Frag} {C : Addr} {f : Str} (n : NoAttr K C f) : PySem.W.takerIn K C f = some none := by
  unfold PySem.W.takerIn
  rw [show PySem.W.findIn K (.ref C) f = some none from n]
  rfl
/-- a method: a plain def of the class or of one above it -/
structure Meth (K : PySem.W.Frag) (C : Addr) (m : Str) (f : Addr) : Prop where
  at_ : PySem.W.findIn K (.ref C) m = some (some (.ref f))
  fn : PySem.W.isFn K (.ref f) = true
  kp : PySem.W.keepIn K (.ref f) = true
section
variable {X : Cx} {pins : List (Addr × Obj)} {σ : St} {H : Hp} {s : Shared} {a C dx : Addr} {fs : List (Str × V)} {f : Str} {v : V} {A : Around} {E : Value → Shared → Prop}

theorem getattr_ok {b : Bool} {Q : Value → Shared → Prop} (I : Inv X pins σ H s) (e : H a = some (.ins C dx fs)) (c : Cls X.K C) (n : NoAttr X.K C f) (l : fs.lookup f = some v)
    (h : ∀ u s', Inv X pins σ H s' → RelV v u → Q u s') : wpAny (model X.prog X.w) A (getAttr (.ref a) f b) Q E s := by
  obtain ⟨mA, O, r, _, _, _⟩ := ins_get I.hok e
  obtain ⟨u, hu, ru⟩ := RelO.some_of (v := v) (o := mA f) (by rw [← l]; exact r f)
  exact get_map I.kIn O (c.get f) c.hd n hu (handed_of ru) (h u _ (I.tok _) ru)
theorem getmeth_ok {m : Str} {g : Addr} {pl : Sem Bool} {Q : Value × List Value → Shared → Prop} (I : Inv X pins σ H s) (e : H a = some (.ins C dx fs)) (c : Cls X.K C) (k : Meth X.K C m g) (l : fs.lookup m = none)
    (h : Q (.ref g, [.ref a]) s) : wpAny (model X.prog X.w) A (getMethod (.ref a) m pl) Q E s := by
  obtain ⟨mA, O, r, _, _, _⟩ := ins_get I.hok e
  have hn : mA m = none := RelO.none_of (by rw [← l]; exact r m)
  exact get_meth I.kIn O (c.get m) k.at_ k.fn hn h
theorem setattr_ok {y : V} {u : Value} {Q : Unit → Shared → Prop} (I : Inv X pins σ H s) (e : H a = some (.ins C dx fs)) (c : Cls X.K C) (n : NoAttr X.K C f) (hl : fs.length < 1000) (ry : RelV y u)
    (h : ∀ s', Inv X pins σ (upd H a (.ins C dx (putF f y fs))) s' → Q () s') : wpAny (model X.prog X.w) A (setAttr (.ref a) f u) Q E s := by
  obtain ⟨mA, O, r, wi, _, ho⟩ := ins_get I.hok e
  have hz : (fs.map (·.1)).length ≤ sizeLine := by rw [List.length_map, sizeLine_eq]; omega
  refine set_map I.kIn O c.sa c.po n.taker c.hd wi hz fun h' O' sb => h _ ?_
  have hd : ∃ o, h'.get? dx = some o := let ⟨o, _, _, e', _⟩ := O'.ns; ⟨o, e'⟩
  refine I.write (x := a) (e := dx) (by rw [e]; exact True.intro) (.inr ho) (fun b q hb z => (sb.2 b hb).trans z) hd ?_
  refine ⟨by rw [upd_ne O.ne]; exact ho, ?_, O.ne, O'.obj, _, O'.ns, fun g => ?_, fun g hg => ?_⟩
  · have := length_putF f y fs; omega
  · show RelO ((putF f y fs).lookup g) (if g = f then some u else mA g)
    rw [lookup_putF]
    by_cases q : g = f
    · rw [if_pos q, if_pos q]; exact ry
    · rw [if_neg q, if_neg q]; exact r g
  · by_cases q : g = f
    · rw [q]; exact (keys_putF f y fs).1
    · refine (keys_putF f y fs).2 g (wi g fun z => hg ?_)
      show (if g = f then some u else mA g) = none
      rw [if_neg q]; exact z
/-- a new instance, tracked, without attributes -/
theorem Inv.made (I : Inv X pins σ H s) : Inv X pins σ (upd (upd H s.heap.objs.size (.own (s.heap.objs.size + 1))) (s.heap.objs.size + 1) (.ins C s.heap.objs.size []))
    { s with heap := (s.heap.push PySem.W.emptyDict).push (PySem.W.instObj C s.heap.objs.size) } := by
  have e1 : (s.heap.push PySem.W.emptyDict).get? s.heap.objs.size = some PySem.W.emptyDict := Heap.get?_push_size s.heap rfl
  have e2 : ((s.heap.push PySem.W.emptyDict).push (PySem.W.instObj C s.heap.objs.size)).get? (s.heap.objs.size + 1) = some (PySem.W.instObj C s.heap.objs.size) := by
    have := Heap.get?_push_size (s.heap.push PySem.W.emptyDict) (o := PySem.W.instObj C s.heap.objs.size) rfl
    rwa [Heap.size_push] at this
  have e3 : (s.heap.push PySem.W.emptyDict).Ns s.heap.objs.size (fun _ => none) := ⟨PySem.W.emptyDict, #[], _, e1, rfl, (fun e he => absurd he (by simp)), fun _ => rfl⟩
  have I1 := I.laid (a := s.heap.objs.size) (o := .own (s.heap.objs.size + 1)) (h' := s.heap.push PySem.W.emptyDict) (t' := s.toks) (fun b u q => Heap.get?_push_of_some _ q) (Nat.le_refl _) ⟨_, e1⟩
  refine I1.laid (a := s.heap.objs.size + 1) (o := .ins C s.heap.objs.size []) (t' := s.toks) (fun b u q => Heap.get?_push_of_some _ q) (Nat.le_of_eq (Heap.size_push _ _)) ?_
  have ne : s.heap.objs.size ≠ s.heap.objs.size + 1 := Nat.ne_of_lt (Nat.lt_succ_self _)
  refine ⟨by rw [upd_ne ne, upd_same], Nat.zero_le _, ne, e2, fun _ => none, (Heap.Ns1.of_empty e3).at fun o q => Heap.get?_push_of_some _ q, fun _ => True.intro, fun y hy => absurd rfl hy⟩
/-- e.f where nothing but the object is asked: through attributeBase (super) and the last hold -/
theorem attr_of {prog : Program} {w : World} {env : Env} {e : Expr} {f : Str} {pos : Pos} {s : Shared} {Q : Value → Shared → Prop} (hb : attributeBase e f env (eval e env) = eval e env)
    (h : wpAny (model prog w) A (eval e env) (fun o s₁ => wpAny (model prog w) A (getAttr o f true) Q E s₁) E s) : wpAny (model prog w) A (eval (.Attribute e f pos) env) Q E s :=
  Attribute_any_ h (by rw [arm_eval_Attribute, hb])
end

/-! ### readings and rules -/
/-- e.f, an attribute of the instance -/
def tFld (K : PySem.W.Frag) (ta : TE) (f : Str) : TE := fun σ H Q => ta σ H fun x H1 => ∃ a C dx fs v, x = .ref a ∧ H1 a = some (.ins C dx fs) ∧ Cls K C ∧ NoAttr K C f ∧ fs.lookup f = some v ∧ Q v H1
/-- e.f = value -/
def sFld (K : PySem.W.Frag) (ta tv : TE) (f : Str) : TS := fun D σ H => tv σ H fun y H1 => ta σ H1 fun x H2 => ∃ a C dx fs, x = .ref a ∧ H2 a = some (.ins C dx fs) ∧ Cls K C ∧ NoAttr K C f ∧ fs.length < 1000 ∧
  D.nx σ (upd H2 a (.ins C dx (putF f y fs)))
section
variable {X : Cx} {o e value : Expr} {f : Str} {pos pos' tpos : Pos} {ta tv : TE}
theorem pe_fld (he : PE X e ta) (hb : attributeBase e f X.env (eval e X.env) = eval e X.env) : PE X (.Attribute e f pos) (tFld X.K ta f) := by
  intro pins s σ H Q I h
  refine attr_of hb (thn (he pins s σ H _ I h) fun u s1 ⟨x, H1, I1, rx, a, C, dx, fs, v, ex, ea, c, n, l, q⟩ => ?_)
  subst ex
  obtain rfl : u = Value.ref a := rx
  exact getattr_ok I1 ea c n l fun u' s2 I2 ru => ⟨v, H1, I2, ru, q⟩
theorem ps_fld (ha : PE X o ta) (hv : PE X value tv) (hs : swapsWith value (some (.Attribute o f pos')) pos.line X.env = pure false) : PS X (.Assign [.Attribute o f pos'] value pos) (sFld X.K ta tv f) := by
  intro pins s σ H D I h
  refine plainObj_wpAny_Assign_Attribute (thn (hv pins s σ H _ I h) fun u s1 ⟨y, H1, I1, ry, q⟩ => thn (ha pins s1 σ H1 _ I1 q) fun ov s2 ⟨x, H2, I2, rx, a, C, dx, fs, ex, ea, c, n, l, q2⟩ => ?_) hs
  subst ex
  obtain rfl : ov = Value.ref a := rx
  exact setattr_ok I2 ea c n l ry fun s3 I3 => ⟨σ, _, I3, q2⟩
end

/-! ### isinstance -/
section
variable {X : Cx} {pins : List (Addr × Obj)} {σ : St} {H : Hp} {s : Shared} {A : Around} {E : Value → Shared → Prop} {Q : Value → Shared → Prop} {c : Value} {b : Bool}
/-- the type of a value, as the fragment's deciders take it; for an instance its class -/
inductive TyOf (K : PySem.W.Frag) (H : Hp) : V → Value → Prop where
  | non : TyOf K H .non (.type "NoneType")
  | bl (x : Bool) : TyOf K H (.bl x) (.type "bool")
  | int (i : Int) : TyOf K H (.int i) (.type "int")
  | str (x : Str) : TyOf K H (.str x) (.type "str")
  | flt (x : UInt64) : TyOf K H (.flt x) (.type "float")
  | lst {a : Addr} {xs : List V} (e : H a = some (.lst xs)) : TyOf K H (.ref a) (.type "list")
  | frz {a : Addr} {o : Obj} {xs : List V} (e : H a = some (.frz o (.lst xs))) : TyOf K H (.ref a) (.type "list")
  | tup {a : Addr} {xs : List V} (e : H a = some (.tup xs)) : TyOf K H (.ref a) (.type "tuple")
  | dK {a : Addr} {kvs : List (Key × V)} (e : H a = some (.dK kvs)) : TyOf K H (.ref a) (.type "dict")
  | dT {a : Addr} {kvs : List (List Key × V)} (e : H a = some (.dT kvs)) : TyOf K H (.ref a) (.type "dict")
  | ins {a C dx : Addr} {fs : List (Str × V)} (e : H a = some (.ins C dx fs)) (cl : Cls K C) (ha : PySem.W.findIn K (.ref C) "__class__" = some (some (.builtin "object.__class__")))
      (hn : PySem.W.specialIn K (.builtin "object.__class__") "__get__" = some (some (.builtin "getset_descriptor.__get__"))) (htk : PySem.W.takesIn K (.builtin "object.__class__") = some true)
      (hm : PySem.W.mroIn K C (.type "object") = some true) : TyOf K H (.ref a) (.ref C)
/-- isinstance(x, c) for one class c, a built-in or an own one: kitOne's answer -/
theorem isinst_ok {x : V} {u t : Value} (I : Inv X pins σ H s) (rx : RelV x u) (ty : TyOf X.K H x t) (e : PySem.W.kitOne X.K t c = some b) (h : ∀ tk, Q (.bool b) { s with toks := tk }) :
    wpAny (model X.prog X.w) A (call (.builtin "isinstance") [u, c]) Q E s := by
  cases ty with
  | non => cases (show u = Value.none from rx); exact PySem.W.kia_one PySem.W.kitx_none I.kIn True.intro e (fun z => nomatch z) h
  | bl y => cases (show u = Value.bool y from rx); exact PySem.W.kia_one PySem.W.kitx_bool I.kIn True.intro e (fun z => nomatch z) h
  | int i => obtain ⟨t, q⟩ := (show ∃ t, u = Value.int i t from rx); cases q; exact PySem.W.kia_one PySem.W.kitx_int I.kIn True.intro e (fun z => nomatch z) h
  | str y => obtain ⟨t, q⟩ := (show ∃ t, u = Value.str y t from rx); cases q; exact PySem.W.kia_one PySem.W.kitx_str I.kIn True.intro e (fun z => nomatch z) h
  | flt y => obtain ⟨t, q⟩ := (show ∃ t, u = Value.float y t from rx); cases q; exact PySem.W.kia_one PySem.W.kitx_float I.kIn True.intro e (fun z => nomatch z) h
  | @lst a xs ea =>
    cases (show u = Value.ref a from rx)
    obtain ⟨_, _, n, _, h1⟩ := (show ObjOk X.prog X.w H s.heap a (.lst xs) from I.hok a _ ea)
    exact PySem.W.kia_one PySem.W.kitx_list I.kIn ⟨_, h1, rfl⟩ e (fun z => nomatch z) h
  | @frz a ob xs ea =>
    cases (show u = Value.ref a from rx)
    obtain ⟨_, _, _, n, _, h1⟩ := (show ObjOk X.prog X.w H s.heap a (.frz ob (.lst xs)) from I.hok a _ ea)
    exact PySem.W.kia_one PySem.W.kitx_list I.kIn ⟨_, h1, rfl⟩ e (fun z => nomatch z) h
  | @tup a xs ea =>
    cases (show u = Value.ref a from rx)
    obtain ⟨_, _, _, p⟩ := (show ObjOk X.prog X.w H s.heap a (.tup xs) from I.hok a _ ea)
    obtain ⟨o, h1, h2, _⟩ := p
    exact PySem.W.kia_one PySem.W.kitx_tuple I.kIn ⟨o, h1, h2⟩ e (fun z => nomatch z) h
  | @dK a kvs ea =>
    cases (show u = Value.ref a from rx)
    obtain ⟨_, _, vs, _, p⟩ := (show ObjOk X.prog X.w H s.heap a (.dK kvs) from I.hok a _ ea)
    obtain ⟨o, es, ep, h1, h2, _⟩ := p
    exact PySem.W.kia_one PySem.W.kitx_dict I.kIn ⟨o, h1, h2.1⟩ e (fun z => nomatch z) h
  | @dT a kvs ea =>
    cases (show u = Value.ref a from rx)
    obtain ⟨_, _, xs, _, o, es, ep, h1, h2, _⟩ := (show ObjOk X.prog X.w H s.heap a (.dT kvs) from I.hok a _ ea)
    exact PySem.W.kia_one PySem.W.kitx_dict I.kIn ⟨o, h1, h2.1⟩ e (fun z => nomatch z) h
  | @ins a C dx fs ea cl ha hn htk hm =>
    cases (show u = Value.ref a from rx)
    obtain ⟨mA, O, _⟩ := ins_get I.hok ea
    obtain ⟨od, J, _⟩ := O.look
    exact PySem.W.kia_one (PySem.W.kitx_own (cl.get _) cl.hd ha hn htk hm) I.kIn J e (fun z => nomatch z) h
end
end L2

namespace L2
open PySem PySem.Spec PyProof.Rows

/-! ### room -/
structure Room (k : Nat) (A : Around) : Prop where
  hd : A.handled = none
  dp : A.depth + 3 * k + 5 < recursionLimit
  un : A.units + 16 * k + 200 < cLine
theorem Room.mono {j k : Nat} {A : Around} (r : Room k A) (h : j ≤ k) : Room j A := ⟨r.hd, by have := r.dp; omega, by have := r.un; omega⟩
theorem Room.deeper {k : Nat} {A : Around} (r : Room (k + 1) A) (env : Env) : Room k (A.deeper env) :=
  ⟨r.hd, by have := r.dp; show A.depth + 1 + 3 * k + 5 < _; omega, by have := r.un; show A.units + 3 + 16 * k + 200 < _; omega⟩
theorem Room.in1 {k : Nat} {A : Around} (r : Room (k + 1) A) : Room k A.in1 :=
  ⟨r.hd, by have := r.dp; show A.depth + 3 * k + 5 < _; omega, by have := r.un; show A.units + 1 + 16 * k + 200 < _; omega⟩
theorem make_depth {A : Around} {C : Addr} {us : List Value} {kw : List (Str × Value)} : (A.under (.builtin "type.__call__" ⟨.ref C :: us, kw⟩)).depth = A.depth + 1 := by
  first | rfl | simp [Around.under, Code.weight, Code.isCreation, Code.isGuard, Code.isCaller, Code.frames, Code.isFrame, guardIds]
theorem make_units {A : Around} {C : Addr} {us : List Value} {kw : List (Str × Value)} : (A.under (.builtin "type.__call__" ⟨.ref C :: us, kw⟩)).units = A.units + 1 := by
  first | rfl | simp [Around.under, Code.cUnits, Code.frames, Code.isFrame]
theorem Room.make {k : Nat} {A : Around} (r : Room (k + 1) A) (C : Addr) (us : List Value) (kw : List (Str × Value)) : Room k (A.under (.builtin "type.__call__" ⟨.ref C :: us, kw⟩)) :=
  ⟨r.hd, by have := r.dp; rw [make_depth]; omega, by have := r.un; rw [make_units]; omega⟩
theorem Room.depth {k : Nat} {A : Around} (r : Room k A) : A.depth < recursionLimit := by have := r.dp; omega
theorem Room.units {k : Nat} {A : Around} (r : Room k A) : A.units + 64 < cLine := by have := r.un; omega
/-! ### argument lists and displays -/
def tNil : TA := fun _ H Q => Q [] H
def tCons (ta : TE) (tr : TA) : TA := fun σ H Q => ta σ H fun x H1 => tr σ H1 fun xs H2 => Q (x :: xs) H2
section
variable {X : Cx} {e : Expr} {es : List Expr} {te : TE} {t : TA} {pos : Pos}
theorem pa_nil : PA X [] tNil := fun _ _ _ _ H Q I h => Calls.spliced_nil ⟨[], H, I, .nil, h⟩
theorem pa_cons (ha : PE X e te) (hr : PA X es t) (hs : starEach (e :: es) X.env = (false, eval e X.env) :: starEach es X.env := by rfl) : PA X (e :: es) (tCons te t) := by
  intro pos pins s σ H Q I h
  rw [hs]
  show wpAny _ _ (spliced ((false, eval e X.env) :: backTo pos (starEach es X.env))) _ _ s
  refine Calls.spliced_cons (thn (ha pins s σ H _ I h) fun u s1 ⟨x, H1, I1, r1, q1⟩ => ?_)
  exact thn (hr pos pins s1 σ H1 _ I1 q1) fun us s2 ⟨xs, H2, I2, r2, q2⟩ => ⟨x :: xs, H2, I2, .cons r1 r2, q2⟩
def tLst (t : TA) : TE := fun σ H Q => t σ H fun xs H1 => xs.length ≤ sizeLine ∧ ∀ p, H1 p = none → Q (.ref p) (upd H1 p (.lst xs))
theorem pe_lst (h : PA X es t) : PE X (.List es pos) (tLst t) := by
  intro pins s σ H Q I hq
  refine wpAny_List_spliced (thn (h pos pins s σ H _ I hq) fun us s1 ⟨xs, H1, I1, r, z, q⟩ => ⟨by rw [← r.length]; exact z, ?_⟩)
  have hf : H1 s1.heap.objs.size = none := I1.hok.fresh (Nat.le_refl _)
  refine ⟨.ref s1.heap.objs.size, upd H1 s1.heap.objs.size (.lst xs), I1.laid (t' := s1.toks) (fun b u e => Heap.get?_push_of_some _ e) (Nat.le_refl _) ?_, rfl, q _ hf⟩
  exact ⟨z, us, 0, r, Heap.get?_push_size _ rfl⟩
end

/-! ### what a def promises -/
/-- a def's promise: the bound arguments in the parameters' order, the heap, the wanted end, the wanted exception -/
abbrev Sp := List V → Hp → VK → XK → Prop
/-- how an exception lies behind a call (file 08 gives it): the callers' frames, abstract heap and state ahead of the call, the wish, the exception, the state -/
abbrev CXT := List Env → Hp → Shared → XK → Value → Shared → Prop
/-- the state at a call -/
structure Env0 (P : Program) (w : World) (K : PySem.W.Frag) (mg : Str → Option Value) (base : Heap) (A : Around) (outer : List Env) (s : Shared) (H : Hp) : Prop where
  frames : A.frames = some outer
  mod : Mod K mg base
  bs : ∀ b o, base.get? b = some o → s.heap.get? b = some o ∧ H b = none
  bsz : base.objs.size ≤ s.heap.objs.size
  funs : s.heap.FunFrames base outer
  frf : ∀ b ∈ frs outer, H b = none
  hok : HOk P w H s.heap
  bare : AllBare s.gens
/-- a call's end -/
def CE (outer : List Env) (P : Program) (w : World) (H : Hp) (s : Shared) (Q : VK) (u : Value) (s' : Shared) : Prop :=
  ∃ v H', s'.os = s.os ∧ AllBare s'.gens ∧ Un (frs outer) [] H H' s.heap s'.heap ∧ HOk P w H' s'.heap ∧ RelV v u ∧ Q v H'
def CR (CX : CXT) (outer : List Env) (P : Program) (w : World) (H : Hp) (s : Shared) (Q : VK) (E : XK) (r : Result) (s' : Shared) : Prop :=
  match r with
  | .ok (.ret u) => CE outer P w H s Q u s'
  | .ok _ => False
  | .error e => CX outer H s E e s'
structure FnOk (P : Program) (w : World) (K : PySem.W.Frag) (mg : Str → Option Value) (base : Heap) (CX : CXT) (k : Nat) (f : Addr) (fd : FuncData) (ps : List Str) (sp : Sp) : Prop where
  len : ∀ vs H Q E, sp vs H Q E → vs.length = ps.length
  run : ∀ (A : Around) (outer : List Env) (s : Shared) (H : Hp) (args : Args) (us : List Value) (vs : List V) (Q : VK) (E : XK), Room k A → Env0 P w K mg base A outer s H → BindsTo s fd args (ps.zip us) → Vals vs us → sp vs H Q E →
    codeAny (model P w) A (.call (.ref f) args) (CR CX outer P w H s Q E) s
theorem FnOk.mono {P : Program} {w : World} {K : PySem.W.Frag} {mg : Str → Option Value} {base : Heap} {CX : CXT} {j k : Nat} {f : Addr} {fd : FuncData} {ps : List Str} {sp : Sp} (F : FnOk P w K mg base CX j f fd ps sp) (h : j ≤ k) :
    FnOk P w K mg base CX k f fd ps sp := ⟨F.len, fun A outer s H args us vs Q E hr => F.run A outer s H args us vs Q E (hr.mono h)⟩
theorem Env0.make {P : Program} {w : World} {K : PySem.W.Frag} {mg : Str → Option Value} {base : Heap} {A : Around} {outer : List Env} {s : Shared} {H : Hp} (e : Env0 P w K mg base A outer s H) (C : Addr) (us : List Value) (kw : List (Str × Value)) :
    Env0 P w K mg base (A.under (.builtin "type.__call__" ⟨.ref C :: us, kw⟩)) outer s H := ⟨by first | exact e.frames | (simpa [Around.under, Code.envs, Code.isFrame, pushEnvs] using e.frames), e.mod, e.bs, e.bsz, e.funs, e.frf, e.hok, e.bare⟩
theorem Env0.in1 {P : Program} {w : World} {K : PySem.W.Frag} {mg : Str → Option Value} {base : Heap} {A : Around} {outer : List Env} {s : Shared} {H : Hp} (e : Env0 P w K mg base A outer s H) :
    Env0 P w K mg base A.in1 outer s H := ⟨e.frames, e.mod, e.bs, e.bsz, e.funs, e.frf, e.hok, e.bare⟩
section
variable {X : Cx} {pins : List (Addr × Obj)} {σ : St} {H : Hp} {s s' : Shared}
/-- from a body: what a callee wants -/
theorem Inv.env0 (I : Inv X pins σ H s) : Env0 X.prog X.w X.K X.mg X.base X.A X.stack s H :=
  ⟨I.ok.frames, I.ok.mod, I.bs, Nat.le_trans I.ok.bsz I.sz, I.stack, I.stkFree, I.hok, I.bare⟩
/-- behind a call -/
theorem Inv.after {Q : VK} {u : Value} (I : Inv X pins σ H s) (h : CE X.stack X.prog X.w H s Q u s') : EP X pins σ Q u s' := by
  obtain ⟨v, H', os, bare, un, hok, r, q⟩ := h
  obtain ⟨hh, g, d, t, os'⟩ := s'
  obtain rfl : os' = s.os := os
  exact ⟨v, H', I.call (h' := hh) (g' := g) (d' := d) (t' := t) (ch := []) un hok bare (fun b z => absurd z (by simp)), r, q⟩
end

/-! ### calls -/
/-- f(..): the written arguments, then the defaults dvs; E: what is wanted of an exception -/
def tCall (sp : Sp) (dvs : List V) (E : XK) (t : TA) : TE := fun σ H Q => t σ H fun vs H1 => sp (vs ++ dvs) H1 Q E
/-- o.m(..) of an instance of the class at C -/
def tMeth (C : Addr) (m : Str) (sp : Sp) (dvs : List V) (E : XK) (ta : TE) (t : TA) : TE := fun σ H Q => ta σ H fun x H1 => ∃ a dx fs, x = .ref a ∧ H1 a = some (.ins C dx fs) ∧ fs.lookup m = none ∧
  t σ H1 fun vs H2 => sp (x :: (vs ++ dvs)) H2 Q E
/-- C(..): a new instance and its dict, then __init__ -/
def tMake (C : Addr) (sp : Sp) (dvs : List V) (E : XK) (t : TA) : TE := fun σ H Q => t σ H fun vs H1 => ∀ x dx, H1 x = none → H1 dx = none → dx ≠ x →
  sp (.ref x :: (vs ++ dvs)) (upd (upd H1 dx (.own x)) x (.ins C dx [])) (fun v H2 => v = .non ∧ Q (.ref x) H2) E
/-- how the parameters are bound: us the positional arguments, kw the keywords' values by name, ds the defaults that fill up -/
def Binds (K : PySem.W.Frag) (fd : FuncData) (ps : List Str) (ds : List Value) : Prop :=
  ∀ (s : Shared) (us : List Value), K.In s.heap → (us ++ ds).length = ps.length → BindsTo s fd ⟨us, []⟩ (ps.zip (us ++ ds))
/-- every parameter is given -/
theorem Binds.all {K : PySem.W.Frag} {fd : FuncData} {ps : List Str} (h : ∀ us : List Value, us.length = ps.length → bindArgs fd ⟨us, []⟩ = pure (ps.zip us)) : Binds K fd ps [] := fun s us _ hl => by
  rw [List.append_nil] at hl ⊢
  exact .of_eq (h us hl)
/-- an exception of a callee reaches what this body wants of exceptions -/
def Passes (CX : CXT) (X : Cx) (E : XK) : Prop := ∀ (pins : List (Addr × Obj)) (σ : St) (H : Hp) (s : Shared) (e : Value) (s' : Shared), Inv X pins σ H s → CX X.stack H s E e s' → X.xe e s'
section
variable {X : Cx} {CX : CXT} {k : Nat} {f C : Addr} {fd : FuncData} {ps : List Str} {sp : Sp} {dvs : List V} {ds : List Value} {E : XK} {x m : Str} {p pos apos : Pos} {e o : Expr} {es : List Expr} {ta : TE} {t : TA}

/-- the callee runs -/
theorem run_fn {pins : List (Addr × Obj)} {σ : St} {H : Hp} {s : Shared} {Q : VK} {us : List Value} {vs : List V} (F : FnOk X.prog X.w X.K X.mg X.base CX k f fd ps sp) (hr : Room k X.A) (hb : Binds X.K fd ps ds) (hd : Vals dvs ds) (hx : Passes CX X E)
    (I : Inv X pins σ H s) (r : Vals vs us) (h : sp (vs ++ dvs) H Q E) : wpAny (model X.prog X.w) X.A (call (.ref f) us) (EP X pins σ Q) X.xe s := by
  have r2 : Vals (vs ++ dvs) (us ++ ds) := r.append hd
  have hl : (us ++ ds).length = ps.length := by rw [← r2.length]; exact F.len _ _ _ _ h
  refine wpAny_call (codeAny_mono (F.run X.A X.stack s H ⟨us, []⟩ (us ++ ds) (vs ++ dvs) Q E hr I.env0 (hb s us I.kIn hl) r2 h) fun r s' hq => ?_)
  cases r with
  | error e => exact hx pins σ H s e s' I hq
  | ok fl =>
    cases fl with
    | ret u => exact I.after hq
    | next => exact False.elim hq
    | brk => exact False.elim hq
    | cont => exact False.elim hq
theorem pe_call (F : FnOk X.prog X.w X.K X.mg X.base CX k f fd ps sp) (hr : Room k X.A) (hg : Gl X x) (hm : X.mg x = some (.ref f)) (hk : PySem.W.keepIn X.K (.ref f) = true) (hb : Binds X.K fd ps ds) (hd : Vals dvs ds) (hx : Passes CX X E)
    (ha : PA X (e :: es) t) (hdb : (x == ("__debug__" : Str)) = false := by decide) (he : starEach (e :: es) X.env = (false, eval e X.env) :: starEach es X.env := by rfl) (hpl : (backTo pos (starEach es X.env)).any (·.1) = false := by rfl) :
    PE X (.Call (.Name x p) (e :: es) [] pos) (tCall sp dvs E t) := by
  intro pins s σ H Q I h
  refine wpAny_Call_Name_kw (ld_glob I hg hm ?_ hdb)
  refine PySem.W.callWith_K (h₀ := X.base) I.ok.mod.kin hk (thn (ha pos pins s σ H _ I h) fun us s1 ⟨vs, H1, I1, r, q⟩ => ⟨I1.kIn, ?_⟩) he hpl
  exact run_fn F hr hb hd hx I1 r q
/-- o.m(e, ..) -/
theorem pe_meth {pl : Sem Bool} (he : PE X o ta) (c : Cls X.K C) (hm : Meth X.K C m f) (F : FnOk X.prog X.w X.K X.mg X.base CX k f fd ps sp) (hr : Room k X.A) (hb : Binds X.K fd ps ds) (hd : Vals dvs ds) (hx : Passes CX X E) (ha : PA X (e :: es) t)
    (hst : starEach (e :: es) X.env = (false, eval e X.env) :: starEach es X.env := by rfl) (hpl : (backTo pos (starEach es X.env)).any (·.1) = false := by rfl)
    (ht : eval (.Call (.Attribute o m apos) (e :: es) [] pos) X.env = (do
      let ov ← eval o X.env
      standAt apos.atName
      let (f, first) ← holding [ov] (getMethod ov m pl)
      callWith pos f first (backTo pos (starEach (e :: es) X.env)) (backToKw pos (keywordEach [] X.env))) := by rfl) :
    PE X (.Call (.Attribute o m apos) (e :: es) [] pos) (tMeth C m sp dvs E ta t) := by
  intro pins s σ H Q I h
  refine PySem.W.methodCall_KW (pl := pl) (thn (he pins s σ H _ I h) fun u s1 ⟨x, H1, I1, rx, a, dx, fs, ex, ea, l, q⟩ => ?_) ht
  subst ex
  obtain rfl : u = Value.ref a := rx
  refine getmeth_ok I1 ea c hm l ?_
  refine PySem.W.callWith_K (first := [.ref a]) (h₀ := X.base) I.ok.mod.kin hm.kp (thn (ha pos pins s1 σ H1 _ I1 q) fun us s2 ⟨vs, H2, I2, r, q2⟩ => ⟨I2.kIn, ?_⟩) hst hpl
  exact run_fn (us := .ref a :: us) (vs := .ref a :: vs) F hr hb hd hx I2 (.cons rfl r) q2
/-- o.m() -/
theorem pe_meth0 {pl : Sem Bool} (he : PE X o ta) (c : Cls X.K C) (hm : Meth X.K C m f) (F : FnOk X.prog X.w X.K X.mg X.base CX k f fd ps sp) (hr : Room k X.A) (hb : Binds X.K fd ps ds) (hd : Vals dvs ds) (hx : Passes CX X E)
    (ht : eval (.Call (.Attribute o m apos) [] [] pos) X.env = (do
      let ov ← eval o X.env
      standAt apos.atName
      let (f, first) ← holding [ov] (getMethod ov m pl)
      callWith pos f first (backTo pos (starEach [] X.env)) (backToKw pos (keywordEach [] X.env))) := by rfl) :
    PE X (.Call (.Attribute o m apos) [] [] pos) (tMeth C m sp dvs E ta tNil) := by
  intro pins s σ H Q I h
  refine PySem.W.methodCall_KW (pl := pl) (thn (he pins s σ H _ I h) fun u s1 ⟨x, H1, I1, rx, a, dx, fs, ex, ea, l, q⟩ => ?_) ht
  subst ex
  obtain rfl : u = Value.ref a := rx
  refine getmeth_ok I1 ea c hm l ?_
  exact PySem.W.callWith_K0 (first := [.ref a]) I1.kIn hm.kp (run_fn (us := [.ref a]) (vs := [.ref a]) F hr hb hd hx I1 (.cons rfl .nil) q)
/-- what a class must have to be made -/
structure Mk (K : PySem.W.Frag) (C f : Addr) : Prop where
  makes : PySem.W.makesIn K C = true
  init : PySem.W.findIn K (.ref C) "__init__" = some (some (.ref f))
  fn : PySem.W.isFn K (.ref f) = true
  kp : PySem.W.keepIn K (.ref C) = true
theorem run_make {pins : List (Addr × Obj)} {σ : St} {H : Hp} {s : Shared} {Q : VK} {us : List Value} {vs : List V} (M : Mk X.K C f) (F : FnOk X.prog X.w X.K X.mg X.base CX k f fd ps sp) (hr : Room (k + 1) X.A) (hb : Binds X.K fd ps ds) (hd : Vals dvs ds)
    (hx : Passes CX X E) (I : Inv X pins σ H s) (r : Vals vs us)
    (h : ∀ x dx, H x = none → H dx = none → dx ≠ x → sp (.ref x :: (vs ++ dvs)) (upd (upd H dx (.own x)) x (.ins C dx [])) (fun v H2 => v = .non ∧ Q (.ref x) H2) E) :
    wpAny (model X.prog X.w) X.A (call (.ref C) us) (EP X pins σ Q) X.xe s := by
  have hq := h (s.heap.objs.size + 1) s.heap.objs.size (I.hok.fresh (Nat.le_succ _)) (I.hok.fresh (Nat.le_refl _)) (Nat.ne_of_lt (Nat.lt_succ_self _))
  have I2 := Inv.made (C := C) I
  have r2 : Vals (V.ref (s.heap.objs.size + 1) :: (vs ++ dvs)) (Value.ref (s.heap.objs.size + 1) :: (us ++ ds)) := .cons rfl (r.append hd)
  have hl : (Value.ref (s.heap.objs.size + 1) :: us ++ ds).length = ps.length := by
    have e := r2.length
    rw [F.len _ _ _ _ hq] at e
    exact e.symm
  refine wpAny_call (make_map (f := f) I.kIn M.makes M.init (beq_iff_eq.mp M.fn) (codeAny_mono (F.run _ X.stack _ _ ⟨Value.ref (s.heap.objs.size + 1) :: us, []⟩ (Value.ref (s.heap.objs.size + 1) :: (us ++ ds)) _ _ E (hr.make C us [])
    (I2.env0.make C us []) (hb _ (Value.ref (s.heap.objs.size + 1) :: us) I2.kIn hl) r2 hq) fun r s' hq' => ?_))
  cases r with
  | error e => exact hx pins σ _ _ e s' I2 hq'
  | ok fl =>
    cases fl with
    | ret u =>
      obtain ⟨v, H', I3, rv, ev, q3⟩ := I2.after hq'
      subst ev
      exact ⟨rv, ⟨V.ref (s.heap.objs.size + 1), H', I3, rfl, q3⟩⟩
    | next => exact False.elim hq'
    | brk => exact False.elim hq'
    | cont => exact False.elim hq'
theorem pe_make (M : Mk X.K C f) (F : FnOk X.prog X.w X.K X.mg X.base CX k f fd ps sp) (hr : Room (k + 1) X.A) (hg : Gl X x) (hm : X.mg x = some (.ref C)) (hb : Binds X.K fd ps ds) (hd : Vals dvs ds) (hx : Passes CX X E)
    (ha : PA X (e :: es) t) (hdb : (x == ("__debug__" : Str)) = false := by decide) (he : starEach (e :: es) X.env = (false, eval e X.env) :: starEach es X.env := by rfl) (hpl : (backTo pos (starEach es X.env)).any (·.1) = false := by rfl) :
    PE X (.Call (.Name x p) (e :: es) [] pos) (tMake C sp dvs E t) := by
  intro pins s σ H Q I h
  refine wpAny_Call_Name_kw (ld_glob I hg hm ?_ hdb)
  refine PySem.W.callWith_K (h₀ := X.base) I.ok.mod.kin M.kp (thn (ha pos pins s σ H _ I h) fun us s1 ⟨vs, H1, I1, r, q⟩ => ⟨I1.kIn, ?_⟩) he hpl
  exact run_make M F hr hb hd hx I1 r q
theorem pe_make0 (M : Mk X.K C f) (F : FnOk X.prog X.w X.K X.mg X.base CX k f fd ps sp) (hr : Room (k + 1) X.A) (hg : Gl X x) (hm : X.mg x = some (.ref C)) (hb : Binds X.K fd ps ds) (hd : Vals dvs ds) (hx : Passes CX X E)
    (hdb : (x == ("__debug__" : Str)) = false := by decide) : PE X (.Call (.Name x p) [] [] pos) (tMake C sp dvs E tNil) := by
  intro pins s σ H Q I h
  refine wpAny_Call_Name_kw (ld_glob I hg hm ?_ hdb)
  exact PySem.W.callWith_K0 I.kIn M.kp (run_make (us := []) M F hr hb hd hx I .nil h)
end

/-! ### keywords -/
/-- the values of the keywords, from the left -/
def PK (X : Cx) (kws : List Keyword) (t : TA) : Prop :=
  ∀ (pos : Pos) (pins : List (Addr × Obj)) (s : Shared) (σ : St) (H : Hp) (Q : List V → Hp → Prop), Inv X pins σ H s → t σ H Q → wpAny (model X.prog X.w) X.A (evalAll ((backToKw pos (keywordEach kws X.env)).map (·.2))) (AP X pins σ Q) X.xe s
section
variable {X : Cx} {CX : CXT} {k : Nat} {f C : Addr} {fd : FuncData} {ps ks : List Str} {sp : Sp} {E : XK} {x m : Str} {p pos apos kpos : Pos} {e o : Expr} {es : List Expr} {kws : List Keyword} {te ta : TE} {t tk : TA} {nm : Option Str}
variable {g : List Value → List Value → List Value} {gV : List V → List V → List V}
end

/-! ### a def's body keeps its promise -/
/-- names: the parameters first -/
structure FnScope (N P : List Str) (sc : Scope) : Prop where
  kind : sc.kind = .function
  co : sc.isCoroutine = false
  gen : sc.isGenerator = false
  nd : N.Nodup
  pre : N.take P.length = P
  par : ∀ x ∈ P, sc.names.lookup x = some .local ∨ sc.names.lookup x = some .cell
  nofree : ∀ y ∈ sc.names, y.2 ≠ .free
theorem bindL_out {kindOf : Str → Option NameKind} {x : Str} : ∀ {binds : List (Str × Value)} {m : Str → Option Value}, (∀ v, (x, v) ∉ binds) → bindL kindOf binds m x = m x
  | [], _, _ => rfl
  | (n, v) :: r, m, h => by
    unfold bindL
    rw [bindL_out fun w hw => h w (List.mem_cons_of_mem _ hw)]
    split
    · have : x ≠ n := by rintro rfl; exact h v List.mem_cons_self
      simp [this]
    · rfl
theorem bindC_out {kindOf : Str → Option NameKind} {x : Str} : ∀ {binds : List (Str × Value)} {m : Str → Option Value}, (∀ v, (x, v) ∉ binds) → bindC kindOf binds m x = m x
  | [], _, _ => rfl
  | (n, v) :: r, m, h => by
    unfold bindC
    rw [bindC_out fun w hw => h w (List.mem_cons_of_mem _ hw)]
    split
    · rfl
    · have : x ≠ n := by rintro rfl; exact h v List.mem_cons_self
      simp [this]
theorem bindL_get {kindOf : Str → Option NameKind} {x : Str} {v : Value} : ∀ {P : List Str} {vs : List Value} {i : Nat} {m : Str → Option Value}, P.Nodup → P[i]? = some x → vs[i]? = some v → kindOf x = some .local →
    bindL kindOf (P.zip vs) m x = some v
  | [], _, _, _, _, h, _, _ => by simp at h
  | _ :: _, [], _, _, _, _, h, _ => by simp at h
  | p :: P, w :: vs, 0, m, nd, h1, h2, hk => by
    simp at h1 h2; subst h1; subst h2
    show bindL kindOf ((p, w) :: P.zip vs) m p = _
    unfold bindL
    rw [bindL_out fun v hv => (List.nodup_cons.mp nd).1 (List.of_mem_zip hv).1, if_pos hk]
    simp
  | p :: P, w :: vs, i + 1, m, nd, h1, h2, hk => by
    show bindL kindOf ((p, w) :: P.zip vs) m x = _
    unfold bindL
    exact bindL_get (i := i) (List.nodup_cons.mp nd).2 (by simpa using h1) (by simpa using h2) hk
theorem bindC_get {kindOf : Str → Option NameKind} {x : Str} {v : Value} : ∀ {P : List Str} {vs : List Value} {i : Nat} {m : Str → Option Value}, P.Nodup → P[i]? = some x → vs[i]? = some v → kindOf x ≠ some .local →
    bindC kindOf (P.zip vs) m x = some v
  | [], _, _, _, _, h, _, _ => by simp at h
  | _ :: _, [], _, _, _, _, h, _ => by simp at h
  | p :: P, w :: vs, 0, m, nd, h1, h2, hk => by
    simp at h1 h2; subst h1; subst h2
    show bindC kindOf ((p, w) :: P.zip vs) m p = _
    unfold bindC
    rw [bindC_out fun v hv => (List.nodup_cons.mp nd).1 (List.of_mem_zip hv).1, if_neg hk]
    simp
  | p :: P, w :: vs, i + 1, m, nd, h1, h2, hk => by
    show bindC kindOf ((p, w) :: P.zip vs) m x = _
    unfold bindC
    exact bindC_get (i := i) (List.nodup_cons.mp nd).2 (by simpa using h1) (by simpa using h2) hk
/-- the names' values at the entry -/
def start (N : List Str) (vs : List V) : St := vs.map some ++ List.replicate (N.length - vs.length) none
/-- the context of a def's body, at its entry; an exception leaves the frame, then lies as CX says -/
def cxOf (CX : CXT) (P : Program) (w : World) (K : PySem.W.Frag) (mg : Str → Option Value) (base : Heap) (N : List Str) (qual : Str) (scope : Scope) (f : Addr) (cd : Value) (A : Around) (outer : List Env) (s : Shared) (H : Hp) (E : XK) : Cx where
  prog := P
  w := w
  K := K
  mg := mg
  base := base
  A := A.deeper (envOfC qual scope s.heap.objs.size f cd)
  N := N
  s₀ := s
  H₀ := H
  env := envOfC qual scope s.heap.objs.size f cd
  outer := outer
  stack := envOfC qual scope s.heap.objs.size f cd :: outer
  ex := []
  calm := true
  fn := fun _ => true
  pn := []
  xe := fun e s' => wpAny (model P w) (A.deeper (envOfC qual scope s.heap.objs.size f cd)) (leaving (envOfC qual scope s.heap.objs.size f cd) e) (fun _ s'' => CX outer H s E e s'') (fun e' s'' => CX outer H s E e' s'') s'
theorem cell_has {sc : Scope} {n : Nat} {x : Str} (h : sc.names.lookup x = some .cell) : ∃ c, (cellsFrom n sc.names []).lookup x = some c := by
  have q := PySem.W.cellsFrom_some sc.names n [] (.inl h)
  exact Option.isSome_iff_exists.mp q
theorem inv_start {CX : CXT} {P : Program} {w : World} {K : PySem.W.Frag} {mg : Str → Option Value} {base : Heap} {N ps : List Str} {qual : Str} {scope : Scope} {f : Addr} {cd : Value} {A : Around} {outer : List Env} {s s1 : Shared} {H : Hp} {E : XK} {us : List Value} {vs : List V}
    (S : FnScope N ps scope) (hd : A.handled = none) (e0 : Env0 P w K mg base A outer s H) (hl : vs.length = ps.length) (r : Vals vs us)
    (x : InCallC s s.heap.objs.size (bindL (envOfC qual scope s.heap.objs.size f cd).kindOf (ps.zip us) fun _ => none) (cellsFrom (s.heap.objs.size + 1) scope.names []) (bindC (envOfC qual scope s.heap.objs.size f cd).kindOf (ps.zip us) fun _ => none) s1) :
    Inv (cxOf CX P w K mg base N qual scope f cd A outer s H E) [] (start N vs) H s1 := by
  have hpl : ps.length ≤ N.length := by have := congrArg List.length S.pre; rw [List.length_take] at this; omega
  obtain ⟨h1, tk, rfl, hk⟩ := x.done
  have noA : ∀ b : Addr, b ∉ (cxOf CX P w K mg base N qual scope f cd A outer s H E).ex := fun b z => absurd (show b ∈ ([] : List Addr) from z) (by simp)
  refine ⟨⟨e0.mod, S.kind, rfl, rfl, Nat.le_refl _, fun y z c h1 h2 => ?_, fun y hy => ?_, fun y c _ h => ?_, fun _ => hd, Around.frames_deeper e0.frames, .inr ⟨rfl, rfl⟩, fun b z => absurd z (noA b), e0.bs, e0.bsz, fun b _ _ => noA b, fun b z => absurd z (noA b), e0.funs, e0.frf⟩,
    rfl, e0.bare, Un.kept hk, ⟨_, x.toInCall.ns, fun i y v h1 h2 h3 => ?_⟩, fun y c h => ⟨_, x.cell y c h⟩, e0.hok.fresh (Nat.le_refl _), fun y c h => ?_, fun p hp => absurd (show p ∈ ([] : List (Addr × Obj)) from hp) (by simp), e0.hok.kept hk, ?_⟩
  · exact name_of_addr x.apart (PySem.mem_of_lookup h1) (PySem.mem_of_lookup h2)
  · have hy : scope.names.lookup y = some .cell ∨ scope.names.lookup y = some .free := hy
    rcases hy with hy | hy
    · exact cell_has hy
    · exact absurd rfl (S.nofree _ (PySem.mem_of_lookup hy))
  · exact Nat.le_of_lt (x.above y c (PySem.mem_of_lookup h))
  · have hi : i < vs.length := by
      unfold start at h2
      by_cases hi : i < vs.length
      · exact hi
      · rw [List.getElem?_append_right (by simpa using hi)] at h2
        rw [List.getElem?_replicate] at h2
        split at h2 <;> cases h2
    have ha : vs[i]? = some v := by
      unfold start at h2
      rw [List.getElem?_append_left (by simpa using hi), List.getElem?_map] at h2
      cases e : vs[i]? with
      | none => rw [e] at h2; cases h2
      | some a => rw [e] at h2; cases h2; rfl
    obtain ⟨u, hu, rv⟩ := r.get ha
    have hp : ps[i]? = some y := by
      rw [← S.pre, List.getElem?_take_of_lt (by omega)]; exact h1
    have ndP : ps.Nodup := by rw [← S.pre]; exact S.nd.sublist (List.take_sublist _ _)
    refine ⟨u, rv, ?_⟩
    rcases S.par y (List.mem_of_getElem? hp) with k | k
    · exact .inl ⟨k, bindL_get ndP hp hu k⟩
    · obtain ⟨c, e⟩ := cell_has (n := s.heap.objs.size + 1) k
      refine .inr ⟨.inl k, c, e, ?_⟩
      have q := x.cell y c e
      rw [bindC_get ndP hp hu (by show scope.names.lookup y ≠ _; rw [k]; decide)] at q
      exact q
  · exact e0.hok.fresh (Nat.le_of_lt (x.above y c (PySem.mem_of_lookup h)))
  · unfold start
    show _ = N.length
    rw [List.length_append, List.length_map, List.length_replicate]
    omega
/-- THE RULE: a def (or a method) of the text, by its body. The body's reading t is chosen for each entry; it is run at the parameters' values -/
theorem fn_of {CX : CXT} {P : Program} {w : World} {K : PySem.W.Frag} {mg : Str → Option Value} {base : Heap} {k : Nat} {f : Addr} {name qual : Str} {params : Arguments} {body : List Stmt} {scope : Scope} {dV kV doc pm cdv ct oc : Value} {an od : Option Addr}
    {osl : Array (Option Value)} {N ps : List Str} {sp : Sp} (lk : K.lookup f = some ⟨oc, od, .func (PySem.W.fnOf name qual params body scope dV kV doc pm an cdv ct), osl⟩) (hcd : PySem.W.codeIn K cdv qual = true) (S : FnScope N ps scope)
    (len : ∀ vs H Q E, sp vs H Q E → vs.length = ps.length)
    (hbody : ∀ (A : Around) (outer : List Env) (s : Shared) (H : Hp) (vs : List V) (Q : VK) (E : XK), Room k (A.deeper (envOfC qual scope s.heap.objs.size f cdv)) → sp vs H Q E →
      ∃ t, PSs (cxOf CX P w K mg base N qual scope f cdv A outer s H E) body t ∧ t { nx := fun _ H' => Q .non H', rt := Q } (start N vs) H) :
    FnOk P w K mg base CX (k + 1) f (PySem.W.fnOf name qual params body scope dV kV doc pm an cdv ct) ps sp := by
  refine ⟨len, fun A outer s H args us vs Q E hr e0 hb r hsp => ?_⟩
  have hl := len _ _ _ _ hsp
  have KX : K.In s.heap := e0.mod.kin.keeps fun b o e => (e0.bs b o e).1
  have lim : s.heap.NoLimit := e0.mod.nolimit.keeps fun b o e => (e0.bs b o e).1
  have hkind : ∀ y ∈ ps.zip us, scope.names.lookup y.1 = some .local ∨ (scope.names.lookup y.1 = some .cell ∧ ((cellsFrom (s.heap.objs.size + 1) scope.names []).lookup y.1).isSome = true) := fun ⟨n, v⟩ hy => by
    rcases S.par n (List.of_mem_zip hy).1 with q | q
    · exact .inl q
    · exact .inr ⟨q, PySem.W.cellsFrom_some _ _ _ (.inl q)⟩
  refine codeAny_call_function hr.depth (KX _ _ lk) rfl S.co S.gen rfl (PySem.W.codeRec_of KX hcd) (hb _ _ _ _ ?_)
  refine wpAny_newFunctionEnv_cells S.kind hkind fun env he s1 x => ?_
  subst he
  refine ⟨lim.keeps x.toInCall.keep, codeAny_func ?_⟩
  obtain ⟨t, ht, hq⟩ := hbody A outer s H vs Q E (hr.deeper _) hsp
  have I : Inv (cxOf CX P w K mg base N qual scope f cdv A outer s H E) [] (start N vs) H s1 := inv_start S hr.hd e0 hl r x
  refine wpAny_mono (ht [] s1 (start N vs) H _ I hq) (fun fl s' hs => ?_) fun e s' hs => hs
  have fin : ∀ {σ' : St} {H' : Hp} {v : V} {u : Value}, Inv (cxOf CX P w K mg base N qual scope f cdv A outer s H E) [] σ' H' s' → RelV v u → Q v H' → CE outer P w H s Q u s' :=
    fun {σ' H' v u} J rv q => ⟨v, H', J.os, J.bare, J.base, J.hok, rv, q⟩
  cases fl with
  | ret u =>
    obtain ⟨v, σ', H', J, rv, q⟩ := hs
    exact fin J rv q
  | next =>
    obtain ⟨σ', H', J, q⟩ := hs
    exact fin (v := V.non) (u := Value.none) J rfl q
  | brk =>
    obtain ⟨_, _, _, q⟩ := hs
    exact False.elim q
  | cont =>
    obtain ⟨_, _, _, q⟩ := hs
    exact False.elim q
end L2

namespace L2
open PySem PySem.Spec PyProof.Rows
section
variable {X : Cx} {x : Str} {p pos : Pos} {e : Expr} {es : List Expr} {t : TA} {id T : String} {r : List V → Hp → VK → Prop}

def tCB (r : List V → Hp → VK → Prop) (t : TA) : TE := fun σ H Q => t σ H fun vs H1 => r vs H1 Q
/-- f(e, ..), f a built-in function -/
theorem pe_callB (hc : CallR X (.builtin id) r) (hg : Gl X x) (hm : X.mg x = none) (hv : bootBuiltins x = some (.builtin id)) (ha : PA X (e :: es) t) (hn : x ≠ "__name__" := by decide) (hdb : (x == ("__debug__" : Str)) = false := by decide)
    (he : starEach (e :: es) X.env = (false, eval e X.env) :: starEach es X.env := by rfl) (hpl : (backTo pos (starEach es X.env)).any (·.1) = false := by rfl) : PE X (.Call (.Name x p) (e :: es) [] pos) (tCB r t) := by
  intro pins s σ H Q I h
  refine wpAny_Call_Name_kw (ld_blt I hg hm hv ?_ hn hdb)
  exact PyProof.Rows.callWith_builtin1 (thn (ha pos pins s σ H _ I h) fun us s1 ⟨vs, H1, I1, r1, q1⟩ => hc pins s1 σ H1 vs us Q I1 r1 q1) he hpl
/-- T(e, ..), T a built-in type -/
theorem pe_callTy (hc : CallR X (.type T) r) (hg : Gl X x) (hm : X.mg x = none) (hv : bootBuiltins x = some (.type T)) (ha : PA X (e :: es) t) (hn : x ≠ "__name__" := by decide) (hdb : (x == ("__debug__" : Str)) = false := by decide)
    (he : starEach (e :: es) X.env = (false, eval e X.env) :: starEach es X.env := by rfl) (hpl : (backTo pos (starEach es X.env)).any (·.1) = false := by rfl) : PE X (.Call (.Name x p) (e :: es) [] pos) (tCB r t) := by
  intro pins s σ H Q I h
  refine wpAny_Call_Name_kw (ld_blt I hg hm hv ?_ hn hdb)
  exact PyProof.Rows.callWith_type1 (thn (ha pos pins s σ H _ I h) fun us s1 ⟨vs, H1, I1, r1, q1⟩ => hc pins s1 σ H1 vs us Q I1 r1 q1) he hpl
end
end L2

namespace HT
open PySem PyProof.Rows

section
open PySem.SeqAt
open PySem.AutoSeq1 (wpAny_loadPart')
open PySem.MeetsSeq PySem.MeetsSeq2 PySem.MeetsSeq3

end

section
variable {prog : Program} {w : World} {A : Around} {E : Value → Shared → Prop} {s : Shared}

/-! ### t[a:b], not the whole -/
end
end HT

namespace L2
open PySem PySem.Spec PyProof.Rows

/-! ### the parts of a slice -/
abbrev TO := St → Hp → (Option Int → Hp → Prop) → Prop
/-- a slice's part (left out, or an int) -/
def PO (X : Cx) (e : Option Expr) (t : TO) : Prop :=
  ∀ (pins : List (Addr × Obj)) (s : Shared) (σ : St) (H : Hp) (Q : Option Int → Hp → Prop), Inv X pins σ H s → t σ H Q →
    wpAny (model X.prog X.w) X.A (evalPart e X.env) (fun u s' => ∃ o H', Inv X pins σ H' s' ∧ IsPart u o ∧ Q o H') X.xe s
def tNoPart : TO := fun _ H Q => Q none H
def tPart (t : TE) : TO := fun σ H Q => t σ H fun x H1 => ∃ i, x = .int i ∧ Q (some i) H1
section
variable {X : Cx} {e : Expr} {te : TE} {lo hi : Option Expr} {tl th : TO} {pos p2 : Pos}

theorem po_none : PO X none tNoPart := by
  intro pins s σ H Q I h
  rw [evalPart_none]
  exact wpAny_pure ⟨none, H, I, .none, h⟩
theorem po_some (h : PE X e te) : PO X (some e) (tPart te) := by
  intro pins s σ H Q I hw
  rw [evalPart_some]
  refine thn (h pins s σ H _ I hw) fun u s1 ⟨x, H1, I1, r1, q1⟩ => ?_
  obtain ⟨i, rfl, q⟩ := q1
  obtain ⟨t, rfl⟩ := r1
  exact ⟨some i, H1, I1, .int i t, q⟩
/-- what a slice of a value is, by values: the slice object stands at sl -/
def SlR (X : Cx) (r : V → Option Int → Option Int → Hp → VK → Prop) : Prop :=
  ∀ (pins : List (Addr × Obj)) (s : Shared) (σ : St) (H : Hp) (x : V) (v vl vu : Value) (lo hi : Option Int) (sl : Addr) (Q : VK), Inv X pins σ H s → RelV x v → s.heap.IsSliceOf sl vl vu .none → IsPart vl lo → IsPart vu hi → r x lo hi H Q →
    ∃ T id, typeLookup (.type T) "__getitem__" = pure (some (.builtin id)) ∧ s.TypeIs v T ∧ wpAny (model X.prog X.w) X.A (getItem v (.ref sl)) (EP X pins σ Q) X.xe s
theorem SlR.or {r r' : V → Option Int → Option Int → Hp → VK → Prop} (h : SlR X r) (h' : SlR X r') : SlR X (fun x lo hi H Q => r x lo hi H Q ∨ r' x lo hi H Q) := by
  intro pins s σ H x v vl vu lo hi sl Q I rx hs pl pu q
  rcases q with q | q
  · exact h pins s σ H x v vl vu lo hi sl Q I rx hs pl pu q
  · exact h' pins s σ H x v vl vu lo hi sl Q I rx hs pl pu q
def tSl (r : V → Option Int → Option Int → Hp → VK → Prop) (te : TE) (tl th : TO) : TE := fun σ H Q => te σ H fun x H1 => tl σ H1 fun l H2 => th σ H2 fun u H3 => r x l u H3 Q
/-- a[lo:hi], any a -/
theorem pe_slice {r : V → Option Int → Option Int → Hp → VK → Prop} (hr : SlR X r) (he : PE X e te) (hl : PO X lo tl) (hu : PO X hi th) : PE X (.Subscript e (.Slice lo hi none p2) pos) (tSl r te tl th) := by
  intro pins s σ H Q I h
  refine Subscript_ (thn (he pins s σ H _ I h) fun v s1 ⟨x, H1, I1, r1, q1⟩ => ?_)
  refine wpAny_Slice (thn (hl pins s1 σ H1 _ I1 q1) fun vl s2 ⟨l, H2, I2, pl, q2⟩ => thn (hu pins s2 σ H2 _ I2 q2) fun vu s3 ⟨u, H3, I3, pu, q3⟩ => ?_)
  rw [evalPart_none]
  refine wpAny_pure ?_
  have I4 : Inv X pins σ H3 { s3 with heap := s3.heap.push { cls := .type "slice", data := .fields #[vl, vu, .none] } } := I3.kept (t' := s3.toks) fun b ob q => Heap.get?_push_of_some _ q
  obtain ⟨T, id, hT, ht, hg⟩ := hr pins { s3 with heap := s3.heap.push { cls := .type "slice", data := .fields #[vl, vu, .none] } } σ H3 x v vl vu l u s3.heap.objs.size Q I4 r1 (Heap.IsSliceOf.new ..) pl pu q3
  show wpAny (model X.prog X.w) X.A (subscriptTail e (.Slice lo hi none p2) v (.ref s3.heap.objs.size)) (EP X pins σ Q) X.xe { s3 with heap := s3.heap.push { cls := .type "slice", data := .fields #[vl, vu, .none] } }
  exact tail_any (ops := [.ref s3.heap.objs.size, v]) ht hT hg (by with_unfolding_all rfl)
/-! ### t < u, t + u -/
end
end L2

namespace L2
open PySem PySem.Spec PyProof.Rows

/-! ### places -/
/-- the place that an index of any sign means -/
def ixN (n : Nat) (i : Int) : Option Nat := if 0 ≤ i then (if i < n then some i.toNat else none) else if -(n : Int) ≤ i then some (i + n).toNat else none
def atI {α : Type} (xs : List α) (i : Int) : Option α := (ixN xs.length i).bind fun j => xs[j]?
theorem ixN_seq {n : Nat} {i : Int} {j : Nat} (h : ixN n i = some j) : seqIndex? i n = some j ∧ j < n ∧ -(n : Int) ≤ i ∧ i < n := by
  unfold ixN at h
  by_cases h0 : 0 ≤ i
  · rw [if_pos h0] at h
    by_cases h1 : i < n
    · rw [if_pos h1] at h
      have e : i.toNat = j := Option.some.inj h
      exact ⟨by rw [seqIndex_of h0 h1, e], by omega, by omega, h1⟩
    · rw [if_neg h1] at h; cases h
  · rw [if_neg h0] at h
    by_cases h1 : -(n : Int) ≤ i
    · rw [if_pos h1] at h
      have e : (i + n).toNat = j := Option.some.inj h
      exact ⟨by rw [seqIndex_neg (by omega) h1, e], by omega, h1, by omega⟩
    · rw [if_neg h1] at h; cases h
theorem atI_get {α : Type} {xs : List α} {i : Int} {v : α} (h : atI xs i = some v) : ∃ j, seqIndex? i xs.length = some j ∧ xs[j]? = some v ∧ j < xs.length ∧ -(xs.length : Int) ≤ i ∧ i < xs.length := by
  unfold atI at h
  cases e : ixN xs.length i with
  | none => rw [e] at h; cases h
  | some j =>
    rw [e] at h
    obtain ⟨h1, h2, h3, h4⟩ := ixN_seq e
    exact ⟨j, h1, h, h2, h3, h4⟩
theorem atI_nat {α : Type} {xs : List α} {j : Nat} {v : α} (h : xs[j]? = some v) : atI xs (j : Int) = some v := by
  have hj : j < xs.length := (List.getElem?_eq_some_iff.mp h).1
  have e : ixN xs.length (j : Int) = some j := by
    unfold ixN
    rw [if_pos (by omega), if_pos (by omega)]; simp
  unfold atI; rw [e]; exact h
/-! ### what may be subscripted -/
/-- what stands as an index of a plain subscript -/
def PlainIx (b : Expr) : Prop := ∀ o i, subscripted b false o i = operate [o, i] (getItem o i)
/-- a subscript by values -/
def IxR (X : Cx) (r : R2) : Prop :=
  ∀ (value slice : Expr) (pins : List (Addr × Obj)) (s : Shared) (σ : St) (H : Hp) (x y : V) (v u : Value) (Q : VK), Inv X pins σ H s → RelV x v → RelV y u → r x y H Q →
    subscripted slice false v u = operate [v, u] (getItem v u) → wpAny (model X.prog X.w) X.A (subscriptTail value slice v u) (EP X pins σ Q) X.xe s
/-- a call of a builtin's method by values: the receiver, the arguments -/
def MtR (X : Cx) (id : String) (r : V → List V → Hp → VK → Prop) : Prop :=
  ∀ (pins : List (Addr × Obj)) (s : Shared) (σ : St) (H : Hp) (x : V) (xs : List V) (v : Value) (us : List Value) (Q : VK), Inv X pins σ H s → RelV x v → Vals xs us → r x xs H Q →
    wpAny (model X.prog X.w) X.A (call (.builtin id) (v :: us)) (EP X pins σ Q) X.xe s
section
variable {X : Cx} {a b : Expr} {ta tb : TE} {pos : Pos}
theorem IxR.or {r r' : R2} (h : IxR X r) (h' : IxR X r') : IxR X (fun x y H Q => r x y H Q ∨ r' x y H Q) := by
  intro value slice pins s σ H x y v u Q I rx ry q hs
  rcases q with q | q
  · exact h value slice pins s σ H x y v u Q I rx ry q hs
  · exact h' value slice pins s σ H x y v u Q I rx ry q hs
theorem MtR.or {id : String} {r r' : V → List V → Hp → VK → Prop} (h : MtR X id r) (h' : MtR X id r') : MtR X id (fun x xs H Q => r x xs H Q ∨ r' x xs H Q) := by
  intro pins s σ H x xs v us Q I rx rs q
  rcases q with q | q
  · exact h pins s σ H x xs v us Q I rx rs q
  · exact h' pins s σ H x xs v us Q I rx rs q
/-- a[b] -/
theorem pe_ix {r : R2} (hr : IxR X r) (ha : PE X a ta) (hb : PE X b tb) (hs : PlainIx b) : PE X (.Subscript a b pos) (tOp r ta tb) := by
  intro pins s σ H Q I h
  exact Subscript_ (binT ha hb I h fun v u s2 x y H2 I2 rx ry q => hr a b pins s2 σ H2 x y v u Q I2 rx ry q (hs _ _))
def rIxL (K : PySem.W.Frag) : R2 := fun x y H Q => ∃ p xs i v, x = .ref p ∧ y = .int i ∧ SqL K H p xs ∧ atI xs i = some v ∧ Q v H
def rIxS : R2 := fun x y H Q => ∃ z i c, x = .str z ∧ y = .int i ∧ z.length ≤ sizeLine ∧ atI z.cps.toList i = some c ∧ Q (.str ⟨#[c]⟩) H
theorem ix_list : IxR X (rIxL X.K) := by
  intro value slice pins s σ H x y v u Q I rx ry h hs
  obtain ⟨p, xs, i, z, rfl, rfl, hq, he, q⟩ := h
  cases rx
  obtain ⟨t, rfl⟩ := ry
  obtain ⟨its, r, pl, hz⟩ := I.list hq
  obtain ⟨j, h1, h2, h3, h4, h5⟩ := atI_get he
  obtain ⟨w, ew, rw'⟩ := r.get h2
  have hl := r.length
  have hn := line63
  have fin : EP X pins σ Q w s := ⟨z, H, I, rw', q⟩
  by_cases h0 : 0 ≤ i
  · have hj : i.toNat = j := by
      rw [seqIndex_of h0 h5] at h1
      exact Option.some.inj h1
    exact item_listR pl.isList h0 (by omega) (by rw [hj]; simpa using ew) fin hs
  · have hj : (i + (its.toArray.size : Int)).toNat = j := by
      rw [seqIndex_neg (by omega) h4] at h1
      rw [List.size_toArray, ← hl]
      exact Option.some.inj h1
    exact subscriptTail_builtinR (x := w) pl.isList.typeIs slot_list_getitem.lookup
      (wpAny_getItem_list_neg (Q := fun r s' => r = w ∧ EP X pins σ Q r s') pl.isList (by omega) (by rw [List.size_toArray] <;> omega) (by omega) (by rw [hj]; simpa using ew) ⟨rfl, fin⟩) hs
theorem ix_str : IxR X rIxS := by
  intro value slice pins s σ H x y v u Q I rx ry h hs
  obtain ⟨z, i, c, rfl, rfl, hz, he, q⟩ := h
  obtain ⟨t, rfl⟩ := rx
  obtain ⟨t', rfl⟩ := ry
  obtain ⟨j, h1, h2, h3, h4, h5⟩ := atI_get he
  have hl : z.cps.toList.length = z.length := by simp [Str.length]
  rw [hl] at h1 h4 h5
  have hn := line63
  exact tail_any (typeIs_str s z t) slot_str_getitem.lookup (getItem_str (c := c) (by
    have e1 : decide (i < -(2 ^ 63 : Int)) = false := decide_eq_false (by omega)
    have e2 : decide (i ≥ 2 ^ 63) = false := decide_eq_false (by omega)
    rw [e1, e2, Bool.or_false]) (by rw [h1]; simpa using h2) ⟨.str ⟨#[c]⟩, H, I.tok _, ⟨_, rfl⟩, q⟩) hs
/-! ### xs[i] = v, any sign -/
theorem Inv.lst {pins : List (Addr × Obj)} {σ : St} {H : Hp} {s : Shared} {p : Addr} {xs : List V} (I : Inv X pins σ H s) (h : H p = some (.lst xs)) :
    ∃ (its : List Value) (n : Nat), Vals xs its ∧ s.heap.get? p = some { cls := .type "list", data := .seq its.toArray n } ∧ xs.length ≤ sizeLine := by
  obtain ⟨z, its, n, r, e⟩ := I.hok p _ h
  exact ⟨its, n, r, e, z⟩
/-! ### slices -/
/-! ### in, not in: flat items -/
def flatV : V → Bool
  | .non => true
  | .bl _ => true
  | .int _ => true
  | .str _ => true
  | _ => false
/-- == of flat values -/
def eqV : V → V → Bool
  | .non, .non => true
  | .bl a, .bl b => a == b
  | .bl a, .int b => (if a then 1 else 0) == b
  | .int a, .bl b => a == (if b then 1 else 0)
  | .int a, .int b => a == b
  | .str a, .str b => a == b
  | _, _ => false
theorem eqAt_V {A : Around} {s : Shared} {y x : V} {u v : Value} (ry : RelV y u) (rx : RelV x v) (fy : flatV y = true) (fx : flatV x = true) : SeqAt.EqAt A s u v (eqV y x) := by
  cases y with
  | non =>
    cases ry
    cases x with
    | non => cases rx; exact SeqAt.EqAt.same _
    | bl b => cases rx; exact SeqAt.EqAt.none_bool b
    | int b => obtain ⟨t, rfl⟩ := rx; exact SeqAt.EqAt.none_int b t
    | str b => obtain ⟨t, rfl⟩ := rx; exact SeqAt.EqAt.none_str b t
    | _ => exact absurd (show false = true from fx) Bool.false_ne_true
  | bl a =>
    cases ry
    cases x with
    | non => cases rx; exact SeqAt.EqAt.bool_none a
    | bl b => cases rx; exact SeqAt.EqAt.bool_bool a b
    | int b => obtain ⟨t, rfl⟩ := rx; exact SeqAt.EqAt.bool_int a b t
    | str b => obtain ⟨t, rfl⟩ := rx; exact SeqAt.EqAt.bool_str a b t
    | _ => exact absurd (show false = true from fx) Bool.false_ne_true
  | int a =>
    obtain ⟨t', rfl⟩ := ry
    cases x with
    | non => cases rx; exact SeqAt.EqAt.int_none a t'
    | bl b => cases rx; exact SeqAt.EqAt.int_bool a t' b
    | int b => obtain ⟨t, rfl⟩ := rx; exact SeqAt.EqAt.int_int a t' b t
    | str b => obtain ⟨t, rfl⟩ := rx; exact SeqAt.EqAt.int_str a t' b t
    | _ => exact absurd (show false = true from fx) Bool.false_ne_true
  | str a =>
    obtain ⟨t', rfl⟩ := ry
    cases x with
    | non => cases rx; exact SeqAt.EqAt.str_none a t'
    | bl b => cases rx; exact SeqAt.EqAt.str_bool a t' b
    | int b => obtain ⟨t, rfl⟩ := rx; exact SeqAt.EqAt.str_int a t' b t
    | str b => obtain ⟨t, rfl⟩ := rx; exact SeqAt.EqAt.str_str a t' b t
    | _ => exact absurd (show false = true from fx) Bool.false_ne_true
  | _ => exact absurd (show false = true from fy) Bool.false_ne_true
/-- the items' answers, read off the values (a value's own answer does not lean on its token) -/
def eqU (x : V) (u : Value) : Bool := match u with
  | .none => eqV .non x
  | .bool b => eqV (.bl b) x
  | .int i _ => eqV (.int i) x
  | .str z _ => eqV (.str z) x
  | _ => false
theorem eqU_of {x y : V} {u : Value} (r : RelV y u) (f : flatV y = true) : eqU x u = eqV y x := by
  cases y with
  | non => cases r; rfl
  | bl b => cases r; rfl
  | int i => obtain ⟨t, rfl⟩ := r; rfl
  | str z => obtain ⟨t, rfl⟩ := r; rfl
  | _ => exact absurd (show false = true from f) Bool.false_ne_true
theorem any_eqU {x : V} : ∀ {xs : List V} {us : List Value}, Vals xs us → xs.all flatV = true → us.any (eqU x) = xs.any fun y => eqV y x
  | _, _, .nil, _ => rfl
  | y :: xs, u :: us, .cons r t, f => by
    rw [List.all_cons, Bool.and_eq_true] at f
    rw [List.any_cons, List.any_cons, eqU_of r f.1, any_eqU t f.2]
theorem mem_eqAt {A : Around} {s : Shared} {x : V} {v : Value} (rx : RelV x v) (fx : flatV x = true) : ∀ {xs : List V} {us : List Value}, Vals xs us → xs.all flatV = true → ∀ u ∈ us, SeqAt.EqAt A s u v (eqU x u)
  | _, _, .nil, _ => fun u hu => by cases hu
  | y :: xs, u :: us, .cons r t, f => fun u' hu => by
    rw [List.all_cons, Bool.and_eq_true] at f
    rcases List.mem_cons.mp hu with rfl | hu
    · rw [eqU_of r f.1]; exact eqAt_V r rx f.1 fx
    · exact mem_eqAt rx fx t f.2 u' hu
def inV (x : V) (xs : List V) : Bool := xs.any fun y => eqV y x
/-- x in a list or tuple of flat items -/
def rIn (K : PySem.W.Frag) (neg : Bool) : R2 := fun x y H Q => ∃ p xs, y = .ref p ∧ (SqL K H p xs ∨ SqT K H p xs) ∧ flatV x = true ∧ xs.all flatV = true ∧ Q (.bl (if neg then !inV x xs else inV x xs)) H
theorem op_in_seq : OpR X (compareOp .In) (rIn X.K false) := by
  intro pins s σ H x y v u Q I rx ry h
  obtain ⟨p, xs, rfl, hq, fx, fs, q⟩ := h
  cases ry
  rcases hq with hq | hq
  · obtain ⟨its, r, pl, hz⟩ := I.list hq
    refine SeqAt.in_listAt (eqU x) pl.isList (fun w hw => mem_eqAt rx fx r fs w (by simpa using hw)) ⟨.bl _, H, I, rfl, ?_⟩
    rw [show its.toArray.any (eqU x) = its.any (eqU x) by simp, any_eqU r fs]
    exact q
  · obtain ⟨its, r, pl, hz⟩ := I.tuple hq
    refine SeqAt.in_tupleAt (eqU x) pl (fun w hw => mem_eqAt rx fx r fs w (by simpa using hw)) ⟨.bl _, H, I, rfl, ?_⟩
    rw [show its.toArray.any (eqU x) = its.any (eqU x) by simp, any_eqU r fs]
    exact q
/-! ### len, list(x), tuple(x) of any list or tuple that is read -/
theorem call_len_seq : CallR X (.builtin "len") (fun xs H Q => ∃ p ys, xs = [.ref p] ∧ (SqL X.K H p ys ∨ SqT X.K H p ys) ∧ Q (.int ys.length) H) := by
  intro pins s σ H xs us Q I r h
  obtain ⟨p, ys, rfl, hq, q⟩ := h
  obtain ⟨u, rfl, rx⟩ := vals1 r
  cases rx
  have hn := line63
  rcases hq with hq | hq
  · obtain ⟨its, r', pl, hz⟩ := I.list hq
    have hlen := r'.length
    exact Calls.call_len_list pl.isList (by simp only [List.size_toArray] <;> omega) ⟨.int ys.length, H, I.tok _, ⟨s.toks + 1, by rw [List.size_toArray, hlen]⟩, q⟩
  · obtain ⟨its, r', pl, hz⟩ := I.tuple hq
    have hlen := r'.length
    exact len_tuple pl (by simp only [List.size_toArray] <;> omega) ⟨.int ys.length, H, I.tok _, ⟨s.toks + 1, by rw [List.size_toArray, hlen]⟩, q⟩
theorem call_len_str : CallR X (.builtin "len") (fun xs H Q => ∃ z, xs = [.str z] ∧ z.length ≤ sizeLine ∧ Q (.int z.length) H) := by
  intro pins s σ H xs us Q I r h
  obtain ⟨z, rfl, hz, q⟩ := h
  obtain ⟨u, rfl, t, rfl⟩ := vals1 r
  have hn := line63
  exact len_str (by omega) ⟨.int z.length, H, I.tok _, ⟨_, rfl⟩, q⟩
theorem CallR.or {f : Value} {r r' : List V → Hp → VK → Prop} (h : CallR X f r) (h' : CallR X f r') : CallR X f (fun xs H Q => r xs H Q ∨ r' xs H Q) := by
  intro pins s σ H xs us Q I rs q
  rcases q with q | q
  · exact h pins s σ H xs us Q I rs q
  · exact h' pins s σ H xs us Q I rs q
/-! ### the call of a builtin's method: o.m(..) -/
/-- the value is of that builtin type -/
def tyV (K : PySem.W.Frag) (T : String) (x : V) (H : Hp) : Prop := match x with
  | .str _ => T = "str"
  | .int _ => T = "int"
  | .ref p => (T = "list" ∧ ∃ xs, SqL K H p xs) ∨ (T = "tuple" ∧ ∃ o, K.lookup p = some o ∧ o.cls = .type "tuple" ∧ o.dict = none) ∨
      (T = "dict" ∧ ((∃ kvs, H p = some (.dK kvs)) ∨ ∃ kvs, H p = some (.dT kvs))) ∨ (T = "set" ∧ ∃ S n, H p = some (.set S n))
  | _ => False
theorem tyV_is {pins : List (Addr × Obj)} {σ : St} {H : Hp} {s : Shared} {T : String} {x : V} {v : Value} (I : Inv X pins σ H s) (r : RelV x v) (ty : tyV X.K T x H) :
    s.TypeIs v T ∧ ∀ a, v = .ref a → ∃ ob, s.heap.get? a = some ob ∧ ob.dict = none := by
  cases x with
  | str z =>
    obtain ⟨t, rfl⟩ := r
    cases (show T = "str" from ty)
    exact ⟨typeIs_str s z t, fun _ e => nomatch e⟩
  | int i =>
    obtain ⟨t, rfl⟩ := r
    cases (show T = "int" from ty)
    exact ⟨typeIs_int s i t, fun _ e => nomatch e⟩
  | ref p =>
    cases r
    rcases ty with ⟨rfl, xs, hq⟩ | ⟨rfl, o, hk, hc, hd⟩ | ⟨rfl, hk⟩ | ⟨rfl, S, n, hk⟩
    · obtain ⟨its, _, pl, _⟩ := I.list hq
      refine ⟨pl.isList.typeIs, fun a e => ?_⟩
      cases e
      obtain ⟨o, n, e, c, hd, _⟩ := pl
      exact ⟨o, e, hd⟩
    · refine ⟨⟨o, I.kIn p o hk, hc⟩, fun a e => ?_⟩
      cases e
      exact ⟨o, I.kIn _ o hk, hd⟩
    · have z : ∃ o, s.heap.get? p = some o ∧ o.ExactDict := by
        rcases hk with ⟨kvs, hk⟩ | ⟨kvs, hk⟩
        · obtain ⟨_, _, _, _, o, _, _, e, ex, _⟩ := I.hok p _ hk
          exact ⟨o, e, ex⟩
        · obtain ⟨_, _, _, _, o, _, _, e, ex, _⟩ := I.hok p _ hk
          exact ⟨o, e, ex⟩
      obtain ⟨o, e, ex⟩ := z
      refine ⟨⟨o, e, ex.1⟩, fun a e2 => ?_⟩
      cases e2
      exact ⟨o, e, ex.2.1⟩
    · obtain ⟨o, _, _, _, e, ex, _⟩ := I.hok p _ hk
      refine ⟨⟨o, e, ex.1⟩, fun a e2 => ?_⟩
      cases e2
      exact ⟨o, e, ex.2.1⟩
  | _ => exact False.elim ty
def tBM (K : PySem.W.Frag) (T : String) (r : V → List V → Hp → VK → Prop) (to : TE) (t : TA) : TE := fun σ H Q => to σ H fun x H1 => tyV K T x H1 ∧ t σ H1 fun xs H2 => r x xs H2 Q
variable {o e : Expr} {es : List Expr} {to : TE} {t : TA} {name : Str} {apos cpos : Pos} {T id : String} {r : V → List V → Hp → VK → Prop}
theorem pe_bm (pa : PlainAttrs T) (slot : Slot T name id) (hty : typeOf (.builtin id) = pure (.type "method_descriptor")) (hm : MtR X id r) (ho : PE X o to) (ha : PA X (e :: es) t)
    (hbase : attributeBase o name X.env (eval o X.env) = eval o X.env := by rfl)
    (hfew : ((backTo cpos (starEach (e :: es) X.env)).all (fun x => !x.1) && (backToKw cpos (keywordEach [] X.env)).all (fun x => x.1.isSome)
      && decide ((e :: es).length + ([] : List Keyword).length + (if ([] : List Keyword).isEmpty then 0 else 1) < 30)) = true := by rfl)
    (hline : (apos.endLine == cpos.line) = true := by rfl) (hs : starEach (e :: es) X.env = (false, eval e X.env) :: starEach es X.env := by rfl) (hplain : (backTo cpos (starEach es X.env)).any (·.1) = false := by rfl) :
    PE X (.Call (.Attribute o name apos) (e :: es) [] cpos) (tBM X.K T r to t) := by
  intro pins s σ H Q I h
  refine wpAny_Call_method_late hbase hfew hline rfl (thn (ho pins s σ H _ I h) fun v s1 ⟨x, H1, I1, r1, ty, q1⟩ => ?_)
  obtain ⟨h1, h2⟩ := tyV_is I1 r1 ty
  refine ⟨T, id, pa, slot, hty, h1, h2, ?_⟩
  have hA := ha cpos pins s1 σ H1 _ I1 q1
  rw [hs] at hA ⊢
  refine Calls.callWith_builtin (by show (false || (backTo cpos (starEach es X.env)).any (·.1)) = false; rw [hplain] <;> rfl) (Calls.evalArgs_plain ?_)
  exact thn hA fun us s2 ⟨vs, H2, I2, r2, q2⟩ => hm pins s2 σ H2 x vs v us Q I2 r1 r2 q2
/- xs.append(e), list.index on a module's tuple .. are MtR facts of 06m -/
end
end L2

namespace L2
open PySem PySem.Spec PyProof.Rows

def MtM (X : Cx) (id : String) (r : V → List V → Hp → VK → Prop) : Prop :=
  ∀ (pins : List (Addr × Obj)) (s : Shared) (σ : St) (H : Hp) (x : V) (xs : List V) (v : Value) (us : List Value) (Q : VK), Inv X pins σ H s → RelV x v → Vals xs us → r x xs H Q →
    wpAny (model X.prog X.w) X.A (call (.builtin id) (v :: us)) (EP X pins σ Q) X.xe s
/-! ### lists of values -/
theorem Vals.one : ∀ {x : V} {us : List Value}, Vals [x] us → ∃ u, us = [u] ∧ RelV x u
  | _, _, .cons r .nil => ⟨_, rfl, r⟩
theorem Vals.two : ∀ {x y : V} {us : List Value}, Vals [x, y] us → ∃ u v, us = [u, v] ∧ RelV x u ∧ RelV y v
  | _, _, _, .cons r (.cons q .nil) => ⟨_, _, rfl, r, q⟩
theorem Vals.zero : ∀ {us : List Value}, Vals [] us → us = []
  | _, .nil => rfl
theorem Vals.reverse {xs : List V} {us : List Value} (h : Vals xs us) : Vals xs.reverse us.reverse := by
  induction h with
  | nil => exact .nil
  | cons r t ih => rw [List.reverse_cons, List.reverse_cons]; exact Vals.append ih (.cons r .nil)
section
variable {X : Cx} {pins : List (Addr × Obj)} {σ : St} {H : Hp} {s : Shared} {l b : Addr} {xs ys zs : List V}

/-! ### the two steps: a tracked list is rewritten, a new list is laid -/
theorem Inv.lset {its its' : List Value} {n : Nat} {f : Array Value → Array Value} {t' : Nat} (I : Inv X pins σ H s) (hH : H l = some (.lst xs))
    (e : s.heap.get? l = some { cls := .type "list", data := .seq its.toArray n }) (hf : f its.toArray = its'.toArray) (hv : Vals ys its') (hz : ys.length ≤ sizeLine) :
    Inv X pins σ (upd H l (.lst ys)) { s with heap := s.heap.update l (Obj.mapSeq f), toks := t' } := by
  have q := PySem.IsL.update e f
  rw [hf] at q
  refine I.write (x := l) (e := l) (by rw [hH]; exact trivial) (.inl rfl) (fun b' u hb hu => (Heap.get?_update_other s.heap (Obj.mapSeq f) (Ne.symm hb)).trans hu) ⟨_, q⟩ ?_
  exact ⟨hz, its', _, hv, q⟩
theorem Inv.lnew {its : List Value} {t' : Nat} (I : Inv X pins σ H s) (hv : Vals ys its) (hz : ys.length ≤ sizeLine) :
    Inv X pins σ (upd H s.heap.objs.size (.lst ys)) { s with heap := s.heap.push { cls := .type "list", data := .seq its.toArray }, toks := t' } :=
  I.laid (fun _ _ q => Heap.get?_push_of_some _ q) (Nat.le_refl _) ⟨hz, its, 0, hv, Heap.get?_push_size _ rfl⟩
theorem Inv.fresh (I : Inv X pins σ H s) : H s.heap.objs.size = none := I.hok.fresh (Nat.le_refl _)
theorem Inv.lstM (I : Inv X pins σ H s) (hH : H l = some (.lst xs)) : xs.length ≤ sizeLine ∧ ∃ (its : List Value) (n : Nat), Vals xs its ∧ xs.length = its.length ∧ s.heap.get? l = some { cls := .type "list", data := .seq its.toArray n } := by
  obtain ⟨z, its, n, r, e⟩ := I.hok l _ hH
  exact ⟨z, its, n, r, r.length, e⟩
end

section
variable {X : Cx}

/-! ### methods -/
def rAppend : V → List V → Hp → VK → Prop := fun x vs H Q => ∃ l xs y, x = .ref l ∧ vs = [y] ∧ H l = some (.lst xs) ∧ xs.length < sizeLine ∧ Q .non (upd H l (.lst (xs ++ [y])))
theorem mt_append : MtM X "list.append" rAppend := by
  intro pins s σ H x vs v us Q I rx rv h
  obtain ⟨l, xs, y, rfl, rfl, hH, hz, q⟩ := h
  cases rx
  obtain ⟨u, rfl, ru⟩ := rv.one
  obtain ⟨z, its, n, r, hl, e⟩ := I.lstM hH
  refine call_meets F.slot_list_append ⟨_, e, rfl⟩ F.entry_list_append (F.args_list_append_2 _ _) (PySem.list_append l its.toArray n u (by rw [List.size_toArray]; omega)) ⟨e, ?_⟩
  refine ⟨.non, _, I.lset (its' := its ++ [u]) hH e (by simp) (r.append (.cons ru .nil)) ?_, rfl, q⟩
  rw [List.length_append, List.length_singleton]
  omega
/-! ### list + list, list += list, list * int -/
def rCat : R2 := fun x y H Q => ∃ l b xs zs, x = .ref l ∧ y = .ref b ∧ H l = some (.lst xs) ∧ H b = some (.lst zs) ∧ xs.length + zs.length ≤ sizeLine ∧ ∀ p, H p = none → Q (.ref p) (upd H p (.lst (xs ++ zs)))
theorem op_cat : OpR X (binaryOp .Add) rCat := by
  intro pins s σ H x y v u Q I rx ry h
  obtain ⟨l, b, xs, zs, rfl, rfl, hH, hB, hz, q⟩ := h
  cases rx
  cases ry
  obtain ⟨z, its, n, r, hl, e⟩ := I.lstM hH
  obtain ⟨z2, its2, n2, r2, hl2, e2⟩ := I.lstM hB
  refine PySem.P.add_list e e2 ?_ (by rw [List.size_toArray, List.size_toArray]; omega)
  have ea : its.toArray ++ its2.toArray = (its ++ its2).toArray := by simp
  rw [ea]
  exact ⟨.ref _, _, I.lnew (t' := s.toks) (r.append r2) (by rw [List.length_append]; omega), rfl, q _ I.fresh⟩
/-! ### del xs[i] -/
end

/-! ### xs[a:b] = ys -/
section
variable {prog : Program} {w : World} {A : Around} {E : Value → Shared → Prop} {s : Shared}
end

section
variable {X : Cx}
end
end L2

namespace L2
open PySem PySem.Spec PyProof.Rows

/-! ### lists of pairs as tables -/
section
variable {κ : Type} [DecidableEq κ]
def valV (kvs : List (κ × V)) (k : κ) : Option V := (kvs.find? fun kv => decide (kv.1 = k)).map (·.2)
/-- in its place, or at the end -/
def putK (kvs : List (κ × V)) (k : κ) (v : V) : List (κ × V) :=
  if (kvs.any fun kv => decide (kv.1 = k)) = true then kvs.map (fun kv => if kv.1 = k then (kv.1, v) else kv) else kvs ++ [(k, v)]
def dropK (kvs : List (κ × V)) (k : κ) : List (κ × V) := kvs.filter fun kv => decide (kv.1 ≠ k)
theorem valV_pos {p : κ × V} {r : List (κ × V)} {k : κ} (e : p.1 = k) : valV (p :: r) k = some p.2 := by simp [valV, List.find?_cons, e]
theorem valV_neg {p : κ × V} {r : List (κ × V)} {k : κ} (e : ¬ p.1 = k) : valV (p :: r) k = valV r k := by simp [valV, List.find?_cons, e]
theorem valV_any (k : κ) : ∀ kvs : List (κ × V), (kvs.any fun kv => decide (kv.1 = k)) = (valV kvs k).isSome
  | [] => rfl
  | p :: r => by
    rw [List.any_cons]
    by_cases e : p.1 = k
    · simp only [valV_pos e, decide_eq_true e, Bool.true_or, Option.isSome_some]
    · rw [valV_neg e, decide_eq_false e, Bool.false_or]; exact valV_any k r
theorem length_putK (kvs : List (κ × V)) (k : κ) (v : V) : (putK kvs k v).length ≤ kvs.length + 1 := by
  unfold putK
  split
  · rw [List.length_map]; omega
  · rw [List.length_append, List.length_cons, List.length_nil]; omega
theorem putK_new {kvs : List (κ × V)} {k : κ} (v : V) (h : valV kvs k = none) : putK kvs k v = kvs ++ [(k, v)] := by
  unfold putK
  rw [valV_any, h]
  exact if_neg (by decide)
theorem RelO.isSome_eq {o : Option V} {u : Option Value} (r : RelO o u) : o.isSome = u.isSome := by
  cases o with
  | none => cases u with
    | none => rfl
    | some _ => exact (show False from r).elim
  | some _ => cases u with
    | none => exact (show False from r).elim
    | some _ => rfl
theorem RelO.getD {o : Option V} {u : Option Value} {d : V} {d' : Value} (r : RelO o u) (rd : RelV d d') : RelV (o.getD d) (u.getD d') := by
  cases o with
  | none => cases u with
    | none => exact rd
    | some _ => exact (show False from r).elim
  | some _ => cases u with
    | none => exact (show False from r).elim
    | some _ => exact r
/-- raw tables of the same keys -/
theorem KV.val {kvs : List (κ × V)} {vs : List (κ × Value)} (r : KV kvs vs) (k : κ) : RelO (valV kvs k) (valueAt vs k) := by
  unfold KV at r
  induction r with
  | nil => exact True.intro
  | @cons p q ps qs h t ih =>
    obtain ⟨h1, h2⟩ := h
    by_cases e : p.1 = k
    · have e' : q.1 = k := h1.symm.trans e
      have b : valueAt (q :: qs) k = some q.2 := by simp [valueAt, List.find?_cons, e']
      rw [valV_pos e, b]; exact h2
    · have e' : ¬ q.1 = k := fun z => e (h1.trans z)
      have b : valueAt (q :: qs) k = valueAt qs k := by simp [valueAt, List.find?_cons, e']
      rw [valV_neg e, b]; exact ih
theorem KV.any {kvs : List (κ × V)} {vs : List (κ × Value)} (r : KV kvs vs) (k : κ) : (kvs.any fun kv => decide (kv.1 = k)) = vs.any fun kv => decide (kv.1 = k) := by
  unfold KV at r
  induction r with
  | nil => rfl
  | cons h t ih => rw [List.any_cons, List.any_cons, ih, h.1]
theorem KV.repl {kvs : List (κ × V)} {vs : List (κ × Value)} (r : KV kvs vs) (k : κ) {y : V} {u : Value} (ry : RelV y u) :
    KV (kvs.map fun kv => if kv.1 = k then (kv.1, y) else kv) (vs.map fun kv => if kv.1 = k then (kv.1, u) else kv) := by
  unfold KV at r ⊢
  induction r with
  | nil => exact .nil
  | @cons p q ps qs h t ih =>
    rw [List.map_cons, List.map_cons]
    refine .cons ?_ ih
    obtain ⟨h1, h2⟩ := h
    by_cases e : p.1 = k
    · rw [if_pos e, if_pos (h1.symm.trans e)]; exact ⟨h1, ry⟩
    · rw [if_neg e, if_neg (fun z => e (h1.trans z))]; exact ⟨h1, h2⟩
theorem KV.put {kvs : List (κ × V)} {vs : List (κ × Value)} (r : KV kvs vs) (k : κ) {y : V} {u : Value} (ry : RelV y u) : KV (putK kvs k y) (stored vs k u) := by
  unfold putK stored
  rw [r.any k]
  by_cases e : (vs.any fun kv => decide (kv.1 = k)) = true
  · rw [if_pos e, if_pos e]; exact r.repl k ry
  · rw [if_neg e, if_neg e]; exact Paired.snoc r ⟨rfl, ry⟩
theorem KV.drop {kvs : List (κ × V)} {vs : List (κ × Value)} (r : KV kvs vs) (k : κ) : KV (dropK kvs k) (without vs k) := by
  unfold KV at r ⊢
  unfold dropK without
  induction r with
  | nil => exact .nil
  | @cons p q ps qs h t ih =>
    obtain ⟨h1, h2⟩ := h
    rw [List.filter_cons, List.filter_cons]
    by_cases e : p.1 = k
    · have a : ¬ decide (p.1 ≠ k) = true := by simp [e]
      have b : ¬ decide (q.1 ≠ k) = true := by simp [h1.symm.trans e]
      rw [if_neg a, if_neg b]; exact ih
    · have e' : ¬ q.1 = k := fun z => e (h1.trans z)
      have a : decide (p.1 ≠ k) = true := by simp [e]
      have b : decide (q.1 ≠ k) = true := by simp [e']
      rw [if_pos a, if_pos b]; exact .cons ⟨h1, h2⟩ ih
theorem KV.keys {kvs : List (κ × V)} {vs : List (κ × Value)} (r : KV kvs vs) : kvs.map (·.1) = vs.map (·.1) := by
  unfold KV at r
  induction r with
  | nil => rfl
  | cons h t ih => rw [List.map_cons, List.map_cons, ih, h.1]
theorem KV.length {kvs : List (κ × V)} {vs : List (κ × Value)} (r : KV kvs vs) : kvs.length = vs.length := Paired.length r
end


/-! ### a tracked dict, its keys ints and texts or tuples of these -/
theorem kV_is {P : Program} {w : World} {k : Key} {u : Value} (r : RelV (kV k) u) : (mixKind P w).is k u = true := by
  cases k with
  | inl i => obtain ⟨t, e⟩ := (show ∃ t, u = Value.int i t from r); subst e; exact mixKind_int P w i t
  | inr x => obtain ⟨t, e⟩ := (show ∃ t, u = Value.str x t from r); subst e; exact mixKind_str P w x t
theorem items_are {P : Program} {w : World} : ∀ {ks : List Key} {us : List Value}, Vals (ks.map kV) us → ItemsAre (mixKind P w) ks us
  | [], _, r => by rw [List.map_nil] at r; cases r; exact .nil
  | k :: ks, _, r => by
    rw [List.map_cons] at r
    cases r with
    | cons h t => exact .cons (kV_is h) (items_are t)
/-- raw entries of a dict with tuple keys -/
abbrev KT (H : Hp) : List (List Key × V) → List (List Key × Addr × Value) → Prop := Paired fun p q => p.1 = q.1 ∧ H q.2.1 = some (.tup (p.1.map kV)) ∧ RelV p.2 q.2.2
theorem KT.val {H : Hp} {kvs : List (List Key × V)} {xs : List (List Key × Addr × Value)} (r : KT H kvs xs) (k : List Key) : RelO (valV kvs k) ((atKey xs k).map (·.2)) := by
  induction r with
  | nil => exact True.intro
  | @cons p q ps qs h t ih =>
    obtain ⟨h1, _, h2⟩ := h
    by_cases e : p.1 = k
    · have e' : q.1 = k := h1.symm.trans e
      have b : atKey (q :: qs) k = some q.2 := by simp [atKey, List.find?_cons, e']
      rw [valV_pos e, b]; exact h2
    · have e' : ¬ q.1 = k := fun z => e (h1.trans z)
      have b : atKey (q :: qs) k = atKey qs k := by simp [atKey, List.find?_cons, e']
      rw [valV_neg e, b]; exact ih
theorem KT.repl {H : Hp} {kvs : List (List Key × V)} {xs : List (List Key × Addr × Value)} (r : KT H kvs xs) (k : List Key) {y : V} {u : Value} (ry : RelV y u) :
    KT H (kvs.map fun kv => if kv.1 = k then (kv.1, y) else kv) (xs.map (putAt k u)) := by
  induction r with
  | nil => exact .nil
  | @cons p q ps qs h t ih =>
    rw [List.map_cons, List.map_cons]
    refine .cons ?_ ih
    obtain ⟨h1, h2, h3⟩ := h
    unfold putAt
    by_cases e : p.1 = k
    · rw [if_pos e, if_pos (h1.symm.trans e)]; exact ⟨h1, h2, ry⟩
    · rw [if_neg e, if_neg (fun z => e (h1.trans z))]; exact ⟨h1, h2, h3⟩
theorem KT.put {H : Hp} {kvs : List (List Key × V)} {xs : List (List Key × Addr × Value)} (r : KT H kvs xs) (k : List Key) {b : Addr} {y : V} {u : Value} (hb : H b = some (.tup (k.map kV))) (ry : RelV y u) :
    KT H (putK kvs k y) (storedH xs k b u) := by
  have e : (kvs.any fun kv => decide (kv.1 = k)) = (atKey xs k).isSome := by
    rw [valV_any, (r.val k).isSome_eq, Option.isSome_map]
  unfold putK storedH
  rw [e]
  by_cases q : (atKey xs k).isSome = true
  · rw [if_pos q, if_pos q]; exact r.repl k ry
  · rw [if_neg q, if_neg q]; exact Paired.snoc r ⟨rfl, hb, ry⟩
theorem KT.keeps {H H' : Hp} {kvs : List (List Key × V)} {xs : List (List Key × Addr × Value)} (r : KT H kvs xs) (ht : ∀ b ys, H b = some (.tup ys) → H' b = some (.tup ys)) : KT H' kvs xs :=
  Paired.mapP r fun _ _ z => ⟨z.1, ht _ _ z.2.1, z.2.2⟩
section
variable {P : Program} {w : World} {H : Hp} {h : Heap} {a : Addr}
theorem rd_of {u : HO} (ok : HOk P w H h) (e : Rd H a u) : ObjOk P w H h a u := e.ok ok
theorem dk_rd {kvs : List (Key × V)} (ok : HOk P w H h) (e : Rd H a (.dK kvs)) : kvs.length ≤ sizeLine ∧ (a == sysModules) = false ∧ ∃ vs, KV kvs vs ∧ h.DictOf (mixKind P w) a vs :=
  show ObjOk P w H h a (.dK kvs) from rd_of ok e
theorem dk_of {kvs : List (Key × V)} (ok : HOk P w H h) (e : H a = some (.dK kvs)) : kvs.length ≤ sizeLine ∧ (a == sysModules) = false ∧ ∃ vs, KV kvs vs ∧ h.DictOf (mixKind P w) a vs := dk_rd ok (.inl e)
/-- a tracked tuple of ints and texts is a key -/
theorem key_of {ks : List Key} (ok : HOk P w H h) (e : H a = some (.tup (ks.map kV))) : (tupleKind (mixKind P w)).is h ks a := by
  obtain ⟨_, its, r, o, h1, h2, n, h3⟩ := (show ObjOk P w H h a (.tup (ks.map kV)) from ok a _ e)
  exact ⟨o, its.toArray, n, h1, h2, h3, by simpa using items_are r⟩
theorem dt_rd {kvs : List (List Key × V)} (ok : HOk P w H h) (e : Rd H a (.dT kvs)) : kvs.length ≤ sizeLine ∧ (a == sysModules) = false ∧
    ∃ xs, KT H kvs xs ∧ h.DictOfH (tupleKind (mixKind P w)) a xs := by
  obtain ⟨z, y, xs, r, o, es, ep, h1, h2, h3, h4, h5⟩ := (show ObjOk P w H h a (.dT kvs) from rd_of ok e)
  refine ⟨z, y, xs, r, o, es, ep, h1, h2, h3, h4, fun x hx => ?_, h5⟩
  have all : ∀ {l : List (List Key × V)} {m : List (List Key × Addr × Value)}, KT H l m → ∀ x ∈ m, (tupleKind (mixKind P w)).is h x.1 x.2.1 := by
    intro l m q
    induction q with
    | nil => intro x hx; exact nomatch hx
    | @cons p q ps qs hq t ih =>
      intro x hx
      rcases List.mem_cons.mp hx with e | hx
      · subst e
        exact key_of ok (by rw [← hq.1]; exact hq.2.1)
      · exact ih x hx
  exact all r x hx
theorem dt_of {kvs : List (List Key × V)} (ok : HOk P w H h) (e : H a = some (.dT kvs)) : kvs.length ≤ sizeLine ∧ (a == sysModules) = false ∧
    ∃ xs, KT H kvs xs ∧ h.DictOfH (tupleKind (mixKind P w)) a xs := dt_rd ok (.inl e)
end

/-- what the dict at a holds at the key y -/
def DGet (H : Hp) (a : Addr) (y : V) (r : Option V) : Prop :=
  (∃ kvs k, Rd H a (.dK kvs) ∧ y = kV k ∧ r = valV kvs k) ∨ ∃ kvs k b, Rd H a (.dT kvs) ∧ y = .ref b ∧ H b = some (.tup (k.map kV)) ∧ r = valV kvs k
/-- the heap behind a[y] = v -/
def DPut (H : Hp) (a : Addr) (y v : V) (H' : Hp) : Prop :=
  (∃ kvs k, H a = some (.dK kvs) ∧ y = kV k ∧ kvs.length < sizeLine ∧ H' = upd H a (.dK (putK kvs k v))) ∨
  ∃ kvs k b, H a = some (.dT kvs) ∧ y = .ref b ∧ H b = some (.tup (k.map kV)) ∧ kvs.length < sizeLine ∧ H' = upd H a (.dT (putK kvs k v))
theorem DGet.k {H : Hp} {a : Addr} {kvs : List (Key × V)} {k : Key} (e : H a = some (.dK kvs)) : DGet H a (kV k) (valV kvs k) := .inl ⟨kvs, k, .inl e, rfl, rfl⟩
theorem DGet.t {H : Hp} {a b : Addr} {kvs : List (List Key × V)} {k : List Key} (e : H a = some (.dT kvs)) (eb : H b = some (.tup (k.map kV))) : DGet H a (.ref b) (valV kvs k) := .inr ⟨kvs, k, b, .inl e, rfl, eb, rfl⟩
theorem DPut.k {H : Hp} {a : Addr} {kvs : List (Key × V)} {k : Key} {v : V} (e : H a = some (.dK kvs)) (hl : kvs.length < sizeLine) : DPut H a (kV k) v (upd H a (.dK (putK kvs k v))) := .inl ⟨kvs, k, e, rfl, hl, rfl⟩
theorem DPut.t {H : Hp} {a b : Addr} {kvs : List (List Key × V)} {k : List Key} {v : V} (e : H a = some (.dT kvs)) (eb : H b = some (.tup (k.map kV))) (hl : kvs.length < sizeLine) :
    DPut H a (.ref b) v (upd H a (.dT (putK kvs k v))) := .inr ⟨kvs, k, b, e, rfl, eb, hl, rfl⟩
section
variable {X : Cx} {pins : List (Addr × Obj)} {σ : St} {H : Hp} {s : Shared} {a : Addr} {y v : V} {u r : Value} {o : Option V} {A : Around} {E : Value → Shared → Prop}

theorem Inv.big (I : Inv X pins σ H s) : sysModules < s.heap.objs.size := by
  have h : mainGlobals < s.heap.objs.size := (I.mod.glob.keeps I.bk).lt
  exact Nat.lt_trans (by decide) h
/-- d[y], there -/
theorem d_getItem {Q : Value → Shared → Prop} (hu : A.units + 1 < cLine) (I : Inv X pins σ H s) (g : DGet H a y (some v)) (ry : RelV y u) (h : ∀ w' s', Inv X pins σ H s' → RelV v w' → Q w' s') :
    wpAny (model X.prog X.w) A (getItem (.ref a) u) Q E s := by
  rcases g with ⟨kvs, k, e, ey, l⟩ | ⟨kvs, k, b, e, ey, eb, l⟩
  · subst ey
    obtain ⟨z, hd, vs, rel, dd⟩ := dk_rd I.hok e
    obtain ⟨w', hw, rw'⟩ := RelO.some_of (v := v) (o := valueAt vs k) (by rw [l]; exact rel.val k)
    exact wpAny_getItem_of (kV_is ry) dd.mapOf hw (h w' _ (I.tok _) rw')
  · subst ey
    cases (show u = Value.ref b from ry)
    obtain ⟨z, hd, xs, rel, dd⟩ := dt_rd I.hok e
    obtain ⟨w', hw, rw'⟩ := RelO.some_of (v := v) (o := (atKey xs k).map (·.2)) (by rw [l]; exact rel.val k)
    obtain ⟨p, hp, hp2⟩ := Option.map_eq_some_iff.mp hw
    refine wpAny_getItem_heap (tupleKind_room_in1 hu) (key_of I.hok eb) dd hp ?_
    rw [hp2]
    exact h w' _ (I.tok _) rw'
/-- y in d -/
theorem d_in {Q : Value → Shared → Prop} (hu : A.units + 1 < cLine) (I : Inv X pins σ H s) (g : DGet H a y o) (ry : RelV y u) (h : ∀ s', Inv X pins σ H s' → Q (.bool o.isSome) s') :
    wpAny (model X.prog X.w) A (compareOp .In u (.ref a)) Q E s := by
  rcases g with ⟨kvs, k, e, ey, l⟩ | ⟨kvs, k, b, e, ey, eb, l⟩
  · subst ey
    obtain ⟨z, hd, vs, rel, dd⟩ := dk_rd I.hok e
    refine wpAny_in_of (kV_is ry) hd dd.mapOf ?_
    rw [← (rel.val k).isSome_eq, ← l]
    exact h _ (I.tok _)
  · subst ey
    cases (show u = Value.ref b from ry)
    obtain ⟨z, hd, xs, rel, dd⟩ := dt_rd I.hok e
    refine wpAny_in_heap (tupleKind_room_in1 hu) (key_of I.hok eb) hd dd ?_
    have q := (rel.val k).isSome_eq
    rw [Option.isSome_map] at q
    rw [← q, ← l]
    exact h _ (I.tok _)
theorem d_notIn {Q : Value → Shared → Prop} (hu : A.units + 1 < cLine) (I : Inv X pins σ H s) (g : DGet H a y o) (ry : RelV y u) (h : ∀ s', Inv X pins σ H s' → Q (.bool (!o.isSome)) s') :
    wpAny (model X.prog X.w) A (compareOp .NotIn u (.ref a)) Q E s := by
  rcases g with ⟨kvs, k, e, ey, l⟩ | ⟨kvs, k, b, e, ey, eb, l⟩
  · subst ey
    obtain ⟨z, hd, vs, rel, dd⟩ := dk_rd I.hok e
    refine wpAny_notIn_of (kV_is ry) hd dd.mapOf ?_
    rw [← (rel.val k).isSome_eq, ← l]
    exact h _ (I.tok _)
  · subst ey
    cases (show u = Value.ref b from ry)
    obtain ⟨z, hd, xs, rel, dd⟩ := dt_rd I.hok e
    refine wpAny_notIn_heap (tupleKind_room_in1 hu) (key_of I.hok eb) hd dd ?_
    have q := (rel.val k).isSome_eq
    rw [Option.isSome_map] at q
    rw [← q, ← l]
    exact h _ (I.tok _)
/-- a dict's object is replaced -/
theorem d_write {h' : Heap} {t' : Nat} {ob : HO} (I : Inv X pins σ H s) (mu : Mut (H a)) (hs : Heap.SameBut a s.heap h') (he : ∃ q, h'.get? a = some q) (new : ObjOk X.prog X.w (upd H a ob) h' a ob) :
    Inv X pins σ (upd H a ob) { s with heap := h', toks := t' } :=
  I.write (x := a) (e := a) mu (.inl rfl) (fun b q hb z => (hs.2 b hb).trans z) he new
theorem dk_new {P : Program} {w : World} {H' : Hp} {h' : Heap} {kvs : List (Key × V)} {vs : List (Key × Value)} (z : kvs.length ≤ sizeLine) (hd : (a == sysModules) = false) (rel : KV kvs vs) (dd : h'.DictOf (mixKind P w) a vs) :
    ObjOk P w H' h' a (.dK kvs) := ⟨z, hd, vs, rel, dd⟩
/-- d[y] = v -/
theorem d_setItem {H' : Hp} {Q : Unit → Shared → Prop} (hu : A.units + 1 < cLine) (I : Inv X pins σ H s) (g : DPut H a y v H') (ry : RelV y u) (rv : RelV v r) (h : ∀ s', Inv X pins σ H' s' → Q () s') :
    wpAny (model X.prog X.w) A (setItem (.ref a) u r) Q E s := by
  rcases g with ⟨kvs, k, e, ey, l, eH⟩ | ⟨kvs, k, b, e, ey, eb, l, eH⟩
  · subst ey eH
    obtain ⟨z, hd, vs, rel, dd⟩ := dk_of I.hok e
    have hz : vs.length ≤ sizeLine := by rw [← rel.length]; exact z
    have hl : (putK kvs k v).length ≤ sizeLine := by have := length_putK kvs k v; omega
    refine wpAny_setItem_pairs (hsz := hz) (kV_is ry) dd fun h' dd' hs => h _ ?_
    have he : ∃ q, h'.get? a = some q := let ⟨q, _, _, hq, _⟩ := dd'; ⟨q, hq⟩
    exact d_write I (by rw [e]; exact True.intro) hs he (dk_new hl hd (rel.put k rv) dd')
  · subst ey eH
    cases (show u = Value.ref b from ry)
    obtain ⟨z, hd, xs, rel, dd⟩ := dt_of I.hok e
    have hz : xs.length ≤ sizeLine := by rw [← Paired.length rel]; exact z
    have hl : (putK kvs k v).length ≤ sizeLine := by have := length_putK kvs k v; omega
    refine wpAny_setItem_heap (hsz := hz) (tupleKind_room_in1 hu) (key_of I.hok eb) dd fun h' dd' hs => h _ ?_
    obtain ⟨q, es, ep, hq, h2, h3, h4, _, h5⟩ := dd'
    refine d_write I (by rw [e]; exact True.intro) hs ⟨q, hq⟩ ⟨hl, hd, _, (rel.put k eb rv).keeps fun c ys ec => ?_, q, es, ep, hq, h2, h3, h4, h5⟩
    rw [upd_ne (ne_of ec e (fun z => nomatch z))]
    exact ec
end

section
variable {X : Cx} {pins : List (Addr × Obj)} {σ : St} {H : Hp} {s : Shared} {a : Addr} {kvs : List (Key × V)} {k : Key} {u : Value} {A : Around} {E : Value → Shared → Prop}
end


/-! ### readings and rules -/
/-- the element of a subscription, not a slice -/
def NoSl (i : Expr) : Prop := ∀ ov iv, subscripted i false ov iv = operate [ov, iv] (getItem ov iv)
theorem subD_of {prog : Program} {w : World} {A : Around} {E : Value → Shared → Prop} {s : Shared} {env : Env} {value slice : Expr} {pos : Pos} {T id : String} {Q : Value → Shared → Prop}
    (hl : typeLookup (.type T) "__getitem__" = pure (some (.builtin id))) (hs : NoSl slice)
    (h : wpAny (model prog w) A (eval value env) (fun o s₁ => wpAny (model prog w) A (eval slice env) (fun i s₂ => s₂.TypeIs o T ∧ wpAny (model prog w) A (getItem o i) Q E s₂) E s₁) E s) :
    wpAny (model prog w) A (eval (.Subscript value slice pos) env) Q E s := by
  refine Subscript_ (wpAny_mono h (fun o s₁ h₁ => wpAny_mono h₁ (fun i s₂ h₂ => ?_) fun _ _ x => x) fun _ _ x => x)
  obtain ⟨hT, h₂⟩ := h₂
  unfold subscriptTail
  refine wpAny_bind ?_
  rw [getitemInPython_of_ne hT.not_modules]
  refine wpAny_bind (wpAny_specialOf hT hl ?_)
  have fin : wpAny (model prog w) A (subscripted slice false o i) (fun r s₃ => wpAny (model prog w) A (letTemporaryGo value o r >>= fun _ => pure r) Q E s₃) E s₂ := by
    rw [hs o i]
    exact wpAny_operating (wpAny_mono h₂ (fun r s₃ h₃ => wpAny_bind (wpAny_letTemporaryGo (wpAny_pure h₃))) fun _ _ x => x)
  first
    | exact wpAny_pure (wpAny_bind fin)
    | exact wpAny_bind (wpAny_pure (wpAny_bind fin))
    | exact wpAny_bind fin
theorem dict_typeIs {X : Cx} {pins : List (Addr × Obj)} {σ : St} {H : Hp} {s : Shared} {a : Addr} {y : V} {o : Option V} (I : Inv X pins σ H s) (g : DGet H a y o) : s.TypeIs (.ref a) "dict" := by
  rcases g with ⟨kvs, k, e, _, _⟩ | ⟨kvs, k, b, e, _, _, _⟩
  · obtain ⟨_, _, vs, _, dd⟩ := dk_rd I.hok e
    exact dd.typeIs
  · obtain ⟨_, _, xs, _, dd⟩ := dt_rd I.hok e
    exact dd.typeIs
/-- d[y] -/
def tDGet (td ty : TE) : TE := fun σ H Q => td σ H fun x H1 => ty σ H1 fun y H2 => ∃ a v, x = .ref a ∧ DGet H2 a y (some v) ∧ Q v H2
/-- y in d, y not in d -/
def tDIn (ty td : TE) : TE := fun σ H Q => ty σ H fun y H1 => td σ H1 fun x H2 => ∃ a o, x = .ref a ∧ DGet H2 a y o ∧ Q (.bl o.isSome) H2
def tDNotIn (ty td : TE) : TE := fun σ H Q => ty σ H fun y H1 => td σ H1 fun x H2 => ∃ a o, x = .ref a ∧ DGet H2 a y o ∧ Q (.bl (!o.isSome)) H2
/-- d[y] = v -/
def sDPut (td ty tv : TE) : TS := fun D σ H => tv σ H fun v H1 => td σ H1 fun x H2 => ty σ H2 fun y H3 => ∃ a H4, x = .ref a ∧ DPut H3 a y v H4 ∧ D.nx σ H4
section
variable {X : Cx} {o i e value : Expr} {pos pos' tpos : Pos} {td ty tv : TE}
theorem pe_dget (hu : X.A.units + 1 < cLine) (ho : PE X o td) (hi : PE X i ty) (hs : NoSl i) : PE X (.Subscript o i pos) (tDGet td ty) := by
  intro pins s σ H Q I h
  refine subD_of PySem.F.slot_dict_getitem.lookup hs (thn (ho pins s σ H _ I h) fun u s1 ⟨x, H1, I1, rx, q1⟩ => thn (hi pins s1 σ H1 _ I1 q1) fun iv s2 ⟨y, H2, I2, ry, a, v, ex, g, q2⟩ => ?_)
  subst ex
  obtain rfl : u = Value.ref a := rx
  exact ⟨dict_typeIs I2 g, d_getItem hu I2 g ry fun w' s3 I3 rw' => ⟨v, H2, I3, rw', q2⟩⟩
theorem pc_din (hu : X.A.units + 1 < cLine) (hi : PE X i ty) (ho : PE X o td) : PC X .In i o (tDIn ty td) := by
  intro pins s σ H Q I h
  refine thn (hi pins s σ H _ I h) fun iv s1 ⟨y, H1, I1, ry, q1⟩ => thn (ho pins s1 σ H1 _ I1 q1) fun u s2 ⟨x, H2, I2, rx, a, ov, ex, g, q2⟩ => ?_
  subst ex
  obtain rfl : u = Value.ref a := rx
  exact d_in hu I2 g ry fun s3 I3 => ⟨.bl ov.isSome, H2, I3, rfl, q2⟩
theorem pc_dnotin (hu : X.A.units + 1 < cLine) (hi : PE X i ty) (ho : PE X o td) : PC X .NotIn i o (tDNotIn ty td) := by
  intro pins s σ H Q I h
  refine thn (hi pins s σ H _ I h) fun iv s1 ⟨y, H1, I1, ry, q1⟩ => thn (ho pins s1 σ H1 _ I1 q1) fun u s2 ⟨x, H2, I2, rx, a, ov, ex, g, q2⟩ => ?_
  subst ex
  obtain rfl : u = Value.ref a := rx
  exact d_notIn hu I2 g ry fun s3 I3 => ⟨.bl (!ov.isSome), H2, I3, rfl, q2⟩
theorem ps_dput (hu : X.A.units + 1 < cLine) (ho : PE X o td) (hi : PE X i ty) (hv : PE X value tv) (hs : swapsWith value (some (.Subscript o i pos')) pos.line X.env = pure false) :
    PS X (.Assign [.Subscript o i pos'] value pos) (sDPut td ty tv) := by
  intro pins s σ H D I h
  refine wpAny_Assign_Subscript (thn (hv pins s σ H _ I h) fun r s1 ⟨v, H1, I1, rv, q1⟩ => thn (ho pins s1 σ H1 _ I1 q1) fun u s2 ⟨x, H2, I2, rx, q2⟩ => thn (hi pins s2 σ H2 _ I2 q2) fun iv s3 ⟨y, H3, I3, ry, a, H4, ex, g, q3⟩ => ?_) hs
  subst ex
  obtain rfl : u = Value.ref a := rx
  exact d_setItem hu I3 g ry rv fun s4 I4 => ⟨σ, H4, I4, q3⟩
end


/-! ### displays -/
theorem dk_empty {P : Program} {w : World} {H : Hp} (h : Heap) (hb : sysModules < h.objs.size) : ObjOk P w H (h.push { cls := .type "dict", data := .dict #[] }) h.objs.size (.dK []) :=
  ⟨Nat.zero_le _, beq_eq_false_iff_ne.mpr (Ne.symm (Nat.ne_of_lt hb)), [], .nil, Heap.DictOf.new h⟩
/-- {}, to be a dict of the kind that is wanted -/
def tDNewK : TE := fun _ H Q => ∀ p, H p = none → Q (.ref p) (upd H p (.dK []))
section
variable {X : Cx} {pos : Pos}
theorem pe_dnewK : PE X (.Dict [] [] pos) tDNewK := fun pins s σ H Q I h =>
  wpAny_Dict_empty ⟨.ref s.heap.objs.size, _, I.laid (a := s.heap.objs.size) (o := .dK []) (t' := s.toks) (fun _ _ q => Heap.get?_push_of_some _ q) (Nat.le_refl _) (dk_empty s.heap I.big), rfl, h _ (I.hok.fresh (Nat.le_refl _))⟩
end

/-! ### methods -/
section
variable {X : Cx} {pins : List (Addr × Obj)} {σ : St} {H : Hp} {s : Shared} {a : Addr} {y d : V} {u r : Value} {o : Option V} {A : Around} {E : Value → Shared → Prop}
end

section
variable {X : Cx} {o e f : Expr} {apos cpos : Pos} {td ty tx : TE}
end

/-! ### dict(d): a copy -/
section
variable {X : Cx} {pins : List (Addr × Obj)} {σ : St} {H : Hp} {s : Shared} {a : Addr} {kvs : List (Key × V)} {A : Around} {E : Value → Shared → Prop}
end


section
variable {X : Cx} {pins : List (Addr × Obj)} {σ : St} {H : Hp} {s : Shared} {a : Addr} {y : V} {u : Value} {A : Around} {E : Value → Shared → Prop}
end
end L2

namespace Att
open PySem PySem.W PySem.Calls PyProof.Rows

/-! ### the script -/
theorem ints_of_wellAll {P : Params} {h : Heap} : ∀ (ns : List Int) (vs : List Value), WellAll P h vs (ns.map WData.int) → IntsAre vs ns := by
  intro ns
  induction ns with
  | nil =>
    intro vs w
    rw [List.map_nil] at w
    cases w
    exact .nil
  | cons n ns ih =>
    intro vs w
    rw [List.map_cons] at w
    cases w with
    | cons a b =>
      cases a
      exact .cons _ _ (ih _ b)
theorem script_of {l : OpenLaw} {n : Nat} (hn : l.most = some n) {P : Params} {h : Heap} {args : List WData} {vals : List Value}
    (hpre : l.row.toRowW.claim.pre args = true) (hwl : WellAll P h vals args) :
    ∃ a vs ns, vals = [Value.ref a] ∧ args = [WData.list (ns.map WData.int)] ∧ h.get? a = some { cls := .type "list", data := .seq vs.toArray } ∧ IntsAre vs ns ∧ ns.length ≤ n := by
  have hsh : WShape.hasAll [] args [.list .int] = true := (pre_splitW hpre).1
  have hc : l.pre.holds [] { args := args } = true := (pre_splitW hpre).2
  obtain ⟨d, r, rfl, h1, h2⟩ := hasAllW_cons hsh
  obtain rfl := hasAllW_nil h2
  obtain ⟨xs, rfl, h3⟩ := hasW_list h1
  obtain ⟨ns, rfl⟩ := items_int h3
  have hlen : ns.length ≤ n := by
    unfold OpenLaw.pre at hc
    have h4 : (WTm.not (.lt (.lit (.int (n : Int))) (.len (.arg 0)))).holds [] { args := [.list (ns.map .int)] } = true := by
      have h4 := (holds_andW hc).1
      rw [hn] at h4
      exact h4
    have h5 := condW_of h4 (w_not (w_lt w_lit (w_len_list (w_arg rfl))))
    rw [List.length_map] at h5
    refine Nat.le_of_not_lt fun q => ?_
    have q' : (n : Int) < ((ns.length : Nat) : Int) := by omega
    first
      | (rw [decide_eq_true q'] at h5; exact absurd h5 (by decide))
      | (simp at h5; omega)
  cases hwl with
  | cons w1 w2 =>
    cases w2
    cases w1 with
    | list ho hall => exact ⟨_, _, ns, rfl, rfl, ho, ints_of_wellAll ns _ hall, hlen⟩
theorem post_true (l : OpenLaw) (args : List WData) : l.row.toRowW.claim.post args (.bool true) args = true :=
  postW_of (r := l.row.toRowW) (X := (true == true))
    (show WShape.has [] (.bool true) .bool = true by first | rfl | decide | simp [WShape.has, WShape.arms, WShape.armsAll])
    (show (WTm.eq .res (.lit (.bool true))).value [] { args := args, res := some (.bool true), after := args } = some (.bool (true == true)) from w_eq_bool (w_res rfl) w_lit) rfl
/-! ### the attachment: holds_open's last premise (the goal 'hc' behind k_head) from a wpAny of the law's body -/
/-- the same from a codeAny of the CALL (for a layer whose function contracts speak of calls) -/
theorem attach_call {l : OpenLaw} {n : Nat} {q : Program} {loose : List Str} {XP : (Str → Option Value) → Heap → Prop} {YP : World → Heap → Prop} {d : DefRec}
    (hn : l.most = some n) (hdf : d.params.defaults = [])
    (call : ∀ (w : World) (s₀ s₁ : Shared) (mg mb : Str → Option Value) (fa : Addr) (o : Obj) (pm cd doc : Value) (a : Addr) (vs : List Value) (ns : List Int),
      Ground q loose [] XP w s₀ mg mb s₁.heap → YP w s₁.heap →
      s₁.heap.get? fa = some o → o.data = .func (docDef d.name d.params d.body d.scope pm cd doc) → s₁.heap.CodeRec cd d.name → mg d.name = some (.ref fa) →
      s₁.heap.get? a = some { cls := .type "list", data := .seq vs.toArray } → IntsAre vs ns → ns.length ≤ n → s₁.gens = #[] →
      codeAny (model l.prog w) callerA (.call (.ref fa) ⟨[.ref a], []⟩) (fun r s' => r = .ok (.ret (.bool true)) ∧ OldK s₁.heap s'.heap ∧ s'.os = s₁.os ∧ AllBare s'.gens) s₁) :
    WalkO q loose XP YP l.row.toRowW d [] (fun f vs => PySem.call f vs) := by
  intro w s₀ s₁ mg mb G Y fa o pm cd doc dV kV ho hd hcd hD hmg hg args vals as hpre hlay hrd hwl hlo
  obtain rfl : dV = .none := Dflts.none hD hdf
  obtain rfl : kV = .none := Dflts.noKw hD
  obtain ⟨a, vs, ns, rfl, rfl, hobj, hints, hlen⟩ := script_of hn hpre hwl
  refine enter_call (codeAny_mono (call w s₀ s₁ mg mb fa o pm cd doc a vs ns G Y ho (fd_plain hd) hcd hmg hobj hints hlen hg) fun r s' hq => ?_)
  obtain ⟨rfl, h2, h3, h4⟩ := hq
  exact ⟨.inl ⟨.bool true, .bool true, [], rfl, fun _ => rfl, .bool true, post_true l _, fun _ => ⟨List.Pairwise.nil, fun _ hm => (nomatch hm)⟩⟩, h2, h3, h4⟩
/-! ### rules over ANY heap (no ledger) from facts about the written part K: the library's own take a ledger (News) for what they write -/
section
variable {prog : Program} {w : World} {A : Around} {E : Value → Shared → Prop} {s : Shared} {K : Frag}

/-! the whole heap as the ledger: makes every rule that writes through a ledger a rule over any heap -/
def ledger (h : Heap) (L d : Addr) : List (Addr × Obj) := (List.range h.objs.size).filterMap fun a => if a = L ∨ a = d then none else (h.get? a).map fun o => (a, o)
end
end Att

namespace L2
open PySem PySem.Spec PyProof.Rows

theorem vals_ints : ∀ {vs : List Value} {ns : List Int}, IntsAre vs ns → Vals (ns.map V.int) vs
  | _, _, .nil => .nil
  | _, _, .cons n t h => .cons ⟨t, rfl⟩ (vals_ints h)
/-- nothing is tracked but the script, known to the object (or it is an object of the module) -/
def Only (H : Hp) : Prop := ∀ b, H b = none ∨ ∃ o xs, H b = some (.frz o (.lst xs))
/-- THE HEAD: the law's promise, at the heap behind the top. F, the promise of the law's def, may use that base is part of the heap (so K.In base, base.Ns mainGlobals mg stand in Mod) -/
theorem law_call {P : Program} {w : World} {K : PySem.W.Frag} {mg mb : Str → Option Value} {CX : CXT} {k : Nat} {fa a : Addr} {fd : FuncData} {x : Str} {sp : Sp} {s₁ : Shared} {vs : List Value} {ns : List Int}
    (KX : K.In s₁.heap) (hns : s₁.heap.Ns mainGlobals mg) (hb : s₁.heap.Ns builtinsNs mb) (hbb : ∀ x : Str, x ≠ "__name__" → mb x = bootBuiltins x) (hlim : s₁.heap.NoLimit) (hg : s₁.gens = #[])
    (ha : s₁.heap.get? a = some { cls := .type "list", data := .seq vs.toArray }) (hi : IntsAre vs ns) (hl : ns.length ≤ sizeLine) (hr : Room k callerA)
    (F : ∀ base : Heap, K.In base → base.Ns mainGlobals mg → FnOk P w K mg base CX k fa fd [x] sp) (hbind : ∀ (s : Shared) (u : Value), BindsTo s fd ⟨[u], []⟩ [(x, u)])
    (hsp : ∀ H : Hp, Only H → SqL K H a (ns.map V.int) → sp [.ref a] H (fun v _ => v = .bl true) fun _ _ _ => False)
    (hCX : ∀ H e s', CX [] H s₁ (fun _ _ _ => False) e s' → False) :
    codeAny (model P w) callerA (.call (.ref fa) ⟨[.ref a], []⟩) (fun r s' => r = .ok (.ret (.bool true)) ∧ OldK s₁.heap s'.heap ∧ s'.os = s₁.os ∧ AllBare s'.gens) s₁ := by
  have rv := vals_ints hi
  have lenV := hi.length
  -- from an abstract heap in which nothing but the script may be tracked
  have core : ∀ H : Hp, Only H → SqL K H a (ns.map V.int) → HOk P w H s₁.heap → (∀ b, H b ≠ none → b = a) → (H a ≠ none → K.lookup a = none) →
      codeAny (model P w) callerA (.call (.ref fa) ⟨[.ref a], []⟩) (fun r s' => r = .ok (.ret (.bool true)) ∧ OldK s₁.heap s'.heap ∧ s'.os = s₁.os ∧ AllBare s'.gens) s₁ := by
    intro H hO hS hok hA hK
    have base_of : ∀ {b : Addr} {o : Obj}, s₁.heap.get? b = some o → H b = none → (hidT s₁.heap H).get? b = some o := fun e n => hidT_get e n
    have noA : ∀ {b : Addr} {o : Obj} {es : Array DictEntry} {ep : Nat}, s₁.heap.get? b = some o → o.data = .dict es ep → H b = none := fun {b o es ep} e d => by
      cases q : H b with
      | none => rfl
      | some u =>
        have e' : b = a := hA b (by rw [q]; simp)
        subst e'
        rw [ha] at e; cases e
        have d' : Data.seq vs.toArray _ = Data.dict es ep := d
        cases d'
    have nsK : ∀ {b : Addr} {m : Str → Option Value}, s₁.heap.Ns b m → (hidT s₁.heap H).Ns b m := fun {b m} ⟨o, es, ep, e, d, r⟩ => ⟨o, es, ep, base_of e (noA e d), d, r⟩
    have hKb : K.In (hidT s₁.heap H) := fun b o e => base_of (KX b o e) (by
      cases q : H b with
      | none => rfl
      | some u =>
        have e' : b = a := hA b (by rw [q]; simp)
        subst e'
        rw [hK (by rw [q]; simp)] at e; cases e)
    have hM : Mod K mg (hidT s₁.heap H) := ⟨hKb, nsK hns, ⟨mb, nsK hb, hbb⟩, let ⟨mc, h1, h2⟩ := hlim; ⟨mc, nsK h1, h2⟩⟩
    have e0 : Env0 P w K mg (hidT s₁.heap H) callerA [] s₁ H := ⟨rfl, hM, fun b o e => of_hidT e, Nat.le_of_eq (hidT_size _ _), trivial, fun b hb => absurd (show b ∈ ([] : List Addr) from hb) (by simp), hok, .of_eq hg⟩
    refine codeAny_mono ((F _ hKb (nsK hns)).run callerA [] s₁ H ⟨[.ref a], []⟩ [.ref a] [.ref a] _ _ hr e0 (hbind s₁ (.ref a)) (.cons rfl .nil) (hsp H hO hS)) fun r s' h => ?_
    cases r with
    | error e => exact (hCX H e s' h).elim
    | ok fl =>
      cases fl with
      | next => exact False.elim h
      | brk => exact False.elim h
      | cont => exact False.elim h
      | ret u =>
        obtain ⟨v, H', os, bare, un, hok', r', q⟩ := h
        have q' : v = .bl true := q
        subst q'
        obtain rfl : u = Value.bool true := r'
        refine ⟨rfl, OldK.of_keep fun b o e => ?_, os, bare⟩
        cases q : H b with
        | none => exact un.keep b o e q (by intro z; exact absurd (show b ∈ ([] : List Addr) from z) (by simp)) (by simp)
        | some u =>
          rcases hO b with z | ⟨ob, xs, z⟩
          · rw [q] at z; cases z
          · have z2 := un.frzs b ob _ z
            obtain ⟨e1, _⟩ := hok b _ z
            obtain ⟨e2, _⟩ := hok' b _ z2
            rw [e] at e1; cases e1
            exact e2
  cases hk : K.lookup a with
  | some o =>
    -- the script is one of the module's own objects
    have e := KX a o hk
    rw [ha] at e
    cases e
    refine core (fun _ => none) (fun _ => .inl rfl) (.inr ⟨_, vs.toArray, _, hk, rfl, rfl, rfl, by rw [List.size_toArray, lenV]; exact hl, by simpa using rv⟩) (fun b u z => by have z' : (none : Option HO) = some u := z; cases z') (fun b z => absurd rfl z) fun z => absurd rfl z
  | none =>
    refine core (fun b => if b = a then some (.frz { cls := .type "list", data := .seq vs.toArray } (.lst (ns.map V.int))) else none) (fun b => ?_) (.inl (.inr ⟨{ cls := .type "list", data := .seq vs.toArray }, if_pos rfl⟩)) (fun b u z => ?_) (fun b z => ?_) fun _ => hk
    · by_cases hb : b = a
      · exact .inr ⟨_, _, if_pos hb⟩
      · exact .inl (if_neg hb)
    · by_cases hb : b = a
      · have z' := (if_pos hb).symm.trans z
        cases z'
        subst hb
        exact ⟨ha, by rw [List.length_map]; exact hl, vs, _, rv, ha⟩
      · have z' := (if_neg hb).symm.trans z
        cases z'
    · by_cases hb : b = a
      · exact hb
      · exact absurd (if_neg hb) z
end L2

namespace L2
open PySem PySem.Spec PyProof.Rows

/-- the goal that k_head leaves (case hc), from the law's promise. F gives the function object fd (K's own) once, then the promise over every base -/
theorem walk_of {l : PySem.W.OpenLaw} {n k : Nat} {q : Program} {loose : List Str} {XP : (Str → Option Value) → Heap → Prop} {YP : World → Heap → Prop} {d : DefRec} {K : Params → PySem.W.Frag} {CX : World → CXT} {sp : World → Sp} {x : Str}
    (hn : l.most = some n) (hn2 : n ≤ sizeLine) (hdf : d.params.defaults = []) (hr : Room k callerA)
    (hY : ∀ (w : World) (h : Heap), YP w h → (K w.params).In h)
    (F : ∀ (w : World) (mg : Str → Option Value) (fa : Addr) (h : Heap), (K w.params).In h → h.Ns mainGlobals mg → mg d.name = some (.ref fa) →
      ∃ fd : FuncData, (∀ (s : Shared) (u : Value), BindsTo s fd ⟨[u], []⟩ [(x, u)]) ∧
        ∀ base : Heap, (K w.params).In base → base.Ns mainGlobals mg → FnOk l.prog w (K w.params) mg base (CX w) k fa fd [x] (sp w))
    (hsp : ∀ (w : World) (H : Hp) (a : Addr) (ns : List Int), ns.length ≤ n → Only H → SqL (K w.params) H a (ns.map V.int) → sp w [.ref a] H (fun v _ => v = .bl true) fun _ _ _ => False)
    (hCX : ∀ (w : World) (H : Hp) (s : Shared) (e : Value) (s' : Shared), CX w [] H s (fun _ _ _ => False) e s' → False) :
    PySem.W.WalkO q loose XP YP l.row.toRowW d [] (fun f vs => PySem.call f vs) := by
  refine Att.attach_call hn hdf fun w s₀ s₁ mg mb fa o pm cd doc a vs ns G Y ho hd hcd hmg hobj hints hlen hg => ?_
  have KX := hY w _ Y
  obtain ⟨fd, hb, hF⟩ := F w mg fa _ KX G.T.g hmg
  exact law_call KX G.T.g G.T.b G.T.builtins G.T.nolimit hg hobj hints (Nat.le_trans hlen hn2) hr hF hb (fun H hO hS => hsp w H a ns hlen hO hS) fun H e s' => hCX w H s₁ e s'
end L2

/- THE LAST THEOREM (shape; LID, My.* are yours):
   My.Adr: a structure of the addresses that your layer names (classes, functions); My.Txt K t: a structure (Prop) of the equations over K;
   My.txt_mk : {K} {implicit addresses ..} (e1 : nsIn K mainGlobals "law" = some (some (.ref f))) (e2 : K.lookup f = some ⟨oc, od, .func (fnOf "law" "law" params body scope dV kV doc pm an cdv ct), sl⟩) (e3 : codeIn K cdv "law" = true) .. : ∃ t, My.Txt K t

(the tactic k_is has no namespace: write k_is) -/

/-! SHORT WORDS over the layer: a def of the text, its body, what a loop and a test want. -/
namespace L2
open PySem PySem.Spec PyProof.Rows

/-! ### the text by places -/
/-- the j-th statement of a class's body -/
def inClass (s : Stmt) (j : Nat) : Stmt := match s with
  | .ClassDef _ _ _ body _ _ _ _ _ _ _ => body.getD j (.Pass ⟨0, 0, 0, 0⟩)
  | _ => .Pass ⟨0, 0, 0, 0⟩
def defArgs (s : Stmt) : Arguments := match s with
  | .FunctionDef _ a _ _ _ _ _ _ _ _ => a
  | _ => { posonlyargs := [], args := [], vararg := none, kwonlyargs := [], kw_defaults := [], kwarg := none, defaults := [] }
def defBody (s : Stmt) : List Stmt := match s with
  | .FunctionDef _ _ b _ _ _ _ _ _ _ => b
  | _ => []
def defScope (s : Stmt) : Scope := match s with
  | .FunctionDef _ _ _ _ _ _ sc _ _ _ => sc
  | _ => { kind := .function, names := [], isGenerator := false, isCoroutine := false }
/-! ### no exception leaves a def -/
abbrev CX0 : CXT := fun _ _ _ _ _ _ => False
abbrev E0 : XK := fun _ _ _ => False
theorem pass0 {X : Cx} : Passes CX0 X E0 := fun _ _ _ _ _ _ _ h => h.elim
/-! ### a def (or method) of the text as it stands behind the top -/
structure Fun (K : PySem.W.Frag) (x qual : Str) (st : Stmt) (f : Addr) (fd : FuncData) : Prop where
  ex : ∃ (oc : Value) (od : Option Addr) (kV doc pm : Value) (an : Option Addr) (cdv ct : Value) (osl : Array (Option Value)),
    fd = PySem.W.fnOf x qual (defArgs st) (defBody st) (defScope st) .none kV doc pm an cdv ct ∧ K.lookup f = some ⟨oc, od, .func fd, osl⟩ ∧ PySem.W.codeIn K cdv qual = true
  kp : PySem.W.keepIn K (.ref f) = true
section
variable {P : Program} {w : World} {K : PySem.W.Frag} {mg : Str → Option Value} {base : Heap}
/-- THE RULE for a def: its body as a term of rules, and the reading of that term -/
theorem Fun.ok {x qual : Str} {st : Stmt} {f : Addr} {fd : FuncData} {N ps : List Str} {k : Nat} {sp : Sp} (F : Fun K x qual st f fd) (S : FnScope N ps (defScope st)) (len : ∀ vs H Q E, sp vs H Q E → vs.length = ps.length)
    (hbody : ∀ (cdv : Value) (A : Around) (outer : List Env) (s : Shared) (H : Hp) (vs : List V) (Q : VK) (E : XK), Room k (A.deeper (envOfC qual (defScope st) s.heap.objs.size f cdv)) → sp vs H Q E →
      ∃ t, PSs (cxOf CX0 P w K mg base N qual (defScope st) f cdv A outer s H E).nox (defBody st) t ∧ t { nx := fun _ H' => Q .non H', rt := Q } (start N vs) H) : FnOk P w K mg base CX0 (k + 1) f fd ps sp := by
  obtain ⟨oc, od, kV, doc, pm, an, cdv, ct, osl, rfl, lk, hcd⟩ := F.ex
  refine fn_of lk hcd S len fun A outer s H vs Q E hr hsp => ?_
  obtain ⟨t, h, q⟩ := hbody cdv A outer s H vs Q E hr hsp
  exact ⟨t, h.nox, q⟩
/-- how its arguments bind (no defaults): h is «fun _ _ _ _ _ _ us hl => match us, hl with | [_, _], _ => rfl», one _ a parameter -/
theorem Fun.binds {x qual : Str} {st : Stmt} {f : Addr} {fd : FuncData} {ps : List Str} (F : Fun K x qual st f fd)
    (h : ∀ (kV doc pm : Value) (an : Option Addr) (cdv ct : Value) (us : List Value), us.length = ps.length → bindArgs (PySem.W.fnOf x qual (defArgs st) (defBody st) (defScope st) .none kV doc pm an cdv ct) ⟨us, []⟩ = pure (ps.zip us)) : Binds K fd ps [] := by
  obtain ⟨oc, od, kV, doc, pm, an, cdv, ct, osl, rfl, lk, hcd⟩ := F.ex
  exact .all (h kV doc pm an cdv ct)
theorem fun_mk {x qual : Str} {st : Stmt} {f : Addr} {oc : Value} {od an : Option Addr} {osl : Array (Option Value)} {kV doc pm cdv ct : Value} (l : K.lookup f = some ⟨oc, od, .func (PySem.W.fnOf x qual (defArgs st) (defBody st) (defScope st) .none kV doc pm an cdv ct), osl⟩)
    (c : PySem.W.codeIn K cdv qual = true) (k : PySem.W.keepIn K (.ref f) = true) : Fun K x qual st f (PySem.W.fnOf x qual (defArgs st) (defBody st) (defScope st) .none kV doc pm an cdv ct) := ⟨⟨oc, od, kV, doc, pm, an, cdv, ct, osl, rfl, l, c⟩, k⟩
end
theorem hu_of {A : Around} {k : Nat} (hr : Room k A) : A.units + 1 < cLine := Nat.lt_of_le_of_lt (Nat.add_le_add_left (by decide : 1 ≤ 64) _) hr.units
theorem small1000 {n : Nat} (h : n ≤ 1000) : n < sizeLine := Nat.lt_of_le_of_lt h (by decide)
/-! ### expressions in short: the name that stands in the i-th slot -/
section
variable {X : Cx}
theorem pv (i : Nat) {x : Str} {pos : Pos} (hN : X.N[i]? = some x := by rfl) (hv : Vis X.env.scope x := by first | exact Or.inl rfl | exact Or.inr (Or.inl rfl) | exact Or.inr (Or.inr rfl)) (hd : (x == ("__debug__" : Str)) = false := by decide)
    (hcd : (x == ("__classdict__" : Str)) = false := by decide) : PE X (.Name x pos) (tVar i) := pe_var hN hv hd hcd
end

/-! ### tests -/
theorem iteF {A B : Prop} (h : B) : if false = true then A else B := by
  rw [if_neg Bool.false_ne_true]
  exact h
theorem iteT {A B : Prop} (h : A) : if true = true then A else B := by
  rw [if_pos rfl]
  exact h
theorem ite2 {c A B : Prop} [Decidable c] (h1 : c → A) (h2 : ¬ c → B) : if c then A else B := by
  by_cases h : c
  · rw [if_pos h]
    exact h1 h
  · rw [if_neg h]
    exact h2 h
/-! ### heaps -/
/-- all that was tracked is as it was -/
def Same (H H' : Hp) : Prop := ∀ b o, H b = some o → H' b = some o
theorem Same.refl (H : Hp) : Same H H := fun _ _ h => h
theorem Same.trans {H H1 H2 : Hp} (a : Same H H1) (b : Same H1 H2) : Same H H2 := fun c o h => b c o (a c o h)
theorem Same.free {H H' : Hp} (e : Same H H') {l : Addr} (h : H' l = Option.none) : H l = Option.none := by
  cases q : H l with
  | none => rfl
  | some o =>
    rw [e l o q] at h
    cases h
theorem Same.seq {K : PySem.W.Frag} {H H' : Hp} {a : Addr} {xs : List V} (e : Same H H') (h : SqL K H a xs) : SqL K H' a xs := by
  rcases h with (h | ⟨o, h⟩) | h
  · exact .inl (.inl (e _ _ h))
  · exact .inl (.inr ⟨o, e _ _ h⟩)
  · exact .inr h
/-! ### a dict's pairs: keys that differ -/
section
variable {κ : Type} [DecidableEq κ]
end
end L2


set_option Elab.async false
set_option linter.all false
set_option maxRecDepth 100000
/-! A list comprehension over the hand layer: its block is a context of its own, its names are slots of the def's. -/
namespace L2
open PySem PySem.Spec PyProof.Rows

/-! ### one turn, whatever the target is; nothing is raised -/
section
variable {prog : Program} {w : World} {A : Around} {R : Result → Shared → Prop} {s : Shared}
abbrev NoE : Value → Shared → Prop := fun _ _ => False
theorem compLoop_any {elt target iter : Expr} {ifs : List Expr} {scope : Scope} {pos : Pos} {it acc : Value} {env : Env} (I : Nat → Shared → Prop)
    (turn : ∀ n s, I n s → wpAny (model prog w) A (pyNext it) (fun r s1 => match r with
      | none => R (.ok .next) s1
      | some v => wpAny (model prog w) A (letOwnedTupleGo target it v) (fun _ s1' => wpAny (model prog w) A (assign target env v) (fun _ s2 =>
          wpAny (model prog w) A (forIn ifs true fun c r => if r = true then do let ok ← isTrue c env (eval c env); pure (ForInStep.yield ok) else pure (ForInStep.yield r)) (fun ok s3 =>
            if ok = true then wpAny (model prog w) A (eval elt env) (fun x s4 => wpAny (model prog w) A (call (.builtin "list.append") [acc, x]) (fun _ s5 => ∃ m, m < n ∧ I m s5) NoE s4) NoE s3
            else ∃ m, m < n ∧ I m s3) NoE s2) NoE s1') NoE s1) NoE s)
    (n : Nat) (h : I n s) : codeAny (model prog w) A (.compLoop (.ListComp elt [⟨target, iter, ifs, 0⟩] scope pos) 0 it acc env) R s := by
  refine codeAny_loop rfl I (fun n s hI => ?_) n h
  show wpAny _ A ((compTurn (.ListComp elt [⟨target, iter, ifs, 0⟩] scope pos) 0 it acc env).onRaise (fun x => do noteFrame x env; theTreesLotGoes x)) _ _ s
  refine wpAny_noted ?_
  rw [compTurn_list]
  refine wpAny_bind (wpAny_standAt (wpAny_bind (wpAny_mono (turn n s hI) (fun r s1 h1 => ?_) fun _ _ h' => h'.elim)))
  cases r with
  | none => exact wpAny_pure h1
  | some v =>
    refine wpAny_bind (wpAny_mono h1 (fun _ s1' h1' => ?_) fun _ _ h' => h'.elim)
    refine wpAny_bind (wpAny_mono h1' (fun _ s2 h2 => wpAny_bind (wpAny_mono h2 (fun ok s3 h3 => ?_) fun _ _ h' => h'.elim)) fun _ _ h' => h'.elim)
    cases ok with
    | false => exact wpAny_pure ⟨rfl, h3⟩
    | true =>
      exact wpAny_bind (wpAny_bind (wpAny_mono h3 (fun x s4 h4 => wpAny_bind (wpAny_mono h4 (fun _ s5 h5 => wpAny_pure (wpAny_pure ⟨rfl, h5⟩)) fun _ _ h' => h'.elim)) fun _ _ h' => h'.elim))
end

/-! ### the closure -/
def closL (cells : List (Str × Addr)) : List (Str × NameKind) → List (Str × Addr) → List (Str × Addr)
  | [], cs => cs
  | (n, k) :: r, cs => closL cells r (if k == .free then (n, (cells.lookup n).getD 0) :: cs else cs)
theorem closL_sub {cells : List (Str × Addr)} : ∀ {names : List (Str × NameKind)} {cs : List (Str × Addr)} {x : Str} {c : Addr}, (∀ y ∈ names, y.2 = .free → ∃ c, cells.lookup y.1 = some c) →
    (closL cells names cs).lookup x = some c → cs.lookup x = some c ∨ cells.lookup x = some c
  | [], _, _, _, _, h => .inl h
  | (n, k) :: r, cs, x, c, hf, h => by
    rcases closL_sub (fun y hy => hf y (List.mem_cons_of_mem _ hy)) (show (closL cells r (if k == .free then (n, (cells.lookup n).getD 0) :: cs else cs)).lookup x = some c from h) with q | q
    · by_cases hk : (k == NameKind.free) = true
      · rw [if_pos hk] at q
        by_cases hx : (x == n) = true
        · rw [List.lookup_cons, hx] at q
          obtain ⟨c', e⟩ := hf (n, k) List.mem_cons_self (eq_of_beq hk)
          have e : cells.lookup n = some c' := e
          rw [e] at q
          have q : some c' = some c := q
          rw [eq_of_beq hx, e, q]
          exact .inr rfl
        · rw [List.lookup_cons, Bool.eq_false_iff.mpr hx] at q
          exact .inl q
      · rw [if_neg hk] at q
        exact .inl q
    · exact .inr q
theorem closL_keep {cells : List (Str × Addr)} : ∀ {names : List (Str × NameKind)} {cs : List (Str × Addr)} {x : Str}, (∃ c, cs.lookup x = some c) → ∃ c, (closL cells names cs).lookup x = some c
  | [], _, _, h => h
  | (n, k) :: r, cs, x, h => by
    refine closL_keep (names := r) ?_
    by_cases hk : (k == NameKind.free) = true
    · rw [if_pos hk, List.lookup_cons]
      cases x == n with
      | true => exact ⟨_, rfl⟩
      | false => exact h
    · rw [if_neg hk]; exact h
theorem closL_has {cells : List (Str × Addr)} : ∀ {names : List (Str × NameKind)} {cs : List (Str × Addr)} {x : Str}, (x, NameKind.free) ∈ names → ∃ c, (closL cells names cs).lookup x = some c
  | [], _, _, h => nomatch h
  | (n, k) :: r, cs, x, h => by
    rcases List.mem_cons.mp h with e | h2
    · cases e
      refine closL_keep (names := r) ⟨(cells.lookup n).getD 0, ?_⟩
      rw [if_pos (by rfl), List.lookup_cons, beq_self_eq_true]
    · exact closL_has (names := r) h2
theorem closureFor_eq {scope : Scope} {env : Env} (hf : ∀ y ∈ scope.names, y.2 = .free → ∃ c, env.cells.lookup y.1 = some c) : closureFor scope env = pure (closL env.cells scope.names []) := by
  have key : ∀ (names : List (Str × NameKind)) (cs : List (Str × Addr)), (∀ y ∈ names, y.2 = .free → ∃ c, env.cells.lookup y.1 = some c) →
      (forIn names cs fun (x : Str × NameKind) (r : List (Str × Addr)) => (match x with
        | (name, kind) => if (kind == NameKind.free) = true then (do let a ← cellOf env name; pure (ForInStep.yield ((name, a) :: r))) else pure (ForInStep.yield r) : Sem (ForInStep (List (Str × Addr))))) = (pure (closL env.cells names cs) : Sem (List (Str × Addr))) := by
    intro names
    induction names with
    | nil => intro cs _; rfl
    | cons y r ih =>
      intro cs h
      obtain ⟨n, k⟩ := y
      rw [List.forIn_cons]
      by_cases hk : (k == NameKind.free) = true
      · obtain ⟨c, e⟩ := h (n, k) List.mem_cons_self (eq_of_beq hk)
        have e : env.cells.lookup n = some c := e
        have ec : cellOf env n = pure c := by unfold cellOf; rw [e]
        simp only [hk, if_true, ec, pure_bind]
        rw [ih _ fun y hy => h y (List.mem_cons_of_mem _ hy)]
        simp only [closL, hk, if_true, e, Option.getD_some]
      · simp only [hk, if_false, pure_bind, Bool.false_eq_true]
        rw [ih _ fun y hy => h y (List.mem_cons_of_mem _ hy)]
        simp only [closL, hk, if_false, Bool.false_eq_true]
  have q := key scope.names [] hf
  simp only [closureFor]
  first
    | (rw [q]; rfl)
    | (simp only [q, pure_bind])
    | exact (congrArg (fun t => t >>= pure) q).trans (pure_bind _ _)
/-! ### the block's names -/
theorem lookup_map_kind {f : Str → NameKind → NameKind} : ∀ {names : List (Str × NameKind)} {x : Str}, (names.map fun y => (y.1, f y.1 y.2)).lookup x = (names.lookup x).map (f x)
  | [], _ => rfl
  | (n, k) :: r, x => by
    show List.lookup x ((n, f n k) :: _) = _
    rw [List.lookup_cons, List.lookup_cons]
    cases h : x == n with
    | true => rw [eq_of_beq h]; rfl
    | false => exact lookup_map_kind (names := r)
theorem relabel_lookup {scope : Scope} {env : Env} {x : Str} : (relabel scope env).names.lookup x = (scope.names.lookup x).map fun k => if (k == .free && env.scope.kind == .function && env.kindOf x == some .cell) = true then .cell else k := by
  have e : (relabel scope env).names = scope.names.map fun y => (y.1, (fun (n : Str) (k : NameKind) => if (k == .free && env.scope.kind == .function && env.kindOf n == some .cell) = true then NameKind.cell else k) y.1 y.2) := by
    show (scope.names.map _) = _
    refine List.map_congr_left fun y _ => ?_
    obtain ⟨n, k⟩ := y
    show (if (k == .free && env.scope.kind == .function && env.kindOf n == some .cell) = true then (n, NameKind.cell) else (n, k)) = (n, if (k == .free && env.scope.kind == .function && env.kindOf n == some .cell) = true then NameKind.cell else k)
    split <;> rfl
  rw [e]
  exact lookup_map_kind (f := fun (n : Str) (k : NameKind) => if (k == .free && env.scope.kind == .function && env.kindOf n == some .cell) = true then NameKind.cell else k)
/-- the slots of the block's own names forgotten -/
def blank : List Nat → St → St
  | [], σ => σ
  | i :: r, σ => blank r (σ.set i none)
theorem blank_len : ∀ {is : List Nat} {σ : St}, (blank is σ).length = σ.length
  | [], _ => rfl
  | i :: r, σ => by
    show (blank r (σ.set i none)).length = _
    rw [blank_len, List.length_set]
theorem set_none_get {σ : St} {i j : Nat} {v : V} (h : (σ.set i none)[j]? = some (some v)) : σ[j]? = some (some v) ∧ j ≠ i := by
  by_cases e : j = i
  · subst e
    by_cases hl : j < σ.length
    · rw [List.getElem?_set_self hl] at h; cases h
    · rw [List.getElem?_eq_none_iff.mpr (by rw [List.length_set]; omega)] at h; cases h
  · rw [List.getElem?_set_ne (Ne.symm e)] at h
    exact ⟨h, e⟩
theorem blank_get : ∀ {is : List Nat} {σ : St} {j : Nat} {v : V}, (blank is σ)[j]? = some (some v) → σ[j]? = some (some v) ∧ j ∉ is
  | [], _, _, _, h => ⟨h, by simp⟩
  | i :: r, σ, j, v, h => by
    obtain ⟨h1, h2⟩ := blank_get (is := r) (σ := σ.set i none) h
    obtain ⟨h3, h4⟩ := set_none_get h1
    exact ⟨h3, fun m => (List.mem_cons.mp m).elim h4 h2⟩
/-- what the block's names must be: out: the names of the code around -/
def scOk (N : List Str) (out : List (Str × NameKind)) (is : List Nat) (names : List (Str × NameKind)) : Bool :=
  (names.all fun y => y.2 != .cell && (y.2 != .free || out.lookup y.1 == some .cell || out.lookup y.1 == some .free) && (y.2 != .local || names.lookup y.1 == some .local)) &&
  (N.zipIdx.all fun p => names.lookup p.1 != some .local || is.contains p.2)
structure ScOk (N : List Str) (out : List (Str × NameKind)) (is : List Nat) (names : List (Str × NameKind)) : Prop where
  nocell : ∀ y ∈ names, y.2 ≠ .cell
  free : ∀ y ∈ names, y.2 = .free → out.lookup y.1 = some .cell ∨ out.lookup y.1 = some .free
  loc : ∀ y ∈ names, y.2 = .local → names.lookup y.1 = some .local
  own : ∀ (i : Nat) (x : Str), N[i]? = some x → names.lookup x = some .local → i ∈ is
theorem ScOk.of {N : List Str} {out : List (Str × NameKind)} {is : List Nat} {names : List (Str × NameKind)} (h : scOk N out is names = true) : ScOk N out is names := by
  unfold scOk at h
  rw [Bool.and_eq_true] at h
  obtain ⟨h1, h2⟩ := h
  have a := List.all_eq_true.mp h1
  have b := List.all_eq_true.mp h2
  refine ⟨fun y hy e => ?_, fun y hy e => ?_, fun y hy e => ?_, fun i x hi e => ?_⟩
  · have q := a y hy
    rw [e] at q
    simp at q
  · have q := a y hy
    simp only [e, Bool.and_eq_true, Bool.or_eq_true, bne_self_eq_false, Bool.false_eq_true, false_or, beq_iff_eq] at q
    rcases q.1.2 with z | z
    · exact .inl z
    · exact .inr z
  · have q := a y hy
    simp only [e, Bool.and_eq_true, Bool.or_eq_true, bne_self_eq_false, Bool.false_eq_true, false_or, beq_iff_eq] at q
    exact q.2
  · have hm : (x, i) ∈ N.zipIdx := by
      rw [List.mem_iff_getElem?]
      exact ⟨i, by rw [List.getElem?_zipIdx, hi]; simp⟩
    have q := b (x, i) hm
    simp only [e, Bool.or_eq_true, bne_self_eq_false, Bool.false_eq_true, false_or] at q
    exact List.contains_iff_mem.mp q
/-! ### the block's context -/
def Cx.block (X : Cx) (scope : Scope) (cl : List (Str × Addr)) (C : Addr) (s : Shared) (H : Hp) (ex : List Addr) : Cx :=
  { X with env := compEnvC scope cl C X.env, s₀ := s, H₀ := H, outer := X.stack, ex := ex, fn := fun _ => false, pn := [], xe := NoE }
section
variable {X : Cx} {pins : List (Addr × Obj)} {σ : St} {H : Hp} {s : Shared} {scope : Scope} {is : List Nat} {ex : List Addr} {C : Addr}
theorem clos_all (I : Inv X pins σ H s) (hs : ScOk X.N X.env.scope.names is scope.names) : ∀ y ∈ scope.names, y.2 = .free → ∃ c, X.env.cells.lookup y.1 = some c := fun y hy e => I.ok.has y.1 (hs.free y hy e)
theorem clos_sub (I : Inv X pins σ H s) (hs : ScOk X.N X.env.scope.names is scope.names) {x : Str} {c : Addr} (h : (closL X.env.cells scope.names []).lookup x = some c) : X.env.cells.lookup x = some c :=
  (closL_sub (clos_all I hs) h).resolve_left fun z => nomatch z
theorem block_ok (I : Inv X pins σ H s) (hs : ScOk X.N X.env.scope.names is scope.names) (hk : scope.kind = .function) (hC : s.heap.objs.size ≤ C) (hf : ∀ b ∈ ex, FpOk X pins H b) (ho : ∀ b ∈ ex, ∃ o, s.heap.get? b = some o) :
    (X.block scope (closL X.env.cells scope.names []) C s H ex).Ok where
  mod := I.ok.mod
  kind := hk
  glob := I.ok.glob
  blt := I.ok.blt
  above := hC
  inj := fun x y c h1 h2 => I.ok.inj x y c (clos_sub I hs h1) (clos_sub I hs h2)
  has := fun x hx => by
    have hx : (relabel scope X.env).names.lookup x = some .cell ∨ (relabel scope X.env).names.lookup x = some .free := hx
    rw [relabel_lookup] at hx
    cases e : scope.names.lookup x with
    | none =>
      rw [e] at hx
      rcases hx with z | z <;> cases z
    | some k =>
      have hm : (x, k) ∈ scope.names := PySem.mem_of_lookup e
      have hk : k = .free := by
        rw [e] at hx
        cases k with
        | free => rfl
        | cell => exact absurd rfl (hs.nocell _ hm)
        | _ => rcases hx with z | z <;> simp at z
      subst hk
      exact closL_has hm
  cab := fun _ _ h => Bool.noConfusion h
  hd := I.ok.hd
  frames := I.ok.frames
  stk := .inl rfl
  exf := fun b hb => by
    obtain ⟨o, e⟩ := ho b hb
    exact ⟨Nat.ne_of_lt (Nat.lt_of_lt_of_le (Heap.lt_size e) hC), fun x c h => (hf b hb).2.2.2.2.1 x c (clos_sub I hs h)⟩
  bs := I.bs
  bsz := Nat.le_trans I.ok.bsz I.sz
  noex := fun b o e hb => by
    rcases (hf b hb).2.2.2.1 with z | z
    · exact I.ok.noex b o e z
    · exact absurd (Nat.lt_of_lt_of_le (Heap.lt_size (I.ok.bs b o e).1) z) (Nat.lt_irrefl _)
  exfs := fun b hb hm => by
    rcases List.mem_cons.mp (I.stkSub b hm) with z | z
    · exact (hf b hb).2.1 z
    · exact (hf b hb).2.2.1 z
  funs := I.stack
  frf := I.stkFree
/-- the block's first state: behind the new list and the new names -/
theorem block_inv {h' : Heap} {t' : Nat} {pl : List (Addr × Obj)} (I : Inv X pins σ H s) (hs : ScOk X.N X.env.scope.names is scope.names) (hk : scope.kind = .function) (hC : s.heap.objs.size ≤ C) (hf : ∀ b ∈ ex, FpOk X pins H b) (ho : ∀ b ∈ ex, ∃ o, s.heap.get? b = some o)
    (old : ∀ b o, s.heap.get? b = some o → h'.get? b = some o) {m : Str → Option Value} (hn : h'.Ns C m)
    (hp : ∀ p ∈ pl, h'.get? p.1 = some p.2 ∧ s.heap.objs.size ≤ p.1 ∧ p.1 ≠ C ∧ ∀ v, p.2.data ≠ .cell v) :
    Inv (X.block scope (closL X.env.cells scope.names []) C s H ex) pl (blank is σ) H { s with heap := h', toks := t' } where
  ok := block_ok I hs hk hC hf ho
  os := rfl
  bare := I.bare
  base := Un.kept old
  loc := ⟨m, hn, fun i x v h1 h2 h3 => by
    have h3 : (relabel scope X.env).names.lookup x = some .local ∨ (relabel scope X.env).names.lookup x = some .cell ∨ (relabel scope X.env).names.lookup x = some .free := h3
    obtain ⟨h2, hi⟩ := blank_get h2
    have h1 : X.N[i]? = some x := h1
    cases e : scope.names.lookup x with
    | none =>
      rw [relabel_lookup, e] at h3
      rcases h3 with z | z | z <;> cases z
    | some k =>
      have hm : (x, k) ∈ scope.names := PySem.mem_of_lookup e
      have hk : k = .free := by
        rw [relabel_lookup, e] at h3
        cases k with
        | free => rfl
        | cell => exact absurd rfl (hs.nocell _ hm)
        | «local» => exact absurd (hs.own i x h1 e) hi
        | _ => rcases h3 with z | z | z <;> simp at z
      subst hk
      have hv : X.env.scope.names.lookup x = some .cell ∨ X.env.scope.names.lookup x = some .free := hs.free _ hm rfl
      obtain ⟨m0, _, hl⟩ := I.loc
      obtain ⟨u, r, q⟩ := hl i x v h1 h2 (.inr hv)
      refine ⟨u, r, .inr ⟨?_, ?_⟩⟩
      · show (relabel scope X.env).names.lookup x = some .cell ∨ (relabel scope X.env).names.lookup x = some .free
        rw [relabel_lookup, e]
        show some (if _ then NameKind.cell else NameKind.free) = _ ∨ some (if _ then NameKind.cell else NameKind.free) = _
        split
        · exact .inl rfl
        · exact .inr rfl
      · rcases q with ⟨z, _⟩ | ⟨_, c, ec, cc⟩
        · have z : X.env.scope.names.lookup x = some .local := z
          rcases hv with hv | hv <;> rw [hv] at z <;> cases z
        · obtain ⟨c', e'⟩ := closL_has (cells := X.env.cells) (cs := []) hm
          have e2 := clos_sub I hs e'
          rw [ec] at e2
          cases e2
          obtain ⟨o, ho, hd⟩ := cc
          exact ⟨c, e', o, old _ _ ho, hd⟩⟩
  cell := fun x c h => by
    obtain ⟨v, o, ho, hd⟩ := I.cell x c (clos_sub I hs h)
    exact ⟨v, o, old _ _ ho, hd⟩
  free := I.hok.fresh hC
  freeC := fun x c h => I.freeC x c (clos_sub I hs h)
  pin := fun p hp' => by
    obtain ⟨h1, h2, h3, h4⟩ := hp p (by simpa [Cx.block] using hp')
    refine ⟨h1, I.hok.fresh h2, h3, fun hm => ?_, h4⟩
    rcases List.mem_cons.mp (I.stkSub p.1 hm) with z | z
    · exact absurd (Nat.lt_of_lt_of_le I.lt (by rw [← z]; exact h2)) (Nat.lt_irrefl _)
    · exact I.nofs h2 z
  hok := I.hok.kept old
  len := by rw [blank_len]; exact I.len
end

theorem block_K {X : Cx} {scope : Scope} {cl : List (Str × Addr)} {C : Addr} {s : Shared} {H : Hp} {ex : List Addr} : (X.block scope cl C s H ex).K = X.K := rfl
theorem PE.eqv {X : Cx} {e : Expr} {t t' : TE} (h : PE X e t') (q : t' = t) : PE X e t := q ▸ h
theorem PT.eqv {X : Cx} {e : Expr} {t t' : TT} (h : PT X e t') (q : t' = t) : PT X e t := q ▸ h
theorem PG.eqv {X : Cx} {e : Expr} {t t' : TG} (h : PG X e t') (q : t' = t) : PG X e t := q ▸ h
/-! ### tests of the block -/
def PQs (X : Cx) (ifs : List Expr) (t : TT) : Prop :=
  ∀ (pins : List (Addr × Obj)) (s : Shared) (σ : St) (H : Hp) (Q : Bool → Hp → Prop), Inv X pins σ H s → t σ H Q →
    wpAny (model X.prog X.w) X.A (forIn ifs true fun c r => if r = true then do let ok ← isTrue c X.env (eval c X.env); pure (ForInStep.yield ok) else pure (ForInStep.yield r)) (TP X pins σ Q) X.xe s
def tYes : TT := fun _ H Q => Q true H
theorem pq_nil {X : Cx} : PQs X [] tYes := fun _ _ _ H _ I h => wpAny_tests_nil ⟨H, I, h⟩
theorem pq_one {X : Cx} {c : Expr} {t : TT} (h : PT X c t) : PQs X [c] t := fun pins s σ H Q I hw => wpAny_tests_one (h pins s σ H Q I hw)
/-! ### the rule -/
/-- what is wanted turn by turn: W by the turn, a measure, the items so far, the block's slots -/
def tLcR (g : TG) (tt : TT) (te : TE) (J : It) (Q : List V → Hp → Prop) (σ : St) (H : Hp) : Prop :=
  ∃ W : Nat → Nat → List V → St → Hp → Prop, (∃ m, W 0 m [] σ H) ∧ ∀ i m ys σ H, W i m ys σ H →
    (J.stop i H ∧ ys.length ≤ sizeLine ∧ Q ys H) ∨
    (J.go i H ∧ ys.length ≤ sizeLine ∧ ∃ N : List V → St → Hp → Prop, (∀ ys' σ' H', N ys' σ' H' → ∃ m', m' < m ∧ W (i + 1) m' ys' σ' H') ∧
      ∀ x H', J.yld i H x H' → g x σ H' fun σ2 H2 => tt σ2 H2 fun b H3 => if b = true then te σ2 H3 fun v H4 => N (ys ++ [v]) σ2 H4 else N ys σ2 H3)
def tLc (is : List Nat) (wi : TI) (g : TG) (tt : TT) (te : TE) : TE := fun σ H Q => wi σ H fun J H1 => tLcR g tt te J (fun ys H2 => ∀ p, H2 p = none → Q (.ref p) (upd H2 p (.lst ys))) (blank is σ) H1
section
variable {P : Program} {w : World}
theorem HOk.track {H : Hp} {h : Heap} {a : Addr} {o : HO} (x : HOk P w H h) (hn : H a = none) (new : ObjOk P w (upd H a o) h a o) : HOk P w (upd H a o) h := fun b u q => by
  by_cases hb : b = a
  · subst hb; rw [upd_same] at q; cases q; exact new
  · rw [upd_ne hb] at q
    exact (x b u q).stay (fun _ _ _ r => r) (fun c r => by rw [upd_ne (ne_of_none r hn)]; exact r) fun c xs r => by rw [upd_ne (ne_of_none r hn)]; exact r
end
abbrev lstO (ys : List Value) (n : Nat) : Obj := { cls := .type "list", data := .seq ys.toArray n }
section
variable {X : Cx} {pins : List (Addr × Obj)} {σ : St} {H : Hp} {s : Shared} {scope : Scope} {is : List Nat}
/-- the block from the new list on; RR: what is wanted of its end -/
theorem block_run {E : Value → Shared → Prop} {elt tg iter : Expr} {ifs : List Expr} {pos : Pos} {it : Addr} {fp : List Addr} {tn : Nat → Heap → Prop} {J : It} {g : TG} {tt : TT} {te : TE} {Fin : List V → Hp → Prop} {RR : Value → Addr → Result → Shared → Prop}
    (I : Inv X pins σ H s) (hc : X.calm = true) (hs : ScOk X.N X.env.scope.names is scope.names) (hk : scope.kind = .function)
    (hg : ∀ C s H ex, PG (X.block scope (closL X.env.cells scope.names []) C s H ex) tg g) (ht : ∀ C s H ex, PQs (X.block scope (closL X.env.cells scope.names []) C s H ex) ifs tt)
    (he : ∀ C s H ex, PE (X.block scope (closL X.env.cells scope.names []) C s H ex) elt te)
    (T : Turn X.prog X.w X.K tg J fp it tn) (st : tn 0 s.heap) (hf : ∀ b ∈ fp, FpOk X pins H b) (h : tLcR g tt te J Fin (blank is σ) H)
    (hRR : ∀ (D C : Addr) (ys : List V) (its : List Value) (n : Nat) (H' : Hp) (s' : Shared) (m : Str → Option Value), s.heap.objs.size ≤ D → s.heap.objs.size ≤ C → D ≠ C → s'.heap.Ns C m → s'.heap.get? D = some (lstO its n) → Vals ys its → ys.length ≤ sizeLine →
      H' D = none → H' C = none → s'.os = s.os → AllBare s'.gens → Un (frs X.stack) fp H H' s.heap s'.heap → HOk X.prog X.w H' s'.heap → Fin ys H' → RR (.ref D) C (.ok .next) s') :
    wpAny (model X.prog X.w) X.A (newList []) (fun acc s3 => wpAny (model X.prog X.w) X.A (newFunctionEnv scope X.env.globals (closL X.env.cells scope.names []) [] X.env.qual none .none (some X.env)) (fun cenv s4 =>
      codeAny (model X.prog X.w) X.A (.compStart (.ListComp elt [⟨tg, iter, ifs, 0⟩] scope pos) 0 (.ref it) acc { cenv with scope := relabel scope X.env }) (RR acc cenv.locals) s4) E s3) E s := by
  refine wpAny_newObj_type (wpAny_newFunctionEnv hs.nocell (by intro y hy; simp at hy) (fun h1 hns1 hsb1 => ?_) hk)
  dsimp only at hns1 hsb1 ⊢
  generalize hH2 : s.heap.push { cls := .type "list", dict := none, data := .seq ([] : List Value).toArray } = H2 at hns1 hsb1 ⊢
  have hC : H2.objs.size = s.heap.objs.size + 1 := by rw [← hH2, Heap.size_push]
  have hDC : s.heap.objs.size ≠ H2.objs.size := by rw [hC]; exact Nat.ne_of_lt (Nat.lt_succ_self _)
  have hCle : s.heap.objs.size ≤ H2.objs.size := by rw [hC]; exact Nat.le_succ _
  have below : ∀ b, b < s.heap.objs.size → b ≠ H2.objs.size ∧ b ≠ s.heap.objs.size := fun b hb => ⟨by rw [hC]; exact Nat.ne_of_lt (Nat.lt_succ_of_lt hb), Nat.ne_of_lt hb⟩
  have old : ∀ b o, s.heap.get? b = some o → h1.get? b = some o := fun b o e => hsb1.extBut b o (below b (Heap.lt_size e)).1 (Heap.get?_push_of_some _ (hH2 ▸ Heap.get?_push_of_some _ e))
  have hacc : h1.get? s.heap.objs.size = some (lstO [] 0) := hsb1.extBut _ _ hDC (Heap.get?_push_of_some _ (hH2 ▸ Heap.get?_push_size _ rfl))
  have hob : ∀ b ∈ fp, ∃ o, s.heap.get? b = some o := fun b hb => let ⟨o, e, _⟩ := T.obj 0 _ st b hb; ⟨o, e⟩
  have hfD : ∀ b ∈ fp, b ≠ s.heap.objs.size := fun b hb => let ⟨o, e⟩ := hob b hb; (below b (Heap.lt_size e)).2
  have hfC : ∀ b ∈ fp, b ≠ H2.objs.size := fun b hb => let ⟨o, e⟩ := hob b hb; (below b (Heap.lt_size e)).1
  generalize hD : s.heap.objs.size = D at *
  generalize hCC : H2.objs.size = C at *
  have cellD : ∀ x c, (closL X.env.cells scope.names []).lookup x = some c → c ≠ D := fun x c e z => by
    obtain ⟨v, q⟩ := I.cell x c (clos_sub I hs e)
    exact absurd q.lt (by rw [z, hD]; exact Nat.lt_irrefl _)
  let XB := X.block scope (closL X.env.cells scope.names []) C s H fp
  have I1 : Inv XB [(D, lstO [] 0)] (blank is σ) H { s with heap := h1, toks := s.toks + ([] : List (Str × Value)).length } :=
    block_inv I hs hk (by rw [hD]; exact hCle) hf hob old hns1 fun p hp => by
      rw [List.mem_singleton.mp hp]
      exact ⟨hacc, Nat.le_of_eq hD, hDC, fun v z => nomatch z⟩
  have fpB : ∀ {pl : List (Addr × Obj)} {H' : Hp}, (∀ p ∈ pl, p.1 = D) → (∀ b ∈ fp, H' b = none) → ∀ b ∈ fp, FpOk XB pl H' b := fun {pl H'} hpl hn b hb =>
    ⟨hn b hb, hfC b hb, fun hm => by
      rcases List.mem_cons.mp (I.stkSub b hm) with z | z
      · exact (hf b hb).2.1 z
      · exact (hf b hb).2.2.1 z, .inl hb, fun x c e => (hf b hb).2.2.2.2.1 x c (clos_sub I hs e), fun p hp => by
      have hp : p ∈ pl := by simpa [XB, Cx.block] using hp
      rw [hpl p hp]
      exact Ne.symm (hfD b hb)⟩
  obtain ⟨W, ⟨m0, w0⟩, turn⟩ := h
  have st1 : tn 0 h1 := T.keep _ _ _ st fun b _ o e => old b o e
  have loop : codeAny (model X.prog X.w) X.A (.compLoop (.ListComp elt [⟨tg, iter, ifs, 0⟩] scope pos) 0 (.ref it) (.ref D) (compEnvC scope (closL X.env.cells scope.names []) C X.env)) (RR (.ref D) C) { s with heap := h1, toks := s.toks + ([] : List (Str × Value)).length } := by
    refine compLoop_any (fun k s' => ∃ i ys its n σ' H', Inv XB [(D, lstO its n)] σ' H' s' ∧ Vals ys its ∧ tn i s'.heap ∧ (∀ b ∈ fp, H' b = none) ∧ W i k ys σ' H') ?_ m0 ⟨0, [], [], 0, _, _, I1, .nil, st1, fun b hb => (hf b hb).1, w0⟩
    rintro k s3 ⟨i, ys, its, n, σ3, H3, I3, vs, st3, fr3, w3⟩
    have hpl : ∀ p ∈ [(D, lstO its n)], p.1 = D := fun p hp => by rw [List.mem_singleton.mp hp]
    rcases turn i k ys σ3 H3 w3 with ⟨stop, hz, qn⟩ | ⟨go, hz, N, hN, step⟩
    · refine thn (T.done XB rfl rfl rfl hc i _ s3 σ3 H3 NoE I3 (fpB hpl fr3) st3 stop) fun r s4 ⟨hr, I4⟩ => ?_
      subst hr
      obtain ⟨m', hn', _⟩ := I4.loc
      have pD := I4.pin (D, lstO its n) (by simp [XB, Cx.block])
      exact hRR D C ys its n H3 s4 m' (Nat.le_refl _) hCle hDC hn' pD.1 vs hz pD.2.1 I4.free I4.os I4.bare I4.base I4.hok qn
    · refine thn (T.item XB rfl rfl rfl hc i _ s3 σ3 H3 NoE I3 (fpB hpl fr3) st3 go) fun r s4 ⟨u, hr, h4⟩ => ?_
      subst hr
      refine thn h4 fun _ s5 ⟨x, H5, I5, r5, y5, st5, fr5⟩ => ?_
      have I5' := I5.pinned (fpB hpl fr5) (T.obj _ _ st5)
      refine thn (hg C s H fp _ s5 σ3 H5 x u _ I5' r5 (step x H5 y5)) fun _ s6 ⟨σ6, H6, I6, q6⟩ => ?_
      have keepT : ∀ {σ7 : St} {H7 : Hp} {s7 : Shared}, Inv XB ([(D, lstO its n)] ++ pinsAt fp s5.heap) σ7 H7 s7 → tn (i + 1) s7.heap ∧ ∀ b ∈ fp, H7 b = none := fun {σ7 H7 s7} I7 =>
        ⟨T.keep _ _ _ st5 fun b hb o e => (I7.pin (b, o) (List.mem_append_right _ (List.mem_append_right _ (mem_pinsAt hb e)))).1, fun b hb => by
          obtain ⟨o, e, d⟩ := T.obj _ _ st5 b hb
          exact (I7.pin (b, o) (List.mem_append_right _ (List.mem_append_right _ (mem_pinsAt hb e)))).2.1⟩
      refine thn (ht C s H fp _ s6 σ6 H6 _ I6 q6) fun ok s7 ⟨H7, I7, q7⟩ => ?_
      cases ok with
      | false =>
        rw [if_neg Bool.false_ne_true] at q7 ⊢
        obtain ⟨m', hm, w7⟩ := hN _ _ _ q7
        exact ⟨m', hm, i + 1, ys, its, n, σ6, H7, I7.unpinned, vs, (keepT I7).1, (keepT I7).2, w7⟩
      | true =>
        rw [if_pos rfl] at q7 ⊢
        refine thn (he C s H fp _ s7 σ6 H7 _ I7 q7) fun y s8 ⟨v, H8, I8, r8, n8⟩ => ?_
        obtain ⟨m', hm, w8⟩ := hN _ _ _ n8
        obtain ⟨st8, fr8⟩ := keepT I8
        have pD := I8.pin (D, lstO its n) (by simp)
        have hl := vs.length
        refine append_at (hsz := by show its.toArray.size ≤ sizeLine; rw [List.size_toArray, ← hl]; exact hz) pD.1 fun h9 sb9 e9 => ?_
        have I9 : Inv XB [] σ6 H8 { s8 with heap := h9 } := by
          have J8 : Inv XB [] σ6 H8 s8 := I8.pins_of fun p hp => nomatch hp
          exact J8.turned (t' := s8.toks) (it := D) (fun b o hb e => sb9.extBut b o hb e) pD.2.1 hDC (.inr (Nat.le_of_eq hD)) (fun x c e => cellD x c e) fun p hp => by simp [XB, Cx.block] at hp
        refine ⟨m', hm, i + 1, ys ++ [v], its ++ [y], n + 1, σ6, H8, I9.pins_of fun p hp => ?_, vs.append (.cons r8 .nil), T.keep _ _ _ st8 fun b hb o e => sb9.extBut b o (hfD b hb) e, fr8, w8⟩
        rw [List.mem_singleton.mp hp]
        refine ⟨?_, pD.2.1, hDC, fun hm => ?_, fun v z => nomatch z⟩
        · rw [e9]
          show some _ = some _
          rw [List.push_toArray]
        · exact pD.2.2.2.1 hm
  exact codeAny_compStart_list loop (T.self _ 0 _ _ _ st1 loop)
variable {elt tg iter : Expr} {ifs : List Expr} {pos spos py : Pos} {wi : TI} {g : TG} {tt : TT} {te : TE}
/-- behind the block: the new list is tracked -/
theorem block_after {D : Addr} {ys : List V} {its : List Value} {n : Nat} {H' : Hp} {s' : Shared} {fp : List Addr} (I : Inv X pins σ H s) (hf : ∀ b ∈ fp, FpOk X pins H b) (hD : s.heap.objs.size ≤ D) (e : s'.heap.get? D = some (lstO its n)) (vs : Vals ys its) (hz : ys.length ≤ sizeLine)
    (nD : H' D = none) (os : s'.os = s.os) (bare : AllBare s'.gens) (un : Un (frs X.stack) fp H H' s.heap s'.heap) (hok : HOk X.prog X.w H' s'.heap) : Inv X pins σ (upd H' D (.lst ys)) s' := by
  have neD : ∀ b o, s.heap.get? b = some o → b ≠ D := fun b o q => Nat.ne_of_lt (Nat.lt_of_lt_of_le (Heap.lt_size q) hD)
  refine I.call' (ch := fp) os ⟨un.keep, un.slot, fun b o q nn hx => by rw [upd_ne (neD b o q)]; exact un.free b o q nn hx, un.there, fun b xs q => ?_, fun b o u q => ?_, fun b ps q => ?_⟩ (hok.track nD ⟨hz, its, n, vs, e⟩) bare fun b hb => ?_
  · have q' := un.tups b xs q
    rw [upd_ne (ne_of_none q' nD)]; exact q'
  · have q' := un.frzs b o u q
    rw [upd_ne (ne_of_none q' nD)]; exact q'
  · obtain ⟨more, q'⟩ := un.tbls b ps q
    exact ⟨more, by rw [upd_ne (ne_of_none q' nD)]; exact q'⟩
  · obtain ⟨f0, f1, f2, f3, f4, f5⟩ := hf b hb
    exact ⟨f3, f1, f4, f5⟩
/-- the block's names let go -/
theorem block_gone {C : Addr} {h' : Heap} {s0 : Shared} (I : Inv X pins σ H s) (hC : s0.heap.objs.size ≤ C) (nC : H C = none) (hsb : Heap.SameBut C s.heap h') (I0 : ∃ σ0 H0, Inv X pins σ0 H0 s0) : Inv X pins σ H { s with heap := h' } := by
  obtain ⟨σ0, H0, I0⟩ := I0
  obtain ⟨_, f1, _, f3, f4, f5⟩ := I0.fpOk (H' := fun _ => none) hC rfl
  exact I.turned (t' := s.toks) (fun b o hb e => hsb.extBut b o hb e) nC f1 f3 f4 f5
theorem pe_lc (N : List Str) (out : List (Str × NameKind)) (is : List Nat) (hc : X.calm = true) (hi : PI X tg iter wi) (hk : scope.kind = .function) (hs : scOk N out is scope.names = true)
    (hg : ∀ C s H ex, PG (X.block scope (closL X.env.cells scope.names []) C s H ex) tg g) (ht : ∀ C s H ex, PQs (X.block scope (closL X.env.cells scope.names []) C s H ex) ifs tt)
    (he : ∀ C s H ex, ∃ t, PE (X.block scope (closL X.env.cells scope.names []) C s H ex) elt t ∧ t = te) (hfs : ∀ x, foldedSetIterable iter X.env x = pure x := by intro _; rfl) (eN : X.N = N := by rfl) (eo : X.env.scope.names = out := by rfl) :
    PE X (.ListComp elt [⟨tg, iter, ifs, 0⟩] scope pos) (tLc is wi g tt te) := by
  intro pins s σ H Q I h
  subst eN eo
  have S := ScOk.of hs
  rw [eval_ListComp]
  refine wpAny_comprehension_free (use := none) rfl hfs (closureFor_eq (clos_all I S)) hk S.loc (thn (hi pins s σ H _ I h) fun v s1 h1 => thn h1 fun itv s2 h2 => ?_)
  obtain ⟨it, fp, tn, J, H2, rfl, I2, T, st2, f2, h2⟩ := h2
  refine block_run (RR := fun acc C => compPost (model X.prog X.w) X.A X.xe none (EP X pins σ Q) acc C) I2 hc S hk hg ht (fun C s H ex => let ⟨_, h, e⟩ := he C s H ex; PE.eqv h e) T st2 f2 h2 ?_
  intro D C ys its n H' s' m hD hC hDC hn e vs hz nD nC os bare un hok q
  have J1 : Inv X pins σ (upd H' D (.lst ys)) s' := block_after I2 f2 hD e vs hz nD os bare un hok
  refine ⟨m, hn, fun h' hsb => ⟨.ref D, _, block_gone J1 hC (by rw [upd_ne (Ne.symm hDC)]; exact nC) hsb ⟨_, _, I2⟩, rfl, q D nD⟩⟩
/-- y = [.. for ..] where Python stores y ahead of letting the block's names go -/
theorem ps_lc {y : Str} {j : Nat} (N : List Str) (out : List (Str × NameKind)) (is : List Nat) (hN : X.N.Nodup) (hj : X.N[j]? = some y) (hy : X.env.scope.names.lookup y = some .local) (hc : X.calm = true) (hi : PI X tg iter wi) (hk : scope.kind = .function) (hs : scOk N out is scope.names = true)
    (hg : ∀ C s H ex, PG (X.block scope (closL X.env.cells scope.names []) C s H ex) tg g) (ht : ∀ C s H ex, PQs (X.block scope (closL X.env.cells scope.names []) C s H ex) ifs tt)
    (he : ∀ C s H ex, ∃ t, PE (X.block scope (closL X.env.cells scope.names []) C s H ex) elt t ∧ t = te)
    (hsw : swapsWith (.ListComp elt [⟨tg, iter, ifs, 0⟩] scope pos) (some (.Name y py)) spos.line X.env = pure true := by rfl) (hfs : ∀ x, foldedSetIterable iter X.env x = pure x := by intro _; rfl) (eN : X.N = N := by rfl) (eo : X.env.scope.names = out := by rfl) :
    PS X (.Assign [.Name y py] (.ListComp elt [⟨tg, iter, ifs, 0⟩] scope pos) spos) (tAsg (tLc is wi g tt te) (gName j)) := by
  intro pins s σ H Dn I h
  subst eN eo
  have S := ScOk.of hs
  rw [exec_Assign_Name_used _ _ _ _ hsw]
  refine wpAny_bind (wpAny_standAt (wpAny_bind ?_))
  show wpAny _ _ (do let _ ← comprehension (.ListComp elt [⟨tg, iter, ifs, 0⟩] scope pos) scope X.env _ (newList []) false (eval iter X.env) (some (assign (.Name y py) X.env))) _ _ s
  refine wpAny_bind (wpAny_mono (wpAny_comprehension_free (use := some (assign (.Name y py) X.env)) (Q := fun _ s' => SP X pins Dn .next s') rfl hfs (closureFor_eq (clos_all I S)) hk S.loc
    (thn (hi pins s σ H _ I h) fun v s1 h1 => thn h1 fun itv s2 h2 => ?_)) (fun _ s' hq => wpAny_pure (wpAny_pure hq)) fun _ _ e => e)
  obtain ⟨it, fp, tn, J, H2, rfl, I2, T, st2, f2, h2⟩ := h2
  refine block_run (RR := fun acc C => compPost (model X.prog X.w) X.A X.xe (some (assign (.Name y py) X.env)) (fun _ s' => SP X pins Dn .next s') acc C) I2 hc S hk hg ht (fun C s H ex => let ⟨_, h, e⟩ := he C s H ex; PE.eqv h e) T st2 f2 h2 ?_
  intro D C ys its n H' s' m hD hC hDC hn e vs hz nD nC os bare un hok q
  have J1 : Inv X pins σ (upd H' D (.lst ys)) s' := block_after I2 f2 hD e vs hz nD os bare un hok
  show wpAny _ _ (assign (.Name y py) X.env (.ref D)) _ _ _
  refine wpAny_assign_Name (store_ok2 J1 hN hj (.inl hy) (v := .ref D) rfl (fun s5 J5 ⟨a, sb, ha⟩ => ?_) (.inr hy))
  have hCa : C ≠ a := by
    obtain ⟨_, f1, _, f3, f4, f5⟩ := I2.fpOk (H' := fun _ => none) hC rfl
    rcases ha with z | z
    · rw [z]; exact f1
    · exact fun q => f4 _ _ z q.symm
  exact ⟨m, hn.sameBut sb hCa, fun h' hsb => ⟨_, _, block_gone J5 hC (by rw [upd_ne (Ne.symm hDC)]; exact nC) hsb ⟨_, _, I2⟩, q D nD⟩⟩
end

/-! ### .. with a test that speaks of the classes -/
section
variable {X : Cx} {elt tg iter : Expr} {ifs : List Expr} {scope : Scope} {pos : Pos} {wi : TI} {g : TG} {tt : TT} {te : TE} {py spos : Pos}
theorem pe_lcQ (N : List Str) (out : List (Str × NameKind)) (is : List Nat) (hc : X.calm = true) (hi : PI X tg iter wi) (hk : scope.kind = .function) (hs : scOk N out is scope.names = true)
    (hg : ∀ C s H ex, PG (X.block scope (closL X.env.cells scope.names []) C s H ex) tg g) (ht : ∀ C s H ex, ∃ t, PQs (X.block scope (closL X.env.cells scope.names []) C s H ex) ifs t ∧ t = tt)
    (he : ∀ C s H ex, ∃ t, PE (X.block scope (closL X.env.cells scope.names []) C s H ex) elt t ∧ t = te) (hfs : ∀ x, foldedSetIterable iter X.env x = pure x := by intro _; rfl) (eN : X.N = N := by rfl) (eo : X.env.scope.names = out := by rfl) :
    PE X (.ListComp elt [⟨tg, iter, ifs, 0⟩] scope pos) (tLc is wi g tt te) := pe_lc N out is hc hi hk hs hg (fun C s H ex => let ⟨_, h, e⟩ := ht C s H ex; e ▸ h) he hfs eN eo
end

/-! ### the forms one uses -/
/-- over a range: each turn hands on one item (or none) -/
theorem lc_range {lo : Int} {n : Nat} {g : TG} {tt : TT} {te : TE} {Q : List V → Hp → Prop} {σ : St} {H : Hp} (hn : n ≤ sizeLine) (Pv : Nat → List V → St → Hp → Prop) (h0 : Pv 0 [] σ H) (hlen : ∀ i ys σ H, Pv i ys σ H → ys.length ≤ i)
    (hs : ∀ i ys σ H, i < n → Pv i ys σ H → g (.int (lo + i)) σ H fun σ2 H2 => tt σ2 H2 fun b H3 => if b = true then te σ2 H3 fun v H4 => Pv (i + 1) (ys ++ [v]) σ2 H4 else Pv (i + 1) ys σ2 H3)
    (hd : ∀ ys σ H, Pv n ys σ H → Q ys H) : tLcR g tt te (Itr lo n) Q σ H := by
  refine ⟨fun i m ys σ H => m = n - i ∧ i ≤ n ∧ Pv i ys σ H, ⟨n, by simp, Nat.zero_le _, h0⟩, ?_⟩
  rintro i m ys σ H ⟨rfl, hi, p⟩
  have hl := hlen i ys σ H p
  by_cases hlt : i < n
  · refine .inr ⟨hlt, by omega, Pv (i + 1), fun ys' σ' H' p' => ⟨n - (i + 1), by omega, rfl, hlt, p'⟩, fun x H' y => ?_⟩
    obtain ⟨rfl, rfl⟩ := y
    exact hs i ys σ _ hlt p
  · have e : i = n := by omega
    subst e
    exact .inl ⟨Nat.le_refl _, by omega, hd ys σ H p⟩
/-- over a list that the block leaves as it is -/
theorem lc_list {K : PySem.W.Frag} {a : Addr} {xs : List V} {g : TG} {tt : TT} {te : TE} {Q : List V → Hp → Prop} {σ : St} {H : Hp} (hn : xs.length ≤ sizeLine) (Pv : Nat → List V → St → Hp → Prop) (h0 : Pv 0 [] σ H) (hl : ∀ i ys σ H, i ≤ xs.length → Pv i ys σ H → SqL K H a xs ∧ ys.length ≤ i)
    (hs : ∀ i x ys σ H, xs[i]? = some x → Pv i ys σ H → g x σ H fun σ2 H2 => tt σ2 H2 fun b H3 => if b = true then te σ2 H3 fun v H4 => Pv (i + 1) (ys ++ [v]) σ2 H4 else Pv (i + 1) ys σ2 H3)
    (hd : ∀ ys σ H, Pv xs.length ys σ H → Q ys H) : tLcR g tt te (Itl K a) Q σ H := by
  refine ⟨fun i m ys σ H => m = xs.length - i ∧ i ≤ xs.length ∧ Pv i ys σ H, ⟨xs.length, by simp, Nat.zero_le _, h0⟩, ?_⟩
  rintro i m ys σ H ⟨rfl, hi, p⟩
  obtain ⟨q, hy⟩ := hl i ys σ H hi p
  by_cases hlt : i < xs.length
  · refine .inr ⟨⟨xs, xs[i], q, by simp [hlt]⟩, by omega, Pv (i + 1), fun ys' σ' H' p' => ⟨xs.length - (i + 1), by omega, rfl, hlt, p'⟩, fun x H' y => ?_⟩
    obtain ⟨rfl, y⟩ := y
    exact hs i x ys σ _ (y xs q) p
  · have e : i = xs.length := by omega
    subst e
    exact .inl ⟨⟨xs, q, Nat.le_refl _⟩, by omega, hd ys σ H p⟩
end L2


set_option Elab.async false
set_option linter.all false
set_option maxRecDepth 100000
/-! More rules over the hand layer: ranges by steps, reversed(range), isinstance, join, == and != of lists and tuples at any depth. -/

namespace PySem
/-! ### reversed(range(..)) -/
section
variable {prog : Program} {w : World} {A : Around} {E : Value → Shared → Prop} {s : Shared}
end
end PySem

namespace L2
open PySem PySem.Spec PyProof.Rows

/-! ### a range by steps -/
section
variable {X : Cx} {tg : Expr}
end
/-! ### isinstance against a class of Python's own -/
section
variable {X : Cx}
theorem call_isinst : CallR X (.builtin "isinstance") (fun xs H Q => ∃ x T t b, xs = [x, .ty T] ∧ TyOf X.K H x t ∧ PySem.W.kitOne X.K t (.type T) = some b ∧ Q (.bl b) H) := by
  intro pins s σ H xs us Q I r h
  obtain ⟨x, T, t, b, rfl, ty, e, q⟩ := h
  obtain ⟨u, u', rfl, ru, ru'⟩ := vals2 r
  cases (show u' = Value.type T from ru')
  exact isinst_ok I ru ty e fun tk => ⟨.bl b, H, I.tok tk, rfl, q⟩
/-! ### join of a list of texts -/
end

/-! ### == and != at any depth -/
inductive EqV (K : PySem.W.Frag) (H : Hp) : Nat → V → V → Bool → Prop
  | flat {n x y} (fx : flatV x = true) (fy : flatV y = true) : EqV K H n x y (eqV x y)
  | lists {n a c xs ys} {e : Nat → Bool} (h1 : SqL K H a xs) (h2 : SqL K H c ys) (hl : xs.length = ys.length) (he : ∀ (j : Nat) u v, xs[j]? = some u → ys[j]? = some v → EqV K H n u v (e j)) : EqV K H (n + 1) (.ref a) (.ref c) ((List.range xs.length).all e)
  | lens {n a c xs ys} (h1 : SqL K H a xs) (h2 : SqL K H c ys) (hl : xs.length ≠ ys.length) : EqV K H n (.ref a) (.ref c) false
  | tups {n a c xs ys} {e : Nat → Bool} (h1 : SqT K H a xs) (h2 : SqT K H c ys) (he : ∀ (j : Nat) u v, xs[j]? = some u → ys[j]? = some v → EqV K H n u v (e j)) : EqV K H (n + 1) (.ref a) (.ref c) ((List.range (min xs.length ys.length)).all e && xs.length == ys.length)
  | list_flat {n a xs y} (h1 : SqL K H a xs) (fy : flatV y = true) : EqV K H n (.ref a) y false
  | flat_list {n a xs y} (h1 : SqL K H a xs) (fy : flatV y = true) : EqV K H n y (.ref a) false
  | tup_flat {n a xs y} (h1 : SqT K H a xs) (fy : flatV y = true) : EqV K H n (.ref a) y false
  | flat_tup {n a xs y} (h1 : SqT K H a xs) (fy : flatV y = true) : EqV K H n y (.ref a) false
  | list_tup {n a c xs ys} (h1 : SqL K H a xs) (h2 : SqT K H c ys) : EqV K H n (.ref a) (.ref c) false
  | tup_list {n a c xs ys} (h1 : SqT K H a xs) (h2 : SqL K H c ys) : EqV K H n (.ref a) (.ref c) false
theorem eqV_self : ∀ {x : V}, flatV x = true → eqV x x = true := by
  intro x h
  cases x <;> simp [flatV, eqV] at *
section
variable {X : Cx} {pins : List (Addr × Obj)} {σ : St} {H : Hp} {s : Shared}
theorem Inv.lt_ne {a c : Addr} {xs ys : List V} (I : Inv X pins σ H s) (h1 : SqL X.K H a xs) (h2 : SqT X.K H c ys) : a ≠ c := by
  obtain ⟨its, _, p, _⟩ := I.list h1
  obtain ⟨its2, _, p2, _⟩ := I.tuple h2
  exact SeqAt.ne_of_list_tuple p.isList (show s.heap.IsTuple c its2.toArray from p2)
theorem EqV.self {n : Nat} {x y : V} {b : Bool} (I : Inv X pins σ H s) (h : EqV X.K H n x y b) : x = y → b = true := by
  induction h with
  | flat fx fy => intro e; subst e; exact eqV_self fx
  | lists h1 h2 hl he ih =>
    intro e
    cases e
    have := I.list_inj h1 h2
    subst this
    refine List.all_eq_true.mpr fun j hj => ?_
    have hj := List.mem_range.mp hj
    exact ih j _ _ (List.getElem?_eq_getElem hj) (List.getElem?_eq_getElem hj) rfl
  | lens h1 h2 hl => intro e; cases e; exact absurd (congrArg List.length (I.list_inj h1 h2)) hl
  | tups h1 h2 he ih =>
    intro e
    cases e
    have := I.tuple_inj h1 h2
    subst this
    rw [Bool.and_eq_true]
    refine ⟨List.all_eq_true.mpr fun j hj => ?_, by simp⟩
    have hj := List.mem_range.mp hj
    rw [Nat.min_self] at hj
    exact ih j _ _ (List.getElem?_eq_getElem hj) (List.getElem?_eq_getElem hj) rfl
  | list_flat h1 fy => intro e; subst e; exact absurd (show false = true from fy) Bool.false_ne_true
  | flat_list h1 fy => intro e; subst e; exact absurd (show false = true from fy) Bool.false_ne_true
  | tup_flat h1 fy => intro e; subst e; exact absurd (show false = true from fy) Bool.false_ne_true
  | flat_tup h1 fy => intro e; subst e; exact absurd (show false = true from fy) Bool.false_ne_true
  | list_tup h1 h2 => intro e; cases e; exact absurd rfl (I.lt_ne h1 h2)
  | tup_list h1 h2 => intro e; cases e; exact absurd rfl (I.lt_ne h2 h1)
theorem flat_cases {y : V} {v : Value} (r : RelV y v) (f : flatV y = true) : v = .none ∨ (∃ b, v = .bool b) ∨ (∃ i t, v = .int i t) ∨ ∃ x t, v = .str x t := by
  cases y with
  | non => exact .inl r
  | bl b => exact .inr (.inl ⟨b, r⟩)
  | int i => obtain ⟨t, e⟩ := r; exact .inr (.inr (.inl ⟨i, t, e⟩))
  | str x => obtain ⟨t, e⟩ := r; exact .inr (.inr (.inr ⟨x, t, e⟩))
  | _ => exact absurd (show false = true from f) Bool.false_ne_true
theorem vals_at {xs : List V} {its : List Value} (rv : Vals xs its) {j : Nat} (h : j < its.toArray.size) : ∃ x, xs[j]? = some x ∧ RelV x its.toArray[j] := by
  have hl := rv.length
  have hj : j < its.length := by simpa using h
  have hx : j < xs.length := by omega
  obtain ⟨u, hu, ru⟩ := rv.get (List.getElem?_eq_getElem hx)
  refine ⟨xs[j], List.getElem?_eq_getElem hx, ?_⟩
  rw [List.getElem?_eq_getElem hj] at hu
  cases hu
  simpa using ru
theorem EqV.at {n : Nat} {x y : V} {b : Bool} (I : Inv X pins σ H s) (h : EqV X.K H n x y b) : ∀ (A : Around) (u v : Value), RelV x u → RelV y v → A.units + n < cLine → SeqAt.EqAt A s u v b := by
  induction h with
  | flat fx fy => intro A u v ru rv _; exact eqAt_V ru rv fx fy
  | @lists n a c xs ys e h1 h2 hl he ih =>
    intro A u v ru rv hu
    cases ru; cases rv
    by_cases hac : a = c
    · subst hac
      have hb := EqV.self I (EqV.lists h1 h2 hl he) rfl
      rw [hb]
      exact SeqAt.EqAt.same _
    · obtain ⟨its, r1, p1, _⟩ := I.list h1
      obtain ⟨its2, r2, p2, _⟩ := I.list h2
      have l1 := r1.length
      have l2 := r2.length
      refine SeqAt.EqAt.of_refs hac ?_
      have q := SeqAt.RcAt.lists (A := A) (e := e) p1.isList p2.isList (by simp; omega) (by omega) fun j g1 g2 => by
        obtain ⟨x, ex, rx⟩ := vals_at r1 g1
        obtain ⟨y, ey, ry⟩ := vals_at r2 g2
        exact ih j x y ex ey A.in1 _ _ rx ry (by show A.units + 1 + n < cLine; omega)
      rw [List.size_toArray, ← l1] at q
      exact q
  | @lens n a c xs ys h1 h2 hl =>
    intro A u v ru rv hu
    cases ru; cases rv
    obtain ⟨its, r1, p1, _⟩ := I.list h1
    obtain ⟨its2, r2, p2, _⟩ := I.list h2
    have l1 := r1.length
    have l2 := r2.length
    refine SeqAt.EqAt.of_refs (fun e => ?_) (SeqAt.RcAt.lists_lengths p1.isList p2.isList (by simp; omega) (by omega))
    subst e
    exact hl (congrArg List.length (I.list_inj h1 h2))
  | @tups n a c xs ys e h1 h2 he ih =>
    intro A u v ru rv hu
    cases ru; cases rv
    by_cases hac : a = c
    · subst hac
      have hb := EqV.self I (EqV.tups h1 h2 he) rfl
      rw [hb]
      exact SeqAt.EqAt.same _
    · obtain ⟨its, r1, p1, _⟩ := I.tuple h1
      obtain ⟨its2, r2, p2, _⟩ := I.tuple h2
      have l1 := r1.length
      have l2 := r2.length
      refine SeqAt.EqAt.of_refs hac ?_
      have q := SeqAt.RcAt.tuples (A := A) (e := e) (show s.heap.IsTuple a its.toArray from p1) (show s.heap.IsTuple c its2.toArray from p2) (by omega) fun j g1 g2 => by
        obtain ⟨x, ex, rx⟩ := vals_at r1 g1
        obtain ⟨y, ey, ry⟩ := vals_at r2 g2
        exact ih j x y ex ey A.in1 _ _ rx ry (by show A.units + 1 + n < cLine; omega)
      rw [List.size_toArray, List.size_toArray, ← l1, ← l2] at q
      exact q
  | @list_flat n a xs y h1 fy =>
    intro A u v ru rv hu
    cases ru
    obtain ⟨its, r1, p1, _⟩ := I.list h1
    rcases flat_cases rv fy with rfl | ⟨b, rfl⟩ | ⟨i, t, rfl⟩ | ⟨x, t, rfl⟩
    · exact .list_none p1.isList (by omega)
    · exact .list_bool b p1.isList (by omega)
    · exact .list_int i t p1.isList (by omega)
    · exact .list_str x t p1.isList (by omega)
  | @flat_list n a xs y h1 fy =>
    intro A u v ru rv hu
    cases rv
    obtain ⟨its, r1, p1, _⟩ := I.list h1
    rcases flat_cases ru fy with rfl | ⟨b, rfl⟩ | ⟨i, t, rfl⟩ | ⟨x, t, rfl⟩
    · exact .none_list p1.isList (by omega)
    · exact .bool_list b p1.isList (by omega)
    · exact .int_list i t p1.isList (by omega)
    · exact .str_list x t p1.isList (by omega)
  | @tup_flat n a xs y h1 fy =>
    intro A u v ru rv hu
    cases ru
    obtain ⟨its, r1, p1, _⟩ := I.tuple h1
    have p1 : s.heap.IsTuple a its.toArray := p1
    rcases flat_cases rv fy with rfl | ⟨b, rfl⟩ | ⟨i, t, rfl⟩ | ⟨x, t, rfl⟩
    · exact .tuple_none p1 (by omega)
    · exact .tuple_bool b p1 (by omega)
    · exact .tuple_int i t p1 (by omega)
    · exact .tuple_str x t p1 (by omega)
  | @flat_tup n a xs y h1 fy =>
    intro A u v ru rv hu
    cases rv
    obtain ⟨its, r1, p1, _⟩ := I.tuple h1
    have p1 : s.heap.IsTuple a its.toArray := p1
    rcases flat_cases ru fy with rfl | ⟨b, rfl⟩ | ⟨i, t, rfl⟩ | ⟨x, t, rfl⟩
    · exact .none_tuple p1 (by omega)
    · exact .bool_tuple b p1 (by omega)
    · exact .int_tuple i t p1 (by omega)
    · exact .str_tuple x t p1 (by omega)
  | @list_tup n a c xs ys h1 h2 =>
    intro A u v ru rv hu
    cases ru; cases rv
    obtain ⟨its, r1, p1, _⟩ := I.list h1
    obtain ⟨its2, r2, p2, _⟩ := I.tuple h2
    exact .list_tuple p1.isList (show s.heap.IsTuple c its2.toArray from p2) (by omega)
  | @tup_list n a c xs ys h1 h2 =>
    intro A u v ru rv hu
    cases ru; cases rv
    obtain ⟨its, r1, p1, _⟩ := I.tuple h1
    obtain ⟨its2, r2, p2, _⟩ := I.list h2
    exact .tuple_list (show s.heap.IsTuple a its.toArray from p1) p2.isList (by omega)
/-- the two sides of == : lists or tuples -/
def SeqV (x y : V) : Prop := ∃ a c, x = .ref a ∧ y = .ref c
theorem EqV.rc {n : Nat} {x y : V} {b : Bool} {A : Around} {u v : Value} (I : Inv X pins σ H s) (h : EqV X.K H n x y b) (sq : SeqV x y) (ru : RelV x u) (rv : RelV y v) (hu : A.units + n + 1 < cLine) : SeqAt.RcAt A s u v b ∧ SeqAt.RcNeAt A s u v (!b) := by
  obtain ⟨a0, c0, rfl, rfl⟩ := sq
  cases ru; cases rv
  cases h with
  | flat fx fy => exact absurd (show false = true from fx) Bool.false_ne_true
  | @lists n a c xs ys e h1 h2 hl he =>
    obtain ⟨its, r1, p1, _⟩ := I.list h1
    obtain ⟨its2, r2, p2, _⟩ := I.list h2
    have l1 := r1.length
    have l2 := r2.length
    have el : ∀ j (g1 : j < its.toArray.size) (g2 : j < its2.toArray.size), SeqAt.EqAt A.in1 s its.toArray[j] its2.toArray[j] (e j) := fun j g1 g2 => by
      obtain ⟨x, ex, rx⟩ := vals_at r1 g1
      obtain ⟨y, ey, ry⟩ := vals_at r2 g2
      exact (he j x y ex ey).at I A.in1 _ _ rx ry (by show A.units + 1 + n < cLine; omega)
    have q := SeqAt.RcAt.lists (A := A) (e := e) p1.isList p2.isList (by simp; omega) (by omega) el
    have q' := SeqAt.RcNeAt.lists (A := A) (e := e) p1.isList p2.isList (by simp; omega) (by omega) el
    rw [List.size_toArray, ← l1] at q q'
    exact ⟨q, q'⟩
  | @lens n a c xs ys h1 h2 hl =>
    obtain ⟨its, r1, p1, _⟩ := I.list h1
    obtain ⟨its2, r2, p2, _⟩ := I.list h2
    have l1 := r1.length
    have l2 := r2.length
    exact ⟨SeqAt.RcAt.lists_lengths p1.isList p2.isList (by simp; omega) (by omega), SeqAt.RcNeAt.lists_lengths p1.isList p2.isList (by simp; omega) (by omega)⟩
  | @tups n a c xs ys e h1 h2 he =>
    obtain ⟨its, r1, p1, _⟩ := I.tuple h1
    obtain ⟨its2, r2, p2, _⟩ := I.tuple h2
    have l1 := r1.length
    have l2 := r2.length
    have el : ∀ j (g1 : j < its.toArray.size) (g2 : j < its2.toArray.size), SeqAt.EqAt A.in1 s its.toArray[j] its2.toArray[j] (e j) := fun j g1 g2 => by
      obtain ⟨x, ex, rx⟩ := vals_at r1 g1
      obtain ⟨y, ey, ry⟩ := vals_at r2 g2
      exact (he j x y ex ey).at I A.in1 _ _ rx ry (by show A.units + 1 + n < cLine; omega)
    have q := SeqAt.RcAt.tuples (A := A) (e := e) (show s.heap.IsTuple a0 its.toArray from p1) (show s.heap.IsTuple c0 its2.toArray from p2) (by omega) el
    have q' := SeqAt.RcNeAt.tuples (A := A) (e := e) (show s.heap.IsTuple a0 its.toArray from p1) (show s.heap.IsTuple c0 its2.toArray from p2) (by omega) el
    rw [List.size_toArray, List.size_toArray, ← l1, ← l2] at q q'
    exact ⟨q, q'⟩
  | list_flat h1 fy => exact absurd (show false = true from fy) Bool.false_ne_true
  | flat_list h1 fy => exact absurd (show false = true from fy) Bool.false_ne_true
  | tup_flat h1 fy => exact absurd (show false = true from fy) Bool.false_ne_true
  | flat_tup h1 fy => exact absurd (show false = true from fy) Bool.false_ne_true
  | @list_tup n a c xs ys h1 h2 =>
    obtain ⟨its, r1, p1, _⟩ := I.list h1
    obtain ⟨its2, r2, p2, _⟩ := I.tuple h2
    exact ⟨.list_tuple p1.isList (show s.heap.IsTuple c0 its2.toArray from p2) (by omega), .list_tuple p1.isList (show s.heap.IsTuple c0 its2.toArray from p2) (by omega)⟩
  | @tup_list n a c xs ys h1 h2 =>
    obtain ⟨its, r1, p1, _⟩ := I.tuple h1
    obtain ⟨its2, r2, p2, _⟩ := I.list h2
    exact ⟨.tuple_list (show s.heap.IsTuple a0 its.toArray from p1) p2.isList (by omega), .tuple_list (show s.heap.IsTuple a0 its.toArray from p1) p2.isList (by omega)⟩
end
section
variable {X : Cx}
def rEqD (K : PySem.W.Frag) (n : Nat) : R2 := fun x y H Q => ∃ b, SeqV x y ∧ EqV K H n x y b ∧ Q (.bl b) H
def rNeD (K : PySem.W.Frag) (n : Nat) : R2 := fun x y H Q => ∃ b, SeqV x y ∧ EqV K H n x y b ∧ Q (.bl (!b)) H
theorem op_eqD (n : Nat) (hu : X.A.units + n + 1 < cLine) : OpR X (compareOp .Eq) (rEqD X.K n) := by
  intro pins s σ H x y u v Q I rx ry h
  obtain ⟨b, sq, e, q⟩ := h
  exact (e.rc I sq rx ry hu).1 X.prog X.w X.xe _ ⟨.bl b, H, I, rfl, q⟩
theorem op_neD (n : Nat) (hu : X.A.units + n + 1 < cLine) : OpR X (compareOp .NotEq) (rNeD X.K n) := by
  intro pins s σ H x y u v Q I rx ry h
  obtain ⟨b, sq, e, q⟩ := h
  exact (e.rc I sq rx ry hu).2 X.prog X.w X.xe _ ⟨.bl (!b), H, I, rfl, q⟩
end
/-- lists of things that are told apart by decide -/
theorem EqV.list_of {K : PySem.W.Frag} {H : Hp} {n : Nat} {β : Type} [DecidableEq β] {F : β → V → Prop} (hF : ∀ p q u v, F p u → F q v → EqV K H n u v (decide (p = q))) {a c : Addr} {xs ys : List V} {ps qs : List β}
    (h1 : SqL K H a xs) (h2 : SqL K H c ys) (r1 : Paired F ps xs) (r2 : Paired F qs ys) : EqV K H (n + 1) (.ref a) (.ref c) (decide (ps = qs)) := by
  have l1 := r1.length
  have l2 := r2.length
  have getP : ∀ {ps : List β} {xs : List V}, Paired F ps xs → ∀ (j : Nat) u, xs[j]? = some u → ∃ p, ps[j]? = some p ∧ F p u := by
    intro ps xs r
    induction r with
    | nil => intro j u h; simp at h
    | cons f t ih =>
      intro j u h
      cases j with
      | zero => simp at h; subst h; exact ⟨_, rfl, f⟩
      | succ j => simpa using ih j u (by simpa using h)
  by_cases hl : xs.length = ys.length
  · have e : EqV K H (n + 1) (.ref a) (.ref c) ((List.range xs.length).all fun j => decide (ps[j]? = qs[j]?)) := .lists h1 h2 hl fun j u v hu hv => by
      obtain ⟨p, ep, fp⟩ := getP r1 j u hu
      obtain ⟨q, eq, fq⟩ := getP r2 j v hv
      have := hF p q u v fp fq
      rw [ep, eq]
      have e : decide (some p = some q) = decide (p = q) := by simp
      rw [e]
      exact this
    have e2 : ((List.range xs.length).all fun j => decide (ps[j]? = qs[j]?)) = decide (ps = qs) := by
      by_cases h : ps = qs
      · subst h; simp
      · rw [decide_eq_false h, Bool.eq_false_iff]
        intro z
        refine h (List.ext_getElem? fun j => ?_)
        by_cases hj : j < xs.length
        · simpa using List.all_eq_true.mp z j (List.mem_range.mpr hj)
        · rw [List.getElem?_eq_none_iff.mpr (by omega), List.getElem?_eq_none_iff.mpr (by omega)]
    rw [← e2]
    exact e
  · rw [decide_eq_false fun z => hl (by rw [← l1, ← l2, z])]
    exact .lens h1 h2 hl
theorem EqV.str_of {K : PySem.W.Frag} {H : Hp} {n : Nat} (p q : Str) : EqV K H n (.str p) (.str q) (decide (p = q)) := by
  have : eqV (.str p) (.str q) = decide (p = q) := (Bool.beq_eq_decide_eq p q)
  rw [← this]
  exact .flat rfl rfl
end L2


set_option Elab.async false
set_option linter.all false
set_option maxRecDepth 100000
/-! Exceptions of the text's own classes: raise, a call that hands one on, texts made by f-strings. -/
namespace L2
open PySem PySem.Spec PyProof.Rows

/-- an exception (at e, of the class at C) flies: from the state s (abstract heap H) it has come to s' (H') -/
structure Fly (P : Program) (w : World) (outer : List Env) (H H' : Hp) (s s' : Shared) (e C : Addr) : Prop where
  os : s'.os = s.os
  bare : AllBare s'.gens
  un : Un (frs outer) [] H H' s.heap s'.heap
  hok : HOk P w H' s'.heap
  fl : ∃ B t, Heap.FlyingW B outer e (.ref C) (.ref t) s'.heap ∧ ∀ b o, s'.heap.get? b = some o → b ∉ frs outer → ((∃ u, H' b = some u) ∨ ∃ o', s.heap.get? b = some o') → B.get? b = some o
  new : s.heap.get? e = none
  free : H' e = none
def CX1 (P : Program) (w : World) : CXT := fun outer H s E ev s' => ∃ e C H', ev = .ref e ∧ Fly P w outer H H' s s' e C ∧ E (.ref C) none H'
theorem ObjOk.ex {P : Program} {w : World} {H : Hp} {h : Heap} {a : Addr} {o : HO} (x : ObjOk P w H h a o) : ∃ ob, h.get? a = some ob := by
  cases o with
  | lst xs => obtain ⟨_, _, _, _, e⟩ := x; exact ⟨_, e⟩
  | tup xs => obtain ⟨_, _, _, o, e, _⟩ := x; exact ⟨_, e⟩
  | dK kvs => obtain ⟨_, _, _, _, o, _, _, e, _⟩ := x; exact ⟨_, e⟩
  | dT kvs => obtain ⟨_, _, _, _, o, _, _, e, _⟩ := x; exact ⟨_, e⟩
  | set S n => obtain ⟨o, _, _, _, e, _⟩ := x; exact ⟨_, e⟩
  | ins C dx fs => obtain ⟨_, _, _, e, _⟩ := x; exact ⟨_, e⟩
  | own y => obtain ⟨_, e⟩ := x; exact ⟨_, e⟩
  | xd fs => obtain ⟨_, ⟨_, _, _, e, _⟩, _⟩ := x; exact ⟨_, e⟩
  | rng lo hi => obtain ⟨_, _, _, e⟩ := x; exact ⟨_, e⟩
  | frz ob u => obtain ⟨e, _⟩ := x; exact ⟨_, e⟩
  | tbl ps => exact ⟨_, (show h.get? a = some _ from x)⟩
  | met f y => exact ⟨_, (show h.get? a = some _ from x)⟩
  | ext φ => obtain ⟨_, ⟨_, e⟩, _⟩ := x; exact ⟨_, e⟩
section
variable {X : Cx} {pins : List (Addr × Obj)} {σ : St} {H H' : Hp} {s s' : Shared} {e C : Addr} {M : Model} {E : Value → Shared → Prop}

/-- what a def's body knows of its frame -/
structure Bd (X : Cx) : Prop where
  stack : X.stack = X.env :: X.outer
  frame : X.env.frame = some X.env.locals
  ex : X.ex = []
theorem Inv.nofr (I : Inv X pins σ H s) {b : Addr} {o : Obj} (h : X.s₀.heap.get? b = some o) (nf : b ∉ X.fs) : b ∉ frs X.stack := fun hb => by
  rcases List.mem_cons.mp (I.stkSub b hb) with z | z
  · rw [z] at h
    exact absurd (Nat.lt_of_lt_of_le (Heap.lt_size h) I.ok.above) (Nat.lt_irrefl _)
  · exact nf z
/-- from a heap s' (H') reached from the body's s (H) with the callers' frames up to slots, over a base B that has all but the frames and the exception: the frame is left -/
theorem fly_of (I : Inv X pins σ H s) (bd : Bd X) (un : Un (frs X.stack) [] H H' s.heap s'.heap) (hos : s'.os = s.os) (hbare : AllBare s'.gens) (hok : HOk X.prog X.w H' s'.heap) {B h'' : Heap} {t : Addr}
    (hB : ∀ b o, s'.heap.get? b = some o → b ∉ frs X.stack → ((∃ u, H' b = some u) ∨ ∃ o', s.heap.get? b = some o') → B.get? b = some o)
    (hF : s'.heap.FunFrames B X.stack) (fl2 : Heap.FlyingW B X.outer e (.ref C) (.ref t) h'') (up : s'.heap.UpToSlots h'') (new : s.heap.get? e = none) (fre : H' e = none) :
    Fly X.prog X.w X.outer X.H₀ H' X.s₀ { s' with heap := h'' } e C := by
  have hex := bd.ex
  have ffree : ∀ b ∈ frs X.stack, H' b = none := fun b hb => by
    obtain ⟨_, o, ho, _⟩ := I.stack.mem hb
    exact un.free b o ho (I.stkFree b hb) (by simp)
  have nofrT : ∀ b u, H' b = some u → b ∉ frs X.stack := fun b u hu hb => by rw [ffree b hb] at hu; cases hu
  have keepT : ∀ b o u, s'.heap.get? b = some o → H' b = some u → h''.get? b = some o := fun b o u ho hu =>
    fl2.1 b o (hB b o ho (nofrT b u hu) (.inl ⟨u, hu⟩))
  have noex : ∀ b, b ∉ X.ex := fun b z => by rw [hex] at z; cases z
  have outS : ∀ b, b ∈ frs X.outer → b ∈ frs X.stack := fun b hb => by
    rw [bd.stack]; unfold frs; rw [List.filterMap_cons, bd.frame]; exact List.mem_cons_of_mem _ hb
  refine ⟨hos.trans I.os, hbare, ⟨fun b o q n hb hx => ?_, fun b o q n hb hx => ?_, fun b o q n hx => ?_, fun b o q hx => ?_, fun b xs q => un.tups b xs (I.base.tups b xs q), fun b o u q => un.frzs b o u (I.base.frzs b o u q), fun b ps q => ?_⟩, fun a u ha => ?_, ⟨B, t, fl2, fun b o hb nb hc => ?_⟩, ?_, fre⟩
  · have q1 := I.base.keep b o q n hb (noex b)
    have nf := I.nofr q hb
    exact fl2.1 b o (hB b o (un.keep b o q1 (I.base.free b o q n (noex b)) nf (by simp)) nf (.inr ⟨o, q1⟩))
  · obtain ⟨sl, q1⟩ := I.base.slot b o q n hb (noex b)
    obtain ⟨sl2, q2⟩ := un.any q1 (I.base.free b o q n (noex b)) (by simp)
    obtain ⟨_, o', ho', hd⟩ := I.ok.funs.mem hb
    rw [q] at ho'; cases ho'
    obtain ⟨sl3, q3⟩ := up b _ q2 hd
    exact ⟨sl3, q3⟩
  · obtain ⟨o', q1⟩ := I.base.there b o q (noex b)
    exact un.free b o' q1 (I.base.free b o q n (noex b)) (by simp)
  · obtain ⟨o1, q1⟩ := I.base.there b o q (noex b)
    obtain ⟨o2, q2⟩ := un.there b o1 q1 (by simp)
    by_cases hb : b ∈ frs X.stack
    · obtain ⟨_, o', ho', hd⟩ := hF.mem hb
      rw [q2] at ho'; cases ho'
      obtain ⟨sl3, q3⟩ := up b _ q2 hd
      exact ⟨_, q3⟩
    · exact ⟨o2, fl2.1 b o2 (hB b o2 q2 hb (.inr ⟨o1, q1⟩))⟩
  · obtain ⟨m1, e1⟩ := I.base.tbls b ps q
    obtain ⟨m2, e2⟩ := un.tbls b _ e1
    exact ⟨m1 ++ m2, by rw [e2, Array.append_assoc]⟩
  · refine (hok a u ha).stay (fun b v hb q => ?_) (fun _ z => z) fun _ _ z => z
    rcases hb with z | z
    · rw [z] at q ⊢; exact keepT a v u q ha
    · exact keepT b v _ q z
  · have all : ∀ o1, s'.heap.get? b = some o1 → b ∉ frs X.stack → ((∃ u, H' b = some u) ∨ ∃ o', s.heap.get? b = some o') → B.get? b = some o := fun o1 q1 nf c => by
      have z := hB b o1 q1 nf c
      have z2 := fl2.1 b o1 z
      have hb : h''.get? b = some o := hb
      rw [hb] at z2; cases z2
      exact z
    rcases hc with ⟨u, hu⟩ | ⟨o', ho'⟩
    · obtain ⟨o1, q1⟩ := (hok b u hu).ex
      exact all o1 q1 (nofrT b u hu) (.inl ⟨u, hu⟩)
    · obtain ⟨o1, q1⟩ := I.base.there b o' ho' (noex b)
      obtain ⟨o2, q2⟩ := un.there b o1 q1 (by simp)
      exact all o2 q2 (I.nofr ho' nb) (.inr ⟨o1, q1⟩)
  · cases q : X.s₀.heap.get? e with
    | none => rfl
    | some o =>
      obtain ⟨o1, q1⟩ := I.base.there e o q (noex e)
      rw [new] at q1; cases q1
/-- a callee's exception leaves this def -/
theorem leave_on (I : Inv X pins σ H s) (bd : Bd X) (F : Fly X.prog X.w X.stack H H' s s' e C) :
    wpAny M X.A (leaving X.env (.ref e)) (fun _ s'' => Fly X.prog X.w X.outer X.H₀ H' X.s₀ s'' e C) E s' := by
  obtain ⟨B, t, fl, hB⟩ := F.fl
  have fl' := fl
  rw [bd.stack] at fl'
  refine wpAny_leaves_onW (by rw [I.ok.frames, bd.stack]) bd.frame fl' fun h'' fl2 up => ?_
  exact fly_of I bd F.un F.os F.bare F.hok hB fl.2.2.1 fl2 up F.new F.free
/-- an exception just made leaves this def -/
theorem leave_made {vs : List Value} {h' : Heap} (I : Inv X pins σ H s) (bd : Bd X) (hx : Heap.MadeExcOf s.heap h' e (.ref C) vs) :
    wpAny M X.A (leaving X.env (.ref e)) (fun _ s'' => Fly X.prog X.w X.outer X.H₀ H X.s₀ s'' e C) E { s with heap := h' } := by
  have hin : ∀ env ∈ X.stack, ∀ b, env.frame = some b → b ∈ frs X.stack := fun env he b hb => List.mem_filterMap.mpr ⟨env, he, hb⟩
  have hF := PySem.W.funFrames_hide I.stack hin
  have fre : H e = none := by
    cases q : H e with
    | none => rfl
    | some u =>
      obtain ⟨o, ho⟩ := (I.hok e u q).ex
      rw [hx.new] at ho; cases ho
  have un : Un (frs X.stack) [] H H s.heap h' := Un.kept hx.keeps
  have hB : ∀ b o, h'.get? b = some o → b ∉ frs X.stack → ((∃ u, H b = some u) ∨ ∃ o', s.heap.get? b = some o') → (PySem.W.hideAll s.heap (frs X.stack)).get? b = some o := fun b o hb nf c => by
    have : ∃ o', s.heap.get? b = some o' := by
      rcases c with ⟨u, hu⟩ | c
      · exact (I.hok b u hu).ex
      · exact c
    obtain ⟨o', ho'⟩ := this
    have z := hx.keeps b o' ho'
    rw [hb] at z; cases z
    exact PySem.W.hideAll_get _ ho' nf
  have hF2 : h'.FunFrames (PySem.W.hideAll s.heap (frs X.stack)) X.stack := hF.of_keeps fun b o ho _ => ⟨o, hx.keeps b o ho, rfl⟩
  refine wpAny_leaves_madeW (base := PySem.W.hideAll s.heap (frs X.stack)) (h := s.heap) (by rw [I.ok.frames, bd.stack]) bd.frame (fun b o q => PySem.W.of_hideAll _ q) (by rw [← bd.stack]; exact hF) hx fun h'' t fl2 tup nt up => ?_
  exact fly_of (s' := { s with heap := h' }) I bd un rfl I.bare (I.hok.kept hx.keeps) hB hF2 fl2 up hx.new fre
/-- a def's body that may let an exception go: E is wanted of it -/
structure Bx (X : Cx) (E : XK) : Prop where
  bd : Bd X
  calm : X.calm = true
  xe : ∀ ev s', wpAny (model X.prog X.w) X.A (leaving X.env ev) (fun _ s'' => CX1 X.prog X.w X.outer X.H₀ X.s₀ E ev s'') (fun e' s'' => CX1 X.prog X.w X.outer X.H₀ X.s₀ E e' s'') s' → X.xe ev s'
theorem bx {P : Program} {w : World} {K : PySem.W.Frag} {mg : Str → Option Value} {base : Heap} {N : List Str} {qual : Str} {scope : Scope} {f : Addr} {cd : Value} {A : Around} {outer : List Env} {s : Shared} {H : Hp} {E : XK} :
    Bx (cxOf (CX1 P w) P w K mg base N qual scope f cd A outer s H E) E := ⟨⟨rfl, rfl, rfl⟩, rfl, fun _ _ h => h⟩
theorem pass1 {EX : XK} (b : Bx X EX) : Passes (CX1 X.prog X.w) X EX := fun pins σ H s ev s' I ⟨e, C, H', he, F, q⟩ => by
  subst he
  exact b.xe _ _ (thn (leave_on I b.bd F) fun _ s'' F' => ⟨e, C, H', rfl, F', q⟩)
theorem own1 {P : Program} {w : World} {K : PySem.W.Frag} {mg : Str → Option Value} {base : Heap} {N : List Str} {qual : Str} {scope : Scope} {f : Addr} {cd : Value} {A : Around} {outer : List Env} {s : Shared} {H : Hp} {E : XK} :
    PassesOwn (model P w) (cxOf (CX1 P w) P w K mg base N qual scope f cd A outer s H E).A (cxOf (CX1 P w) P w K mg base N qual scope f cd A outer s H E).env (cxOf (CX1 P w) P w K mg base N qual scope f cd A outer s H E).xe := PassesOwn.leaving
/-- an own class of exceptions, beneath ValueError -/
structure Exc (K : PySem.W.Frag) (mg : Str → Option Value) (x : Str) (C : Addr) : Prop where
  m : mg x = some (.ref C)
  q : PySem.W.excIn K C [.type "ValueError", .type "Exception", .type "BaseException", .type "object"] "ValueError.__new__" = true
/-- raise X(a) -/
def tRaise (C : Addr) (EX : XK) (ta : TE) : TS := fun _ σ H => ta σ H fun _ H1 => EX (.ref C) none H1
theorem exc_obj {K : PySem.W.Frag} {h : Heap} {C : Addr} {bmB : List Value} {newId : String} (X : K.In h) (q : PySem.W.excIn K C bmB newId = true) : ∃ bm N nm q bs hdct sn sub ab col dd k0 k1 k2 k3 k5 mN, h.get? C = some (excClassObj nm q C N bs bm hdct sn sub ab col dd k0 k1 k2 k3 k5 newId) ∧ h.Ns N mN ∧ mN "__init__" = none ∧ OwnTail h bmB bm := by
  unfold PySem.W.excIn at q
  split at q
  · rename_i dd cd sl ho
    split at q
    · rename_i C' bm k0 k1 k2 k3 n k5 hm hs
      simp only [Bool.and_eq_true, beq_iff_eq, Bool.not_eq_true'] at q
      obtain ⟨⟨⟨⟨⟨rfl, rfl⟩, hdel⟩, ht⟩, hok⟩, hni⟩ := q
      obtain ⟨nm, bs, mro, ns, qn, hd, sn, sub, ab, col, del⟩ := cd
      dsimp only at hm hdel hok hni
      subst hm hdel
      have hsl : sl = #[k0, k1, k2, k3, some (.builtin n), k5] := by
        obtain ⟨l⟩ := sl
        simp only at hs
        rw [hs]
      subst hsl
      exact ⟨bm, ns, nm, qn, bs, hd, sn, sub, ab, col, dd, k0, k1, k2, k3, k5, _, X _ _ ho, .of_isNs (PySem.W.isNs_of_in X hok), PySem.W.nsMap_none_of_in X hok hni, PySem.W.tail_of_in X ht⟩
    · cases q
  · cases q
theorem ps_raise {EX : XK} {x : Str} {a : Expr} {ta : TE} {np cpos pos : Pos} (b : Bx X EX) (O : Exc X.K X.mg x C) (hg : Gl X x) (ha : PE X a ta)
    (hdb : (x == ("__debug__" : Str)) = false := by decide) (hs : starEach [a] X.env = [(false, eval a X.env)] := by rfl) : PS X (.Raise (some (.Call (.Name x np) [a] [] cpos)) none pos) (tRaise C EX ta) := by
  intro pins s σ H D I h
  obtain ⟨bm, N, nm, q, bs, hdct, sn, sub, ab, col, dd, k0, k1, k2, k3, k5, mN, hC, hN, hni, T⟩ := exc_obj I.ok.mod.kin O.q
  refine wpAny_Raise_call_subT (C := C) (nm := nm) (q := q) (N := N) (bs := bs) (bm := bm) (hdct := hdct) (sn := sn) (sub := sub) (ab := ab) (col := col) (dd := dd) (k0 := k0) (k1 := k1) (k2 := k2) (k3 := k3) (k5 := k5)
    PySem.F.excBase_ValueError (mN := mN) (T.hasType (by decide)) (I.ok.hd b.calm) (by rw [hs]; rfl) hni (ld_glob I hg O.m ⟨rfl, ?_⟩ hdb)
  rw [hs]
  refine Calls.evalArgs_plain ?_
  refine Calls.spliced_cons (thn (ha pins s σ H _ I h) fun u s1 ⟨y, H1, I1, r1, q1⟩ => Calls.spliced_nil ?_)
  have hk := I1.bk
  refine ⟨rfl, by show 1 ≤ sizeLine; decide, hk _ _ hC, hN.keeps hk, T.keeps hk, fun h' e hm => ?_⟩
  exact b.xe _ _ (thn (leave_made I1 b.bd hm) fun _ s'' F => ⟨e, C, H1, rfl, F, q1⟩)
end

section
variable {P : Program} {w : World} {K : PySem.W.Frag} {mg : Str → Option Value} {base : Heap}
/-- a def that may let an exception go -/
theorem Fun.ok1 {x qual : Str} {st : Stmt} {f : Addr} {fd : FuncData} {N ps : List Str} {k : Nat} {sp : Sp} (F : Fun K x qual st f fd) (S : FnScope N ps (defScope st)) (len : ∀ vs H Q E, sp vs H Q E → vs.length = ps.length)
    (hbody : ∀ (cdv : Value) (A : Around) (outer : List Env) (s : Shared) (H : Hp) (vs : List V) (Q : VK) (E : XK), Room k (A.deeper (envOfC qual (defScope st) s.heap.objs.size f cdv)) → sp vs H Q E →
      ∃ t, PSs (cxOf (CX1 P w) P w K mg base N qual (defScope st) f cdv A outer s H E) (defBody st) t ∧ t { nx := fun _ H' => Q .non H', rt := Q } (start N vs) H) : FnOk P w K mg base (CX1 P w) (k + 1) f fd ps sp := by
  obtain ⟨oc, od, kV, doc, pm, an, cdv, ct, osl, rfl, lk, hcd⟩ := F.ex
  exact fn_of lk hcd S len fun A outer s H vs Q E hr hsp => hbody cdv A outer s H vs Q E hr hsp
end

/-! ### texts made by f-strings: their signs are not asked -/
section
variable {X : Cx}
/-- the parts behind the k-th; each has at most 2 ^ 20 signs -/
def PF (X : Cx) (k : Nat) (es : List Expr) (t : TE) : Prop :=
  ∀ (acc : Str) (pins : List (Addr × Obj)) (s : Shared) (σ : St) (H : Hp) (Q : VK), acc.length ≤ k * 1048576 → Inv X pins σ H s → t σ H Q → wpAny (model X.prog X.w) X.A (joinParts acc (evalEach es X.env)) (EP X pins σ Q) X.xe s
def tFn : TE := fun _ H Q => ∀ x, Q (.str x) H
def tFc (te t : TE) : TE := fun σ H Q => te σ H fun v H1 => ∃ y, v = .str y ∧ y.length ≤ 1048576 ∧ t σ H1 Q
theorem pf_nil {k : Nat} (hk : k ≤ 8 := by decide) : PF X k [] tFn := fun acc pins s σ H Q hl I h =>
  joinParts_nil (hsz := by have : sizeLine = 16777216 := rfl; omega) ⟨.str acc, H, I.tok _, ⟨_, rfl⟩, h acc⟩
theorem pf_cons {k : Nat} {e : Expr} {es : List Expr} {te t : TE} (he : PE X e te) (hr : PF X (k + 1) es t) (hk : k ≤ 7 := by decide) (hs : evalEach (e :: es) X.env = eval e X.env :: evalEach es X.env := by rfl) : PF X k (e :: es) (tFc te t) := by
  intro acc pins s σ H Q hl I h
  rw [hs]
  refine joinParts_cons (thn (he pins s σ H _ I h) fun u s1 ⟨v, H1, I1, r1, y, ev, hy, q⟩ => ?_)
  subst ev
  obtain ⟨t', rfl⟩ := r1
  have e1 : (acc ++ y).length = acc.length + y.length := strLen_append ..
  exact ⟨by rw [e1]; have : sizeLine = 16777216 := rfl; omega, hr (acc ++ y) pins s1 σ H1 Q (by rw [e1]; omega) I1 q⟩
theorem pe_fstr {e1 e2 : Expr} {es : List Expr} {t : TE} {pos : Pos} (h : PF X 0 (e1 :: e2 :: es) t) : PE X (.JoinedStr (e1 :: e2 :: es) pos) t := fun pins s σ H Q I hq => by
  rw [arm_eval_JoinedStr]
  exact h Str.empty pins s σ H Q (by decide) I hq
/-- {e!r} of a text -/
def tFr (te : TE) : TE := fun σ H Q => te σ H fun v H1 => ∃ x, v = .str x ∧ (reprText x).length ≤ 1048576 ∧ Q (.str (reprText x)) H1
theorem pe_fvr {e : Expr} {te : TE} {pos : Pos} (he : PE X e te) : PE X (.FormattedValue e 114 none pos) (tFr te) := by
  intro pins s σ H Q I h
  refine wpAny_FormattedValue_repr (thn (he pins s σ H _ I h) fun u s1 ⟨v, H1, I1, r1, x, ev, hy, q⟩ => ?_)
  subst ev
  obtain ⟨t', rfl⟩ := r1
  have hz : (reprText x).length ≤ sizeLine := Nat.le_trans hy (by decide)
  refine wpAny_pyReprObj_str (hsz := hz) ?_
  exact formatField_str (fun t'' tk => ⟨.str (reprText x), H1, I1.tok _, ⟨_, rfl⟩, q⟩) hz
end
end L2


set_option Elab.async false
set_option linter.all false
set_option maxRecDepth 100000
/-! A dict is walked: it is frozen while the loop runs, and thawed behind it. list(d), a text's signs, a list from behind. -/
namespace L2
open PySem PySem.Spec PyProof.Rows
section
variable {X : Cx} {pins : List (Addr × Obj)} {σ : St} {H : Hp} {s : Shared} {tg : Expr}
def Unfz (X : Cx) (d : Addr) : Prop := ∀ o u, X.H₀ d ≠ some (.frz o u)
theorem mut_ne {u : HO} (mu : Mut (some u)) : (∀ xs, u ≠ .tup xs) ∧ (∀ o v, u ≠ .frz o v) ∧ (∀ ps, u ≠ .tbl ps) ∧ ∀ x, u ≠ .own x := by
  cases u <;> first | exact False.elim mu | exact ⟨(fun _ z => nomatch z), (fun _ _ z => nomatch z), (fun _ z => nomatch z), (fun _ z => nomatch z)⟩
theorem Inv.unfz {d : Addr} {u : HO} (I : Inv X pins σ H s) (hd : H d = some u) (mu : Mut (some u)) : Unfz X d := fun o v z => by
  have := I.base.frzs d o v z
  rw [hd] at this
  exact (mut_ne mu).2.1 o v (Option.some.inj this)
/-- what is tracked at d is told otherwise -/
theorem Inv.retold {d : Addr} {u v : HO} (I : Inv X pins σ H s) (hd : H d = some u) (nt : ∀ xs, u ≠ .tup xs) (nb : ∀ ps, u ≠ .tbl ps) (no : ∀ x, u ≠ .own x) (nf : Unfz X d) (new : ObjOk X.prog X.w (upd H d v) s.heap d v) : Inv X pins σ (upd H d v) s := by
  have ne : ∀ b, H b = none → b ≠ d := fun b e z => by rw [z, hd] at e; cases e
  refine ⟨I.ok, I.os, I.bare, ⟨I.base.keep, I.base.slot, fun b o q n hx => by rw [upd_ne (ne b (I.base.free b o q n hx))]; exact I.base.free b o q n hx, I.base.there, fun b xs q => ?_, fun b o w q => ?_, fun b ps q => ?_⟩, I.loc, I.cell, by rw [upd_ne (ne _ I.free)]; exact I.free, fun x c e => by rw [upd_ne (ne _ (I.freeC x c e))]; exact I.freeC x c e, fun p hp => ?_, fun b o e => ?_, I.len⟩
  · have z := I.base.tups b xs q
    have : b ≠ d := fun y => by rw [y, hd] at z; exact nt xs (Option.some.inj z)
    rw [upd_ne this]; exact z
  · have z := I.base.frzs b o w q
    have : b ≠ d := fun y => by rw [y] at q; exact nf o w q
    rw [upd_ne this]; exact z
  · obtain ⟨m, z⟩ := I.base.tbls b ps q
    have : b ≠ d := fun y => by rw [y, hd] at z; exact nb _ (Option.some.inj z)
    exact ⟨m, by rw [upd_ne this]; exact z⟩
  · obtain ⟨e1, e2, e3⟩ := I.pin p hp
    exact ⟨e1, by rw [upd_ne (ne _ e2)]; exact e2, e3⟩
  · by_cases hb : b = d
    · subst hb; rw [upd_same] at e; cases e; exact new
    · rw [upd_ne hb] at e
      refine (I.hok b o e).stay (fun _ _ _ q => q) (fun c q => ?_) fun c xs q => ?_
      · have : c ≠ d := fun y => by rw [y, hd] at q; exact no _ (Option.some.inj q)
        rw [upd_ne this]; exact q
      · have : c ≠ d := fun y => by rw [y, hd] at q; exact nt _ (Option.some.inj q)
        rw [upd_ne this]; exact q
theorem Inv.frozen {d : Addr} {u : HO} (I : Inv X pins σ H s) (hd : H d = some u) (mu : Mut (some u)) : ∃ o, s.heap.get? d = some o ∧ Inv X pins σ (upd H d (.frz o u)) s := by
  obtain ⟨o, ho⟩ := (I.hok d u hd).ex
  obtain ⟨m1, m2, m3, m4⟩ := mut_ne mu
  refine ⟨o, ho, I.retold hd m1 m3 m4 (I.unfz hd mu) ⟨ho, ?_⟩⟩
  refine (I.hok d u hd).stay (fun _ _ _ q => q) (fun c q => ?_) fun c xs q => ?_
  · have : c ≠ d := fun y => by rw [y, hd] at q; exact m4 _ (Option.some.inj q)
    rw [upd_ne this]; exact q
  · have : c ≠ d := fun y => by rw [y, hd] at q; exact m1 _ (Option.some.inj q)
    rw [upd_ne this]; exact q
theorem Inv.thawed {d : Addr} {o : Obj} {u : HO} (I : Inv X pins σ H s) (hd : H d = some (.frz o u)) (nf : Unfz X d) : Inv X pins σ (upd H d u) s := by
  refine I.retold hd (fun _ z => by cases z) (fun _ z => by cases z) (fun _ z => by cases z) nf ?_
  obtain ⟨_, q⟩ := (show ObjOk X.prog X.w H s.heap d (.frz o u) from I.hok d _ hd)
  refine q.stay (fun _ _ _ q => q) (fun c q => ?_) fun c xs q => ?_
  · have : c ≠ d := fun y => by rw [y, hd] at q; cases q
    rw [upd_ne this]; exact q
  · have : c ≠ d := fun y => by rw [y, hd] at q; cases q
    rw [upd_ne this]; exact q
/-- .. behind an expression, a statement -/
def tThaw (X : Cx) (t : TE) : TE := fun σ H Q => t σ H fun v H2 => ∃ d o u, H2 d = some (.frz o u) ∧ Unfz X d ∧ Q v (upd H2 d u)
theorem pe_thaw {e : Expr} {t : TE} (h : PE X e t) : PE X e (tThaw X t) := fun pins s σ H Q I hq =>
  thn (h pins s σ H _ I hq) fun v s' ⟨x, H', I', r, d, o, u, hd, nf, q⟩ => ⟨x, _, I'.thawed hd nf, r, q⟩
theorem thaw_eq {H : Hp} {d p : Addr} {u f o : HO} (hd : H d = some u) (hp : p ≠ d) : upd (upd (upd H d f) p o) d u = upd H p o := by
  funext b
  by_cases h1 : b = d
  · subst h1; rw [upd_same, upd_ne (Ne.symm hp), hd]
  · rw [upd_ne h1]
    by_cases h2 : b = p
    · subst h2; rw [upd_same, upd_same]
    · rw [upd_ne h2, upd_ne h2, upd_ne h1]
/-! ### the keys of a dict (ints and texts) -/
def ItD (d : Addr) (o : Obj) (kvs : List (Key × V)) : It :=
  ⟨fun i H => H d = some (.frz o (.dK kvs)) ∧ i < kvs.length, fun i H x H' => H' = H ∧ ∃ k v, kvs[i]? = some (k, v) ∧ x = kV k, fun i H => H d = some (.frz o (.dK kvs)) ∧ kvs.length ≤ i⟩
theorem key_val {P : Program} {w : World} {k : Key} {u : Value} (h : (mixKind P w).is k u = true) : RelV (kV k) u := by
  rcases keyIs_shape (show keyIs k u = true from h) with ⟨i, t, rfl, rfl⟩ | ⟨x, t, rfl, rfl⟩
  · exact ⟨t, rfl⟩
  · exact ⟨t, rfl⟩
theorem frz_at {P : Program} {w : World} {h : Heap} {d : Addr} {o : Obj} {kvs : List (Key × V)} {es : Array DictEntry} {ep : Nat} (hd : o.data = .dict es ep) (q : ObjOk P w H h d (.frz o (.dK kvs))) : (d == sysModules) = false ∧ kvs.length ≤ sizeLine ∧ ∃ vs, KV kvs vs ∧ h.DictAt (mixKind P w) d vs ep := by
  obtain ⟨ho, hz, hs, vs, kv, o', es', ep', ho', h1, h2, h3⟩ := q
  rw [ho] at ho'; cases ho'
  rw [hd] at h2; cases h2
  exact ⟨hs, hz, vs, kv, o, es, ho, h1, hd, h3⟩
theorem KV.at {κ : Type} {kvs : List (κ × V)} {vs : List (κ × Value)} (r : KV kvs vs) : ∀ {i : Nat} {k : κ} {u : Value}, vs[i]? = some (k, u) → ∃ v, kvs[i]? = some (k, v) ∧ RelV v u := by
  induction r with
  | nil => intro i k u e; simp at e
  | cons f t ih =>
    intro i k u e
    cases i with
    | zero =>
      simp at e
      subst e
      exact ⟨_, congrArg some (Prod.ext f.1 rfl), f.2⟩
    | succ i =>
      obtain ⟨v, h1, h2⟩ := ih (by simpa using e)
      exact ⟨v, by simpa using h1, h2⟩
theorem turn_dict {P : Program} {w : World} {K : PySem.W.Frag} (d it : Addr) (o : Obj) (es : Array DictEntry) (ep : Nat) (kvs : List (Key × V)) (hdo : o.data = .dict es ep) : Turn P w K tg (ItD d o kvs) [it] it (fun i h => h.IsKeyIter it d i kvs.length ep) where
  mem := by simp
  obj := fun i h st b hb => by
    have e : b = it := by simpa using hb
    subst e
    obtain ⟨o, e, c, d⟩ := st
    exact ⟨o, e, fun v z => by rw [d] at z; cases z⟩
  keep := fun i h h' st k => st.at fun o e => k it (by simp) o e
  item := by
    intro X hP hw hK hc i pins s σ H E I hf st hg
    subst hP hw hK
    obtain ⟨hd, hi⟩ := hg
    obtain ⟨_, _, vs, kv, da⟩ := frz_at hdo (I.hok d _ hd)
    have hl : kvs.length = vs.length := kv.length
    have hi' : i < vs.length := by omega
    obtain ⟨⟨k, u⟩, hx⟩ : ∃ p, vs[i]? = some p := ⟨vs[i], by simp [hi']⟩
    obtain ⟨v, hv, _⟩ := kv.at hx
    obtain ⟨f0, f1, f2, f3, f4, f5⟩ := hf it (by simp)
    rw [hl] at st
    refine wpAny_pyNext_dict_item st da hx fun key h' hkey st' sb => ?_
    have I1 : Inv X pins σ H { s with heap := h' } := I.turned (t' := s.toks) (fun b o hb e => (sb.2 b hb).trans e) f0 f1 f3 f4 f5
    obtain ⟨o', e, c, dd⟩ := id st'
    exact ⟨key, rfl, go_of (s := { s with heap := h' }) e c dd (by decide) ⟨kV k, H, I1, key_val hkey, ⟨rfl, k, v, hv, rfl⟩, by rw [hl]; exact st', fun b hb => (hf b hb).1⟩⟩
  done := by
    intro X hP hw hK hc i pins s σ H E I hf st hg
    subst hP hw hK
    obtain ⟨hd, hi⟩ := hg
    obtain ⟨_, _, vs, kv, da⟩ := frz_at hdo (I.hok d _ hd)
    have hl : kvs.length = vs.length := kv.length
    obtain ⟨f0, f1, f2, f3, f4, f5⟩ := hf it (by simp)
    rw [hl] at st
    exact wpAny_pyNext_dict_end (I.ok.hd hc) st da (by simp; omega) fun h' eb => ⟨rfl, I.turned (t' := s.toks) (fun b o hb e => eb b o hb e) f0 f1 f3 f4 f5⟩
  self := fun _ _ _ _ _ st h => wpAny_pyIter_keyiter st h
def iDict (X : Cx) (td : TE) : TI := fun σ H R => td σ H fun x H1 => ∃ d kvs, x = .ref d ∧ H1 d = some (.dK kvs) ∧ ∀ o, Unfz X d → R (ItD d o kvs) (upd H1 d (.frz o (.dK kvs)))
theorem pi_dict {l : Expr} {td : TE} (hl : PE X l td) : PI X tg l (iDict X td) := by
  intro pins s σ H R I h
  refine thn (hl pins s σ H _ I h) fun v s1 ⟨x, H1, I1, r1, q1⟩ => ?_
  obtain ⟨d, kvs, e, hd, q⟩ := q1
  subst e
  cases r1
  have nf := I1.unfz hd True.intro
  obtain ⟨o, ho, I2⟩ := I1.frozen hd True.intro
  obtain ⟨_, hs, vs, kv, o', es, ep, ho', h1, h2, h3⟩ := (show ObjOk X.prog X.w H1 s1.heap d (.dK kvs) from I1.hok d _ hd)
  rw [ho] at ho'; cases ho'
  refine wpAny_pyIter_dict (kvs := vs) (ep := ep) hs ⟨o, es, ho, h1, h2, h3⟩ ?_
  refine ⟨s1.heap.objs.size, [s1.heap.objs.size], _, _, _, rfl, I2.kept (t' := s1.toks) fun b o e => Heap.get?_push_of_some _ e, turn_dict d _ o es ep kvs h2, ⟨_, Heap.get?_push_size _ rfl, rfl, by rw [kv.length]; rfl⟩, fun b hb => ?_, q o nf⟩
  have e : b = s1.heap.objs.size := by simpa using hb
  subst e
  exact I2.fpOk (Nat.le_refl _) (I2.hok.fresh (Nat.le_refl _))
theorem lc_dict {d : Addr} {o : Obj} {kvs : List (Key × V)} {g : TG} {tt : TT} {te : TE} {Q : List V → Hp → Prop} {σ : St} {H : Hp} (hn : kvs.length ≤ sizeLine) (Pv : Nat → List V → St → Hp → Prop) (h0 : Pv 0 [] σ H) (hl : ∀ i ys σ H, Pv i ys σ H → H d = some (.frz o (.dK kvs)) ∧ ys.length ≤ i)
    (hs : ∀ i k v ys σ H, kvs[i]? = some (k, v) → Pv i ys σ H → g (kV k) σ H fun σ2 H2 => tt σ2 H2 fun b H3 => if b = true then te σ2 H3 fun v H4 => Pv (i + 1) (ys ++ [v]) σ2 H4 else Pv (i + 1) ys σ2 H3)
    (hd : ∀ ys σ H, Pv kvs.length ys σ H → Q ys H) : tLcR g tt te (ItD d o kvs) Q σ H := by
  refine ⟨fun i m ys σ H => m = kvs.length - i ∧ i ≤ kvs.length ∧ Pv i ys σ H, ⟨kvs.length, by simp, Nat.zero_le _, h0⟩, ?_⟩
  rintro i m ys σ H ⟨rfl, hi, p⟩
  obtain ⟨q, hy⟩ := hl i ys σ H p
  by_cases hlt : i < kvs.length
  · refine .inr ⟨⟨q, hlt⟩, by omega, Pv (i + 1), fun ys' σ' H' p' => ⟨kvs.length - (i + 1), by omega, rfl, hlt, p'⟩, fun x H' y => ?_⟩
    obtain ⟨e, k, v, y, rfl⟩ := y
    subst e
    exact hs i k v ys σ _ y p
  · have e : i = kvs.length := by omega
    subst e
    exact .inl ⟨⟨q, Nat.le_refl _⟩, by omega, hd ys σ H p⟩
theorem paired_of {α β : Type} {F : α → β → Prop} : ∀ {xs : List α} {ys : List β}, xs.length = ys.length → (∀ (i : Nat) a b, xs[i]? = some a → ys[i]? = some b → F a b) → Paired F xs ys
  | [], [], _, _ => .nil
  | [], _ :: _, e, _ => by simp at e
  | _ :: _, [], e, _ => by simp at e
  | x :: xs, y :: ys, e, h => .cons (h 0 x y rfl rfl) (paired_of (by simpa using e) fun i a b ha hb => h (i + 1) a b (by simpa using ha) (by simpa using hb))
/-- list(d) -/
theorem call_list_dict (hc : X.calm = true) : CallR X (.type "list") (fun xs H Q => ∃ d kvs, xs = [V.ref d] ∧ H d = some (.dK kvs) ∧ ∀ p, H p = none → Q (.ref p) (upd H p (.lst (kvs.map fun kv => kV kv.1)))) := by
  intro pins s σ H xs us Q I r h
  obtain ⟨d, kvs, rfl, hd, q⟩ := h
  obtain ⟨u, rfl, ru⟩ := vals1 r
  cases (show u = Value.ref d from ru)
  obtain ⟨hz, hs, vs, kv, o, es, ep, ho, h1, h2, h3⟩ := (show ObjOk X.prog X.w H s.heap d (.dK kvs) from I.hok d _ hd)
  have hl : kvs.length = vs.length := kv.length
  refine PySem.W.kdl_call (PySem.W.kdl_dict (knd := mixKind X.prog X.w) (kvs := vs) (ep := ep) hs) (I.ok.hd hc) ⟨o, es, ho, h1, h2, h3⟩ (by omega) fun h' tk acc c hk hS hacc => ?_
  have hf : H s.heap.objs.size = none := I.hok.fresh (Nat.le_refl _)
  have rel : Vals (kvs.map fun kv => kV kv.1) acc.toList := by
    refine paired_of (by rw [List.length_map]; have : acc.toList.length = acc.size := Array.length_toList; rw [this, hacc.1]; exact hl) fun i a b ha hb => ?_
    obtain ⟨k, x, hk2, hi⟩ := hacc.2 i b (by rw [← Array.getElem?_toList]; exact hb)
    obtain ⟨v, hv, _⟩ := kv.at hk2
    rw [List.getElem?_map, hv] at ha
    cases ha
    exact key_val hi
  refine ⟨.ref s.heap.objs.size, upd H s.heap.objs.size (.lst (kvs.map fun kv => kV kv.1)), I.laid (t' := tk) hk (Nat.le_refl _) ?_, rfl, q _ hf⟩
  exact ⟨by rw [List.length_map]; exact hz, acc.toList, c, rel, by rw [Array.toArray_toList]; exact hS⟩
end
end L2


set_option Elab.async false
set_option linter.all false
set_option maxRecDepth 100000
/-! try .. except X [as n]: an exception of an own class is caught. -/
namespace L2
open PySem PySem.Spec PyProof.Rows

/-- an exception of a callee, at a call where the names stand as in σ₀ -/
def PassesAt (CX : CXT) (X : Cx) (σ₀ : St) (E : XK) : Prop := ∀ (pins : List (Addr × Obj)) (H : Hp) (s : Shared) (e : Value) (s' : Shared), Inv X pins σ₀ H s → CX X.stack H s E e s' → X.xe e s'
def tAt (σ₀ : St) (t : TE) : TE := fun σ H Q => σ = σ₀ ∧ t σ H Q
section
variable {X : Cx} {CX : CXT} {k : Nat} {f C : Addr} {fd : FuncData} {ps : List Str} {sp : Sp} {dvs : List V} {ds : List Value} {E : XK} {x m : Str} {p pos apos : Pos} {e o : Expr} {es : List Expr} {ta : TE} {t : TA} {σ₀ : St}
theorem run_at {pins : List (Addr × Obj)} {H : Hp} {s : Shared} {Q : VK} {us : List Value} {vs : List V} (F : FnOk X.prog X.w X.K X.mg X.base CX k f fd ps sp) (hr : Room k X.A) (hb : Binds X.K fd ps ds) (hd : Vals dvs ds) (hx : PassesAt CX X σ₀ E)
    (I : Inv X pins σ₀ H s) (r : Vals vs us) (h : sp (vs ++ dvs) H Q E) : wpAny (model X.prog X.w) X.A (call (.ref f) us) (EP X pins σ₀ Q) X.xe s := by
  have r2 : Vals (vs ++ dvs) (us ++ ds) := r.append hd
  have hl : (us ++ ds).length = ps.length := by rw [← r2.length]; exact F.len _ _ _ _ h
  refine wpAny_call (codeAny_mono (F.run X.A X.stack s H ⟨us, []⟩ (us ++ ds) (vs ++ dvs) Q E hr I.env0 (hb s us I.kIn hl) r2 h) fun r s' hq => ?_)
  cases r with
  | error e => exact hx pins H s e s' I hq
  | ok fl =>
    cases fl with
    | ret u => exact I.after hq
    | next => exact False.elim hq
    | brk => exact False.elim hq
    | cont => exact False.elim hq
/-- o.m(e, ..) within try -/
theorem pe_methA {pl : Sem Bool} (he : PE X o ta) (c : Cls X.K C) (hm : Meth X.K C m f) (F : FnOk X.prog X.w X.K X.mg X.base CX k f fd ps sp) (hr : Room k X.A) (hb : Binds X.K fd ps ds) (hd : Vals dvs ds) (hx : PassesAt CX X σ₀ E) (ha : PA X (e :: es) t)
    (hst : starEach (e :: es) X.env = (false, eval e X.env) :: starEach es X.env := by rfl) (hpl : (backTo pos (starEach es X.env)).any (·.1) = false := by rfl)
    (ht : eval (.Call (.Attribute o m apos) (e :: es) [] pos) X.env = (do
      let ov ← eval o X.env
      standAt apos.atName
      let (f, first) ← holding [ov] (getMethod ov m pl)
      callWith pos f first (backTo pos (starEach (e :: es) X.env)) (backToKw pos (keywordEach [] X.env))) := by rfl) :
    PE X (.Call (.Attribute o m apos) (e :: es) [] pos) (tAt σ₀ (tMeth C m sp dvs E ta t)) := by
  intro pins s σ H Q I h
  obtain ⟨rfl, h⟩ := h
  refine PySem.W.methodCall_KW (pl := pl) (thn (he pins s σ H _ I h) fun u s1 ⟨x, H1, I1, rx, a, dx, fs, ex, ea, l, q⟩ => ?_) ht
  subst ex
  obtain rfl : u = Value.ref a := rx
  refine getmeth_ok I1 ea c hm l ?_
  refine PySem.W.callWith_K (first := [.ref a]) (h₀ := X.base) I.ok.mod.kin hm.kp (thn (ha pos pins s1 σ H1 _ I1 q) fun us s2 ⟨vs, H2, I2, r, q2⟩ => ⟨I2.kIn, ?_⟩) hst hpl
  exact run_at (us := .ref a :: us) (vs := .ref a :: vs) F hr hb hd hx I2 (.cons rfl r) q2
end

/-- the body of a try: pn are pinned, E' is wished -/
abbrev Cx.tried (X : Cx) (pn : List (Addr × Obj)) (E' : Value → Shared → Prop) : Cx := { X with pn := pn, xe := E' }
/-- an except suite: e is handled; nothing may leave it -/
abbrev Cx.hand (X : Cx) (e : Addr) : Cx := { X with A := X.A.mark (some (.ref e)), calm := false, xe := fun _ _ => False }
theorem Cx.Ok.tried {X : Cx} (ok : X.Ok) (pn : List (Addr × Obj)) (E : Value → Shared → Prop) : (X.tried pn E).Ok :=
  ⟨ok.mod, ok.kind, ok.glob, ok.blt, ok.above, ok.inj, ok.has, ok.cab, ok.hd, ok.frames, ok.stk, ok.exf, ok.bs, ok.bsz, ok.noex, ok.exfs, ok.funs, ok.frf⟩
theorem Cx.Ok.hand {X : Cx} (ok : X.Ok) (e : Addr) : (X.hand e).Ok :=
  ⟨ok.mod, ok.kind, ok.glob, ok.blt, ok.above, ok.inj, ok.has, ok.cab, (fun z => nomatch z), ok.frames, ok.stk, ok.exf, ok.bs, ok.bsz, ok.noex, ok.exfs, ok.funs, ok.frf⟩
section
variable {X : Cx} {pins pn : List (Addr × Obj)} {σ : St} {H : Hp} {s : Shared} {E : Value → Shared → Prop} {e : Addr}
theorem Inv.tried (I : Inv X pins σ H s) (E : Value → Shared → Prop) : Inv (X.tried (X.pn ++ pins) E) [] σ H s :=
  ⟨I.ok.tried _ E, I.os, I.bare, I.base, I.loc, I.cell, I.free, I.freeC, fun p hp => I.pin p (by simpa using hp), I.hok, I.len⟩
theorem Inv.untried {pl : List (Addr × Obj)} (ok : X.Ok) (I : Inv (X.tried (X.pn ++ pins) E) pl σ H s) : Inv X pins σ H s :=
  ⟨ok, I.os, I.bare, I.base, I.loc, I.cell, I.free, I.freeC, fun p hp => I.pin p (List.mem_append_left _ hp), I.hok, I.len⟩
theorem Inv.hand (I : Inv X pins σ H s) (e : Addr) : Inv (X.hand e) pins σ H s :=
  ⟨I.ok.hand e, I.os, I.bare, I.base, I.loc, I.cell, I.free, I.freeC, I.pin, I.hok, I.len⟩
theorem Inv.unhand (ok : X.Ok) (I : Inv (X.hand e) pins σ H s) : Inv X pins σ H s :=
  ⟨ok, I.os, I.bare, I.base, I.loc, I.cell, I.free, I.freeC, I.pin, I.hok, I.len⟩
theorem SP.untried {D : Ends} {f : Flow} {s' : Shared} {pl : List (Addr × Obj)} (ok : X.Ok) (h : SP (X.tried (X.pn ++ pins) E) pl D f s') : SP X pins D f s' := by
  cases f with
  | next => obtain ⟨σ', H', I, q⟩ := h; exact ⟨σ', H', I.untried ok, q⟩
  | brk => obtain ⟨σ', H', I, q⟩ := h; exact ⟨σ', H', I.untried ok, q⟩
  | cont => obtain ⟨σ', H', I, q⟩ := h; exact ⟨σ', H', I.untried ok, q⟩
  | ret u => obtain ⟨v, σ', H', I, r, q⟩ := h; exact ⟨v, σ', H', I.untried ok, r, q⟩
theorem SP.unhand {D : Ends} {f : Flow} {s' : Shared} (ok : X.Ok) (h : SP (X.hand e) pins D f s') : SP X pins D f s' := by
  cases f with
  | next => obtain ⟨σ', H', I, q⟩ := h; exact ⟨σ', H', I.unhand ok, q⟩
  | brk => obtain ⟨σ', H', I, q⟩ := h; exact ⟨σ', H', I.unhand ok, q⟩
  | cont => obtain ⟨σ', H', I, q⟩ := h; exact ⟨σ', H', I.unhand ok, q⟩
  | ret u => obtain ⟨v, σ', H', I, r, q⟩ := h; exact ⟨v, σ', H', I.unhand ok, r, q⟩
end

/-- the heap behind a flight, whatever its frames' slots -/
theorem fly_un {P : Program} {w : World} {st : List Env} {H H' : Hp} {s s' : Shared} {e C : Addr} (F : Fly P w st H H' s s' e C) (hfr : ∀ b ∈ frs st, H b = none ∧ ∃ o, s.heap.get? b = some o) {B h6 : Heap} {t : Addr} (fl : Heap.FlyingW B st e (.ref C) (.ref t) s'.heap)
    (hB : ∀ b o, s'.heap.get? b = some o → b ∉ frs st → ((∃ u, H' b = some u) ∨ ∃ o', s.heap.get? b = some o') → B.get? b = some o) (st6 : B.StaysIn h6) (up : s'.heap.UpToSlots h6) :
    Un (frs st) [] H H' s.heap h6 ∧ HOk P w H' h6 := by
  have nofrT : ∀ b u, H' b = some u → b ∉ frs st := fun b u hu hb => by
    obtain ⟨n, o, ho⟩ := hfr b hb
    rw [F.un.free b o ho n (by simp)] at hu; cases hu
  have keepT : ∀ b o u, s'.heap.get? b = some o → H' b = some u → h6.get? b = some o := fun b o u ho hu => st6 b o (hB b o ho (nofrT b u hu) (.inl ⟨u, hu⟩))
  refine ⟨⟨fun b o q n hb hx => st6 b o (hB b o (F.un.keep b o q n hb hx) hb (.inr ⟨o, q⟩)), fun b o q n hb hx => ?_, F.un.free, fun b o q hx => ?_, F.un.tups, F.un.frzs, F.un.tbls⟩, fun a u ha => ?_⟩
  · obtain ⟨sl, q1⟩ := F.un.slot b o q n hb hx
    obtain ⟨_, o', ho', hd⟩ := fl.2.2.1.mem hb
    rw [q1] at ho'; cases ho'
    obtain ⟨sl2, q2⟩ := up b _ q1 hd
    exact ⟨sl2, q2⟩
  · obtain ⟨o2, q2⟩ := F.un.there b o q hx
    by_cases hb : b ∈ frs st
    · obtain ⟨_, o', ho', hd⟩ := fl.2.2.1.mem hb
      rw [q2] at ho'; cases ho'
      obtain ⟨sl3, q3⟩ := up b _ q2 hd
      exact ⟨_, q3⟩
    · exact ⟨o2, st6 b o2 (hB b o2 q2 hb (.inr ⟨o, q⟩))⟩
  · refine (F.hok a u ha).stay (fun b v hb q => ?_) (fun _ z => z) fun _ _ z => z
    rcases hb with z | z
    · rw [z] at q ⊢; exact keepT a v u q ha
    · exact keepT b v _ q z
/-- the class at C stands beneath the class at D (or is it) -/
def subX (K : PySem.W.Frag) (C D : Addr) : Bool := PySem.W.excIn K C [.type "ValueError", .type "Exception", .type "BaseException", .type "object"] "ValueError.__new__" && PySem.W.excIn K D [.type "ValueError", .type "Exception", .type "BaseException", .type "object"] "ValueError.__new__" &&
  match K.lookup C with
  | some ⟨_, _, .cls cd, _⟩ => cd.mro.contains (.ref D)
  | _ => false
theorem matches_own {M : Model} {A : Around} {E : Value → Shared → Prop} {K : PySem.W.Frag} {s : Shared} {e C D : Addr} {oe : Obj} {Q : Bool → Shared → Prop} (X : K.In s.heap) (q : subX K C D = true) (he : s.heap.get? e = some oe) (hc : oe.cls = .ref C) (h : Q true s) :
    wpAny M A (excMatches (.ref e) (.ref D)) Q E s := by
  unfold subX at q
  rw [Bool.and_eq_true, Bool.and_eq_true] at q
  obtain ⟨⟨q1, q2⟩, q3⟩ := q
  obtain ⟨bm, N, nm, qn, bs, hdct, sn, sub, ab, col, dd, k0, k1, k2, k3, k5, mN, hC, hN, hni, T⟩ := exc_obj X q1
  obtain ⟨bm2, N2, nm2, qn2, bs2, hdct2, sn2, sub2, ab2, col2, dd2, k02, k12, k22, k32, k52, mN2, hD, hN2, hni2, T2⟩ := exc_obj X q2
  have hm : (Value.ref C :: bm).contains (.ref D) = true := by
    split at q3
    · rename_i c d cd sl ho
      have z := X _ _ ho
      rw [hC] at z
      cases z
      exact q3
    · cases q3
  have hcB : (Value.ref D :: bm2).contains (.type "BaseException") = true := by rw [List.contains_cons, T2.hasType (b := true) (by decide), Bool.or_true]
  have f := tc_notTuple
  obtain ⟨hh, g, d, tk, os⟩ := s
  unfold excMatches
  repeat (first | (with_reducible refine wpAny_loadPart_at he ?_; rw [hc]) | with_reducible refine wpAny_loadPart_at hD ?_ | (with_reducible refine wpAny_isSubtype_exc hD ?_; rw [hcB]) | (with_reducible refine wpAny_isSubtype_exc hC ?_; rw [hm]) | wp_step)
  exact h
/-- an exception that is held, by its class -/
def excO (e C : Addr) : HO := .ext fun h => ∃ o, h.get? e = some o ∧ o.cls = .ref C ∧ ∃ vs, o.data = .fields vs
end L2

/-! ### .. as n -/
namespace L2
open PySem PySem.Spec PyProof.Rows
section
variable {X : Cx} {pins : List (Addr × Obj)} {σ : St} {H : Hp} {s : Shared} {M : Model} {A : Around} {E : Value → Shared → Prop}
/-- an object that stands is tracked -/
theorem Inv.track {a : Addr} {o : HO} (I : Inv X pins σ H s) (hn : H a = none) (h0 : X.s₀.heap.get? a = none) (hL : a ≠ X.env.locals) (hC : ∀ x c, X.env.cells.lookup x = some c → c ≠ a) (hp : ∀ p ∈ X.pn ++ pins, p.1 ≠ a)
    (new : ObjOk X.prog X.w (upd H a o) s.heap a o) : Inv X pins σ (upd H a o) s := by
  have ne : ∀ b u, H b = some u → b ≠ a := fun b u e z => by rw [z, hn] at e; cases e
  have ne0 : ∀ b u, X.s₀.heap.get? b = some u → b ≠ a := fun b u e z => by rw [z, h0] at e; cases e
  refine ⟨I.ok, I.os, I.bare, ⟨I.base.keep, I.base.slot, fun b u q n hx => by rw [upd_ne (ne0 b u q)]; exact I.base.free b u q n hx, I.base.there, fun b xs q => ?_, fun b u v q => ?_, fun b ps q => ?_⟩, I.loc, I.cell, by rw [upd_ne (Ne.symm hL)]; exact I.free, fun x c e => by rw [upd_ne (hC x c e)]; exact I.freeC x c e, fun p z => ?_, HOk.track I.hok hn new, I.len⟩
  · have := I.base.tups b xs q
    rw [upd_ne (ne b _ this)]; exact this
  · have := I.base.frzs b u v q
    rw [upd_ne (ne b _ this)]; exact this
  · obtain ⟨m, e⟩ := I.base.tbls b ps q
    exact ⟨m, by rw [upd_ne (ne b _ e)]; exact e⟩
  · obtain ⟨e1, e2, e3⟩ := I.pin p z
    exact ⟨e1, by rw [upd_ne (hp p z)]; exact e2, e3⟩
/-- the name of the exception goes -/
theorem goes_ok {j : Nat} {n : Str} {pos : Pos} {Q : Unit → Shared → Prop} (I : Inv X pins σ H s) (hN : X.N.Nodup) (hi : X.N[j]? = some n) (hk : X.env.scope.names.lookup n = some .local)
    (h : ∀ s', Inv X pins (σ.set j none) H s' → Q () s') : wpAny M A (do bindName X.env n .none; unbindBehindTheSuite X.env n pos) Q E s := by
  obtain ⟨m, hn, hl⟩ := id I.loc
  have hcls : (X.env.scope.kind == .class || (X.env.scope.kind == .module && X.env.locals != X.env.globals)) = false := by rw [I.ok.kind]; rfl
  have hiσ : j < σ.length := by rw [I.len]; exact (List.getElem?_eq_some_iff.mp hi).1
  refine wpAny_nameGoes_keeps hk hn hcls fun h' v hn' hs => ?_
  have older : ∀ b o, X.s₀.heap.get? b = some o → b ≠ X.env.locals := fun b o e => Nat.ne_of_lt (Nat.lt_of_lt_of_le (Heap.lt_size e) I.ok.above)
  refine h _ ⟨I.ok, I.os, I.bare, ⟨fun b o e n hb hx => ?_, fun b o e n hb hx => ?_, I.base.free, fun b o e hx => ?_, I.base.tups, I.base.frzs, I.base.tbls⟩, ⟨_, hn', fun i y v' e1 e2 e3 => ?_⟩, fun y c e => ?_, I.free, I.freeC, fun p hp => ?_, fun b ob e => ?_, by simpa using I.len⟩
  · exact (hs.2 b (older b o e)).trans (I.base.keep b o e n hb hx)
  · obtain ⟨sl, e1⟩ := I.base.slot b o e n hb hx
    exact ⟨sl, (hs.2 b (older b o e)).trans e1⟩
  · obtain ⟨o', e1⟩ := I.base.there b o e hx
    exact ⟨o', (hs.2 b (older b o e)).trans e1⟩
  · by_cases hj : i = j
    · subst hj
      rw [List.getElem?_set_self hiσ] at e2
      cases e2
    · rw [List.getElem?_set_ne (Ne.symm hj)] at e2
      obtain ⟨u', r', q⟩ := hl i y v' e1 e2 e3
      refine ⟨u', r', ?_⟩
      rcases q with ⟨k, e⟩ | ⟨k, c, e, z⟩
      · refine .inl ⟨k, ?_⟩
        have : y ≠ n := fun e => hj (nodup_ix hN e1 (e ▸ hi))
        simp [this, e]
      · exact .inr ⟨k, c, e, z.sameBut hs (I.cne y c e)⟩
  · obtain ⟨w', z⟩ := I.cell y c e
    exact ⟨w', z.sameBut hs (I.cne y c e)⟩
  · obtain ⟨e, n, ne, nf, d⟩ := I.pin p hp
    exact ⟨(hs.2 p.1 ne).trans e, n, ne, nf, d⟩
  · refine (I.hok b ob e).stay (fun c w' hc q => (hs.2 c ?_).trans q) (fun _ q => q) fun _ _ q => q
    rintro rfl
    rcases hc with rfl | hc
    · rw [I.free] at e; cases e
    · rw [I.free] at hc; cases hc
end
/-- behind the suite the name is gone -/
def Ends.gone (D : Ends) (j : Nat) : Ends := { nx := fun σ H => D.nx (σ.set j none) H, rt := D.rt, bk := fun σ H => D.bk (σ.set j none) H, ct := fun σ H => D.ct (σ.set j none) H }
def tTryA (K : PySem.W.Frag) (D0 : Addr) (j : Nat) (tb : St → XK → TS) (ts : TS) : TS := fun D σ H =>
  tb σ (fun cls _ H' => ∃ C, cls = .ref C ∧ subX K C D0 = true ∧ ∀ e, H' e = none → ts (D.gone j) (σ.set j (some (.ref e))) (upd H' e (excO e C))) D σ H
theorem ps_tryA {X : Cx} {D0 : Addr} {x n : Str} {j : Nat} {body suite : List Stmt} {b₀ : Stmt} {np hpos pos : Pos} {tb : St → XK → TS} {ts : TS} (bd : Bd X) (hN : X.N.Nodup) (hj : X.N[j]? = some n) (hk : X.env.scope.names.lookup n = some .local) (hm : X.mg x = some (.ref D0)) (hg : Gl X x)
    (hb : ∀ (σ₀ : St) (pn : List (Addr × Obj)) (E' : Value → Shared → Prop) (EX : XK), PassesAt (CX1 X.prog X.w) (X.tried pn E') σ₀ EX → PSs (X.tried pn E') body (tb σ₀ EX))
    (hs : ∀ e, PSs (X.hand e) (b₀ :: suite) ts) (hdb : (x == ("__debug__" : Str)) = false := by decide) :
    PS X (.Try body [.ExceptHandler (some (.Name x np)) (some n) (b₀ :: suite) hpos] [] [] pos) (tTryA X.K D0 j tb ts) := by
  intro pins s σ H D I h
  refine wpAny_Try_except ?_
  refine thn (hb σ (X.pn ++ pins) _ _ ?_ [] s σ H D (I.tried _) h) fun f s1 q => ?_
  · intro pl H1 s1 ev s' I1 hcx
    obtain ⟨e, C, H', he, F, C', hC', hsub, hts⟩ := hcx
    subst he
    cases hC'
    obtain ⟨B, t, fl, hB⟩ := F.fl
    have fl' : Heap.FlyingW B X.stack e (.ref C) (.ref t) s'.heap := fl
    rw [bd.stack] at fl'
    have hfr : ∀ b ∈ frs X.stack, H1 b = none ∧ ∃ o, s1.heap.get? b = some o := fun b hb => by
      obtain ⟨_, o, ho, _⟩ := I1.stack.mem hb
      exact ⟨I1.stkFree b hb, o, ho⟩
    refine wpAny_looks_onW (by rw [I.ok.frames, bd.stack]) bd.frame fl' fun h4 held4 up4 => ?_
    refine wpAny_landsW held4 fun h5 fl5 up5 => ?_
    have go : ∀ h6, B.StaysIn h6 → s'.heap.UpToSlots h6 → Inv X pins σ H' { s' with heap := h6 } := fun h6 st6 up6 => by
      obtain ⟨un6, hok6⟩ := fly_un F hfr fl hB st6 up6
      exact (I1.call' (s' := { s' with heap := h6 }) (ch := []) F.os un6 hok6 F.bare (fun _ z => nomatch z)).untried I.ok
    have I5 := go h5 fl5.1 (up4.trans up5)
    obtain ⟨ob, hob, hobc⟩ := fl5.there
    refine wpAny_handleBy_cons (codeAny_handlers_test (ld_glob (I5.hand e) hg hm ?_ hdb)) (by intro q; cases q)
    refine matches_own I5.kIn hsub hob hobc (codeAny_handlers_suite_as ?_)
    refine lands_againW fl5 fun h6 fl6 up6 => ?_
    have I6 := go h6 fl6.1 ((up4.trans up5).trans up6)
    obtain ⟨oe, ws, hoe, hoec, hoed, hoe0⟩ := fl6.first
    have hnew : X.s₀.heap.get? e = none := by
      cases q : X.s₀.heap.get? e with
      | none => rfl
      | some o =>
        obtain ⟨o1, q1⟩ := I1.base.there e o q (by show e ∉ X.ex; rw [bd.ex]; simp)
        rw [F.new] at q1; cases q1
    have eL : e ≠ X.env.locals := fun z => by
      obtain ⟨m, ⟨o, _, _, ho, _⟩, _⟩ := I1.loc
      have ho : s1.heap.get? X.env.locals = some o := ho
      rw [← z, F.new] at ho; cases ho
    have I7 := (I6.hand e).track (o := excO e C) F.free hnew eL (fun y c ec z => by
        obtain ⟨v, o, ho, _⟩ := I1.cell y c ec
        rw [z, F.new] at ho; cases ho) (fun p hp z => by
        obtain ⟨e1, _⟩ := I1.pin p (List.mem_append_left _ hp)
        rw [z, F.new] at e1; cases e1)
      ⟨⟨oe, hoe, hoec, ws, hoed⟩, ⟨oe, hoe⟩, fun h1 h2 ⟨o, e1, e2⟩ k => ⟨o, k o e1, e2⟩⟩
    refine store_ok (X := X.hand e) I7 hN hj (.inl hk) (v := .ref e) rfl (fun s7 I8 => ?_) (.inr hk)
    refine wpAny_mono (hs e pins _ _ _ (D.gone j) I8 (hts e F.free)) (fun f s8 q => ?_) fun _ _ z => z.elim
    have q := q.unhand I.ok
    cases f with
    | next => obtain ⟨σ', H2, I9, q⟩ := q; exact goes_ok I9 hN hj hk fun s9 I10 => ⟨_, H2, I10, q⟩
    | brk => obtain ⟨σ', H2, I9, q⟩ := q; exact goes_ok I9 hN hj hk fun s9 I10 => ⟨_, H2, I10, q⟩
    | cont => obtain ⟨σ', H2, I9, q⟩ := q; exact goes_ok I9 hN hj hk fun s9 I10 => ⟨_, H2, I10, q⟩
    | ret u => obtain ⟨v, σ', H2, I9, r, q⟩ := q; exact goes_ok I9 hN hj hk fun s9 I10 => ⟨v, _, H2, I10, r, q⟩
  · have q := q.untried I.ok
    cases f with
    | next => exact wpAny_execs_nil q
    | ret v => exact q
    | brk => exact q
    | cont => exact q
end L2

/-! ### a call within an except suite -/
namespace L2
open PySem PySem.Spec PyProof.Rows
structure RoomH (k : Nat) (A : Around) : Prop where
  dp : A.depth + 3 * k + 5 < recursionLimit
  un : A.units + 16 * k + 200 < cLine
theorem Room.hand {k : Nat} {A : Around} (r : Room k A) (e : Option Value) : RoomH k (A.mark e) := ⟨r.dp, r.un⟩
structure FnOkH (P : Program) (w : World) (K : PySem.W.Frag) (mg : Str → Option Value) (base : Heap) (k : Nat) (f : Addr) (fd : FuncData) (ps : List Str) (sp : Sp) : Prop where
  len : ∀ vs H Q E, sp vs H Q E → vs.length = ps.length
  run : ∀ (A : Around) (outer : List Env) (s : Shared) (H : Hp) (args : Args) (us : List Value) (vs : List V) (Q : VK) (E : XK), RoomH k A → Env0 P w K mg base A outer s H → BindsTo s fd args (ps.zip us) → Vals vs us → sp vs H Q E →
    codeAny (model P w) A (.call (.ref f) args) (CR CX0 outer P w H s Q E) s
/-- the context of a def's body that runs while an exception is handled -/
def cxOfH (P : Program) (w : World) (K : PySem.W.Frag) (mg : Str → Option Value) (base : Heap) (N : List Str) (qual : Str) (scope : Scope) (f : Addr) (cd : Value) (A : Around) (outer : List Env) (s : Shared) (H : Hp) : Cx :=
  { cxOf CX0 P w K mg base N qual scope f cd A outer s H E0 with calm := false, xe := fun _ _ => False }
section
variable {P : Program} {w : World} {K : PySem.W.Frag} {mg : Str → Option Value} {base : Heap}
theorem Fun.okH {x qual : Str} {st : Stmt} {f : Addr} {fd : FuncData} {N ps : List Str} {k : Nat} {sp : Sp} (F : Fun K x qual st f fd) (S : FnScope N ps (defScope st)) (len : ∀ vs H Q E, sp vs H Q E → vs.length = ps.length)
    (hbody : ∀ (cdv : Value) (A : Around) (outer : List Env) (s : Shared) (H : Hp) (vs : List V) (Q : VK) (E : XK), RoomH k (A.deeper (envOfC qual (defScope st) s.heap.objs.size f cdv)) → sp vs H Q E →
      ∃ t, PSs (cxOfH P w K mg base N qual (defScope st) f cdv A outer s H) (defBody st) t ∧ t { nx := fun _ H' => Q .non H', rt := Q } (start N vs) H) : FnOkH P w K mg base (k + 1) f fd ps sp := by
  obtain ⟨oc, od, kV, doc, pm, an, cdv, ct, osl, rfl, lk, hcd⟩ := F.ex
  refine ⟨len, fun A outer s H args us vs Q E hr e0 hb r hsp => ?_⟩
  have hl := len _ _ _ _ hsp
  have KX : K.In s.heap := e0.mod.kin.keeps fun b o e => (e0.bs b o e).1
  have lim : s.heap.NoLimit := e0.mod.nolimit.keeps fun b o e => (e0.bs b o e).1
  have hkind : ∀ y ∈ ps.zip us, (defScope st).names.lookup y.1 = some .local ∨ ((defScope st).names.lookup y.1 = some .cell ∧ ((cellsFrom (s.heap.objs.size + 1) (defScope st).names []).lookup y.1).isSome = true) := fun ⟨n, v⟩ hy => by
    rcases S.par n (List.of_mem_zip hy).1 with e | e
    · exact .inl e
    · obtain ⟨c, hc⟩ := cell_has (n := s.heap.objs.size + 1) e
      exact .inr ⟨e, by rw [hc]; rfl⟩
  refine codeAny_call_function (by have := hr.dp; omega) (KX _ _ lk) rfl S.co S.gen rfl (PySem.W.codeRec_of KX hcd) (hb _ _ _ _ ?_)
  refine wpAny_newFunctionEnv_cells S.kind hkind fun env he s1 x => ?_
  subst he
  refine ⟨lim.keeps x.toInCall.keep, codeAny_func ?_⟩
  obtain ⟨t, ht, hq⟩ := hbody cdv A outer s H vs Q E ⟨by have := hr.dp; show A.depth + 1 + 3 * k + 5 < _; omega, by have := hr.un; show A.units + 3 + 16 * k + 200 < _; omega⟩ hsp
  have I0 : Inv (cxOf CX0 P w K mg base N qual (defScope st) f cdv { A with handled := none } outer s H E0) [] (start N vs) H s1 := inv_start S rfl ⟨e0.frames, e0.mod, e0.bs, e0.bsz, e0.funs, e0.frf, e0.hok, e0.bare⟩ hl r x
  have I : Inv (cxOfH P w K mg base N qual (defScope st) f cdv A outer s H) [] (start N vs) H s1 :=
    ⟨⟨I0.ok.mod, I0.ok.kind, I0.ok.glob, I0.ok.blt, I0.ok.above, I0.ok.inj, I0.ok.has, I0.ok.cab, (fun z => nomatch z), Around.frames_deeper e0.frames, I0.ok.stk, I0.ok.exf, I0.ok.bs, I0.ok.bsz, I0.ok.noex, I0.ok.exfs, I0.ok.funs, I0.ok.frf⟩, I0.os, I0.bare, I0.base, I0.loc, I0.cell, I0.free, I0.freeC, I0.pin, I0.hok, I0.len⟩
  refine wpAny_mono (ht [] s1 (start N vs) H _ I hq) (fun fl s' hs => ?_) fun e s' hs => hs.elim
  have fin : ∀ {σ' : St} {H' : Hp} {v : V} {u : Value}, Inv (cxOfH P w K mg base N qual (defScope st) f cdv A outer s H) [] σ' H' s' → RelV v u → Q v H' → CE outer P w H s Q u s' :=
    fun {σ' H' v u} J rv q => ⟨v, H', J.os, J.bare, J.base, J.hok, rv, q⟩
  cases fl with
  | ret u => obtain ⟨v, σ', H', J, rv, q⟩ := hs; exact fin J rv q
  | next => obtain ⟨σ', H', J, q⟩ := hs; exact fin (v := .non) J rfl q
  | brk => obtain ⟨σ', H', J, q⟩ := hs; exact q.elim
  | cont => obtain ⟨σ', H', J, q⟩ := hs; exact q.elim
end
section
variable {X : Cx} {k : Nat} {f : Addr} {fd : FuncData} {ps : List Str} {sp : Sp} {x : Str} {p pos : Pos} {e : Expr} {es : List Expr} {t : TA}
theorem pe_callH (F : FnOkH X.prog X.w X.K X.mg X.base k f fd ps sp) (hr : RoomH k X.A) (hg : Gl X x) (hm : X.mg x = some (.ref f)) (hk : PySem.W.keepIn X.K (.ref f) = true) (hb : Binds X.K fd ps [])
    (ha : PA X (e :: es) t) (hdb : (x == ("__debug__" : Str)) = false := by decide) (he : starEach (e :: es) X.env = (false, eval e X.env) :: starEach es X.env := by rfl) (hpl : (backTo pos (starEach es X.env)).any (·.1) = false := by rfl) :
    PE X (.Call (.Name x p) (e :: es) [] pos) (tCall sp [] E0 t) := by
  intro pins s σ H Q I h
  refine wpAny_Call_Name_kw (ld_glob I hg hm ?_ hdb)
  refine PySem.W.callWith_K (h₀ := X.base) I.ok.mod.kin hk (thn (ha pos pins s σ H _ I h) fun us s1 ⟨vs, H1, I1, r, q⟩ => ⟨I1.kIn, ?_⟩) he hpl
  have q : sp (vs ++ []) H1 Q E0 := q
  rw [List.append_nil] at q
  have hl : (us ++ []).length = ps.length := by rw [List.append_nil, ← r.length]; exact F.len _ _ _ _ q
  have hb' := hb s1 us I1.kIn hl
  rw [List.append_nil] at hb'
  refine wpAny_call (codeAny_mono (F.run X.A X.stack s1 H1 ⟨us, []⟩ us vs Q E0 hr I1.env0 hb' r q) fun r s' hq => ?_)
  cases r with
  | error e => exact False.elim hq
  | ok fl =>
    cases fl with
    | ret u => exact I1.after hq
    | next => exact False.elim hq
    | brk => exact False.elim hq
    | cont => exact False.elim hq
end
end L2


set_option Elab.async false
set_option linter.all false
set_option maxRecDepth 100000
/-! isinstance of an exception that is held. -/
namespace L2
open PySem PySem.Spec PyProof.Rows PySem.W PySem.Builtin PySem.Builtin.ObjectAttr PySem.Builtin.Getset_descriptor
structure ExcK (K : PySem.W.Frag) (C : Addr) : Prop where
  ga : PySem.W.findIn K (.ref C) "__getattribute__" = some (some (.builtin "BaseException.__getattribute__"))
  gt : PySem.W.findIn K (.ref C) "__getattr__" = some none
  cl : PySem.W.findIn K (.ref C) "__class__" = some (some (.builtin "object.__class__"))
  ob : PySem.W.mroIn K C (.type "object") = some true
  be : PySem.W.mroIn K C (.type "BaseException") = some true
  cs : (PySem.W.clsIn K C).isSome = true
def HeldX (e C : Addr) (h : Heap) : Prop := ∃ o, h.get? e = some o ∧ o.cls = .ref C ∧ ∃ vs, o.data = .fields vs
section
variable {K : PySem.W.Frag} {e C : Addr} {prog : Program} {w : World} {A : Around} {E : Value → Shared → Prop} {h : Heap} {g : Array GenState} {d : Drawn} {t : Nat} {os : OsState}
theorem held_type {M : Model} (p : HeldX e C h) : Looks M h (typeOf (.ref e)) (.ref C) := by
  obtain ⟨o, ho, hc, _⟩ := p
  exact hc ▸ (Looks.ld ho).andThen .now
theorem check_ga {M : Model} {nameV : Value} {Q : Unit → Shared → Prop} (X : K.In h) (x : ExcK K C) (p : HeldX e C h) (hq : Q () ⟨h, g, d, t, os⟩) : wpAny M A (checkBuiltinCall "BaseException.__getattribute__" ⟨[.ref e, nameV], []⟩) Q E ⟨h, g, d, t, os⟩ := by
  have hk : builtinKind "BaseException.__getattribute__" = some .slot := by decide +kernel
  have hsplit : splitId "BaseException.__getattribute__" = some ("BaseException", "__getattribute__") := by decide +kernel
  have ha := F.args_bexc_ga (.ref e) nameV
  have L0 := held_type (M := M) p
  have L1 := looks_mroIn (M := M) X x.be
  simp only [checkBuiltinCall, hk, hsplit]
  refine wpAny_bind ?_
  unfold isInstance
  repeat (first | (with_reducible refine wpAny_bind (L0.at ?_)) | (with_reducible refine L1.at ?_) | wp_step)
  exact hq
theorem classX {R : Result → Shared → Prop} {tp : Value} (X : K.In h) (x : ExcK K C) (p : HeldX e C h) (hq : R (.ok (.ret (.ref C))) ⟨h, g, d, t, os⟩) :
    codeAny (model prog w) A (.call (.builtin "getset_descriptor.__get__") ⟨[.builtin "object.__class__", .ref e, tp], []⟩) R ⟨h, g, d, t, os⟩ := by
  have L0 := held_type (M := model prog w) p
  have L1 := looks_mroIn (M := model prog w) X x.ob
  refine codeAny_call_builtin KF.slot_gs.plain KF.entry_gs (KF.slot_gs.check _ _ _ _ _ _ _ _ KF.type_class (KF.args_gs _ _ _) ?_)
  unfold Builtin.«getset_descriptor.__get__» descrGet
  rw [dga_obj]
  refine wpAny_bind (wpAny_pure ?_)
  unfold descrGetter descrCheckInstance descrNameAndClass isInstance
  simp only [KF.owner_class]
  repeat lk
  refine ⟨Code.quiet_builtin _ (by decide +kernel), codeAny_builtin KF.entry_class ?_⟩
  unfold Builtin.«object.__class__» shownTypeOf
  repeat lk
  exact hq
theorem entryX {tk : Tok} {Q : Fin → Shared → Prop} (X : K.In h) (x : ExcK K C) (p : HeldX e C h) (hq : Q (.done (.ret (.ref C))) ⟨h, g, d, t, os⟩) :
    wpAny (model prog w) A (Builtin.«object.__getattribute__» ⟨[.ref e, .str "__class__" tk], []⟩) Q E ⟨h, g, d, t, os⟩ := by
  have L0 := held_type (M := model prog w) p
  have L1 := looks_findIn (M := model prog w) X x.cl
  have f5 := F.typeOf_object_class
  have f6 := F.slot_gs_get.lookup
  have f7 := F.slot_gs_set.lookup
  have hT5 : (⟨h, g, d, t, os⟩ : Shared).TypeIs (.builtin "object.__class__") "getset_descriptor" := F.typeOf_object_class
  repeat (any_goals (first | assumption | with_reducible refine wpAny_bind (L0.at ?_) | with_reducible refine L0.at ?_ | with_reducible refine wpAny_bind (L1.at ?_) | with_reducible refine L1.at ?_ | wp_step))
  refine classX X x p ?_
  repeat (any_goals (first | assumption | wp_step))
theorem attrX {Q : Option Value → Shared → Prop} (X : K.In h) (x : ExcK K C) (p : HeldX e C h) (hq : Q (some (.ref C)) ⟨h, g, d, t + 1, os⟩) :
    wpAny (model prog w) A (getAttr? (.ref e) "__class__") Q E ⟨h, g, d, t, os⟩ := by
  have L0 := held_type (M := model prog w) p
  have L1 := looks_findIn (M := model prog w) X x.ga
  have L2 := looks_findIn (M := model prog w) X x.gt
  have f3 := F.attr_ValueError.ga.bind (.ref e)
  have hx2 : (Value.builtin "BaseException.__getattribute__" == Value.builtin "object.__getattribute__") = false := by decide +kernel
  have hx1 : (onTheHeap (Value.ref C) && Value.builtin "BaseException.__getattribute__" == Value.builtin "object.__getattribute__") = false := by rw [hx2]; rfl
  unfold getAttr? getAttrBy? getAttrBy
  repeat (any_goals (first | assumption | with_reducible refine wpAny_bind (L0.at ?_) | with_reducible refine L0.at ?_ | with_reducible refine wpAny_bind (L1.at ?_) | with_reducible refine L1.at ?_ | with_reducible refine wpAny_bind (L2.at ?_) | with_reducible refine L2.at ?_ | wp_step))
  refine codeAny_call_builtin F.attr_ValueError.ga.plain F.entry_bexc_ga (check_ga X x p (entryX X x p ?_))
  repeat (any_goals (first | assumption | wp_step))
end
theorem kitx_exc {K : PySem.W.Frag} {e C : Addr} (x : ExcK K C) : KitX K (.ref e) (.ref C) (HeldX e C) where
  ty := fun _ _ _ p => held_type p
  it := fun _ _ X _ => by
    have z := x.cs
    unfold clsIn at z
    split at z
    · rename_i c' d' cd' sl' ho
      intro A' Q' E' s' k q
      unfold isType loadHead
      exact wpAny_bind (wpAny_loadPart (k _ _ (X _ _ ho)) (wpAny_pure q))
    · cases z
  ne := fun h tp dd its n sl X htp => by
    refine Bool.eq_false_iff.mpr fun q => ?_
    have e : C = tp := Value.ref.inj (beq_iff_eq.mp q)
    subst e
    have z := x.cs
    unfold clsIn at z
    split at z
    · rename_i c' d' cd' sl' ho
      have z := (X _ _ ho).symm.trans htp
      cases z
    · cases z
  ca := fun {_ _ _ _ _ s} X p k => by
    obtain ⟨h, g, d, t, os⟩ := s
    exact attrX X x p k
/-- isinstance(e, c): e an exception that is held, c a class (an own one, one of Python's) -/
theorem call_isiX {X : Cx} : CallR X (.builtin "isinstance") (fun xs H Q => ∃ e C c cv b, xs = [.ref e, c] ∧ RelV c cv ∧ (∀ u, RelV c u → u = cv) ∧ H e = some (excO e C) ∧ ExcK X.K C ∧ PySem.W.kitOne X.K (.ref C) cv = some b ∧ Q (.bl b) H) := by
  intro pins s σ H xs us Q I r h
  obtain ⟨e, C, c, cv, b, rfl, rc, hu, he, xk, hk, q⟩ := h
  obtain ⟨u, u', rfl, ru, ru'⟩ := vals2 r
  cases (show u = Value.ref e from ru)
  obtain rfl := hu u' ru'
  have p : HeldX e C s.heap := (show ObjOk X.prog X.w H s.heap e (excO e C) from I.hok e _ he).1
  exact kia_one (kitx_exc xk) I.kIn p hk (fun z => nomatch z) fun tk => ⟨.bl b, H, I.tok tk, rfl, q⟩
end L2


set_option Elab.async false
set_option linter.all false
set_option maxRecDepth 100000
/-! Small words. -/
namespace L2
open PySem PySem.Spec PyProof.Rows
theorem few {xs : List V} (h : xs.length ≤ 15 := by simp) : xs.length ≤ sizeLine := Nat.le_trans h (by decide)
theorem atI_of {α : Type} {xs : List α} {i : Int} {j : Nat} {v : α} (e : i = (j : Int)) (h : xs[j]? = some v) : atI xs i = some v := by subst e; exact atI_nat h
theorem Same.upd {H H' : Hp} {p : Addr} {o : HO} (s : Same H H') (h : H p = none) : Same H (L2.upd H' p o) := fun b u e => by rw [upd_ne (ne_of_none e h)]; exact s b u e
theorem Same.new {H H' : Hp} {p : Addr} {o : HO} (s : Same H H') (h : H' p = none) : Same H (L2.upd H' p o) := s.upd (s.free h)
/-! ### a word between two statements -/
def tCut (t : TS) : TS := fun D σ H => ∃ J : St → Hp → Prop, t { D with nx := J } σ H ∧ ∀ σ' H', J σ' H' → D.nx σ' H'
theorem SP.nx {X : Cx} {pins : List (Addr × Obj)} {D : Ends} {J : St → Hp → Prop} {f : Flow} {s : Shared} (hJ : ∀ σ' H', J σ' H' → D.nx σ' H') (h : SP X pins { D with nx := J } f s) : SP X pins D f s := by
  cases f with
  | next => obtain ⟨σ, H, I, q⟩ := h; exact ⟨σ, H, I, hJ _ _ q⟩
  | brk => exact h
  | cont => exact h
  | ret u => exact h
theorem ps_cut {X : Cx} {st : Stmt} {t : TS} (h : PS X st t) : PS X st (tCut t) := fun pins s σ H D I ⟨J, h1, h2⟩ => thn (h pins s σ H _ I h1) fun f s' q => SP.nx h2 q
theorem atI_some {α : Type} {xs : List α} {i : Int} (h0 : 0 ≤ i) (h : i < (xs.length : Int)) : ∃ v, atI xs i = some v ∧ xs[i.toNat]? = some v := by
  have hi : i.toNat < xs.length := by omega
  exact ⟨xs[i.toNat], atI_of (j := i.toNat) (by omega) (List.getElem?_eq_getElem hi), List.getElem?_eq_getElem hi⟩
theorem iteF' {b : Bool} {A B : Prop} (e : b = false) (h : B) : if b = true then A else B := by subst e; exact iteF h
theorem iteT' {b : Bool} {A B : Prop} (e : b = true) (h : A) : if b = true then A else B := by subst e; exact iteT h
theorem mod_lt (a b : Int) (h : 0 < b) : 0 ≤ a % b ∧ a % b < b := ⟨Int.emod_nonneg a (by omega), Int.emod_lt_of_pos a h⟩
abbrev txts (l : List Str) : List V := l.map V.str
theorem txts_snoc (xs : List Str) (x : Str) : txts xs ++ [V.str x] = txts (xs ++ [x]) := by unfold txts; rw [List.map_append]; rfl
theorem of_strs {l : List Str} {j : Nat} {v : V} (h : (txts l)[j]? = some v) : ∃ x, l[j]? = some x ∧ v = V.str x := by
  rw [List.getElem?_map] at h
  cases e : l[j]? with
  | none => rw [e] at h; cases h
  | some x => rw [e] at h; cases h; exact ⟨x, rfl, rfl⟩
theorem hud {A : Around} {k : Nat} (hr : Room k A) {n : Nat} (h : n ≤ 60 := by decide) : A.units + n + 1 < cLine := by have := hr.units; omega
theorem look_new {H : Hp} {a q : Addr} {o u : HO} (hq : H q = none) (h : H a = some o) : upd H q u a = some o := by rw [upd_ne (ne_of_none h hq)]; exact h
theorem Same.get {H H' : Hp} {a : Addr} {o : HO} (s : Same H H') (h : H a = some o) : H' a = some o := s a o h
end L2


set_option Elab.async false
set_option linter.all false
set_option maxRecDepth 100000
/-! More rules: a text's signs, slices of texts, reversed lists, numbers in f-strings. -/
namespace L2
open PySem PySem.Spec PyProof.Rows
section
variable {X : Cx} {tg : Expr}
/-! ### the signs of a text -/
def ItT (x : Str) : It := ⟨fun i _ => i < x.length, fun i H v H' => H' = H ∧ ∃ c, x.cps[i]? = some c ∧ v = .str ⟨#[c]⟩, fun i _ => i = x.length⟩
theorem turn_text {P : Program} {w : World} {K : PySem.W.Frag} (it : Addr) (ty : String) (x : Str) (t : Tok) (hty : ["enumerate", "zip", "dict_itemiterator", "dict_reverseitemiterator", "odict_iterator", "itertools.zip_longest", "itertools.pairwise"].contains ty = false)
    (W : ∀ A : Around, A.handled = none → Walks P w A it [it] [it] x.cps.size (SignAt x) (fun i h => h.IsStrIter it ty x t i))
    (self : ∀ (A : Around) (i : Nat) (s : Shared) (Q : Value → Shared → Prop) (E : Value → Shared → Prop), s.heap.IsStrIter it ty x t i → Q (.ref it) s → wpAny (model P w) A (pyIter (.ref it)) Q E s) : Turn P w K tg (ItT x) [it] it (fun i h => h.IsStrIter it ty x t i) where
  mem := by simp
  obj := fun i h st b hb => by
    have e : b = it := by simpa using hb
    subst e
    obtain ⟨o, e, c, d⟩ := st
    exact ⟨o, e, fun v z => by rw [d] at z; cases z⟩
  keep := fun i h h' ⟨o, ho, r⟩ k => ⟨o, k it (by simp) o ho, r⟩
  item := by
    intro X hP hw hK hc i pins s σ H E I hf st hg
    subst hP hw hK
    obtain ⟨f0, f1, f2, f3, f4, f5⟩ := hf it (by simp)
    refine (W X.A (I.ok.hd hc)).item i s _ _ hg st fun v h' tk hv st' kk => ?_
    obtain ⟨c, t', hc', rfl⟩ := hv
    have I1 : Inv X pins σ H { s with heap := h', toks := tk } := I.turned (fun b o hb e => kk b o (by simpa using hb) e) f0 f1 f3 f4 f5
    obtain ⟨o', e, cc, dd⟩ := id st'
    exact ⟨_, rfl, go_of (s := { s with heap := h', toks := tk }) e cc dd hty ⟨.str ⟨#[c]⟩, H, I1, ⟨t', rfl⟩, ⟨rfl, c, hc', rfl⟩, st', fun b hb => (hf b hb).1⟩⟩
  done := by
    intro X hP hw hK hc i pins s σ H E I hf st hg
    subst hP hw hK
    obtain ⟨f0, f1, f2, f3, f4, f5⟩ := hf it (by simp)
    have e : i = x.cps.size := hg
    subst e
    exact (W X.A (I.ok.hd hc)).done s _ _ st fun h' tk kk => ⟨rfl, I.turned (fun b o hb e => kk b o (by simpa using hb) e) f0 f1 f3 f4 f5⟩
  self := self
def iText (te : TE) : TI := fun σ H R => te σ H fun v H1 => ∃ x, v = .str x ∧ R (ItT x) H1
theorem pi_str {l : Expr} {te : TE} (hl : PE X l te) : PI X tg l (iText te) := by
  intro pins s σ H R I h
  refine thn (hl pins s σ H _ I h) fun v s1 ⟨y, H1, I1, r1, x, e, q⟩ => ?_
  subst e
  obtain ⟨t, rfl⟩ := r1
  have fin : ∀ (ty : String) (T : Turn X.prog X.w X.K tg (ItT x) [s1.heap.objs.size] s1.heap.objs.size (fun i h => h.IsStrIter s1.heap.objs.size ty x t i)),
      PIE X pins σ tg R (.ref s1.heap.objs.size) { s1 with heap := s1.heap.push { cls := .type ty, data := .fields #[.str x t, .int 0 0] } } := fun ty T => by
    refine ⟨s1.heap.objs.size, [s1.heap.objs.size], _, _, H1, rfl, I1.kept (t' := s1.toks) fun b o e => Heap.get?_push_of_some _ e, T, ⟨_, Heap.get?_push_size _ rfl, rfl, rfl⟩, fun b hb => ?_, q⟩
    have e : b = s1.heap.objs.size := by simpa using hb
    subst e
    exact I1.fpOk (Nat.le_refl _) (I1.hok.fresh (Nat.le_refl _))
  cases ha : x.cps.all (· < 128)
  · exact wpAny_pyIter_wide ha (fin _ (turn_text _ _ x t (by decide) (fun A hh => Walks.strWide hh _ x t) fun _ _ _ _ _ st h => wpAny_pyIter_striter_wide st h))
  · exact wpAny_pyIter_ascii ha (fin _ (turn_text _ _ x t (by decide) (fun A hh => Walks.strAscii hh _ x t) fun _ _ _ _ _ st h => wpAny_pyIter_striter_ascii st h))
theorem for_text {x : Str} {g : TG} {tb : TS} {D : Ends} {σ : St} {H : Hp} (Pv : Nat → St → Hp → Prop) (h0 : Pv 0 σ H)
    (hs : ∀ i c σ H, x.cps[i]? = some c → Pv i σ H → g (.str ⟨#[c]⟩) σ H fun σ2 H2 => tb { D with nx := Pv (i + 1), ct := Pv (i + 1), bk := D.nx } σ2 H2) (hd : ∀ σ H, Pv x.length σ H → D.nx σ H) :
    ∃ W : Nat → Nat → St → Hp → Prop, (∃ m, W 0 m σ H) ∧ ∀ i m σ H, W i m σ H →
      ((ItT x).stop i H ∧ D.nx σ H) ∨ ((ItT x).go i H ∧ ∃ N : St → Hp → Prop, (∀ σ' H', N σ' H' → ∃ m', m' < m ∧ W (i + 1) m' σ' H') ∧ ∀ v H', (ItT x).yld i H v H' → g v σ H' fun σ2 H2 => tb { D with nx := N, ct := N, bk := D.nx } σ2 H2) := by
  refine ⟨fun i m σ H => m = x.length - i ∧ i ≤ x.length ∧ Pv i σ H, ⟨x.length, by simp, Nat.zero_le _, h0⟩, ?_⟩
  rintro i m σ H ⟨rfl, hi, p⟩
  by_cases hlt : i < x.length
  · refine .inr ⟨hlt, Pv (i + 1), fun σ' H' p' => ⟨x.length - (i + 1), by omega, rfl, hlt, p'⟩, fun v H' y => ?_⟩
    obtain ⟨e, c, hc, rfl⟩ := y
    subst e
    exact hs i c σ _ hc p
  · have e : i = x.length := by omega
    subst e
    exact .inl ⟨rfl, hd σ H p⟩
/-! ### slices of a text -/
def rSlS : V → Option Int → Option Int → Hp → VK → Prop := fun v lo hi H Q => ∃ x, v = .str x ∧ x.length ≤ sizeLine ∧ Q (.str (Txt.slice x lo hi)) H
theorem part_of {v : Value} {lo : Option Int} (p : IsPart v lo) : ∃ q : Option (Int × Tok), v = partValue q ∧ q.map (·.1) = lo := by
  cases p with
  | none => exact ⟨none, rfl, rfl⟩
  | int i t => exact ⟨some (i, t), rfl, rfl⟩
theorem sl_str : SlR X rSlS := by
  intro pins s σ H v u vl vu lo hi sl Q I rx hs pl pu h
  obtain ⟨x, rfl, hz, q⟩ := h
  obtain ⟨t, rfl⟩ := rx
  obtain ⟨ql, rfl, el⟩ := part_of pl
  obtain ⟨qu, rfl, eu⟩ := part_of pu
  refine ⟨"str", _, F.slot_str_getitem.lookup, typeIs_str s x t, ?_⟩
  refine wpAny_getItem_str_slice (l := ql) (u := qu) (st := none) hs (by decide) ?_
  unfold sliceMade slicePicked
  simp only [Option.map_none, Option.getD_none]
  have hle := Txt.slice_le x lo hi
  unfold Txt.slice at q hle
  rw [el, eu]
  split
  · rename_i hc
    rw [if_pos hc] at q
    exact ⟨.str x, H, I, ⟨t, rfl⟩, q⟩
  · rename_i hc
    rw [if_neg hc] at q hle
    exact ⟨Nat.le_trans hle hz, .str _, H, I.tok _, ⟨_, rfl⟩, q⟩
/-! ### a number in an f-string -/
def tFi (te : TE) : TE := fun σ H Q => te σ H fun v H1 => ∃ i : Int, v = .int i ∧ i.natAbs.log2 < 1920 ∧ Q (.str (toString i)) H1
theorem pe_fvi {e : Expr} {te : TE} {pos : Pos} (he : PE X e te) : PE X (.FormattedValue e (-1) none pos) (tFi te) := by
  intro pins s σ H Q I h
  refine FormattedValue_plain (thn (he pins s σ H _ I h) fun u s1 ⟨v, H1, I1, r1, i, ev, hy, q⟩ => ?_)
  subst ev
  obtain ⟨t', rfl⟩ := r1
  exact formatField_int_small hy ⟨.str (toString i), H1, I1.tok _, ⟨_, rfl⟩, q⟩
/-! ### tests of a comprehension that the proof never comes to -/
def tNot0 : TT := fun _ _ _ => False
theorem pq_never {ifs : List Expr} : PQs X ifs tNot0 := fun _ _ _ _ _ _ h => h.elim
def tEno : TE := fun _ _ _ => False
theorem pe_never {e : Expr} : PE X e tEno := fun _ _ _ _ _ _ h => h.elim
end
end L2


set_option Elab.async false
set_option linter.all false
set_option maxRecDepth 100000
/-! A list from behind: for x in reversed(xs), list(reversed(xs)). -/
namespace L2
open PySem PySem.Spec PyProof.Rows
theorem EqV.bl_of {K : PySem.W.Frag} {H : Hp} {n : Nat} (p q : Bool) : EqV K H n (.bl p) (.bl q) (decide (p = q)) := by
  have : eqV (.bl p) (.bl q) = decide (p = q) := by cases p <;> cases q <;> rfl
  rw [← this]
  exact .flat rfl rfl
section
variable {X : Cx} {tg : Expr}
def ItRv (K : PySem.W.Frag) (a : Addr) (n : Nat) : It :=
  ⟨fun i H => i < n ∧ ∃ xs, SqL K H a xs ∧ xs.length = n, fun i H x H' => H' = H ∧ ∀ xs, SqL K H a xs → xs[n - 1 - i]? = some x, fun i _ => i = n⟩
theorem turn_rev {P : Program} {w : World} {K : PySem.W.Frag} (a it : Addr) (n : Nat) : Turn P w K tg (ItRv K a n) [it] it (fun i h => h.IsRevIter it a ((n : Int) - 1 - (i : Nat))) where
  mem := by simp
  obj := fun i h st b hb => by
    have e : b = it := by simpa using hb
    subst e
    obtain ⟨o, e, c, d⟩ := st
    exact ⟨o, e, fun v z => by rw [d] at z; cases z⟩
  keep := fun i h h' st k => st.at fun o e => k it (by simp) o e
  item := by
    intro X hP hw hK hc i pins s σ H E I hf st hg
    subst hP hw hK
    obtain ⟨hi, xs, hq, hl⟩ := hg
    obtain ⟨its, rv, p, hz⟩ := I.list hq
    have hx : xs[n - 1 - i]? = some xs[n - 1 - i] := List.getElem?_eq_getElem (by omega)
    obtain ⟨u, hu, ru⟩ := rv.get hx
    obtain ⟨f0, f1, f2, f3, f4, f5⟩ := hf it (by simp)
    have e1 : (n : Int) - 1 - (i : Nat) = ((n - 1 - i : Nat) : Int) := by omega
    rw [e1] at st
    refine wpAny_pyNext_rev_item st p.isList (x := u) (by simpa using hu) fun h' st' sb => ?_
    have e2 : ((n - 1 - i : Nat) : Int) - 1 = (n : Int) - 1 - ((i + 1 : Nat) : Int) := by omega
    rw [e2] at st'
    have I1 : Inv X pins σ H { s with heap := h' } := I.turned (t' := s.toks) (fun b o hb e => (sb.2 b hb).trans e) f0 f1 f3 f4 f5
    obtain ⟨o, e, c, d⟩ := id st'
    exact ⟨u, rfl, go_of (s := { s with heap := h' }) e c d (by decide) ⟨_, H, I1, ru, ⟨rfl, fun ys hy => by rw [I.list_inj hy hq]; exact hx⟩, st', fun b hb => (hf b hb).1⟩⟩
  done := by
    intro X hP hw hK hc i pins s σ H E I hf st hg
    subst hP hw hK
    have hg : i = n := hg
    subst hg
    obtain ⟨f0, f1, f2, f3, f4, f5⟩ := hf it (by simp)
    have e1 : (i : Int) - 1 - (i : Nat) = -1 := by omega
    rw [e1] at st
    exact wpAny_pyNext_rev_end (I.ok.hd hc) st fun h' eb => ⟨rfl, I.turned (t' := s.toks) (fun b o hb e => eb b o hb e) f0 f1 f3 f4 f5⟩
  self := fun _ _ _ _ _ st h => wpAny_pyIter_revIter st h
def iRevL (K : PySem.W.Frag) (ta : TA) : TI := fun σ H R => ta σ H fun vs H1 => ∃ a xs, vs = [.ref a] ∧ SqL K H1 a xs ∧ R (ItRv K a xs.length) H1
theorem pi_revL {a : Expr} {ta : TA} {p pos : Pos} (hg : Gl X "reversed") (hm : X.mg "reversed" = none) (ha : PA X [a] ta) (hs : starEach [a] X.env = [(false, eval a X.env)] := by rfl) : PI X tg (.Call (.Name "reversed" p) [a] [] pos) (iRevL X.K ta) := by
  intro pins s σ H R I h
  refine Call_ (ld_blt I hg hm boot_reversed (PyProof.Rows.callWith_type1 (thn (ha pos pins s σ H _ I h) fun us s1 ⟨vs, H1, I1, r1, q1⟩ => ?_) hs rfl))
  obtain ⟨l, xs, rfl, hq, q⟩ := q1
  obtain ⟨u, rfl, ru⟩ := vals1 r1
  cases (show u = Value.ref l from ru)
  obtain ⟨its, rv, pp, hz⟩ := I1.list hq
  have hl := rv.length
  refine call_reversed_list pp.isList ?_
  have I2 : Inv X pins σ H1 { s1 with heap := s1.heap.push (revObj l ((its.toArray.size : Int) - 1)) } := I1.kept (t' := s1.toks) fun b o e => Heap.get?_push_of_some _ e
  have st : (s1.heap.push (revObj l ((its.toArray.size : Int) - 1))).IsRevIter s1.heap.objs.size l ((xs.length : Int) - 1 - ((0 : Nat) : Int)) := by
    have e1 : (xs.length : Int) - 1 - ((0 : Nat) : Int) = (its.toArray.size : Int) - 1 := by rw [hl]; simp
    rw [e1]
    exact ⟨_, Heap.get?_push_size _ rfl, rfl, rfl⟩
  refine wpAny_pyIter_revIter st ?_
  refine ⟨s1.heap.objs.size, [s1.heap.objs.size], _, _, H1, rfl, I2, turn_rev l _ xs.length, st, fun b hb => ?_, q⟩
  have e : b = s1.heap.objs.size := by simpa using hb
  subst e
  exact I1.fpOk (Nat.le_refl _) (I1.hok.fresh (Nat.le_refl _))
/-- over a list that the body leaves as it is, from behind -/
theorem for_rev {K : PySem.W.Frag} {a : Addr} {xs : List V} {g : TG} {tb : TS} {D : Ends} {σ : St} {H : Hp} (Pv : Nat → St → Hp → Prop) (h0 : Pv 0 σ H) (hl : ∀ i σ H, i ≤ xs.length → Pv i σ H → SqL K H a xs)
    (hs : ∀ i x σ H, xs.reverse[i]? = some x → Pv i σ H → g x σ H fun σ2 H2 => tb { D with nx := Pv (i + 1), ct := Pv (i + 1), bk := D.nx } σ2 H2) (hd : ∀ σ H, Pv xs.length σ H → D.nx σ H) :
    ∃ W : Nat → Nat → St → Hp → Prop, (∃ m, W 0 m σ H) ∧ ∀ i m σ H, W i m σ H →
      ((ItRv K a xs.length).stop i H ∧ D.nx σ H) ∨ ((ItRv K a xs.length).go i H ∧ ∃ N : St → Hp → Prop, (∀ σ' H', N σ' H' → ∃ m', m' < m ∧ W (i + 1) m' σ' H') ∧ ∀ x H', (ItRv K a xs.length).yld i H x H' → g x σ H' fun σ2 H2 => tb { D with nx := N, ct := N, bk := D.nx } σ2 H2) := by
  refine ⟨fun i m σ H => m = xs.length - i ∧ i ≤ xs.length ∧ Pv i σ H, ⟨xs.length, by simp, Nat.zero_le _, h0⟩, ?_⟩
  rintro i m σ H ⟨rfl, hi, p⟩
  have q := hl i σ H hi p
  by_cases hlt : i < xs.length
  · refine .inr ⟨⟨hlt, xs, q, rfl⟩, Pv (i + 1), fun σ' H' p' => ⟨xs.length - (i + 1), by omega, rfl, hlt, p'⟩, fun x H' y => ?_⟩
    obtain ⟨e, y⟩ := y
    subst e
    refine hs i x σ _ ?_ p
    rw [List.getElem?_reverse hlt]
    exact y xs q
  · have e : i = xs.length := by omega
    subst e
    exact .inl ⟨rfl, hd σ H p⟩
/-! ### list(reversed(xs)) -/
theorem hint_rev {prog : Program} {w : World} {A : Around} {E : Value → Shared → Prop} {s : Shared} {r : Addr} {Q : Bool → Shared → Prop} (hT : s.TypeIs (.ref r) "list_reverseiterator") (h : Q false s) : wpAny (model prog w) A (Builtin.List.listLengthHint (.ref r)) Q E s := by
  have f1 : typeLookup (.type "list_reverseiterator") "__len__" = pure none := by rw [typeLookup_type, builtinLookup_eq_fast]; kernel_rfl
  have f2 : typeLookup (.type "list_reverseiterator") "__length_hint__" = pure (some (.builtin "list_reverseiterator.__length_hint__")) := by rw [typeLookup_type, builtinLookup_eq_fast]; kernel_rfl
  unfold Builtin.List.listLengthHint
  refine wpAny_bind (wpAny_specialOf hT f1 ?_)
  wp_delta
  refine wpAny_ite_split (fun hab => absurd hab (by decide)) (fun _ => ?_)
  refine wpAny_ite_split (fun hab => absurd hab (by decide)) (fun _ => ?_)
  refine wpAny_bind (wpAny_specialOf hT f2 ?_)
  generalize hid : ("list_reverseiterator.__length_hint__" : String) = id0
  wp_delta
  rw [show splitId id0 = some ("list_reverseiterator", "__length_hint__") from by subst hid; decide +kernel]
  subst hid
  refine wpAny_bind (wpAny_isInstance (T := "list_reverseiterator") (b := true) hT (by rw [isSubtype_type]; kernel_rfl) ?_)
  refine wpAny_ite_split (fun hab => absurd hab (by decide)) (fun _ => ?_)
  refine wpAny_ite_split (fun _ => ?_) (fun hab => absurd (by decide +kernel) hab)
  refine wpAny_ite_split (fun hab => absurd hab (by decide)) (fun _ => ?_)
  exact wpAny_pure h
/-- an iterator r that hands on n things; it is its own iterator -/
theorem list_iter {prog : Program} {w : World} {A : Around} {E : Value → Shared → Prop} {s : Shared} {T : String} {r d : Addr} {n : Nat} {P : Nat → Value → Prop} {St : Nat → Heap → Prop} {Q : Value → Shared → Prop}
    (W : Walks prog w A.in1.in1 r [r, d] [r] n P St) (hT : ∀ h : Heap, St 0 h → ∃ o, h.get? r = some o ∧ o.cls = .type T) (hl : (Value.type T == Value.type "list") = false) (ht : (Value.type T == Value.type "tuple") = false)
    (hint : ∀ (A : Around) (E : Value → Shared → Prop) (s : Shared) (Q : Bool → Shared → Prop), St 0 s.heap → Q false s → wpAny (model prog w) A (Builtin.List.listLengthHint (.ref r)) Q E s)
    (self : ∀ (A : Around) (E : Value → Shared → Prop) (s : Shared) (Q : Value → Shared → Prop), St 0 s.heap → Q (.ref r) s → wpAny (model prog w) A (pyIter (.ref r)) Q E s)
    (hd : d < s.heap.objs.size) (st : St 0 s.heap) (hn : n ≤ sizeLine)
    (hQ : ∀ h' tk acc' c', (∀ b o, b ≠ r → s.heap.get? b = some o → h'.get? b = some o) → h'.get? s.heap.objs.size = some { cls := .type "list", dict := none, data := .seq acc' c', slots := #[] } → ItemsOf P acc' n → Q (.ref s.heap.objs.size) { s with heap := h', toks := tk }) :
    wpAny (model prog w) A (call (.type "list") [.ref r]) Q E s := by
  obtain ⟨or, hor, hcr⟩ := hT _ st
  have hrl : r < s.heap.objs.size := Heap.lt_size hor
  refine callType_codes (Q₁ := fun obj s₁ => obj = .ref s.heap.objs.size ∧ s₁ = { s with heap := s.heap.push { cls := .type "list", data := .seq #[] } }) PySem.F.called_list (PySem.F.typeCall_list_1 _) PySem.F.entry_list_init
    (code_list_new _ ⟨rfl, rfl⟩) fun obj s₁ h₁ => ?_
  obtain ⟨rfl, rfl⟩ := h₁
  have hS : (s.heap.push { cls := .type "list", data := .seq #[] }).get? s.heap.objs.size = some { cls := .type "list", data := .seq #[] } := Heap.get?_push_size _ rfl
  have hSr : s.heap.objs.size ≠ r := Nat.ne_of_gt hrl
  have hSd : s.heap.objs.size ≠ d := Nat.ne_of_gt hd
  refine ⟨⟨_, hS, rfl⟩, PySem.F.args_list_init_2 _ _, ?_⟩
  show wpAny _ _ (do let old ← Builtin.List.listItems (.ref s.heap.objs.size); Builtin.List.listUpdate (.ref s.heap.objs.size) (fun _ => #[]); letGo old.toList.reverse; Builtin.List.listExtendWith (.ref s.heap.objs.size) (.ref r) .none) _ _ _
  refine wpAny_bind ?_
  unfold Builtin.List.listItems
  refine wpAny_bind (wpAny_seqItems hS rfl (wpAny_pure ?_))
  show wpAny _ _ (updateSeq s.heap.objs.size (fun _ => #[]) >>= fun _ => letGo (#[] : Array Value).toList.reverse >>= fun _ => Builtin.List.listExtendWith (.ref s.heap.objs.size) (.ref r) .none) _ _ _
  refine wpAny_bind (wpAny_updateSeq hS rfl ?_)
  have hS₂ := Heap.get?_update_self (Obj.mapSeq (fun _ => (#[] : Array Value))) hS rfl
  have oth : ∀ b o, s.heap.get? b = some o → ((s.heap.push { cls := .type "list", data := .seq #[] }).update s.heap.objs.size (Obj.mapSeq (fun _ => (#[] : Array Value)))).get? b = some o :=
    fun b o e => (Heap.get?_update_other _ _ (Nat.ne_of_gt (Heap.lt_size e))).trans (Heap.get?_push_of_some _ e)
  refine wpAny_bind (wpAny_letGo ?_)
  generalize (s.heap.push { cls := .type "list", data := .seq #[] }).update s.heap.objs.size (Obj.mapSeq (fun _ => (#[] : Array Value))) = h2 at hS₂ oth
  have st2 : St 0 h2 := W.frame 0 _ _ st fun b _ o e => oth b o e
  have key : ∀ (h : Heap) (c₁ tk : Nat), St 0 h → (∀ b o, s.heap.get? b = some o → h.get? b = some o) →
      h.get? s.heap.objs.size = some { cls := .type "list", data := .seq #[] c₁ } → codeAny (model prog w) A.in1 (.builtin "list.extend.loop" ⟨[.ref s.heap.objs.size, .ref r, .none], []⟩)
        (fun r s' => match r with | .ok (.ret v) => v = .none ∧ Q (.ref s.heap.objs.size) s' | .ok _ => False | .error e => E e s') { s with heap := h, toks := tk } := by
    intro h c₁ tk hst hk hS₁
    refine codeAny_extend_loopS W.toS hn s.heap.objs.size (by simp only [List.mem_cons, List.not_mem_nil, or_false, not_or]; exact ⟨hSr, hSd⟩) .none n 0 _ #[] c₁ rfl (Nat.zero_le _) hst hS₁ (ItemsOf.nil _) fun s' acc' c' hm hS' hacc => ?_
    rw [Moved.eq_with hm]
    refine ⟨rfl, hQ s'.heap s'.toks acc' c' (fun b o hb e => hm.heap b o (fun hmem => ?_) (hk b o e)) hS' hacc⟩
    rcases List.mem_cons.mp hmem with e' | hmem
    · exact absurd (Heap.lt_size e) (by rw [e']; exact Nat.lt_irrefl _)
    · exact hb (List.mem_singleton.mp hmem)
  unfold Builtin.List.listExtendWith
  refine wpAny_bind (wpAny_typeOf (T := T) (hT _ st2) ?_)
  have h1 : Builtin.List.listSameRef (.ref s.heap.objs.size) (.ref r) = false := by simp [Builtin.List.listSameRef, hSr]
  simp only [h1, hl, ht, Bool.or_false, Bool.false_eq_true, if_false]
  refine wpAny_bind (self _ _ _ _ st2 ?_)
  refine wpAny_bind (wpAny_holding (hint _ _ _ _ st2 ?_))
  refine wpAny_ite_split (fun _ => ?_) (fun _ => wpAny_pure ⟨plainId_quiet PySem.F.plain_extend_loop _, key _ _ _ st2 oth hS₂⟩)
  refine wpAny_bind (wpAny_rule ?_)
  refine wpAny_bind ?_
  show wpAny _ _ (updateSeq s.heap.objs.size (·.push .none) >>= fun _ => updateSeq s.heap.objs.size (·.pop)) _ _ _
  refine wpAny_bind (wpAny_updateSeq hS₂ rfl ?_)
  have hS₃ := Heap.get?_update_self (Obj.mapSeq (·.push Value.none)) hS₂ rfl
  refine wpAny_updateSeq (hz := by seq_fits) hS₃ rfl ?_
  have hS₄ := Heap.get?_update_self (Obj.mapSeq (·.pop)) hS₃ rfl
  have oth2 : ∀ b o, b ≠ s.heap.objs.size → h2.get? b = some o → ((h2.update s.heap.objs.size (Obj.mapSeq (·.push Value.none))).update s.heap.objs.size (Obj.mapSeq (·.pop))).get? b = some o := fun b o hb e =>
    (Heap.get?_update_other _ _ (Ne.symm hb)).trans ((Heap.get?_update_other _ _ (Ne.symm hb)).trans e)
  refine wpAny_pure ⟨plainId_quiet PySem.F.plain_extend_loop _, key _ _ _ (W.frame 0 _ _ st2 fun b hb o e => oth2 b o (fun z => ?_) e) (fun b o e => oth2 b o (Nat.ne_of_lt (Heap.lt_size e)) (oth b o e)) hS₄⟩
  subst z
  simp only [List.mem_cons, List.not_mem_nil, or_false] at hb
  rcases hb with z | z
  · exact hSr z
  · exact hSd z
def tListRev (K : PySem.W.Frag) (ta : TA) : TE := fun σ H Q => ta σ H fun vs H1 => ∃ a xs, vs = [.ref a] ∧ SqL K H1 a xs ∧ ∀ p, H1 p = none → Q (.ref p) (upd H1 p (.lst xs.reverse))
theorem pe_listrev {a : Expr} {ta : TA} {p1 p2 pos1 pos2 : Pos} (hc : X.calm = true) (hg1 : Gl X "list") (hm1 : X.mg "list" = none) (hg : Gl X "reversed") (hm : X.mg "reversed" = none) (ha : PA X [a] ta) (hs : starEach [a] X.env = [(false, eval a X.env)] := by rfl)
    (hs1 : starEach [.Call (.Name "reversed" p2) [a] [] pos2] X.env = [(false, eval (.Call (.Name "reversed" p2) [a] [] pos2) X.env)] := by rfl) : PE X (.Call (.Name "list" p1) [.Call (.Name "reversed" p2) [a] [] pos2] [] pos1) (tListRev X.K ta) := by
  intro pins s σ H Q I h
  refine Call_ (ld_blt I hg1 hm1 boot_list (PyProof.Rows.callWith_type1 ?_ hs1 rfl))
  rw [hs1]
  refine Calls.spliced_cons ?_
  refine Call_ (ld_blt I hg hm boot_reversed (PyProof.Rows.callWith_type1 (thn (ha pos2 pins s σ H _ I h) fun us s1 ⟨vs, H1, I1, r1, q1⟩ => ?_) hs rfl))
  obtain ⟨l, xs, rfl, hq, q⟩ := q1
  obtain ⟨u, rfl, ru⟩ := vals1 r1
  cases (show u = Value.ref l from ru)
  obtain ⟨its, rv, pp, hz⟩ := I1.list hq
  have hl := rv.length
  refine call_reversed_list pp.isList (Calls.spliced_nil ?_)
  have hlt : l < s1.heap.objs.size := let ⟨o, ho, _⟩ := pp.isList; Heap.lt_size ho
  have hL : (s1.heap.push (revObj l ((its.toArray.size : Int) - 1))).IsList l its.toArray := pp.isList.at fun o e => Heap.get?_push_of_some _ e
  refine list_iter (s := { s1 with heap := s1.heap.push (revObj l ((its.toArray.size : Int) - 1)) }) (T := "list_reverseiterator") (d := l) (n := its.toArray.size) (Walks.listRev (prog := X.prog) (w := X.w) (A := X.A.in1.in1) (show X.A.in1.in1.handled = none from I.ok.hd hc) s1.heap.objs.size l (Nat.ne_of_lt hlt) its.toArray) (fun h ⟨_, ⟨o, ho, hc', _⟩, _⟩ => ⟨o, ho, hc'⟩) (by decide) (by decide)
    (fun A E s Q ⟨_, ⟨o, ho, hc', _⟩, _⟩ hq => hint_rev ⟨o, ho, hc'⟩ hq) (fun A E s Q ⟨_, x, _⟩ hq => wpAny_pyIter_revIter x hq) (Nat.lt_of_lt_of_le hlt (by show s1.heap.objs.size ≤ (s1.heap.push _).objs.size; rw [Heap.size_push]; exact Nat.le_succ _))
    ⟨Nat.zero_le _, by have e : (its.toArray.size : Int) - 1 - ((0 : Nat) : Int) = (its.toArray.size : Int) - 1 := by omega
                       rw [e]; exact ⟨_, Heap.get?_push_size _ rfl, rfl, rfl⟩, hL⟩ (by rw [List.size_toArray, ← hl]; exact hz) fun h' tk acc c hk hS hacc => ?_
  have hf : H1 (s1.heap.push (revObj l ((its.toArray.size : Int) - 1))).objs.size = none := I1.hok.fresh (by rw [Heap.size_push]; omega)
  have rel : Vals xs.reverse acc.toList := by
    have hsz : acc.toList.length = acc.size := Array.length_toList
    refine paired_of (by rw [List.length_reverse, hsz, hacc.1, List.size_toArray, hl]) fun i x y hx hy => ?_
    have hi : i < xs.length := by have := (List.getElem?_eq_some_iff.mp hx).1; rwa [List.length_reverse] at this
    have z := hacc.2 i y (by rw [← Array.getElem?_toList]; exact hy)
    rw [List.getElem?_reverse hi] at hx
    obtain ⟨w, hw, rw'⟩ := rv.get hx
    rw [List.size_toArray, ← hl] at z
    have z2 : its[xs.length - 1 - i]? = some y := by simpa using z
    rw [hw] at z2
    cases z2
    exact rw'
  refine ⟨.ref _, upd H1 _ (.lst xs.reverse), I1.laid (t' := tk) (h' := h') (fun b o e => hk b o (Nat.ne_of_lt (Heap.lt_size e)) (Heap.get?_push_of_some _ e)) (by rw [Heap.size_push]; omega) ?_, rfl, q _ hf⟩
  exact ⟨by rw [List.length_reverse]; exact hz, acc.toList, c, rel, by rw [Array.toArray_toList]; exact hS⟩
end
end L2


set_option Elab.async false
set_option linter.all false
set_option maxRecDepth 100000
/-! One sign in a text. -/
namespace L2
open PySem PySem.Builtin.Str
theorem subAt_one (s : Str) (c i : Nat) : subAt s ⟨#[c]⟩ i = decide (s.cps[i]? = some c) := by
  unfold subAt
  show (s.cps.extract i (i + 1) == #[c]) = _
  rw [Bool.eq_iff_iff]
  simp only [beq_iff_eq, decide_eq_true_eq]
  by_cases h : i < s.cps.size
  · have e : s.cps.extract i (i + 1) = #[s.cps[i]] := by
      apply Array.ext
      · simp; omega
      · intro j h1 h2
        simp at h2
        subst h2
        simp
    rw [e, Array.getElem?_eq_getElem h]
    constructor
    · intro z; simpa using z
    · intro z; simpa using z
  · have e : s.cps.extract i (i + 1) = #[] := by
      apply Array.ext
      · simp; omega
      · intro j h1 h2; simp at h2
    rw [e, Array.getElem?_eq_none (by omega)]
    simp
def occStep (s sub : Str) (hi : Nat) (p : Array Nat × Nat) (i : Nat) : Array Nat × Nat :=
  if (decide (p.1.size < 1) && decide (p.2 ≤ i) && decide (i + sub.length ≤ hi) && subAt s sub i) = true then (p.1.push i, i + sub.length) else p
theorem occ_fold (s sub : Str) (lo hi : Nat) : occurrences s sub lo hi 1 = ((List.range' lo (hi + 1 - lo)).foldl (occStep s sub hi) (#[], lo)).1.toList := by
  unfold occurrences
  simp only [Std.Legacy.Range.forIn_eq_forIn_range', Std.Legacy.Range.size]
  rw [show (hi + 1 - lo + 1 - 1) / 1 = hi + 1 - lo by omega]
  generalize List.range' lo (hi + 1 - lo) = l
  generalize ((#[], lo) : Array Nat × Nat) = p
  show Id.run (forIn l p _ >>= _) = _
  have go : ∀ (l : List Nat) (p : Array Nat × Nat), (forIn l p (fun (i : Nat) (q : Array Nat × Nat) => (if (decide (q.fst.size < 1) && decide (q.snd ≤ i) && decide (i + sub.length ≤ hi) && subAt s sub i) = true then
      pure (ForInStep.yield (q.fst.push i, i + sub.length)) else pure (ForInStep.yield (q.fst, q.snd)) : Id (ForInStep (Array Nat × Nat)))) : Id (Array Nat × Nat)) = l.foldl (occStep s sub hi) p := by
    intro l
    induction l with
    | nil => intro p; rfl
    | cons a r ih =>
      intro p
      rw [List.forIn_cons, List.foldl_cons]
      unfold occStep
      split
      · exact ih _
      · exact ih _
  rw [go]
  rfl
theorem occ_one (s : Str) (c : Nat) : (occurrences s ⟨#[c]⟩ 0 s.length 1).isEmpty = decide (c ∉ s.cps.toList) := by
  rw [occ_fold]
  have inv : ∀ (l : List Nat) (p : Array Nat × Nat), (p.1 = #[] → p.2 = 0) → ((l.foldl (occStep s ⟨#[c]⟩ s.length) p).1 = #[] ↔ p.1 = #[] ∧ ∀ i ∈ l, ¬ (i + 1 ≤ s.length ∧ s.cps[i]? = some c)) := by
    intro l
    induction l with
    | nil => intro p _; simp
    | cons a r ih =>
      intro p hp
      rw [List.foldl_cons]
      by_cases hc : (decide (p.1.size < 1) && decide (p.2 ≤ a) && decide (a + (⟨#[c]⟩ : Str).length ≤ s.length) && subAt s ⟨#[c]⟩ a) = true
      · have e : occStep s ⟨#[c]⟩ s.length p a = (p.1.push a, a + (⟨#[c]⟩ : Str).length) := if_pos hc
        rw [e, ih _ (fun z => by simp at z)]
        simp only [Bool.and_eq_true, decide_eq_true_eq, subAt_one] at hc
        constructor
        · rintro ⟨z, _⟩; simp at z
        · rintro ⟨z, h⟩
          exact absurd ⟨hc.1.2, hc.2⟩ (h a List.mem_cons_self)
      · have e : occStep s ⟨#[c]⟩ s.length p a = p := if_neg hc
        rw [e, ih _ hp]
        constructor
        · rintro ⟨z, h⟩
          refine ⟨z, fun i hi => ?_⟩
          rcases List.mem_cons.mp hi with rfl | hi
          · intro ⟨h1, h2⟩
            apply hc
            simp only [Bool.and_eq_true, decide_eq_true_eq, subAt_one]
            exact ⟨⟨⟨by rw [z]; decide, by rw [hp z]; exact Nat.zero_le _⟩, h1⟩, h2⟩
          · exact h i hi
        · rintro ⟨z, h⟩
          exact ⟨z, fun i hi => h i (List.mem_cons_of_mem _ hi)⟩
  have h := inv (List.range' 0 (s.length + 1 - 0)) (#[], 0) (fun _ => rfl)
  rw [Bool.eq_iff_iff, decide_eq_true_eq, List.isEmpty_iff]
  rw [show (List.foldl (occStep s ⟨#[c]⟩ s.length) (#[], 0) (List.range' 0 (s.length + 1 - 0))).1.toList = [] ↔ (List.foldl (occStep s ⟨#[c]⟩ s.length) (#[], 0) (List.range' 0 (s.length + 1 - 0))).1 = #[] from ⟨fun z => by simpa using z, fun z => by rw [z]⟩, h]
  constructor
  · rintro ⟨_, h⟩ hm
    obtain ⟨i, hi, e⟩ := List.mem_iff_getElem.mp hm
    have hi' : i < s.cps.size := by simpa using hi
    refine h i (by rw [List.mem_range'_1]; show 0 ≤ i ∧ i < 0 + (s.cps.size + 1 - 0); omega) ⟨hi', ?_⟩
    rw [Array.getElem?_eq_getElem hi']
    simpa using e
  · intro hn
    refine ⟨rfl, fun i _ ⟨_, h2⟩ => hn ?_⟩
    exact List.mem_of_getElem? (i := i) (by rw [Array.getElem?_toList]; exact h2)
end L2


set_option Elab.async false
set_option linter.all false
set_option maxRecDepth 100000
/-! sorted(set([])). -/
namespace L2
open PySem PySem.Spec PyProof.Rows
theorem entry_set_iter : entryFor table "set.__iter__" = some Builtin.«frozenset.__iter__» := entryFor_alias (id' := "frozenset.__iter__") (by kernel_rfl) rfl (by decide +kernel) (by kernel_rfl)
theorem args_set_iter (a : Value) : argsOk "set.__iter__" ⟨[a], []⟩ := by unfold argsOk; kernel_rfl
theorem slot_sit_next : Slot "set_iterator" "__next__" "set_iterator.__next__" :=
  .of (owner := "set_iterator") (n := "__next__") (by rw [typeLookup_type, builtinLookup_eq_fast]; kernel_rfl) (by decide +kernel) (by decide +kernel) (by decide +kernel)
    (by first | exact .inl (by decide +kernel) | exact .inr (by decide +kernel)) (by rw [isSubtype_type]; kernel_rfl)
theorem slot_sit_iter : Slot "set_iterator" "__iter__" "set_iterator.__iter__" :=
  .of (owner := "set_iterator") (n := "__iter__") (by rw [typeLookup_type, builtinLookup_eq_fast]; kernel_rfl) (by decide +kernel) (by decide +kernel) (by decide +kernel)
    (by first | exact .inl (by decide +kernel) | exact .inr (by decide +kernel)) (by rw [isSubtype_type]; kernel_rfl)
theorem entry_sit_next : entryFor table "set_iterator.__next__" = some Builtin.«set_iterator.__next__» := entryFor_of_tree (by kernel_rfl)
theorem args_sit_next (a : Value) : argsOk "set_iterator.__next__" ⟨[a], []⟩ := by unfold argsOk; kernel_rfl
theorem entry_sit_iter : entryFor table "set_iterator.__iter__" = some Builtin.«dict_keyiterator.__iter__» := entryFor_alias (id' := "dict_keyiterator.__iter__") (by kernel_rfl) rfl (by decide +kernel) (by kernel_rfl)
theorem args_sit_iter (a : Value) : argsOk "set_iterator.__iter__" ⟨[a], []⟩ := by unfold argsOk; kernel_rfl
def Set0 (h : Heap) (a : Addr) (ep : Nat) : Prop := ∃ o t, h.get? a = some o ∧ o.ExactSet ∧ o.data = .set #[] ep t ∧ t.fits 0 = true
section
variable {prog : Program} {w : World} {A : Around} {E : Value → Shared → Prop} {s : Shared}
theorem iter_set0 {a : Addr} {ep : Nat} {Q : Value → Shared → Prop} (h0 : Set0 s.heap a ep)
    (hQ : Q (.ref s.heap.objs.size) { s with heap := s.heap.push { cls := .type "set_iterator", data := .fields #[.int 0 0, .int 0 0, .ref a, .int 0 0, .int ep 0] } }) : wpAny (model prog w) A (pyIter (.ref a)) Q E s := by
  obtain ⟨o, t, ho, hx, hd, hf⟩ := h0
  have hT : s.TypeIs (.ref a) "set" := ⟨o, ho, hx.1⟩
  refine wpAny_pyIter_slot hT PySem.F.slot_set_iter (wpAny_call_entry PySem.F.slot_set_iter hT entry_set_iter ?_ (args_set_iter _))
  unfold Builtin.«frozenset.__iter__»
  have S : ∀ {A : Around} {Q : (Array (Int × Value) × Nat × SetTable) → Shared → Prop} {E : Value → Shared → Prop}, Q (#[], ep, t) s → wpAny (model prog w) A (setState a) Q E s := fun h => wpAny_setState_of ho hd hf h
  refine wpAny_bind (wpAny_pure ?_)
  refine wpAny_bind (wpAny_bind (wpAny_bind (S (wpAny_pure (wpAny_pure ?_)))))
  refine wpAny_bind (wpAny_bind (S ?_))
  dsimp only
  unfold setsByText
  refine wpAny_bind (wpAny_bind (wpAny_askSetting (wpAny_pure (wpAny_pure ?_))))
  refine wpAny_ite_split (fun h => ?_) (fun _ => ?_)
  · rw [Bool.and_eq_true] at h
    have h2 : (!t.plain && decide ((#[] : Array (Int × Value)).size > 1)) = true := h.2
    simp at h2
  · refine wpAny_bind (wpAny_pure (wpAny_bind (wpAny_bind (S (wpAny_pure ?_)))))
    refine wpAny_bind (wpAny_newObj_type (wpAny_pure ⟨_, rfl, "set_iterator", _, ⟨_, Heap.get?_push_size _ rfl, rfl⟩, slot_sit_next.lookup, hQ⟩))
def SetIt (h : Heap) (it a : Addr) (ep : Nat) : Prop := ∃ o, h.get? it = some o ∧ o.cls = .type "set_iterator" ∧ o.data = .fields #[.int 0 0, .int 0 0, .ref a, .int 0 0, .int ep 0]
theorem next_set0 {it a : Addr} {ep : Nat} {Q : Option Value → Shared → Prop} (hh : A.handled = none) (hit : SetIt s.heap it a ep) (h0 : Set0 s.heap a ep)
    (hQ : ∀ h', Heap.ExtBut it s.heap h' → Q none { s with heap := h' }) : wpAny (model prog w) A (pyNext (.ref it)) Q E s := by
  obtain ⟨oi, hoi, hci, hdi⟩ := hit
  obtain ⟨o, t, ho, hx, hd, hf⟩ := h0
  have hT : s.TypeIs (.ref it) "set_iterator" := ⟨oi, hoi, hci⟩
  have S : ∀ {A : Around} {Q : (Array (Int × Value) × Nat × SetTable) → Shared → Prop} {E : Value → Shared → Prop}, Q (#[], ep, t) s → wpAny (model prog w) A (setState a) Q E s := fun h => wpAny_setState_of ho hd hf h
  unfold pyNext
  refine wpAny_bind (wpAny_attempt (wpAny_callSpecial?_slot (name := Str.ofString "__next__") hT slot_sit_next
    (wpAny_call_entry slot_sit_next hT entry_sit_next ?_ (args_sit_next _))))
  unfold Builtin.«set_iterator.__next__»
  refine wpAny_bind (wpAny_pure ?_)
  refine wpAny_bind (wpAny_fieldsOf hoi hdi ?_)
  dsimp only
  refine wpAny_bind (wpAny_bind (S (wpAny_pure ?_)))
  refine wpAny_ite_split (fun h => absurd h (by show ¬ (((0 : Nat) : Int) != 0) = true; decide)) (fun _ => ?_)
  unfold setNext
  refine wpAny_bind (wpAny_bind (S ?_))
  dsimp only
  have noneAt : ∀ {α : Type} (f : Nat → Nat), (pickOrder f (#[] : Array α))[(0 : Int).toNat]? = none := fun f => rfl
  have fin : wpAny (model prog w) A.in1 (do setField (.ref it) 2 .none; let x ← newExc (.type "StopIteration") []; (raiseNew x : Sem PySem.Fin)) (fun fin s' => ∃ v, fin = Fin.done (Flow.ret v) ∧ wpAny (model prog w) A (pure (some v)) Q E s')
      (fun e s' => wpAny (model prog w) A (do let b ← isInstance e (.type "StopIteration"); if b = true then pure none else throw e) Q E s') s := by
    refine wpAny_bind (wpAny_setField hoi hdi (by simp) ?_)
    refine wpAny_bind ?_
    simp only [newExc, newTuple]
    refine wpAny_bind (wpAny_newObj_type ?_ (by size_fits))
    refine wpAny_bind (m := firstArgMember _ _) (wpAny_of_eq (a := Value.none) (by first | rfl | (simp only [firstArgMember]; rfl)) ?_)
    refine wpAny_newObj_type ?_ (by size_fits)
    simp only [raiseNew]
    refine wpAny_bind (wpAny_handled ?_)
    rw [show A.in1.handled = none from hh]
    refine wpAny_bind (wpAny_pure (wpAny_throw ?_))
    refine wpAny_bind (wpAny_isInstance (T := "StopIteration") (b := true) ⟨_, Heap.get?_push_size _ rfl, rfl⟩ isSubtype_stop ?_)
    exact wpAny_pure (hQ _ (((Heap.SameBut.update ..).extBut.push _).push _))
  have byT : ∀ {A : Around} {Q : Bool → Shared → Prop} {E : Value → Shared → Prop}, Q (w.params.followText "set-order") s → wpAny (model prog w) A setsByText Q E s := fun h => wpAny_bind (wpAny_askSetting (wpAny_pure h))
  refine wpAny_bind (byT ?_)
  refine wpAny_ite_split (fun hb => ?_) (fun hb => ?_)
  · refine wpAny_ite_split (fun h => absurd h (by simp)) (fun _ => ?_)
    unfold setWalk
    refine wpAny_bind (wpAny_bind (S ?_))
    dsimp only
    refine wpAny_bind (byT ?_)
    rw [if_pos hb]
    refine wpAny_bind (wpAny_askSetting (wpAny_pure (wpAny_pure ?_)))
    exact fin
  · refine wpAny_ite_split (fun h => ?_) (fun _ => ?_)
    · have h2 : (!t.plain && decide ((#[] : Array (Int × Value)).size > 1)) = true := h
      simp at h2
    · refine wpAny_bind ?_
      show wpAny _ _ (if (!t.led && !(#[] : Array (Int × Value)).isEmpty) = true then _ else _) _ _ _
      refine wpAny_ite_split (fun h => by simp at h) (fun _ => ?_)
      refine wpAny_pure (wpAny_pure ?_)
      exact fin
theorem hint_set {r : Addr} {Q : Bool → Shared → Prop} (hT : s.TypeIs (.ref r) "set") (h : Q false s) : wpAny (model prog w) A (Builtin.List.listLengthHint (.ref r)) Q E s := by
  unfold Builtin.List.listLengthHint
  refine wpAny_bind (wpAny_specialOf hT PySem.F.slot_set_len.lookup ?_)
  generalize hid : ("set.__len__" : String) = id0
  wp_delta
  rw [show splitId id0 = some ("set", "__len__") from by subst hid; decide +kernel]
  subst hid
  refine wpAny_bind (wpAny_isInstance (T := "set") (b := true) hT (by rw [isSubtype_type]; kernel_rfl) ?_)
  refine wpAny_ite_split (fun hab => absurd hab (by decide)) (fun _ => ?_)
  refine wpAny_ite_split (fun _ => ?_) (fun hab => absurd (by decide +kernel) hab)
  refine wpAny_bind (wpAny_typeOf hT ?_)
  exact wpAny_pure h
theorem Set0.at {h h' : Heap} {a : Addr} {ep : Nat} (x : Set0 h a ep) (k : ∀ o, h.get? a = some o → h'.get? a = some o) : Set0 h' a ep := let ⟨o, t, ho, r⟩ := x; ⟨o, t, k o ho, r⟩
theorem walks_set0 (hh : A.handled = none) (it a : Addr) (ep : Nat) (hne : a ≠ it) : Walks prog w A it [it, a] [it] 0 (fun _ _ => False) (fun i h => SetIt h it a ep ∧ Set0 h a ep) where
  sub := fun b hb => by simp at hb; simp [hb]
  frame := fun _ _ _ st hk => ⟨let ⟨o, ho, r⟩ := st.1; ⟨o, hk it (by simp) o ho, r⟩, st.2.at fun o e => hk a (by simp) o e⟩
  item := fun i s Q E hi st hQ => absurd hi (by omega)
  done := fun s Q E st hQ => next_set0 hh st.1 st.2 fun h' he' => hQ h' s.toks fun b o hb e => he' b o (fun h => hb (by simp [h])) e
  self := fun _ s Q E st hQ => by
    obtain ⟨oi, hoi, hci, _⟩ := st.1
    have hT : s.TypeIs (.ref it) "set_iterator" := ⟨oi, hoi, hci⟩
    refine wpAny_pyIter_slot hT slot_sit_iter (wpAny_call_entry slot_sit_iter hT entry_sit_iter ?_ (args_sit_iter _))
    show wpAny _ _ (ret (.ref it)) _ _ s
    exact wpAny_pure ⟨_, rfl, "set_iterator", _, hT, slot_sit_next.lookup, hQ⟩
theorem kdl_set0 {a : Addr} {ep : Nat} : PySem.W.KdlSrc prog w "set" a a 0 (fun _ _ => False) (fun h => Set0 h a ep) where
  type := fun _ ⟨o, t, ho, hx, _⟩ => ⟨o, ho, hx.1⟩
  there := fun _ ⟨o, t, ho, _⟩ => ⟨Heap.lt_size ho, Heap.lt_size ho⟩
  keep := fun _ _ hm hk => hm.at fun o e => hk a (.inl rfl) o e
  notList := by decide
  notTuple := by decide
  hint := fun _ _ _ _ ⟨o, t, ho, hx, _⟩ hq => hint_set ⟨o, ho, hx.1⟩ hq
  iter := fun _ s hh hm => ⟨_, _, (fun _ _ hq => iter_set0 hm hq), walks_set0 hh _ a ep (by obtain ⟨o, t, ho, _⟩ := hm; exact Nat.ne_of_lt (Heap.lt_size ho)), ⟨⟨_, Heap.get?_push_size _ rfl, rfl, rfl⟩, hm.at fun o e => Heap.get?_push_of_some _ e⟩⟩
theorem collect_set0 {a : Addr} {ep : Nat} {Q : List Value → Shared → Prop} (hh : A.handled = none) (h0 : Set0 s.heap a ep) (hQ : ∀ h' tk, s.heap.objs.size < h'.objs.size → (∀ b o, s.heap.get? b = some o → h'.get? b = some o) → Q [] { s with heap := h', toks := tk }) : wpAny (model prog w) A (collect (.ref a)) Q E s := by
  have hlt : a < s.heap.objs.size := by obtain ⟨o, t, ho, _⟩ := h0; exact Heap.lt_size ho
  unfold collect
  refine wpAny_bind (wpAny_runValue (codeAny_builtin PySem.F.entry_proto_collect ?_))
  rw [Around.under_plainId PySem.F.plain_proto_collect _]
  show wpAny _ A.in1 (newList [] >>= fun l => again (.builtin "list.__iadd__" ⟨[l, .ref a], []⟩)) _ _ s
  refine wpAny_bind (wpAny_newObj_type ?_)
  refine wpAny_pure ⟨plainId_quiet PySem.F.plain_list_iadd _, codeAny_builtin PySem.F.entry_list_iadd ?_⟩
  rw [Around.under_plainId PySem.F.plain_list_iadd _]
  have hS₁ : (s.heap.push { cls := .type "list", data := .seq ([] : List Value).toArray }).get? s.heap.objs.size = some { cls := .type "list", data := .seq ([] : List Value).toArray } := Heap.get?_push_size _ rfl
  show wpAny _ A.in1 (Builtin.List.listExtendWith (.ref s.heap.objs.size) (.ref a) (.ref s.heap.objs.size)) _ _ _
  refine PySem.W.kdl_extend (prog := prog) (w := w) (R := fun r s' => match r with
    | .ok (.ret v) => wpAny (model prog w) A (match v with | .ref a => (do let o ← load a; match o.data with | .seq xs _ => pure xs.toList | _ => unsupported "internal:collect") | _ => unsupported "internal:collect") Q E s'
    | .ok _ => False
    | .error e => E e s') (s := { s with heap := s.heap.push { cls := .type "list", data := .seq ([] : List Value).toArray } }) kdl_set0 hh (h0.at fun o e => Heap.get?_push_of_some _ e) s.heap.objs.size (Nat.ne_of_gt hlt) (Nat.ne_of_gt hlt) (.ref s.heap.objs.size) 0 hS₁ (fun h' tk acc c hk hS' hacc => ?_) (by decide)
  show wpAny _ A (load s.heap.objs.size >>= _) _ _ _
  refine wpAny_bind (wpAny_load hS' ?_)
  have e : acc = #[] := by
    have := hacc.1
    exact Array.eq_empty_of_size_eq_zero this
  subst e
  exact wpAny_pure (hQ h' tk (Heap.lt_size hS') fun b o e => hk b o (Nat.ne_of_lt (Heap.lt_size e)) (Heap.get?_push_of_some _ e))
theorem sorted_set0 {a : Addr} {ep : Nat} {Q : Value → Shared → Prop} (hh : A.handled = none) (h0 : Set0 s.heap a ep)
    (hQ : ∀ (L : Addr) h' tk c, s.heap.objs.size ≤ L → (∀ b o, s.heap.get? b = some o → h'.get? b = some o) → h'.get? L = some { cls := .type "list", data := .seq #[] c } → Q (.ref L) { s with heap := h', toks := tk }) :
    wpAny (model prog w) A (call (.builtin "sorted") [.ref a]) Q E s := by
  refine Calls.call_function_entry kind_sorted plain_sorted entry_sorted (args_sorted1 _) ?_
  unfold Builtin.«sorted»
  refine wpAny_bind (m := checkCount "sorted" 1 1 _) (wpAny_pure ?_)
  refine wpAny_bind (collect_set0 hh h0 fun h1 tk hlt k1 => ?_)
  refine wpAny_bind (wpAny_newList ?_)
  have hoL : (h1.push (seqObj "list" ([] : List Value).toArray 0)).get? h1.objs.size = some (seqObj "list" ([] : List Value).toArray 0) := Heap.get?_push_size _ rfl
  refine wpAny_bind (wpAny_holding (wpAny_call_entry slot_list_sort ⟨_, hoL, rfl⟩ entry_list_sort (list_sort_treeK strKind_oneLt (vs := []) hoL (fun p hp => by simp [pairsOf] at hp) (fun v₁ v₂ rest e => by cases e) (by decide) fun st' a1 a2 => ⟨_, rfl, ?_⟩) (args_list_sort _)))
  obtain ⟨c, hc⟩ := sortedHeap_at (out := Array.map (fun x => x.snd) (arrOf st')) hoL
  have e0 : arrOf st' = #[] := by
    have := a1.size_eq
    exact Array.eq_empty_of_size_eq_zero (by rw [this, pairsOf_size]; rfl)
  rw [e0] at hc ⊢
  rw [show Array.map (fun (x : Keyed) => x.snd) #[] = #[] from by simp] at hc ⊢
  refine wpAny_pure ⟨_, rfl, hQ h1.objs.size _ tk c (Nat.le_of_lt hlt) (fun b o e => ?_) hc⟩
  have hb : b < h1.objs.size := Heap.lt_size (k1 b o e)
  rw [sortedHeap_old (Nat.ne_of_lt hb) (Nat.lt_of_lt_of_le hb (by show h1.objs.size ≤ (h1.push _).objs.size; rw [Heap.size_push]; exact Nat.le_succ _))]
  exact Heap.get?_push_of_some _ (k1 b o e)
end
section
variable {X : Cx}
/-- sorted(set([])) -/
def tSort0 (K : PySem.W.Frag) (ta : TA) : TE := fun σ H Q => ta σ H fun vs H1 => ∃ a, vs = [.ref a] ∧ SqL K H1 a [] ∧ ∀ p, H1 p = none → Q (.ref p) (upd H1 p (.lst []))
theorem pe_sortset0 {a : Expr} {ta : TA} {p1 p2 pos1 pos2 : Pos} (hc : X.calm = true) (hg1 : Gl X "sorted") (hm1 : X.mg "sorted" = none) (hg : Gl X "set") (hm : X.mg "set" = none) (ha : PA X [a] ta) (hs : starEach [a] X.env = [(false, eval a X.env)] := by rfl)
    (hs1 : starEach [.Call (.Name "set" p2) [a] [] pos2] X.env = [(false, eval (.Call (.Name "set" p2) [a] [] pos2) X.env)] := by rfl) : PE X (.Call (.Name "sorted" p1) [.Call (.Name "set" p2) [a] [] pos2] [] pos1) (tSort0 X.K ta) := by
  intro pins s σ H Q I h
  have hh := I.ok.hd hc
  refine Call_ (ld_blt I hg1 hm1 boot_sorted (PyProof.Rows.callWith_builtin1 ?_ hs1 rfl))
  rw [hs1]
  refine Calls.spliced_cons ?_
  refine Call_ (ld_blt I hg hm boot_set (PyProof.Rows.callWith_type1 (thn (ha pos2 pins s σ H _ I h) fun us s1 ⟨vs, H1, I1, r1, q1⟩ => ?_) hs rfl))
  obtain ⟨l, rfl, hq, q⟩ := q1
  obtain ⟨u, rfl, ru⟩ := vals1 r1
  cases (show u = Value.ref l from ru)
  obtain ⟨its, rv, pp, hz⟩ := I1.list hq
  have e0 : its = [] := by
    have := rv.length
    exact List.length_eq_zero_iff.mp this.symm
  subst e0
  refine call_set_list (ns := []) hh pp.isList .nil (by decide) fun h' tk hset hk => Calls.spliced_nil ?_
  obtain ⟨o, es, ep, t, ho, hx, hd, _, _, _, hf, hn⟩ := hset
  have e1 : es = #[] := Array.eq_empty_of_size_eq_zero (by rw [hn]; rfl)
  subst e1
  have k1 : ∀ b o, s1.heap.get? b = some o → h'.get? b = some o := fun b o e => hk b o (Heap.lt_size e) e
  refine sorted_set0 (s := { s1 with heap := h', toks := tk }) hh ⟨o, t, ho, hx, hd, hf⟩ fun L h2 tk2 c hL k2 hLl => ?_
  have hsz : s1.heap.objs.size ≤ L := Nat.le_trans (Nat.le_of_lt (Heap.lt_size ho)) hL
  refine ⟨.ref L, upd H1 L (.lst []), I1.laid (t' := tk2) (h' := h2) (fun b o e => k2 b o (k1 b o e)) hsz ?_, rfl, q _ (I1.hok.fresh hsz)⟩
  exact ⟨by decide, [], c, .nil, hLl⟩
end
end L2


set_option Elab.async false
set_option linter.all false
set_option maxRecDepth 100000
namespace PK
open PySem L2
def top (i : Nat) : Stmt := PySem.Challenge.pw_patchkin_k02_stores_begun.main.body.getD i (.Pass ⟨0, 0, 0, 0⟩)
abbrev s_live_patches : Stmt := top 12
abbrev s_lines_put : Stmt := top 13
abbrev s_standing_lines : Stmt := top 14
abbrev s_files_with_lines : Stmt := top 15
abbrev s_straight_ahead : Stmt := top 16
abbrev s_joined : Stmt := top 17
abbrev s_all_ahead : Stmt := top 18
abbrev s_first_free : Stmt := top 19
abbrev s_row_of : Stmt := top 20
abbrev s_Sight___init__ : Stmt := inClass (top 21) 0
abbrev s_check_name : Stmt := top 25
abbrev s_Desk___init__ : Stmt := inClass (top 26) 0
abbrev s_Desk_begin : Stmt := inClass (top 26) 1
abbrev s_Desk_stores : Stmt := inClass (top 26) 2
abbrev s_Desk_patches : Stmt := inClass (top 26) 3
abbrev s_Desk_has : Stmt := inClass (top 26) 4
abbrev s_Desk_files : Stmt := inClass (top 26) 12
abbrev s_Desk_row : Stmt := inClass (top 26) 13
abbrev s_Desk_patches_of : Stmt := inClass (top 26) 16
abbrev s_Desk_sight_of : Stmt := inClass (top 26) 17
abbrev s_Desk_check_store : Stmt := inClass (top 26) 18
abbrev s__law_cell_at : Stmt := top 28
abbrev s__law_name : Stmt := top 29
abbrev s__law_names_are : Stmt := top 30
abbrev s__law_which : Stmt := top 31
abbrev s__law_due : Stmt := top 32
abbrev s__law_asked : Stmt := top 33
abbrev s__law_odd_name : Stmt := top 34
abbrev s_law : Stmt := top 35
theorem sc_live_patches : FnScope ["patches", "taken_back", "live", "patch"] ["patches"] (defScope s_live_patches) := ⟨rfl, rfl, rfl, by decide +kernel, rfl, by decide +kernel, by decide +kernel⟩
theorem sc_lines_put : FnScope ["patches", "file", "lines", "patch"] ["patches", "file"] (defScope s_lines_put) := ⟨rfl, rfl, rfl, by decide +kernel, rfl, by decide +kernel, by decide +kernel⟩
abbrev n_standing_lines : List Str := ["patches", "file", "live", "gone", "patch", "name", "line"]
theorem sc_standing_lines : FnScope ["patches", "file", "live", "gone", "patch", "name", "line"] ["patches", "file"] (defScope s_standing_lines) := ⟨rfl, rfl, rfl, by decide +kernel, rfl, by decide +kernel, by decide +kernel⟩
abbrev n_files_with_lines : List Str := ["patches", "files", "patch", "file"]
theorem sc_files_with_lines : FnScope ["patches", "files", "patch", "file"] ["patches"] (defScope s_files_with_lines) := ⟨rfl, rfl, rfl, by decide +kernel, rfl, by decide +kernel, by decide +kernel⟩
theorem sc_straight_ahead : FnScope ["lines", "straight", "line"] ["lines"] (defScope s_straight_ahead) := ⟨rfl, rfl, rfl, by decide +kernel, rfl, by decide +kernel, by decide +kernel⟩
theorem sc_all_ahead : FnScope ["lines", "straight", "ahead", "line", "climb", "name", "missing", "other"] ["lines"] (defScope s_all_ahead) := ⟨rfl, rfl, rfl, by decide +kernel, rfl, by decide +kernel, by decide +kernel⟩
theorem sc_row_of : FnScope ["lines", "ahead", "by_name", "waiting", "line", "row", "name", "other"] ["lines", "ahead"] (defScope s_row_of) := ⟨rfl, rfl, rfl, by decide +kernel, rfl, by decide +kernel, by decide +kernel⟩
theorem sc_Sight___init__ : FnScope ["self", "patches", "file"] ["self", "patches", "file"] (defScope s_Sight___init__) := ⟨rfl, rfl, rfl, by decide +kernel, rfl, by decide +kernel, by decide +kernel⟩
theorem sc_check_name : FnScope ["name", "sign"] ["name"] (defScope s_check_name) := ⟨rfl, rfl, rfl, by decide +kernel, rfl, by decide +kernel, by decide +kernel⟩
theorem sc_Desk___init__ : FnScope ["self"] ["self"] (defScope s_Desk___init__) := ⟨rfl, rfl, rfl, by decide +kernel, rfl, by decide +kernel, by decide +kernel⟩
theorem sc_Desk_begin : FnScope ["self", "store"] ["self", "store"] (defScope s_Desk_begin) := ⟨rfl, rfl, rfl, by decide +kernel, rfl, by decide +kernel, by decide +kernel⟩
theorem sc_Desk_stores : FnScope ["self"] ["self"] (defScope s_Desk_stores) := ⟨rfl, rfl, rfl, by decide +kernel, rfl, by decide +kernel, by decide +kernel⟩
theorem sc_Desk_patches : FnScope ["self"] ["self"] (defScope s_Desk_patches) := ⟨rfl, rfl, rfl, by decide +kernel, rfl, by decide +kernel, by decide +kernel⟩
abbrev n_Desk_has : List Str := ["self", "store", "name"]
theorem sc_Desk_has : FnScope ["self", "store", "name"] ["self", "store"] (defScope s_Desk_has) := ⟨rfl, rfl, rfl, by decide +kernel, rfl, by decide +kernel, by decide +kernel⟩
theorem sc_Desk_files : FnScope ["self", "store"] ["self", "store"] (defScope s_Desk_files) := ⟨rfl, rfl, rfl, by decide +kernel, rfl, by decide +kernel, by decide +kernel⟩
abbrev n_Desk_row : List Str := ["self", "store", "file", "line"]
theorem sc_Desk_row : FnScope ["self", "store", "file", "line"] ["self", "store", "file"] (defScope s_Desk_row) := ⟨rfl, rfl, rfl, by decide +kernel, rfl, by decide +kernel, by decide +kernel⟩
abbrev n_Desk_patches_of : List Str := ["self", "store", "name"]
theorem sc_Desk_patches_of : FnScope ["self", "store", "name"] ["self", "store"] (defScope s_Desk_patches_of) := ⟨rfl, rfl, rfl, by decide +kernel, rfl, by decide +kernel, by decide +kernel⟩
theorem sc_Desk_sight_of : FnScope ["self", "store", "file"] ["self", "store", "file"] (defScope s_Desk_sight_of) := ⟨rfl, rfl, rfl, by decide +kernel, rfl, by decide +kernel, by decide +kernel⟩
theorem sc_Desk_check_store : FnScope ["self", "store"] ["self", "store"] (defScope s_Desk_check_store) := ⟨rfl, rfl, rfl, by decide +kernel, rfl, by decide +kernel, by decide +kernel⟩
theorem sc__law_cell_at : FnScope ["script", "k"] ["script", "k"] (defScope s__law_cell_at) := ⟨rfl, rfl, rfl, by decide +kernel, rfl, by decide +kernel, by decide +kernel⟩
theorem sc__law_name : FnScope ["cell", "k", "signs", "size", "base", "far", "found", "j"] ["cell", "k"] (defScope s__law_name) := ⟨rfl, rfl, rfl, by decide +kernel, rfl, by decide +kernel, by decide +kernel⟩
theorem sc__law_names_are : FnScope ["found", "due", "name"] ["found", "due"] (defScope s__law_names_are) := ⟨rfl, rfl, rfl, by decide +kernel, rfl, by decide +kernel, by decide +kernel⟩
theorem sc__law_which : FnScope ["e", "some"] ["e"] (defScope s__law_which) := ⟨rfl, rfl, rfl, by decide +kernel, rfl, by decide +kernel, by decide +kernel⟩
abbrev n__law_due : List Str := ["place", "k"]
theorem sc__law_due : FnScope ["place", "k"] ["place"] (defScope s__law_due) := ⟨rfl, rfl, rfl, by decide +kernel, rfl, by decide +kernel, by decide +kernel⟩
theorem sc__law_asked : FnScope ["desk", "name", "which", "e"] ["desk", "name"] (defScope s__law_asked) := ⟨rfl, rfl, rfl, by decide +kernel, rfl, by decide +kernel, by decide +kernel⟩
theorem sc__law_odd_name : FnScope ["name", "cell", "some", "at"] ["name", "cell"] (defScope s__law_odd_name) := ⟨rfl, rfl, rfl, by decide +kernel, rfl, by decide +kernel, by decide +kernel⟩
theorem sc_law : FnScope ["script", "desk", "due", "k", "cell", "name", "place", "which", "found"] ["script"] (defScope s_law) := ⟨rfl, rfl, rfl, by decide +kernel, rfl, by decide +kernel, by decide +kernel⟩
structure Txt (mg : Str → Option Value) : Prop where
  b_len : mg "len" = none
  b_range : mg "range" = none
  b_isinstance : mg "isinstance" = none
  b_list : mg "list" = none
  b_str : mg "str" = none
  b_reversed : mg "reversed" = none
  b_sorted : mg "sorted" = none
  b_set : mg "set" = none
  b_ValueError : mg "ValueError" = none
structure Ad where
  a_live_patches : Addr
  d_live_patches : FuncData
  a_lines_put : Addr
  d_lines_put : FuncData
  a_standing_lines : Addr
  d_standing_lines : FuncData
  a_files_with_lines : Addr
  d_files_with_lines : FuncData
  a_straight_ahead : Addr
  d_straight_ahead : FuncData
  a_joined : Addr
  d_joined : FuncData
  a_all_ahead : Addr
  d_all_ahead : FuncData
  a_first_free : Addr
  d_first_free : FuncData
  a_row_of : Addr
  d_row_of : FuncData
  a_Sight___init__ : Addr
  d_Sight___init__ : FuncData
  a_check_name : Addr
  d_check_name : FuncData
  a_Desk___init__ : Addr
  d_Desk___init__ : FuncData
  a_Desk_begin : Addr
  d_Desk_begin : FuncData
  a_Desk_stores : Addr
  d_Desk_stores : FuncData
  a_Desk_patches : Addr
  d_Desk_patches : FuncData
  a_Desk_has : Addr
  d_Desk_has : FuncData
  a_Desk_files : Addr
  d_Desk_files : FuncData
  a_Desk_row : Addr
  d_Desk_row : FuncData
  a_Desk_patches_of : Addr
  d_Desk_patches_of : FuncData
  a_Desk_sight_of : Addr
  d_Desk_sight_of : FuncData
  a_Desk_check_store : Addr
  d_Desk_check_store : FuncData
  a__law_cell_at : Addr
  d__law_cell_at : FuncData
  a__law_name : Addr
  d__law_name : FuncData
  a__law_names_are : Addr
  d__law_names_are : FuncData
  a__law_which : Addr
  d__law_which : FuncData
  a__law_due : Addr
  d__law_due : FuncData
  a__law_asked : Addr
  d__law_asked : FuncData
  a__law_odd_name : Addr
  d__law_odd_name : FuncData
  C_Sight : Addr
  C_Desk : Addr
  X_PatchError : Addr
  X_BadName : Addr
  X_NameTaken : Addr
  X_NoStore : Addr
  X_NoPatch : Addr
  X_NoLine : Addr
  X_Unsettled : Addr
  X_Same : Addr
  X_Leant : Addr
  u_NAME_SIGNS : Tok
  u_LONGEST_NAME : Tok
  z : Unit
structure Ok (K : PySem.W.Frag) (mg : Str → Option Value) (A : Ad) : Prop where
  f_live_patches : Fun K "live_patches" "live_patches" s_live_patches A.a_live_patches A.d_live_patches
  b_live_patches : Binds K A.d_live_patches ["patches"] []
  m_live_patches : mg "live_patches" = some (.ref A.a_live_patches)
  f_lines_put : Fun K "lines_put" "lines_put" s_lines_put A.a_lines_put A.d_lines_put
  b_lines_put : Binds K A.d_lines_put ["patches", "file"] []
  m_lines_put : mg "lines_put" = some (.ref A.a_lines_put)
  f_standing_lines : Fun K "standing_lines" "standing_lines" s_standing_lines A.a_standing_lines A.d_standing_lines
  b_standing_lines : Binds K A.d_standing_lines ["patches", "file"] []
  m_standing_lines : mg "standing_lines" = some (.ref A.a_standing_lines)
  f_files_with_lines : Fun K "files_with_lines" "files_with_lines" s_files_with_lines A.a_files_with_lines A.d_files_with_lines
  b_files_with_lines : Binds K A.d_files_with_lines ["patches"] []
  m_files_with_lines : mg "files_with_lines" = some (.ref A.a_files_with_lines)
  f_straight_ahead : Fun K "straight_ahead" "straight_ahead" s_straight_ahead A.a_straight_ahead A.d_straight_ahead
  b_straight_ahead : Binds K A.d_straight_ahead ["lines"] []
  m_straight_ahead : mg "straight_ahead" = some (.ref A.a_straight_ahead)
  f_joined : Fun K "joined" "joined" s_joined A.a_joined A.d_joined
  b_joined : Binds K A.d_joined ["names", "ahead"] []
  m_joined : mg "joined" = some (.ref A.a_joined)
  f_all_ahead : Fun K "all_ahead" "all_ahead" s_all_ahead A.a_all_ahead A.d_all_ahead
  b_all_ahead : Binds K A.d_all_ahead ["lines"] []
  m_all_ahead : mg "all_ahead" = some (.ref A.a_all_ahead)
  f_first_free : Fun K "first_free" "first_free" s_first_free A.a_first_free A.d_first_free
  b_first_free : Binds K A.d_first_free ["waiting"] []
  m_first_free : mg "first_free" = some (.ref A.a_first_free)
  f_row_of : Fun K "row_of" "row_of" s_row_of A.a_row_of A.d_row_of
  b_row_of : Binds K A.d_row_of ["lines", "ahead"] []
  m_row_of : mg "row_of" = some (.ref A.a_row_of)
  f_Sight___init__ : Fun K "__init__" "Sight.__init__" s_Sight___init__ A.a_Sight___init__ A.d_Sight___init__
  b_Sight___init__ : Binds K A.d_Sight___init__ ["self", "patches", "file"] []
  t_Sight___init__ : Meth K A.C_Sight "__init__" A.a_Sight___init__
  f_check_name : Fun K "check_name" "check_name" s_check_name A.a_check_name A.d_check_name
  b_check_name : Binds K A.d_check_name ["name"] []
  m_check_name : mg "check_name" = some (.ref A.a_check_name)
  f_Desk___init__ : Fun K "__init__" "Desk.__init__" s_Desk___init__ A.a_Desk___init__ A.d_Desk___init__
  b_Desk___init__ : Binds K A.d_Desk___init__ ["self"] []
  t_Desk___init__ : Meth K A.C_Desk "__init__" A.a_Desk___init__
  f_Desk_begin : Fun K "begin" "Desk.begin" s_Desk_begin A.a_Desk_begin A.d_Desk_begin
  b_Desk_begin : Binds K A.d_Desk_begin ["self", "store"] []
  t_Desk_begin : Meth K A.C_Desk "begin" A.a_Desk_begin
  f_Desk_stores : Fun K "stores" "Desk.stores" s_Desk_stores A.a_Desk_stores A.d_Desk_stores
  b_Desk_stores : Binds K A.d_Desk_stores ["self"] []
  t_Desk_stores : Meth K A.C_Desk "stores" A.a_Desk_stores
  f_Desk_patches : Fun K "patches" "Desk.patches" s_Desk_patches A.a_Desk_patches A.d_Desk_patches
  b_Desk_patches : Binds K A.d_Desk_patches ["self"] []
  t_Desk_patches : Meth K A.C_Desk "patches" A.a_Desk_patches
  f_Desk_has : Fun K "has" "Desk.has" s_Desk_has A.a_Desk_has A.d_Desk_has
  b_Desk_has : Binds K A.d_Desk_has ["self", "store"] []
  t_Desk_has : Meth K A.C_Desk "has" A.a_Desk_has
  f_Desk_files : Fun K "files" "Desk.files" s_Desk_files A.a_Desk_files A.d_Desk_files
  b_Desk_files : Binds K A.d_Desk_files ["self", "store"] []
  t_Desk_files : Meth K A.C_Desk "files" A.a_Desk_files
  f_Desk_row : Fun K "row" "Desk.row" s_Desk_row A.a_Desk_row A.d_Desk_row
  b_Desk_row : Binds K A.d_Desk_row ["self", "store", "file"] []
  t_Desk_row : Meth K A.C_Desk "row" A.a_Desk_row
  f_Desk_patches_of : Fun K "patches_of" "Desk.patches_of" s_Desk_patches_of A.a_Desk_patches_of A.d_Desk_patches_of
  b_Desk_patches_of : Binds K A.d_Desk_patches_of ["self", "store"] []
  t_Desk_patches_of : Meth K A.C_Desk "patches_of" A.a_Desk_patches_of
  f_Desk_sight_of : Fun K "sight_of" "Desk.sight_of" s_Desk_sight_of A.a_Desk_sight_of A.d_Desk_sight_of
  b_Desk_sight_of : Binds K A.d_Desk_sight_of ["self", "store", "file"] []
  t_Desk_sight_of : Meth K A.C_Desk "sight_of" A.a_Desk_sight_of
  f_Desk_check_store : Fun K "check_store" "Desk.check_store" s_Desk_check_store A.a_Desk_check_store A.d_Desk_check_store
  b_Desk_check_store : Binds K A.d_Desk_check_store ["self", "store"] []
  t_Desk_check_store : Meth K A.C_Desk "check_store" A.a_Desk_check_store
  f__law_cell_at : Fun K "_law_cell_at" "_law_cell_at" s__law_cell_at A.a__law_cell_at A.d__law_cell_at
  b__law_cell_at : Binds K A.d__law_cell_at ["script", "k"] []
  m__law_cell_at : mg "_law_cell_at" = some (.ref A.a__law_cell_at)
  f__law_name : Fun K "_law_name" "_law_name" s__law_name A.a__law_name A.d__law_name
  b__law_name : Binds K A.d__law_name ["cell", "k"] []
  m__law_name : mg "_law_name" = some (.ref A.a__law_name)
  f__law_names_are : Fun K "_law_names_are" "_law_names_are" s__law_names_are A.a__law_names_are A.d__law_names_are
  b__law_names_are : Binds K A.d__law_names_are ["found", "due"] []
  m__law_names_are : mg "_law_names_are" = some (.ref A.a__law_names_are)
  f__law_which : Fun K "_law_which" "_law_which" s__law_which A.a__law_which A.d__law_which
  b__law_which : Binds K A.d__law_which ["e"] []
  m__law_which : mg "_law_which" = some (.ref A.a__law_which)
  f__law_due : Fun K "_law_due" "_law_due" s__law_due A.a__law_due A.d__law_due
  b__law_due : Binds K A.d__law_due ["place"] []
  m__law_due : mg "_law_due" = some (.ref A.a__law_due)
  f__law_asked : Fun K "_law_asked" "_law_asked" s__law_asked A.a__law_asked A.d__law_asked
  b__law_asked : Binds K A.d__law_asked ["desk", "name"] []
  m__law_asked : mg "_law_asked" = some (.ref A.a__law_asked)
  f__law_odd_name : Fun K "_law_odd_name" "_law_odd_name" s__law_odd_name A.a__law_odd_name A.d__law_odd_name
  b__law_odd_name : Binds K A.d__law_odd_name ["name", "cell"] []
  m__law_odd_name : mg "_law_odd_name" = some (.ref A.a__law_odd_name)
  c_Sight : Cls K A.C_Sight
  k_Sight : Mk K A.C_Sight A.a_Sight___init__
  m_Sight : mg "Sight" = some (.ref A.C_Sight)
  na_Sight_ahead : NoAttr K A.C_Sight "ahead"
  na_Sight_lines : NoAttr K A.C_Sight "lines"
  c_Desk : Cls K A.C_Desk
  k_Desk : Mk K A.C_Desk A.a_Desk___init__
  m_Desk : mg "Desk" = some (.ref A.C_Desk)
  na_Desk_made : NoAttr K A.C_Desk "made"
  na_Desk_needs : NoAttr K A.C_Desk "needs"
  na_Desk_held : NoAttr K A.C_Desk "held"
  x_PatchError : Exc K mg "PatchError" A.X_PatchError
  x_BadName : Exc K mg "BadName" A.X_BadName
  x_NameTaken : Exc K mg "NameTaken" A.X_NameTaken
  x_NoStore : Exc K mg "NoStore" A.X_NoStore
  x_NoPatch : Exc K mg "NoPatch" A.X_NoPatch
  x_NoLine : Exc K mg "NoLine" A.X_NoLine
  x_Unsettled : Exc K mg "Unsettled" A.X_Unsettled
  x_Same : Exc K mg "Same" A.X_Same
  x_Leant : Exc K mg "Leant" A.X_Leant
  m_NAME_SIGNS : mg "NAME_SIGNS" = some (.str (Str.ofString "abcdefghijklmnopqrstuvwxyz0123456789") A.u_NAME_SIGNS)
  m_LONGEST_NAME : mg "LONGEST_NAME" = some (.int 12 A.u_LONGEST_NAME)
  y_BadName : ExcK K A.X_BadName
  i_BadName_PatchError : PySem.W.kitOne K (.ref A.X_BadName) (.ref A.X_PatchError) = some true
  i_BadName_BadName : PySem.W.kitOne K (.ref A.X_BadName) (.ref A.X_BadName) = some true
  i_BadName_NameTaken : PySem.W.kitOne K (.ref A.X_BadName) (.ref A.X_NameTaken) = some false
  i_BadName_NoStore : PySem.W.kitOne K (.ref A.X_BadName) (.ref A.X_NoStore) = some false
  i_BadName_NoPatch : PySem.W.kitOne K (.ref A.X_BadName) (.ref A.X_NoPatch) = some false
  i_BadName_NoLine : PySem.W.kitOne K (.ref A.X_BadName) (.ref A.X_NoLine) = some false
  i_BadName_Unsettled : PySem.W.kitOne K (.ref A.X_BadName) (.ref A.X_Unsettled) = some false
  i_BadName_Same : PySem.W.kitOne K (.ref A.X_BadName) (.ref A.X_Same) = some false
  i_BadName_Leant : PySem.W.kitOne K (.ref A.X_BadName) (.ref A.X_Leant) = some false
  i_BadName_ValueError : PySem.W.kitOne K (.ref A.X_BadName) (.type "ValueError") = some true
  j_BadName : subX K A.X_BadName A.X_PatchError = true
  jj_BadName : subX K A.X_BadName A.X_BadName = true
  y_NameTaken : ExcK K A.X_NameTaken
  i_NameTaken_PatchError : PySem.W.kitOne K (.ref A.X_NameTaken) (.ref A.X_PatchError) = some true
  i_NameTaken_BadName : PySem.W.kitOne K (.ref A.X_NameTaken) (.ref A.X_BadName) = some false
  i_NameTaken_NameTaken : PySem.W.kitOne K (.ref A.X_NameTaken) (.ref A.X_NameTaken) = some true
  i_NameTaken_NoStore : PySem.W.kitOne K (.ref A.X_NameTaken) (.ref A.X_NoStore) = some false
  i_NameTaken_NoPatch : PySem.W.kitOne K (.ref A.X_NameTaken) (.ref A.X_NoPatch) = some false
  i_NameTaken_NoLine : PySem.W.kitOne K (.ref A.X_NameTaken) (.ref A.X_NoLine) = some false
  i_NameTaken_Unsettled : PySem.W.kitOne K (.ref A.X_NameTaken) (.ref A.X_Unsettled) = some false
  i_NameTaken_Same : PySem.W.kitOne K (.ref A.X_NameTaken) (.ref A.X_Same) = some false
  i_NameTaken_Leant : PySem.W.kitOne K (.ref A.X_NameTaken) (.ref A.X_Leant) = some false
  i_NameTaken_ValueError : PySem.W.kitOne K (.ref A.X_NameTaken) (.type "ValueError") = some true
  j_NameTaken : subX K A.X_NameTaken A.X_PatchError = true
  jj_NameTaken : subX K A.X_NameTaken A.X_NameTaken = true
  z : True
end PK


set_option Elab.async false
set_option linter.all false
set_option maxRecDepth 100000
/-! law_k02: the program's defs where no patch was made -/
namespace PK
open PySem L2
/-! ### names -/
def SIGNS : Str := Str.ofString "abcdefghijklmnopqrstuvwxyz0123456789"
def Good (x : Str) : Prop := 1 ≤ x.length ∧ x.length ≤ 12 ∧ ∀ c ∈ x.cps.toList, c ∈ SIGNS.cps.toList
def Fine (x : Str) : Prop := (reprText x).length ≤ 1048576 ∧ x.length ≤ 1000
/-! ### a desk without patches -/
def dkF (m n h : Addr) : List (Str × V) := [("made", .ref m), ("needs", .ref n), ("held", .ref h)]
theorem dkF_eq (m n h : Addr) : putF "held" (.ref h) (putF "needs" (.ref n) (putF "made" (.ref m) [])) = dkF m n h := by kernel_rfl
theorem dkF_held (m n h : Addr) : (dkF m n h).lookup ("held" : Str) = some (V.ref h) := by kernel_rfl
theorem dkF_made (m n h : Addr) : (dkF m n h).lookup ("made" : Str) = some (V.ref m) := by kernel_rfl
structure DeskE (C : Addr) (H : Hp) (d : Addr) (ns : List Str) : Prop where
  ex : ∃ dx m n h kH, H d = some (.ins C dx (dkF m n h)) ∧ H m = some (.dK []) ∧ H n = some (.dK []) ∧ H h = some (.dK kH) ∧ m ≠ h ∧ n ≠ h ∧
    Paired (fun (x : Str) (kv : Key × V) => kv.1 = (Sum.inr x : Key) ∧ ∃ a, kv.2 = V.ref a ∧ H a = some (.dK [])) ns kH
  nd : ns.Nodup
  few : ns.length ≤ 1000
theorem DeskE.same {C : Addr} {H H' : Hp} {d : Addr} {ns : List Str} (D : DeskE C H d ns) (s : Same H H') : DeskE C H' d ns := by
  obtain ⟨⟨dx, m, n, h, kH, h1, h2, h3, h4, n1, n2, h5⟩, nd, few⟩ := D
  exact ⟨⟨dx, m, n, h, kH, s _ _ h1, s _ _ h2, s _ _ h3, s _ _ h4, n1, n2, Paired.mapP h5 fun x kv ⟨e, a, e2, e3⟩ => ⟨e, a, e2, s _ _ e3⟩⟩, nd, few⟩
section
variable {P : Program} {w : World} {K : PySem.W.Frag} {mg : Str → Option Value} {base : Heap} {A : Ad}
/-! ### Desk() -/
def spInit (C : Addr) : Sp := fun vs H Q _ => ∃ (p dx : Addr), vs = [.ref p] ∧ H p = some (.ins C dx []) ∧ ∀ (H' : Hp), DeskE C H' p [] → (∀ b o, H b = some o → b ≠ p → H' b = some o) → Q .non H'
theorem ok_Desk_init (T : Txt mg) (O : Ok K mg A) : FnOk P w K mg base CX0 1 A.a_Desk___init__ A.d_Desk___init__ ["self"] (spInit A.C_Desk) := by
  refine O.f_Desk___init__.ok sc_Desk___init__ (fun vs H Q E h => ?_) (fun cdv A0 outer s H vs Q E hr h => ?_)
  · obtain ⟨p, dx, rfl, _⟩ := h
    rfl
  · obtain ⟨p, dx, rfl, hp, k⟩ := h
    refine ⟨_, (pss_cons (ps_fld (pv 0) pe_dnewK rfl)
      (pss_cons (ps_fld (pv 0) pe_dnewK rfl)
      (pss_one (ps_fld (pv 0) pe_dnewK rfl)))), ?_⟩
    intro m hm
    have npm : p ≠ m := ne_of_none hp hm
    refine ⟨_, rfl, p, A.C_Desk, dx, _, rfl, (by rw [upd_ne npm]; exact hp), O.c_Desk, O.na_Desk_made, (by show 0 < 1000; decide), ?_⟩
    intro n hn
    have npn : p ≠ n := ne_of_none upd_same hn
    have nmn : m ≠ n := by
      intro z; subst z; rw [upd_ne npm.symm, upd_same] at hn; cases hn
    have hH : H n = none := by rw [upd_ne npn.symm, upd_ne nmn.symm] at hn; exact hn
    refine ⟨_, rfl, p, A.C_Desk, dx, _, rfl, (by rw [upd_ne npn]; exact upd_same), O.c_Desk, O.na_Desk_needs, (by show 1 < 1000; decide), ?_⟩
    intro h hh
    have nph : p ≠ h := ne_of_none upd_same hh
    have nnh : n ≠ h := by
      intro z; subst z; rw [upd_ne npn.symm, upd_same] at hh; cases hh
    have nmh : m ≠ h := by
      intro z; subst z; rw [upd_ne npm.symm, upd_ne nmn, upd_ne npm.symm, upd_same] at hh; cases hh
    have hhH : H h = none := by rw [upd_ne nph.symm, upd_ne nnh.symm, upd_ne nph.symm, upd_ne nmh.symm] at hh; exact hh
    refine ⟨_, rfl, p, A.C_Desk, dx, _, rfl, (by rw [upd_ne nph]; exact upd_same), O.c_Desk, O.na_Desk_held, (by show 2 < 1000; decide), ?_⟩
    refine k _ ⟨⟨dx, m, n, h, [], Eq.trans upd_same (congrArg (fun l => some (HO.ins A.C_Desk dx l)) (dkF_eq m n h)), ?_, ?_, ?_, nmh, nnh, .nil⟩, List.nodup_nil, by decide⟩ fun b o e hb => ?_
    · rw [upd_ne npm.symm, upd_ne nmh, upd_ne npm.symm, upd_ne nmn, upd_ne npm.symm, upd_same]
    · rw [upd_ne npn.symm, upd_ne nnh, upd_ne npn.symm, upd_same]
    · rw [upd_ne nph.symm, upd_same]
    · rw [upd_ne hb, upd_ne (ne_of_none e hhH), upd_ne hb, upd_ne (ne_of_none e hH), upd_ne hb, upd_ne (ne_of_none e hm)]
      exact e
/-! ### check_name -/
def spCheck (XB : Addr) : Sp := fun vs H Q E => ∃ x : Str, vs = [.str x] ∧ Fine x ∧ (Good x → Q .non H) ∧ (¬ Good x → E (.ref XB) none H)
theorem log12 : (12 : Int).natAbs.log2 < 1920 := by decide
theorem ok_check_name (T : Txt mg) (O : Ok K mg A) : FnOk P w K mg base (CX1 P w) 1 A.a_check_name A.d_check_name ["name"] (spCheck A.X_BadName) := by
  refine O.f_check_name.ok1 sc_check_name (fun vs H Q E h => ?_) (fun cdv A0 outer s H vs Q E hr h => ?_)
  · obtain ⟨x, rfl, _⟩ := h
    rfl
  · obtain ⟨x, rfl, ⟨hf, hl⟩, q, qe⟩ := h
    refine ⟨_, (pss_cons (ps_if (pt_not (pt_chain op_le op_le pe_int (pe_callB call_len_str (by rfl) T.b_len PySem.boot_len (pa_cons (pv 0) pa_nil)) (pe_glob (v := .int 12) (by rfl) O.m_LONGEST_NAME ⟨_, rfl⟩))) (pss_one (ps_raise bx O.x_BadName (by rfl) (pe_fstr (pf_cons pe_str (pf_cons (pe_fvi (pe_glob (v := .int 12) (by rfl) O.m_LONGEST_NAME ⟨_, rfl⟩)) (pf_cons pe_str (pf_cons (pe_fvr (pv 0)) pf_nil))))))) pss_nil)
      (pss_one (ps_for own1 rfl (pi_str (pv 0)) (pg_name (i := 1) sc_check_name.nd rfl (Or.inl rfl)) (pss_one (ps_if (pt_cmpR op_notin_str (pv 1) (pe_glob (v := .str (Str.ofString "abcdefghijklmnopqrstuvwxyz0123456789")) (by rfl) O.m_NAME_SIGNS ⟨_, rfl⟩) rfl) (pss_one (ps_raise bx O.x_BadName (by rfl) (pe_fstr (pf_cons pe_str (pf_cons (pe_fvr (pv 0)) pf_nil))))) pss_nil))))), ?_⟩
    have hz : x.length ≤ sizeLine := Nat.le_trans hl (by decide)
    -- 1 <= len(name) <= 12
    have bad : ¬ Good x → ∀ H', H' = H → E (.ref A.X_BadName) none H' := fun g H' e => by subst e; exact qe g
    refine ⟨_, rfl, _, rfl, hz, _, _, rfl, rfl, _, rfl, ?_⟩
    refine ite2 (fun h1 => ?_) (fun h1 => ?_)
    · refine ⟨_, _, rfl, rfl, _, rfl, ?_⟩
      refine ite2 (fun h2 => ?_) (fun h2 => ?_)
      · -- too long
        have h2 : ¬ ((x.length : Int) ≤ 12) := by simpa using h2
        refine ⟨_, rfl, by decide +kernel, ⟨_, rfl, log12, _, rfl, by decide +kernel, ⟨_, rfl, by decide +kernel, ⟨_, rfl, _, rfl, hf, _, rfl, hf, fun _ => qe fun g => ?_⟩⟩⟩⟩
        have := g.2.1; omega
      · have h1 : (1 : Int) ≤ (x.length : Int) := by simpa using h1
        have h2 : (x.length : Int) ≤ 12 := by simpa using h2
        -- for sign in name
        refine ⟨_, rfl, x, rfl, for_text (fun i σ H2 => ∃ v, σ = [some (.str x), v] ∧ H2 = H ∧ ∀ j < i, ∀ c, x.cps[j]? = some c → c ∈ SIGNS.cps.toList) ⟨none, rfl, rfl, fun j hj => absurd hj (by omega)⟩ ?_ ?_⟩
        · rintro i c σ H2 hc ⟨v, rfl, rfl, hp⟩
          refine ⟨_, rfl, _, _, rfl, rfl, _, rfl, ?_⟩
          rw [occ_one]
          refine ite2 (fun h3 => ?_) (fun h3 => ?_)
          · have h3 : c ∉ SIGNS.cps.toList := by simpa [SIGNS] using h3
            refine ⟨_, rfl, by decide +kernel, ⟨_, rfl, _, rfl, hf, _, rfl, hf, fun _ => qe fun g => ?_⟩⟩
            exact h3 (g.2.2 c (List.mem_of_getElem? (i := i) (by rw [Array.getElem?_toList]; exact hc)))
          · have h3 : c ∈ SIGNS.cps.toList := by simpa [SIGNS] using h3
            refine ⟨_, rfl, rfl, fun j hj c' hc' => ?_⟩
            by_cases e : j = i
            · subst e; rw [hc] at hc'; cases hc'; exact h3
            · exact hp j (by omega) c' hc'
        · rintro σ H2 ⟨v, rfl, rfl, hp⟩
          refine q ⟨by omega, by omega, fun c hc => ?_⟩
          obtain ⟨j, hj, e⟩ := List.mem_iff_getElem.mp hc
          have hj' : j < x.cps.size := by simpa using hj
          exact hp j hj' c (by rw [Array.getElem?_eq_getElem hj']; simpa using e)
    · have h1 : ¬ ((1 : Int) ≤ (x.length : Int)) := by simpa using h1
      refine ⟨_, rfl, ?_⟩
      refine ⟨_, rfl, by decide +kernel, ⟨_, rfl, log12, _, rfl, by decide +kernel, ⟨_, rfl, by decide +kernel, ⟨_, rfl, _, rfl, hf, _, rfl, hf, fun _ => qe fun g => ?_⟩⟩⟩⟩
      have := g.1; omega
end
end PK


set_option Elab.async false
set_option linter.all false
set_option maxRecDepth 100000
namespace PK
open PySem L2
/-- nothing but dicts was changed -/
def SameL (H H' : Hp) : Prop := ∀ b o, H b = some o → (∀ kvs, o ≠ .dK kvs) → H' b = some o
theorem held_val {H : Hp} {ns : List Str} {kH : List (Key × V)} (p : Paired (fun (x : Str) (kv : Key × V) => kv.1 = (Sum.inr x : Key) ∧ ∃ a, kv.2 = V.ref a ∧ H a = some (.dK [])) ns kH) (x : Str) : (x ∈ ns → ∃ a, valV kH (Sum.inr x) = some (V.ref a) ∧ H a = some (.dK [])) ∧ (x ∉ ns → valV kH (Sum.inr x : Key) = none) := by
  induction p with
  | nil => exact ⟨fun h => (by cases h), fun _ => rfl⟩
  | cons f t ih =>
    rename_i y kv r1 r2
    obtain ⟨e, a, e2, e3⟩ := f
    by_cases hx : y = x
    · subst hx
      exact ⟨fun _ => ⟨a, by rw [valV_pos e, e2], e3⟩, fun h => absurd List.mem_cons_self h⟩
    · have ne : ¬ kv.1 = (Sum.inr x : Key) := fun z => hx (by rw [e] at z; exact Sum.inr.inj z)
      rw [valV_neg ne]
      refine ⟨fun h => ih.1 ?_, fun h => ih.2 fun z => h (List.mem_cons_of_mem _ z)⟩
      rcases List.mem_cons.mp h with z | z
      · exact absurd z.symm hx
      · exact z
theorem held_keys {H : Hp} {ns : List Str} {kH : List (Key × V)} (p : Paired (fun (x : Str) (kv : Key × V) => kv.1 = (Sum.inr x : Key) ∧ ∃ a, kv.2 = V.ref a ∧ H a = some (.dK [])) ns kH) : (kH.map fun kv => kV kv.1) = txts ns := by
  induction p with
  | nil => rfl
  | cons f t ih =>
    obtain ⟨e, a, e2, e3⟩ := f
    rw [List.map_cons, ih, e]
    rfl
theorem paired_snoc {α β : Type} {F : α → β → Prop} {xs : List α} {ys : List β} {x : α} {y : β} (p : Paired F xs ys) (h : F x y) : Paired F (xs ++ [x]) (ys ++ [y]) := by
  induction p with
  | nil => exact .cons h .nil
  | cons f t ih => exact .cons f ih
section
variable {P : Program} {w : World} {K : PySem.W.Frag} {mg : Str → Option Value} {base : Heap} {A : Ad}
theorem nolk (m n h : Addr) : (dkF m n h).lookup ("check_store" : Str) = none ∧ (dkF m n h).lookup ("has" : Str) = none ∧ (dkF m n h).lookup ("patches_of" : Str) = none ∧ (dkF m n h).lookup ("sight_of" : Str) = none ∧ (dkF m n h).lookup ("begin" : Str) = none ∧
    (dkF m n h).lookup ("stores" : Str) = none ∧ (dkF m n h).lookup ("patches" : Str) = none ∧ (dkF m n h).lookup ("files" : Str) = none ∧ (dkF m n h).lookup ("row" : Str) = none :=
  ⟨by kernel_rfl, by kernel_rfl, by kernel_rfl, by kernel_rfl, by kernel_rfl, by kernel_rfl, by kernel_rfl, by kernel_rfl, by kernel_rfl⟩
/-! ### begin -/
def spBegin (A : Ad) : Sp := fun vs H Q E => ∃ (d : Addr) (ns : List Str) (x : Str), vs = [.ref d, .str x] ∧ DeskE A.C_Desk H d ns ∧ Fine x ∧ ns.length < 1000 ∧ (¬ Good x → E (.ref A.X_BadName) none H) ∧ (Good x → x ∈ ns → E (.ref A.X_NameTaken) none H) ∧
  (Good x → x ∉ ns → ∀ H', DeskE A.C_Desk H' d (ns ++ [x]) → SameL H H' → Q .non H')
theorem ok_begin (T : Txt mg) (O : Ok K mg A) : FnOk P w K mg base (CX1 P w) 2 A.a_Desk_begin A.d_Desk_begin ["self", "store"] (spBegin A) := by
  have G_check_name : FnOk P w K mg base (CX1 P w) 1 A.a_check_name A.d_check_name ["name"] (spCheck A.X_BadName) := ok_check_name T O
  refine O.f_Desk_begin.ok1 sc_Desk_begin (fun vs H Q E h => ?_) (fun cdv A0 outer s H vs Q E hr h => ?_)
  · obtain ⟨d, ns, x, rfl, _⟩ := h
    rfl
  · obtain ⟨d, ns, x, rfl, D, hf, hlen, q1, q2, q3⟩ := h
    obtain ⟨⟨dx, m, n, h, kH, h1, h2, h3, h4, n1, n2, hp⟩, nd, _⟩ := id D
    refine ⟨_, (pss_cons (ps_expr (pe_call G_check_name (hr.mono (by decide)) (by rfl) O.m_check_name O.f_check_name.kp O.b_check_name .nil (pass1 bx) (pa_cons (pv 1) pa_nil)))
      (pss_cons (ps_if (pt_cmp (pc_din (by exact hu_of hr) (pv 1) (pe_fld (pv 0) rfl))) (pss_one (ps_raise bx O.x_NameTaken (by rfl) (pe_fstr (pf_cons pe_str (pf_cons (pe_fvr (pv 1)) (pf_cons pe_str pf_nil)))))) pss_nil)
      (pss_one (ps_dput (by exact hu_of hr) (pe_fld (pv 0) rfl) (pv 1) pe_dnewK rfl)))), ?_⟩
    refine ⟨_, rfl, x, rfl, hf, fun g => ?_, fun ng => q1 ng⟩
    obtain ⟨v1, v2⟩ := held_val hp x
    -- if store in self.held
    refine ⟨_, rfl, _, rfl, d, A.C_Desk, dx, _, _, rfl, h1, O.c_Desk, O.na_Desk_held, dkF_held m n h, h, _, rfl, DGet.k (k := Sum.inr x) h4, _, rfl, ?_⟩
    by_cases hx : x ∈ ns
    · obtain ⟨a, ea, _⟩ := v1 hx
      rw [ea]
      refine iteT ⟨_, rfl, by decide +kernel, ⟨_, rfl, _, rfl, hf.1, _, rfl, hf.1, ⟨_, rfl, by decide +kernel, fun _ => q2 g hx⟩⟩⟩
    · rw [v2 hx]
      refine iteF ?_
      intro p hp0
      have ndp : d ≠ p := ne_of_none h1 hp0
      have nhp : h ≠ p := ne_of_none h4 hp0
      have hh : (upd H p (.dK [])) h = some (.dK kH) := by rw [upd_ne nhp]; exact h4
      have hkl : kH.length = ns.length := (Paired.length hp).symm
      refine ⟨_, rfl, d, A.C_Desk, dx, _, _, rfl, by rw [upd_ne ndp]; exact h1, O.c_Desk, O.na_Desk_held, dkF_held m n h, _, rfl, h, _, rfl, DPut.k (k := Sum.inr x) hh (small1000 (by omega)), ?_⟩
      have e : putK kH (Sum.inr x : Key) (V.ref p) = kH ++ [(Sum.inr x, V.ref p)] := putK_new _ (v2 hx)
      rw [e]
      have ndh : d ≠ h := ne_of h1 h4 (by intro z; cases z)
      refine q3 g hx _ ⟨⟨dx, m, n, h, _, ?_, ?_, ?_, upd_same, n1, n2, ?_⟩, ?_, ?_⟩ fun b o hb no => ?_
      · rw [upd_ne ndh, upd_ne ndp]; exact h1
      · rw [upd_ne n1, upd_ne (ne_of_none h2 hp0)]; exact h2
      · rw [upd_ne n2, upd_ne (ne_of_none h3 hp0)]; exact h3
      · refine paired_snoc ?_ ⟨rfl, p, rfl, by rw [upd_ne nhp.symm, upd_same]⟩
        cases hp with
        | nil => exact .nil
        | cons f t =>
          refine Paired.mapP (.cons f t) fun y kv ⟨e1, a, e2, e3⟩ => ⟨e1, a, e2, ?_⟩
          have : a ≠ h := fun z => by rw [z, h4] at e3; cases e3
          rw [upd_ne this, upd_ne (ne_of_none e3 hp0)]
          exact e3
      · rw [List.nodup_append]
        exact ⟨nd, by simp, fun a ha b hb => by simp at hb; subst hb; exact fun z => hx (z ▸ ha)⟩
      · rw [List.length_append]; show ns.length + 1 ≤ 1000; omega
      · rw [upd_ne (fun z => by rw [z, h4] at hb; exact no _ (Option.some.inj hb).symm), upd_ne (ne_of_none hb hp0)]
        exact hb
/-! ### stores, patches -/
def spStores (C : Addr) : Sp := fun vs H Q _ => ∃ (d : Addr) (ns : List Str), vs = [.ref d] ∧ DeskE C H d ns ∧ ∀ p, H p = none → Q (.ref p) (upd H p (.lst (txts ns)))
theorem ok_stores (T : Txt mg) (O : Ok K mg A) : FnOk P w K mg base CX0 1 A.a_Desk_stores A.d_Desk_stores ["self"] (spStores A.C_Desk) := by
  refine O.f_Desk_stores.ok sc_Desk_stores (fun vs H Q E h => ?_) (fun cdv A0 outer s H vs Q E hr h => ?_)
  · obtain ⟨d, ns, rfl, _⟩ := h
    rfl
  · obtain ⟨d, ns, rfl, D, q⟩ := h
    obtain ⟨⟨dx, m, n, h, kH, h1, h2, h3, h4, n1, n2, hp⟩, nd, _⟩ := id D
    refine ⟨_, (pss_one (ps_ret (pe_callTy (call_list_dict rfl) (by rfl) T.b_list PyProof.Rows.boot_list (pa_cons (pe_fld (pv 0) rfl) pa_nil)))), ?_⟩
    refine ⟨_, rfl, d, A.C_Desk, dx, _, _, rfl, h1, O.c_Desk, O.na_Desk_held, dkF_held m n h, h, kH, rfl, h4, fun p hp0 => ?_⟩
    rw [held_keys hp]
    exact q p hp0
def spPatches (C : Addr) : Sp := fun vs H Q _ => ∃ (d : Addr) (ns : List Str), vs = [.ref d] ∧ DeskE C H d ns ∧ ∀ p, H p = none → Q (.ref p) (upd H p (.lst []))
theorem ok_patches (T : Txt mg) (O : Ok K mg A) : FnOk P w K mg base CX0 1 A.a_Desk_patches A.d_Desk_patches ["self"] (spPatches A.C_Desk) := by
  refine O.f_Desk_patches.ok sc_Desk_patches (fun vs H Q E h => ?_) (fun cdv A0 outer s H vs Q E hr h => ?_)
  · obtain ⟨d, ns, rfl, _⟩ := h
    rfl
  · obtain ⟨d, ns, rfl, D, q⟩ := h
    obtain ⟨⟨dx, m, n, h, kH, h1, h2, h3, h4, n1, n2, hp⟩, nd, _⟩ := id D
    refine ⟨_, (pss_one (ps_ret (pe_callTy (call_list_dict rfl) (by rfl) T.b_list PyProof.Rows.boot_list (pa_cons (pe_fld (pv 0) rfl) pa_nil)))), ?_⟩
    exact ⟨_, rfl, d, A.C_Desk, dx, _, _, rfl, h1, O.c_Desk, O.na_Desk_made, dkF_made m n h, m, [], rfl, h2, fun p hp0 => q p hp0⟩
/-! ### check_store, has, patches_of -/
def spStore (C : Addr) : Sp := fun vs H Q _ => ∃ (d : Addr) (ns : List Str) (x : Str), vs = [.ref d, .str x] ∧ DeskE C H d ns ∧ x ∈ ns ∧ Q .non H
theorem ok_check_store (T : Txt mg) (O : Ok K mg A) : FnOk P w K mg base CX0 1 A.a_Desk_check_store A.d_Desk_check_store ["self", "store"] (spStore A.C_Desk) := by
  refine O.f_Desk_check_store.ok sc_Desk_check_store (fun vs H Q E h => ?_) (fun cdv A0 outer s H vs Q E hr h => ?_)
  · obtain ⟨d, ns, x, rfl, _⟩ := h
    rfl
  · obtain ⟨d, ns, x, rfl, D, hx, q⟩ := h
    obtain ⟨⟨dx, m, n, h, kH, h1, h2, h3, h4, n1, n2, hp⟩, nd, _⟩ := id D
    obtain ⟨v1, v2⟩ := held_val hp x
    obtain ⟨a, ea, _⟩ := v1 hx
    refine ⟨_, (pss_one (ps_if (pt_cmp (pc_dnotin (by exact hu_of hr) (pv 1) (pe_fld (pv 0) rfl))) (pss_one (ps_never)) pss_nil)), ?_⟩
    refine ⟨_, rfl, _, rfl, d, A.C_Desk, dx, _, _, rfl, h1, O.c_Desk, O.na_Desk_held, dkF_held m n h, h, _, rfl, DGet.k (k := Sum.inr x) h4, _, rfl, ?_⟩
    rw [ea]
    exact q
def spList0 (C : Addr) : Sp := fun vs H Q _ => ∃ (d : Addr) (ns : List Str) (x : Str), vs = [.ref d, .str x] ∧ DeskE C H d ns ∧ x ∈ ns ∧ ∀ p H', Same H H' → H p = none → H' p = some (.lst []) → Q (.ref p) H'
theorem ok_has (T : Txt mg) (O : Ok K mg A) : FnOk P w K mg base CX0 2 A.a_Desk_has A.d_Desk_has ["self", "store"] (spList0 A.C_Desk) := by
  have G_Desk_check_store : FnOk P w K mg base CX0 1 A.a_Desk_check_store A.d_Desk_check_store ["self", "store"] (spStore A.C_Desk) := ok_check_store T O
  refine O.f_Desk_has.ok sc_Desk_has (fun vs H Q E h => ?_) (fun cdv A0 outer s H vs Q E hr h => ?_)
  · obtain ⟨d, ns, x, rfl, _⟩ := h
    rfl
  · obtain ⟨d, ns, x, rfl, D, hx, q⟩ := h
    obtain ⟨⟨dx, m, n, h, kH, h1, h2, h3, h4, n1, n2, hp⟩, nd, _⟩ := id D
    refine ⟨_, (pss_cons (ps_expr (pe_meth (pv 0) O.c_Desk O.t_Desk_check_store G_Desk_check_store (hr.mono (by decide)) O.b_Desk_check_store .nil pass0 (pa_cons (pv 1) pa_nil)))
      (pss_one (ps_ret (pe_thaw (pe_lcQ n_Desk_has (defScope s_Desk_has).names [2] rfl (pi_dict (pe_fld (pv 0) rfl)) rfl (by decide +kernel) (fun _ _ _ _ => (pg_name (i := 2) sc_Desk_has.nd rfl (Or.inl rfl))) (fun _ _ _ _ => ⟨_, pq_one (pt_cmp (pc_din (by exact hu_of hr) (pv 2) (pe_dget (by exact hu_of hr) (pe_fld (pv 0) rfl) (pv 1) (fun _ _ => rfl)))), by (try simp only [block_K]); rfl⟩) (fun _ _ _ _ => ⟨_, (pv 2), by (try simp only [block_K]); rfl⟩)))))), ?_⟩
    refine ⟨_, rfl, d, dx, _, rfl, h1, (nolk m n h).1, _, rfl, d, ns, x, rfl, D, hx, ?_⟩
    refine ⟨_, rfl, d, A.C_Desk, dx, _, _, rfl, h1, O.c_Desk, O.na_Desk_made, dkF_made m n h, m, [], rfl, h2, fun o uz => ?_⟩
    refine lc_dict (by decide) (fun i ys σ H3 => ys = [] ∧ H3 = upd H m (.frz o (.dK []))) ⟨rfl, rfl⟩ (fun i ys σ H3 ⟨e, e2⟩ => by subst e e2; exact ⟨upd_same, Nat.zero_le _⟩) (fun i k v ys σ H3 hk => by simp at hk) ?_
    rintro ys σ H3 ⟨rfl, rfl⟩ p hp0
    have npm : p ≠ m := fun z => by rw [z, upd_same] at hp0; cases hp0
    have hpH : H p = none := by rw [upd_ne npm] at hp0; exact hp0
    refine ⟨m, o, _, by rw [upd_ne npm.symm]; exact upd_same, uz, ?_⟩
    rw [thaw_eq h2 npm]
    exact q p _ ((Same.refl H).new hpH) hpH upd_same
theorem ok_patches_of (T : Txt mg) (O : Ok K mg A) : FnOk P w K mg base CX0 3 A.a_Desk_patches_of A.d_Desk_patches_of ["self", "store"] (spList0 A.C_Desk) := by
  have G_Desk_has : FnOk P w K mg base CX0 2 A.a_Desk_has A.d_Desk_has ["self", "store"] (spList0 A.C_Desk) := ok_has T O
  refine O.f_Desk_patches_of.ok sc_Desk_patches_of (fun vs H Q E h => ?_) (fun cdv A0 outer s H vs Q E hr h => ?_)
  · obtain ⟨d, ns, x, rfl, _⟩ := h
    rfl
  · obtain ⟨d, ns, x, rfl, D, hx, q⟩ := h
    obtain ⟨⟨dx, m, n, h, kH, h1, h2, h3, h4, n1, n2, hp⟩, nd, _⟩ := id D
    refine ⟨_, (pss_one (ps_ret (pe_lc n_Desk_patches_of (defScope s_Desk_patches_of).names [2] rfl (pi_list (pe_meth (pv 0) O.c_Desk O.t_Desk_has G_Desk_has (hr.mono (by decide)) O.b_Desk_has .nil pass0 (pa_cons (pv 1) pa_nil))) rfl (by decide +kernel) (fun _ _ _ _ => (pg_name (i := 2) sc_Desk_patches_of.nd rfl (Or.inl rfl))) (fun _ _ _ _ => pq_nil) (fun _ _ _ _ => ⟨_, pe_never, by (try simp only [block_K]); rfl⟩)))), ?_⟩
    refine ⟨_, rfl, d, dx, _, rfl, h1, (nolk m n h).2.1, _, rfl, d, ns, x, rfl, D, hx, fun p H1 s1 hp0 h1p => ?_⟩
    refine ⟨p, rfl, ⟨_, SqL.of h1p⟩, lc_list (K := K) (a := p) (xs := []) (by decide) (fun i ys σ H3 => ys = [] ∧ H3 = H1) ⟨rfl, rfl⟩ (fun i ys σ H3 _ ⟨e, e2⟩ => by subst e e2; exact ⟨SqL.of h1p, Nat.zero_le _⟩) (fun i x ys σ H3 hk => by simp at hk) ?_⟩
    rintro ys σ H3 ⟨rfl, rfl⟩ p2 hp2
    exact q p2 _ (s1.new hp2) (s1.free hp2) upd_same
/-! ### the order of no lines -/
def sp0 (n : Nat) : Sp := fun vs H Q _ => ∃ (a : Addr) (r : List V), vs = .ref a :: r ∧ r.length = n ∧ H a = some (.lst []) ∧ ∀ p H', Same H H' → H p = none → H' p = some (.lst []) → Q (.ref p) H'
theorem ok_live_patches (T : Txt mg) (O : Ok K mg A) : FnOk P w K mg base CX0 1 A.a_live_patches A.d_live_patches ["patches"] (sp0 0) := by
  refine O.f_live_patches.ok sc_live_patches (fun vs H Q E h => ?_) (fun cdv A0 outer s H vs Q E hr h => ?_)
  · obtain ⟨a, r, rfl, hr, _⟩ := h
    rw [List.length_cons, hr]; rfl
  · obtain ⟨a, r, rfl, hl, ha, q⟩ := h
    cases r with
    | cons _ _ => cases hl
    | nil =>
    refine ⟨_, (pss_cons (ps_set (i := 1) sc_live_patches.nd rfl (Or.inl rfl) pe_dnewK)
      (pss_cons (ps_set (i := 2) sc_live_patches.nd rfl (Or.inl rfl) (pe_lst pa_nil))
      (pss_cons (ps_for PassesOwn.never rfl (pi_revL rfl T.b_reversed (pa_cons (pv 0) pa_nil)) (pg_name (i := 3) sc_live_patches.nd rfl (Or.inl rfl)) pss_never)
      (pss_one (ps_ret (pe_listrev rfl (by rfl) T.b_list (by rfl) T.b_reversed (pa_cons (pv 2) pa_nil))))))), ?_⟩
    intro t ht
    have s1 : Same H (upd H t (.dK [])) := (Same.refl H).new ht
    refine ⟨few, fun l hl => ?_⟩
    have s2 : Same H (upd (upd H t (.dK [])) l (.lst [])) := s1.new hl
    refine ⟨_, rfl, a, _, rfl, SqL.of (s2 a _ ha), for_rev (K := K) (a := a) (xs := []) (fun i σ H2 => σ = [some (.ref a), some (.ref t), some (.ref l), none] ∧ H2 = upd (upd H t (.dK [])) l (.lst [])) ⟨rfl, rfl⟩ (fun i σ H2 _ ⟨_, e⟩ => by subst e; exact SqL.of (s2 a _ ha)) (fun i x σ H2 hx => by simp at hx) ?_⟩
    rintro σ H2 ⟨rfl, rfl⟩
    refine ⟨_, rfl, l, _, rfl, SqL.of upd_same, fun p hp => ?_⟩
    exact q p _ (s2.new hp) (s2.free hp) upd_same
theorem ok_lines_put (T : Txt mg) (O : Ok K mg A) : FnOk P w K mg base CX0 1 A.a_lines_put A.d_lines_put ["patches", "file"] (sp0 1) := by
  refine O.f_lines_put.ok sc_lines_put (fun vs H Q E h => ?_) (fun cdv A0 outer s H vs Q E hr h => ?_)
  · obtain ⟨a, r, rfl, hr, _⟩ := h
    rw [List.length_cons, hr]; rfl
  · obtain ⟨a, r, rfl, hl, ha, q⟩ := h
    cases r with
    | nil => cases hl
    | cons f r =>
    cases r with
    | cons _ _ => cases hl
    | nil =>
    refine ⟨_, (pss_cons (ps_set (i := 2) sc_lines_put.nd rfl (Or.inl rfl) (pe_lst pa_nil))
      (pss_cons (ps_for PassesOwn.never rfl (pi_list (pv 0)) (pg_name (i := 3) sc_lines_put.nd rfl (Or.inl rfl)) pss_never)
      (pss_one (ps_ret (pv 2))))), ?_⟩
    refine ⟨few, fun l hl => ?_⟩
    have s2 : Same H (upd H l (.lst [])) := (Same.refl H).new hl
    refine ⟨_, rfl, a, rfl, ⟨_, SqL.of (s2 a _ ha)⟩, for_list (K := K) (a := a) (xs := []) (fun i σ H2 => σ = [some (.ref a), some f, some (.ref l), none] ∧ H2 = upd H l (.lst [])) ⟨rfl, rfl⟩ (fun i σ H2 _ ⟨_, e⟩ => by subst e; exact SqL.of (s2 a _ ha)) (fun i x σ H2 hx => by simp at hx) ?_⟩
    rintro σ H2 ⟨rfl, rfl⟩
    exact ⟨_, rfl, q l _ s2 hl upd_same⟩
theorem ok_standing_lines (T : Txt mg) (O : Ok K mg A) : FnOk P w K mg base CX0 2 A.a_standing_lines A.d_standing_lines ["patches", "file"] (sp0 1) := by
  have G_live_patches : FnOk P w K mg base CX0 1 A.a_live_patches A.d_live_patches ["patches"] (sp0 0) := ok_live_patches T O
  have G_lines_put : FnOk P w K mg base CX0 1 A.a_lines_put A.d_lines_put ["patches", "file"] (sp0 1) := ok_lines_put T O
  refine O.f_standing_lines.ok sc_standing_lines (fun vs H Q E h => ?_) (fun cdv A0 outer s H vs Q E hr h => ?_)
  · obtain ⟨a, r, rfl, hr, _⟩ := h
    rw [List.length_cons, hr]; rfl
  · obtain ⟨a, r, rfl, hl, ha, q⟩ := h
    cases r with
    | nil => cases hl
    | cons f r =>
    cases r with
    | cons _ _ => cases hl
    | nil =>
    refine ⟨_, (pss_cons (ps_set (i := 2) sc_standing_lines.nd rfl (Or.inl rfl) (pe_call G_live_patches (hr.mono (by decide)) (by rfl) O.m_live_patches O.f_live_patches.kp O.b_live_patches .nil pass0 (pa_cons (pv 0) pa_nil)))
      (pss_cons (ps_set (i := 3) sc_standing_lines.nd rfl (Or.inr rfl) pe_dnewK)
      (pss_cons (ps_for PassesOwn.never rfl (pi_list (pv 2)) (pg_name (i := 4) sc_standing_lines.nd rfl (Or.inl rfl)) pss_never)
      (pss_one (ps_ret (pe_lc n_standing_lines (defScope s_standing_lines).names [6] rfl (pi_list (pe_call G_lines_put (hr.mono (by decide)) (by rfl) O.m_lines_put O.f_lines_put.kp O.b_lines_put .nil pass0 (pa_cons (pv 2) (pa_cons (pv 1) pa_nil)))) rfl (by decide +kernel) (fun _ _ _ _ => (pg_name (i := 6) sc_standing_lines.nd rfl (Or.inl rfl))) (fun _ _ _ _ => pq_never) (fun _ _ _ _ => ⟨_, pe_never, by (try simp only [block_K]); rfl⟩))))))), ?_⟩
    refine ⟨_, rfl, a, _, rfl, rfl, ha, fun l H1 s1 hl0 hl1 => ?_⟩
    intro g hg
    have s2 : Same H1 (upd H1 g (.dK [])) := (Same.refl H1).new hg
    refine ⟨_, rfl, l, rfl, ⟨_, SqL.of (s2 l _ hl1)⟩, for_list (K := K) (a := l) (xs := []) (fun i σ H2 => σ = [some (.ref a), some f, some (.ref l), some (.ref g), none, none, none] ∧ H2 = upd H1 g (.dK [])) ⟨rfl, rfl⟩ (fun i σ H2 _ ⟨_, e⟩ => by subst e; exact SqL.of (s2 l _ hl1)) (fun i x σ H2 hx => by simp at hx) ?_⟩
    rintro σ H2 ⟨rfl, rfl⟩
    refine ⟨_, rfl, _, rfl, l, _, rfl, rfl, s2 l _ hl1, fun p H3 s3 hp0 hp1 => ?_⟩
    refine ⟨p, rfl, ⟨_, SqL.of hp1⟩, lc_list (K := K) (a := p) (xs := []) (by decide) (fun i ys σ H4 => ys = [] ∧ H4 = H3) ⟨rfl, rfl⟩ (fun i ys σ H4 _ ⟨e, e2⟩ => by subst e e2; exact ⟨SqL.of hp1, Nat.zero_le _⟩) (fun i x ys σ H4 hk => by simp at hk) ?_⟩
    rintro ys σ H4 ⟨rfl, rfl⟩ p2 hp2
    have s4 : Same H H4 := (s1.trans s2).trans s3
    exact q p2 _ (s4.new hp2) (s4.free hp2) upd_same
def sp0D : Sp := fun vs H Q _ => ∃ a : Addr, vs = [.ref a] ∧ H a = some (.lst []) ∧ ∀ p H', Same H H' → H p = none → H' p = some (.dK []) → Q (.ref p) H'
theorem ok_straight_ahead (T : Txt mg) (O : Ok K mg A) : FnOk P w K mg base CX0 1 A.a_straight_ahead A.d_straight_ahead ["lines"] sp0D := by
  refine O.f_straight_ahead.ok sc_straight_ahead (fun vs H Q E h => ?_) (fun cdv A0 outer s H vs Q E hr h => ?_)
  · obtain ⟨a, rfl, _⟩ := h
    rfl
  · obtain ⟨a, rfl, ha, q⟩ := h
    refine ⟨_, (pss_cons (ps_set (i := 1) sc_straight_ahead.nd rfl (Or.inl rfl) pe_dnewK)
      (pss_cons (ps_for PassesOwn.never rfl (pi_list (pv 0)) (pg_name (i := 2) sc_straight_ahead.nd rfl (Or.inl rfl)) pss_never)
      (pss_cons (ps_for PassesOwn.never rfl (pi_list (pv 0)) (pg_name (i := 2) sc_straight_ahead.nd rfl (Or.inl rfl)) pss_never)
      (pss_one (ps_ret (pv 1)))))), ?_⟩
    intro t ht
    have s1 : Same H (upd H t (.dK [])) := (Same.refl H).new ht
    refine ⟨_, rfl, a, rfl, ⟨_, SqL.of (s1 a _ ha)⟩, for_list (K := K) (a := a) (xs := []) (fun i σ H2 => σ = [some (.ref a), some (.ref t), none] ∧ H2 = upd H t (.dK [])) ⟨rfl, rfl⟩ (fun i σ H2 _ ⟨_, e⟩ => by subst e; exact SqL.of (s1 a _ ha)) (fun i x σ H2 hx => by simp at hx) ?_⟩
    rintro σ H2 ⟨rfl, rfl⟩
    refine ⟨_, rfl, a, rfl, ⟨_, SqL.of (s1 a _ ha)⟩, for_list (K := K) (a := a) (xs := []) (fun i σ H2 => σ = [some (.ref a), some (.ref t), none] ∧ H2 = upd H t (.dK [])) ⟨rfl, rfl⟩ (fun i σ H2 _ ⟨_, e⟩ => by subst e; exact SqL.of (s1 a _ ha)) (fun i x σ H2 hx => by simp at hx) ?_⟩
    rintro σ H2 ⟨rfl, rfl⟩
    exact ⟨_, rfl, q t _ s1 ht upd_same⟩
theorem ok_all_ahead (T : Txt mg) (O : Ok K mg A) : FnOk P w K mg base CX0 2 A.a_all_ahead A.d_all_ahead ["lines"] sp0D := by
  have G_straight_ahead : FnOk P w K mg base CX0 1 A.a_straight_ahead A.d_straight_ahead ["lines"] sp0D := ok_straight_ahead T O
  refine O.f_all_ahead.ok sc_all_ahead (fun vs H Q E h => ?_) (fun cdv A0 outer s H vs Q E hr h => ?_)
  · obtain ⟨a, rfl, _⟩ := h
    rfl
  · obtain ⟨a, rfl, ha, q⟩ := h
    refine ⟨_, (pss_cons (ps_set (i := 1) sc_all_ahead.nd rfl (Or.inl rfl) (pe_call G_straight_ahead (hr.mono (by decide)) (by rfl) O.m_straight_ahead O.f_straight_ahead.kp O.b_straight_ahead .nil pass0 (pa_cons (pv 0) pa_nil)))
      (pss_cons (ps_set (i := 2) sc_all_ahead.nd rfl (Or.inr rfl) pe_dnewK)
      (pss_cons (ps_for PassesOwn.never rfl (pi_list (pv 0)) (pg_name (i := 3) sc_all_ahead.nd rfl (Or.inl rfl)) pss_never)
      (pss_one (ps_ret (pv 2)))))), ?_⟩
    refine ⟨_, rfl, a, rfl, ha, fun st H1 s1 _ _ => ?_⟩
    intro t ht
    have s2 : Same H (upd H1 t (.dK [])) := s1.new ht
    refine ⟨_, rfl, a, rfl, ⟨_, SqL.of (s2 a _ ha)⟩, for_list (K := K) (a := a) (xs := []) (fun i σ H2 => σ = [some (.ref a), some (.ref st), some (.ref t), none, none, none, none, none] ∧ H2 = upd H1 t (.dK [])) ⟨rfl, rfl⟩ (fun i σ H2 _ ⟨_, e⟩ => by subst e; exact SqL.of (s2 a _ ha)) (fun i x σ H2 hx => by simp at hx) ?_⟩
    rintro σ H2 ⟨rfl, rfl⟩
    exact ⟨_, rfl, q t _ s2 (s1.free ht) upd_same⟩
theorem ok_row_of (T : Txt mg) (O : Ok K mg A) : FnOk P w K mg base CX0 1 A.a_row_of A.d_row_of ["lines", "ahead"] (sp0 1) := by
  refine O.f_row_of.ok sc_row_of (fun vs H Q E h => ?_) (fun cdv A0 outer s H vs Q E hr h => ?_)
  · obtain ⟨a, r, rfl, hr, _⟩ := h
    rw [List.length_cons, hr]; rfl
  · obtain ⟨a, r, rfl, hl, ha, q⟩ := h
    cases r with
    | nil => cases hl
    | cons f r =>
    cases r with
    | cons _ _ => cases hl
    | nil =>
    refine ⟨_, (pss_cons (ps_set (i := 2) sc_row_of.nd rfl (Or.inl rfl) pe_dnewK)
      (pss_cons (ps_set (i := 3) sc_row_of.nd rfl (Or.inl rfl) pe_dnewK)
      (pss_cons (ps_for PassesOwn.never rfl (pi_list (pv 0)) (pg_name (i := 4) sc_row_of.nd rfl (Or.inr rfl)) pss_never)
      (pss_cons (ps_set (i := 5) sc_row_of.nd rfl (Or.inl rfl) (pe_lst pa_nil))
      (pss_cons (ps_while PassesOwn.never (pt_truth (pv 3) (fun _ => rfl)) pss_never)
      (pss_one (ps_ret (pv 5)))))))), ?_⟩
    intro b hb w hw
    have s1 : Same H (upd (upd H b (.dK [])) w (.dK [])) := ((Same.refl H).new hb).new hw
    refine ⟨_, rfl, a, rfl, ⟨_, SqL.of (s1 a _ ha)⟩, for_list (K := K) (a := a) (xs := []) (fun i σ H2 => σ = [some (.ref a), some f, some (.ref b), some (.ref w), none, none, none, none] ∧ H2 = upd (upd H b (.dK [])) w (.dK [])) ⟨rfl, rfl⟩ (fun i σ H2 _ ⟨_, e⟩ => by subst e; exact SqL.of (s1 a _ ha)) (fun i x σ H2 hx => by simp at hx) ?_⟩
    rintro σ H2 ⟨rfl, rfl⟩
    refine ⟨few, fun r hr => ?_⟩
    have s2 : Same H (upd (upd (upd H b (.dK [])) w (.dK [])) r (.lst [])) := s1.new hr
    have hw2 : (upd (upd (upd H b (.dK [])) w (.dK [])) r (.lst [])) w = some (.dK []) := look_new hr upd_same
    refine ⟨fun m σ H3 => m = 0 ∧ σ = [some (.ref a), some f, some (.ref b), some (.ref w), none, some (.ref r), none, none] ∧ H3 = upd (upd (upd H b (.dK [])) w (.dK [])) r (.lst []), ⟨0, rfl, rfl, rfl⟩, ?_⟩
    rintro m σ H3 ⟨rfl, rfl, rfl⟩
    refine ⟨_, rfl, false, .inr (.inr ⟨_, hw2, rfl⟩), iteF ?_⟩
    exact ⟨_, rfl, q r _ s2 (s1.free hr) upd_same⟩
end
end PK


set_option Elab.async false
set_option linter.all false
set_option maxRecDepth 100000
namespace PK
open PySem L2
def stF (a l : Addr) : List (Str × V) := [("ahead", .ref a), ("lines", .ref l)]
theorem stF_eq (a l : Addr) : putF "lines" (.ref l) (putF "ahead" (.ref a) []) = stF a l := by kernel_rfl
theorem stF_lines (a l : Addr) : (stF a l).lookup ("lines" : Str) = some (V.ref l) := by kernel_rfl
theorem stF_ahead (a : Addr) : (putF ("ahead" : Str) (.ref a) []).lookup ("ahead" : Str) = some (V.ref a) := by kernel_rfl
section
variable {P : Program} {w : World} {K : PySem.W.Frag} {mg : Str → Option Value} {base : Heap} {A : Ad}
def spSInit (C : Addr) : Sp := fun vs H Q _ => ∃ (p dx a : Addr) (f : V), vs = [.ref p, .ref a, f] ∧ H p = some (.ins C dx []) ∧ H a = some (.lst []) ∧
  ∀ (H' : Hp) (ah l : Addr), (∀ b o, H b = some o → b ≠ p → H' b = some o) → H' p = some (.ins C dx (stF ah l)) → H' l = some (.lst []) → Q .non H'
theorem ok_Sight_init (T : Txt mg) (O : Ok K mg A) : FnOk P w K mg base CX0 3 A.a_Sight___init__ A.d_Sight___init__ ["self", "patches", "file"] (spSInit A.C_Sight) := by
  have G_all_ahead : FnOk P w K mg base CX0 2 A.a_all_ahead A.d_all_ahead ["lines"] sp0D := ok_all_ahead T O
  have G_lines_put : FnOk P w K mg base CX0 1 A.a_lines_put A.d_lines_put ["patches", "file"] (sp0 1) := ok_lines_put T O
  have G_standing_lines : FnOk P w K mg base CX0 2 A.a_standing_lines A.d_standing_lines ["patches", "file"] (sp0 1) := ok_standing_lines T O
  have G_row_of : FnOk P w K mg base CX0 1 A.a_row_of A.d_row_of ["lines", "ahead"] (sp0 1) := ok_row_of T O
  refine O.f_Sight___init__.ok sc_Sight___init__ (fun vs H Q E h => ?_) (fun cdv A0 outer s H vs Q E hr h => ?_)
  · obtain ⟨p, dx, a, f, rfl, _⟩ := h
    rfl
  · obtain ⟨p, dx, a, f, rfl, hp, ha, q⟩ := h
    have npa : a ≠ p := ne_of ha hp (by intro z; cases z)
    refine ⟨_, (pss_cons (ps_fld (pv 0) (pe_call G_all_ahead (hr.mono (by decide)) (by rfl) O.m_all_ahead O.f_all_ahead.kp O.b_all_ahead .nil pass0 (pa_cons (pe_call G_lines_put (hr.mono (by decide)) (by rfl) O.m_lines_put O.f_lines_put.kp O.b_lines_put .nil pass0 (pa_cons (pv 1) (pa_cons (pv 2) pa_nil))) pa_nil)) rfl)
      (pss_one (ps_fld (pv 0) (pe_call G_row_of (hr.mono (by decide)) (by rfl) O.m_row_of O.f_row_of.kp O.b_row_of .nil pass0 (pa_cons (pe_call G_standing_lines (hr.mono (by decide)) (by rfl) O.m_standing_lines O.f_standing_lines.kp O.b_standing_lines .nil pass0 (pa_cons (pv 1) (pa_cons (pv 2) pa_nil))) (pa_cons (pe_fld (pv 0) rfl) pa_nil))) rfl))), ?_⟩
    refine ⟨_, rfl, _, rfl, a, _, rfl, rfl, ha, fun l1 H1 s1 h10 h11 => ?_⟩
    refine ⟨l1, rfl, h11, fun ah H2 s2 h20 h21 => ?_⟩
    have s02 : Same H H2 := s1.trans s2
    refine ⟨_, rfl, p, A.C_Sight, dx, _, rfl, s02 p _ hp, O.c_Sight, O.na_Sight_ahead, (by show 0 < 1000; decide), ?_⟩
    have ha3 : (upd H2 p (.ins A.C_Sight dx (putF "ahead" (.ref ah) []))) a = some (.lst []) := by rw [upd_ne npa]; exact s02 a _ ha
    refine ⟨_, rfl, _, rfl, a, _, rfl, rfl, ha3, fun st H4 s4 h40 h41 => ?_⟩
    have hp4 : H4 p = some (.ins A.C_Sight dx (putF "ahead" (.ref ah) [])) := s4 p _ upd_same
    refine ⟨_, rfl, p, A.C_Sight, dx, _, _, rfl, hp4, O.c_Sight, O.na_Sight_ahead, stF_ahead ah, st, _, rfl, rfl, h41, fun l H5 s5 h50 h51 => ?_⟩
    refine ⟨_, rfl, p, A.C_Sight, dx, _, rfl, s5 p _ hp4, O.c_Sight, O.na_Sight_lines, (by show 1 < 1000; decide), ?_⟩
    have nlp : l ≠ p := fun z => by rw [z, hp4] at h50; cases h50
    refine q _ ah l (fun b o hb nb => ?_) (Eq.trans upd_same (congrArg (fun l => some (HO.ins A.C_Sight dx l)) (stF_eq ah l))) (by rw [upd_ne nlp]; exact h51)
    rw [upd_ne nb]
    refine s5 b o (s4 b o ?_)
    rw [upd_ne nb]
    exact s02 b o hb
def spSight (A : Ad) : Sp := fun vs H Q _ => ∃ (d : Addr) (ns : List Str) (x : Str) (f : V), vs = [.ref d, .str x, f] ∧ DeskE A.C_Desk H d ns ∧ x ∈ ns ∧
  ∀ p dx ah l H', Same H H' → H p = none → H' p = some (.ins A.C_Sight dx (stF ah l)) → H' l = some (.lst []) → Q (.ref p) H'
theorem ok_sight_of (T : Txt mg) (O : Ok K mg A) : FnOk P w K mg base CX0 5 A.a_Desk_sight_of A.d_Desk_sight_of ["self", "store", "file"] (spSight A) := by
  have G_Sight___init__ : FnOk P w K mg base CX0 3 A.a_Sight___init__ A.d_Sight___init__ ["self", "patches", "file"] (spSInit A.C_Sight) := ok_Sight_init T O
  have G_Desk_patches_of : FnOk P w K mg base CX0 3 A.a_Desk_patches_of A.d_Desk_patches_of ["self", "store"] (spList0 A.C_Desk) := ok_patches_of T O
  refine O.f_Desk_sight_of.ok sc_Desk_sight_of (fun vs H Q E h => ?_) (fun cdv A0 outer s H vs Q E hr h => ?_)
  · obtain ⟨d, ns, x, f, rfl, _⟩ := h
    rfl
  · obtain ⟨d, ns, x, f, rfl, D, hx, q⟩ := h
    obtain ⟨⟨dx, m, n, h, kH, h1, h2, h3, h4, n1, n2, hp⟩, nd, _⟩ := id D
    refine ⟨_, (pss_one (ps_ret (pe_make O.k_Sight G_Sight___init__ (hr.mono (by decide)) (by rfl) O.m_Sight O.b_Sight___init__ .nil pass0 (pa_cons (pe_meth (pv 0) O.c_Desk O.t_Desk_patches_of G_Desk_patches_of (hr.mono (by decide)) O.b_Desk_patches_of .nil pass0 (pa_cons (pv 1) pa_nil)) (pa_cons (pv 2) pa_nil))))), ?_⟩
    refine ⟨_, rfl, d, dx, _, rfl, h1, (nolk m n h).2.2.1, _, rfl, d, ns, x, rfl, D, hx, fun a H1 s1 ha0 ha1 => ?_⟩
    refine ⟨_, rfl, ?_⟩
    intro p px np npx nxp
    have s2 : Same H1 (upd (upd H1 px (.own p)) p (.ins A.C_Sight px [])) := fun b o e => by
      rw [upd_ne (ne_of_none e np), upd_ne (ne_of_none e npx)]
      exact e
    refine ⟨p, px, a, f, rfl, upd_same, s2 a _ ha1, fun H' ah l k hp' hl => ⟨rfl, ?_⟩⟩
    refine q p px ah l H' (fun b o e => k b o (s2 b o (s1 b o e)) (ne_of_none (s1 b o e) np)) (s1.free np) hp' hl
def spRow0 (C : Addr) : Sp := fun vs H Q _ => ∃ (d : Addr) (ns : List Str) (x : Str) (f : V), vs = [.ref d, .str x, f] ∧ DeskE C H d ns ∧ x ∈ ns ∧ ∀ p H', Same H H' → H p = none → H' p = some (.lst []) → Q (.ref p) H'
theorem ok_row (T : Txt mg) (O : Ok K mg A) : FnOk P w K mg base CX0 6 A.a_Desk_row A.d_Desk_row ["self", "store", "file"] (spRow0 A.C_Desk) := by
  have G_Desk_sight_of : FnOk P w K mg base CX0 5 A.a_Desk_sight_of A.d_Desk_sight_of ["self", "store", "file"] (spSight A) := ok_sight_of T O
  refine O.f_Desk_row.ok sc_Desk_row (fun vs H Q E h => ?_) (fun cdv A0 outer s H vs Q E hr h => ?_)
  · obtain ⟨d, ns, x, f, rfl, _⟩ := h
    rfl
  · obtain ⟨d, ns, x, f, rfl, D, hx, q⟩ := h
    obtain ⟨⟨dx, m, n, h, kH, h1, h2, h3, h4, n1, n2, hp⟩, nd, _⟩ := id D
    refine ⟨_, (pss_one (ps_ret (pe_lc n_Desk_row (defScope s_Desk_row).names [3] rfl (pi_list (pe_fld (pe_meth (pv 0) O.c_Desk O.t_Desk_sight_of G_Desk_sight_of (hr.mono (by decide)) O.b_Desk_sight_of .nil pass0 (pa_cons (pv 1) (pa_cons (pv 2) pa_nil))) rfl)) rfl (by decide +kernel) (fun _ _ _ _ => (pg_name (i := 3) sc_Desk_row.nd rfl (Or.inl rfl))) (fun _ _ _ _ => pq_nil) (fun _ _ _ _ => ⟨_, pe_never, by (try simp only [block_K]); rfl⟩)))), ?_⟩
    refine ⟨_, rfl, d, dx, _, rfl, h1, (nolk m n h).2.2.2.1, _, rfl, _, rfl, d, ns, x, f, rfl, D, hx, fun p px ah l H1 s1 hp0 hp1 hl => ?_⟩
    refine ⟨p, A.C_Sight, px, _, _, rfl, hp1, O.c_Sight, O.na_Sight_lines, stF_lines ah l, l, rfl, ⟨_, SqL.of hl⟩, lc_list (K := K) (a := l) (xs := []) (by decide) (fun i ys σ H4 => ys = [] ∧ H4 = H1) ⟨rfl, rfl⟩ (fun i ys σ H4 _ ⟨e, e2⟩ => by subst e e2; exact ⟨SqL.of hl, Nat.zero_le _⟩) (fun i x ys σ H4 hk => by simp at hk) ?_⟩
    rintro ys σ H4 ⟨rfl, rfl⟩ p2 hp2
    exact q p2 _ (s1.new hp2) (s1.free hp2) upd_same
theorem ok_files_with_lines (T : Txt mg) (O : Ok K mg A) : FnOk P w K mg base CX0 3 A.a_files_with_lines A.d_files_with_lines ["patches"] (sp0 0) := by
  refine O.f_files_with_lines.ok sc_files_with_lines (fun vs H Q E h => ?_) (fun cdv A0 outer s H vs Q E hr h => ?_)
  · obtain ⟨a, r, rfl, hr, _⟩ := h
    rw [List.length_cons, hr]; rfl
  · obtain ⟨a, r, rfl, hl, ha, q⟩ := h
    cases r with
    | cons _ _ => cases hl
    | nil =>
    refine ⟨_, (pss_cons (ps_lc (j := 1) n_files_with_lines (defScope s_files_with_lines).names [2] sc_files_with_lines.nd rfl rfl rfl (pi_list (pv 0)) rfl (by decide +kernel) (fun _ _ _ _ => (pg_name (i := 2) sc_files_with_lines.nd rfl (Or.inl rfl))) (fun _ _ _ _ => pq_never) (fun _ _ _ _ => ⟨_, pe_never, by (try simp only [block_K]); rfl⟩))
      (pss_one (ps_ret (pe_lc n_files_with_lines (defScope s_files_with_lines).names [3] rfl (pi_list (pe_sortset0 rfl (by rfl) T.b_sorted (by rfl) T.b_set (pa_cons (pv 1) pa_nil))) rfl (by decide +kernel) (fun _ _ _ _ => (pg_name (i := 3) sc_files_with_lines.nd rfl (Or.inl rfl))) (fun _ _ _ _ => pq_never) (fun _ _ _ _ => ⟨_, pe_never, by (try simp only [block_K]); rfl⟩))))), ?_⟩
    refine ⟨_, rfl, a, rfl, ⟨_, SqL.of ha⟩, lc_list (K := K) (a := a) (xs := []) (by decide) (fun i ys σ H4 => ys = [] ∧ H4 = H) ⟨rfl, rfl⟩ (fun i ys σ H4 _ ⟨e, e2⟩ => by subst e e2; exact ⟨SqL.of ha, Nat.zero_le _⟩) (fun i x ys σ H4 hk => by simp at hk) ?_⟩
    rintro ys σ H4 ⟨rfl, rfl⟩ p2 hp2
    have s1 : Same H4 (upd H4 p2 (.lst [])) := (Same.refl H4).new hp2
    refine ⟨_, rfl, p2, rfl, SqL.of upd_same, fun p3 hp3 => ?_⟩
    have s2 : Same H4 (upd (upd H4 p2 (.lst [])) p3 (.lst [])) := s1.new hp3
    have h3 : (upd (upd H4 p2 (.lst [])) p3 (.lst [])) p3 = some (.lst []) := upd_same
    generalize upd (upd H4 p2 (.lst [])) p3 (.lst []) = H5 at s2 h3
    refine ⟨p3, rfl, ⟨_, SqL.of h3⟩, lc_list (K := K) (a := p3) (xs := []) (by decide) (fun i ys σ H6 => ys = [] ∧ H6 = H5) ⟨rfl, rfl⟩ (fun i ys σ H6 _ ⟨e, e2⟩ => by subst e e2; exact ⟨SqL.of h3, Nat.zero_le _⟩) (fun i x ys σ H6 hk => by simp at hk) ?_⟩
    rintro ys σ H6 ⟨rfl, rfl⟩ p7 hp7
    exact q p7 _ (s2.new hp7) (s2.free hp7) upd_same
theorem ok_files (T : Txt mg) (O : Ok K mg A) : FnOk P w K mg base CX0 4 A.a_Desk_files A.d_Desk_files ["self", "store"] (spList0 A.C_Desk) := by
  have G_files_with_lines : FnOk P w K mg base CX0 3 A.a_files_with_lines A.d_files_with_lines ["patches"] (sp0 0) := ok_files_with_lines T O
  have G_Desk_patches_of : FnOk P w K mg base CX0 3 A.a_Desk_patches_of A.d_Desk_patches_of ["self", "store"] (spList0 A.C_Desk) := ok_patches_of T O
  refine O.f_Desk_files.ok sc_Desk_files (fun vs H Q E h => ?_) (fun cdv A0 outer s H vs Q E hr h => ?_)
  · obtain ⟨d, ns, x, rfl, _⟩ := h
    rfl
  · obtain ⟨d, ns, x, rfl, D, hx, q⟩ := h
    obtain ⟨⟨dx, m, n, h, kH, h1, h2, h3, h4, n1, n2, hp⟩, nd, _⟩ := id D
    refine ⟨_, (pss_one (ps_ret (pe_call G_files_with_lines (hr.mono (by decide)) (by rfl) O.m_files_with_lines O.f_files_with_lines.kp O.b_files_with_lines .nil pass0 (pa_cons (pe_meth (pv 0) O.c_Desk O.t_Desk_patches_of G_Desk_patches_of (hr.mono (by decide)) O.b_Desk_patches_of .nil pass0 (pa_cons (pv 1) pa_nil)) pa_nil)))), ?_⟩
    refine ⟨_, rfl, d, dx, _, rfl, h1, (nolk m n h).2.2.1, _, rfl, d, ns, x, rfl, D, hx, fun a H1 s1 ha0 ha1 => ?_⟩
    exact ⟨a, _, rfl, rfl, ha1, fun p H2 s2 hp0 hp1 => q p H2 (s1.trans s2) (s1.free hp0) hp1⟩
end
end PK


set_option Elab.async false
set_option linter.all false
set_option maxRecDepth 100000
/-! the law's small defs: cells and names -/
namespace PK
open PySem L2
def cellAt (ns : List Int) (k : Int) : Int := (ns[k.toNat]?).getD 0
def signAt (i : Int) : Str := ⟨#[(SIGNS.cps[(i % 36).toNat]?).getD 0]⟩
def nameTo (cell k : Int) : Nat → Str
  | 0 => Str.ofString ""
  | j + 1 => nameTo cell k j ++ (if (j : Int) = cell / 12 % (1 + cell % 12) then signAt (k + cell / 144) else signAt (cell / 144 + 5 * (j : Int) + cell / 5184 % 2 * k * 7))
def nameOf (cell k : Int) : Str := nameTo cell k (1 + cell % 12).toNat
theorem signs36 : SIGNS.length = 36 := by decide +kernel
theorem signs36' : SIGNS.cps.size = 36 := signs36
theorem app_cps (a b : Str) : (a ++ b).cps.toList = a.cps.toList ++ b.cps.toList := Array.toList_append
theorem app_len (a b : Str) : (a ++ b).length = a.length + b.length := Array.size_append
theorem sign_at (i : Int) : ∃ c, atI SIGNS.cps.toList (i % 36) = some c ∧ signAt i = ⟨#[c]⟩ ∧ c ∈ SIGNS.cps.toList := by
  have b := mod_lt i 36 (by decide)
  obtain ⟨c, e, ev⟩ := atI_some (xs := SIGNS.cps.toList) b.1 (by rw [Array.length_toList, signs36']; exact b.2)
  rw [Array.getElem?_toList] at ev
  exact ⟨c, e, by unfold signAt; rw [ev]; rfl, List.mem_of_getElem? (i := (i % 36).toNat) (by rw [Array.getElem?_toList]; exact ev)⟩
theorem name_to (cell k : Int) : ∀ j, (nameTo cell k j).length = j ∧ ∀ c ∈ (nameTo cell k j).cps.toList, c ∈ SIGNS.cps.toList
  | 0 => ⟨by unfold nameTo; decide +kernel, fun c hc => by
      have : (nameTo cell k 0).cps.toList = [] := by unfold nameTo; decide +kernel
      rw [this] at hc; cases hc⟩
  | j + 1 => by
    have ⟨h1, h2⟩ := name_to cell k j
    unfold nameTo
    obtain ⟨c1, _, e1, m1⟩ := sign_at (k + cell / 144)
    obtain ⟨c2, _, e2, m2⟩ := sign_at (cell / 144 + 5 * (j : Int) + cell / 5184 % 2 * k * 7)
    split
    · rw [e1, app_len, app_cps]
      refine ⟨by rw [h1]; rfl, fun c hc => ?_⟩
      rcases List.mem_append.mp hc with hc | hc
      · exact h2 c hc
      · rw [List.mem_singleton.mp hc]; exact m1
    · rw [e2, app_len, app_cps]
      refine ⟨by rw [h1]; rfl, fun c hc => ?_⟩
      rcases List.mem_append.mp hc with hc | hc
      · exact h2 c hc
      · rw [List.mem_singleton.mp hc]; exact m2
theorem name_good (cell k : Int) : Good (nameOf cell k) := by
  obtain ⟨h1, h2⟩ := name_to cell k (1 + cell % 12).toNat
  have b := mod_lt cell 12 (by decide)
  exact ⟨by unfold nameOf; rw [h1]; omega, by unfold nameOf; rw [h1]; omega, h2⟩
theorem fine_of {x : Str} (h : x.length ≤ 1000) (hc : ∀ c ∈ x.cps.toList, c < 1114112) : Fine x := by
  refine ⟨?_, h⟩
  have z := PySem.StrLaws.reprText_len x fun c hc' => Nat.lt_trans (hc c hc') (by decide)
  omega
theorem signs_lt : ∀ c ∈ SIGNS.cps.toList, c < 1114112 := by decide +kernel
theorem Good.fine {x : Str} (g : Good x) : Fine x := fine_of (by have := g.2.1; omega) fun c hc => signs_lt c (g.2.2 c hc)
section
variable {P : Program} {w : World} {K : PySem.W.Frag} {mg : Str → Option Value} {base : Heap} {A : Ad}
def spCell (K : PySem.W.Frag) : Sp := fun vs H Q _ => ∃ (a : Addr) (ns : List Int) (k : Int), vs = [.ref a, .int k] ∧ SqL K H a (ns.map V.int) ∧ 0 ≤ k ∧ Q (.int (cellAt ns k)) H
theorem ok_cell (T : Txt mg) (O : Ok K mg A) : FnOk P w K mg base CX0 1 A.a__law_cell_at A.d__law_cell_at ["script", "k"] (spCell K) := by
  refine O.f__law_cell_at.ok sc__law_cell_at (fun vs H Q E h => ?_) (fun cdv A outer s H vs Q E hr h => ?_)
  · obtain ⟨a, ns, k, rfl, _⟩ := h
    rfl
  · obtain ⟨a, ns, k, rfl, ha, h0, q⟩ := h
    refine ⟨_, (pss_cons (ps_if (pt_cmpR op_lt (pv 1) (pe_callB call_len_seq (by rfl) T.b_len PySem.boot_len (pa_cons (pv 0) pa_nil)) (nomark _)) (pss_one (ps_ret (pe_ix ix_list (pv 0) (pv 1) (fun _ _ => rfl)))) pss_nil)
      (pss_one (ps_ret pe_int))), ?_⟩
    refine ⟨_, rfl, _, rfl, a, _, rfl, .inl ha, _, _, rfl, rfl, _, rfl, ?_⟩
    refine ite2 (fun hc => ?_) (fun hc => ?_)
    · have hc : k < ((ns.map V.int).length : Int) := of_decide_eq_true hc
      obtain ⟨v, e, ev⟩ := atI_some h0 hc
      rw [List.getElem?_map] at ev
      cases en : ns[k.toNat]? with
      | none => rw [en] at ev; cases ev
      | some z =>
        rw [en] at ev
        cases ev
        unfold cellAt at q
        rw [en] at q
        exact ⟨_, rfl, _, rfl, a, _, _, _, rfl, rfl, ha, e, q⟩
    · have hc : ¬ k < ((ns.map V.int).length : Int) := by simpa using hc
      unfold cellAt at q
      rw [List.length_map] at hc
      rw [List.getElem?_eq_none (by omega)] at q
      exact q
def spName : Sp := fun vs H Q _ => ∃ (c k : Int), vs = [.int c, .int k] ∧ Q (.str (nameOf c k)) H
set_option maxHeartbeats 4000000 in
theorem ok_name (T : Txt mg) (O : Ok K mg A) : FnOk P w K mg base CX0 1 A.a__law_name A.d__law_name ["cell", "k"] spName := by
  refine O.f__law_name.ok sc__law_name (fun vs H Q E h => ?_) (fun cdv A outer s H vs Q E hr h => ?_)
  · obtain ⟨c, k, rfl, _⟩ := h
    rfl
  · obtain ⟨c, k, rfl, q⟩ := h
    refine ⟨_, (pss_cons (ps_set (i := 2) sc__law_name.nd rfl (Or.inl rfl) pe_str)
      (pss_cons (ps_set (i := 3) sc__law_name.nd rfl (Or.inl rfl) (pe_op op_add pe_int (pe_op op_mod (pv 0) pe_int)))
      (pss_cons (ps_set (i := 4) sc__law_name.nd rfl (Or.inl rfl) (pe_op op_fdiv (pv 0) pe_int))
      (pss_cons (ps_set (i := 5) sc__law_name.nd rfl (Or.inl rfl) (pe_op op_mul (pe_op op_mul (pe_op op_mod (pe_op op_fdiv (pv 0) pe_int) pe_int) (pv 1)) pe_int))
      (pss_cons (ps_set (i := 6) sc__law_name.nd rfl (Or.inl rfl) pe_str)
      (pss_cons (ps_for PassesOwn.never rfl (pi_range1 rfl T.b_range (pa_cons (pv 3) pa_nil)) (pg_name (i := 7) sc__law_name.nd rfl (Or.inl rfl)) (pss_one (ps_if (pt_cmpR op_eq (pv 7) (pe_op op_mod (pe_op op_fdiv (pv 0) pe_int) (pv 3)) (nomark _)) (pss_one (ps_set (i := 6) sc__law_name.nd rfl (Or.inl rfl) (pe_op op_add_str (pv 6) (pe_ix ix_str (pv 2) (pe_op op_mod (pe_op op_add (pv 1) (pv 4)) pe_int) (fun _ _ => rfl))))) (pss_one (ps_set (i := 6) sc__law_name.nd rfl (Or.inl rfl) (pe_op op_add_str (pv 6) (pe_ix ix_str (pv 2) (pe_op op_mod (pe_op op_add (pe_op op_add (pv 4) (pe_op op_mul pe_int (pv 7))) (pv 5)) pe_int) (fun _ _ => rfl))))))))
      (pss_one (ps_ret (pv 6))))))))), ?_⟩
    have b := mod_lt c 12 (by decide)
    have b2 := mod_lt (c / 5184) 2 (by decide)
    refine ⟨_, rfl, _, _, rfl, rfl, (by show (0 : Int) < 12; decide), _, _, rfl, rfl, ?_⟩
    refine ⟨_, rfl, _, _, rfl, rfl, ⟨by decide, by decide⟩, ?_⟩
    refine ⟨_, rfl, _, _, rfl, rfl, ⟨by decide, by decide⟩, _, _, rfl, rfl, (by show (0 : Int) < 2; decide), _, rfl, _, _, rfl, rfl, .inl ⟨by omega, by omega⟩, _, _, rfl, rfl, .inr ⟨by decide, by decide⟩, ?_⟩
    refine ⟨_, rfl, _, rfl, by omega, by omega, ?_⟩
    refine for_range (fun j σ H2 => ∃ v, σ = [some (.int c), some (.int k), some (.str SIGNS), some (.int (1 + c % 12)), some (.int (c / 144)), some (.int (c / 5184 % 2 * k * 7)), some (.str (nameTo c k j)), v] ∧ H2 = H) ⟨none, rfl, rfl⟩ ?_ ?_
    · rintro j σ H2 hj ⟨v, rfl, rfl⟩
      have hlen := (name_to c k j).1
      have hz : (nameTo c k j).length + 1 ≤ sizeLine := Nat.le_trans (m := 13) (by omega) (by decide)
      refine ⟨_, rfl, _, rfl, _, _, rfl, rfl, ⟨by decide, by decide⟩, _, rfl, _, _, rfl, rfl, (by show (0 : Int) < 1 + c % 12; omega), rfl, _, rfl, ?_⟩
      refine ite2 (fun hc => ?_) (fun hc => ?_)
      · have hc : (0 : Int) + (j : Int) = c / 12 % (1 + c % 12) := V.int.inj (of_decide_eq_true hc)
        obtain ⟨cp, e, es, _⟩ := sign_at (k + c / 144)
        refine ⟨_, rfl, _, rfl, _, rfl, _, rfl, _, _, rfl, rfl, _, _, rfl, rfl, (by show (0 : Int) < 36; decide), _, _, cp, rfl, rfl, by rw [signs36]; decide, e, _, _, rfl, rfl, hz, some (.int (0 + (j : Int))), ?_, rfl⟩
        rw [nameTo, if_pos (by omega), es]
        rfl
      · have hc : ¬ (0 : Int) + (j : Int) = c / 12 % (1 + c % 12) := fun z => hc (decide_eq_true (congrArg V.int z))
        obtain ⟨cp, e, es, _⟩ := sign_at (c / 144 + 5 * (j : Int) + c / 5184 % 2 * k * 7)
        refine ⟨_, rfl, _, rfl, _, rfl, _, rfl, _, _, rfl, rfl, .inl ⟨by decide, by decide⟩, _, _, rfl, rfl, _, rfl, _, _, rfl, rfl, _, _, rfl, rfl, (by show (0 : Int) < 36; decide), _, _, cp, rfl, rfl, by rw [signs36]; decide, by rw [Int.zero_add]; exact e, _, _, rfl, rfl, hz, some (.int (0 + (j : Int))), ?_, rfl⟩
        rw [nameTo, if_neg (by omega), es]
        rfl
    · rintro σ H2 ⟨v, rfl, rfl⟩
      refine ⟨_, rfl, ?_⟩
      have : (1 + c % 12 - 0).toNat = (1 + c % 12).toNat := by rw [Int.sub_zero]
      exact q
end
end PK


set_option Elab.async false
set_option linter.all false
set_option maxRecDepth 100000
/-! the law's small defs: lists of names, which refusal -/
namespace PK
open PySem L2
theorem paired_str (l : List Str) : Paired (fun (x : Str) (v : V) => v = .str x) l (txts l) := by
  induction l with
  | nil => exact .nil
  | cons x r ih => exact .cons rfl ih
theorem paired_bl (l : List Bool) : Paired (fun (x : Bool) (v : V) => v = .bl x) l (l.map V.bl) := by
  induction l with
  | nil => exact .nil
  | cons x r ih => exact .cons rfl ih
theorem eq_strs {n : Nat} {K : PySem.W.Frag} {H : Hp} {a c : Addr} {x y : List Str} (h1 : SqL K H a (txts x)) (h2 : SqL K H c (txts y)) : EqV K H (n + 1) (.ref a) (.ref c) (decide (x = y)) :=
  EqV.list_of (F := fun (x : Str) (v : V) => v = .str x) (fun p q u v hu hv => by subst hu hv; exact EqV.str_of p q) h1 h2 (paired_str x) (paired_str y)
theorem eq_bls {n : Nat} {K : PySem.W.Frag} {H : Hp} {a c : Addr} {x y : List Bool} (h1 : SqL K H a (x.map V.bl)) (h2 : SqL K H c (y.map V.bl)) : EqV K H (n + 1) (.ref a) (.ref c) (decide (x = y)) :=
  EqV.list_of (F := fun (x : Bool) (v : V) => v = .bl x) (fun p q u v hu hv => by subst hu hv; exact EqV.bl_of p q) h1 h2 (paired_bl x) (paired_bl y)
section
variable {P : Program} {w : World} {K : PySem.W.Frag} {mg : Str → Option Value} {base : Heap} {A : Ad}
/-! ### _law_names_are -/
def spNames : Sp := fun vs H Q _ => ∃ (a b : Addr) (x y : List Str), vs = [.ref a, .ref b] ∧ H a = some (.lst (txts x)) ∧ H b = some (.lst (txts y)) ∧ Q (.bl (decide (x = y))) H
theorem kit_ll : PySem.W.kitOne K (.type "list") (.type "list") = some true := if_pos (by decide)
theorem kit_ss : PySem.W.kitOne K (.type "str") (.type "str") = some true := if_pos (by decide)
set_option maxHeartbeats 4000000 in
theorem ok_names_are (T : Txt mg) (O : Ok K mg A) : FnOk P w K mg base CX0 1 A.a__law_names_are A.d__law_names_are ["found", "due"] spNames := by
  refine O.f__law_names_are.ok sc__law_names_are (fun vs H Q E h => ?_) (fun cdv A outer s H vs Q E hr h => ?_)
  · obtain ⟨a, b, x, y, rfl, _⟩ := h
    rfl
  · obtain ⟨a, b, x, y, rfl, ha, hb, q⟩ := h
    refine ⟨_, (pss_cons (ps_if ((pw_or (pt_not (pt_val (pe_callB call_isinst (by rfl) T.b_isinstance PyProof.Rows.boot_isinstance (pa_cons (pv 0) (pa_cons (pe_bltn (v := .ty "list") (by rfl) T.b_list PyProof.Rows.boot_list rfl) pa_nil))))) (pw_or1 (pt_cmpR op_ne (pe_callB call_len_seq (by rfl) T.b_len PySem.boot_len (pa_cons (pv 0) pa_nil)) (pe_callB call_len_seq (by rfl) T.b_len PySem.boot_len (pa_cons (pv 1) pa_nil)) (nomark _)))).pt) (pss_one (ps_ret pe_bl)) pss_nil)
      (pss_cons (ps_for PassesOwn.never rfl (pi_list (pv 0)) (pg_name (i := 2) sc__law_names_are.nd rfl (Or.inl rfl)) (pss_one (ps_if (pt_not (pt_val (pe_callB call_isinst (by rfl) T.b_isinstance PyProof.Rows.boot_isinstance (pa_cons (pv 2) (pa_cons (pe_bltn (v := .ty "str") (by rfl) T.b_str PyProof.Rows.boot_str rfl) pa_nil))))) (pss_one (ps_ret pe_bl)) pss_nil)))
      (pss_one (ps_ret (pe_cmpR (op_eqD 3 (by exact hud hr)) (pv 0) (pv 1) (nomark _)))))), ?_⟩
    refine ⟨_, rfl, _, _, _, _, rfl, .lst ha, kit_ll, _, rfl, iteF ?_⟩
    refine ⟨_, rfl, a, _, rfl, .inl (SqL.of ha), _, rfl, b, _, rfl, .inl (SqL.of hb), rfl, _, rfl, ?_⟩
    refine ite2 (fun hc => ?_) (fun hc => ?_)
    · rw [decide_eq_false fun z => ?_] at q
      · exact q
      · subst z; simp at hc
    · refine ⟨_, rfl, a, rfl, ⟨_, SqL.of ha⟩, for_list (K := K) (a := a) (xs := txts x) (fun i σ H2 => ∃ v, σ = [some (.ref a), some (.ref b), v] ∧ H2 = H) ⟨none, rfl, rfl⟩ (fun i σ H2 _ ⟨_, _, e⟩ => by subst e; exact SqL.of ha) ?_ ?_⟩
      · rintro i v σ H2 hv ⟨u, rfl, rfl⟩
        obtain ⟨z, _, rfl⟩ := of_strs hv
        refine ⟨_, rfl, _, _, _, _, rfl, .str z, kit_ss, _, rfl, iteF ?_⟩
        exact ⟨_, rfl, rfl⟩
      · rintro σ H2 ⟨u, rfl, rfl⟩
        exact ⟨_, rfl, _, rfl, _, ⟨a, b, rfl, rfl⟩, eq_strs (SqL.of ha) (SqL.of hb), q⟩
/-! ### _law_due -/
def dueB (i : Int) : List Bool := (List.range 9).map fun (k : Nat) => decide ((k : Int) = i) || decide (k = 8)
def spDue : Sp := fun vs H Q _ => ∃ (i : Int), vs = [.int i] ∧ ∀ p, H p = none → Q (.ref p) (upd H p (.lst ((dueB i).map V.bl)))
set_option maxHeartbeats 4000000 in
theorem ok_due (T : Txt mg) (O : Ok K mg A) : FnOk P w K mg base CX0 1 A.a__law_due A.d__law_due ["place"] spDue := by
  refine O.f__law_due.ok sc__law_due (fun vs H Q E h => ?_) (fun cdv A outer s H vs Q E hr h => ?_)
  · obtain ⟨i, rfl, _⟩ := h
    rfl
  · obtain ⟨i, rfl, q⟩ := h
    refine ⟨_, (pss_one (ps_ret (pe_lc n__law_due (defScope s__law_due).names [1] rfl (pi_range1 rfl T.b_range (pa_cons pe_int pa_nil)) rfl (by decide +kernel) (fun _ _ _ _ => (pg_name (i := 1) sc__law_due.nd rfl (Or.inl rfl))) (fun _ _ _ _ => pq_nil) (fun _ _ _ _ => ⟨_, (pe_or (pe_cmpR op_eq (pv 1) (pv 0) (nomark _)) (pe_one (pe_cmpR op_eq (pv 1) pe_int (nomark _)))), by (try simp only [block_K]); rfl⟩)))), ?_⟩
    refine ⟨_, rfl, by decide, by decide, ?_⟩
    refine lc_range (n := 9) (by decide) (fun m ys σ H3 => ∃ (v : Option V), σ = [some (.int i), v] ∧ H3 = H ∧ ys = ((List.range m).map fun (k : Nat) => V.bl (decide ((k : Int) = i) || decide (k = 8)))) ⟨none, rfl, rfl, rfl⟩ (fun m ys σ H ⟨_, _, _, e⟩ => by rw [e]; simp) ?_ ?_
    · rintro m ys σ H3 hm ⟨v, rfl, rfl, rfl⟩
      refine ⟨_, rfl, _, rfl, rfl, ?_⟩
      have key : ∀ b : Bool, b = (decide ((m : Int) = i) || decide (m = 8)) → List.map (fun (k : Nat) => V.bl (decide ((k : Int) = i) || decide (k = 8))) (List.range m) ++ [V.bl b] = List.map (fun (k : Nat) => V.bl (decide ((k : Int) = i) || decide (k = 8))) (List.range (m + 1)) := fun b e => by
        rw [List.range_succ, List.map_append, e]; rfl
      refine ⟨_, rfl, ite2 (fun h => ?_) (fun h => ?_)⟩
      · have h : (0 : Int) + (m : Int) = i := V.int.inj (of_decide_eq_true h)
        exact ⟨_, rfl, rfl, key true (by rw [decide_eq_true (by omega : (m : Int) = i)]; rfl)⟩
      · have h : ¬ (m : Int) = i := fun z => h (decide_eq_true (congrArg V.int (by omega)))
        refine ⟨_, rfl, rfl, some (V.int (0 + (m : Int))), rfl, rfl, key _ ?_⟩
        rw [decide_eq_false h, Bool.false_or]
        by_cases e : m = 8
        · rw [decide_eq_true e, decide_eq_true (congrArg V.int (by omega))]
        · rw [decide_eq_false e, decide_eq_false fun z => e (by have := V.int.inj z; omega)]
    · rintro ys σ H3 ⟨v, rfl, rfl, rfl⟩ p hp
      have := q p hp
      unfold dueB at this
      rw [List.map_map] at this
      exact this
/-! ### _law_which -/
theorem boot_ValueError : bootBuiltins "ValueError" = some (.type "ValueError") := by decide +kernel
structure Wh (K : PySem.W.Frag) (A : Ad) (C : Addr) (i : Int) : Prop where
  y : ExcK K C
  b0 : PySem.W.kitOne K (.ref C) (.ref A.X_BadName) = some (decide ((0 : Int) = i))
  b1 : PySem.W.kitOne K (.ref C) (.ref A.X_NameTaken) = some (decide ((1 : Int) = i))
  b2 : PySem.W.kitOne K (.ref C) (.ref A.X_NoStore) = some (decide ((2 : Int) = i))
  b3 : PySem.W.kitOne K (.ref C) (.ref A.X_NoPatch) = some (decide ((3 : Int) = i))
  b4 : PySem.W.kitOne K (.ref C) (.ref A.X_NoLine) = some (decide ((4 : Int) = i))
  b5 : PySem.W.kitOne K (.ref C) (.ref A.X_Unsettled) = some (decide ((5 : Int) = i))
  b6 : PySem.W.kitOne K (.ref C) (.ref A.X_Same) = some (decide ((6 : Int) = i))
  b7 : PySem.W.kitOne K (.ref C) (.ref A.X_Leant) = some (decide ((7 : Int) = i))
  b8 : PySem.W.kitOne K (.ref C) (.type "ValueError") = some true
theorem wh_BadName (O : Ok K mg A) : Wh K A A.X_BadName 0 := ⟨O.y_BadName, O.i_BadName_BadName, O.i_BadName_NameTaken, O.i_BadName_NoStore, O.i_BadName_NoPatch, O.i_BadName_NoLine, O.i_BadName_Unsettled, O.i_BadName_Same, O.i_BadName_Leant, O.i_BadName_ValueError⟩
theorem wh_NameTaken (O : Ok K mg A) : Wh K A A.X_NameTaken 1 := ⟨O.y_NameTaken, O.i_NameTaken_BadName, O.i_NameTaken_NameTaken, O.i_NameTaken_NoStore, O.i_NameTaken_NoPatch, O.i_NameTaken_NoLine, O.i_NameTaken_Unsettled, O.i_NameTaken_Same, O.i_NameTaken_Leant, O.i_NameTaken_ValueError⟩
def spWhich (K : PySem.W.Frag) (A : Ad) : Sp := fun vs H Q _ => ∃ (e C : Addr) (i : Int), vs = [.ref e] ∧ H e = some (excO e C) ∧ Wh K A C i ∧ i ≠ 8 ∧ ∀ p H', Same H H' → H p = none → H' p = some (.lst ((dueB i).map V.bl)) → Q (.ref p) H'
theorem dueB_eq {i : Int} (h : i ≠ 8) : (dueB i).map V.bl = ([V.bl (decide ((0 : Int) = i)), V.bl (decide ((1 : Int) = i)), V.bl (decide ((2 : Int) = i)), V.bl (decide ((3 : Int) = i))] ++ [V.bl (decide ((4 : Int) = i)), V.bl (decide ((5 : Int) = i)), V.bl (decide ((6 : Int) = i)), V.bl (decide ((7 : Int) = i))]) ++ [V.bl true] := by
  unfold dueB
  simp [List.range_succ]
set_option maxHeartbeats 8000000 in
theorem ok_which (T : Txt mg) (O : Ok K mg A) : FnOkH P w K mg base 1 A.a__law_which A.d__law_which ["e"] (spWhich K A) := by
  refine O.f__law_which.okH sc__law_which (fun vs H Q E h => ?_) (fun cdv A0 outer s H vs Q E hr h => ?_)
  · obtain ⟨e, C, i, rfl, _⟩ := h
    rfl
  · obtain ⟨e, C, i, rfl, he, W, hi, q⟩ := h
    refine ⟨_, (pss_cons (ps_set (i := 1) sc__law_which.nd rfl (Or.inl rfl) (pe_lst (pa_cons (pe_callB call_isiX (by rfl) T.b_isinstance PyProof.Rows.boot_isinstance (pa_cons (pv 0) (pa_cons (pe_glob (v := .ref _) (by rfl) O.x_BadName.m rfl) pa_nil))) (pa_cons (pe_callB call_isiX (by rfl) T.b_isinstance PyProof.Rows.boot_isinstance (pa_cons (pv 0) (pa_cons (pe_glob (v := .ref _) (by rfl) O.x_NameTaken.m rfl) pa_nil))) (pa_cons (pe_callB call_isiX (by rfl) T.b_isinstance PyProof.Rows.boot_isinstance (pa_cons (pv 0) (pa_cons (pe_glob (v := .ref _) (by rfl) O.x_NoStore.m rfl) pa_nil))) (pa_cons (pe_callB call_isiX (by rfl) T.b_isinstance PyProof.Rows.boot_isinstance (pa_cons (pv 0) (pa_cons (pe_glob (v := .ref _) (by rfl) O.x_NoPatch.m rfl) pa_nil))) pa_nil))))))
      (pss_cons (ps_set (i := 1) sc__law_which.nd rfl (Or.inl rfl) (pe_op op_cat (pv 1) (pe_lst (pa_cons (pe_callB call_isiX (by rfl) T.b_isinstance PyProof.Rows.boot_isinstance (pa_cons (pv 0) (pa_cons (pe_glob (v := .ref _) (by rfl) O.x_NoLine.m rfl) pa_nil))) (pa_cons (pe_callB call_isiX (by rfl) T.b_isinstance PyProof.Rows.boot_isinstance (pa_cons (pv 0) (pa_cons (pe_glob (v := .ref _) (by rfl) O.x_Unsettled.m rfl) pa_nil))) (pa_cons (pe_callB call_isiX (by rfl) T.b_isinstance PyProof.Rows.boot_isinstance (pa_cons (pv 0) (pa_cons (pe_glob (v := .ref _) (by rfl) O.x_Same.m rfl) pa_nil))) (pa_cons (pe_callB call_isiX (by rfl) T.b_isinstance PyProof.Rows.boot_isinstance (pa_cons (pv 0) (pa_cons (pe_glob (v := .ref _) (by rfl) O.x_Leant.m rfl) pa_nil))) pa_nil)))))))
      (pss_one (ps_ret (pe_op op_cat (pv 1) (pe_lst (pa_cons (pe_callB call_isiX (by rfl) T.b_isinstance PyProof.Rows.boot_isinstance (pa_cons (pv 0) (pa_cons (pe_bltn (v := .ty "ValueError") (by rfl) T.b_ValueError boot_ValueError rfl) pa_nil))) pa_nil))))))), ?_⟩
    refine ⟨_, rfl, e, C, _, _, _, rfl, rfl, (fun u h => h), he, W.y, W.b0, ?_⟩
    refine ⟨_, rfl, e, C, _, _, _, rfl, rfl, (fun u h => h), he, W.y, W.b1, ?_⟩
    refine ⟨_, rfl, e, C, _, _, _, rfl, rfl, (fun u h => h), he, W.y, W.b2, ?_⟩
    refine ⟨_, rfl, e, C, _, _, _, rfl, rfl, (fun u h => h), he, W.y, W.b3, ?_⟩
    refine ⟨few, fun l1 hl1 => ?_⟩
    have s1 : ∀ o, Same H (upd H l1 o) := fun o => (Same.refl H).new hl1
    refine ⟨_, rfl, ?_⟩
    refine ⟨_, rfl, e, C, _, _, _, rfl, rfl, (fun u h => h), (s1 _ e _ he), W.y, W.b4, ?_⟩
    refine ⟨_, rfl, e, C, _, _, _, rfl, rfl, (fun u h => h), (s1 _ e _ he), W.y, W.b5, ?_⟩
    refine ⟨_, rfl, e, C, _, _, _, rfl, rfl, (fun u h => h), (s1 _ e _ he), W.y, W.b6, ?_⟩
    refine ⟨_, rfl, e, C, _, _, _, rfl, rfl, (fun u h => h), (s1 _ e _ he), W.y, W.b7, ?_⟩
    refine ⟨few, fun l2 hl2 => ?_⟩
    have s2 := fun o => Same.new (o := o) (s1 _) hl2
    refine ⟨l1, l2, _, _, rfl, rfl, look_new hl2 upd_same, upd_same, Nat.le_trans (m := 8) (by simp) (by decide), fun l3 hl3 => ?_⟩
    have s3 := fun o => Same.new (o := o) (s2 _) hl3
    refine ⟨_, rfl, ?_⟩
    refine ⟨_, rfl, e, C, _, _, _, rfl, rfl, (fun u h => h), (s3 _ e _ he), W.y, W.b8, ?_⟩
    refine ⟨few, fun l4 hl4 => ?_⟩
    have s4 := fun o => Same.new (o := o) (s3 _) hl4
    refine ⟨l3, l4, _, _, rfl, rfl, look_new hl4 upd_same, upd_same, Nat.le_trans (m := 9) (by simp) (by decide), fun l5 hl5 => ?_⟩
    refine q l5 _ ((s4 _).new hl5) ((s4 _).free hl5) ?_
    rw [dueB_eq hi]
    exact upd_same
/-! ### _law_asked -/
def spAsked (A : Ad) : Sp := fun vs H Q _ => ∃ (d : Addr) (ns : List Str) (x : Str), vs = [.ref d, .str x] ∧ DeskE A.C_Desk H d ns ∧ Fine x ∧ ns.length < 1000 ∧
  (∀ i p H', (¬ Good x ∧ i = (0 : Int) ∨ Good x ∧ x ∈ ns ∧ i = 1) → Same H H' → H p = none → H' p = some (.lst ((dueB i).map V.bl)) → Q (.ref p) H') ∧
  (Good x → x ∉ ns → ∀ p H', DeskE A.C_Desk H' d (ns ++ [x]) → SameL H H' → H p = none → H' p = some (.lst []) → Q (.ref p) H')
set_option maxHeartbeats 8000000 in
theorem ok_asked (T : Txt mg) (O : Ok K mg A) : FnOk P w K mg base CX0 3 A.a__law_asked A.d__law_asked ["desk", "name"] (spAsked A) := by
  have G_Desk_begin : FnOk P w K mg base (CX1 P w) 2 A.a_Desk_begin A.d_Desk_begin ["self", "store"] (spBegin A) := ok_begin T O
  have G__law_which : FnOkH P w K mg base 1 A.a__law_which A.d__law_which ["e"] (spWhich K A) := ok_which T O
  refine O.f__law_asked.ok sc__law_asked (fun vs H Q E h => ?_) (fun cdv A0 outer s H vs Q E hr h => ?_)
  · obtain ⟨d, ns, x, rfl, _⟩ := h
    rfl
  · obtain ⟨d, ns, x, rfl, D, hf, hn, q1, q2⟩ := h
    refine ⟨_, (pss_cons (ps_set (i := 2) sc__law_asked.nd rfl (Or.inl rfl) (pe_lst pa_nil))
      (pss_cons (ps_tryA (j := 3) ⟨rfl, rfl, rfl⟩ sc__law_asked.nd rfl rfl O.x_PatchError.m (by rfl) (fun σ₀ pn E' EX hp => (pss_one (ps_if (pt_cmp (pc_notN (pe_methA (pv 0) O.c_Desk O.t_Desk_begin G_Desk_begin (hr.mono (by decide)) O.b_Desk_begin .nil hp (pa_cons (pv 1) pa_nil)))) (pss_one (ps_set (i := 2) sc__law_asked.nd rfl (Or.inl rfl) (pe_lst (pa_cons pe_str pa_nil)))) pss_nil))) (fun e => (pss_one (ps_set (i := 2) sc__law_asked.nd rfl (Or.inl rfl) (pe_callH G__law_which ((hr.mono (by decide)).hand _) (by rfl) O.m__law_which O.f__law_which.kp O.b__law_which (pa_cons (pv 3) pa_nil))))))
      (pss_one (ps_ret (pv 2))))), ?_⟩
    refine ⟨few, fun l hl => ?_⟩
    have s1 : Same H (upd H l (.lst [])) := (Same.refl H).new hl
    have D1 := D.same s1
    obtain ⟨⟨dx, m, n, h, kH, h1, h2, h3, h4, n1, n2, hp⟩, nd, _⟩ := id D1
    have lift : ∀ {C : Addr} {i : Int}, Wh K A C i → i ≠ 8 → subX K C A.X_PatchError = true → (¬ Good x ∧ i = (0 : Int) ∨ Good x ∧ x ∈ ns ∧ i = 1) → True := fun _ _ _ _ => trivial
    refine ⟨rfl, _, rfl, d, dx, _, rfl, h1, (nolk m n h).2.2.2.2.1, _, rfl, d, ns, x, rfl, D1, hf, hn, fun ng => ?_, fun g hx => ?_, fun g hx H' D' sl => ?_⟩
    · refine ⟨_, rfl, O.j_BadName, fun e he => ?_⟩
      have s2 : Same H _ := s1.new (o := excO e A.X_BadName) he
      refine ⟨_, rfl, e, _, _, rfl, upd_same, wh_BadName O, by decide, fun p H' s3 hp0 hp1 => ?_⟩
      exact ⟨_, rfl, q1 0 p H' (.inl ⟨ng, rfl⟩) (s2.trans s3) (s2.free hp0) hp1⟩
    · refine ⟨_, rfl, O.j_NameTaken, fun e he => ?_⟩
      have s2 : Same H _ := s1.new (o := excO e A.X_NameTaken) he
      refine ⟨_, rfl, e, _, _, rfl, upd_same, wh_NameTaken O, by decide, fun p H' s3 hp0 hp1 => ?_⟩
      exact ⟨_, rfl, q1 1 p H' (.inr ⟨g, hx, rfl⟩) (s2.trans s3) (s2.free hp0) hp1⟩
    · refine ⟨_, rfl, ?_⟩
      refine ⟨_, rfl, q2 g hx l H' D' (fun b o hb no => sl b o (s1 b o hb) no) hl (sl l _ upd_same (fun _ z => by cases z))⟩
end
end PK


set_option Elab.async false
set_option linter.all false
set_option maxRecDepth 100000
/-! names that are none -/
namespace PK
open PySem L2
theorem slice_mem (x : Str) (l u : Option Int) : ∀ c ∈ (Txt.slice x l u).cps.toList, c ∈ x.cps.toList := by
  intro c hc
  unfold Txt.slice at hc
  split at hc
  · exact hc
  · obtain ⟨i, _, e⟩ := List.mem_filterMap.mp (by simpa using hc)
    exact List.mem_of_getElem? (i := i) (by rw [Array.getElem?_toList]; exact e)
def ODD : Str := Str.ofString " !#$&()*+,-./:;<=>?@ABCDEFGHIJKLMNOPQRSTUVWXYZ[]^_{|}~\n\t"
theorem odd_len : ODD.length = 56 := by decide +kernel
theorem odd_none : ∀ c ∈ ODD.cps.toList, c ∉ SIGNS.cps.toList ∧ c < 1114112 := by decide +kernel
def T13 : Str := Str.ofString "abcdefghijklm"
def T12 : Str := Str.ofString "abcdefghijkl"
theorem t12_lt : T12.length = 12 ∧ ∀ c ∈ T12.cps.toList, c < 1114112 := by decide +kernel
theorem t13_lt : T13.length = 13 ∧ ∀ c ∈ T13.cps.toList, c < 1114112 := by decide +kernel
theorem t0_lt : (Str.ofString "").length = 0 ∧ ∀ c ∈ (Str.ofString "").cps.toList, c < 1114112 := by decide +kernel
section
variable {P : Program} {w : World} {K : PySem.W.Frag} {mg : Str → Option Value} {base : Heap} {A : Ad}
def spOdd : Sp := fun vs H Q _ => ∃ (x : Str) (c : Int), vs = [.str x, .int c] ∧ Good x ∧ ∀ y H', ¬ Good y → Fine y → Same H H' → Q (.str y) H'
set_option maxHeartbeats 4000000 in
theorem ok_odd_name (T : Txt mg) (O : Ok K mg A) : FnOk P w K mg base CX0 1 A.a__law_odd_name A.d__law_odd_name ["name", "cell"] spOdd := by
  refine O.f__law_odd_name.ok sc__law_odd_name (fun vs H Q E h => ?_) (fun cdv A outer s H vs Q E hr h => ?_)
  · obtain ⟨x, c, rfl, _⟩ := h
    rfl
  · obtain ⟨x, c, rfl, g, q⟩ := h
    refine ⟨_, (pss_cons (ps_set (i := 2) sc__law_odd_name.nd rfl (Or.inl rfl) pe_str)
      (pss_cons (ps_if (pt_cmpR op_eq (pe_op op_mod (pv 1) pe_int) pe_int (nomark _)) (pss_one (ps_ret (pe_ix ix_list (pe_lst (pa_cons pe_str (pa_cons pe_str (pa_cons (pe_slice sl_str (pe_op op_add_str (pv 0) pe_str) po_none (po_some pe_int)) pa_nil)))) (pe_op op_mod (pe_op op_fdiv (pv 1) pe_int) pe_int) (fun _ _ => rfl)))) pss_nil)
      (pss_cons (ps_set (i := 3) sc__law_odd_name.nd rfl (Or.inl rfl) (pe_op op_mod (pe_op op_fdiv (pv 1) pe_int) (pe_callB call_len_str (by rfl) T.b_len PySem.boot_len (pa_cons (pv 0) pa_nil))))
      (pss_one (ps_ret (pe_op op_add_str (pe_op op_add_str (pe_slice sl_str (pv 0) po_none (po_some (pv 3))) (pe_ix ix_str (pv 2) (pe_op op_mod (pe_op op_fdiv (pv 1) pe_int) (pe_callB call_len_str (by rfl) T.b_len PySem.boot_len (pa_cons (pv 2) pa_nil))) (fun _ _ => rfl))) (pe_slice sl_str (pv 0) (po_some (pe_op op_add (pv 3) pe_int)) po_none))))))), ?_⟩
    have gx : ∀ c ∈ x.cps.toList, c < 1114112 := fun c hc => signs_lt c (g.2.2 c hc)
    have gl1 := g.1
    have gl2 := g.2.1
    have sz : ∀ {n : Nat}, n ≤ 100 → n ≤ sizeLine := fun h => Nat.le_trans h (by decide)
    refine ⟨_, rfl, _, _, rfl, rfl, (by show (0 : Int) < 4; decide), rfl, _, rfl, ?_⟩
    refine ite2 (fun _ => ?_) (fun _ => ?_)
    · refine ⟨_, rfl, x, T12, rfl, rfl, sz (by rw [t12_lt.1]; omega), 13, rfl, x ++ T12, rfl, sz (by rw [app_len, t12_lt.1]; omega), ?_⟩
      refine ⟨few, fun l hl => ?_⟩
      have b := mod_lt (c / 4) 3 (by decide)
      refine ⟨_, rfl, _, _, rfl, rfl, ⟨by decide, by decide⟩, _, _, rfl, rfl, (by show (0 : Int) < 3; decide), ?_⟩
      obtain ⟨v, e, ev⟩ := atI_some (xs := [V.str (Str.ofString ""), V.str T13, V.str (Txt.slice (x ++ T12) none (some 13))]) b.1 (by simpa using b.2)
      refine ⟨l, _, _, v, rfl, rfl, SqL.of upd_same, e, ?_⟩
      have hv : ∃ y, v = V.str y ∧ ¬ Good y ∧ Fine y := by
        have hm := List.mem_of_getElem? ev
        simp only [List.mem_cons, List.not_mem_nil, or_false] at hm
        rcases hm with rfl | rfl | rfl
        · exact ⟨_, rfl, fun g => by have := g.1; rw [t0_lt.1] at this; omega, fine_of (by rw [t0_lt.1]; omega) t0_lt.2⟩
        · exact ⟨_, rfl, fun g => by have := g.2.1; rw [t13_lt.1] at this; omega, fine_of (by rw [t13_lt.1]; omega) t13_lt.2⟩
        · have hl : (x ++ T12).cps.toList.length = x.length + 12 := by rw [app_cps, List.length_append, Array.length_toList, Array.length_toList]; show x.length + T12.length = _; rw [t12_lt.1]
          have h13 : (Txt.slice (x ++ T12) none (some 13)).length = 13 := by
            rw [eq_of_beq (PyProof.Rows.slice_closes_to (x := x ++ T12) (j := 13) ⟨by decide, by rw [hl]; omega⟩)]
            show (List.take (13 - 0 : Int).toNat (List.drop (0 : Int).toNat (x ++ T12).cps.toList)).toArray.size = 13
            rw [List.size_toArray, List.length_take, List.length_drop, hl]
            show min 13 (x.length + 12 - 0) = 13
            omega
          refine ⟨_, rfl, fun g => by have := g.2.1; rw [h13] at this; omega, fine_of (by rw [h13]; omega) fun c hc => ?_⟩
          have hc := slice_mem _ _ _ c hc
          rw [app_cps] at hc
          rcases List.mem_append.mp hc with hc | hc
          · exact gx c hc
          · exact t12_lt.2 c hc
      obtain ⟨y, rfl, h1, h2⟩ := hv
      exact q y _ h1 h2 ((Same.refl H).new hl)
    · refine ⟨_, rfl, _, _, rfl, rfl, ⟨by decide, by decide⟩, _, rfl, x, rfl, sz (by omega), _, _, rfl, rfl, (by show (0 : Int) < (x.length : Int); omega), ?_⟩
      refine ⟨_, rfl, _, rfl, _, rfl, x, rfl, sz (by omega), ?_⟩
      have b := mod_lt (c / 48) (ODD.length : Int) (by rw [odd_len]; decide)
      obtain ⟨cp, e, ev⟩ := atI_some (xs := ODD.cps.toList) b.1 (by rw [Array.length_toList]; exact b.2)
      have hm : cp ∈ ODD.cps.toList := List.mem_of_getElem? ev
      have hle := fun l u => Txt.slice_le x l u
      refine ⟨_, rfl, _, rfl, _, _, rfl, rfl, ⟨by decide, by decide⟩, _, rfl, ODD, rfl, by rw [odd_len]; decide, _, _, rfl, rfl, (by show (0 : Int) < (ODD.length : Int); rw [odd_len]; decide), ODD, _, cp, rfl, rfl, by rw [odd_len]; decide, e, _, _, rfl, rfl, ?_, ?_⟩
      · refine sz ?_
        have := hle none (some (c / 4 % (x.length : Int)))
        have h1 : (⟨#[cp]⟩ : Str).length = 1 := rfl
        omega
      refine ⟨_, rfl, _, rfl, _, _, rfl, rfl, _, rfl, x, rfl, sz (by omega), _, _, rfl, rfl, ?_, ?_⟩
      · refine sz ?_
        have h1 : (⟨#[cp]⟩ : Str).length = 1 := rfl
        have := hle none (some (c / 4 % (x.length : Int)))
        have := hle (some (c / 4 % (x.length : Int) + 1)) none
        rw [app_len]
        omega
      · refine q _ H ?_ ?_ (Same.refl H)
        · intro g
          refine (odd_none cp hm).1 (g.2.2 cp ?_)
          rw [app_cps, app_cps]
          simp
        · refine fine_of ?_ fun z hz => ?_
          · have h1 : (⟨#[cp]⟩ : Str).length = 1 := rfl
            have := hle none (some (c / 4 % (x.length : Int)))
            have := hle (some (c / 4 % (x.length : Int) + 1)) none
            rw [app_len, app_len]
            omega
          · rw [app_cps, app_cps] at hz
            rcases List.mem_append.mp hz with hz | hz
            · rcases List.mem_append.mp hz with hz | hz
              · exact gx z (slice_mem _ _ _ z hz)
              · rw [List.mem_singleton.mp hz]; exact (odd_none cp hm).2
            · exact gx z (slice_mem _ _ _ z hz)
end
end PK


set_option Elab.async false
set_option linter.all false
set_option maxRecDepth 100000
namespace PK
open PySem L2
/-- the script stays -/
theorem script_of {K : PySem.W.Frag} {H : Hp} {a : Addr} {xs : List V} (h : SqL K H a xs) : ∃ R : Hp → Prop, R H ∧ (∀ H', R H' → SqL K H' a xs) ∧ (∀ H1 H2, R H1 → SameL H1 H2 → R H2) ∧ (∀ l H1 o, H l = none → R H1 → R (upd H1 l o)) := by
  rcases h with h | h
  · have ho : ∃ o, H a = some o ∧ (∀ kvs, o ≠ .dK kvs) ∧ ∀ H', H' a = some o → SqL K H' a xs := by
      rcases h with h | ⟨u, h⟩
      · exact ⟨_, h, (fun _ z => by cases z), fun H' h => .inl (.inl h)⟩
      · exact ⟨_, h, (fun _ z => by cases z), fun H' h => .inl (.inr ⟨u, h⟩)⟩
    obtain ⟨o, h1, h2, h3⟩ := ho
    refine ⟨fun H' => H' a = some o, h1, h3, fun H1 H2 r s => s a o r h2, fun l H1 u hl r => ?_⟩
    show upd H1 l u a = some o
    rw [upd_ne (ne_of_none h1 hl)]
    exact r
  · exact ⟨fun _ => True, trivial, fun H' _ => .inr h, fun _ _ _ _ => trivial, fun _ _ _ _ _ => trivial⟩
theorem same_l {H H' : Hp} (s : Same H H') : SameL H H' := fun b o e _ => s b o e
theorem DeskE.lst {C : Addr} {H : Hp} {d l : Addr} {ns : List Str} {xs : List V} {o : HO} (D : DeskE C H d ns) (hl : H l = some (.lst xs)) : DeskE C (upd H l o) d ns := by
  obtain ⟨⟨dx, m, n, h, kH, h1, h2, h3, h4, n1, n2, h5⟩, nd, few⟩ := D
  have ne : ∀ {b u}, H b = some u → (u ≠ .lst xs) → upd H l o b = some u := fun {b u} e k => by
    rw [upd_ne (fun z => by rw [z, hl] at e; exact k (Option.some.inj e).symm)]; exact e
  exact ⟨⟨dx, m, n, h, kH, ne h1 (fun z => by cases z), ne h2 (fun z => by cases z), ne h3 (fun z => by cases z), ne h4 (fun z => by cases z), n1, n2, Paired.mapP h5 fun x kv ⟨e, a, e2, e3⟩ => ⟨e, a, e2, ne e3 (fun z => by cases z)⟩⟩, nd, few⟩
def whichB (j : Int) : List Bool := if j < 0 then [] else dueB j
theorem inV_txts (x : Str) : ∀ l : List Str, inV (.str x) (txts l) = decide (x ∈ l) := by
  intro l
  unfold inV
  rw [Bool.eq_iff_iff, List.any_map, List.any_eq_true, decide_eq_true_iff]
  constructor
  · rintro ⟨y, hy, e⟩
    have e : (y == x) = true := e
    rw [← eq_of_beq e]; exact hy
  · exact fun h => ⟨x, h, by show (x == x) = true; exact beq_self_eq_true x⟩
section
variable {P : Program} {w : World} {K : PySem.W.Frag} {mg : Str → Option Value} {base : Heap} {A : Ad}
def spLaw (K : PySem.W.Frag) : Sp := fun vs H Q _ => ∃ (a : Addr) (ns : List Int), vs = [.ref a] ∧ SqL K H a (ns.map V.int) ∧ ns.length ≤ 63 ∧ ∀ H', Q (.bl true) H'
set_option maxHeartbeats 16000000 in
theorem ok_law {f : Addr} {fd : FuncData} (F : Fun K "law" "law" s_law f fd) (T : Txt mg) (O : Ok K mg A) : FnOk P w K mg base CX0 9 f fd ["script"] (spLaw K) := by
  have G_Desk___init__ : FnOk P w K mg base CX0 1 A.a_Desk___init__ A.d_Desk___init__ ["self"] (spInit A.C_Desk) := ok_Desk_init T O
  have G__law_cell_at : FnOk P w K mg base CX0 1 A.a__law_cell_at A.d__law_cell_at ["script", "k"] (spCell K) := ok_cell T O
  have G__law_name : FnOk P w K mg base CX0 1 A.a__law_name A.d__law_name ["cell", "k"] spName := ok_name T O
  have G__law_odd_name : FnOk P w K mg base CX0 1 A.a__law_odd_name A.d__law_odd_name ["name", "cell"] spOdd := ok_odd_name T O
  have G__law_asked : FnOk P w K mg base CX0 3 A.a__law_asked A.d__law_asked ["desk", "name"] (spAsked A) := ok_asked T O
  have G__law_due : FnOk P w K mg base CX0 1 A.a__law_due A.d__law_due ["place"] spDue := ok_due T O
  have G__law_names_are : FnOk P w K mg base CX0 1 A.a__law_names_are A.d__law_names_are ["found", "due"] spNames := ok_names_are T O
  have G_Desk_stores : FnOk P w K mg base CX0 1 A.a_Desk_stores A.d_Desk_stores ["self"] (spStores A.C_Desk) := ok_stores T O
  have G_Desk_patches : FnOk P w K mg base CX0 1 A.a_Desk_patches A.d_Desk_patches ["self"] (spPatches A.C_Desk) := ok_patches T O
  have G_Desk_has : FnOk P w K mg base CX0 2 A.a_Desk_has A.d_Desk_has ["self", "store"] (spList0 A.C_Desk) := ok_has T O
  have G_Desk_files : FnOk P w K mg base CX0 4 A.a_Desk_files A.d_Desk_files ["self", "store"] (spList0 A.C_Desk) := ok_files T O
  have G_Desk_row : FnOk P w K mg base CX0 6 A.a_Desk_row A.d_Desk_row ["self", "store", "file"] (spRow0 A.C_Desk) := ok_row T O
  refine F.ok sc_law (fun vs H Q E h => ?_) (fun cdv A0 outer s H vs Q E hr h => ?_)
  · obtain ⟨a, ns, rfl, _⟩ := h
    rfl
  · obtain ⟨a, ns, rfl, ha, hn, q⟩ := h
    refine ⟨_, (pss_cons (ps_set (i := 1) sc_law.nd rfl (Or.inl rfl) (pe_make0 O.k_Desk G_Desk___init__ (hr.mono (by decide)) rfl O.m_Desk O.b_Desk___init__ .nil pass0))
      (pss_cons (ps_set (i := 2) sc_law.nd rfl (Or.inl rfl) (pe_lst pa_nil))
      (pss_cons (ps_for PassesOwn.never rfl (pi_range1 rfl T.b_range (pa_cons (pe_op op_add pe_int (pe_op op_mod (pe_call G__law_cell_at (hr.mono (by decide)) (by rfl) O.m__law_cell_at O.f__law_cell_at.kp O.b__law_cell_at .nil pass0 (pa_cons (pv 0) (pa_cons pe_int pa_nil))) pe_int)) pa_nil)) (pg_name (i := 3) sc_law.nd rfl (Or.inl rfl)) (pss_cons (ps_set (i := 4) sc_law.nd rfl (Or.inl rfl) (pe_call G__law_cell_at (hr.mono (by decide)) (by rfl) O.m__law_cell_at O.f__law_cell_at.kp O.b__law_cell_at .nil pass0 (pa_cons (pv 0) (pa_cons (pe_op op_add pe_int (pv 3)) pa_nil))))
      (pss_cons (ps_set (i := 5) sc_law.nd rfl (Or.inl rfl) (pe_call G__law_name (hr.mono (by decide)) (by rfl) O.m__law_name O.f__law_name.kp O.b__law_name .nil pass0 (pa_cons (pe_op op_mod (pe_call G__law_cell_at (hr.mono (by decide)) (by rfl) O.m__law_cell_at O.f__law_cell_at.kp O.b__law_cell_at .nil pass0 (pa_cons (pv 0) (pa_cons pe_int pa_nil))) pe_int) (pa_cons (pe_op op_mod (pe_op op_fdiv (pv 4) pe_int) pe_int) pa_nil))))
      (pss_cons (ps_set (i := 6) sc_law.nd rfl (Or.inl rfl) (pe_un un_neg pe_int))
      (pss_cons (ps_cut (ps_if (pt_cmpR op_eq (pe_op op_mod (pv 4) pe_int) pe_int (nomark _)) (pss_cons (ps_set (i := 5) sc_law.nd rfl (Or.inl rfl) (pe_call G__law_odd_name (hr.mono (by decide)) (by rfl) O.m__law_odd_name O.f__law_odd_name.kp O.b__law_odd_name .nil pass0 (pa_cons (pv 5) (pa_cons (pe_op op_fdiv (pv 4) pe_int) pa_nil))))
      (pss_one (ps_set (i := 6) sc_law.nd rfl (Or.inl rfl) pe_int))) (pss_one (ps_if (pt_cmpR op_in_seq (pv 5) (pv 2) rfl) (pss_one (ps_set (i := 6) sc_law.nd rfl (Or.inl rfl) pe_int)) pss_nil))))
      (pss_cons (ps_cut (ps_set (i := 7) sc_law.nd rfl (Or.inl rfl) (pe_call G__law_asked (hr.mono (by decide)) (by rfl) O.m__law_asked O.f__law_asked.kp O.b__law_asked .nil pass0 (pa_cons (pv 1) (pa_cons (pv 5) pa_nil)))))
      (pss_cons (ps_cut (ps_if (pt_cmpR op_lt (pv 6) pe_int (nomark _)) (pss_one (ps_expr (pe_bm PySem.F.plainAttrs_list PySem.F.slot_list_append PySem.F.type_list_append mt_append (pv 2) (pa_cons (pv 5) pa_nil)))) pss_nil))
      (pss_cons (ps_if (pt_cmpR (op_neD 3 (by exact hud hr)) (pv 7) (pe_ix ix_list (pe_lst (pa_cons (pe_lst pa_nil) (pa_cons (pe_call G__law_due (hr.mono (by decide)) (by rfl) O.m__law_due O.f__law_due.kp O.b__law_due .nil pass0 (pa_cons pe_int pa_nil)) (pa_cons (pe_call G__law_due (hr.mono (by decide)) (by rfl) O.m__law_due O.f__law_due.kp O.b__law_due .nil pass0 (pa_cons pe_int pa_nil)) pa_nil)))) (pe_op op_add (pv 6) pe_int) (fun _ _ => rfl)) (nomark _)) (pss_one (ps_ret pe_bl)) pss_nil)
      (pss_cons (ps_set (i := 8) sc_law.nd rfl (Or.inl rfl) (pe_meth0 (pv 1) O.c_Desk O.t_Desk_stores G_Desk_stores (hr.mono (by decide)) O.b_Desk_stores .nil pass0))
      (pss_cons (ps_if (pt_not (pt_val (pe_call G__law_names_are (hr.mono (by decide)) (by rfl) O.m__law_names_are O.f__law_names_are.kp O.b__law_names_are .nil pass0 (pa_cons (pv 8) (pa_cons (pv 2) pa_nil))))) (pss_one (ps_ret pe_bl)) pss_nil)
      (pss_one (ps_expr (pe_bm PySem.F.plainAttrs_list PySem.F.slot_list_append PySem.F.type_list_append mt_append (pv 8) (pa_cons (pv 5) pa_nil))))))))))))))
      (pss_cons (ps_for PassesOwn.never rfl (pi_list (pv 2)) (pg_name (i := 5) sc_law.nd rfl (Or.inl rfl)) (pss_one (ps_if ((pw_or (pt_cmpR (op_neD 3 (by exact hud hr)) (pe_meth (pv 1) O.c_Desk O.t_Desk_has G_Desk_has (hr.mono (by decide)) O.b_Desk_has .nil pass0 (pa_cons (pv 5) pa_nil)) (pe_lst pa_nil) (nomark _)) (pw_or (pt_cmpR (op_neD 3 (by exact hud hr)) (pe_meth (pv 1) O.c_Desk O.t_Desk_files G_Desk_files (hr.mono (by decide)) O.b_Desk_files .nil pass0 (pa_cons (pv 5) pa_nil)) (pe_lst pa_nil) (nomark _)) (pw_or1 (pt_cmpR (op_neD 3 (by exact hud hr)) (pe_meth (pv 1) O.c_Desk O.t_Desk_row G_Desk_row (hr.mono (by decide)) O.b_Desk_row .nil pass0 (pa_cons (pv 5) (pa_cons pe_str pa_nil))) (pe_lst pa_nil) (nomark _))))).pt) (pss_one (ps_ret pe_bl)) pss_nil)))
      (pss_one (ps_ret (pe_and (pe_cmpR (op_eqD 3 (by exact hud hr)) (pe_meth0 (pv 1) O.c_Desk O.t_Desk_patches G_Desk_patches (hr.mono (by decide)) O.b_Desk_patches .nil pass0) (pe_lst pa_nil) (nomark _)) (pe_one (pe_call G__law_names_are (hr.mono (by decide)) (by rfl) O.m__law_names_are O.f__law_names_are.kp O.b__law_names_are .nil pass0 (pa_cons (pe_meth0 (pv 1) O.c_Desk O.t_Desk_stores G_Desk_stores (hr.mono (by decide)) O.b_Desk_stores .nil pass0) (pa_cons (pv 2) pa_nil))))))))))), ?_⟩
    obtain ⟨R, R0, R1, R2, R3⟩ := script_of ha
    intro d px nd npx nxd
    refine ⟨d, px, rfl, upd_same, fun H1 D1 k1 => ⟨rfl, ?_⟩⟩
    have s1 : Same H H1 := fun b o e => k1 b o (by rw [upd_ne (ne_of_none e nd), upd_ne (ne_of_none e npx)]; exact e) (ne_of_none e nd)
    have r1 := R2 _ _ R0 (same_l s1)
    refine ⟨few, fun l hl => ?_⟩
    have hlH : H l = none := s1.free hl
    have s2 : Same H1 (upd H1 l (.lst [])) := (Same.refl H1).new hl
    have r2 := R2 _ _ r1 (same_l s2)
    have D2 := D1.same s2
    -- the loop
    refine ⟨_, rfl, a, ns, 0, rfl, R1 _ r2, by decide, ?_⟩
    have b := mod_lt (cellAt ns 0) 9 (by decide)
    refine ⟨_, _, rfl, rfl, (by show (0 : Int) < 9; decide), _, _, rfl, rfl, _, rfl, by omega, by omega, ?_⟩
    have hd : DeskE A.C_Desk (upd H1 l (.lst [])) d [] := D2
    refine for_range (fun i σ H2 => ∃ (xs : List Str) (v3 v4 v5 v6 v7 v8 : Option V), σ = [some (.ref a), some (.ref d), some (.ref l), v3, v4, v5, v6, v7, v8] ∧ R H2 ∧ DeskE A.C_Desk H2 d xs ∧ H2 l = some (.lst (txts xs)) ∧ xs.length ≤ i)
      ⟨[], none, none, none, none, none, none, rfl, r2, D2, upd_same, Nat.le_refl _⟩ ?_ ?_
    · rintro i σ H2 hi ⟨xs, v3, v4, v5, v6, v7, v8, rfl, r, D, hl2, hx⟩
      have hi9 : i < 9 := by omega
      refine ⟨_, rfl, _, rfl, _, _, rfl, rfl, a, ns, _, rfl, R1 _ r, by omega, ?_⟩
      generalize cellAt ns (2 + (0 + (i : Int))) = c
      refine ⟨_, rfl, a, ns, _, rfl, R1 _ r, by decide, _, _, rfl, rfl, (by show (0 : Int) < 20736; decide), _, rfl, _, _, rfl, rfl, ⟨by decide, by decide⟩, _, _, rfl, rfl, (by show (0 : Int) < 7; decide), _, _, rfl, ?_⟩
      have gx := name_good (cellAt ns 1 % 20736) (c / 5 % 7)
      generalize nameOf (cellAt ns 1 % 20736) (c / 5 % 7) = x at gx ⊢
      refine ⟨_, rfl, ?_⟩
      -- the name
      refine ⟨fun σ H3 => ∃ (y : Str) (pl : Int), σ = [some (.ref a), some (.ref d), some (.ref l), some (.int (0 + (i : Int))), some (.int c), some (.str y), some (.int pl), v7, v8] ∧ Same H2 H3 ∧ Fine y ∧
        (¬ Good y ∧ pl = 0 ∨ Good y ∧ y ∈ xs ∧ pl = 1 ∨ Good y ∧ y ∉ xs ∧ pl = -1), ?_, ?_⟩
      · refine ⟨_, rfl, _, _, rfl, rfl, (by show (0 : Int) < 5; decide), rfl, _, rfl, ?_⟩
        refine ite2 (fun _ => ?_) (fun _ => ?_)
        · refine ⟨_, rfl, _, rfl, _, _, rfl, rfl, ⟨by decide, by decide⟩, x, _, rfl, gx, fun y H3 ng fy s3 => ?_⟩
          exact ⟨y, 0, rfl, s3, fy, .inl ⟨ng, rfl⟩⟩
        · refine ⟨_, rfl, _, rfl, l, _, rfl, .inl (SqL.of hl2), rfl, by simp [txts, flatV], _, rfl, ?_⟩
          show if (inV (.str x) (txts xs)) = true then _ else _
          rw [inV_txts]
          refine ite2 (fun h => ?_) (fun h => ?_)
          · exact ⟨x, 1, rfl, Same.refl _, gx.fine, .inr (.inl ⟨gx, of_decide_eq_true h, rfl⟩)⟩
          · exact ⟨x, -1, rfl, Same.refl _, gx.fine, .inr (.inr ⟨gx, fun z => h (decide_eq_true z), rfl⟩)⟩
      rintro σ H3 ⟨y, pl, rfl, s3, fy, cases⟩
      have r3 := R2 _ _ r (same_l s3)
      have D3 := D.same s3
      have hl3 := s3 _ _ hl2
      -- asked
      refine ⟨fun σ H4 => ∃ (wp : Addr), σ = [some (.ref a), some (.ref d), some (.ref l), some (.int (0 + (i : Int))), some (.int c), some (.str y), some (.int pl), some (.ref wp), v8] ∧ R H4 ∧ H4 l = some (.lst (txts xs)) ∧
        H4 wp = some (.lst ((whichB pl).map V.bl)) ∧ wp ≠ l ∧ (0 ≤ pl ∧ pl ≤ 1 ∧ DeskE A.C_Desk H4 d xs ∨ pl = -1 ∧ DeskE A.C_Desk H4 d (xs ++ [y])), ?_, ?_⟩
      · refine ⟨_, rfl, _, rfl, d, xs, y, rfl, D3, fy, by omega, fun j p H4 hj s4 hp0 hp1 => ?_, fun g hy p H4 D4 s4 hp0 hp1 => ?_⟩
        · have hpl : pl = j := by
            rcases cases with ⟨g, e⟩ | ⟨g, m, e⟩ | ⟨g, m, e⟩ <;> rcases hj with ⟨g', e'⟩ | ⟨g', m', e'⟩ <;> first | exact absurd g g' | exact absurd g' g | exact absurd m' m | omega
          have hj0 : 0 ≤ pl ∧ pl ≤ 1 := by rcases hj with ⟨_, e⟩ | ⟨_, _, e⟩ <;> omega
          refine ⟨p, rfl, R2 _ _ r3 (same_l s4), s4 _ _ hl3, ?_, (fun z => by rw [z, hl3] at hp0; cases hp0), .inl ⟨hj0.1, hj0.2, D3.same s4⟩⟩
          unfold whichB
          rw [if_neg (by omega), hpl]
          exact hp1
        · have hpl : pl = -1 := by
            rcases cases with ⟨g', e⟩ | ⟨g', m, e⟩ | ⟨g', m, e⟩
            · exact absurd g g'
            · exact absurd m hy
            · exact e
          refine ⟨p, rfl, R2 _ _ r3 s4, s4 _ _ hl3 (fun _ z => by cases z), ?_, (fun z => by rw [z, hl3] at hp0; cases hp0), .inr ⟨hpl, D4⟩⟩
          unfold whichB
          rw [if_pos (by omega)]
          exact hp1
      rintro σ H4 ⟨wp, rfl, r4, hl4, hw4, nwl, cs⟩
      -- due.append
      refine ⟨fun σ H5 => ∃ (xs' : List Str), σ = [some (.ref a), some (.ref d), some (.ref l), some (.int (0 + (i : Int))), some (.int c), some (.str y), some (.int pl), some (.ref wp), v8] ∧ R H5 ∧ H5 l = some (.lst (txts xs')) ∧ xs'.length ≤ i + 1 ∧ H5 wp = some (.lst ((whichB pl).map V.bl)) ∧ -1 ≤ pl ∧ pl ≤ 1 ∧ DeskE A.C_Desk H5 d xs', ?_, ?_⟩
      · refine ⟨_, rfl, _, _, rfl, rfl, _, rfl, ?_⟩
        rcases cs with ⟨p0, p1, D4⟩ | ⟨p0, D4⟩
        · refine iteF' (decide_eq_false (by omega)) ?_
          exact ⟨xs, rfl, r4, hl4, by omega, hw4, by omega, p1, D4⟩
        · refine iteT' (decide_eq_true (by omega)) ?_
          refine ⟨_, rfl, .inl ⟨rfl, _, SqL.of hl4⟩, _, rfl, l, _, _, rfl, rfl, hl4, ?_, ?_⟩
          · rw [List.length_map]; exact Nat.lt_of_le_of_lt (m := 9) (by omega) (by decide)
          · refine ⟨xs ++ [y], rfl, R3 l H4 _ hlH r4, ?_, by rw [List.length_append]; show xs.length + 1 ≤ _; omega, by rw [upd_ne nwl]; exact hw4, by omega, by omega, D4.lst hl4⟩
            rw [← txts_snoc]
            exact upd_same
      rintro σ H5 ⟨xs', rfl, r5, hl5, hx5, hw5, pl0, pl1, D5⟩
      -- which != ..
      refine ⟨_, rfl, few, fun e0 he0 => ⟨0, rfl, fun e1 he1 => ⟨1, rfl, fun e2 he2 => ⟨few, fun e3 he3 => ?_⟩⟩⟩⟩
      have s6 := (((Same.refl H5).new he0).new he1).new (o := .lst ((dueB 1).map V.bl)) he2
      have s7 := s6.new (o := .lst [.ref e0, .ref e1, .ref e2]) he3
      have pick : ∃ e, atI [V.ref e0, V.ref e1, V.ref e2] (pl + 1) = some (V.ref e) ∧ (upd (upd (upd (upd H5 e0 (.lst [])) e1 (.lst ((dueB 0).map V.bl))) e2 (.lst ((dueB 1).map V.bl))) e3 (.lst [.ref e0, .ref e1, .ref e2])) e = some (.lst ((whichB pl).map V.bl)) := by
        have h0 := look_new (u := .lst [.ref e0, .ref e1, .ref e2]) he3 (look_new (u := .lst ((dueB 1).map V.bl)) he2 (look_new (u := .lst ((dueB 0).map V.bl)) he1 (upd_same (H := H5) (a := e0) (o := .lst []))))
        have h1 := look_new (u := .lst [.ref e0, .ref e1, .ref e2]) he3 (look_new (u := .lst ((dueB 1).map V.bl)) he2 (upd_same (H := upd H5 e0 (.lst [])) (a := e1) (o := .lst ((dueB 0).map V.bl))))
        have h2 := look_new (u := .lst [.ref e0, .ref e1, .ref e2]) he3 (upd_same (H := upd (upd H5 e0 (.lst [])) e1 (.lst ((dueB 0).map V.bl))) (a := e2) (o := .lst ((dueB 1).map V.bl)))
        have hc : pl = -1 ∨ pl = 0 ∨ pl = 1 := by omega
        rcases hc with rfl | rfl | rfl
        · exact ⟨e0, atI_of (j := 0) rfl rfl, h0⟩
        · exact ⟨e1, atI_of (j := 1) rfl rfl, h1⟩
        · exact ⟨e2, atI_of (j := 2) rfl rfl, h2⟩
      obtain ⟨e, ea, he⟩ := pick
      refine ⟨_, rfl, _, _, rfl, rfl, e3, _, _, _, rfl, rfl, SqL.of upd_same, ea, _, ⟨wp, e, rfl, rfl⟩, eq_bls (SqL.of (s7 _ _ hw5)) (SqL.of he), _, rfl, ?_⟩
      rw [decide_eq_true rfl]
      -- stores
      have D7 := D5.same s7
      have r7 := R2 _ _ r5 (same_l s7)
      have hl7 := s7 _ _ hl5
      generalize (upd (upd (upd (upd H5 e0 (.lst [])) e1 (.lst ((dueB 0).map V.bl))) e2 (.lst ((dueB 1).map V.bl))) e3 (.lst [.ref e0, .ref e1, .ref e2])) = H7 at D7 r7 hl7 ⊢
      obtain ⟨⟨dx, m, n, h, kH, h1, h2, h3, h4, n1, n2, hp⟩, _, _⟩ := id D7
      refine ⟨_, rfl, d, dx, _, rfl, h1, (nolk m n h).2.2.2.2.2.1, d, xs', rfl, D7, fun p hp0 => ?_⟩
      refine ⟨_, rfl, _, rfl, p, l, xs', xs', rfl, upd_same, look_new hp0 hl7, _, rfl, ?_⟩
      rw [decide_eq_true rfl]
      have npl : l ≠ p := ne_of_none hl7 hp0
      refine ⟨_, rfl, .inl ⟨rfl, _, SqL.of upd_same⟩, _, rfl, p, _, _, rfl, rfl, upd_same, ?_, ?_⟩
      · rw [List.length_map]; exact Nat.lt_of_le_of_lt (m := 10) (by omega) (by decide)
      · have s8 : Same H7 (upd (upd H7 p (.lst (txts xs'))) p (.lst (txts xs' ++ [V.str y]))) := ((Same.refl H7).new hp0).upd hp0
        exact ⟨xs', _, _, _, _, _, _, rfl, R2 _ _ r7 (same_l s8), D7.same s8, s8 _ _ hl7, hx5⟩
    · rintro σ H2 ⟨xs, v3, v4, v5, v6, v7, v8, rfl, r, D, hl2, hx⟩
      refine ⟨_, rfl, l, rfl, ⟨_, SqL.of hl2⟩, for_list (K := K) (a := l) (xs := txts xs) (fun i σ H3 => ∃ v5, σ = [some (.ref a), some (.ref d), some (.ref l), v3, v4, v5, v6, v7, v8] ∧ Same H2 H3) ⟨v5, rfl, Same.refl _⟩ (fun i σ H3 _ ⟨_, _, e⟩ => SqL.of (e _ _ hl2)) ?_ ?_⟩
      · rintro i v σ H3 hv ⟨u, rfl, s3⟩
        obtain ⟨x, hxi, rfl⟩ := of_strs hv
        have hx : x ∈ xs := List.mem_of_getElem? hxi
        have D3 := D.same s3
        obtain ⟨⟨dx, m, n, h, kH, h1, h2, h3, h4, n1, n2, hp⟩, _, _⟩ := id D3
        have e0 : ∀ {H' : Hp} {p q : Addr}, H' p = some (.lst []) → H' q = some (.lst []) → EqV K H' 3 (.ref p) (.ref q) true := fun h1 h2 => by
          have := eq_strs (n := 2) (K := K) (x := []) (y := []) (SqL.of h1) (SqL.of h2)
          rw [decide_eq_true rfl] at this
          exact this
        refine ⟨_, rfl, d, dx, _, rfl, h1, (nolk m n h).2.1, _, rfl, d, xs, x, rfl, D3, hx, fun p H4 s4 hp0 hp1 => ⟨few, fun z hz => ?_⟩⟩
        have s5 := s4.new (o := .lst []) hz
        refine ⟨_, ⟨p, z, rfl, rfl⟩, e0 (look_new hz hp1) upd_same, _, rfl, ?_⟩
        refine ⟨_, rfl, d, dx, _, rfl, s5 _ _ h1, (nolk m n h).2.2.2.2.2.2.2.1, _, rfl, d, xs, x, rfl, D3.same s5, hx, fun p2 H6 s6 hp20 hp21 => ⟨few, fun z2 hz2 => ?_⟩⟩
        have s7 := (s5.trans s6).new (o := .lst []) hz2
        refine ⟨_, ⟨p2, z2, rfl, rfl⟩, e0 (look_new hz2 hp21) upd_same, _, rfl, ?_⟩
        refine ⟨_, rfl, d, dx, _, rfl, s7 _ _ h1, (nolk m n h).2.2.2.2.2.2.2.2, _, rfl, d, xs, x, _, rfl, D3.same s7, hx, fun p3 H8 s8 hp30 hp31 => ⟨few, fun z3 hz3 => ?_⟩⟩
        have s9 := (s7.trans s8).new (o := .lst []) hz3
        refine ⟨_, ⟨p3, z3, rfl, rfl⟩, e0 (look_new hz3 hp31) upd_same, _, rfl, ?_⟩
        exact ⟨_, rfl, s3.trans s9⟩
      · rintro σ H3 ⟨u, rfl, s3⟩
        have D3 := D.same s3
        obtain ⟨⟨dx, m, n, h, kH, h1, h2, h3, h4, n1, n2, hp⟩, _, _⟩ := id D3
        refine ⟨_, rfl, d, dx, _, rfl, h1, (nolk m n h).2.2.2.2.2.2.1, d, xs, rfl, D3, fun p hp0 => ⟨few, fun z hz => ?_⟩⟩
        have s4 := ((Same.refl H3).new (o := .lst []) hp0).new (o := .lst []) hz
        have e0 := eq_strs (n := 2) (K := K) (x := []) (y := []) (SqL.of (look_new (u := .lst []) hz (upd_same (H := H3) (a := p) (o := .lst [])))) (SqL.of (upd_same (H := upd H3 p (.lst [])) (a := z) (o := .lst [])))
        refine ⟨_, ⟨p, z, rfl, rfl⟩, e0, _, rfl, ?_⟩
        refine ⟨_, rfl, d, dx, _, rfl, s4 _ _ h1, (nolk m n h).2.2.2.2.2.1, d, xs, rfl, D3.same s4, fun p2 hp2 => ?_⟩
        have hl5 := look_new (u := .lst (txts xs)) hp2 (s4 _ _ (s3 _ _ hl2))
        refine ⟨_, rfl, p2, l, xs, xs, rfl, upd_same, hl5, ?_⟩
        rw [decide_eq_true rfl]
        exact q _
end
end PK


set_option Elab.async false
set_option linter.all false
set_option maxRecDepth 100000
set_option autoImplicit false
/-! the states of the text's top, written out -/
namespace TW
open PySem PySem.W L2 PK
abbrev S := Str.ofString
abbrev ob := Obj.mk
abbrev vs := Value.str
abbrev vr := Value.ref
abbrev vi := Value.int
abbrev vn := Value.none
abbrev vt := Value.type
abbrev vb := Value.builtin
abbrev vl := Value.bool
abbrev de := DictEntry.mk
abbrev cl := ClassData.mk
abbrev q := Pos.mk
abbrev lf (o : Obj) : BT := .node o .nil .nil
abbrev fd (n q : Str) (st : Stmt) (g : Addr) (c : List (Str × Addr)) (d kd doc pm : Value) (an : Option Addr) (co ct : Value) (b : Addr) : FuncData := ⟨n, q, defArgs st, .stmts (defBody st), defScope st, g, c, d, kd, doc, pm, an, co, ct, b⟩
noncomputable def o_308 (P : Params) : Obj := (ob (vt "dict") none (Data.dict #[(de (PyData.keyHash P (S "__name__")) (vs (S "__name__") 165) (vs (S "patchkin.desk") 476)),(de (PyData.keyHash P (S "__doc__")) (vs (S "__doc__") 166) vn),(de (PyData.keyHash P (S "__package__")) (vs (S "__package__") 167) vn),(de (PyData.keyHash P (S "__loader__")) (vs (S "__loader__") 168) (vb "__main__.__loader__#opaque")),(de (PyData.keyHash P (S "__spec__")) (vs (S "__spec__") 169) vn),(de (PyData.keyHash P (S "__annotations__")) (vs (S "__annotations__") 170) (vr 6)),(de (PyData.keyHash P (S "__builtins__")) (vs (S "__builtins__") 171) (vr 4)),(de (PyData.keyHash P (S "__file__")) (vs (S "__file__") 173) (vs (S "/claim/cut.py") 172)),(de (PyData.keyHash P (S "__cached__")) (vs (S "__cached__") 174) vn),(de (PyData.keyHash P (S "_wall")) (vs (S "_wall") 193) (vr 21)),(de (PyData.keyHash P (S "PatchError")) (vs (S "PatchError") 213) (vr 31)),(de (PyData.keyHash P (S "BadName")) (vs (S "BadName") 229) (vr 44)),(de (PyData.keyHash P (S "NameTaken")) (vs (S "NameTaken") 245) (vr 56)),(de (PyData.keyHash P (S "NoStore")) (vs (S "NoStore") 261) (vr 68)),(de (PyData.keyHash P (S "NoPatch")) (vs (S "NoPatch") 277) (vr 80)),(de (PyData.keyHash P (S "NoLine")) (vs (S "NoLine") 293) (vr 92)),(de (PyData.keyHash P (S "Unsettled")) (vs (S "Unsettled") 309) (vr 104)),(de (PyData.keyHash P (S "Same")) (vs (S "Same") 325) (vr 116)),(de (PyData.keyHash P (S "Leant")) (vs (S "Leant") 341) (vr 128)),(de (PyData.keyHash P (S "live_patches")) (vs (S "live_patches") 353) (vr 137)),(de (PyData.keyHash P (S "lines_put")) (vs (S "lines_put") 363) (vr 144)),(de (PyData.keyHash P (S "standing_lines")) (vs (S "standing_lines") 369) (vr 149)),(de (PyData.keyHash P (S "files_with_lines")) (vs (S "files_with_lines") 375) (vr 154)),(de (PyData.keyHash P (S "straight_ahead")) (vs (S "straight_ahead") 384) (vr 161)),(de (PyData.keyHash P (S "joined")) (vs (S "joined") 394) (vr 168)),(de (PyData.keyHash P (S "all_ahead")) (vs (S "all_ahead") 400) (vr 173)),(de (PyData.keyHash P (S "first_free")) (vs (S "first_free") 408) (vr 180)),(de (PyData.keyHash P (S "row_of")) (vs (S "row_of") 414) (vr 185)),(de (PyData.keyHash P (S "Sight")) (vs (S "Sight") 475) (vr 230)),(de (PyData.keyHash P (S "NAME_SIGNS")) (vs (S "NAME_SIGNS") 479) (vs (S "abcdefghijklmnopqrstuvwxyz0123456789") 478)),(de (PyData.keyHash P (S "LONGEST_NAME")) (vs (S "LONGEST_NAME") 481) (vi 12 480)),(de (PyData.keyHash P (S "check_name")) (vs (S "check_name") 489) (vr 241)),(de (PyData.keyHash P (S "Desk")) (vs (S "Desk") 704) (vr 406))] 33) #[])
noncomputable def o_51 (P : Params) : Obj := (ob (vt "tuple") none (Data.seq #[] 0) #[])
noncomputable def o_178 (P : Params) : Obj := (ob (vt "type") none (Data.cls (cl (S "PatchError") [(vt "ValueError")] [(vr 31),(vt "ValueError"),(vt "Exception"),(vt "BaseException"),(vt "object")] 30 (S "PatchError") true [] [(vr 44),(vr 56),(vr 68),(vr 80),(vr 92),(vr 104),(vr 116),(vr 128)] false none false)) #[(some (vr 22)),none,(some (vs (S "PatchError") 196)),(some (vs (S "PatchError") 204)),(some (vb "ValueError.__new__")),(some (vl true))])
noncomputable def o_108 (P : Params) : Obj := (ob vn none (Data.fields #[]) #[])
noncomputable def o_187 (P : Params) : Obj := (ob (vt "dict") none (Data.dict #[(de (PyData.keyHash P (S "__module__")) (vs (S "__module__") 333) (vs (S "patchkin.errors") 194)),(de (PyData.keyHash P (S "__firstlineno__")) (vs (S "__firstlineno__") 337) (vi 21 336)),(de (PyData.keyHash P (S "__static_attributes__")) (vs (S "__static_attributes__") 338) (vr 126)),(de (PyData.keyHash P (S "__doc__")) (vs (S "__doc__") 339) vn)] 2) #[])
noncomputable def o_323 (P : Params) : Obj := (ob (vt "function") none (Data.func (fd (S "__init__") (S "Desk.__init__") (inClass (top 26) 0) 3 [] vn vn vn (vs (S "patchkin.desk") 476) none (vr 254) vn 0)) #[])
noncomputable def o_451 (P : Params) : Obj := (ob (vt "tuple") none (Data.seq #[] 0) #[])
noncomputable def o_255 (P : Params) : Obj := (ob (vt "code") none (Data.fields #[(vs (S "Sight") 417),(vs (S "Sight") 418),(vs (S "/claim/cut.py") 419),(vi 101 0),(vi 0 0),(vi 0 0),(vi 0 0),(vi 0 0),(vr 189),(vl false),(vi 181 0),(vr 190),vn,vn,vn,vn,(vi 420 0),(vi 101 0),(vs (S "/claim/cut.py") 421)]) #[])
noncomputable def o_387 (P : Params) : Obj := (ob (vt "tuple") none (Data.seq #[(vs (S "self") 591),(vs (S "patch") 592)] 0) #[])
noncomputable def o_149 (P : Params) : Obj := (ob (vt "tuple") none (Data.seq #[(vr 31)] 0) #[])
noncomputable def o_219 (P : Params) : Obj := (ob vn none (Data.func (fd (S "straight_ahead") (S "straight_ahead") (top 16) 0 [] vn vn vn vn none vn vn 0)) #[])
noncomputable def o_355 (P : Params) : Obj := (ob (vt "code") none (Data.fields #[(vs (S "record") 537),(vs (S "Desk.record") 538),(vs (S "/claim/cut.py") 539),(vi 150 0),(vi 5 0),(vi 0 0),(vi 0 0),(vi 3 0),(vr 282),(vl true),(vi 181 0),(vr 283),vn,(vr 284),(vr 285),(vr 286),(vi 545 0),(vi 150 0),(vs (S "/claim/cut.py") 546)]) #[])
noncomputable def o_287 (P : Params) : Obj := (ob (vt "tuple") none (Data.seq #[(vs (S "self") 462)] 0) #[])
noncomputable def o_419 (P : Params) : Obj := (ob vn none (Data.fields #[]) #[])
noncomputable def o_89 (P : Params) : Obj := (ob (vt "tuple") none (Data.seq #[(vr 31)] 0) #[])
noncomputable def o_127 (P : Params) : Obj := (ob (vt "dict") none (Data.dict #[(de (PyData.keyHash P (S "__module__")) (vs (S "__module__") 269) (vs (S "patchkin.errors") 194)),(de (PyData.keyHash P (S "__firstlineno__")) (vs (S "__firstlineno__") 273) (vi 13 272)),(de (PyData.keyHash P (S "__static_attributes__")) (vs (S "__static_attributes__") 274) (vr 78)),(de (PyData.keyHash P (S "__doc__")) (vs (S "__doc__") 275) vn)] 2) #[])
noncomputable def o_203 (P : Params) : Obj := (ob (vt "code") none (Data.fields #[(vs (S "lines_put") 354),(vs (S "lines_put") 355),(vs (S "/claim/cut.py") 356),(vi 33 0),(vi 2 0),(vi 0 0),(vi 0 0),(vi 3 0),(vr 138),(vl true),(vi 181 0),(vr 139),vn,(vr 140),(vr 141),(vr 142),(vi 361 0),(vi 33 0),(vs (S "/claim/cut.py") 362)]) #[])
noncomputable def o_339 (P : Params) : Obj := (ob vn none (Data.fields #[]) #[])
noncomputable def o_467 (P : Params) : Obj := (ob (vt "tuple") none (Data.seq #[(vs (S "self") 688),(vs (S "store") 689),(vs (S "patch") 690)] 0) #[])
noncomputable def o_271 (P : Params) : Obj := (ob (vt "tuple") none (Data.seq #[] 0) #[])
noncomputable def o_403 (P : Params) : Obj := (ob vn none (Data.func (fd (S "files") (S "Desk.files") (inClass (top 26) 12) 0 [] vn vn vn vn none vn vn 0)) #[])
noncomputable def o_168 (P : Params) : Obj := (ob vn none (Data.fields #[]) #[])
noncomputable def o_237 (P : Params) : Obj := (ob vn none (Data.fields #[]) #[])
noncomputable def o_371 (P : Params) : Obj := (ob (vt "tuple") none (Data.seq #[] 0) #[])
noncomputable def o_305 (P : Params) : Obj := (ob vn none (Data.func (fd (S "check_name") (S "check_name") (top 25) 0 [] vn vn vn vn none vn vn 0)) #[])
noncomputable def o_435 (P : Params) : Obj := (ob (vt "code") none (Data.fields #[(vs (S "sight_of") 642),(vs (S "Desk.sight_of") 643),(vs (S "/claim/cut.py") 644),(vi 186 0),(vi 3 0),(vi 0 0),(vi 0 0),(vi 3 0),(vr 362),(vl true),(vi 181 0),(vr 363),vn,(vr 364),(vr 365),(vr 366),(vi 648 0),(vi 186 0),(vs (S "/claim/cut.py") 649)]) #[])
noncomputable def o_59 (P : Params) : Obj := (ob (vt "builtin_function_or_method") none (Data.fields #[(vb "type.__prepare__"),(vt "type")]) #[])
noncomputable def o_78 (P : Params) : Obj := (ob vn none (Data.fields #[]) #[])
noncomputable def o_119 (P : Params) : Obj := (ob (vt "tuple") none (Data.seq #[(vr 31)] 0) #[])
noncomputable def o_195 (P : Params) : Obj := (ob vn none (Data.func (fd (S "live_patches") (S "live_patches") (top 12) 0 [] vn vn vn vn none vn vn 0)) #[])
noncomputable def o_331 (P : Params) : Obj := (ob (vt "tuple") none (Data.seq #[] 0) #[])
noncomputable def o_459 (P : Params) : Obj := (ob vn none (Data.fields #[]) #[])
noncomputable def o_263 (P : Params) : Obj := (ob (vt "function") none (Data.func (fd (S "__init__") (S "Sight.__init__") (inClass (top 21) 0) 3 [] vn vn vn (vs (S "patchkin.order") 342) none (vr 198) vn 0)) #[])
noncomputable def o_395 (P : Params) : Obj := (ob (vt "tuple") none (Data.seq #[] 0) #[])
noncomputable def o_157 (P : Params) : Obj := (ob (vt "dict") none (Data.dict #[(de (PyData.keyHash P (S "__module__")) (vs (S "__module__") 301) (vs (S "patchkin.errors") 194)),(de (PyData.keyHash P (S "__firstlineno__")) (vs (S "__firstlineno__") 305) (vi 17 304)),(de (PyData.keyHash P (S "__static_attributes__")) (vs (S "__static_attributes__") 306) (vr 102)),(de (PyData.keyHash P (S "__doc__")) (vs (S "__doc__") 307) vn)] 2) #[])
noncomputable def o_229 (P : Params) : Obj := (ob (vt "code") none (Data.fields #[(vs (S "joined") 385),(vs (S "joined") 386),(vs (S "/claim/cut.py") 387),(vi 59 0),(vi 2 0),(vi 0 0),(vi 0 0),(vi 3 0),(vr 162),(vl true),(vi 181 0),(vr 163),vn,(vr 164),(vr 165),(vr 166),(vi 392 0),(vi 59 0),(vs (S "/claim/cut.py") 393)]) #[])
noncomputable def o_363 (P : Params) : Obj := (ob (vt "function") none (Data.func (fd (S "cut") (S "Desk.cut") (inClass (top 26) 6) 3 [] vn vn vn (vs (S "patchkin.desk") 476) none (vr 294) vn 0)) #[])
noncomputable def o_295 (P : Params) : Obj := (ob (vt "getset_descriptor") none (Data.fields #[(vs (S "__dict__") 469),(vr 230),(vb "function.__dict__"),(vb "function.__dict__#set")]) #[])
noncomputable def o_427 (P : Params) : Obj := (ob vn none (Data.func (fd (S "patches_of") (S "Desk.patches_of") (inClass (top 26) 16) 0 [] vn vn vn vn none vn vn 0)) #[])
noncomputable def o_97 (P : Params) : Obj := (ob (vt "dict") none (Data.dict #[(de (PyData.keyHash P (S "__module__")) (vs (S "__module__") 237) (vs (S "patchkin.errors") 194)),(de (PyData.keyHash P (S "__firstlineno__")) (vs (S "__firstlineno__") 241) (vi 9 240)),(de (PyData.keyHash P (S "__static_attributes__")) (vs (S "__static_attributes__") 242) (vr 54)),(de (PyData.keyHash P (S "__doc__")) (vs (S "__doc__") 243) vn)] 2) #[])
noncomputable def o_138 (P : Params) : Obj := (ob vn none (Data.fields #[]) #[])
noncomputable def o_211 (P : Params) : Obj := (ob vn none (Data.fields #[]) #[])
noncomputable def o_347 (P : Params) : Obj := (ob vn none (Data.func (fd (S "has") (S "Desk.has") (inClass (top 26) 4) 0 [] vn vn vn vn none vn vn 0)) #[])
noncomputable def o_475 (P : Params) : Obj := (ob (vt "getset_descriptor") none (Data.fields #[(vs (S "__dict__") 698),(vr 406),(vb "function.__dict__"),(vb "function.__dict__#set")]) #[])
noncomputable def o_279 (P : Params) : Obj := (ob vn none (Data.fields #[]) #[])
noncomputable def o_411 (P : Params) : Obj := (ob (vt "tuple") none (Data.seq #[] 0) #[])
noncomputable def o_179 (P : Params) : Obj := (ob (vt "tuple") none (Data.seq #[(vr 31)] 0) #[])
noncomputable def o_245 (P : Params) : Obj := (ob vn none (Data.func (fd (S "row_of") (S "row_of") (top 20) 0 [] vn vn vn vn none vn vn 0)) #[])
noncomputable def o_379 (P : Params) : Obj := (ob vn none (Data.fields #[]) #[])
noncomputable def o_315 (P : Params) : Obj := (ob (vt "code") none (Data.fields #[(vs (S "Desk") 492),(vs (S "Desk") 493),(vs (S "/claim/cut.py") 494),(vi 127 0),(vi 0 0),(vi 0 0),(vi 0 0),(vi 0 0),(vr 245),(vl false),(vi 181 0),(vr 246),vn,vn,vn,vn,(vi 495 0),(vi 127 0),(vs (S "/claim/cut.py") 496)]) #[])
noncomputable def o_443 (P : Params) : Obj := (ob (vt "function") none (Data.func (fd (S "check_store") (S "Desk.check_store") (inClass (top 26) 18) 3 [] vn vn vn (vs (S "patchkin.desk") 476) none (vr 374) vn 0)) #[])
noncomputable def o_43 (P : Params) : Obj := (ob (vt "tuple") none (Data.seq #[] 0) #[])
noncomputable def o_55 (P : Params) : Obj := (ob vn none (Data.func (fd (S "_wall") (S "_wall") (top 0) 0 [] vn vn vn vn none vn vn 0)) #[])
noncomputable def o_74 (P : Params) : Obj := (ob (vt "tuple") none (Data.seq #[(vr 31)] 0) #[])
noncomputable def o_112 (P : Params) : Obj := (ob (vt "dict") none (Data.dict #[(de (PyData.keyHash P (S "__module__")) (vs (S "__module__") 253) (vs (S "patchkin.errors") 194)),(de (PyData.keyHash P (S "__firstlineno__")) (vs (S "__firstlineno__") 257) (vi 11 256)),(de (PyData.keyHash P (S "__static_attributes__")) (vs (S "__static_attributes__") 258) (vr 66)),(de (PyData.keyHash P (S "__doc__")) (vs (S "__doc__") 259) vn)] 2) #[])
noncomputable def o_191 (P : Params) : Obj := (ob (vt "tuple") none (Data.seq #[] 0) #[])
noncomputable def o_327 (P : Params) : Obj := (ob (vt "tuple") none (Data.seq #[] 0) #[])
noncomputable def o_455 (P : Params) : Obj := (ob vn none (Data.func (fd (S "check_held") (S "Desk.check_held") (inClass (top 26) 20) 0 [] vn vn vn vn none vn vn 0)) #[])
noncomputable def o_259 (P : Params) : Obj := (ob (vt "tuple") none (Data.seq #[(vs (S "self") 430),(vs (S "patches") 431),(vs (S "file") 432)] 0) #[])
noncomputable def o_391 (P : Params) : Obj := (ob (vt "function") none (Data.func (fd (S "leans") (S "Desk.leans") (inClass (top 26) 10) 3 [] vn vn vn (vs (S "patchkin.desk") 476) none (vr 322) vn 0)) #[])
noncomputable def o_153 (P : Params) : Obj := (ob vn none (Data.fields #[]) #[])
noncomputable def o_225 (P : Params) : Obj := (ob vn none (Data.fields #[]) #[])
noncomputable def o_359 (P : Params) : Obj := (ob (vt "tuple") none (Data.seq #[(vs (S "self") 551),(vs (S "store") 552),(vs (S "patch") 553),(vs (S "file") 554),(vs (S "places") 555)] 0) #[])
noncomputable def o_291 (P : Params) : Obj := (ob (vt "function") none (Data.func (fd (S "staying") (S "Sight.staying") (inClass (top 21) 4) 3 [] vn vn vn (vs (S "patchkin.order") 342) none (vr 226) vn 0)) #[])
noncomputable def o_423 (P : Params) : Obj := (ob (vt "code") none (Data.fields #[(vs (S "stay") 627),(vs (S "Desk.stay") 628),(vs (S "/claim/cut.py") 629),(vi 180 0),(vi 3 0),(vi 0 0),(vi 0 0),(vi 3 0),(vr 350),(vl true),(vi 181 0),(vr 351),vn,(vr 352),(vr 353),(vr 354),(vi 633 0),(vi 180 0),(vs (S "/claim/cut.py") 634)]) #[])
noncomputable def o_93 (P : Params) : Obj := (ob vn none (Data.fields #[]) #[])
noncomputable def o_134 (P : Params) : Obj := (ob (vt "tuple") none (Data.seq #[(vr 31)] 0) #[])
noncomputable def o_207 (P : Params) : Obj := (ob vn none (Data.func (fd (S "standing_lines") (S "standing_lines") (top 14) 0 [] vn vn vn vn none vn vn 0)) #[])
noncomputable def o_343 (P : Params) : Obj := (ob (vt "code") none (Data.fields #[(vs (S "patches") 524),(vs (S "Desk.patches") 525),(vs (S "/claim/cut.py") 526),(vi 143 0),(vi 1 0),(vi 0 0),(vi 0 0),(vi 3 0),(vr 270),(vl true),(vi 181 0),(vr 271),vn,(vr 272),(vr 273),(vr 274),(vi 528 0),(vi 143 0),(vs (S "/claim/cut.py") 529)]) #[])
noncomputable def o_471 (P : Params) : Obj := (ob (vt "function") none (Data.func (fd (S "keep") (S "Desk.keep") (inClass (top 26) 22) 3 [] vn vn vn (vs (S "patchkin.desk") 476) none (vr 402) vn 0)) #[])
noncomputable def o_275 (P : Params) : Obj := (ob vn none (Data.func (fd (S "quarrelling") (S "Sight.quarrelling") (inClass (top 21) 2) 0 [] vn vn vn vn none vn vn 0)) #[])
noncomputable def o_407 (P : Params) : Obj := (ob vn none (Data.fields #[]) #[])
noncomputable def o_172 (P : Params) : Obj := (ob (vt "dict") none (Data.dict #[(de (PyData.keyHash P (S "__module__")) (vs (S "__module__") 317) (vs (S "patchkin.errors") 194)),(de (PyData.keyHash P (S "__firstlineno__")) (vs (S "__firstlineno__") 321) (vi 19 320)),(de (PyData.keyHash P (S "__static_attributes__")) (vs (S "__static_attributes__") 322) (vr 114)),(de (PyData.keyHash P (S "__doc__")) (vs (S "__doc__") 323) vn)] 2) #[])
noncomputable def o_241 (P : Params) : Obj := (ob (vt "code") none (Data.fields #[(vs (S "first_free") 401),(vs (S "first_free") 402),(vs (S "/claim/cut.py") 403),(vi 81 0),(vi 1 0),(vi 0 0),(vi 0 0),(vi 3 0),(vr 174),(vl true),(vi 181 0),(vr 175),vn,(vr 176),(vr 177),(vr 178),(vi 406 0),(vi 81 0),(vs (S "/claim/cut.py") 407)]) #[])
noncomputable def o_375 (P : Params) : Obj := (ob vn none (Data.func (fd (S "take") (S "Desk.take") (inClass (top 26) 8) 0 [] vn vn vn vn none vn vn 0)) #[])
noncomputable def o_311 (P : Params) : Obj := (ob (vt "builtin_function_or_method") none (Data.fields #[(vb "type.__prepare__"),(vt "type")]) #[])
noncomputable def o_439 (P : Params) : Obj := (ob (vt "tuple") none (Data.seq #[(vs (S "self") 654),(vs (S "store") 655)] 0) #[])
noncomputable def o_63 (P : Params) : Obj := (ob (vt "code") none (Data.fields #[(vs (S "PatchError") 198),(vs (S "PatchError") 199),(vs (S "/claim/cut.py") 200),(vi 5 0),(vi 0 0),(vi 0 0),(vi 0 0),(vi 0 0),(vr 25),(vl false),(vi 181 0),(vr 26),vn,vn,vn,vn,(vi 201 0),(vi 5 0),(vs (S "/claim/cut.py") 202)]) #[])
noncomputable def o_82 (P : Params) : Obj := (ob (vt "dict") none (Data.dict #[(de (PyData.keyHash P (S "__module__")) (vs (S "__module__") 221) (vs (S "patchkin.errors") 194)),(de (PyData.keyHash P (S "__firstlineno__")) (vs (S "__firstlineno__") 225) (vi 7 224)),(de (PyData.keyHash P (S "__static_attributes__")) (vs (S "__static_attributes__") 226) (vr 42)),(de (PyData.keyHash P (S "__doc__")) (vs (S "__doc__") 227) vn)] 2) #[])
noncomputable def o_123 (P : Params) : Obj := (ob vn none (Data.fields #[]) #[])
noncomputable def o_199 (P : Params) : Obj := (ob vn none (Data.fields #[]) #[])
noncomputable def o_335 (P : Params) : Obj := (ob vn none (Data.func (fd (S "stores") (S "Desk.stores") (inClass (top 26) 2) 0 [] vn vn vn vn none vn vn 0)) #[])
noncomputable def o_463 (P : Params) : Obj := (ob (vt "code") none (Data.fields #[(vs (S "check_new") 676),(vs (S "Desk.check_new") 677),(vs (S "/claim/cut.py") 678),(vi 199 0),(vi 3 0),(vi 0 0),(vi 0 0),(vi 3 0),(vr 390),(vl true),(vi 181 0),(vr 391),vn,(vr 392),(vr 393),(vr 394),(vi 682 0),(vi 199 0),(vs (S "/claim/cut.py") 683)]) #[])
noncomputable def o_267 (P : Params) : Obj := (ob (vt "tuple") none (Data.seq #[] 0) #[])
noncomputable def o_399 (P : Params) : Obj := (ob (vt "tuple") none (Data.seq #[] 0) #[])
noncomputable def o_164 (P : Params) : Obj := (ob (vt "tuple") none (Data.seq #[(vr 31)] 0) #[])
noncomputable def o_233 (P : Params) : Obj := (ob vn none (Data.func (fd (S "all_ahead") (S "all_ahead") (top 18) 0 [] vn vn vn vn none vn vn 0)) #[])
noncomputable def o_367 (P : Params) : Obj := (ob (vt "tuple") none (Data.seq #[] 0) #[])
noncomputable def o_301 (P : Params) : Obj := (ob (vt "tuple") none (Data.seq #[] 0) #[])
noncomputable def o_431 (P : Params) : Obj := (ob vn none (Data.fields #[]) #[])
noncomputable def o_104 (P : Params) : Obj := (ob (vt "tuple") none (Data.seq #[(vr 31)] 0) #[])
noncomputable def o_142 (P : Params) : Obj := (ob (vt "dict") none (Data.dict #[(de (PyData.keyHash P (S "__module__")) (vs (S "__module__") 285) (vs (S "patchkin.errors") 194)),(de (PyData.keyHash P (S "__firstlineno__")) (vs (S "__firstlineno__") 289) (vi 15 288)),(de (PyData.keyHash P (S "__static_attributes__")) (vs (S "__static_attributes__") 290) (vr 90)),(de (PyData.keyHash P (S "__doc__")) (vs (S "__doc__") 291) vn)] 2) #[])
noncomputable def o_215 (P : Params) : Obj := (ob (vt "tuple") none (Data.seq #[] 0) #[])
noncomputable def o_351 (P : Params) : Obj := (ob vn none (Data.fields #[]) #[])
noncomputable def o_283 (P : Params) : Obj := (ob (vt "code") none (Data.fields #[(vs (S "most_from") 452),(vs (S "Sight.most_from") 453),(vs (S "/claim/cut.py") 454),(vi 113 0),(vi 1 0),(vi 0 0),(vi 0 0),(vi 3 0),(vr 214),(vl true),(vi 181 0),(vr 215),vn,(vr 216),(vr 217),(vr 218),(vi 456 0),(vi 113 0),(vs (S "/claim/cut.py") 457)]) #[])
noncomputable def o_415 (P : Params) : Obj := (ob vn none (Data.func (fd (S "quarrels") (S "Desk.quarrels") (inClass (top 26) 14) 0 [] vn vn vn vn none vn vn 0)) #[])
noncomputable def o_183 (P : Params) : Obj := (ob vn none (Data.fields #[]) #[])
noncomputable def o_251 (P : Params) : Obj := (ob (vt "builtin_function_or_method") none (Data.fields #[(vb "type.__prepare__"),(vt "type")]) #[])
noncomputable def o_383 (P : Params) : Obj := (ob (vt "code") none (Data.fields #[(vs (S "drop") 579),(vs (S "Desk.drop") 580),(vs (S "/claim/cut.py") 581),(vi 162 0),(vi 3 0),(vi 0 0),(vi 0 0),(vi 3 0),(vr 310),(vl true),(vi 181 0),(vr 311),vn,(vr 312),(vr 313),(vr 314),(vi 585 0),(vi 162 0),(vs (S "/claim/cut.py") 586)]) #[])
noncomputable def o_319 (P : Params) : Obj := (ob (vt "tuple") none (Data.seq #[(vs (S "self") 505)] 0) #[])
noncomputable def o_447 (P : Params) : Obj := (ob (vt "tuple") none (Data.seq #[] 0) #[])
noncomputable def o_53 (P : Params) : Obj := (ob (vt "tuple") none (Data.seq #[(vs (S "k") 190)] 0) #[])
noncomputable def o_69 (P : Params) : Obj := (ob (vt "super") none (Data.fields #[(vr 31),(vr 31),(vr 31)]) #[])
noncomputable def o_110 (P : Params) : Obj := (ob (vt "frame") none Data.plain #[(some (vr 64)),(some (vr 3)),(some (vr 61)),none,(some (vs (S "patchkin.errors") 194)),none,(some (vr 0))])
noncomputable def o_189 (P : Params) : Obj := (ob (vt "super") none (Data.fields #[(vr 128),(vr 128),(vr 128)]) #[])
noncomputable def o_325 (P : Params) : Obj := (ob vn none (Data.fields #[]) #[])
noncomputable def o_453 (P : Params) : Obj := (ob (vt "tuple") none (Data.seq #[(vs (S "self") 670),(vs (S "store") 671),(vs (S "patch") 672)] 0) #[])
noncomputable def o_257 (P : Params) : Obj := (ob (vt "tuple") none (Data.seq #[] 0) #[])
noncomputable def o_389 (P : Params) : Obj := (ob vn none (Data.func (fd (S "leans") (S "Desk.leans") (inClass (top 26) 10) 0 [] vn vn vn vn none vn vn 0)) #[])
noncomputable def o_151 (P : Params) : Obj := (ob (vt "dict") none (Data.dict #[(de (PyData.keyHash P (S "__module__")) (vs (S "__module__") 301) (vs (S "patchkin.errors") 194)),(de (PyData.keyHash P (S "__qualname__")) (vs (S "__qualname__") 303) (vs (S "Unsettled") 302)),(de (PyData.keyHash P (S "__firstlineno__")) (vs (S "__firstlineno__") 305) (vi 17 304)),(de (PyData.keyHash P (S "__static_attributes__")) (vs (S "__static_attributes__") 306) (vr 102))] 4) #[])
noncomputable def o_221 (P : Params) : Obj := (ob (vt "function") none (Data.func (fd (S "straight_ahead") (S "straight_ahead") (top 16) 3 [] vn vn vn (vs (S "patchkin.order") 342) none (vr 160) vn 0)) #[])
noncomputable def o_357 (P : Params) : Obj := (ob (vt "tuple") none (Data.seq #[] 0) #[])
noncomputable def o_289 (P : Params) : Obj := (ob vn none (Data.func (fd (S "staying") (S "Sight.staying") (inClass (top 21) 4) 0 [] vn vn vn vn none vn vn 0)) #[])
noncomputable def o_421 (P : Params) : Obj := (ob (vt "tuple") none (Data.seq #[] 0) #[])
noncomputable def o_91 (P : Params) : Obj := (ob (vt "dict") none (Data.dict #[(de (PyData.keyHash P (S "__module__")) (vs (S "__module__") 237) (vs (S "patchkin.errors") 194)),(de (PyData.keyHash P (S "__qualname__")) (vs (S "__qualname__") 239) (vs (S "NameTaken") 238)),(de (PyData.keyHash P (S "__firstlineno__")) (vs (S "__firstlineno__") 241) (vi 9 240)),(de (PyData.keyHash P (S "__static_attributes__")) (vs (S "__static_attributes__") 242) (vr 54))] 4) #[])
noncomputable def o_129 (P : Params) : Obj := (ob (vt "super") none (Data.fields #[(vr 80),(vr 80),(vr 80)]) #[])
noncomputable def o_205 (P : Params) : Obj := (ob (vt "tuple") none (Data.seq #[] 0) #[])
noncomputable def o_341 (P : Params) : Obj := (ob (vt "tuple") none (Data.seq #[] 0) #[])
noncomputable def o_469 (P : Params) : Obj := (ob vn none (Data.func (fd (S "keep") (S "Desk.keep") (inClass (top 26) 22) 0 [] vn vn vn vn none vn vn 0)) #[])
noncomputable def o_273 (P : Params) : Obj := (ob (vt "tuple") none (Data.seq #[(vs (S "self") 448)] 0) #[])
noncomputable def o_405 (P : Params) : Obj := (ob (vt "function") none (Data.func (fd (S "files") (S "Desk.files") (inClass (top 26) 12) 3 [] vn vn vn (vs (S "patchkin.desk") 476) none (vr 336) vn 0)) #[])
noncomputable def o_170 (P : Params) : Obj := (ob (vt "frame") none Data.plain #[(some (vr 112)),(some (vr 3)),(some (vr 109)),none,(some (vs (S "patchkin.errors") 194)),none,(some (vr 0))])
noncomputable def o_239 (P : Params) : Obj := (ob (vt "tuple") none (Data.seq #[] 0) #[])
noncomputable def o_373 (P : Params) : Obj := (ob (vt "tuple") none (Data.seq #[(vs (S "self") 572),(vs (S "store") 573),(vs (S "source") 574),(vs (S "patch") 575)] 0) #[])
noncomputable def o_307 (P : Params) : Obj := (ob (vt "function") none (Data.func (fd (S "check_name") (S "check_name") (top 25) 3 [] vn vn vn (vs (S "patchkin.desk") 476) none (vr 240) vn 0)) #[])
noncomputable def o_437 (P : Params) : Obj := (ob (vt "tuple") none (Data.seq #[] 0) #[])
noncomputable def o_61 (P : Params) : Obj := (ob (vt "tuple") none (Data.seq #[] 0) #[])
noncomputable def o_80 (P : Params) : Obj := (ob (vt "frame") none Data.plain #[(some (vr 40)),(some (vr 3)),(some (vr 37)),none,(some (vs (S "patchkin.errors") 194)),none,(some (vr 0))])
noncomputable def o_121 (P : Params) : Obj := (ob (vt "dict") none (Data.dict #[(de (PyData.keyHash P (S "__module__")) (vs (S "__module__") 269) (vs (S "patchkin.errors") 194)),(de (PyData.keyHash P (S "__qualname__")) (vs (S "__qualname__") 271) (vs (S "NoPatch") 270)),(de (PyData.keyHash P (S "__firstlineno__")) (vs (S "__firstlineno__") 273) (vi 13 272)),(de (PyData.keyHash P (S "__static_attributes__")) (vs (S "__static_attributes__") 274) (vr 78))] 4) #[])
noncomputable def o_197 (P : Params) : Obj := (ob (vt "function") none (Data.func (fd (S "live_patches") (S "live_patches") (top 12) 3 [] vn vn vn (vs (S "patchkin.order") 342) none (vr 136) vn 0)) #[])
noncomputable def o_333 (P : Params) : Obj := (ob (vt "tuple") none (Data.seq #[(vs (S "self") 520)] 0) #[])
noncomputable def o_461 (P : Params) : Obj := (ob (vt "tuple") none (Data.seq #[] 0) #[])
noncomputable def o_265 (P : Params) : Obj := (ob vn none (Data.fields #[]) #[])
noncomputable def o_397 (P : Params) : Obj := (ob (vt "code") none (Data.fields #[(vs (S "told") 596),(vs (S "Desk.told") 597),(vs (S "/claim/cut.py") 598),(vi 168 0),(vi 2 0),(vi 0 0),(vi 0 0),(vi 3 0),(vr 324),(vl true),(vi 181 0),(vr 325),vn,(vr 326),(vr 327),(vr 328),(vi 601 0),(vi 168 0),(vs (S "/claim/cut.py") 602)]) #[])
noncomputable def o_159 (P : Params) : Obj := (ob (vt "super") none (Data.fields #[(vr 104),(vr 104),(vr 104)]) #[])
noncomputable def o_231 (P : Params) : Obj := (ob (vt "tuple") none (Data.seq #[] 0) #[])
noncomputable def o_365 (P : Params) : Obj := (ob vn none (Data.fields #[]) #[])
noncomputable def o_297 (P : Params) : Obj := (ob (vt "super") none (Data.fields #[(vr 230),(vr 230),(vr 230)]) #[])
noncomputable def o_429 (P : Params) : Obj := (ob (vt "function") none (Data.func (fd (S "patches_of") (S "Desk.patches_of") (inClass (top 26) 16) 3 [] vn vn vn (vs (S "patchkin.desk") 476) none (vr 360) vn 0)) #[])
noncomputable def o_99 (P : Params) : Obj := (ob (vt "super") none (Data.fields #[(vr 56),(vr 56),(vr 56)]) #[])
noncomputable def o_140 (P : Params) : Obj := (ob (vt "frame") none Data.plain #[(some (vr 88)),(some (vr 3)),(some (vr 85)),none,(some (vs (S "patchkin.errors") 194)),none,(some (vr 0))])
noncomputable def o_213 (P : Params) : Obj := (ob (vt "code") none (Data.fields #[(vs (S "files_with_lines") 370),(vs (S "files_with_lines") 371),(vs (S "/claim/cut.py") 372),(vi 46 0),(vi 1 0),(vi 0 0),(vi 0 0),(vi 3 0),(vr 150),(vl true),(vi 181 0),(vr 151),vn,vn,vn,(vr 152),(vi 373 0),(vi 46 0),(vs (S "/claim/cut.py") 374)]) #[])
noncomputable def o_349 (P : Params) : Obj := (ob (vt "function") none (Data.func (fd (S "has") (S "Desk.has") (inClass (top 26) 4) 3 [] vn vn vn (vs (S "patchkin.desk") 476) none (vr 280) vn 0)) #[])
noncomputable def o_477 (P : Params) : Obj := (ob (vt "super") none (Data.fields #[(vr 406),(vr 406),(vr 406)]) #[])
noncomputable def o_281 (P : Params) : Obj := (ob (vt "tuple") none (Data.seq #[] 0) #[])
noncomputable def o_413 (P : Params) : Obj := (ob (vt "tuple") none (Data.seq #[(vs (S "self") 621),(vs (S "store") 622),(vs (S "file") 623)] 0) #[])
noncomputable def o_181 (P : Params) : Obj := (ob (vt "dict") none (Data.dict #[(de (PyData.keyHash P (S "__module__")) (vs (S "__module__") 333) (vs (S "patchkin.errors") 194)),(de (PyData.keyHash P (S "__qualname__")) (vs (S "__qualname__") 335) (vs (S "Leant") 334)),(de (PyData.keyHash P (S "__firstlineno__")) (vs (S "__firstlineno__") 337) (vi 21 336)),(de (PyData.keyHash P (S "__static_attributes__")) (vs (S "__static_attributes__") 338) (vr 126))] 4) #[])
noncomputable def o_247 (P : Params) : Obj := (ob (vt "function") none (Data.func (fd (S "row_of") (S "row_of") (top 20) 3 [] vn vn vn (vs (S "patchkin.order") 342) none (vr 184) vn 0)) #[])
noncomputable def o_381 (P : Params) : Obj := (ob (vt "tuple") none (Data.seq #[] 0) #[])
noncomputable def o_317 (P : Params) : Obj := (ob (vt "tuple") none (Data.seq #[] 0) #[])
noncomputable def o_445 (P : Params) : Obj := (ob vn none (Data.fields #[]) #[])
noncomputable def o_45 (P : Params) : Obj := (ob (vt "code") none (Data.fields #[(vs (S "<module>") 182),(vs (S "<module>") 183),(vs (S "/claim/cut.py") 184),(vi 1 0),(vi 0 0),(vi 0 0),(vi 0 0),(vi 0 0),(vr 11),(vl false),(vi 181 0),(vr 12),vn,vn,vn,vn,(vi 185 0),(vi 1 0),(vs (S "/claim/cut.py") 186)]) #[])
noncomputable def o_57 (P : Params) : Obj := (ob (vt "function") none (Data.func (fd (S "_wall") (S "_wall") (top 0) 3 [] vn vn vn (vs (S "__main__") 164) none (vr 20) vn 0)) #[])
noncomputable def o_76 (P : Params) : Obj := (ob (vt "dict") none (Data.dict #[(de (PyData.keyHash P (S "__module__")) (vs (S "__module__") 221) (vs (S "patchkin.errors") 194)),(de (PyData.keyHash P (S "__qualname__")) (vs (S "__qualname__") 223) (vs (S "BadName") 222)),(de (PyData.keyHash P (S "__firstlineno__")) (vs (S "__firstlineno__") 225) (vi 7 224)),(de (PyData.keyHash P (S "__static_attributes__")) (vs (S "__static_attributes__") 226) (vr 42))] 4) #[])
noncomputable def o_114 (P : Params) : Obj := (ob (vt "super") none (Data.fields #[(vr 68),(vr 68),(vr 68)]) #[])
noncomputable def o_193 (P : Params) : Obj := (ob (vt "tuple") none (Data.seq #[(vs (S "patches") 347),(vs (S "taken_back") 348),(vs (S "live") 349),(vs (S "patch") 350)] 0) #[])
noncomputable def o_329 (P : Params) : Obj := (ob (vt "code") none (Data.fields #[(vs (S "begin") 509),(vs (S "Desk.begin") 510),(vs (S "/claim/cut.py") 511),(vi 134 0),(vi 2 0),(vi 0 0),(vi 0 0),(vi 3 0),(vr 256),(vl true),(vi 181 0),(vr 257),vn,(vr 258),(vr 259),(vr 260),(vi 514 0),(vi 134 0),(vs (S "/claim/cut.py") 515)]) #[])
noncomputable def o_457 (P : Params) : Obj := (ob (vt "function") none (Data.func (fd (S "check_held") (S "Desk.check_held") (inClass (top 26) 20) 3 [] vn vn vn (vs (S "patchkin.desk") 476) none (vr 388) vn 0)) #[])
noncomputable def o_261 (P : Params) : Obj := (ob vn none (Data.func (fd (S "__init__") (S "Sight.__init__") (inClass (top 21) 0) 0 [] vn vn vn vn none vn vn 0)) #[])
noncomputable def o_393 (P : Params) : Obj := (ob vn none (Data.fields #[]) #[])
noncomputable def o_155 (P : Params) : Obj := (ob (vt "frame") none Data.plain #[(some (vr 100)),(some (vr 3)),(some (vr 97)),none,(some (vs (S "patchkin.errors") 194)),none,(some (vr 0))])
noncomputable def o_227 (P : Params) : Obj := (ob (vt "tuple") none (Data.seq #[] 0) #[])
noncomputable def o_361 (P : Params) : Obj := (ob vn none (Data.func (fd (S "cut") (S "Desk.cut") (inClass (top 26) 6) 0 [] vn vn vn vn none vn vn 0)) #[])
noncomputable def o_293 (P : Params) : Obj := (ob (vt "dict") none (Data.dict #[(de (PyData.keyHash P (S "__module__")) (vs (S "__module__") 422) (vs (S "patchkin.order") 342)),(de (PyData.keyHash P (S "__firstlineno__")) (vs (S "__firstlineno__") 426) (vi 101 425)),(de (PyData.keyHash P (S "__init__")) (vs (S "__init__") 435) (vr 199)),(de (PyData.keyHash P (S "is_ahead")) (vs (S "is_ahead") 444) (vr 206)),(de (PyData.keyHash P (S "quarrelling")) (vs (S "quarrelling") 451) (vr 213)),(de (PyData.keyHash P (S "most_from")) (vs (S "most_from") 458) (vr 220)),(de (PyData.keyHash P (S "staying")) (vs (S "staying") 465) (vr 227)),(de (PyData.keyHash P (S "__static_attributes__")) (vs (S "__static_attributes__") 468) (vr 228)),(de (PyData.keyHash P (S "__dict__")) (vs (S "__dict__") 470) (vr 231)),(de (PyData.keyHash P (S "__weakref__")) (vs (S "__weakref__") 472) (vr 232)),(de (PyData.keyHash P (S "__doc__")) (vs (S "__doc__") 473) vn)] 4) #[])
noncomputable def o_425 (P : Params) : Obj := (ob (vt "tuple") none (Data.seq #[] 0) #[])
noncomputable def o_95 (P : Params) : Obj := (ob (vt "frame") none Data.plain #[(some (vr 52)),(some (vr 3)),(some (vr 49)),none,(some (vs (S "patchkin.errors") 194)),none,(some (vr 0))])
noncomputable def o_136 (P : Params) : Obj := (ob (vt "dict") none (Data.dict #[(de (PyData.keyHash P (S "__module__")) (vs (S "__module__") 285) (vs (S "patchkin.errors") 194)),(de (PyData.keyHash P (S "__qualname__")) (vs (S "__qualname__") 287) (vs (S "NoLine") 286)),(de (PyData.keyHash P (S "__firstlineno__")) (vs (S "__firstlineno__") 289) (vi 15 288)),(de (PyData.keyHash P (S "__static_attributes__")) (vs (S "__static_attributes__") 290) (vr 90))] 4) #[])
noncomputable def o_209 (P : Params) : Obj := (ob (vt "function") none (Data.func (fd (S "standing_lines") (S "standing_lines") (top 14) 3 [] vn vn vn (vs (S "patchkin.order") 342) none (vr 148) vn 0)) #[])
noncomputable def o_345 (P : Params) : Obj := (ob (vt "tuple") none (Data.seq #[] 0) #[])
noncomputable def o_473 (P : Params) : Obj := (ob (vt "dict") none (Data.dict #[(de (PyData.keyHash P (S "__module__")) (vs (S "__module__") 497) (vs (S "patchkin.desk") 476)),(de (PyData.keyHash P (S "__firstlineno__")) (vs (S "__firstlineno__") 501) (vi 127 500)),(de (PyData.keyHash P (S "__init__")) (vs (S "__init__") 508) (vr 255)),(de (PyData.keyHash P (S "begin")) (vs (S "begin") 516) (vr 262)),(de (PyData.keyHash P (S "stores")) (vs (S "stores") 523) (vr 269)),(de (PyData.keyHash P (S "patches")) (vs (S "patches") 530) (vr 276)),(de (PyData.keyHash P (S "has")) (vs (S "has") 536) (vr 281)),(de (PyData.keyHash P (S "record")) (vs (S "record") 547) (vr 288)),(de (PyData.keyHash P (S "cut")) (vs (S "cut") 558) (vr 295)),(de (PyData.keyHash P (S "back")) (vs (S "back") 568) (vr 302)),(de (PyData.keyHash P (S "take")) (vs (S "take") 578) (vr 309)),(de (PyData.keyHash P (S "drop")) (vs (S "drop") 587) (vr 316)),(de (PyData.keyHash P (S "leans")) (vs (S "leans") 595) (vr 323)),(de (PyData.keyHash P (S "told")) (vs (S "told") 603) (vr 330)),(de (PyData.keyHash P (S "files")) (vs (S "files") 611) (vr 337)),(de (PyData.keyHash P (S "row")) (vs (S "row") 617) (vr 342)),(de (PyData.keyHash P (S "quarrels")) (vs (S "quarrels") 626) (vr 349)),(de (PyData.keyHash P (S "stay")) (vs (S "stay") 635) (vr 356)),(de (PyData.keyHash P (S "patches_of")) (vs (S "patches_of") 641) (vr 361)),(de (PyData.keyHash P (S "sight_of")) (vs (S "sight_of") 650) (vr 368)),(de (PyData.keyHash P (S "check_store")) (vs (S "check_store") 658) (vr 375)),(de (PyData.keyHash P (S "check_made")) (vs (S "check_made") 666) (vr 382)),(de (PyData.keyHash P (S "check_held")) (vs (S "check_held") 675) (vr 389)),(de (PyData.keyHash P (S "check_new")) (vs (S "check_new") 684) (vr 396)),(de (PyData.keyHash P (S "keep")) (vs (S "keep") 693) (vr 403)),(de (PyData.keyHash P (S "__static_attributes__")) (vs (S "__static_attributes__") 697) (vr 404)),(de (PyData.keyHash P (S "__dict__")) (vs (S "__dict__") 699) (vr 407)),(de (PyData.keyHash P (S "__weakref__")) (vs (S "__weakref__") 701) (vr 408)),(de (PyData.keyHash P (S "__doc__")) (vs (S "__doc__") 702) vn)] 4) #[])
noncomputable def o_277 (P : Params) : Obj := (ob (vt "function") none (Data.func (fd (S "quarrelling") (S "Sight.quarrelling") (inClass (top 21) 2) 3 [] vn vn vn (vs (S "patchkin.order") 342) none (vr 212) vn 0)) #[])
noncomputable def o_409 (P : Params) : Obj := (ob (vt "code") none (Data.fields #[(vs (S "row") 612),(vs (S "Desk.row") 613),(vs (S "/claim/cut.py") 614),(vi 174 0),(vi 3 0),(vi 0 0),(vi 0 0),(vi 3 0),(vr 338),(vl true),(vi 181 0),(vr 339),vn,vn,vn,(vr 340),(vi 615 0),(vi 174 0),(vs (S "/claim/cut.py") 616)]) #[])
noncomputable def o_174 (P : Params) : Obj := (ob (vt "super") none (Data.fields #[(vr 116),(vr 116),(vr 116)]) #[])
noncomputable def o_243 (P : Params) : Obj := (ob (vt "tuple") none (Data.seq #[] 0) #[])
noncomputable def o_377 (P : Params) : Obj := (ob (vt "function") none (Data.func (fd (S "take") (S "Desk.take") (inClass (top 26) 8) 3 [] vn vn vn (vs (S "patchkin.desk") 476) none (vr 308) vn 0)) #[])
noncomputable def o_313 (P : Params) : Obj := (ob (vt "tuple") none (Data.seq #[] 0) #[])
noncomputable def o_441 (P : Params) : Obj := (ob vn none (Data.func (fd (S "check_store") (S "Desk.check_store") (inClass (top 26) 18) 0 [] vn vn vn vn none vn vn 0)) #[])
noncomputable def o_65 (P : Params) : Obj := (ob (vt "tuple") none (Data.seq #[] 0) #[])
noncomputable def o_84 (P : Params) : Obj := (ob (vt "super") none (Data.fields #[(vr 44),(vr 44),(vr 44)]) #[])
noncomputable def o_125 (P : Params) : Obj := (ob (vt "frame") none Data.plain #[(some (vr 76)),(some (vr 3)),(some (vr 73)),none,(some (vs (S "patchkin.errors") 194)),none,(some (vr 0))])
noncomputable def o_201 (P : Params) : Obj := (ob (vt "tuple") none (Data.seq #[] 0) #[])
noncomputable def o_337 (P : Params) : Obj := (ob (vt "function") none (Data.func (fd (S "stores") (S "Desk.stores") (inClass (top 26) 2) 3 [] vn vn vn (vs (S "patchkin.desk") 476) none (vr 268) vn 0)) #[])
noncomputable def o_465 (P : Params) : Obj := (ob (vt "tuple") none (Data.seq #[] 0) #[])
noncomputable def o_269 (P : Params) : Obj := (ob (vt "code") none (Data.fields #[(vs (S "is_ahead") 436),(vs (S "Sight.is_ahead") 437),(vs (S "/claim/cut.py") 438),(vi 107 0),(vi 3 0),(vi 0 0),(vi 0 0),(vi 3 0),(vr 200),(vl true),(vi 181 0),(vr 201),vn,(vr 202),(vr 203),(vr 204),(vi 442 0),(vi 107 0),(vs (S "/claim/cut.py") 443)]) #[])
noncomputable def o_401 (P : Params) : Obj := (ob (vt "tuple") none (Data.seq #[(vs (S "self") 607),(vs (S "store") 608)] 0) #[])
noncomputable def o_166 (P : Params) : Obj := (ob (vt "dict") none (Data.dict #[(de (PyData.keyHash P (S "__module__")) (vs (S "__module__") 317) (vs (S "patchkin.errors") 194)),(de (PyData.keyHash P (S "__qualname__")) (vs (S "__qualname__") 319) (vs (S "Same") 318)),(de (PyData.keyHash P (S "__firstlineno__")) (vs (S "__firstlineno__") 321) (vi 19 320)),(de (PyData.keyHash P (S "__static_attributes__")) (vs (S "__static_attributes__") 322) (vr 114))] 4) #[])
noncomputable def o_235 (P : Params) : Obj := (ob (vt "function") none (Data.func (fd (S "all_ahead") (S "all_ahead") (top 18) 3 [] vn vn vn (vs (S "patchkin.order") 342) none (vr 172) vn 0)) #[])
noncomputable def o_369 (P : Params) : Obj := (ob (vt "code") none (Data.fields #[(vs (S "back") 559),(vs (S "Desk.back") 560),(vs (S "/claim/cut.py") 561),(vi 156 0),(vi 4 0),(vi 0 0),(vi 0 0),(vi 3 0),(vr 296),(vl true),(vi 181 0),(vr 297),vn,(vr 298),(vr 299),(vr 300),(vi 566 0),(vi 156 0),(vs (S "/claim/cut.py") 567)]) #[])
noncomputable def o_303 (P : Params) : Obj := (ob (vt "tuple") none (Data.seq #[(vs (S "name") 485),(vs (S "sign") 486)] 0) #[])
noncomputable def o_433 (P : Params) : Obj := (ob (vt "tuple") none (Data.seq #[] 0) #[])
noncomputable def o_106 (P : Params) : Obj := (ob (vt "dict") none (Data.dict #[(de (PyData.keyHash P (S "__module__")) (vs (S "__module__") 253) (vs (S "patchkin.errors") 194)),(de (PyData.keyHash P (S "__qualname__")) (vs (S "__qualname__") 255) (vs (S "NoStore") 254)),(de (PyData.keyHash P (S "__firstlineno__")) (vs (S "__firstlineno__") 257) (vi 11 256)),(de (PyData.keyHash P (S "__static_attributes__")) (vs (S "__static_attributes__") 258) (vr 66))] 4) #[])
noncomputable def o_144 (P : Params) : Obj := (ob (vt "super") none (Data.fields #[(vr 92),(vr 92),(vr 92)]) #[])
noncomputable def o_217 (P : Params) : Obj := (ob (vt "tuple") none (Data.seq #[(vs (S "lines") 379),(vs (S "straight") 380),(vs (S "line") 381)] 0) #[])
noncomputable def o_353 (P : Params) : Obj := (ob (vt "tuple") none (Data.seq #[] 0) #[])
noncomputable def o_285 (P : Params) : Obj := (ob (vt "tuple") none (Data.seq #[] 0) #[])
noncomputable def o_417 (P : Params) : Obj := (ob (vt "function") none (Data.func (fd (S "quarrels") (S "Desk.quarrels") (inClass (top 26) 14) 3 [] vn vn vn (vs (S "patchkin.desk") 476) none (vr 348) vn 0)) #[])
noncomputable def o_185 (P : Params) : Obj := (ob (vt "frame") none Data.plain #[(some (vr 124)),(some (vr 3)),(some (vr 121)),none,(some (vs (S "patchkin.errors") 194)),none,(some (vr 0))])
noncomputable def o_253 (P : Params) : Obj := (ob (vt "tuple") none (Data.seq #[] 0) #[])
noncomputable def o_385 (P : Params) : Obj := (ob (vt "tuple") none (Data.seq #[] 0) #[])
noncomputable def o_321 (P : Params) : Obj := (ob vn none (Data.func (fd (S "__init__") (S "Desk.__init__") (inClass (top 26) 0) 0 [] vn vn vn vn none vn vn 0)) #[])
noncomputable def o_449 (P : Params) : Obj := (ob (vt "code") none (Data.fields #[(vs (S "check_made") 659),(vs (S "Desk.check_made") 660),(vs (S "/claim/cut.py") 661),(vi 193 0),(vi 2 0),(vi 0 0),(vi 0 0),(vi 3 0),(vr 376),(vl true),(vi 181 0),(vr 377),vn,(vr 378),(vr 379),(vr 380),(vi 664 0),(vi 193 0),(vs (S "/claim/cut.py") 665)]) #[])
noncomputable def o_52 (P : Params) : Obj := (ob vn none (Data.fields #[]) #[])
noncomputable def o_68 (P : Params) : Obj := (ob (vt "getset_descriptor") none (Data.fields #[(vs (S "__weakref__") 209),(vr 31),(vb "ExceptionGroup.__weakref__"),vn]) #[])
noncomputable def o_109 (P : Params) : Obj := (ob (vt "code") none (Data.fields #[(vs (S "NoStore") 248),(vs (S "NoStore") 249),(vs (S "/claim/cut.py") 250),(vi 11 0),(vi 0 0),(vi 0 0),(vi 0 0),(vi 0 0),(vr 62),(vl false),(vi 181 0),(vr 63),vn,vn,vn,vn,(vi 251 0),(vi 11 0),(vs (S "/claim/cut.py") 252)]) #[])
noncomputable def o_188 (P : Params) : Obj := (ob (vt "type") none (Data.cls (cl (S "Leant") [(vr 31)] [(vr 128),(vr 31),(vt "ValueError"),(vt "Exception"),(vt "BaseException"),(vt "object")] 127 (S "Leant") true [] [] false none false)) #[(some (vr 119)),none,(some (vs (S "Leant") 326)),(some (vs (S "Leant") 334)),(some (vb "ValueError.__new__")),(some (vl true))])
noncomputable def o_324 (P : Params) : Obj := (ob (vt "tuple") none (Data.seq #[] 0) #[])
noncomputable def o_452 (P : Params) : Obj := (ob vn none (Data.fields #[]) #[])
noncomputable def o_256 (P : Params) : Obj := (ob (vt "frame") none Data.plain #[(some (vr 191)),(some (vr 3)),(some (vr 188)),none,(some (vs (S "patchkin.order") 342)),none,(some (vr 0))])
noncomputable def o_388 (P : Params) : Obj := (ob (vt "tuple") none (Data.seq #[] 0) #[])
noncomputable def o_150 (P : Params) : Obj := (ob (vt "builtin_function_or_method") none (Data.fields #[(vb "type.__prepare__"),(vt "type")]) #[])
noncomputable def o_220 (P : Params) : Obj := (ob (vt "code") none (Data.fields #[(vs (S "straight_ahead") 376),(vs (S "straight_ahead") 377),(vs (S "/claim/cut.py") 378),(vi 49 0),(vi 1 0),(vi 0 0),(vi 0 0),(vi 3 0),(vr 155),(vl true),(vi 181 0),(vr 156),vn,(vr 157),(vr 158),(vr 159),(vi 382 0),(vi 49 0),(vs (S "/claim/cut.py") 383)]) #[])
noncomputable def o_356 (P : Params) : Obj := (ob (vt "function") none (Data.func (fd (S "record") (S "Desk.record") (inClass (top 26) 5) 3 [] vn vn vn (vs (S "patchkin.desk") 476) none (vr 287) vn 0)) #[])
noncomputable def o_288 (P : Params) : Obj := (ob (vt "tuple") none (Data.seq #[] 0) #[])
noncomputable def o_420 (P : Params) : Obj := (ob (vt "tuple") none (Data.seq #[(vs (S "self") 630),(vs (S "store") 631),(vs (S "file") 632)] 0) #[])
noncomputable def o_90 (P : Params) : Obj := (ob (vt "builtin_function_or_method") none (Data.fields #[(vb "type.__prepare__"),(vt "type")]) #[])
noncomputable def o_128 (P : Params) : Obj := (ob (vt "type") none (Data.cls (cl (S "NoPatch") [(vr 31)] [(vr 80),(vr 31),(vt "ValueError"),(vt "Exception"),(vt "BaseException"),(vt "object")] 79 (S "NoPatch") true [] [] false none false)) #[(some (vr 71)),none,(some (vs (S "NoPatch") 262)),(some (vs (S "NoPatch") 270)),(some (vb "ValueError.__new__")),(some (vl true))])
noncomputable def o_204 (P : Params) : Obj := (ob (vt "function") none (Data.func (fd (S "lines_put") (S "lines_put") (top 13) 3 [] vn vn vn (vs (S "patchkin.order") 342) none (vr 143) vn 0)) #[])
noncomputable def o_340 (P : Params) : Obj := (ob (vt "tuple") none (Data.seq #[(vs (S "self") 527)] 0) #[])
noncomputable def o_468 (P : Params) : Obj := (ob (vt "tuple") none (Data.seq #[] 0) #[])
noncomputable def o_272 (P : Params) : Obj := (ob vn none (Data.fields #[]) #[])
noncomputable def o_404 (P : Params) : Obj := (ob (vt "code") none (Data.fields #[(vs (S "files") 604),(vs (S "Desk.files") 605),(vs (S "/claim/cut.py") 606),(vi 171 0),(vi 2 0),(vi 0 0),(vi 0 0),(vi 3 0),(vr 331),(vl true),(vi 181 0),(vr 332),vn,(vr 333),(vr 334),(vr 335),(vi 609 0),(vi 171 0),(vs (S "/claim/cut.py") 610)]) #[])
noncomputable def o_169 (P : Params) : Obj := (ob (vt "code") none (Data.fields #[(vs (S "Same") 312),(vs (S "Same") 313),(vs (S "/claim/cut.py") 314),(vi 19 0),(vi 0 0),(vi 0 0),(vi 0 0),(vi 0 0),(vr 110),(vl false),(vi 181 0),(vr 111),vn,vn,vn,vn,(vi 315 0),(vi 19 0),(vs (S "/claim/cut.py") 316)]) #[])
noncomputable def o_238 (P : Params) : Obj := (ob (vt "tuple") none (Data.seq #[(vs (S "waiting") 404),(vs (S "name") 405)] 0) #[])
noncomputable def o_372 (P : Params) : Obj := (ob vn none (Data.fields #[]) #[])
noncomputable def o_306 (P : Params) : Obj := (ob (vt "code") none (Data.fields #[(vs (S "check_name") 482),(vs (S "check_name") 483),(vs (S "/claim/cut.py") 484),(vi 121 0),(vi 1 0),(vi 0 0),(vi 0 0),(vi 3 0),(vr 235),(vl true),(vi 181 0),(vr 236),vn,(vr 237),(vr 238),(vr 239),(vi 487 0),(vi 121 0),(vs (S "/claim/cut.py") 488)]) #[])
noncomputable def o_436 (P : Params) : Obj := (ob (vt "function") none (Data.func (fd (S "sight_of") (S "Desk.sight_of") (inClass (top 26) 17) 3 [] vn vn vn (vs (S "patchkin.desk") 476) none (vr 367) vn 0)) #[])
noncomputable def o_60 (P : Params) : Obj := (ob (vt "dict") none (Data.dict #[(de (PyData.keyHash P (S "__module__")) (vs (S "__module__") 203) (vs (S "patchkin.errors") 194)),(de (PyData.keyHash P (S "__qualname__")) (vs (S "__qualname__") 205) (vs (S "PatchError") 204)),(de (PyData.keyHash P (S "__firstlineno__")) (vs (S "__firstlineno__") 207) (vi 5 206)),(de (PyData.keyHash P (S "__static_attributes__")) (vs (S "__static_attributes__") 208) (vr 29))] 4) #[])
noncomputable def o_79 (P : Params) : Obj := (ob (vt "code") none (Data.fields #[(vs (S "BadName") 216),(vs (S "BadName") 217),(vs (S "/claim/cut.py") 218),(vi 7 0),(vi 0 0),(vi 0 0),(vi 0 0),(vi 0 0),(vr 38),(vl false),(vi 181 0),(vr 39),vn,vn,vn,vn,(vi 219 0),(vi 7 0),(vs (S "/claim/cut.py") 220)]) #[])
noncomputable def o_120 (P : Params) : Obj := (ob (vt "builtin_function_or_method") none (Data.fields #[(vb "type.__prepare__"),(vt "type")]) #[])
noncomputable def o_196 (P : Params) : Obj := (ob (vt "code") none (Data.fields #[(vs (S "live_patches") 344),(vs (S "live_patches") 345),(vs (S "/claim/cut.py") 346),(vi 24 0),(vi 1 0),(vi 0 0),(vi 0 0),(vi 3 0),(vr 131),(vl true),(vi 181 0),(vr 132),vn,(vr 133),(vr 134),(vr 135),(vi 351 0),(vi 24 0),(vs (S "/claim/cut.py") 352)]) #[])
noncomputable def o_332 (P : Params) : Obj := (ob vn none (Data.fields #[]) #[])
noncomputable def o_460 (P : Params) : Obj := (ob (vt "tuple") none (Data.seq #[(vs (S "self") 679),(vs (S "patch") 680),(vs (S "files") 681)] 0) #[])
noncomputable def o_264 (P : Params) : Obj := (ob (vt "tuple") none (Data.seq #[] 0) #[])
noncomputable def o_396 (P : Params) : Obj := (ob vn none (Data.func (fd (S "told") (S "Desk.told") (inClass (top 26) 11) 0 [] vn vn vn vn none vn vn 0)) #[])
noncomputable def o_158 (P : Params) : Obj := (ob (vt "type") none (Data.cls (cl (S "Unsettled") [(vr 31)] [(vr 104),(vr 31),(vt "ValueError"),(vt "Exception"),(vt "BaseException"),(vt "object")] 103 (S "Unsettled") true [] [] false none false)) #[(some (vr 95)),none,(some (vs (S "Unsettled") 294)),(some (vs (S "Unsettled") 302)),(some (vb "ValueError.__new__")),(some (vl true))])
noncomputable def o_230 (P : Params) : Obj := (ob (vt "function") none (Data.func (fd (S "joined") (S "joined") (top 17) 3 [] vn vn vn (vs (S "patchkin.order") 342) none (vr 167) vn 0)) #[])
noncomputable def o_364 (P : Params) : Obj := (ob (vt "tuple") none (Data.seq #[] 0) #[])
noncomputable def o_296 (P : Params) : Obj := (ob (vt "getset_descriptor") none (Data.fields #[(vs (S "__weakref__") 471),(vr 230),(vb "ExceptionGroup.__weakref__"),vn]) #[])
noncomputable def o_428 (P : Params) : Obj := (ob (vt "code") none (Data.fields #[(vs (S "patches_of") 636),(vs (S "Desk.patches_of") 637),(vs (S "/claim/cut.py") 638),(vi 183 0),(vi 2 0),(vi 0 0),(vi 0 0),(vi 3 0),(vr 357),(vl true),(vi 181 0),(vr 358),vn,vn,vn,(vr 359),(vi 639 0),(vi 183 0),(vs (S "/claim/cut.py") 640)]) #[])
noncomputable def o_98 (P : Params) : Obj := (ob (vt "type") none (Data.cls (cl (S "NameTaken") [(vr 31)] [(vr 56),(vr 31),(vt "ValueError"),(vt "Exception"),(vt "BaseException"),(vt "object")] 55 (S "NameTaken") true [] [] false none false)) #[(some (vr 47)),none,(some (vs (S "NameTaken") 230)),(some (vs (S "NameTaken") 238)),(some (vb "ValueError.__new__")),(some (vl true))])
noncomputable def o_139 (P : Params) : Obj := (ob (vt "code") none (Data.fields #[(vs (S "NoLine") 280),(vs (S "NoLine") 281),(vs (S "/claim/cut.py") 282),(vi 15 0),(vi 0 0),(vi 0 0),(vi 0 0),(vi 0 0),(vr 86),(vl false),(vi 181 0),(vr 87),vn,vn,vn,vn,(vi 283 0),(vi 15 0),(vs (S "/claim/cut.py") 284)]) #[])
noncomputable def o_212 (P : Params) : Obj := (ob vn none (Data.func (fd (S "files_with_lines") (S "files_with_lines") (top 15) 0 [] vn vn vn vn none vn vn 0)) #[])
noncomputable def o_348 (P : Params) : Obj := (ob (vt "code") none (Data.fields #[(vs (S "has") 531),(vs (S "Desk.has") 532),(vs (S "/claim/cut.py") 533),(vi 146 0),(vi 2 0),(vi 0 0),(vi 0 0),(vi 3 0),(vr 277),(vl true),(vi 181 0),(vr 278),vn,vn,vn,(vr 279),(vi 534 0),(vi 146 0),(vs (S "/claim/cut.py") 535)]) #[])
noncomputable def o_476 (P : Params) : Obj := (ob (vt "getset_descriptor") none (Data.fields #[(vs (S "__weakref__") 700),(vr 406),(vb "ExceptionGroup.__weakref__"),vn]) #[])
noncomputable def o_280 (P : Params) : Obj := (ob (vt "tuple") none (Data.seq #[(vs (S "self") 455)] 0) #[])
noncomputable def o_412 (P : Params) : Obj := (ob vn none (Data.fields #[]) #[])
noncomputable def o_180 (P : Params) : Obj := (ob (vt "builtin_function_or_method") none (Data.fields #[(vb "type.__prepare__"),(vt "type")]) #[])
noncomputable def o_246 (P : Params) : Obj := (ob (vt "code") none (Data.fields #[(vs (S "row_of") 409),(vs (S "row_of") 410),(vs (S "/claim/cut.py") 411),(vi 86 0),(vi 2 0),(vi 0 0),(vi 0 0),(vi 3 0),(vr 181),(vl true),(vi 181 0),(vr 182),vn,vn,vn,(vr 183),(vi 412 0),(vi 86 0),(vs (S "/claim/cut.py") 413)]) #[])
noncomputable def o_380 (P : Params) : Obj := (ob (vt "tuple") none (Data.seq #[(vs (S "self") 582),(vs (S "store") 583),(vs (S "patch") 584)] 0) #[])
noncomputable def o_316 (P : Params) : Obj := (ob (vt "frame") none Data.plain #[(some (vr 247)),(some (vr 3)),(some (vr 244)),none,(some (vs (S "patchkin.desk") 476)),none,(some (vr 0))])
noncomputable def o_444 (P : Params) : Obj := (ob (vt "tuple") none (Data.seq #[] 0) #[])
noncomputable def o_309 (P : Params) : Obj := (ob vn none (Data.fields #[(vi 1 0),(vi 0 0),(vr 20),(vi 5 0),(vi 0 0),(vr 27),(vi 7 0),(vi 0 0),(vr 40),(vi 9 0),(vi 0 0),(vr 52),(vi 11 0),(vi 0 0),(vr 64),(vi 13 0),(vi 0 0),(vr 76),(vi 15 0),(vi 0 0),(vr 88),(vi 17 0),(vi 0 0),(vr 100),(vi 19 0),(vi 0 0),(vr 112),(vi 21 0),(vi 0 0),(vr 124),(vi 24 0),(vi 0 0),(vr 136),(vi 33 0),(vi 0 0),(vr 143),(vi 39 0),(vi 0 0),(vr 148),(vi 46 0),(vi 0 0),(vr 153),(vi 49 0),(vi 0 0),(vr 160),(vi 59 0),(vi 0 0),(vr 167),(vi 65 0),(vi 0 0),(vr 172),(vi 81 0),(vi 0 0),(vr 179),(vi 86 0),(vi 0 0),(vr 184),(vi 101 0),(vi 0 0),(vr 191),(vi 121 0),(vi 0 0),(vr 240),(vi 127 0),(vi 0 0),(vr 247)]) #[])
noncomputable def o_56 (P : Params) : Obj := (ob (vt "code") none (Data.fields #[(vs (S "_wall") 187),(vs (S "_wall") 188),(vs (S "/claim/cut.py") 189),(vi 1 0),(vi 1 0),(vi 0 0),(vi 0 0),(vi 3 0),(vr 15),(vl true),(vi 181 0),(vr 16),vn,(vr 17),(vr 18),(vr 19),(vi 191 0),(vi 1 0),(vs (S "/claim/cut.py") 192)]) #[])
noncomputable def o_75 (P : Params) : Obj := (ob (vt "builtin_function_or_method") none (Data.fields #[(vb "type.__prepare__"),(vt "type")]) #[])
noncomputable def o_113 (P : Params) : Obj := (ob (vt "type") none (Data.cls (cl (S "NoStore") [(vr 31)] [(vr 68),(vr 31),(vt "ValueError"),(vt "Exception"),(vt "BaseException"),(vt "object")] 67 (S "NoStore") true [] [] false none false)) #[(some (vr 59)),none,(some (vs (S "NoStore") 246)),(some (vs (S "NoStore") 254)),(some (vb "ValueError.__new__")),(some (vl true))])
noncomputable def o_192 (P : Params) : Obj := (ob vn none (Data.fields #[]) #[])
noncomputable def o_328 (P : Params) : Obj := (ob vn none (Data.func (fd (S "begin") (S "Desk.begin") (inClass (top 26) 1) 0 [] vn vn vn vn none vn vn 0)) #[])
noncomputable def o_456 (P : Params) : Obj := (ob (vt "code") none (Data.fields #[(vs (S "check_held") 667),(vs (S "Desk.check_held") 668),(vs (S "/claim/cut.py") 669),(vi 196 0),(vi 3 0),(vi 0 0),(vi 0 0),(vi 3 0),(vr 383),(vl true),(vi 181 0),(vr 384),vn,(vr 385),(vr 386),(vr 387),(vi 673 0),(vi 196 0),(vs (S "/claim/cut.py") 674)]) #[])
noncomputable def o_260 (P : Params) : Obj := (ob (vt "tuple") none (Data.seq #[] 0) #[])
noncomputable def o_392 (P : Params) : Obj := (ob (vt "tuple") none (Data.seq #[] 0) #[])
noncomputable def o_154 (P : Params) : Obj := (ob (vt "code") none (Data.fields #[(vs (S "Unsettled") 296),(vs (S "Unsettled") 297),(vs (S "/claim/cut.py") 298),(vi 17 0),(vi 0 0),(vi 0 0),(vi 0 0),(vi 0 0),(vr 98),(vl false),(vi 181 0),(vr 99),vn,vn,vn,vn,(vi 299 0),(vi 17 0),(vs (S "/claim/cut.py") 300)]) #[])
noncomputable def o_226 (P : Params) : Obj := (ob (vt "tuple") none (Data.seq #[(vs (S "names") 388),(vs (S "ahead") 389),(vs (S "found") 390),(vs (S "name") 391)] 0) #[])
noncomputable def o_360 (P : Params) : Obj := (ob (vt "tuple") none (Data.seq #[] 0) #[])
noncomputable def o_292 (P : Params) : Obj := (ob (vt "tuple") none (Data.seq #[(vs (S "ahead") 466),(vs (S "lines") 467)] 0) #[])
noncomputable def o_424 (P : Params) : Obj := (ob (vt "function") none (Data.func (fd (S "stay") (S "Desk.stay") (inClass (top 26) 15) 3 [] vn vn vn (vs (S "patchkin.desk") 476) none (vr 355) vn 0)) #[])
noncomputable def o_94 (P : Params) : Obj := (ob (vt "code") none (Data.fields #[(vs (S "NameTaken") 232),(vs (S "NameTaken") 233),(vs (S "/claim/cut.py") 234),(vi 9 0),(vi 0 0),(vi 0 0),(vi 0 0),(vi 0 0),(vr 50),(vl false),(vi 181 0),(vr 51),vn,vn,vn,vn,(vi 235 0),(vi 9 0),(vs (S "/claim/cut.py") 236)]) #[])
noncomputable def o_135 (P : Params) : Obj := (ob (vt "builtin_function_or_method") none (Data.fields #[(vb "type.__prepare__"),(vt "type")]) #[])
noncomputable def o_208 (P : Params) : Obj := (ob (vt "code") none (Data.fields #[(vs (S "standing_lines") 364),(vs (S "standing_lines") 365),(vs (S "/claim/cut.py") 366),(vi 39 0),(vi 2 0),(vi 0 0),(vi 0 0),(vi 3 0),(vr 145),(vl true),(vi 181 0),(vr 146),vn,vn,vn,(vr 147),(vi 367 0),(vi 39 0),(vs (S "/claim/cut.py") 368)]) #[])
noncomputable def o_344 (P : Params) : Obj := (ob (vt "function") none (Data.func (fd (S "patches") (S "Desk.patches") (inClass (top 26) 3) 3 [] vn vn vn (vs (S "patchkin.desk") 476) none (vr 275) vn 0)) #[])
noncomputable def o_472 (P : Params) : Obj := (ob (vt "tuple") none (Data.seq #[(vs (S "held") 694),(vs (S "made") 695),(vs (S "needs") 696)] 0) #[])
noncomputable def o_276 (P : Params) : Obj := (ob (vt "code") none (Data.fields #[(vs (S "quarrelling") 445),(vs (S "Sight.quarrelling") 446),(vs (S "/claim/cut.py") 447),(vi 110 0),(vi 1 0),(vi 0 0),(vi 0 0),(vi 3 0),(vr 207),(vl true),(vi 181 0),(vr 208),vn,(vr 209),(vr 210),(vr 211),(vi 449 0),(vi 110 0),(vs (S "/claim/cut.py") 450)]) #[])
noncomputable def o_408 (P : Params) : Obj := (ob vn none (Data.func (fd (S "row") (S "Desk.row") (inClass (top 26) 13) 0 [] vn vn vn vn none vn vn 0)) #[])
noncomputable def o_173 (P : Params) : Obj := (ob (vt "type") none (Data.cls (cl (S "Same") [(vr 31)] [(vr 116),(vr 31),(vt "ValueError"),(vt "Exception"),(vt "BaseException"),(vt "object")] 115 (S "Same") true [] [] false none false)) #[(some (vr 107)),none,(some (vs (S "Same") 310)),(some (vs (S "Same") 318)),(some (vb "ValueError.__new__")),(some (vl true))])
noncomputable def o_242 (P : Params) : Obj := (ob (vt "function") none (Data.func (fd (S "first_free") (S "first_free") (top 19) 3 [] vn vn vn (vs (S "patchkin.order") 342) none (vr 179) vn 0)) #[])
noncomputable def o_376 (P : Params) : Obj := (ob (vt "code") none (Data.fields #[(vs (S "take") 569),(vs (S "Desk.take") 570),(vs (S "/claim/cut.py") 571),(vi 159 0),(vi 4 0),(vi 0 0),(vi 0 0),(vi 3 0),(vr 303),(vl true),(vi 181 0),(vr 304),vn,(vr 305),(vr 306),(vr 307),(vi 576 0),(vi 159 0),(vs (S "/claim/cut.py") 577)]) #[])
noncomputable def o_312 (P : Params) : Obj := (ob (vt "dict") none (Data.dict #[(de (PyData.keyHash P (S "__module__")) (vs (S "__module__") 497) (vs (S "patchkin.desk") 476)),(de (PyData.keyHash P (S "__qualname__")) (vs (S "__qualname__") 499) (vs (S "Desk") 498)),(de (PyData.keyHash P (S "__firstlineno__")) (vs (S "__firstlineno__") 501) (vi 127 500)),(de (PyData.keyHash P (S "__init__")) (vs (S "__init__") 508) (vr 255)),(de (PyData.keyHash P (S "begin")) (vs (S "begin") 516) (vr 262)),(de (PyData.keyHash P (S "stores")) (vs (S "stores") 523) (vr 269)),(de (PyData.keyHash P (S "patches")) (vs (S "patches") 530) (vr 276)),(de (PyData.keyHash P (S "has")) (vs (S "has") 536) (vr 281)),(de (PyData.keyHash P (S "record")) (vs (S "record") 547) (vr 288)),(de (PyData.keyHash P (S "cut")) (vs (S "cut") 558) (vr 295)),(de (PyData.keyHash P (S "back")) (vs (S "back") 568) (vr 302)),(de (PyData.keyHash P (S "take")) (vs (S "take") 578) (vr 309)),(de (PyData.keyHash P (S "drop")) (vs (S "drop") 587) (vr 316)),(de (PyData.keyHash P (S "leans")) (vs (S "leans") 595) (vr 323)),(de (PyData.keyHash P (S "told")) (vs (S "told") 603) (vr 330)),(de (PyData.keyHash P (S "files")) (vs (S "files") 611) (vr 337)),(de (PyData.keyHash P (S "row")) (vs (S "row") 617) (vr 342)),(de (PyData.keyHash P (S "quarrels")) (vs (S "quarrels") 626) (vr 349)),(de (PyData.keyHash P (S "stay")) (vs (S "stay") 635) (vr 356)),(de (PyData.keyHash P (S "patches_of")) (vs (S "patches_of") 641) (vr 361)),(de (PyData.keyHash P (S "sight_of")) (vs (S "sight_of") 650) (vr 368)),(de (PyData.keyHash P (S "check_store")) (vs (S "check_store") 658) (vr 375)),(de (PyData.keyHash P (S "check_made")) (vs (S "check_made") 666) (vr 382)),(de (PyData.keyHash P (S "check_held")) (vs (S "check_held") 675) (vr 389)),(de (PyData.keyHash P (S "check_new")) (vs (S "check_new") 684) (vr 396)),(de (PyData.keyHash P (S "keep")) (vs (S "keep") 693) (vr 403)),(de (PyData.keyHash P (S "__static_attributes__")) (vs (S "__static_attributes__") 697) (vr 404))] 27) #[])
noncomputable def o_440 (P : Params) : Obj := (ob (vt "tuple") none (Data.seq #[] 0) #[])
noncomputable def o_64 (P : Params) : Obj := (ob (vt "frame") none Data.plain #[(some (vr 27)),(some (vr 3)),(some (vr 24)),none,(some (vs (S "patchkin.errors") 194)),none,(some (vr 0))])
noncomputable def o_83 (P : Params) : Obj := (ob (vt "type") none (Data.cls (cl (S "BadName") [(vr 31)] [(vr 44),(vr 31),(vt "ValueError"),(vt "Exception"),(vt "BaseException"),(vt "object")] 43 (S "BadName") true [] [] false none false)) #[(some (vr 35)),none,(some (vs (S "BadName") 214)),(some (vs (S "BadName") 222)),(some (vb "ValueError.__new__")),(some (vl true))])
noncomputable def o_124 (P : Params) : Obj := (ob (vt "code") none (Data.fields #[(vs (S "NoPatch") 264),(vs (S "NoPatch") 265),(vs (S "/claim/cut.py") 266),(vi 13 0),(vi 0 0),(vi 0 0),(vi 0 0),(vi 0 0),(vr 74),(vl false),(vi 181 0),(vr 75),vn,vn,vn,vn,(vi 267 0),(vi 13 0),(vs (S "/claim/cut.py") 268)]) #[])
noncomputable def o_200 (P : Params) : Obj := (ob (vt "tuple") none (Data.seq #[(vs (S "patches") 357),(vs (S "file") 358),(vs (S "lines") 359),(vs (S "patch") 360)] 0) #[])
noncomputable def o_336 (P : Params) : Obj := (ob (vt "code") none (Data.fields #[(vs (S "stores") 517),(vs (S "Desk.stores") 518),(vs (S "/claim/cut.py") 519),(vi 140 0),(vi 1 0),(vi 0 0),(vi 0 0),(vi 3 0),(vr 263),(vl true),(vi 181 0),(vr 264),vn,(vr 265),(vr 266),(vr 267),(vi 521 0),(vi 140 0),(vs (S "/claim/cut.py") 522)]) #[])
noncomputable def o_464 (P : Params) : Obj := (ob (vt "function") none (Data.func (fd (S "check_new") (S "Desk.check_new") (inClass (top 26) 21) 3 [] vn vn vn (vs (S "patchkin.desk") 476) none (vr 395) vn 0)) #[])
noncomputable def o_268 (P : Params) : Obj := (ob vn none (Data.func (fd (S "is_ahead") (S "Sight.is_ahead") (inClass (top 21) 1) 0 [] vn vn vn vn none vn vn 0)) #[])
noncomputable def o_400 (P : Params) : Obj := (ob vn none (Data.fields #[]) #[])
noncomputable def o_165 (P : Params) : Obj := (ob (vt "builtin_function_or_method") none (Data.fields #[(vb "type.__prepare__"),(vt "type")]) #[])
noncomputable def o_234 (P : Params) : Obj := (ob (vt "code") none (Data.fields #[(vs (S "all_ahead") 395),(vs (S "all_ahead") 396),(vs (S "/claim/cut.py") 397),(vi 65 0),(vi 1 0),(vi 0 0),(vi 0 0),(vi 3 0),(vr 169),(vl true),(vi 181 0),(vr 170),vn,vn,vn,(vr 171),(vi 398 0),(vi 65 0),(vs (S "/claim/cut.py") 399)]) #[])
noncomputable def o_368 (P : Params) : Obj := (ob vn none (Data.func (fd (S "back") (S "Desk.back") (inClass (top 26) 7) 0 [] vn vn vn vn none vn vn 0)) #[])
noncomputable def o_302 (P : Params) : Obj := (ob vn none (Data.fields #[]) #[])
noncomputable def o_432 (P : Params) : Obj := (ob (vt "tuple") none (Data.seq #[(vs (S "self") 645),(vs (S "store") 646),(vs (S "file") 647)] 0) #[])
noncomputable def o_105 (P : Params) : Obj := (ob (vt "builtin_function_or_method") none (Data.fields #[(vb "type.__prepare__"),(vt "type")]) #[])
noncomputable def o_143 (P : Params) : Obj := (ob (vt "type") none (Data.cls (cl (S "NoLine") [(vr 31)] [(vr 92),(vr 31),(vt "ValueError"),(vt "Exception"),(vt "BaseException"),(vt "object")] 91 (S "NoLine") true [] [] false none false)) #[(some (vr 83)),none,(some (vs (S "NoLine") 278)),(some (vs (S "NoLine") 286)),(some (vb "ValueError.__new__")),(some (vl true))])
noncomputable def o_216 (P : Params) : Obj := (ob vn none (Data.fields #[]) #[])
noncomputable def o_352 (P : Params) : Obj := (ob (vt "tuple") none (Data.seq #[(vs (S "self") 540),(vs (S "store") 541),(vs (S "patch") 542),(vs (S "file") 543),(vs (S "texts") 544)] 0) #[])
noncomputable def o_284 (P : Params) : Obj := (ob (vt "function") none (Data.func (fd (S "most_from") (S "Sight.most_from") (inClass (top 21) 3) 3 [] vn vn vn (vs (S "patchkin.order") 342) none (vr 219) vn 0)) #[])
noncomputable def o_416 (P : Params) : Obj := (ob (vt "code") none (Data.fields #[(vs (S "quarrels") 618),(vs (S "Desk.quarrels") 619),(vs (S "/claim/cut.py") 620),(vi 177 0),(vi 3 0),(vi 0 0),(vi 0 0),(vi 3 0),(vr 343),(vl true),(vi 181 0),(vr 344),vn,(vr 345),(vr 346),(vr 347),(vi 624 0),(vi 177 0),(vs (S "/claim/cut.py") 625)]) #[])
noncomputable def o_184 (P : Params) : Obj := (ob (vt "code") none (Data.fields #[(vs (S "Leant") 328),(vs (S "Leant") 329),(vs (S "/claim/cut.py") 330),(vi 21 0),(vi 0 0),(vi 0 0),(vi 0 0),(vi 0 0),(vr 122),(vl false),(vi 181 0),(vr 123),vn,vn,vn,vn,(vi 331 0),(vi 21 0),(vs (S "/claim/cut.py") 332)]) #[])
noncomputable def o_252 (P : Params) : Obj := (ob (vt "dict") none (Data.dict #[(de (PyData.keyHash P (S "__module__")) (vs (S "__module__") 422) (vs (S "patchkin.order") 342)),(de (PyData.keyHash P (S "__qualname__")) (vs (S "__qualname__") 424) (vs (S "Sight") 423)),(de (PyData.keyHash P (S "__firstlineno__")) (vs (S "__firstlineno__") 426) (vi 101 425)),(de (PyData.keyHash P (S "__init__")) (vs (S "__init__") 435) (vr 199)),(de (PyData.keyHash P (S "is_ahead")) (vs (S "is_ahead") 444) (vr 206)),(de (PyData.keyHash P (S "quarrelling")) (vs (S "quarrelling") 451) (vr 213)),(de (PyData.keyHash P (S "most_from")) (vs (S "most_from") 458) (vr 220)),(de (PyData.keyHash P (S "staying")) (vs (S "staying") 465) (vr 227)),(de (PyData.keyHash P (S "__static_attributes__")) (vs (S "__static_attributes__") 468) (vr 228))] 9) #[])
noncomputable def o_384 (P : Params) : Obj := (ob (vt "function") none (Data.func (fd (S "drop") (S "Desk.drop") (inClass (top 26) 9) 3 [] vn vn vn (vs (S "patchkin.desk") 476) none (vr 315) vn 0)) #[])
noncomputable def o_320 (P : Params) : Obj := (ob (vt "tuple") none (Data.seq #[] 0) #[])
noncomputable def o_448 (P : Params) : Obj := (ob vn none (Data.func (fd (S "check_made") (S "Desk.check_made") (inClass (top 26) 19) 0 [] vn vn vn vn none vn vn 0)) #[])
noncomputable def o_54 (P : Params) : Obj := (ob (vt "tuple") none (Data.seq #[] 0) #[])
noncomputable def o_70 (P : Params) : Obj := (ob (vt "builtin_function_or_method") none (Data.fields #[(vb "object.__init_subclass__"),(vr 31)]) #[])
noncomputable def o_111 (P : Params) : Obj := (ob (vt "tuple") none (Data.seq #[] 0) #[])
noncomputable def o_190 (P : Params) : Obj := (ob (vt "builtin_function_or_method") none (Data.fields #[(vb "object.__init_subclass__"),(vr 128)]) #[])
noncomputable def o_326 (P : Params) : Obj := (ob (vt "tuple") none (Data.seq #[(vs (S "self") 512),(vs (S "store") 513)] 0) #[])
noncomputable def o_454 (P : Params) : Obj := (ob (vt "tuple") none (Data.seq #[] 0) #[])
noncomputable def o_258 (P : Params) : Obj := (ob vn none (Data.fields #[]) #[])
noncomputable def o_390 (P : Params) : Obj := (ob (vt "code") none (Data.fields #[(vs (S "leans") 588),(vs (S "Desk.leans") 589),(vs (S "/claim/cut.py") 590),(vi 165 0),(vi 2 0),(vi 0 0),(vi 0 0),(vi 3 0),(vr 317),(vl true),(vi 181 0),(vr 318),vn,(vr 319),(vr 320),(vr 321),(vi 593 0),(vi 165 0),(vs (S "/claim/cut.py") 594)]) #[])
noncomputable def o_152 (P : Params) : Obj := (ob (vt "tuple") none (Data.seq #[] 0) #[])
noncomputable def o_224 (P : Params) : Obj := (ob (vt "tuple") none (Data.seq #[] 0) #[])
noncomputable def o_358 (P : Params) : Obj := (ob vn none (Data.fields #[]) #[])
noncomputable def o_290 (P : Params) : Obj := (ob (vt "code") none (Data.fields #[(vs (S "staying") 459),(vs (S "Sight.staying") 460),(vs (S "/claim/cut.py") 461),(vi 116 0),(vi 1 0),(vi 0 0),(vi 0 0),(vi 3 0),(vr 221),(vl true),(vi 181 0),(vr 222),vn,(vr 223),(vr 224),(vr 225),(vi 463 0),(vi 116 0),(vs (S "/claim/cut.py") 464)]) #[])
noncomputable def o_422 (P : Params) : Obj := (ob vn none (Data.func (fd (S "stay") (S "Desk.stay") (inClass (top 26) 15) 0 [] vn vn vn vn none vn vn 0)) #[])
noncomputable def o_92 (P : Params) : Obj := (ob (vt "tuple") none (Data.seq #[] 0) #[])
noncomputable def o_130 (P : Params) : Obj := (ob (vt "builtin_function_or_method") none (Data.fields #[(vb "object.__init_subclass__"),(vr 80)]) #[])
noncomputable def o_206 (P : Params) : Obj := (ob vn none (Data.fields #[]) #[])
noncomputable def o_342 (P : Params) : Obj := (ob vn none (Data.func (fd (S "patches") (S "Desk.patches") (inClass (top 26) 3) 0 [] vn vn vn vn none vn vn 0)) #[])
noncomputable def o_470 (P : Params) : Obj := (ob (vt "code") none (Data.fields #[(vs (S "keep") 685),(vs (S "Desk.keep") 686),(vs (S "/claim/cut.py") 687),(vi 202 0),(vi 3 0),(vi 0 0),(vi 0 0),(vi 3 0),(vr 397),(vl true),(vi 181 0),(vr 398),vn,(vr 399),(vr 400),(vr 401),(vi 691 0),(vi 202 0),(vs (S "/claim/cut.py") 692)]) #[])
noncomputable def o_274 (P : Params) : Obj := (ob (vt "tuple") none (Data.seq #[] 0) #[])
noncomputable def o_406 (P : Params) : Obj := (ob (vt "tuple") none (Data.seq #[] 0) #[])
noncomputable def o_171 (P : Params) : Obj := (ob (vt "tuple") none (Data.seq #[] 0) #[])
noncomputable def o_240 (P : Params) : Obj := (ob vn none (Data.func (fd (S "first_free") (S "first_free") (top 19) 0 [] vn vn vn vn none vn vn 0)) #[])
noncomputable def o_374 (P : Params) : Obj := (ob (vt "tuple") none (Data.seq #[] 0) #[])
noncomputable def o_310 (P : Params) : Obj := (ob (vt "tuple") none (Data.seq #[] 0) #[])
noncomputable def o_438 (P : Params) : Obj := (ob vn none (Data.fields #[]) #[])
noncomputable def o_62 (P : Params) : Obj := (ob vn none (Data.fields #[]) #[])
noncomputable def o_81 (P : Params) : Obj := (ob (vt "tuple") none (Data.seq #[] 0) #[])
noncomputable def o_122 (P : Params) : Obj := (ob (vt "tuple") none (Data.seq #[] 0) #[])
noncomputable def o_198 (P : Params) : Obj := (ob (vt "tuple") none (Data.seq #[] 0) #[])
noncomputable def o_334 (P : Params) : Obj := (ob (vt "tuple") none (Data.seq #[] 0) #[])
noncomputable def o_462 (P : Params) : Obj := (ob vn none (Data.func (fd (S "check_new") (S "Desk.check_new") (inClass (top 26) 21) 0 [] vn vn vn vn none vn vn 0)) #[])
noncomputable def o_266 (P : Params) : Obj := (ob (vt "tuple") none (Data.seq #[(vs (S "self") 439),(vs (S "first") 440),(vs (S "second") 441)] 0) #[])
noncomputable def o_398 (P : Params) : Obj := (ob (vt "function") none (Data.func (fd (S "told") (S "Desk.told") (inClass (top 26) 11) 3 [] vn vn vn (vs (S "patchkin.desk") 476) none (vr 329) vn 0)) #[])
noncomputable def o_160 (P : Params) : Obj := (ob (vt "builtin_function_or_method") none (Data.fields #[(vb "object.__init_subclass__"),(vr 104)]) #[])
noncomputable def o_232 (P : Params) : Obj := (ob vn none (Data.fields #[]) #[])
noncomputable def o_366 (P : Params) : Obj := (ob (vt "tuple") none (Data.seq #[(vs (S "self") 562),(vs (S "store") 563),(vs (S "patch") 564),(vs (S "other") 565)] 0) #[])
noncomputable def o_298 (P : Params) : Obj := (ob (vt "builtin_function_or_method") none (Data.fields #[(vb "object.__init_subclass__"),(vr 230)]) #[])
noncomputable def o_430 (P : Params) : Obj := (ob (vt "tuple") none (Data.seq #[] 0) #[])
noncomputable def o_100 (P : Params) : Obj := (ob (vt "builtin_function_or_method") none (Data.fields #[(vb "object.__init_subclass__"),(vr 56)]) #[])
noncomputable def o_141 (P : Params) : Obj := (ob (vt "tuple") none (Data.seq #[] 0) #[])
noncomputable def o_214 (P : Params) : Obj := (ob (vt "function") none (Data.func (fd (S "files_with_lines") (S "files_with_lines") (top 15) 3 [] vn vn vn (vs (S "patchkin.order") 342) none (vr 153) vn 0)) #[])
noncomputable def o_350 (P : Params) : Obj := (ob (vt "tuple") none (Data.seq #[] 0) #[])
noncomputable def o_478 (P : Params) : Obj := (ob (vt "builtin_function_or_method") none (Data.fields #[(vb "object.__init_subclass__"),(vr 406)]) #[])
noncomputable def o_282 (P : Params) : Obj := (ob vn none (Data.func (fd (S "most_from") (S "Sight.most_from") (inClass (top 21) 3) 0 [] vn vn vn vn none vn vn 0)) #[])
noncomputable def o_414 (P : Params) : Obj := (ob (vt "tuple") none (Data.seq #[] 0) #[])
noncomputable def o_182 (P : Params) : Obj := (ob (vt "tuple") none (Data.seq #[] 0) #[])
noncomputable def o_250 (P : Params) : Obj := (ob (vt "tuple") none (Data.seq #[] 0) #[])
noncomputable def o_382 (P : Params) : Obj := (ob vn none (Data.func (fd (S "drop") (S "Desk.drop") (inClass (top 26) 9) 0 [] vn vn vn vn none vn vn 0)) #[])
noncomputable def o_318 (P : Params) : Obj := (ob vn none (Data.fields #[]) #[])
noncomputable def o_446 (P : Params) : Obj := (ob (vt "tuple") none (Data.seq #[(vs (S "self") 662),(vs (S "patch") 663)] 0) #[])
noncomputable def o_46 (P : Params) : Obj := (ob (vt "frame") none Data.plain #[(some (vr 13)),(some (vr 3)),(some (vr 3)),none,(some (vs (S "__main__") 164)),none,(some (vr 0))])
noncomputable def o_58 (P : Params) : Obj := (ob (vt "tuple") none (Data.seq #[(vt "ValueError")] 0) #[])
noncomputable def o_77 (P : Params) : Obj := (ob (vt "tuple") none (Data.seq #[] 0) #[])
noncomputable def o_115 (P : Params) : Obj := (ob (vt "builtin_function_or_method") none (Data.fields #[(vb "object.__init_subclass__"),(vr 68)]) #[])
noncomputable def o_194 (P : Params) : Obj := (ob (vt "tuple") none (Data.seq #[] 0) #[])
noncomputable def o_330 (P : Params) : Obj := (ob (vt "function") none (Data.func (fd (S "begin") (S "Desk.begin") (inClass (top 26) 1) 3 [] vn vn vn (vs (S "patchkin.desk") 476) none (vr 261) vn 0)) #[])
noncomputable def o_458 (P : Params) : Obj := (ob (vt "tuple") none (Data.seq #[] 0) #[])
noncomputable def o_262 (P : Params) : Obj := (ob (vt "code") none (Data.fields #[(vs (S "__init__") 427),(vs (S "Sight.__init__") 428),(vs (S "/claim/cut.py") 429),(vi 103 0),(vi 3 0),(vi 0 0),(vi 0 0),(vi 3 0),(vr 193),(vl true),(vi 181 0),(vr 194),vn,(vr 195),(vr 196),(vr 197),(vi 433 0),(vi 103 0),(vs (S "/claim/cut.py") 434)]) #[])
noncomputable def o_394 (P : Params) : Obj := (ob (vt "tuple") none (Data.seq #[(vs (S "self") 599),(vs (S "patch") 600)] 0) #[])
noncomputable def o_156 (P : Params) : Obj := (ob (vt "tuple") none (Data.seq #[] 0) #[])
noncomputable def o_228 (P : Params) : Obj := (ob vn none (Data.func (fd (S "joined") (S "joined") (top 17) 0 [] vn vn vn vn none vn vn 0)) #[])
noncomputable def o_362 (P : Params) : Obj := (ob (vt "code") none (Data.fields #[(vs (S "cut") 548),(vs (S "Desk.cut") 549),(vs (S "/claim/cut.py") 550),(vi 153 0),(vi 5 0),(vi 0 0),(vi 0 0),(vi 3 0),(vr 289),(vl true),(vi 181 0),(vr 290),vn,(vr 291),(vr 292),(vr 293),(vi 556 0),(vi 153 0),(vs (S "/claim/cut.py") 557)]) #[])
noncomputable def o_294 (P : Params) : Obj := (ob (vt "type") none (Data.cls (cl (S "Sight") [(vt "object")] [(vr 230),(vt "object")] 229 (S "Sight") true [] [] false none false)) #[none,none,(some (vs (S "Sight") 415)),(some (vs (S "Sight") 423)),(some (vb "object.__new__")),(some (vl true))])
noncomputable def o_426 (P : Params) : Obj := (ob vn none (Data.fields #[]) #[])
noncomputable def o_96 (P : Params) : Obj := (ob (vt "tuple") none (Data.seq #[] 0) #[])
noncomputable def o_137 (P : Params) : Obj := (ob (vt "tuple") none (Data.seq #[] 0) #[])
noncomputable def o_210 (P : Params) : Obj := (ob (vt "tuple") none (Data.seq #[] 0) #[])
noncomputable def o_346 (P : Params) : Obj := (ob vn none (Data.fields #[]) #[])
noncomputable def o_474 (P : Params) : Obj := (ob (vt "type") none (Data.cls (cl (S "Desk") [(vt "object")] [(vr 406),(vt "object")] 405 (S "Desk") true [] [] false none false)) #[none,none,(some (vs (S "Desk") 490)),(some (vs (S "Desk") 498)),(some (vb "object.__new__")),(some (vl true))])
noncomputable def o_278 (P : Params) : Obj := (ob (vt "tuple") none (Data.seq #[] 0) #[])
noncomputable def o_410 (P : Params) : Obj := (ob (vt "function") none (Data.func (fd (S "row") (S "Desk.row") (inClass (top 26) 13) 3 [] vn vn vn (vs (S "patchkin.desk") 476) none (vr 341) vn 0)) #[])
noncomputable def o_175 (P : Params) : Obj := (ob (vt "builtin_function_or_method") none (Data.fields #[(vb "object.__init_subclass__"),(vr 116)]) #[])
noncomputable def o_244 (P : Params) : Obj := (ob vn none (Data.fields #[]) #[])
noncomputable def o_378 (P : Params) : Obj := (ob (vt "tuple") none (Data.seq #[] 0) #[])
noncomputable def o_314 (P : Params) : Obj := (ob vn none (Data.fields #[(vi 129 0),(vi 4 0),(vr 254),(vi 134 0),(vi 4 0),(vr 261),(vi 140 0),(vi 4 0),(vr 268),(vi 143 0),(vi 4 0),(vr 275),(vi 146 0),(vi 4 0),(vr 280),(vi 150 0),(vi 4 0),(vr 287),(vi 153 0),(vi 4 0),(vr 294),(vi 156 0),(vi 4 0),(vr 301),(vi 159 0),(vi 4 0),(vr 308),(vi 162 0),(vi 4 0),(vr 315),(vi 165 0),(vi 4 0),(vr 322),(vi 168 0),(vi 4 0),(vr 329),(vi 171 0),(vi 4 0),(vr 336),(vi 174 0),(vi 4 0),(vr 341),(vi 177 0),(vi 4 0),(vr 348),(vi 180 0),(vi 4 0),(vr 355),(vi 183 0),(vi 4 0),(vr 360),(vi 186 0),(vi 4 0),(vr 367),(vi 189 0),(vi 4 0),(vr 374),(vi 193 0),(vi 4 0),(vr 381),(vi 196 0),(vi 4 0),(vr 388),(vi 199 0),(vi 4 0),(vr 395),(vi 202 0),(vi 4 0),(vr 402)]) #[])
noncomputable def o_442 (P : Params) : Obj := (ob (vt "code") none (Data.fields #[(vs (S "check_store") 651),(vs (S "Desk.check_store") 652),(vs (S "/claim/cut.py") 653),(vi 189 0),(vi 2 0),(vi 0 0),(vi 0 0),(vi 3 0),(vr 369),(vl true),(vi 181 0),(vr 370),vn,(vr 371),(vr 372),(vr 373),(vi 656 0),(vi 189 0),(vs (S "/claim/cut.py") 657)]) #[])
noncomputable def o_66 (P : Params) : Obj := (ob (vt "dict") none (Data.dict #[(de (PyData.keyHash P (S "__module__")) (vs (S "__module__") 203) (vs (S "patchkin.errors") 194)),(de (PyData.keyHash P (S "__firstlineno__")) (vs (S "__firstlineno__") 207) (vi 5 206)),(de (PyData.keyHash P (S "__static_attributes__")) (vs (S "__static_attributes__") 208) (vr 29)),(de (PyData.keyHash P (S "__weakref__")) (vs (S "__weakref__") 210) (vr 32)),(de (PyData.keyHash P (S "__doc__")) (vs (S "__doc__") 211) vn)] 3) #[])
noncomputable def o_85 (P : Params) : Obj := (ob (vt "builtin_function_or_method") none (Data.fields #[(vb "object.__init_subclass__"),(vr 44)]) #[])
noncomputable def o_126 (P : Params) : Obj := (ob (vt "tuple") none (Data.seq #[] 0) #[])
noncomputable def o_202 (P : Params) : Obj := (ob vn none (Data.func (fd (S "lines_put") (S "lines_put") (top 13) 0 [] vn vn vn vn none vn vn 0)) #[])
noncomputable def o_338 (P : Params) : Obj := (ob (vt "tuple") none (Data.seq #[] 0) #[])
noncomputable def o_466 (P : Params) : Obj := (ob vn none (Data.fields #[]) #[])
noncomputable def o_270 (P : Params) : Obj := (ob (vt "function") none (Data.func (fd (S "is_ahead") (S "Sight.is_ahead") (inClass (top 21) 1) 3 [] vn vn vn (vs (S "patchkin.order") 342) none (vr 205) vn 0)) #[])
noncomputable def o_402 (P : Params) : Obj := (ob (vt "tuple") none (Data.seq #[] 0) #[])
noncomputable def o_167 (P : Params) : Obj := (ob (vt "tuple") none (Data.seq #[] 0) #[])
noncomputable def o_236 (P : Params) : Obj := (ob (vt "tuple") none (Data.seq #[] 0) #[])
noncomputable def o_370 (P : Params) : Obj := (ob (vt "function") none (Data.func (fd (S "back") (S "Desk.back") (inClass (top 26) 7) 3 [] vn vn vn (vs (S "patchkin.desk") 476) none (vr 301) vn 0)) #[])
noncomputable def o_304 (P : Params) : Obj := (ob (vt "tuple") none (Data.seq #[] 0) #[])
noncomputable def o_434 (P : Params) : Obj := (ob vn none (Data.func (fd (S "sight_of") (S "Desk.sight_of") (inClass (top 26) 17) 0 [] vn vn vn vn none vn vn 0)) #[])
noncomputable def o_107 (P : Params) : Obj := (ob (vt "tuple") none (Data.seq #[] 0) #[])
noncomputable def o_145 (P : Params) : Obj := (ob (vt "builtin_function_or_method") none (Data.fields #[(vb "object.__init_subclass__"),(vr 92)]) #[])
noncomputable def o_218 (P : Params) : Obj := (ob (vt "tuple") none (Data.seq #[] 0) #[])
noncomputable def o_354 (P : Params) : Obj := (ob vn none (Data.func (fd (S "record") (S "Desk.record") (inClass (top 26) 5) 0 [] vn vn vn vn none vn vn 0)) #[])
noncomputable def o_286 (P : Params) : Obj := (ob vn none (Data.fields #[]) #[])
noncomputable def o_418 (P : Params) : Obj := (ob (vt "tuple") none (Data.seq #[] 0) #[])
noncomputable def o_186 (P : Params) : Obj := (ob (vt "tuple") none (Data.seq #[] 0) #[])
noncomputable def o_254 (P : Params) : Obj := (ob vn none (Data.fields #[(vi 103 0),(vi 4 0),(vr 198),(vi 107 0),(vi 4 0),(vr 205),(vi 110 0),(vi 4 0),(vr 212),(vi 113 0),(vi 4 0),(vr 219),(vi 116 0),(vi 4 0),(vr 226)]) #[])
noncomputable def o_386 (P : Params) : Obj := (ob vn none (Data.fields #[]) #[])
noncomputable def o_322 (P : Params) : Obj := (ob (vt "code") none (Data.fields #[(vs (S "__init__") 502),(vs (S "Desk.__init__") 503),(vs (S "/claim/cut.py") 504),(vi 129 0),(vi 1 0),(vi 0 0),(vi 0 0),(vi 3 0),(vr 249),(vl true),(vi 181 0),(vr 250),vn,(vr 251),(vr 252),(vr 253),(vi 506 0),(vi 129 0),(vs (S "/claim/cut.py") 507)]) #[])
noncomputable def o_450 (P : Params) : Obj := (ob (vt "function") none (Data.func (fd (S "check_made") (S "Desk.check_made") (inClass (top 26) 19) 3 [] vn vn vn (vs (S "patchkin.desk") 476) none (vr 381) vn 0)) #[])
noncomputable def o_86 (P : Params) : Obj := (ob (vt "dict") none (Data.dict #[(de (PyData.keyHash P (S "__name__")) (vs (S "__name__") 165) (vs (S "patchkin.errors") 194)),(de (PyData.keyHash P (S "__doc__")) (vs (S "__doc__") 166) vn),(de (PyData.keyHash P (S "__package__")) (vs (S "__package__") 167) vn),(de (PyData.keyHash P (S "__loader__")) (vs (S "__loader__") 168) (vb "__main__.__loader__#opaque")),(de (PyData.keyHash P (S "__spec__")) (vs (S "__spec__") 169) vn),(de (PyData.keyHash P (S "__annotations__")) (vs (S "__annotations__") 170) (vr 6)),(de (PyData.keyHash P (S "__builtins__")) (vs (S "__builtins__") 171) (vr 4)),(de (PyData.keyHash P (S "__file__")) (vs (S "__file__") 173) (vs (S "/claim/cut.py") 172)),(de (PyData.keyHash P (S "__cached__")) (vs (S "__cached__") 174) vn),(de (PyData.keyHash P (S "_wall")) (vs (S "_wall") 193) (vr 21)),(de (PyData.keyHash P (S "PatchError")) (vs (S "PatchError") 213) (vr 31)),(de (PyData.keyHash P (S "BadName")) (vs (S "BadName") 229) (vr 44)),(de (PyData.keyHash P (S "NameTaken")) (vs (S "NameTaken") 245) (vr 56))] 13) #[])
noncomputable def o_88 (P : Params) : Obj := (ob (vt "type") none (Data.cls (cl (S "PatchError") [(vt "ValueError")] [(vr 31),(vt "ValueError"),(vt "Exception"),(vt "BaseException"),(vt "object")] 30 (S "PatchError") true [] [(vr 44),(vr 56)] false none false)) #[(some (vr 22)),none,(some (vs (S "PatchError") 196)),(some (vs (S "PatchError") 204)),(some (vb "ValueError.__new__")),(some (vl true))])
noncomputable def o_87 (P : Params) : Obj := (ob vn none (Data.fields #[(vi 1 0),(vi 0 0),(vr 20),(vi 5 0),(vi 0 0),(vr 27),(vi 7 0),(vi 0 0),(vr 40),(vi 9 0),(vi 0 0),(vr 52)]) #[])
noncomputable def o_146 (P : Params) : Obj := (ob (vt "dict") none (Data.dict #[(de (PyData.keyHash P (S "__name__")) (vs (S "__name__") 165) (vs (S "patchkin.errors") 194)),(de (PyData.keyHash P (S "__doc__")) (vs (S "__doc__") 166) vn),(de (PyData.keyHash P (S "__package__")) (vs (S "__package__") 167) vn),(de (PyData.keyHash P (S "__loader__")) (vs (S "__loader__") 168) (vb "__main__.__loader__#opaque")),(de (PyData.keyHash P (S "__spec__")) (vs (S "__spec__") 169) vn),(de (PyData.keyHash P (S "__annotations__")) (vs (S "__annotations__") 170) (vr 6)),(de (PyData.keyHash P (S "__builtins__")) (vs (S "__builtins__") 171) (vr 4)),(de (PyData.keyHash P (S "__file__")) (vs (S "__file__") 173) (vs (S "/claim/cut.py") 172)),(de (PyData.keyHash P (S "__cached__")) (vs (S "__cached__") 174) vn),(de (PyData.keyHash P (S "_wall")) (vs (S "_wall") 193) (vr 21)),(de (PyData.keyHash P (S "PatchError")) (vs (S "PatchError") 213) (vr 31)),(de (PyData.keyHash P (S "BadName")) (vs (S "BadName") 229) (vr 44)),(de (PyData.keyHash P (S "NameTaken")) (vs (S "NameTaken") 245) (vr 56)),(de (PyData.keyHash P (S "NoStore")) (vs (S "NoStore") 261) (vr 68)),(de (PyData.keyHash P (S "NoPatch")) (vs (S "NoPatch") 277) (vr 80)),(de (PyData.keyHash P (S "NoLine")) (vs (S "NoLine") 293) (vr 92)),(de (PyData.keyHash P (S "Unsettled")) (vs (S "Unsettled") 309) (vr 104))] 17) #[])
noncomputable def o_148 (P : Params) : Obj := (ob (vt "type") none (Data.cls (cl (S "PatchError") [(vt "ValueError")] [(vr 31),(vt "ValueError"),(vt "Exception"),(vt "BaseException"),(vt "object")] 30 (S "PatchError") true [] [(vr 44),(vr 56),(vr 68),(vr 80),(vr 92),(vr 104)] false none false)) #[(some (vr 22)),none,(some (vs (S "PatchError") 196)),(some (vs (S "PatchError") 204)),(some (vb "ValueError.__new__")),(some (vl true))])
noncomputable def o_147 (P : Params) : Obj := (ob vn none (Data.fields #[(vi 1 0),(vi 0 0),(vr 20),(vi 5 0),(vi 0 0),(vr 27),(vi 7 0),(vi 0 0),(vr 40),(vi 9 0),(vi 0 0),(vr 52),(vi 11 0),(vi 0 0),(vr 64),(vi 13 0),(vi 0 0),(vr 76),(vi 15 0),(vi 0 0),(vr 88),(vi 17 0),(vi 0 0),(vr 100)]) #[])
noncomputable def o_176 (P : Params) : Obj := (ob (vt "dict") none (Data.dict #[(de (PyData.keyHash P (S "__name__")) (vs (S "__name__") 165) (vs (S "patchkin.order") 342)),(de (PyData.keyHash P (S "__doc__")) (vs (S "__doc__") 166) vn),(de (PyData.keyHash P (S "__package__")) (vs (S "__package__") 167) vn),(de (PyData.keyHash P (S "__loader__")) (vs (S "__loader__") 168) (vb "__main__.__loader__#opaque")),(de (PyData.keyHash P (S "__spec__")) (vs (S "__spec__") 169) vn),(de (PyData.keyHash P (S "__annotations__")) (vs (S "__annotations__") 170) (vr 6)),(de (PyData.keyHash P (S "__builtins__")) (vs (S "__builtins__") 171) (vr 4)),(de (PyData.keyHash P (S "__file__")) (vs (S "__file__") 173) (vs (S "/claim/cut.py") 172)),(de (PyData.keyHash P (S "__cached__")) (vs (S "__cached__") 174) vn),(de (PyData.keyHash P (S "_wall")) (vs (S "_wall") 193) (vr 21)),(de (PyData.keyHash P (S "PatchError")) (vs (S "PatchError") 213) (vr 31)),(de (PyData.keyHash P (S "BadName")) (vs (S "BadName") 229) (vr 44)),(de (PyData.keyHash P (S "NameTaken")) (vs (S "NameTaken") 245) (vr 56)),(de (PyData.keyHash P (S "NoStore")) (vs (S "NoStore") 261) (vr 68)),(de (PyData.keyHash P (S "NoPatch")) (vs (S "NoPatch") 277) (vr 80)),(de (PyData.keyHash P (S "NoLine")) (vs (S "NoLine") 293) (vr 92)),(de (PyData.keyHash P (S "Unsettled")) (vs (S "Unsettled") 309) (vr 104)),(de (PyData.keyHash P (S "Same")) (vs (S "Same") 325) (vr 116)),(de (PyData.keyHash P (S "Leant")) (vs (S "Leant") 341) (vr 128)),(de (PyData.keyHash P (S "live_patches")) (vs (S "live_patches") 353) (vr 137)),(de (PyData.keyHash P (S "lines_put")) (vs (S "lines_put") 363) (vr 144)),(de (PyData.keyHash P (S "standing_lines")) (vs (S "standing_lines") 369) (vr 149)),(de (PyData.keyHash P (S "files_with_lines")) (vs (S "files_with_lines") 375) (vr 154)),(de (PyData.keyHash P (S "straight_ahead")) (vs (S "straight_ahead") 384) (vr 161))] 24) #[])
noncomputable def o_177 (P : Params) : Obj := (ob vn none (Data.fields #[(vi 1 0),(vi 0 0),(vr 20),(vi 5 0),(vi 0 0),(vr 27),(vi 7 0),(vi 0 0),(vr 40),(vi 9 0),(vi 0 0),(vr 52),(vi 11 0),(vi 0 0),(vr 64),(vi 13 0),(vi 0 0),(vr 76),(vi 15 0),(vi 0 0),(vr 88),(vi 17 0),(vi 0 0),(vr 100),(vi 19 0),(vi 0 0),(vr 112),(vi 21 0),(vi 0 0),(vr 124),(vi 24 0),(vi 0 0),(vr 136),(vi 33 0),(vi 0 0),(vr 143),(vi 39 0),(vi 0 0),(vr 148),(vi 46 0),(vi 0 0),(vr 153),(vi 49 0),(vi 0 0),(vr 160)]) #[])
noncomputable def o_131 (P : Params) : Obj := (ob (vt "dict") none (Data.dict #[(de (PyData.keyHash P (S "__name__")) (vs (S "__name__") 165) (vs (S "patchkin.errors") 194)),(de (PyData.keyHash P (S "__doc__")) (vs (S "__doc__") 166) vn),(de (PyData.keyHash P (S "__package__")) (vs (S "__package__") 167) vn),(de (PyData.keyHash P (S "__loader__")) (vs (S "__loader__") 168) (vb "__main__.__loader__#opaque")),(de (PyData.keyHash P (S "__spec__")) (vs (S "__spec__") 169) vn),(de (PyData.keyHash P (S "__annotations__")) (vs (S "__annotations__") 170) (vr 6)),(de (PyData.keyHash P (S "__builtins__")) (vs (S "__builtins__") 171) (vr 4)),(de (PyData.keyHash P (S "__file__")) (vs (S "__file__") 173) (vs (S "/claim/cut.py") 172)),(de (PyData.keyHash P (S "__cached__")) (vs (S "__cached__") 174) vn),(de (PyData.keyHash P (S "_wall")) (vs (S "_wall") 193) (vr 21)),(de (PyData.keyHash P (S "PatchError")) (vs (S "PatchError") 213) (vr 31)),(de (PyData.keyHash P (S "BadName")) (vs (S "BadName") 229) (vr 44)),(de (PyData.keyHash P (S "NameTaken")) (vs (S "NameTaken") 245) (vr 56)),(de (PyData.keyHash P (S "NoStore")) (vs (S "NoStore") 261) (vr 68)),(de (PyData.keyHash P (S "NoPatch")) (vs (S "NoPatch") 277) (vr 80)),(de (PyData.keyHash P (S "NoLine")) (vs (S "NoLine") 293) (vr 92))] 16) #[])
noncomputable def o_133 (P : Params) : Obj := (ob (vt "type") none (Data.cls (cl (S "PatchError") [(vt "ValueError")] [(vr 31),(vt "ValueError"),(vt "Exception"),(vt "BaseException"),(vt "object")] 30 (S "PatchError") true [] [(vr 44),(vr 56),(vr 68),(vr 80),(vr 92)] false none false)) #[(some (vr 22)),none,(some (vs (S "PatchError") 196)),(some (vs (S "PatchError") 204)),(some (vb "ValueError.__new__")),(some (vl true))])
noncomputable def o_132 (P : Params) : Obj := (ob vn none (Data.fields #[(vi 1 0),(vi 0 0),(vr 20),(vi 5 0),(vi 0 0),(vr 27),(vi 7 0),(vi 0 0),(vr 40),(vi 9 0),(vi 0 0),(vr 52),(vi 11 0),(vi 0 0),(vr 64),(vi 13 0),(vi 0 0),(vr 76),(vi 15 0),(vi 0 0),(vr 88)]) #[])
noncomputable def o_49 (P : Params) : Obj := (ob (vt "dict") none (Data.dict #[(de (PyData.keyHash P (S "__name__")) (vs (S "__name__") 165) (vs (S "patchkin.errors") 194)),(de (PyData.keyHash P (S "__doc__")) (vs (S "__doc__") 166) vn),(de (PyData.keyHash P (S "__package__")) (vs (S "__package__") 167) vn),(de (PyData.keyHash P (S "__loader__")) (vs (S "__loader__") 168) (vb "__main__.__loader__#opaque")),(de (PyData.keyHash P (S "__spec__")) (vs (S "__spec__") 169) vn),(de (PyData.keyHash P (S "__annotations__")) (vs (S "__annotations__") 170) (vr 6)),(de (PyData.keyHash P (S "__builtins__")) (vs (S "__builtins__") 171) (vr 4)),(de (PyData.keyHash P (S "__file__")) (vs (S "__file__") 173) (vs (S "/claim/cut.py") 172)),(de (PyData.keyHash P (S "__cached__")) (vs (S "__cached__") 174) vn),(de (PyData.keyHash P (S "_wall")) (vs (S "_wall") 193) (vr 21)),(de (PyData.keyHash P (S "PatchError")) (vs (S "PatchError") 213) (vr 31))] 11) #[])
noncomputable def o_67 (P : Params) : Obj := (ob (vt "type") none (Data.cls (cl (S "PatchError") [(vt "ValueError")] [(vr 31),(vt "ValueError"),(vt "Exception"),(vt "BaseException"),(vt "object")] 30 (S "PatchError") true [] [] false none false)) #[(some (vr 22)),none,(some (vs (S "PatchError") 196)),(some (vs (S "PatchError") 204)),(some (vb "ValueError.__new__")),(some (vl true))])
noncomputable def o_50 (P : Params) : Obj := (ob vn none (Data.fields #[(vi 1 0),(vi 0 0),(vr 20),(vi 5 0),(vi 0 0),(vr 27)]) #[])
noncomputable def o_565 (P : Params) : Obj := (ob (vt "dict") none (Data.dict #[(de (PyData.keyHash P (S "__name__")) (vs (S "__name__") 165) (vs (S "law_patchkin_k02_stores_begun") 705)),(de (PyData.keyHash P (S "__doc__")) (vs (S "__doc__") 166) vn),(de (PyData.keyHash P (S "__package__")) (vs (S "__package__") 167) vn),(de (PyData.keyHash P (S "__loader__")) (vs (S "__loader__") 168) (vb "__main__.__loader__#opaque")),(de (PyData.keyHash P (S "__spec__")) (vs (S "__spec__") 169) vn),(de (PyData.keyHash P (S "__annotations__")) (vs (S "__annotations__") 170) (vr 6)),(de (PyData.keyHash P (S "__builtins__")) (vs (S "__builtins__") 171) (vr 4)),(de (PyData.keyHash P (S "__file__")) (vs (S "__file__") 173) (vs (S "/claim/cut.py") 172)),(de (PyData.keyHash P (S "__cached__")) (vs (S "__cached__") 174) vn),(de (PyData.keyHash P (S "_wall")) (vs (S "_wall") 193) (vr 21)),(de (PyData.keyHash P (S "PatchError")) (vs (S "PatchError") 213) (vr 31)),(de (PyData.keyHash P (S "BadName")) (vs (S "BadName") 229) (vr 44)),(de (PyData.keyHash P (S "NameTaken")) (vs (S "NameTaken") 245) (vr 56)),(de (PyData.keyHash P (S "NoStore")) (vs (S "NoStore") 261) (vr 68)),(de (PyData.keyHash P (S "NoPatch")) (vs (S "NoPatch") 277) (vr 80)),(de (PyData.keyHash P (S "NoLine")) (vs (S "NoLine") 293) (vr 92)),(de (PyData.keyHash P (S "Unsettled")) (vs (S "Unsettled") 309) (vr 104)),(de (PyData.keyHash P (S "Same")) (vs (S "Same") 325) (vr 116)),(de (PyData.keyHash P (S "Leant")) (vs (S "Leant") 341) (vr 128)),(de (PyData.keyHash P (S "live_patches")) (vs (S "live_patches") 353) (vr 137)),(de (PyData.keyHash P (S "lines_put")) (vs (S "lines_put") 363) (vr 144)),(de (PyData.keyHash P (S "standing_lines")) (vs (S "standing_lines") 369) (vr 149)),(de (PyData.keyHash P (S "files_with_lines")) (vs (S "files_with_lines") 375) (vr 154)),(de (PyData.keyHash P (S "straight_ahead")) (vs (S "straight_ahead") 384) (vr 161)),(de (PyData.keyHash P (S "joined")) (vs (S "joined") 394) (vr 168)),(de (PyData.keyHash P (S "all_ahead")) (vs (S "all_ahead") 400) (vr 173)),(de (PyData.keyHash P (S "first_free")) (vs (S "first_free") 408) (vr 180)),(de (PyData.keyHash P (S "row_of")) (vs (S "row_of") 414) (vr 185)),(de (PyData.keyHash P (S "Sight")) (vs (S "Sight") 475) (vr 230)),(de (PyData.keyHash P (S "NAME_SIGNS")) (vs (S "NAME_SIGNS") 479) (vs (S "abcdefghijklmnopqrstuvwxyz0123456789") 478)),(de (PyData.keyHash P (S "LONGEST_NAME")) (vs (S "LONGEST_NAME") 481) (vi 12 480)),(de (PyData.keyHash P (S "check_name")) (vs (S "check_name") 489) (vr 241)),(de (PyData.keyHash P (S "Desk")) (vs (S "Desk") 704) (vr 406)),(de (PyData.keyHash P (S "_law_cell_at")) (vs (S "_law_cell_at") 714) (vr 417)),(de (PyData.keyHash P (S "_law_name")) (vs (S "_law_name") 728) (vr 424)),(de (PyData.keyHash P (S "_law_names_are")) (vs (S "_law_names_are") 737) (vr 431)),(de (PyData.keyHash P (S "_law_which")) (vs (S "_law_which") 745) (vr 438)),(de (PyData.keyHash P (S "_law_due")) (vs (S "_law_due") 751) (vr 443)),(de (PyData.keyHash P (S "_law_asked")) (vs (S "_law_asked") 761) (vr 450)),(de (PyData.keyHash P (S "_law_odd_name")) (vs (S "_law_odd_name") 771) (vr 457)),(de (PyData.keyHash P (S "law")) (vs (S "law") 786) (vr 464))] 41) #[])
noncomputable def o_603 (P : Params) : Obj := (ob (vt "tuple") none (Data.seq #[] 0) #[])
noncomputable def o_571 (P : Params) : Obj := (ob vn none (Data.func (fd (S "_law_cell_at") (S "_law_cell_at") (top 28) 0 [] vn vn vn vn none vn vn 0)) #[])
noncomputable def o_619 (P : Params) : Obj := (ob (vt "code") none (Data.fields #[(vs (S "law") 772),(vs (S "law") 773),(vs (S "/claim/cut.py") 774),(vi 248 0),(vi 1 0),(vi 0 0),(vi 0 0),(vi 3 0),(vr 458),(vl true),(vi 181 0),(vr 459),vn,(vr 460),(vr 461),(vr 462),(vi 784 0),(vi 248 0),(vs (S "/claim/cut.py") 785)]) #[])
noncomputable def o_587 (P : Params) : Obj := (ob (vt "function") none (Data.func (fd (S "_law_names_are") (S "_law_names_are") (top 30) 3 [] vn vn vn (vs (S "law_patchkin_k02_stores_begun") 705) none (vr 430) vn 0)) #[])
noncomputable def o_611 (P : Params) : Obj := (ob vn none (Data.func (fd (S "_law_odd_name") (S "_law_odd_name") (top 34) 0 [] vn vn vn vn none vn vn 0)) #[])
noncomputable def o_579 (P : Params) : Obj := (ob (vt "code") none (Data.fields #[(vs (S "_law_name") 715),(vs (S "_law_name") 716),(vs (S "/claim/cut.py") 717),(vi 209 0),(vi 2 0),(vi 0 0),(vi 0 0),(vi 3 0),(vr 418),(vl true),(vi 181 0),(vr 419),vn,(vr 420),(vr 421),(vr 422),(vi 726 0),(vi 209 0),(vs (S "/claim/cut.py") 727)]) #[])
noncomputable def o_595 (P : Params) : Obj := (ob (vt "tuple") none (Data.seq #[] 0) #[])
noncomputable def o_607 (P : Params) : Obj := (ob (vt "tuple") none (Data.seq #[] 0) #[])
noncomputable def o_575 (P : Params) : Obj := (ob vn none (Data.fields #[]) #[])
noncomputable def o_591 (P : Params) : Obj := (ob (vt "tuple") none (Data.seq #[] 0) #[])
noncomputable def o_615 (P : Params) : Obj := (ob vn none (Data.fields #[]) #[])
noncomputable def o_583 (P : Params) : Obj := (ob (vt "tuple") none (Data.seq #[(vs (S "found") 732),(vs (S "due") 733),(vs (S "name") 734)] 0) #[])
noncomputable def o_567 (P : Params) : Obj := (ob (vt "tuple") none (Data.seq #[] 0) #[])
noncomputable def o_599 (P : Params) : Obj := (ob (vt "function") none (Data.func (fd (S "_law_due") (S "_law_due") (top 32) 3 [] vn vn vn (vs (S "law_patchkin_k02_stores_begun") 705) none (vr 442) vn 0)) #[])
noncomputable def o_605 (P : Params) : Obj := (ob (vt "code") none (Data.fields #[(vs (S "_law_asked") 752),(vs (S "_law_asked") 753),(vs (S "/claim/cut.py") 754),(vi 234 0),(vi 2 0),(vi 0 0),(vi 0 0),(vi 3 0),(vr 444),(vl true),(vi 181 0),(vr 445),vn,(vr 446),(vr 447),(vr 448),(vi 759 0),(vi 234 0),(vs (S "/claim/cut.py") 760)]) #[])
noncomputable def o_573 (P : Params) : Obj := (ob (vt "function") none (Data.func (fd (S "_law_cell_at") (S "_law_cell_at") (top 28) 3 [] vn vn vn (vs (S "law_patchkin_k02_stores_begun") 705) none (vr 416) vn 0)) #[])
noncomputable def o_589 (P : Params) : Obj := (ob vn none (Data.fields #[]) #[])
noncomputable def o_613 (P : Params) : Obj := (ob (vt "function") none (Data.func (fd (S "_law_odd_name") (S "_law_odd_name") (top 34) 3 [] vn vn vn (vs (S "law_patchkin_k02_stores_begun") 705) none (vr 456) vn 0)) #[])
noncomputable def o_581 (P : Params) : Obj := (ob (vt "tuple") none (Data.seq #[] 0) #[])
noncomputable def o_597 (P : Params) : Obj := (ob vn none (Data.func (fd (S "_law_due") (S "_law_due") (top 32) 0 [] vn vn vn vn none vn vn 0)) #[])
noncomputable def o_609 (P : Params) : Obj := (ob (vt "tuple") none (Data.seq #[(vs (S "name") 765),(vs (S "cell") 766),(vs (S "some") 767),(vs (S "at") 768)] 0) #[])
noncomputable def o_577 (P : Params) : Obj := (ob (vt "tuple") none (Data.seq #[] 0) #[])
noncomputable def o_593 (P : Params) : Obj := (ob (vt "code") none (Data.fields #[(vs (S "_law_which") 738),(vs (S "_law_which") 739),(vs (S "/claim/cut.py") 740),(vi 228 0),(vi 1 0),(vi 0 0),(vi 0 0),(vi 3 0),(vr 432),(vl true),(vi 181 0),(vr 433),vn,(vr 434),(vr 435),(vr 436),(vi 743 0),(vi 228 0),(vs (S "/claim/cut.py") 744)]) #[])
noncomputable def o_617 (P : Params) : Obj := (ob (vt "tuple") none (Data.seq #[] 0) #[])
noncomputable def o_585 (P : Params) : Obj := (ob vn none (Data.func (fd (S "_law_names_are") (S "_law_names_are") (top 30) 0 [] vn vn vn vn none vn vn 0)) #[])
noncomputable def o_569 (P : Params) : Obj := (ob (vt "tuple") none (Data.seq #[(vs (S "script") 710),(vs (S "k") 711)] 0) #[])
noncomputable def o_601 (P : Params) : Obj := (ob vn none (Data.fields #[]) #[])
noncomputable def o_604 (P : Params) : Obj := (ob vn none (Data.func (fd (S "_law_asked") (S "_law_asked") (top 33) 0 [] vn vn vn vn none vn vn 0)) #[])
noncomputable def o_572 (P : Params) : Obj := (ob (vt "code") none (Data.fields #[(vs (S "_law_cell_at") 707),(vs (S "_law_cell_at") 708),(vs (S "/claim/cut.py") 709),(vi 205 0),(vi 2 0),(vi 0 0),(vi 0 0),(vi 3 0),(vr 411),(vl true),(vi 181 0),(vr 412),vn,(vr 413),(vr 414),(vr 415),(vi 712 0),(vi 205 0),(vs (S "/claim/cut.py") 713)]) #[])
noncomputable def o_620 (P : Params) : Obj := (ob (vt "function") none (Data.func (fd (S "law") (S "law") (top 35) 3 [] vn vn vn (vs (S "law_patchkin_k02_stores_begun") 705) none (vr 463) vn 0)) #[])
noncomputable def o_588 (P : Params) : Obj := (ob (vt "tuple") none (Data.seq #[] 0) #[])
noncomputable def o_612 (P : Params) : Obj := (ob (vt "code") none (Data.fields #[(vs (S "_law_odd_name") 762),(vs (S "_law_odd_name") 763),(vs (S "/claim/cut.py") 764),(vi 242 0),(vi 2 0),(vi 0 0),(vi 0 0),(vi 3 0),(vr 451),(vl true),(vi 181 0),(vr 452),vn,(vr 453),(vr 454),(vr 455),(vi 769 0),(vi 242 0),(vs (S "/claim/cut.py") 770)]) #[])
noncomputable def o_580 (P : Params) : Obj := (ob (vt "function") none (Data.func (fd (S "_law_name") (S "_law_name") (top 29) 3 [] vn vn vn (vs (S "law_patchkin_k02_stores_begun") 705) none (vr 423) vn 0)) #[])
noncomputable def o_596 (P : Params) : Obj := (ob vn none (Data.fields #[]) #[])
noncomputable def o_566 (P : Params) : Obj := (ob vn none (Data.fields #[(vi 1 0),(vi 0 0),(vr 20),(vi 5 0),(vi 0 0),(vr 27),(vi 7 0),(vi 0 0),(vr 40),(vi 9 0),(vi 0 0),(vr 52),(vi 11 0),(vi 0 0),(vr 64),(vi 13 0),(vi 0 0),(vr 76),(vi 15 0),(vi 0 0),(vr 88),(vi 17 0),(vi 0 0),(vr 100),(vi 19 0),(vi 0 0),(vr 112),(vi 21 0),(vi 0 0),(vr 124),(vi 24 0),(vi 0 0),(vr 136),(vi 33 0),(vi 0 0),(vr 143),(vi 39 0),(vi 0 0),(vr 148),(vi 46 0),(vi 0 0),(vr 153),(vi 49 0),(vi 0 0),(vr 160),(vi 59 0),(vi 0 0),(vr 167),(vi 65 0),(vi 0 0),(vr 172),(vi 81 0),(vi 0 0),(vr 179),(vi 86 0),(vi 0 0),(vr 184),(vi 101 0),(vi 0 0),(vr 191),(vi 121 0),(vi 0 0),(vr 240),(vi 127 0),(vi 0 0),(vr 247),(vi 205 0),(vi 0 0),(vr 416),(vi 209 0),(vi 0 0),(vr 423),(vi 221 0),(vi 0 0),(vr 430),(vi 228 0),(vi 0 0),(vr 437),(vi 232 0),(vi 0 0),(vr 442),(vi 234 0),(vi 0 0),(vr 449),(vi 242 0),(vi 0 0),(vr 456),(vi 248 0),(vi 0 0),(vr 463)]) #[])
noncomputable def o_608 (P : Params) : Obj := (ob vn none (Data.fields #[]) #[])
noncomputable def o_576 (P : Params) : Obj := (ob (vt "tuple") none (Data.seq #[(vs (S "cell") 718),(vs (S "k") 719),(vs (S "signs") 720),(vs (S "size") 721),(vs (S "base") 722),(vs (S "far") 723),(vs (S "found") 724),(vs (S "j") 725)] 0) #[])
noncomputable def o_592 (P : Params) : Obj := (ob vn none (Data.func (fd (S "_law_which") (S "_law_which") (top 31) 0 [] vn vn vn vn none vn vn 0)) #[])
noncomputable def o_616 (P : Params) : Obj := (ob (vt "tuple") none (Data.seq #[(vs (S "script") 775),(vs (S "desk") 776),(vs (S "due") 777),(vs (S "k") 778),(vs (S "cell") 779),(vs (S "name") 780),(vs (S "place") 781),(vs (S "which") 782),(vs (S "found") 783)] 0) #[])
noncomputable def o_584 (P : Params) : Obj := (ob (vt "tuple") none (Data.seq #[] 0) #[])
noncomputable def o_568 (P : Params) : Obj := (ob vn none (Data.fields #[]) #[])
noncomputable def o_600 (P : Params) : Obj := (ob (vt "tuple") none (Data.seq #[] 0) #[])
noncomputable def o_606 (P : Params) : Obj := (ob (vt "function") none (Data.func (fd (S "_law_asked") (S "_law_asked") (top 33) 3 [] vn vn vn (vs (S "law_patchkin_k02_stores_begun") 705) none (vr 449) vn 0)) #[])
noncomputable def o_574 (P : Params) : Obj := (ob (vt "tuple") none (Data.seq #[] 0) #[])
noncomputable def o_590 (P : Params) : Obj := (ob (vt "tuple") none (Data.seq #[(vs (S "e") 741),(vs (S "some") 742)] 0) #[])
noncomputable def o_614 (P : Params) : Obj := (ob (vt "tuple") none (Data.seq #[] 0) #[])
noncomputable def o_582 (P : Params) : Obj := (ob vn none (Data.fields #[]) #[])
noncomputable def o_598 (P : Params) : Obj := (ob (vt "code") none (Data.fields #[(vs (S "_law_due") 746),(vs (S "_law_due") 747),(vs (S "/claim/cut.py") 748),(vi 232 0),(vi 1 0),(vi 0 0),(vi 0 0),(vi 3 0),(vr 439),(vl true),(vi 181 0),(vr 440),vn,vn,vn,(vr 441),(vi 749 0),(vi 232 0),(vs (S "/claim/cut.py") 750)]) #[])
noncomputable def o_610 (P : Params) : Obj := (ob (vt "tuple") none (Data.seq #[] 0) #[])
noncomputable def o_578 (P : Params) : Obj := (ob vn none (Data.func (fd (S "_law_name") (S "_law_name") (top 29) 0 [] vn vn vn vn none vn vn 0)) #[])
noncomputable def o_594 (P : Params) : Obj := (ob (vt "function") none (Data.func (fd (S "_law_which") (S "_law_which") (top 31) 3 [] vn vn vn (vs (S "law_patchkin_k02_stores_begun") 705) none (vr 437) vn 0)) #[])
noncomputable def o_618 (P : Params) : Obj := (ob vn none (Data.func (fd (S "law") (S "law") (top 35) 0 [] vn vn vn vn none vn vn 0)) #[])
noncomputable def o_586 (P : Params) : Obj := (ob (vt "code") none (Data.fields #[(vs (S "_law_names_are") 729),(vs (S "_law_names_are") 730),(vs (S "/claim/cut.py") 731),(vi 221 0),(vi 2 0),(vi 0 0),(vi 0 0),(vi 3 0),(vr 425),(vl true),(vi 181 0),(vr 426),vn,(vr 427),(vr 428),(vr 429),(vi 735 0),(vi 221 0),(vs (S "/claim/cut.py") 736)]) #[])
noncomputable def o_570 (P : Params) : Obj := (ob (vt "tuple") none (Data.seq #[] 0) #[])
noncomputable def o_602 (P : Params) : Obj := (ob (vt "tuple") none (Data.seq #[(vs (S "desk") 755),(vs (S "name") 756),(vs (S "which") 757),(vs (S "e") 758)] 0) #[])
noncomputable def o_299 (P : Params) : Obj := (ob (vt "dict") none (Data.dict #[(de (PyData.keyHash P (S "__name__")) (vs (S "__name__") 165) (vs (S "patchkin.desk") 476)),(de (PyData.keyHash P (S "__doc__")) (vs (S "__doc__") 166) vn),(de (PyData.keyHash P (S "__package__")) (vs (S "__package__") 167) vn),(de (PyData.keyHash P (S "__loader__")) (vs (S "__loader__") 168) (vb "__main__.__loader__#opaque")),(de (PyData.keyHash P (S "__spec__")) (vs (S "__spec__") 169) vn),(de (PyData.keyHash P (S "__annotations__")) (vs (S "__annotations__") 170) (vr 6)),(de (PyData.keyHash P (S "__builtins__")) (vs (S "__builtins__") 171) (vr 4)),(de (PyData.keyHash P (S "__file__")) (vs (S "__file__") 173) (vs (S "/claim/cut.py") 172)),(de (PyData.keyHash P (S "__cached__")) (vs (S "__cached__") 174) vn),(de (PyData.keyHash P (S "_wall")) (vs (S "_wall") 193) (vr 21)),(de (PyData.keyHash P (S "PatchError")) (vs (S "PatchError") 213) (vr 31)),(de (PyData.keyHash P (S "BadName")) (vs (S "BadName") 229) (vr 44)),(de (PyData.keyHash P (S "NameTaken")) (vs (S "NameTaken") 245) (vr 56)),(de (PyData.keyHash P (S "NoStore")) (vs (S "NoStore") 261) (vr 68)),(de (PyData.keyHash P (S "NoPatch")) (vs (S "NoPatch") 277) (vr 80)),(de (PyData.keyHash P (S "NoLine")) (vs (S "NoLine") 293) (vr 92)),(de (PyData.keyHash P (S "Unsettled")) (vs (S "Unsettled") 309) (vr 104)),(de (PyData.keyHash P (S "Same")) (vs (S "Same") 325) (vr 116)),(de (PyData.keyHash P (S "Leant")) (vs (S "Leant") 341) (vr 128)),(de (PyData.keyHash P (S "live_patches")) (vs (S "live_patches") 353) (vr 137)),(de (PyData.keyHash P (S "lines_put")) (vs (S "lines_put") 363) (vr 144)),(de (PyData.keyHash P (S "standing_lines")) (vs (S "standing_lines") 369) (vr 149)),(de (PyData.keyHash P (S "files_with_lines")) (vs (S "files_with_lines") 375) (vr 154)),(de (PyData.keyHash P (S "straight_ahead")) (vs (S "straight_ahead") 384) (vr 161)),(de (PyData.keyHash P (S "joined")) (vs (S "joined") 394) (vr 168)),(de (PyData.keyHash P (S "all_ahead")) (vs (S "all_ahead") 400) (vr 173)),(de (PyData.keyHash P (S "first_free")) (vs (S "first_free") 408) (vr 180)),(de (PyData.keyHash P (S "row_of")) (vs (S "row_of") 414) (vr 185)),(de (PyData.keyHash P (S "Sight")) (vs (S "Sight") 475) (vr 230)),(de (PyData.keyHash P (S "NAME_SIGNS")) (vs (S "NAME_SIGNS") 479) (vs (S "abcdefghijklmnopqrstuvwxyz0123456789") 478)),(de (PyData.keyHash P (S "LONGEST_NAME")) (vs (S "LONGEST_NAME") 481) (vi 12 480)),(de (PyData.keyHash P (S "check_name")) (vs (S "check_name") 489) (vr 241))] 32) #[])
noncomputable def o_300 (P : Params) : Obj := (ob vn none (Data.fields #[(vi 1 0),(vi 0 0),(vr 20),(vi 5 0),(vi 0 0),(vr 27),(vi 7 0),(vi 0 0),(vr 40),(vi 9 0),(vi 0 0),(vr 52),(vi 11 0),(vi 0 0),(vr 64),(vi 13 0),(vi 0 0),(vr 76),(vi 15 0),(vi 0 0),(vr 88),(vi 17 0),(vi 0 0),(vr 100),(vi 19 0),(vi 0 0),(vr 112),(vi 21 0),(vi 0 0),(vr 124),(vi 24 0),(vi 0 0),(vr 136),(vi 33 0),(vi 0 0),(vr 143),(vi 39 0),(vi 0 0),(vr 148),(vi 46 0),(vi 0 0),(vr 153),(vi 49 0),(vi 0 0),(vr 160),(vi 59 0),(vi 0 0),(vr 167),(vi 65 0),(vi 0 0),(vr 172),(vi 81 0),(vi 0 0),(vr 179),(vi 86 0),(vi 0 0),(vr 184),(vi 101 0),(vi 0 0),(vr 191),(vi 121 0),(vi 0 0),(vr 240)]) #[])
noncomputable def o_116 (P : Params) : Obj := (ob (vt "dict") none (Data.dict #[(de (PyData.keyHash P (S "__name__")) (vs (S "__name__") 165) (vs (S "patchkin.errors") 194)),(de (PyData.keyHash P (S "__doc__")) (vs (S "__doc__") 166) vn),(de (PyData.keyHash P (S "__package__")) (vs (S "__package__") 167) vn),(de (PyData.keyHash P (S "__loader__")) (vs (S "__loader__") 168) (vb "__main__.__loader__#opaque")),(de (PyData.keyHash P (S "__spec__")) (vs (S "__spec__") 169) vn),(de (PyData.keyHash P (S "__annotations__")) (vs (S "__annotations__") 170) (vr 6)),(de (PyData.keyHash P (S "__builtins__")) (vs (S "__builtins__") 171) (vr 4)),(de (PyData.keyHash P (S "__file__")) (vs (S "__file__") 173) (vs (S "/claim/cut.py") 172)),(de (PyData.keyHash P (S "__cached__")) (vs (S "__cached__") 174) vn),(de (PyData.keyHash P (S "_wall")) (vs (S "_wall") 193) (vr 21)),(de (PyData.keyHash P (S "PatchError")) (vs (S "PatchError") 213) (vr 31)),(de (PyData.keyHash P (S "BadName")) (vs (S "BadName") 229) (vr 44)),(de (PyData.keyHash P (S "NameTaken")) (vs (S "NameTaken") 245) (vr 56)),(de (PyData.keyHash P (S "NoStore")) (vs (S "NoStore") 261) (vr 68)),(de (PyData.keyHash P (S "NoPatch")) (vs (S "NoPatch") 277) (vr 80))] 15) #[])
noncomputable def o_118 (P : Params) : Obj := (ob (vt "type") none (Data.cls (cl (S "PatchError") [(vt "ValueError")] [(vr 31),(vt "ValueError"),(vt "Exception"),(vt "BaseException"),(vt "object")] 30 (S "PatchError") true [] [(vr 44),(vr 56),(vr 68),(vr 80)] false none false)) #[(some (vr 22)),none,(some (vs (S "PatchError") 196)),(some (vs (S "PatchError") 204)),(some (vb "ValueError.__new__")),(some (vl true))])
noncomputable def o_117 (P : Params) : Obj := (ob vn none (Data.fields #[(vi 1 0),(vi 0 0),(vr 20),(vi 5 0),(vi 0 0),(vr 27),(vi 7 0),(vi 0 0),(vr 40),(vi 9 0),(vi 0 0),(vr 52),(vi 11 0),(vi 0 0),(vr 64),(vi 13 0),(vi 0 0),(vr 76)]) #[])
noncomputable def o_248 (P : Params) : Obj := (ob (vt "dict") none (Data.dict #[(de (PyData.keyHash P (S "__name__")) (vs (S "__name__") 165) (vs (S "patchkin.desk") 476)),(de (PyData.keyHash P (S "__doc__")) (vs (S "__doc__") 166) vn),(de (PyData.keyHash P (S "__package__")) (vs (S "__package__") 167) vn),(de (PyData.keyHash P (S "__loader__")) (vs (S "__loader__") 168) (vb "__main__.__loader__#opaque")),(de (PyData.keyHash P (S "__spec__")) (vs (S "__spec__") 169) vn),(de (PyData.keyHash P (S "__annotations__")) (vs (S "__annotations__") 170) (vr 6)),(de (PyData.keyHash P (S "__builtins__")) (vs (S "__builtins__") 171) (vr 4)),(de (PyData.keyHash P (S "__file__")) (vs (S "__file__") 173) (vs (S "/claim/cut.py") 172)),(de (PyData.keyHash P (S "__cached__")) (vs (S "__cached__") 174) vn),(de (PyData.keyHash P (S "_wall")) (vs (S "_wall") 193) (vr 21)),(de (PyData.keyHash P (S "PatchError")) (vs (S "PatchError") 213) (vr 31)),(de (PyData.keyHash P (S "BadName")) (vs (S "BadName") 229) (vr 44)),(de (PyData.keyHash P (S "NameTaken")) (vs (S "NameTaken") 245) (vr 56)),(de (PyData.keyHash P (S "NoStore")) (vs (S "NoStore") 261) (vr 68)),(de (PyData.keyHash P (S "NoPatch")) (vs (S "NoPatch") 277) (vr 80)),(de (PyData.keyHash P (S "NoLine")) (vs (S "NoLine") 293) (vr 92)),(de (PyData.keyHash P (S "Unsettled")) (vs (S "Unsettled") 309) (vr 104)),(de (PyData.keyHash P (S "Same")) (vs (S "Same") 325) (vr 116)),(de (PyData.keyHash P (S "Leant")) (vs (S "Leant") 341) (vr 128)),(de (PyData.keyHash P (S "live_patches")) (vs (S "live_patches") 353) (vr 137)),(de (PyData.keyHash P (S "lines_put")) (vs (S "lines_put") 363) (vr 144)),(de (PyData.keyHash P (S "standing_lines")) (vs (S "standing_lines") 369) (vr 149)),(de (PyData.keyHash P (S "files_with_lines")) (vs (S "files_with_lines") 375) (vr 154)),(de (PyData.keyHash P (S "straight_ahead")) (vs (S "straight_ahead") 384) (vr 161)),(de (PyData.keyHash P (S "joined")) (vs (S "joined") 394) (vr 168)),(de (PyData.keyHash P (S "all_ahead")) (vs (S "all_ahead") 400) (vr 173)),(de (PyData.keyHash P (S "first_free")) (vs (S "first_free") 408) (vr 180)),(de (PyData.keyHash P (S "row_of")) (vs (S "row_of") 414) (vr 185)),(de (PyData.keyHash P (S "Sight")) (vs (S "Sight") 475) (vr 230)),(de (PyData.keyHash P (S "NAME_SIGNS")) (vs (S "NAME_SIGNS") 479) (vs (S "abcdefghijklmnopqrstuvwxyz0123456789") 478)),(de (PyData.keyHash P (S "LONGEST_NAME")) (vs (S "LONGEST_NAME") 481) (vi 12 480))] 31) #[])
noncomputable def o_249 (P : Params) : Obj := (ob vn none (Data.fields #[(vi 1 0),(vi 0 0),(vr 20),(vi 5 0),(vi 0 0),(vr 27),(vi 7 0),(vi 0 0),(vr 40),(vi 9 0),(vi 0 0),(vr 52),(vi 11 0),(vi 0 0),(vr 64),(vi 13 0),(vi 0 0),(vr 76),(vi 15 0),(vi 0 0),(vr 88),(vi 17 0),(vi 0 0),(vr 100),(vi 19 0),(vi 0 0),(vr 112),(vi 21 0),(vi 0 0),(vr 124),(vi 24 0),(vi 0 0),(vr 136),(vi 33 0),(vi 0 0),(vr 143),(vi 39 0),(vi 0 0),(vr 148),(vi 46 0),(vi 0 0),(vr 153),(vi 49 0),(vi 0 0),(vr 160),(vi 59 0),(vi 0 0),(vr 167),(vi 65 0),(vi 0 0),(vr 172),(vi 81 0),(vi 0 0),(vr 179),(vi 86 0),(vi 0 0),(vr 184),(vi 101 0),(vi 0 0),(vr 191)]) #[])
noncomputable def o_493 (P : Params) : Obj := (ob (vt "function") none (Data.func (fd (S "__init__") (S "Desk.__init__") (inClass (top 26) 0) 3 [] vn vn vn (vs (S "patchkin.desk") 476) none (vr 254) vn 0)) #[])
noncomputable def o_557 (P : Params) : Obj := (ob (vt "tuple") none (Data.seq #[(vs (S "self") 591),(vs (S "patch") 592)] 0) #[])
noncomputable def o_525 (P : Params) : Obj := (ob (vt "code") none (Data.fields #[(vs (S "record") 537),(vs (S "Desk.record") 538),(vs (S "/claim/cut.py") 539),(vi 150 0),(vi 5 0),(vi 0 0),(vi 0 0),(vi 3 0),(vr 282),(vl true),(vi 181 0),(vr 283),vn,(vr 284),(vr 285),(vr 286),(vi 545 0),(vi 150 0),(vs (S "/claim/cut.py") 546)]) #[])
noncomputable def o_509 (P : Params) : Obj := (ob vn none (Data.fields #[]) #[])
noncomputable def o_541 (P : Params) : Obj := (ob (vt "tuple") none (Data.seq #[] 0) #[])
noncomputable def o_501 (P : Params) : Obj := (ob (vt "tuple") none (Data.seq #[] 0) #[])
noncomputable def o_533 (P : Params) : Obj := (ob (vt "function") none (Data.func (fd (S "cut") (S "Desk.cut") (inClass (top 26) 6) 3 [] vn vn vn (vs (S "patchkin.desk") 476) none (vr 294) vn 0)) #[])
noncomputable def o_517 (P : Params) : Obj := (ob vn none (Data.func (fd (S "has") (S "Desk.has") (inClass (top 26) 4) 0 [] vn vn vn vn none vn vn 0)) #[])
noncomputable def o_549 (P : Params) : Obj := (ob vn none (Data.fields #[]) #[])
noncomputable def o_485 (P : Params) : Obj := (ob (vt "code") none (Data.fields #[(vs (S "Desk") 492),(vs (S "Desk") 493),(vs (S "/claim/cut.py") 494),(vi 127 0),(vi 0 0),(vi 0 0),(vi 0 0),(vi 0 0),(vr 245),(vl false),(vi 181 0),(vr 246),vn,vn,vn,vn,(vi 495 0),(vi 127 0),(vs (S "/claim/cut.py") 496)]) #[])
noncomputable def o_497 (P : Params) : Obj := (ob (vt "tuple") none (Data.seq #[] 0) #[])
noncomputable def o_561 (P : Params) : Obj := (ob (vt "function") none (Data.func (fd (S "leans") (S "Desk.leans") (inClass (top 26) 10) 3 [] vn vn vn (vs (S "patchkin.desk") 476) none (vr 322) vn 0)) #[])
noncomputable def o_529 (P : Params) : Obj := (ob (vt "tuple") none (Data.seq #[(vs (S "self") 551),(vs (S "store") 552),(vs (S "patch") 553),(vs (S "file") 554),(vs (S "places") 555)] 0) #[])
noncomputable def o_513 (P : Params) : Obj := (ob (vt "code") none (Data.fields #[(vs (S "patches") 524),(vs (S "Desk.patches") 525),(vs (S "/claim/cut.py") 526),(vi 143 0),(vi 1 0),(vi 0 0),(vi 0 0),(vi 3 0),(vr 270),(vl true),(vi 181 0),(vr 271),vn,(vr 272),(vr 273),(vr 274),(vi 528 0),(vi 143 0),(vs (S "/claim/cut.py") 529)]) #[])
noncomputable def o_545 (P : Params) : Obj := (ob vn none (Data.func (fd (S "take") (S "Desk.take") (inClass (top 26) 8) 0 [] vn vn vn vn none vn vn 0)) #[])
noncomputable def o_481 (P : Params) : Obj := (ob (vt "builtin_function_or_method") none (Data.fields #[(vb "type.__prepare__"),(vt "type")]) #[])
noncomputable def o_505 (P : Params) : Obj := (ob vn none (Data.func (fd (S "stores") (S "Desk.stores") (inClass (top 26) 2) 0 [] vn vn vn vn none vn vn 0)) #[])
noncomputable def o_537 (P : Params) : Obj := (ob (vt "tuple") none (Data.seq #[] 0) #[])
noncomputable def o_521 (P : Params) : Obj := (ob vn none (Data.fields #[]) #[])
noncomputable def o_553 (P : Params) : Obj := (ob (vt "code") none (Data.fields #[(vs (S "drop") 579),(vs (S "Desk.drop") 580),(vs (S "/claim/cut.py") 581),(vi 162 0),(vi 3 0),(vi 0 0),(vi 0 0),(vi 3 0),(vr 310),(vl true),(vi 181 0),(vr 311),vn,(vr 312),(vr 313),(vr 314),(vi 585 0),(vi 162 0),(vs (S "/claim/cut.py") 586)]) #[])
noncomputable def o_489 (P : Params) : Obj := (ob (vt "tuple") none (Data.seq #[(vs (S "self") 505)] 0) #[])
noncomputable def o_495 (P : Params) : Obj := (ob vn none (Data.fields #[]) #[])
noncomputable def o_559 (P : Params) : Obj := (ob vn none (Data.func (fd (S "leans") (S "Desk.leans") (inClass (top 26) 10) 0 [] vn vn vn vn none vn vn 0)) #[])
noncomputable def o_527 (P : Params) : Obj := (ob (vt "tuple") none (Data.seq #[] 0) #[])
noncomputable def o_511 (P : Params) : Obj := (ob (vt "tuple") none (Data.seq #[] 0) #[])
noncomputable def o_543 (P : Params) : Obj := (ob (vt "tuple") none (Data.seq #[(vs (S "self") 572),(vs (S "store") 573),(vs (S "source") 574),(vs (S "patch") 575)] 0) #[])
noncomputable def o_503 (P : Params) : Obj := (ob (vt "tuple") none (Data.seq #[(vs (S "self") 520)] 0) #[])
noncomputable def o_535 (P : Params) : Obj := (ob vn none (Data.fields #[]) #[])
noncomputable def o_519 (P : Params) : Obj := (ob (vt "function") none (Data.func (fd (S "has") (S "Desk.has") (inClass (top 26) 4) 3 [] vn vn vn (vs (S "patchkin.desk") 476) none (vr 280) vn 0)) #[])
noncomputable def o_551 (P : Params) : Obj := (ob (vt "tuple") none (Data.seq #[] 0) #[])
noncomputable def o_487 (P : Params) : Obj := (ob (vt "tuple") none (Data.seq #[] 0) #[])
noncomputable def o_499 (P : Params) : Obj := (ob (vt "code") none (Data.fields #[(vs (S "begin") 509),(vs (S "Desk.begin") 510),(vs (S "/claim/cut.py") 511),(vi 134 0),(vi 2 0),(vi 0 0),(vi 0 0),(vi 3 0),(vr 256),(vl true),(vi 181 0),(vr 257),vn,(vr 258),(vr 259),(vr 260),(vi 514 0),(vi 134 0),(vs (S "/claim/cut.py") 515)]) #[])
noncomputable def o_531 (P : Params) : Obj := (ob vn none (Data.func (fd (S "cut") (S "Desk.cut") (inClass (top 26) 6) 0 [] vn vn vn vn none vn vn 0)) #[])
noncomputable def o_515 (P : Params) : Obj := (ob (vt "tuple") none (Data.seq #[] 0) #[])
noncomputable def o_547 (P : Params) : Obj := (ob (vt "function") none (Data.func (fd (S "take") (S "Desk.take") (inClass (top 26) 8) 3 [] vn vn vn (vs (S "patchkin.desk") 476) none (vr 308) vn 0)) #[])
noncomputable def o_483 (P : Params) : Obj := (ob (vt "tuple") none (Data.seq #[] 0) #[])
noncomputable def o_507 (P : Params) : Obj := (ob (vt "function") none (Data.func (fd (S "stores") (S "Desk.stores") (inClass (top 26) 2) 3 [] vn vn vn (vs (S "patchkin.desk") 476) none (vr 268) vn 0)) #[])
noncomputable def o_539 (P : Params) : Obj := (ob (vt "code") none (Data.fields #[(vs (S "back") 559),(vs (S "Desk.back") 560),(vs (S "/claim/cut.py") 561),(vi 156 0),(vi 4 0),(vi 0 0),(vi 0 0),(vi 3 0),(vr 296),(vl true),(vi 181 0),(vr 297),vn,(vr 298),(vr 299),(vr 300),(vi 566 0),(vi 156 0),(vs (S "/claim/cut.py") 567)]) #[])
noncomputable def o_523 (P : Params) : Obj := (ob (vt "tuple") none (Data.seq #[] 0) #[])
noncomputable def o_555 (P : Params) : Obj := (ob (vt "tuple") none (Data.seq #[] 0) #[])
noncomputable def o_491 (P : Params) : Obj := (ob vn none (Data.func (fd (S "__init__") (S "Desk.__init__") (inClass (top 26) 0) 0 [] vn vn vn vn none vn vn 0)) #[])
noncomputable def o_494 (P : Params) : Obj := (ob (vt "tuple") none (Data.seq #[] 0) #[])
noncomputable def o_558 (P : Params) : Obj := (ob (vt "tuple") none (Data.seq #[] 0) #[])
noncomputable def o_526 (P : Params) : Obj := (ob (vt "function") none (Data.func (fd (S "record") (S "Desk.record") (inClass (top 26) 5) 3 [] vn vn vn (vs (S "patchkin.desk") 476) none (vr 287) vn 0)) #[])
noncomputable def o_510 (P : Params) : Obj := (ob (vt "tuple") none (Data.seq #[(vs (S "self") 527)] 0) #[])
noncomputable def o_542 (P : Params) : Obj := (ob vn none (Data.fields #[]) #[])
noncomputable def o_502 (P : Params) : Obj := (ob vn none (Data.fields #[]) #[])
noncomputable def o_534 (P : Params) : Obj := (ob (vt "tuple") none (Data.seq #[] 0) #[])
noncomputable def o_518 (P : Params) : Obj := (ob (vt "code") none (Data.fields #[(vs (S "has") 531),(vs (S "Desk.has") 532),(vs (S "/claim/cut.py") 533),(vi 146 0),(vi 2 0),(vi 0 0),(vi 0 0),(vi 3 0),(vr 277),(vl true),(vi 181 0),(vr 278),vn,vn,vn,(vr 279),(vi 534 0),(vi 146 0),(vs (S "/claim/cut.py") 535)]) #[])
noncomputable def o_550 (P : Params) : Obj := (ob (vt "tuple") none (Data.seq #[(vs (S "self") 582),(vs (S "store") 583),(vs (S "patch") 584)] 0) #[])
noncomputable def o_486 (P : Params) : Obj := (ob (vt "frame") none Data.plain #[(some (vr 247)),(some (vr 3)),(some (vr 244)),none,(some (vs (S "patchkin.desk") 476)),none,(some (vr 0))])
noncomputable def o_479 (P : Params) : Obj := (ob vn none (Data.fields #[(vi 1 0),(vi 0 0),(vr 20),(vi 5 0),(vi 0 0),(vr 27),(vi 7 0),(vi 0 0),(vr 40),(vi 9 0),(vi 0 0),(vr 52),(vi 11 0),(vi 0 0),(vr 64),(vi 13 0),(vi 0 0),(vr 76),(vi 15 0),(vi 0 0),(vr 88),(vi 17 0),(vi 0 0),(vr 100),(vi 19 0),(vi 0 0),(vr 112),(vi 21 0),(vi 0 0),(vr 124),(vi 24 0),(vi 0 0),(vr 136),(vi 33 0),(vi 0 0),(vr 143),(vi 39 0),(vi 0 0),(vr 148),(vi 46 0),(vi 0 0),(vr 153),(vi 49 0),(vi 0 0),(vr 160),(vi 59 0),(vi 0 0),(vr 167),(vi 65 0),(vi 0 0),(vr 172),(vi 81 0),(vi 0 0),(vr 179),(vi 86 0),(vi 0 0),(vr 184),(vi 101 0),(vi 0 0),(vr 191),(vi 121 0),(vi 0 0),(vr 240),(vi 127 0),(vi 0 0),(vr 247)]) #[])
noncomputable def o_498 (P : Params) : Obj := (ob vn none (Data.func (fd (S "begin") (S "Desk.begin") (inClass (top 26) 1) 0 [] vn vn vn vn none vn vn 0)) #[])
noncomputable def o_530 (P : Params) : Obj := (ob (vt "tuple") none (Data.seq #[] 0) #[])
noncomputable def o_514 (P : Params) : Obj := (ob (vt "function") none (Data.func (fd (S "patches") (S "Desk.patches") (inClass (top 26) 3) 3 [] vn vn vn (vs (S "patchkin.desk") 476) none (vr 275) vn 0)) #[])
noncomputable def o_546 (P : Params) : Obj := (ob (vt "code") none (Data.fields #[(vs (S "take") 569),(vs (S "Desk.take") 570),(vs (S "/claim/cut.py") 571),(vi 159 0),(vi 4 0),(vi 0 0),(vi 0 0),(vi 3 0),(vr 303),(vl true),(vi 181 0),(vr 304),vn,(vr 305),(vr 306),(vr 307),(vi 576 0),(vi 159 0),(vs (S "/claim/cut.py") 577)]) #[])
noncomputable def o_482 (P : Params) : Obj := (ob (vt "dict") none (Data.dict #[(de (PyData.keyHash P (S "__module__")) (vs (S "__module__") 497) (vs (S "patchkin.desk") 476)),(de (PyData.keyHash P (S "__qualname__")) (vs (S "__qualname__") 499) (vs (S "Desk") 498)),(de (PyData.keyHash P (S "__firstlineno__")) (vs (S "__firstlineno__") 501) (vi 127 500)),(de (PyData.keyHash P (S "__init__")) (vs (S "__init__") 508) (vr 255)),(de (PyData.keyHash P (S "begin")) (vs (S "begin") 516) (vr 262)),(de (PyData.keyHash P (S "stores")) (vs (S "stores") 523) (vr 269)),(de (PyData.keyHash P (S "patches")) (vs (S "patches") 530) (vr 276)),(de (PyData.keyHash P (S "has")) (vs (S "has") 536) (vr 281)),(de (PyData.keyHash P (S "record")) (vs (S "record") 547) (vr 288)),(de (PyData.keyHash P (S "cut")) (vs (S "cut") 558) (vr 295)),(de (PyData.keyHash P (S "back")) (vs (S "back") 568) (vr 302)),(de (PyData.keyHash P (S "take")) (vs (S "take") 578) (vr 309)),(de (PyData.keyHash P (S "drop")) (vs (S "drop") 587) (vr 316))] 13) #[])
noncomputable def o_506 (P : Params) : Obj := (ob (vt "code") none (Data.fields #[(vs (S "stores") 517),(vs (S "Desk.stores") 518),(vs (S "/claim/cut.py") 519),(vi 140 0),(vi 1 0),(vi 0 0),(vi 0 0),(vi 3 0),(vr 263),(vl true),(vi 181 0),(vr 264),vn,(vr 265),(vr 266),(vr 267),(vi 521 0),(vi 140 0),(vs (S "/claim/cut.py") 522)]) #[])
noncomputable def o_538 (P : Params) : Obj := (ob vn none (Data.func (fd (S "back") (S "Desk.back") (inClass (top 26) 7) 0 [] vn vn vn vn none vn vn 0)) #[])
noncomputable def o_522 (P : Params) : Obj := (ob (vt "tuple") none (Data.seq #[(vs (S "self") 540),(vs (S "store") 541),(vs (S "patch") 542),(vs (S "file") 543),(vs (S "texts") 544)] 0) #[])
noncomputable def o_554 (P : Params) : Obj := (ob (vt "function") none (Data.func (fd (S "drop") (S "Desk.drop") (inClass (top 26) 9) 3 [] vn vn vn (vs (S "patchkin.desk") 476) none (vr 315) vn 0)) #[])
noncomputable def o_490 (P : Params) : Obj := (ob (vt "tuple") none (Data.seq #[] 0) #[])
noncomputable def o_496 (P : Params) : Obj := (ob (vt "tuple") none (Data.seq #[(vs (S "self") 512),(vs (S "store") 513)] 0) #[])
noncomputable def o_560 (P : Params) : Obj := (ob (vt "code") none (Data.fields #[(vs (S "leans") 588),(vs (S "Desk.leans") 589),(vs (S "/claim/cut.py") 590),(vi 165 0),(vi 2 0),(vi 0 0),(vi 0 0),(vi 3 0),(vr 317),(vl true),(vi 181 0),(vr 318),vn,(vr 319),(vr 320),(vr 321),(vi 593 0),(vi 165 0),(vs (S "/claim/cut.py") 594)]) #[])
noncomputable def o_528 (P : Params) : Obj := (ob vn none (Data.fields #[]) #[])
noncomputable def o_512 (P : Params) : Obj := (ob vn none (Data.func (fd (S "patches") (S "Desk.patches") (inClass (top 26) 3) 0 [] vn vn vn vn none vn vn 0)) #[])
noncomputable def o_544 (P : Params) : Obj := (ob (vt "tuple") none (Data.seq #[] 0) #[])
noncomputable def o_480 (P : Params) : Obj := (ob (vt "tuple") none (Data.seq #[] 0) #[])
noncomputable def o_504 (P : Params) : Obj := (ob (vt "tuple") none (Data.seq #[] 0) #[])
noncomputable def o_536 (P : Params) : Obj := (ob (vt "tuple") none (Data.seq #[(vs (S "self") 562),(vs (S "store") 563),(vs (S "patch") 564),(vs (S "other") 565)] 0) #[])
noncomputable def o_520 (P : Params) : Obj := (ob (vt "tuple") none (Data.seq #[] 0) #[])
noncomputable def o_552 (P : Params) : Obj := (ob vn none (Data.func (fd (S "drop") (S "Desk.drop") (inClass (top 26) 9) 0 [] vn vn vn vn none vn vn 0)) #[])
noncomputable def o_488 (P : Params) : Obj := (ob vn none (Data.fields #[]) #[])
noncomputable def o_500 (P : Params) : Obj := (ob (vt "function") none (Data.func (fd (S "begin") (S "Desk.begin") (inClass (top 26) 1) 3 [] vn vn vn (vs (S "patchkin.desk") 476) none (vr 261) vn 0)) #[])
noncomputable def o_532 (P : Params) : Obj := (ob (vt "code") none (Data.fields #[(vs (S "cut") 548),(vs (S "Desk.cut") 549),(vs (S "/claim/cut.py") 550),(vi 153 0),(vi 5 0),(vi 0 0),(vi 0 0),(vi 3 0),(vr 289),(vl true),(vi 181 0),(vr 290),vn,(vr 291),(vr 292),(vr 293),(vi 556 0),(vi 153 0),(vs (S "/claim/cut.py") 557)]) #[])
noncomputable def o_516 (P : Params) : Obj := (ob vn none (Data.fields #[]) #[])
noncomputable def o_548 (P : Params) : Obj := (ob (vt "tuple") none (Data.seq #[] 0) #[])
noncomputable def o_484 (P : Params) : Obj := (ob vn none (Data.fields #[(vi 129 0),(vi 4 0),(vr 254),(vi 134 0),(vi 4 0),(vr 261),(vi 140 0),(vi 4 0),(vr 268),(vi 143 0),(vi 4 0),(vr 275),(vi 146 0),(vi 4 0),(vr 280),(vi 150 0),(vi 4 0),(vr 287),(vi 153 0),(vi 4 0),(vr 294),(vi 156 0),(vi 4 0),(vr 301),(vi 159 0),(vi 4 0),(vr 308),(vi 162 0),(vi 4 0),(vr 315),(vi 165 0),(vi 4 0),(vr 322)]) #[])
noncomputable def o_508 (P : Params) : Obj := (ob (vt "tuple") none (Data.seq #[] 0) #[])
noncomputable def o_540 (P : Params) : Obj := (ob (vt "function") none (Data.func (fd (S "back") (S "Desk.back") (inClass (top 26) 7) 3 [] vn vn vn (vs (S "patchkin.desk") 476) none (vr 301) vn 0)) #[])
noncomputable def o_524 (P : Params) : Obj := (ob vn none (Data.func (fd (S "record") (S "Desk.record") (inClass (top 26) 5) 0 [] vn vn vn vn none vn vn 0)) #[])
noncomputable def o_556 (P : Params) : Obj := (ob vn none (Data.fields #[]) #[])
noncomputable def o_492 (P : Params) : Obj := (ob (vt "code") none (Data.fields #[(vs (S "__init__") 502),(vs (S "Desk.__init__") 503),(vs (S "/claim/cut.py") 504),(vi 129 0),(vi 1 0),(vi 0 0),(vi 0 0),(vi 3 0),(vr 249),(vl true),(vi 181 0),(vr 250),vn,(vr 251),(vr 252),(vr 253),(vi 506 0),(vi 129 0),(vs (S "/claim/cut.py") 507)]) #[])
noncomputable def o_44 (P : Params) : Obj := (ob vn none (Data.fields #[]) #[])
noncomputable def o_71 (P : Params) : Obj := (ob (vt "dict") none (Data.dict #[(de (PyData.keyHash P (S "__name__")) (vs (S "__name__") 165) (vs (S "patchkin.errors") 194)),(de (PyData.keyHash P (S "__doc__")) (vs (S "__doc__") 166) vn),(de (PyData.keyHash P (S "__package__")) (vs (S "__package__") 167) vn),(de (PyData.keyHash P (S "__loader__")) (vs (S "__loader__") 168) (vb "__main__.__loader__#opaque")),(de (PyData.keyHash P (S "__spec__")) (vs (S "__spec__") 169) vn),(de (PyData.keyHash P (S "__annotations__")) (vs (S "__annotations__") 170) (vr 6)),(de (PyData.keyHash P (S "__builtins__")) (vs (S "__builtins__") 171) (vr 4)),(de (PyData.keyHash P (S "__file__")) (vs (S "__file__") 173) (vs (S "/claim/cut.py") 172)),(de (PyData.keyHash P (S "__cached__")) (vs (S "__cached__") 174) vn),(de (PyData.keyHash P (S "_wall")) (vs (S "_wall") 193) (vr 21)),(de (PyData.keyHash P (S "PatchError")) (vs (S "PatchError") 213) (vr 31)),(de (PyData.keyHash P (S "BadName")) (vs (S "BadName") 229) (vr 44))] 12) #[])
noncomputable def o_73 (P : Params) : Obj := (ob (vt "type") none (Data.cls (cl (S "PatchError") [(vt "ValueError")] [(vr 31),(vt "ValueError"),(vt "Exception"),(vt "BaseException"),(vt "object")] 30 (S "PatchError") true [] [(vr 44)] false none false)) #[(some (vr 22)),none,(some (vs (S "PatchError") 196)),(some (vs (S "PatchError") 204)),(some (vb "ValueError.__new__")),(some (vl true))])
noncomputable def o_72 (P : Params) : Obj := (ob vn none (Data.fields #[(vi 1 0),(vi 0 0),(vr 20),(vi 5 0),(vi 0 0),(vr 27),(vi 7 0),(vi 0 0),(vr 40)]) #[])
noncomputable def o_161 (P : Params) : Obj := (ob (vt "dict") none (Data.dict #[(de (PyData.keyHash P (S "__name__")) (vs (S "__name__") 165) (vs (S "patchkin.errors") 194)),(de (PyData.keyHash P (S "__doc__")) (vs (S "__doc__") 166) vn),(de (PyData.keyHash P (S "__package__")) (vs (S "__package__") 167) vn),(de (PyData.keyHash P (S "__loader__")) (vs (S "__loader__") 168) (vb "__main__.__loader__#opaque")),(de (PyData.keyHash P (S "__spec__")) (vs (S "__spec__") 169) vn),(de (PyData.keyHash P (S "__annotations__")) (vs (S "__annotations__") 170) (vr 6)),(de (PyData.keyHash P (S "__builtins__")) (vs (S "__builtins__") 171) (vr 4)),(de (PyData.keyHash P (S "__file__")) (vs (S "__file__") 173) (vs (S "/claim/cut.py") 172)),(de (PyData.keyHash P (S "__cached__")) (vs (S "__cached__") 174) vn),(de (PyData.keyHash P (S "_wall")) (vs (S "_wall") 193) (vr 21)),(de (PyData.keyHash P (S "PatchError")) (vs (S "PatchError") 213) (vr 31)),(de (PyData.keyHash P (S "BadName")) (vs (S "BadName") 229) (vr 44)),(de (PyData.keyHash P (S "NameTaken")) (vs (S "NameTaken") 245) (vr 56)),(de (PyData.keyHash P (S "NoStore")) (vs (S "NoStore") 261) (vr 68)),(de (PyData.keyHash P (S "NoPatch")) (vs (S "NoPatch") 277) (vr 80)),(de (PyData.keyHash P (S "NoLine")) (vs (S "NoLine") 293) (vr 92)),(de (PyData.keyHash P (S "Unsettled")) (vs (S "Unsettled") 309) (vr 104)),(de (PyData.keyHash P (S "Same")) (vs (S "Same") 325) (vr 116))] 18) #[])
noncomputable def o_163 (P : Params) : Obj := (ob (vt "type") none (Data.cls (cl (S "PatchError") [(vt "ValueError")] [(vr 31),(vt "ValueError"),(vt "Exception"),(vt "BaseException"),(vt "object")] 30 (S "PatchError") true [] [(vr 44),(vr 56),(vr 68),(vr 80),(vr 92),(vr 104),(vr 116)] false none false)) #[(some (vr 22)),none,(some (vs (S "PatchError") 196)),(some (vs (S "PatchError") 204)),(some (vb "ValueError.__new__")),(some (vl true))])
noncomputable def o_162 (P : Params) : Obj := (ob vn none (Data.fields #[(vi 1 0),(vi 0 0),(vr 20),(vi 5 0),(vi 0 0),(vr 27),(vi 7 0),(vi 0 0),(vr 40),(vi 9 0),(vi 0 0),(vr 52),(vi 11 0),(vi 0 0),(vr 64),(vi 13 0),(vi 0 0),(vr 76),(vi 15 0),(vi 0 0),(vr 88),(vi 17 0),(vi 0 0),(vr 100),(vi 19 0),(vi 0 0),(vr 112)]) #[])
noncomputable def o_101 (P : Params) : Obj := (ob (vt "dict") none (Data.dict #[(de (PyData.keyHash P (S "__name__")) (vs (S "__name__") 165) (vs (S "patchkin.errors") 194)),(de (PyData.keyHash P (S "__doc__")) (vs (S "__doc__") 166) vn),(de (PyData.keyHash P (S "__package__")) (vs (S "__package__") 167) vn),(de (PyData.keyHash P (S "__loader__")) (vs (S "__loader__") 168) (vb "__main__.__loader__#opaque")),(de (PyData.keyHash P (S "__spec__")) (vs (S "__spec__") 169) vn),(de (PyData.keyHash P (S "__annotations__")) (vs (S "__annotations__") 170) (vr 6)),(de (PyData.keyHash P (S "__builtins__")) (vs (S "__builtins__") 171) (vr 4)),(de (PyData.keyHash P (S "__file__")) (vs (S "__file__") 173) (vs (S "/claim/cut.py") 172)),(de (PyData.keyHash P (S "__cached__")) (vs (S "__cached__") 174) vn),(de (PyData.keyHash P (S "_wall")) (vs (S "_wall") 193) (vr 21)),(de (PyData.keyHash P (S "PatchError")) (vs (S "PatchError") 213) (vr 31)),(de (PyData.keyHash P (S "BadName")) (vs (S "BadName") 229) (vr 44)),(de (PyData.keyHash P (S "NameTaken")) (vs (S "NameTaken") 245) (vr 56)),(de (PyData.keyHash P (S "NoStore")) (vs (S "NoStore") 261) (vr 68))] 14) #[])
noncomputable def o_103 (P : Params) : Obj := (ob (vt "type") none (Data.cls (cl (S "PatchError") [(vt "ValueError")] [(vr 31),(vt "ValueError"),(vt "Exception"),(vt "BaseException"),(vt "object")] 30 (S "PatchError") true [] [(vr 44),(vr 56),(vr 68)] false none false)) #[(some (vr 22)),none,(some (vs (S "PatchError") 196)),(some (vs (S "PatchError") 204)),(some (vb "ValueError.__new__")),(some (vl true))])
noncomputable def o_102 (P : Params) : Obj := (ob vn none (Data.fields #[(vi 1 0),(vi 0 0),(vr 20),(vi 5 0),(vi 0 0),(vr 27),(vi 7 0),(vi 0 0),(vr 40),(vi 9 0),(vi 0 0),(vr 52),(vi 11 0),(vi 0 0),(vr 64)]) #[])
noncomputable def o_222 (P : Params) : Obj := (ob (vt "dict") none (Data.dict #[(de (PyData.keyHash P (S "__name__")) (vs (S "__name__") 165) (vs (S "patchkin.order") 342)),(de (PyData.keyHash P (S "__doc__")) (vs (S "__doc__") 166) vn),(de (PyData.keyHash P (S "__package__")) (vs (S "__package__") 167) vn),(de (PyData.keyHash P (S "__loader__")) (vs (S "__loader__") 168) (vb "__main__.__loader__#opaque")),(de (PyData.keyHash P (S "__spec__")) (vs (S "__spec__") 169) vn),(de (PyData.keyHash P (S "__annotations__")) (vs (S "__annotations__") 170) (vr 6)),(de (PyData.keyHash P (S "__builtins__")) (vs (S "__builtins__") 171) (vr 4)),(de (PyData.keyHash P (S "__file__")) (vs (S "__file__") 173) (vs (S "/claim/cut.py") 172)),(de (PyData.keyHash P (S "__cached__")) (vs (S "__cached__") 174) vn),(de (PyData.keyHash P (S "_wall")) (vs (S "_wall") 193) (vr 21)),(de (PyData.keyHash P (S "PatchError")) (vs (S "PatchError") 213) (vr 31)),(de (PyData.keyHash P (S "BadName")) (vs (S "BadName") 229) (vr 44)),(de (PyData.keyHash P (S "NameTaken")) (vs (S "NameTaken") 245) (vr 56)),(de (PyData.keyHash P (S "NoStore")) (vs (S "NoStore") 261) (vr 68)),(de (PyData.keyHash P (S "NoPatch")) (vs (S "NoPatch") 277) (vr 80)),(de (PyData.keyHash P (S "NoLine")) (vs (S "NoLine") 293) (vr 92)),(de (PyData.keyHash P (S "Unsettled")) (vs (S "Unsettled") 309) (vr 104)),(de (PyData.keyHash P (S "Same")) (vs (S "Same") 325) (vr 116)),(de (PyData.keyHash P (S "Leant")) (vs (S "Leant") 341) (vr 128)),(de (PyData.keyHash P (S "live_patches")) (vs (S "live_patches") 353) (vr 137)),(de (PyData.keyHash P (S "lines_put")) (vs (S "lines_put") 363) (vr 144)),(de (PyData.keyHash P (S "standing_lines")) (vs (S "standing_lines") 369) (vr 149)),(de (PyData.keyHash P (S "files_with_lines")) (vs (S "files_with_lines") 375) (vr 154)),(de (PyData.keyHash P (S "straight_ahead")) (vs (S "straight_ahead") 384) (vr 161)),(de (PyData.keyHash P (S "joined")) (vs (S "joined") 394) (vr 168)),(de (PyData.keyHash P (S "all_ahead")) (vs (S "all_ahead") 400) (vr 173)),(de (PyData.keyHash P (S "first_free")) (vs (S "first_free") 408) (vr 180)),(de (PyData.keyHash P (S "row_of")) (vs (S "row_of") 414) (vr 185))] 28) #[])
noncomputable def o_223 (P : Params) : Obj := (ob vn none (Data.fields #[(vi 1 0),(vi 0 0),(vr 20),(vi 5 0),(vi 0 0),(vr 27),(vi 7 0),(vi 0 0),(vr 40),(vi 9 0),(vi 0 0),(vr 52),(vi 11 0),(vi 0 0),(vr 64),(vi 13 0),(vi 0 0),(vr 76),(vi 15 0),(vi 0 0),(vr 88),(vi 17 0),(vi 0 0),(vr 100),(vi 19 0),(vi 0 0),(vr 112),(vi 21 0),(vi 0 0),(vr 124),(vi 24 0),(vi 0 0),(vr 136),(vi 33 0),(vi 0 0),(vr 143),(vi 39 0),(vi 0 0),(vr 148),(vi 46 0),(vi 0 0),(vr 153),(vi 49 0),(vi 0 0),(vr 160),(vi 59 0),(vi 0 0),(vr 167),(vi 65 0),(vi 0 0),(vr 172),(vi 81 0),(vi 0 0),(vr 179),(vi 86 0),(vi 0 0),(vr 184)]) #[])
end TW
section
open PySem PySem.W L2 PK TW
noncomputable def PySem.W.Fast.tw4911187502636463641 : Program := PySem.Challenge.pw_patchkin_k02_stores_begun
theorem PySem.W.Fast.te4911187502636463641 : PySem.W.Fast.tw4911187502636463641 = PySem.W.Fast.tw4911187502636463641 := rfl
noncomputable def PySem.W.Fast.tw8845707902406629601 : Params → BT := fun P => (.node (PySem.W.boot_o_0 P) (.node (PySem.W.boot_o_1 P) (.node (o_308 P) (.node (PySem.W.boot_o_7 P) (.node (o_51 P) (.node (o_178 P) (.node (o_108 P) (.node (o_187 P) (lf (o_323 P)) (lf (o_451 P))) (.node (o_255 P) (lf (o_387 P)) .nil)) (.node (o_149 P) (.node (o_219 P) (lf (o_355 P)) .nil) (.node (o_287 P) (lf (o_419 P)) .nil))) (.node (o_89 P) (.node (o_127 P) (.node (o_203 P) (lf (o_339 P)) (lf (o_467 P))) (.node (o_271 P) (lf (o_403 P)) .nil)) (.node (o_168 P) (.node (o_237 P) (lf (o_371 P)) .nil) (.node (o_305 P) (lf (o_435 P)) .nil)))) (.node (o_59 P) (.node (o_78 P) (.node (o_119 P) (.node (o_195 P) (lf (o_331 P)) (lf (o_459 P))) (.node (o_263 P) (lf (o_395 P)) .nil)) (.node (o_157 P) (.node (o_229 P) (lf (o_363 P)) .nil) (.node (o_295 P) (lf (o_427 P)) .nil))) (.node (o_97 P) (.node (o_138 P) (.node (o_211 P) (lf (o_347 P)) (lf (o_475 P))) (.node (o_279 P) (lf (o_411 P)) .nil)) (.node (o_179 P) (.node (o_245 P) (lf (o_379 P)) .nil) (.node (o_315 P) (lf (o_443 P)) .nil))))) (.node (o_43 P) (.node (o_55 P) (.node (o_74 P) (.node (o_112 P) (.node (o_191 P) (lf (o_327 P)) (lf (o_455 P))) (.node (o_259 P) (lf (o_391 P)) .nil)) (.node (o_153 P) (.node (o_225 P) (lf (o_359 P)) .nil) (.node (o_291 P) (lf (o_423 P)) .nil))) (.node (o_93 P) (.node (o_134 P) (.node (o_207 P) (lf (o_343 P)) (lf (o_471 P))) (.node (o_275 P) (lf (o_407 P)) .nil)) (.node (o_172 P) (.node (o_241 P) (lf (o_375 P)) .nil) (.node (o_311 P) (lf (o_439 P)) .nil)))) (.node (o_63 P) (.node (o_82 P) (.node (o_123 P) (.node (o_199 P) (lf (o_335 P)) (lf (o_463 P))) (.node (o_267 P) (lf (o_399 P)) .nil)) (.node (o_164 P) (.node (o_233 P) (lf (o_367 P)) .nil) (.node (o_301 P) (lf (o_431 P)) .nil))) (.node (o_104 P) (.node (o_142 P) (.node (o_215 P) (lf (o_351 P)) .nil) (.node (o_283 P) (lf (o_415 P)) .nil)) (.node (o_183 P) (.node (o_251 P) (lf (o_383 P)) .nil) (.node (o_319 P) (lf (o_447 P)) .nil)))))) (.node (PySem.W.boot_o_5 P) (.node (PySem.W.boot_o_9 P) (.node (o_53 P) (.node (o_69 P) (.node (o_110 P) (.node (o_189 P) (lf (o_325 P)) (lf (o_453 P))) (.node (o_257 P) (lf (o_389 P)) .nil)) (.node (o_151 P) (.node (o_221 P) (lf (o_357 P)) .nil) (.node (o_289 P) (lf (o_421 P)) .nil))) (.node (o_91 P) (.node (o_129 P) (.node (o_205 P) (lf (o_341 P)) (lf (o_469 P))) (.node (o_273 P) (lf (o_405 P)) .nil)) (.node (o_170 P) (.node (o_239 P) (lf (o_373 P)) .nil) (.node (o_307 P) (lf (o_437 P)) .nil)))) (.node (o_61 P) (.node (o_80 P) (.node (o_121 P) (.node (o_197 P) (lf (o_333 P)) (lf (o_461 P))) (.node (o_265 P) (lf (o_397 P)) .nil)) (.node (o_159 P) (.node (o_231 P) (lf (o_365 P)) .nil) (.node (o_297 P) (lf (o_429 P)) .nil))) (.node (o_99 P) (.node (o_140 P) (.node (o_213 P) (lf (o_349 P)) (lf (o_477 P))) (.node (o_281 P) (lf (o_413 P)) .nil)) (.node (o_181 P) (.node (o_247 P) (lf (o_381 P)) .nil) (.node (o_317 P) (lf (o_445 P)) .nil))))) (.node (o_45 P) (.node (o_57 P) (.node (o_76 P) (.node (o_114 P) (.node (o_193 P) (lf (o_329 P)) (lf (o_457 P))) (.node (o_261 P) (lf (o_393 P)) .nil)) (.node (o_155 P) (.node (o_227 P) (lf (o_361 P)) .nil) (.node (o_293 P) (lf (o_425 P)) .nil))) (.node (o_95 P) (.node (o_136 P) (.node (o_209 P) (lf (o_345 P)) (lf (o_473 P))) (.node (o_277 P) (lf (o_409 P)) .nil)) (.node (o_174 P) (.node (o_243 P) (lf (o_377 P)) .nil) (.node (o_313 P) (lf (o_441 P)) .nil)))) (.node (o_65 P) (.node (o_84 P) (.node (o_125 P) (.node (o_201 P) (lf (o_337 P)) (lf (o_465 P))) (.node (o_269 P) (lf (o_401 P)) .nil)) (.node (o_166 P) (.node (o_235 P) (lf (o_369 P)) .nil) (.node (o_303 P) (lf (o_433 P)) .nil))) (.node (o_106 P) (.node (o_144 P) (.node (o_217 P) (lf (o_353 P)) .nil) (.node (o_285 P) (lf (o_417 P)) .nil)) (.node (o_185 P) (.node (o_253 P) (lf (o_385 P)) .nil) (.node (o_321 P) (lf (o_449 P)) .nil))))))) (.node (PySem.W.boot_o_2 P) (.node (PySem.W.boot_o_4 P) (.node (PySem.W.boot_o_8 P) (.node (o_52 P) (.node (o_68 P) (.node (o_109 P) (.node (o_188 P) (lf (o_324 P)) (lf (o_452 P))) (.node (o_256 P) (lf (o_388 P)) .nil)) (.node (o_150 P) (.node (o_220 P) (lf (o_356 P)) .nil) (.node (o_288 P) (lf (o_420 P)) .nil))) (.node (o_90 P) (.node (o_128 P) (.node (o_204 P) (lf (o_340 P)) (lf (o_468 P))) (.node (o_272 P) (lf (o_404 P)) .nil)) (.node (o_169 P) (.node (o_238 P) (lf (o_372 P)) .nil) (.node (o_306 P) (lf (o_436 P)) .nil)))) (.node (o_60 P) (.node (o_79 P) (.node (o_120 P) (.node (o_196 P) (lf (o_332 P)) (lf (o_460 P))) (.node (o_264 P) (lf (o_396 P)) .nil)) (.node (o_158 P) (.node (o_230 P) (lf (o_364 P)) .nil) (.node (o_296 P) (lf (o_428 P)) .nil))) (.node (o_98 P) (.node (o_139 P) (.node (o_212 P) (lf (o_348 P)) (lf (o_476 P))) (.node (o_280 P) (lf (o_412 P)) .nil)) (.node (o_180 P) (.node (o_246 P) (lf (o_380 P)) .nil) (.node (o_316 P) (lf (o_444 P)) .nil))))) (.node (o_309 P) (.node (o_56 P) (.node (o_75 P) (.node (o_113 P) (.node (o_192 P) (lf (o_328 P)) (lf (o_456 P))) (.node (o_260 P) (lf (o_392 P)) .nil)) (.node (o_154 P) (.node (o_226 P) (lf (o_360 P)) .nil) (.node (o_292 P) (lf (o_424 P)) .nil))) (.node (o_94 P) (.node (o_135 P) (.node (o_208 P) (lf (o_344 P)) (lf (o_472 P))) (.node (o_276 P) (lf (o_408 P)) .nil)) (.node (o_173 P) (.node (o_242 P) (lf (o_376 P)) .nil) (.node (o_312 P) (lf (o_440 P)) .nil)))) (.node (o_64 P) (.node (o_83 P) (.node (o_124 P) (.node (o_200 P) (lf (o_336 P)) (lf (o_464 P))) (.node (o_268 P) (lf (o_400 P)) .nil)) (.node (o_165 P) (.node (o_234 P) (lf (o_368 P)) .nil) (.node (o_302 P) (lf (o_432 P)) .nil))) (.node (o_105 P) (.node (o_143 P) (.node (o_216 P) (lf (o_352 P)) .nil) (.node (o_284 P) (lf (o_416 P)) .nil)) (.node (o_184 P) (.node (o_252 P) (lf (o_384 P)) .nil) (.node (o_320 P) (lf (o_448 P)) .nil)))))) (.node (PySem.W.boot_o_6 P) (.node (PySem.W.boot_o_10 P) (.node (o_54 P) (.node (o_70 P) (.node (o_111 P) (.node (o_190 P) (lf (o_326 P)) (lf (o_454 P))) (.node (o_258 P) (lf (o_390 P)) .nil)) (.node (o_152 P) (.node (o_224 P) (lf (o_358 P)) .nil) (.node (o_290 P) (lf (o_422 P)) .nil))) (.node (o_92 P) (.node (o_130 P) (.node (o_206 P) (lf (o_342 P)) (lf (o_470 P))) (.node (o_274 P) (lf (o_406 P)) .nil)) (.node (o_171 P) (.node (o_240 P) (lf (o_374 P)) .nil) (.node (o_310 P) (lf (o_438 P)) .nil)))) (.node (o_62 P) (.node (o_81 P) (.node (o_122 P) (.node (o_198 P) (lf (o_334 P)) (lf (o_462 P))) (.node (o_266 P) (lf (o_398 P)) .nil)) (.node (o_160 P) (.node (o_232 P) (lf (o_366 P)) .nil) (.node (o_298 P) (lf (o_430 P)) .nil))) (.node (o_100 P) (.node (o_141 P) (.node (o_214 P) (lf (o_350 P)) (lf (o_478 P))) (.node (o_282 P) (lf (o_414 P)) .nil)) (.node (o_182 P) (.node (o_250 P) (lf (o_382 P)) .nil) (.node (o_318 P) (lf (o_446 P)) .nil))))) (.node (o_46 P) (.node (o_58 P) (.node (o_77 P) (.node (o_115 P) (.node (o_194 P) (lf (o_330 P)) (lf (o_458 P))) (.node (o_262 P) (lf (o_394 P)) .nil)) (.node (o_156 P) (.node (o_228 P) (lf (o_362 P)) .nil) (.node (o_294 P) (lf (o_426 P)) .nil))) (.node (o_96 P) (.node (o_137 P) (.node (o_210 P) (lf (o_346 P)) (lf (o_474 P))) (.node (o_278 P) (lf (o_410 P)) .nil)) (.node (o_175 P) (.node (o_244 P) (lf (o_378 P)) .nil) (.node (o_314 P) (lf (o_442 P)) .nil)))) (.node (o_66 P) (.node (o_85 P) (.node (o_126 P) (.node (o_202 P) (lf (o_338 P)) (lf (o_466 P))) (.node (o_270 P) (lf (o_402 P)) .nil)) (.node (o_167 P) (.node (o_236 P) (lf (o_370 P)) .nil) (.node (o_304 P) (lf (o_434 P)) .nil))) (.node (o_107 P) (.node (o_145 P) (.node (o_218 P) (lf (o_354 P)) .nil) (.node (o_286 P) (lf (o_418 P)) .nil)) (.node (o_186 P) (.node (o_254 P) (lf (o_386 P)) .nil) (.node (o_322 P) (lf (o_450 P)) .nil))))))))
theorem PySem.W.Fast.te8845707902406629601 : PySem.W.Fast.tw8845707902406629601 = PySem.W.Fast.tw8845707902406629601 := rfl
noncomputable def PySem.W.Fast.tw8295149725971674465 : Params → BT := fun P => (.node (PySem.W.boot_o_0 P) (.node (PySem.W.boot_o_1 P) (.node (o_86 P) (.node (PySem.W.boot_o_7 P) (.node (o_51 P) (lf (o_88 P)) (lf (o_89 P))) (.node (o_59 P) (lf (o_78 P)) (lf (o_97 P)))) (.node (o_43 P) (.node (o_55 P) (lf (o_74 P)) (lf (o_93 P))) (.node (o_63 P) (lf (o_82 P)) .nil))) (.node (PySem.W.boot_o_5 P) (.node (PySem.W.boot_o_9 P) (.node (o_53 P) (lf (o_69 P)) (lf (o_91 P))) (.node (o_61 P) (lf (o_80 P)) (lf (o_99 P)))) (.node (o_45 P) (.node (o_57 P) (lf (o_76 P)) (lf (o_95 P))) (.node (o_65 P) (lf (o_84 P)) .nil)))) (.node (PySem.W.boot_o_2 P) (.node (PySem.W.boot_o_4 P) (.node (PySem.W.boot_o_8 P) (.node (o_52 P) (lf (o_68 P)) (lf (o_90 P))) (.node (o_60 P) (lf (o_79 P)) (lf (o_98 P)))) (.node (o_87 P) (.node (o_56 P) (lf (o_75 P)) (lf (o_94 P))) (.node (o_64 P) (lf (o_83 P)) .nil))) (.node (PySem.W.boot_o_6 P) (.node (PySem.W.boot_o_10 P) (.node (o_54 P) (lf (o_70 P)) (lf (o_92 P))) (.node (o_62 P) (lf (o_81 P)) (lf (o_100 P)))) (.node (o_46 P) (.node (o_58 P) (lf (o_77 P)) (lf (o_96 P))) (.node (o_66 P) (lf (o_85 P)) .nil)))))
theorem PySem.W.Fast.te8295149725971674465 : PySem.W.Fast.tw8295149725971674465 = PySem.W.Fast.tw8295149725971674465 := rfl
noncomputable def PySem.W.Fast.tw9183006731910349794 : Params → BT := fun P => (.node (PySem.W.boot_o_0 P) (.node (PySem.W.boot_o_1 P) (.node (o_146 P) (.node (PySem.W.boot_o_7 P) (.node (o_51 P) (.node (o_148 P) (lf (o_108 P)) (lf (o_149 P))) (.node (o_89 P) (lf (o_127 P)) .nil)) (.node (o_59 P) (.node (o_78 P) (lf (o_119 P)) (lf (o_157 P))) (.node (o_97 P) (lf (o_138 P)) .nil))) (.node (o_43 P) (.node (o_55 P) (.node (o_74 P) (lf (o_112 P)) (lf (o_153 P))) (.node (o_93 P) (lf (o_134 P)) .nil)) (.node (o_63 P) (.node (o_82 P) (lf (o_123 P)) .nil) (.node (o_104 P) (lf (o_142 P)) .nil)))) (.node (PySem.W.boot_o_5 P) (.node (PySem.W.boot_o_9 P) (.node (o_53 P) (.node (o_69 P) (lf (o_110 P)) (lf (o_151 P))) (.node (o_91 P) (lf (o_129 P)) .nil)) (.node (o_61 P) (.node (o_80 P) (lf (o_121 P)) (lf (o_159 P))) (.node (o_99 P) (lf (o_140 P)) .nil))) (.node (o_45 P) (.node (o_57 P) (.node (o_76 P) (lf (o_114 P)) (lf (o_155 P))) (.node (o_95 P) (lf (o_136 P)) .nil)) (.node (o_65 P) (.node (o_84 P) (lf (o_125 P)) .nil) (.node (o_106 P) (lf (o_144 P)) .nil))))) (.node (PySem.W.boot_o_2 P) (.node (PySem.W.boot_o_4 P) (.node (PySem.W.boot_o_8 P) (.node (o_52 P) (.node (o_68 P) (lf (o_109 P)) (lf (o_150 P))) (.node (o_90 P) (lf (o_128 P)) .nil)) (.node (o_60 P) (.node (o_79 P) (lf (o_120 P)) (lf (o_158 P))) (.node (o_98 P) (lf (o_139 P)) .nil))) (.node (o_147 P) (.node (o_56 P) (.node (o_75 P) (lf (o_113 P)) (lf (o_154 P))) (.node (o_94 P) (lf (o_135 P)) .nil)) (.node (o_64 P) (.node (o_83 P) (lf (o_124 P)) .nil) (.node (o_105 P) (lf (o_143 P)) .nil)))) (.node (PySem.W.boot_o_6 P) (.node (PySem.W.boot_o_10 P) (.node (o_54 P) (.node (o_70 P) (lf (o_111 P)) (lf (o_152 P))) (.node (o_92 P) (lf (o_130 P)) .nil)) (.node (o_62 P) (.node (o_81 P) (lf (o_122 P)) (lf (o_160 P))) (.node (o_100 P) (lf (o_141 P)) .nil))) (.node (o_46 P) (.node (o_58 P) (.node (o_77 P) (lf (o_115 P)) (lf (o_156 P))) (.node (o_96 P) (lf (o_137 P)) .nil)) (.node (o_66 P) (.node (o_85 P) (lf (o_126 P)) .nil) (.node (o_107 P) (lf (o_145 P)) .nil))))))
theorem PySem.W.Fast.te9183006731910349794 : PySem.W.Fast.tw9183006731910349794 = PySem.W.Fast.tw9183006731910349794 := rfl
noncomputable def PySem.W.Fast.tw4331856508674955971 : Params → BT := fun P => (.node (PySem.W.boot_o_0 P) (.node (PySem.W.boot_o_1 P) (.node (o_176 P) (.node (PySem.W.boot_o_7 P) (.node (o_51 P) (.node (o_178 P) (.node (o_108 P) (lf (o_187 P)) .nil) (.node (o_149 P) (lf (o_219 P)) .nil)) (.node (o_89 P) (.node (o_127 P) (lf (o_203 P)) .nil) (lf (o_168 P)))) (.node (o_59 P) (.node (o_78 P) (.node (o_119 P) (lf (o_195 P)) .nil) (lf (o_157 P))) (.node (o_97 P) (.node (o_138 P) (lf (o_211 P)) .nil) (lf (o_179 P))))) (.node (o_43 P) (.node (o_55 P) (.node (o_74 P) (.node (o_112 P) (lf (o_191 P)) .nil) (lf (o_153 P))) (.node (o_93 P) (.node (o_134 P) (lf (o_207 P)) .nil) (lf (o_172 P)))) (.node (o_63 P) (.node (o_82 P) (.node (o_123 P) (lf (o_199 P)) .nil) (lf (o_164 P))) (.node (o_104 P) (.node (o_142 P) (lf (o_215 P)) .nil) (lf (o_183 P)))))) (.node (PySem.W.boot_o_5 P) (.node (PySem.W.boot_o_9 P) (.node (o_53 P) (.node (o_69 P) (.node (o_110 P) (lf (o_189 P)) .nil) (.node (o_151 P) (lf (o_221 P)) .nil)) (.node (o_91 P) (.node (o_129 P) (lf (o_205 P)) .nil) (lf (o_170 P)))) (.node (o_61 P) (.node (o_80 P) (.node (o_121 P) (lf (o_197 P)) .nil) (lf (o_159 P))) (.node (o_99 P) (.node (o_140 P) (lf (o_213 P)) .nil) (lf (o_181 P))))) (.node (o_45 P) (.node (o_57 P) (.node (o_76 P) (.node (o_114 P) (lf (o_193 P)) .nil) (lf (o_155 P))) (.node (o_95 P) (.node (o_136 P) (lf (o_209 P)) .nil) (lf (o_174 P)))) (.node (o_65 P) (.node (o_84 P) (.node (o_125 P) (lf (o_201 P)) .nil) (lf (o_166 P))) (.node (o_106 P) (.node (o_144 P) (lf (o_217 P)) .nil) (lf (o_185 P))))))) (.node (PySem.W.boot_o_2 P) (.node (PySem.W.boot_o_4 P) (.node (PySem.W.boot_o_8 P) (.node (o_52 P) (.node (o_68 P) (.node (o_109 P) (lf (o_188 P)) .nil) (.node (o_150 P) (lf (o_220 P)) .nil)) (.node (o_90 P) (.node (o_128 P) (lf (o_204 P)) .nil) (lf (o_169 P)))) (.node (o_60 P) (.node (o_79 P) (.node (o_120 P) (lf (o_196 P)) .nil) (lf (o_158 P))) (.node (o_98 P) (.node (o_139 P) (lf (o_212 P)) .nil) (lf (o_180 P))))) (.node (o_177 P) (.node (o_56 P) (.node (o_75 P) (.node (o_113 P) (lf (o_192 P)) .nil) (lf (o_154 P))) (.node (o_94 P) (.node (o_135 P) (lf (o_208 P)) .nil) (lf (o_173 P)))) (.node (o_64 P) (.node (o_83 P) (.node (o_124 P) (lf (o_200 P)) .nil) (lf (o_165 P))) (.node (o_105 P) (.node (o_143 P) (lf (o_216 P)) .nil) (lf (o_184 P)))))) (.node (PySem.W.boot_o_6 P) (.node (PySem.W.boot_o_10 P) (.node (o_54 P) (.node (o_70 P) (.node (o_111 P) (lf (o_190 P)) .nil) (lf (o_152 P))) (.node (o_92 P) (.node (o_130 P) (lf (o_206 P)) .nil) (lf (o_171 P)))) (.node (o_62 P) (.node (o_81 P) (.node (o_122 P) (lf (o_198 P)) .nil) (lf (o_160 P))) (.node (o_100 P) (.node (o_141 P) (lf (o_214 P)) .nil) (lf (o_182 P))))) (.node (o_46 P) (.node (o_58 P) (.node (o_77 P) (.node (o_115 P) (lf (o_194 P)) .nil) (lf (o_156 P))) (.node (o_96 P) (.node (o_137 P) (lf (o_210 P)) .nil) (lf (o_175 P)))) (.node (o_66 P) (.node (o_85 P) (.node (o_126 P) (lf (o_202 P)) .nil) (lf (o_167 P))) (.node (o_107 P) (.node (o_145 P) (lf (o_218 P)) .nil) (lf (o_186 P))))))))
theorem PySem.W.Fast.te4331856508674955971 : PySem.W.Fast.tw4331856508674955971 = PySem.W.Fast.tw4331856508674955971 := rfl
noncomputable def PySem.W.Fast.tw5038665222942822822 : Params → BT := fun P => (.node (PySem.W.boot_o_0 P) (.node (PySem.W.boot_o_1 P) (.node (o_131 P) (.node (PySem.W.boot_o_7 P) (.node (o_51 P) (.node (o_133 P) (lf (o_108 P)) .nil) (.node (o_89 P) (lf (o_127 P)) .nil)) (.node (o_59 P) (.node (o_78 P) (lf (o_119 P)) .nil) (.node (o_97 P) (lf (o_138 P)) .nil))) (.node (o_43 P) (.node (o_55 P) (.node (o_74 P) (lf (o_112 P)) .nil) (.node (o_93 P) (lf (o_134 P)) .nil)) (.node (o_63 P) (.node (o_82 P) (lf (o_123 P)) .nil) (.node (o_104 P) (lf (o_142 P)) .nil)))) (.node (PySem.W.boot_o_5 P) (.node (PySem.W.boot_o_9 P) (.node (o_53 P) (.node (o_69 P) (lf (o_110 P)) .nil) (.node (o_91 P) (lf (o_129 P)) .nil)) (.node (o_61 P) (.node (o_80 P) (lf (o_121 P)) .nil) (.node (o_99 P) (lf (o_140 P)) .nil))) (.node (o_45 P) (.node (o_57 P) (.node (o_76 P) (lf (o_114 P)) .nil) (.node (o_95 P) (lf (o_136 P)) .nil)) (.node (o_65 P) (.node (o_84 P) (lf (o_125 P)) .nil) (.node (o_106 P) (lf (o_144 P)) .nil))))) (.node (PySem.W.boot_o_2 P) (.node (PySem.W.boot_o_4 P) (.node (PySem.W.boot_o_8 P) (.node (o_52 P) (.node (o_68 P) (lf (o_109 P)) .nil) (.node (o_90 P) (lf (o_128 P)) .nil)) (.node (o_60 P) (.node (o_79 P) (lf (o_120 P)) .nil) (.node (o_98 P) (lf (o_139 P)) .nil))) (.node (o_132 P) (.node (o_56 P) (.node (o_75 P) (lf (o_113 P)) .nil) (.node (o_94 P) (lf (o_135 P)) .nil)) (.node (o_64 P) (.node (o_83 P) (lf (o_124 P)) .nil) (.node (o_105 P) (lf (o_143 P)) .nil)))) (.node (PySem.W.boot_o_6 P) (.node (PySem.W.boot_o_10 P) (.node (o_54 P) (.node (o_70 P) (lf (o_111 P)) .nil) (.node (o_92 P) (lf (o_130 P)) .nil)) (.node (o_62 P) (.node (o_81 P) (lf (o_122 P)) .nil) (.node (o_100 P) (lf (o_141 P)) .nil))) (.node (o_46 P) (.node (o_58 P) (.node (o_77 P) (lf (o_115 P)) .nil) (.node (o_96 P) (lf (o_137 P)) .nil)) (.node (o_66 P) (.node (o_85 P) (lf (o_126 P)) .nil) (.node (o_107 P) (lf (o_145 P)) .nil))))))
theorem PySem.W.Fast.te5038665222942822822 : PySem.W.Fast.tw5038665222942822822 = PySem.W.Fast.tw5038665222942822822 := rfl
noncomputable def PySem.W.Fast.tw2446940783900478919 : Params → BT := fun P => (.node (PySem.W.boot_o_0 P) (.node (PySem.W.boot_o_1 P) (.node (o_49 P) (.node (PySem.W.boot_o_7 P) (.node (o_51 P) (lf (o_67 P)) .nil) (lf (o_59 P))) (.node (o_43 P) (lf (o_55 P)) (lf (o_63 P)))) (.node (PySem.W.boot_o_5 P) (.node (PySem.W.boot_o_9 P) (.node (o_53 P) (lf (o_69 P)) .nil) (lf (o_61 P))) (.node (o_45 P) (lf (o_57 P)) (lf (o_65 P))))) (.node (PySem.W.boot_o_2 P) (.node (PySem.W.boot_o_4 P) (.node (PySem.W.boot_o_8 P) (.node (o_52 P) (lf (o_68 P)) .nil) (lf (o_60 P))) (.node (o_50 P) (lf (o_56 P)) (lf (o_64 P)))) (.node (PySem.W.boot_o_6 P) (.node (PySem.W.boot_o_10 P) (.node (o_54 P) (lf (o_70 P)) .nil) (lf (o_62 P))) (.node (o_46 P) (lf (o_58 P)) (lf (o_66 P))))))
theorem PySem.W.Fast.te2446940783900478919 : PySem.W.Fast.tw2446940783900478919 = PySem.W.Fast.tw2446940783900478919 := rfl
noncomputable def PySem.W.Fast.tw3293135428048459785 : Params → BT := fun P => (.node (PySem.W.boot_o_0 P) (.node (PySem.W.boot_o_1 P) (.node (o_565 P) (.node (PySem.W.boot_o_7 P) (.node (o_51 P) (.node (o_178 P) (.node (o_108 P) (.node (o_187 P) (lf (o_323 P)) (lf (o_451 P))) (.node (o_255 P) (lf (o_387 P)) (lf (o_603 P)))) (.node (o_149 P) (.node (o_219 P) (lf (o_355 P)) (lf (o_571 P))) (.node (o_287 P) (lf (o_419 P)) .nil))) (.node (o_89 P) (.node (o_127 P) (.node (o_203 P) (lf (o_339 P)) (lf (o_467 P))) (.node (o_271 P) (lf (o_403 P)) (lf (o_619 P)))) (.node (o_168 P) (.node (o_237 P) (lf (o_371 P)) (lf (o_587 P))) (.node (o_305 P) (lf (o_435 P)) .nil)))) (.node (o_59 P) (.node (o_78 P) (.node (o_119 P) (.node (o_195 P) (lf (o_331 P)) (lf (o_459 P))) (.node (o_263 P) (lf (o_395 P)) (lf (o_611 P)))) (.node (o_157 P) (.node (o_229 P) (lf (o_363 P)) (lf (o_579 P))) (.node (o_295 P) (lf (o_427 P)) .nil))) (.node (o_97 P) (.node (o_138 P) (.node (o_211 P) (lf (o_347 P)) (lf (o_475 P))) (.node (o_279 P) (lf (o_411 P)) .nil)) (.node (o_179 P) (.node (o_245 P) (lf (o_379 P)) (lf (o_595 P))) (.node (o_315 P) (lf (o_443 P)) .nil))))) (.node (o_43 P) (.node (o_55 P) (.node (o_74 P) (.node (o_112 P) (.node (o_191 P) (lf (o_327 P)) (lf (o_455 P))) (.node (o_259 P) (lf (o_391 P)) (lf (o_607 P)))) (.node (o_153 P) (.node (o_225 P) (lf (o_359 P)) (lf (o_575 P))) (.node (o_291 P) (lf (o_423 P)) .nil))) (.node (o_93 P) (.node (o_134 P) (.node (o_207 P) (lf (o_343 P)) (lf (o_471 P))) (.node (o_275 P) (lf (o_407 P)) .nil)) (.node (o_172 P) (.node (o_241 P) (lf (o_375 P)) (lf (o_591 P))) (.node (o_311 P) (lf (o_439 P)) .nil)))) (.node (o_63 P) (.node (o_82 P) (.node (o_123 P) (.node (o_199 P) (lf (o_335 P)) (lf (o_463 P))) (.node (o_267 P) (lf (o_399 P)) (lf (o_615 P)))) (.node (o_164 P) (.node (o_233 P) (lf (o_367 P)) (lf (o_583 P))) (.node (o_301 P) (lf (o_431 P)) .nil))) (.node (o_104 P) (.node (o_142 P) (.node (o_215 P) (lf (o_351 P)) (lf (o_567 P))) (.node (o_283 P) (lf (o_415 P)) .nil)) (.node (o_183 P) (.node (o_251 P) (lf (o_383 P)) (lf (o_599 P))) (.node (o_319 P) (lf (o_447 P)) .nil)))))) (.node (PySem.W.boot_o_5 P) (.node (PySem.W.boot_o_9 P) (.node (o_53 P) (.node (o_69 P) (.node (o_110 P) (.node (o_189 P) (lf (o_325 P)) (lf (o_453 P))) (.node (o_257 P) (lf (o_389 P)) (lf (o_605 P)))) (.node (o_151 P) (.node (o_221 P) (lf (o_357 P)) (lf (o_573 P))) (.node (o_289 P) (lf (o_421 P)) .nil))) (.node (o_91 P) (.node (o_129 P) (.node (o_205 P) (lf (o_341 P)) (lf (o_469 P))) (.node (o_273 P) (lf (o_405 P)) .nil)) (.node (o_170 P) (.node (o_239 P) (lf (o_373 P)) (lf (o_589 P))) (.node (o_307 P) (lf (o_437 P)) .nil)))) (.node (o_61 P) (.node (o_80 P) (.node (o_121 P) (.node (o_197 P) (lf (o_333 P)) (lf (o_461 P))) (.node (o_265 P) (lf (o_397 P)) (lf (o_613 P)))) (.node (o_159 P) (.node (o_231 P) (lf (o_365 P)) (lf (o_581 P))) (.node (o_297 P) (lf (o_429 P)) .nil))) (.node (o_99 P) (.node (o_140 P) (.node (o_213 P) (lf (o_349 P)) (lf (o_477 P))) (.node (o_281 P) (lf (o_413 P)) .nil)) (.node (o_181 P) (.node (o_247 P) (lf (o_381 P)) (lf (o_597 P))) (.node (o_317 P) (lf (o_445 P)) .nil))))) (.node (o_45 P) (.node (o_57 P) (.node (o_76 P) (.node (o_114 P) (.node (o_193 P) (lf (o_329 P)) (lf (o_457 P))) (.node (o_261 P) (lf (o_393 P)) (lf (o_609 P)))) (.node (o_155 P) (.node (o_227 P) (lf (o_361 P)) (lf (o_577 P))) (.node (o_293 P) (lf (o_425 P)) .nil))) (.node (o_95 P) (.node (o_136 P) (.node (o_209 P) (lf (o_345 P)) (lf (o_473 P))) (.node (o_277 P) (lf (o_409 P)) .nil)) (.node (o_174 P) (.node (o_243 P) (lf (o_377 P)) (lf (o_593 P))) (.node (o_313 P) (lf (o_441 P)) .nil)))) (.node (o_65 P) (.node (o_84 P) (.node (o_125 P) (.node (o_201 P) (lf (o_337 P)) (lf (o_465 P))) (.node (o_269 P) (lf (o_401 P)) (lf (o_617 P)))) (.node (o_166 P) (.node (o_235 P) (lf (o_369 P)) (lf (o_585 P))) (.node (o_303 P) (lf (o_433 P)) .nil))) (.node (o_106 P) (.node (o_144 P) (.node (o_217 P) (lf (o_353 P)) (lf (o_569 P))) (.node (o_285 P) (lf (o_417 P)) .nil)) (.node (o_185 P) (.node (o_253 P) (lf (o_385 P)) (lf (o_601 P))) (.node (o_321 P) (lf (o_449 P)) .nil))))))) (.node (PySem.W.boot_o_2 P) (.node (PySem.W.boot_o_4 P) (.node (PySem.W.boot_o_8 P) (.node (o_52 P) (.node (o_68 P) (.node (o_109 P) (.node (o_188 P) (lf (o_324 P)) (lf (o_452 P))) (.node (o_256 P) (lf (o_388 P)) (lf (o_604 P)))) (.node (o_150 P) (.node (o_220 P) (lf (o_356 P)) (lf (o_572 P))) (.node (o_288 P) (lf (o_420 P)) .nil))) (.node (o_90 P) (.node (o_128 P) (.node (o_204 P) (lf (o_340 P)) (lf (o_468 P))) (.node (o_272 P) (lf (o_404 P)) (lf (o_620 P)))) (.node (o_169 P) (.node (o_238 P) (lf (o_372 P)) (lf (o_588 P))) (.node (o_306 P) (lf (o_436 P)) .nil)))) (.node (o_60 P) (.node (o_79 P) (.node (o_120 P) (.node (o_196 P) (lf (o_332 P)) (lf (o_460 P))) (.node (o_264 P) (lf (o_396 P)) (lf (o_612 P)))) (.node (o_158 P) (.node (o_230 P) (lf (o_364 P)) (lf (o_580 P))) (.node (o_296 P) (lf (o_428 P)) .nil))) (.node (o_98 P) (.node (o_139 P) (.node (o_212 P) (lf (o_348 P)) (lf (o_476 P))) (.node (o_280 P) (lf (o_412 P)) .nil)) (.node (o_180 P) (.node (o_246 P) (lf (o_380 P)) (lf (o_596 P))) (.node (o_316 P) (lf (o_444 P)) .nil))))) (.node (o_566 P) (.node (o_56 P) (.node (o_75 P) (.node (o_113 P) (.node (o_192 P) (lf (o_328 P)) (lf (o_456 P))) (.node (o_260 P) (lf (o_392 P)) (lf (o_608 P)))) (.node (o_154 P) (.node (o_226 P) (lf (o_360 P)) (lf (o_576 P))) (.node (o_292 P) (lf (o_424 P)) .nil))) (.node (o_94 P) (.node (o_135 P) (.node (o_208 P) (lf (o_344 P)) (lf (o_472 P))) (.node (o_276 P) (lf (o_408 P)) .nil)) (.node (o_173 P) (.node (o_242 P) (lf (o_376 P)) (lf (o_592 P))) (.node (o_312 P) (lf (o_440 P)) .nil)))) (.node (o_64 P) (.node (o_83 P) (.node (o_124 P) (.node (o_200 P) (lf (o_336 P)) (lf (o_464 P))) (.node (o_268 P) (lf (o_400 P)) (lf (o_616 P)))) (.node (o_165 P) (.node (o_234 P) (lf (o_368 P)) (lf (o_584 P))) (.node (o_302 P) (lf (o_432 P)) .nil))) (.node (o_105 P) (.node (o_143 P) (.node (o_216 P) (lf (o_352 P)) (lf (o_568 P))) (.node (o_284 P) (lf (o_416 P)) .nil)) (.node (o_184 P) (.node (o_252 P) (lf (o_384 P)) (lf (o_600 P))) (.node (o_320 P) (lf (o_448 P)) .nil)))))) (.node (PySem.W.boot_o_6 P) (.node (PySem.W.boot_o_10 P) (.node (o_54 P) (.node (o_70 P) (.node (o_111 P) (.node (o_190 P) (lf (o_326 P)) (lf (o_454 P))) (.node (o_258 P) (lf (o_390 P)) (lf (o_606 P)))) (.node (o_152 P) (.node (o_224 P) (lf (o_358 P)) (lf (o_574 P))) (.node (o_290 P) (lf (o_422 P)) .nil))) (.node (o_92 P) (.node (o_130 P) (.node (o_206 P) (lf (o_342 P)) (lf (o_470 P))) (.node (o_274 P) (lf (o_406 P)) .nil)) (.node (o_171 P) (.node (o_240 P) (lf (o_374 P)) (lf (o_590 P))) (.node (o_310 P) (lf (o_438 P)) .nil)))) (.node (o_62 P) (.node (o_81 P) (.node (o_122 P) (.node (o_198 P) (lf (o_334 P)) (lf (o_462 P))) (.node (o_266 P) (lf (o_398 P)) (lf (o_614 P)))) (.node (o_160 P) (.node (o_232 P) (lf (o_366 P)) (lf (o_582 P))) (.node (o_298 P) (lf (o_430 P)) .nil))) (.node (o_100 P) (.node (o_141 P) (.node (o_214 P) (lf (o_350 P)) (lf (o_478 P))) (.node (o_282 P) (lf (o_414 P)) .nil)) (.node (o_182 P) (.node (o_250 P) (lf (o_382 P)) (lf (o_598 P))) (.node (o_318 P) (lf (o_446 P)) .nil))))) (.node (o_46 P) (.node (o_58 P) (.node (o_77 P) (.node (o_115 P) (.node (o_194 P) (lf (o_330 P)) (lf (o_458 P))) (.node (o_262 P) (lf (o_394 P)) (lf (o_610 P)))) (.node (o_156 P) (.node (o_228 P) (lf (o_362 P)) (lf (o_578 P))) (.node (o_294 P) (lf (o_426 P)) .nil))) (.node (o_96 P) (.node (o_137 P) (.node (o_210 P) (lf (o_346 P)) (lf (o_474 P))) (.node (o_278 P) (lf (o_410 P)) .nil)) (.node (o_175 P) (.node (o_244 P) (lf (o_378 P)) (lf (o_594 P))) (.node (o_314 P) (lf (o_442 P)) .nil)))) (.node (o_66 P) (.node (o_85 P) (.node (o_126 P) (.node (o_202 P) (lf (o_338 P)) (lf (o_466 P))) (.node (o_270 P) (lf (o_402 P)) (lf (o_618 P)))) (.node (o_167 P) (.node (o_236 P) (lf (o_370 P)) (lf (o_586 P))) (.node (o_304 P) (lf (o_434 P)) .nil))) (.node (o_107 P) (.node (o_145 P) (.node (o_218 P) (lf (o_354 P)) (lf (o_570 P))) (.node (o_286 P) (lf (o_418 P)) .nil)) (.node (o_186 P) (.node (o_254 P) (lf (o_386 P)) (lf (o_602 P))) (.node (o_322 P) (lf (o_450 P)) .nil))))))))
theorem PySem.W.Fast.te3293135428048459785 : PySem.W.Fast.tw3293135428048459785 = PySem.W.Fast.tw3293135428048459785 := rfl
noncomputable def PySem.W.Fast.tw2801787838899412873 : Params → BT := fun P => (.node (PySem.W.boot_o_0 P) (.node (PySem.W.boot_o_1 P) (.node (o_299 P) (.node (PySem.W.boot_o_7 P) (.node (o_51 P) (.node (o_178 P) (.node (o_108 P) (lf (o_187 P)) (lf (o_255 P))) (.node (o_149 P) (lf (o_219 P)) (lf (o_287 P)))) (.node (o_89 P) (.node (o_127 P) (lf (o_203 P)) (lf (o_271 P))) (.node (o_168 P) (lf (o_237 P)) (lf (o_305 P))))) (.node (o_59 P) (.node (o_78 P) (.node (o_119 P) (lf (o_195 P)) (lf (o_263 P))) (.node (o_157 P) (lf (o_229 P)) (lf (o_295 P)))) (.node (o_97 P) (.node (o_138 P) (lf (o_211 P)) (lf (o_279 P))) (.node (o_179 P) (lf (o_245 P)) .nil)))) (.node (o_43 P) (.node (o_55 P) (.node (o_74 P) (.node (o_112 P) (lf (o_191 P)) (lf (o_259 P))) (.node (o_153 P) (lf (o_225 P)) (lf (o_291 P)))) (.node (o_93 P) (.node (o_134 P) (lf (o_207 P)) (lf (o_275 P))) (.node (o_172 P) (lf (o_241 P)) .nil))) (.node (o_63 P) (.node (o_82 P) (.node (o_123 P) (lf (o_199 P)) (lf (o_267 P))) (.node (o_164 P) (lf (o_233 P)) (lf (o_301 P)))) (.node (o_104 P) (.node (o_142 P) (lf (o_215 P)) (lf (o_283 P))) (.node (o_183 P) (lf (o_251 P)) .nil))))) (.node (PySem.W.boot_o_5 P) (.node (PySem.W.boot_o_9 P) (.node (o_53 P) (.node (o_69 P) (.node (o_110 P) (lf (o_189 P)) (lf (o_257 P))) (.node (o_151 P) (lf (o_221 P)) (lf (o_289 P)))) (.node (o_91 P) (.node (o_129 P) (lf (o_205 P)) (lf (o_273 P))) (.node (o_170 P) (lf (o_239 P)) (lf (o_307 P))))) (.node (o_61 P) (.node (o_80 P) (.node (o_121 P) (lf (o_197 P)) (lf (o_265 P))) (.node (o_159 P) (lf (o_231 P)) (lf (o_297 P)))) (.node (o_99 P) (.node (o_140 P) (lf (o_213 P)) (lf (o_281 P))) (.node (o_181 P) (lf (o_247 P)) .nil)))) (.node (o_45 P) (.node (o_57 P) (.node (o_76 P) (.node (o_114 P) (lf (o_193 P)) (lf (o_261 P))) (.node (o_155 P) (lf (o_227 P)) (lf (o_293 P)))) (.node (o_95 P) (.node (o_136 P) (lf (o_209 P)) (lf (o_277 P))) (.node (o_174 P) (lf (o_243 P)) .nil))) (.node (o_65 P) (.node (o_84 P) (.node (o_125 P) (lf (o_201 P)) (lf (o_269 P))) (.node (o_166 P) (lf (o_235 P)) (lf (o_303 P)))) (.node (o_106 P) (.node (o_144 P) (lf (o_217 P)) (lf (o_285 P))) (.node (o_185 P) (lf (o_253 P)) .nil)))))) (.node (PySem.W.boot_o_2 P) (.node (PySem.W.boot_o_4 P) (.node (PySem.W.boot_o_8 P) (.node (o_52 P) (.node (o_68 P) (.node (o_109 P) (lf (o_188 P)) (lf (o_256 P))) (.node (o_150 P) (lf (o_220 P)) (lf (o_288 P)))) (.node (o_90 P) (.node (o_128 P) (lf (o_204 P)) (lf (o_272 P))) (.node (o_169 P) (lf (o_238 P)) (lf (o_306 P))))) (.node (o_60 P) (.node (o_79 P) (.node (o_120 P) (lf (o_196 P)) (lf (o_264 P))) (.node (o_158 P) (lf (o_230 P)) (lf (o_296 P)))) (.node (o_98 P) (.node (o_139 P) (lf (o_212 P)) (lf (o_280 P))) (.node (o_180 P) (lf (o_246 P)) .nil)))) (.node (o_300 P) (.node (o_56 P) (.node (o_75 P) (.node (o_113 P) (lf (o_192 P)) (lf (o_260 P))) (.node (o_154 P) (lf (o_226 P)) (lf (o_292 P)))) (.node (o_94 P) (.node (o_135 P) (lf (o_208 P)) (lf (o_276 P))) (.node (o_173 P) (lf (o_242 P)) .nil))) (.node (o_64 P) (.node (o_83 P) (.node (o_124 P) (lf (o_200 P)) (lf (o_268 P))) (.node (o_165 P) (lf (o_234 P)) (lf (o_302 P)))) (.node (o_105 P) (.node (o_143 P) (lf (o_216 P)) (lf (o_284 P))) (.node (o_184 P) (lf (o_252 P)) .nil))))) (.node (PySem.W.boot_o_6 P) (.node (PySem.W.boot_o_10 P) (.node (o_54 P) (.node (o_70 P) (.node (o_111 P) (lf (o_190 P)) (lf (o_258 P))) (.node (o_152 P) (lf (o_224 P)) (lf (o_290 P)))) (.node (o_92 P) (.node (o_130 P) (lf (o_206 P)) (lf (o_274 P))) (.node (o_171 P) (lf (o_240 P)) .nil))) (.node (o_62 P) (.node (o_81 P) (.node (o_122 P) (lf (o_198 P)) (lf (o_266 P))) (.node (o_160 P) (lf (o_232 P)) (lf (o_298 P)))) (.node (o_100 P) (.node (o_141 P) (lf (o_214 P)) (lf (o_282 P))) (.node (o_182 P) (lf (o_250 P)) .nil)))) (.node (o_46 P) (.node (o_58 P) (.node (o_77 P) (.node (o_115 P) (lf (o_194 P)) (lf (o_262 P))) (.node (o_156 P) (lf (o_228 P)) (lf (o_294 P)))) (.node (o_96 P) (.node (o_137 P) (lf (o_210 P)) (lf (o_278 P))) (.node (o_175 P) (lf (o_244 P)) .nil))) (.node (o_66 P) (.node (o_85 P) (.node (o_126 P) (lf (o_202 P)) (lf (o_270 P))) (.node (o_167 P) (lf (o_236 P)) (lf (o_304 P)))) (.node (o_107 P) (.node (o_145 P) (lf (o_218 P)) (lf (o_286 P))) (.node (o_186 P) (lf (o_254 P)) .nil)))))))
theorem PySem.W.Fast.te2801787838899412873 : PySem.W.Fast.tw2801787838899412873 = PySem.W.Fast.tw2801787838899412873 := rfl
noncomputable def PySem.W.Fast.tw5223945988178855819 : Params → BT := fun P => (.node (PySem.W.boot_o_0 P) (.node (PySem.W.boot_o_1 P) (.node (o_116 P) (.node (PySem.W.boot_o_7 P) (.node (o_51 P) (.node (o_118 P) (lf (o_108 P)) .nil) (.node (o_89 P) (lf (o_127 P)) .nil)) (.node (o_59 P) (.node (o_78 P) (lf (o_119 P)) .nil) (lf (o_97 P)))) (.node (o_43 P) (.node (o_55 P) (.node (o_74 P) (lf (o_112 P)) .nil) (lf (o_93 P))) (.node (o_63 P) (.node (o_82 P) (lf (o_123 P)) .nil) (lf (o_104 P))))) (.node (PySem.W.boot_o_5 P) (.node (PySem.W.boot_o_9 P) (.node (o_53 P) (.node (o_69 P) (lf (o_110 P)) .nil) (.node (o_91 P) (lf (o_129 P)) .nil)) (.node (o_61 P) (.node (o_80 P) (lf (o_121 P)) .nil) (lf (o_99 P)))) (.node (o_45 P) (.node (o_57 P) (.node (o_76 P) (lf (o_114 P)) .nil) (lf (o_95 P))) (.node (o_65 P) (.node (o_84 P) (lf (o_125 P)) .nil) (lf (o_106 P)))))) (.node (PySem.W.boot_o_2 P) (.node (PySem.W.boot_o_4 P) (.node (PySem.W.boot_o_8 P) (.node (o_52 P) (.node (o_68 P) (lf (o_109 P)) .nil) (.node (o_90 P) (lf (o_128 P)) .nil)) (.node (o_60 P) (.node (o_79 P) (lf (o_120 P)) .nil) (lf (o_98 P)))) (.node (o_117 P) (.node (o_56 P) (.node (o_75 P) (lf (o_113 P)) .nil) (lf (o_94 P))) (.node (o_64 P) (.node (o_83 P) (lf (o_124 P)) .nil) (lf (o_105 P))))) (.node (PySem.W.boot_o_6 P) (.node (PySem.W.boot_o_10 P) (.node (o_54 P) (.node (o_70 P) (lf (o_111 P)) .nil) (.node (o_92 P) (lf (o_130 P)) .nil)) (.node (o_62 P) (.node (o_81 P) (lf (o_122 P)) .nil) (lf (o_100 P)))) (.node (o_46 P) (.node (o_58 P) (.node (o_77 P) (lf (o_115 P)) .nil) (lf (o_96 P))) (.node (o_66 P) (.node (o_85 P) (lf (o_126 P)) .nil) (lf (o_107 P)))))))
theorem PySem.W.Fast.te5223945988178855819 : PySem.W.Fast.tw5223945988178855819 = PySem.W.Fast.tw5223945988178855819 := rfl
noncomputable def PySem.W.Fast.tw10650983194399818319 : Params → BT := fun P => (.node (PySem.W.boot_o_0 P) (.node (PySem.W.boot_o_1 P) (.node (o_248 P) (.node (PySem.W.boot_o_7 P) (.node (o_51 P) (.node (o_178 P) (.node (o_108 P) (lf (o_187 P)) (lf (o_255 P))) (.node (o_149 P) (lf (o_219 P)) (lf (o_287 P)))) (.node (o_89 P) (.node (o_127 P) (lf (o_203 P)) (lf (o_271 P))) (.node (o_168 P) (lf (o_237 P)) .nil))) (.node (o_59 P) (.node (o_78 P) (.node (o_119 P) (lf (o_195 P)) (lf (o_263 P))) (.node (o_157 P) (lf (o_229 P)) (lf (o_295 P)))) (.node (o_97 P) (.node (o_138 P) (lf (o_211 P)) (lf (o_279 P))) (.node (o_179 P) (lf (o_245 P)) .nil)))) (.node (o_43 P) (.node (o_55 P) (.node (o_74 P) (.node (o_112 P) (lf (o_191 P)) (lf (o_259 P))) (.node (o_153 P) (lf (o_225 P)) (lf (o_291 P)))) (.node (o_93 P) (.node (o_134 P) (lf (o_207 P)) (lf (o_275 P))) (.node (o_172 P) (lf (o_241 P)) .nil))) (.node (o_63 P) (.node (o_82 P) (.node (o_123 P) (lf (o_199 P)) (lf (o_267 P))) (.node (o_164 P) (lf (o_233 P)) .nil)) (.node (o_104 P) (.node (o_142 P) (lf (o_215 P)) (lf (o_283 P))) (.node (o_183 P) (lf (o_251 P)) .nil))))) (.node (PySem.W.boot_o_5 P) (.node (PySem.W.boot_o_9 P) (.node (o_53 P) (.node (o_69 P) (.node (o_110 P) (lf (o_189 P)) (lf (o_257 P))) (.node (o_151 P) (lf (o_221 P)) (lf (o_289 P)))) (.node (o_91 P) (.node (o_129 P) (lf (o_205 P)) (lf (o_273 P))) (.node (o_170 P) (lf (o_239 P)) .nil))) (.node (o_61 P) (.node (o_80 P) (.node (o_121 P) (lf (o_197 P)) (lf (o_265 P))) (.node (o_159 P) (lf (o_231 P)) (lf (o_297 P)))) (.node (o_99 P) (.node (o_140 P) (lf (o_213 P)) (lf (o_281 P))) (.node (o_181 P) (lf (o_247 P)) .nil)))) (.node (o_45 P) (.node (o_57 P) (.node (o_76 P) (.node (o_114 P) (lf (o_193 P)) (lf (o_261 P))) (.node (o_155 P) (lf (o_227 P)) (lf (o_293 P)))) (.node (o_95 P) (.node (o_136 P) (lf (o_209 P)) (lf (o_277 P))) (.node (o_174 P) (lf (o_243 P)) .nil))) (.node (o_65 P) (.node (o_84 P) (.node (o_125 P) (lf (o_201 P)) (lf (o_269 P))) (.node (o_166 P) (lf (o_235 P)) .nil)) (.node (o_106 P) (.node (o_144 P) (lf (o_217 P)) (lf (o_285 P))) (.node (o_185 P) (lf (o_253 P)) .nil)))))) (.node (PySem.W.boot_o_2 P) (.node (PySem.W.boot_o_4 P) (.node (PySem.W.boot_o_8 P) (.node (o_52 P) (.node (o_68 P) (.node (o_109 P) (lf (o_188 P)) (lf (o_256 P))) (.node (o_150 P) (lf (o_220 P)) (lf (o_288 P)))) (.node (o_90 P) (.node (o_128 P) (lf (o_204 P)) (lf (o_272 P))) (.node (o_169 P) (lf (o_238 P)) .nil))) (.node (o_60 P) (.node (o_79 P) (.node (o_120 P) (lf (o_196 P)) (lf (o_264 P))) (.node (o_158 P) (lf (o_230 P)) (lf (o_296 P)))) (.node (o_98 P) (.node (o_139 P) (lf (o_212 P)) (lf (o_280 P))) (.node (o_180 P) (lf (o_246 P)) .nil)))) (.node (o_249 P) (.node (o_56 P) (.node (o_75 P) (.node (o_113 P) (lf (o_192 P)) (lf (o_260 P))) (.node (o_154 P) (lf (o_226 P)) (lf (o_292 P)))) (.node (o_94 P) (.node (o_135 P) (lf (o_208 P)) (lf (o_276 P))) (.node (o_173 P) (lf (o_242 P)) .nil))) (.node (o_64 P) (.node (o_83 P) (.node (o_124 P) (lf (o_200 P)) (lf (o_268 P))) (.node (o_165 P) (lf (o_234 P)) .nil)) (.node (o_105 P) (.node (o_143 P) (lf (o_216 P)) (lf (o_284 P))) (.node (o_184 P) (lf (o_252 P)) .nil))))) (.node (PySem.W.boot_o_6 P) (.node (PySem.W.boot_o_10 P) (.node (o_54 P) (.node (o_70 P) (.node (o_111 P) (lf (o_190 P)) (lf (o_258 P))) (.node (o_152 P) (lf (o_224 P)) (lf (o_290 P)))) (.node (o_92 P) (.node (o_130 P) (lf (o_206 P)) (lf (o_274 P))) (.node (o_171 P) (lf (o_240 P)) .nil))) (.node (o_62 P) (.node (o_81 P) (.node (o_122 P) (lf (o_198 P)) (lf (o_266 P))) (.node (o_160 P) (lf (o_232 P)) (lf (o_298 P)))) (.node (o_100 P) (.node (o_141 P) (lf (o_214 P)) (lf (o_282 P))) (.node (o_182 P) (lf (o_250 P)) .nil)))) (.node (o_46 P) (.node (o_58 P) (.node (o_77 P) (.node (o_115 P) (lf (o_194 P)) (lf (o_262 P))) (.node (o_156 P) (lf (o_228 P)) (lf (o_294 P)))) (.node (o_96 P) (.node (o_137 P) (lf (o_210 P)) (lf (o_278 P))) (.node (o_175 P) (lf (o_244 P)) .nil))) (.node (o_66 P) (.node (o_85 P) (.node (o_126 P) (lf (o_202 P)) (lf (o_270 P))) (.node (o_167 P) (lf (o_236 P)) .nil)) (.node (o_107 P) (.node (o_145 P) (lf (o_218 P)) (lf (o_286 P))) (.node (o_186 P) (lf (o_254 P)) .nil)))))))
theorem PySem.W.Fast.te10650983194399818319 : PySem.W.Fast.tw10650983194399818319 = PySem.W.Fast.tw10650983194399818319 := rfl
noncomputable def PySem.W.Fast.tw6876157894201183023 : Params → BT := fun P => (.node (PySem.W.boot_o_0 P) (.node (PySem.W.boot_o_1 P) (.node (o_299 P) (.node (PySem.W.boot_o_7 P) (.node (o_51 P) (.node (o_178 P) (.node (o_108 P) (.node (o_187 P) (lf (o_493 P)) .nil) (.node (o_255 P) (lf (o_557 P)) .nil)) (.node (o_149 P) (.node (o_219 P) (lf (o_525 P)) .nil) (lf (o_287 P)))) (.node (o_89 P) (.node (o_127 P) (.node (o_203 P) (lf (o_509 P)) .nil) (lf (o_271 P))) (.node (o_168 P) (.node (o_237 P) (lf (o_541 P)) .nil) (lf (o_305 P))))) (.node (o_59 P) (.node (o_78 P) (.node (o_119 P) (.node (o_195 P) (lf (o_501 P)) .nil) (lf (o_263 P))) (.node (o_157 P) (.node (o_229 P) (lf (o_533 P)) .nil) (lf (o_295 P)))) (.node (o_97 P) (.node (o_138 P) (.node (o_211 P) (lf (o_517 P)) .nil) (lf (o_279 P))) (.node (o_179 P) (.node (o_245 P) (lf (o_549 P)) .nil) (lf (o_485 P)))))) (.node (o_43 P) (.node (o_55 P) (.node (o_74 P) (.node (o_112 P) (.node (o_191 P) (lf (o_497 P)) .nil) (.node (o_259 P) (lf (o_561 P)) .nil)) (.node (o_153 P) (.node (o_225 P) (lf (o_529 P)) .nil) (lf (o_291 P)))) (.node (o_93 P) (.node (o_134 P) (.node (o_207 P) (lf (o_513 P)) .nil) (lf (o_275 P))) (.node (o_172 P) (.node (o_241 P) (lf (o_545 P)) .nil) (lf (o_481 P))))) (.node (o_63 P) (.node (o_82 P) (.node (o_123 P) (.node (o_199 P) (lf (o_505 P)) .nil) (lf (o_267 P))) (.node (o_164 P) (.node (o_233 P) (lf (o_537 P)) .nil) (lf (o_301 P)))) (.node (o_104 P) (.node (o_142 P) (.node (o_215 P) (lf (o_521 P)) .nil) (lf (o_283 P))) (.node (o_183 P) (.node (o_251 P) (lf (o_553 P)) .nil) (lf (o_489 P))))))) (.node (PySem.W.boot_o_5 P) (.node (PySem.W.boot_o_9 P) (.node (o_53 P) (.node (o_69 P) (.node (o_110 P) (.node (o_189 P) (lf (o_495 P)) .nil) (.node (o_257 P) (lf (o_559 P)) .nil)) (.node (o_151 P) (.node (o_221 P) (lf (o_527 P)) .nil) (lf (o_289 P)))) (.node (o_91 P) (.node (o_129 P) (.node (o_205 P) (lf (o_511 P)) .nil) (lf (o_273 P))) (.node (o_170 P) (.node (o_239 P) (lf (o_543 P)) .nil) (lf (o_307 P))))) (.node (o_61 P) (.node (o_80 P) (.node (o_121 P) (.node (o_197 P) (lf (o_503 P)) .nil) (lf (o_265 P))) (.node (o_159 P) (.node (o_231 P) (lf (o_535 P)) .nil) (lf (o_297 P)))) (.node (o_99 P) (.node (o_140 P) (.node (o_213 P) (lf (o_519 P)) .nil) (lf (o_281 P))) (.node (o_181 P) (.node (o_247 P) (lf (o_551 P)) .nil) (lf (o_487 P)))))) (.node (o_45 P) (.node (o_57 P) (.node (o_76 P) (.node (o_114 P) (.node (o_193 P) (lf (o_499 P)) .nil) (lf (o_261 P))) (.node (o_155 P) (.node (o_227 P) (lf (o_531 P)) .nil) (lf (o_293 P)))) (.node (o_95 P) (.node (o_136 P) (.node (o_209 P) (lf (o_515 P)) .nil) (lf (o_277 P))) (.node (o_174 P) (.node (o_243 P) (lf (o_547 P)) .nil) (lf (o_483 P))))) (.node (o_65 P) (.node (o_84 P) (.node (o_125 P) (.node (o_201 P) (lf (o_507 P)) .nil) (lf (o_269 P))) (.node (o_166 P) (.node (o_235 P) (lf (o_539 P)) .nil) (lf (o_303 P)))) (.node (o_106 P) (.node (o_144 P) (.node (o_217 P) (lf (o_523 P)) .nil) (lf (o_285 P))) (.node (o_185 P) (.node (o_253 P) (lf (o_555 P)) .nil) (lf (o_491 P)))))))) (.node (PySem.W.boot_o_2 P) (.node (PySem.W.boot_o_4 P) (.node (PySem.W.boot_o_8 P) (.node (o_52 P) (.node (o_68 P) (.node (o_109 P) (.node (o_188 P) (lf (o_494 P)) .nil) (.node (o_256 P) (lf (o_558 P)) .nil)) (.node (o_150 P) (.node (o_220 P) (lf (o_526 P)) .nil) (lf (o_288 P)))) (.node (o_90 P) (.node (o_128 P) (.node (o_204 P) (lf (o_510 P)) .nil) (lf (o_272 P))) (.node (o_169 P) (.node (o_238 P) (lf (o_542 P)) .nil) (lf (o_306 P))))) (.node (o_60 P) (.node (o_79 P) (.node (o_120 P) (.node (o_196 P) (lf (o_502 P)) .nil) (lf (o_264 P))) (.node (o_158 P) (.node (o_230 P) (lf (o_534 P)) .nil) (lf (o_296 P)))) (.node (o_98 P) (.node (o_139 P) (.node (o_212 P) (lf (o_518 P)) .nil) (lf (o_280 P))) (.node (o_180 P) (.node (o_246 P) (lf (o_550 P)) .nil) (lf (o_486 P)))))) (.node (o_479 P) (.node (o_56 P) (.node (o_75 P) (.node (o_113 P) (.node (o_192 P) (lf (o_498 P)) .nil) (lf (o_260 P))) (.node (o_154 P) (.node (o_226 P) (lf (o_530 P)) .nil) (lf (o_292 P)))) (.node (o_94 P) (.node (o_135 P) (.node (o_208 P) (lf (o_514 P)) .nil) (lf (o_276 P))) (.node (o_173 P) (.node (o_242 P) (lf (o_546 P)) .nil) (lf (o_482 P))))) (.node (o_64 P) (.node (o_83 P) (.node (o_124 P) (.node (o_200 P) (lf (o_506 P)) .nil) (lf (o_268 P))) (.node (o_165 P) (.node (o_234 P) (lf (o_538 P)) .nil) (lf (o_302 P)))) (.node (o_105 P) (.node (o_143 P) (.node (o_216 P) (lf (o_522 P)) .nil) (lf (o_284 P))) (.node (o_184 P) (.node (o_252 P) (lf (o_554 P)) .nil) (lf (o_490 P))))))) (.node (PySem.W.boot_o_6 P) (.node (PySem.W.boot_o_10 P) (.node (o_54 P) (.node (o_70 P) (.node (o_111 P) (.node (o_190 P) (lf (o_496 P)) .nil) (.node (o_258 P) (lf (o_560 P)) .nil)) (.node (o_152 P) (.node (o_224 P) (lf (o_528 P)) .nil) (lf (o_290 P)))) (.node (o_92 P) (.node (o_130 P) (.node (o_206 P) (lf (o_512 P)) .nil) (lf (o_274 P))) (.node (o_171 P) (.node (o_240 P) (lf (o_544 P)) .nil) (lf (o_480 P))))) (.node (o_62 P) (.node (o_81 P) (.node (o_122 P) (.node (o_198 P) (lf (o_504 P)) .nil) (lf (o_266 P))) (.node (o_160 P) (.node (o_232 P) (lf (o_536 P)) .nil) (lf (o_298 P)))) (.node (o_100 P) (.node (o_141 P) (.node (o_214 P) (lf (o_520 P)) .nil) (lf (o_282 P))) (.node (o_182 P) (.node (o_250 P) (lf (o_552 P)) .nil) (lf (o_488 P)))))) (.node (o_46 P) (.node (o_58 P) (.node (o_77 P) (.node (o_115 P) (.node (o_194 P) (lf (o_500 P)) .nil) (lf (o_262 P))) (.node (o_156 P) (.node (o_228 P) (lf (o_532 P)) .nil) (lf (o_294 P)))) (.node (o_96 P) (.node (o_137 P) (.node (o_210 P) (lf (o_516 P)) .nil) (lf (o_278 P))) (.node (o_175 P) (.node (o_244 P) (lf (o_548 P)) .nil) (lf (o_484 P))))) (.node (o_66 P) (.node (o_85 P) (.node (o_126 P) (.node (o_202 P) (lf (o_508 P)) .nil) (lf (o_270 P))) (.node (o_167 P) (.node (o_236 P) (lf (o_540 P)) .nil) (lf (o_304 P)))) (.node (o_107 P) (.node (o_145 P) (.node (o_218 P) (lf (o_524 P)) .nil) (lf (o_286 P))) (.node (o_186 P) (.node (o_254 P) (lf (o_556 P)) .nil) (lf (o_492 P)))))))))
theorem PySem.W.Fast.te6876157894201183023 : PySem.W.Fast.tw6876157894201183023 = PySem.W.Fast.tw6876157894201183023 := rfl
noncomputable def PySem.W.Fast.tw3690952142333492785 : Params → BT := fun P => (.node (PySem.W.boot_o_0 P) (.node (PySem.W.boot_o_1 P) (.node (PySem.W.boot_o_3 P) (lf (PySem.W.boot_o_7 P)) (lf (o_43 P))) (.node (PySem.W.boot_o_5 P) (lf (PySem.W.boot_o_9 P)) (lf (o_45 P)))) (.node (PySem.W.boot_o_2 P) (.node (PySem.W.boot_o_4 P) (lf (PySem.W.boot_o_8 P)) (lf (o_44 P))) (.node (PySem.W.boot_o_6 P) (lf (PySem.W.boot_o_10 P)) (lf (o_46 P)))))
theorem PySem.W.Fast.te3690952142333492785 : PySem.W.Fast.tw3690952142333492785 = PySem.W.Fast.tw3690952142333492785 := rfl
noncomputable def PySem.W.Fast.tw3753406717667533394 : Params → BT := fun P => (.node (PySem.W.boot_o_0 P) (.node (PySem.W.boot_o_1 P) (.node (o_71 P) (.node (PySem.W.boot_o_7 P) (.node (o_51 P) (lf (o_73 P)) .nil) (.node (o_59 P) (lf (o_78 P)) .nil)) (.node (o_43 P) (.node (o_55 P) (lf (o_74 P)) .nil) (.node (o_63 P) (lf (o_82 P)) .nil))) (.node (PySem.W.boot_o_5 P) (.node (PySem.W.boot_o_9 P) (.node (o_53 P) (lf (o_69 P)) .nil) (.node (o_61 P) (lf (o_80 P)) .nil)) (.node (o_45 P) (.node (o_57 P) (lf (o_76 P)) .nil) (.node (o_65 P) (lf (o_84 P)) .nil)))) (.node (PySem.W.boot_o_2 P) (.node (PySem.W.boot_o_4 P) (.node (PySem.W.boot_o_8 P) (.node (o_52 P) (lf (o_68 P)) .nil) (.node (o_60 P) (lf (o_79 P)) .nil)) (.node (o_72 P) (.node (o_56 P) (lf (o_75 P)) .nil) (.node (o_64 P) (lf (o_83 P)) .nil))) (.node (PySem.W.boot_o_6 P) (.node (PySem.W.boot_o_10 P) (.node (o_54 P) (lf (o_70 P)) .nil) (.node (o_62 P) (lf (o_81 P)) .nil)) (.node (o_46 P) (.node (o_58 P) (lf (o_77 P)) .nil) (.node (o_66 P) (lf (o_85 P)) .nil)))))
theorem PySem.W.Fast.te3753406717667533394 : PySem.W.Fast.tw3753406717667533394 = PySem.W.Fast.tw3753406717667533394 := rfl
noncomputable def PySem.W.Fast.tw2834533522084501813 : Params → BT := fun P => (.node (PySem.W.boot_o_0 P) (.node (PySem.W.boot_o_1 P) (.node (o_161 P) (.node (PySem.W.boot_o_7 P) (.node (o_51 P) (.node (o_163 P) (lf (o_108 P)) (lf (o_149 P))) (.node (o_89 P) (lf (o_127 P)) (lf (o_168 P)))) (.node (o_59 P) (.node (o_78 P) (lf (o_119 P)) (lf (o_157 P))) (.node (o_97 P) (lf (o_138 P)) .nil))) (.node (o_43 P) (.node (o_55 P) (.node (o_74 P) (lf (o_112 P)) (lf (o_153 P))) (.node (o_93 P) (lf (o_134 P)) (lf (o_172 P)))) (.node (o_63 P) (.node (o_82 P) (lf (o_123 P)) (lf (o_164 P))) (.node (o_104 P) (lf (o_142 P)) .nil)))) (.node (PySem.W.boot_o_5 P) (.node (PySem.W.boot_o_9 P) (.node (o_53 P) (.node (o_69 P) (lf (o_110 P)) (lf (o_151 P))) (.node (o_91 P) (lf (o_129 P)) (lf (o_170 P)))) (.node (o_61 P) (.node (o_80 P) (lf (o_121 P)) (lf (o_159 P))) (.node (o_99 P) (lf (o_140 P)) .nil))) (.node (o_45 P) (.node (o_57 P) (.node (o_76 P) (lf (o_114 P)) (lf (o_155 P))) (.node (o_95 P) (lf (o_136 P)) (lf (o_174 P)))) (.node (o_65 P) (.node (o_84 P) (lf (o_125 P)) (lf (o_166 P))) (.node (o_106 P) (lf (o_144 P)) .nil))))) (.node (PySem.W.boot_o_2 P) (.node (PySem.W.boot_o_4 P) (.node (PySem.W.boot_o_8 P) (.node (o_52 P) (.node (o_68 P) (lf (o_109 P)) (lf (o_150 P))) (.node (o_90 P) (lf (o_128 P)) (lf (o_169 P)))) (.node (o_60 P) (.node (o_79 P) (lf (o_120 P)) (lf (o_158 P))) (.node (o_98 P) (lf (o_139 P)) .nil))) (.node (o_162 P) (.node (o_56 P) (.node (o_75 P) (lf (o_113 P)) (lf (o_154 P))) (.node (o_94 P) (lf (o_135 P)) (lf (o_173 P)))) (.node (o_64 P) (.node (o_83 P) (lf (o_124 P)) (lf (o_165 P))) (.node (o_105 P) (lf (o_143 P)) .nil)))) (.node (PySem.W.boot_o_6 P) (.node (PySem.W.boot_o_10 P) (.node (o_54 P) (.node (o_70 P) (lf (o_111 P)) (lf (o_152 P))) (.node (o_92 P) (lf (o_130 P)) (lf (o_171 P)))) (.node (o_62 P) (.node (o_81 P) (lf (o_122 P)) (lf (o_160 P))) (.node (o_100 P) (lf (o_141 P)) .nil))) (.node (o_46 P) (.node (o_58 P) (.node (o_77 P) (lf (o_115 P)) (lf (o_156 P))) (.node (o_96 P) (lf (o_137 P)) (lf (o_175 P)))) (.node (o_66 P) (.node (o_85 P) (lf (o_126 P)) (lf (o_167 P))) (.node (o_107 P) (lf (o_145 P)) .nil))))))
theorem PySem.W.Fast.te2834533522084501813 : PySem.W.Fast.tw2834533522084501813 = PySem.W.Fast.tw2834533522084501813 := rfl
noncomputable def PySem.W.Fast.tw1789134646289540474 : Params → BT := fun P => (.node (PySem.W.boot_o_0 P) (.node (PySem.W.boot_o_1 P) (.node (o_101 P) (.node (PySem.W.boot_o_7 P) (.node (o_51 P) (.node (o_103 P) (lf (o_108 P)) .nil) (lf (o_89 P))) (.node (o_59 P) (lf (o_78 P)) (lf (o_97 P)))) (.node (o_43 P) (.node (o_55 P) (.node (o_74 P) (lf (o_112 P)) .nil) (lf (o_93 P))) (.node (o_63 P) (lf (o_82 P)) (lf (o_104 P))))) (.node (PySem.W.boot_o_5 P) (.node (PySem.W.boot_o_9 P) (.node (o_53 P) (.node (o_69 P) (lf (o_110 P)) .nil) (lf (o_91 P))) (.node (o_61 P) (lf (o_80 P)) (lf (o_99 P)))) (.node (o_45 P) (.node (o_57 P) (.node (o_76 P) (lf (o_114 P)) .nil) (lf (o_95 P))) (.node (o_65 P) (lf (o_84 P)) (lf (o_106 P)))))) (.node (PySem.W.boot_o_2 P) (.node (PySem.W.boot_o_4 P) (.node (PySem.W.boot_o_8 P) (.node (o_52 P) (.node (o_68 P) (lf (o_109 P)) .nil) (lf (o_90 P))) (.node (o_60 P) (lf (o_79 P)) (lf (o_98 P)))) (.node (o_102 P) (.node (o_56 P) (.node (o_75 P) (lf (o_113 P)) .nil) (lf (o_94 P))) (.node (o_64 P) (lf (o_83 P)) (lf (o_105 P))))) (.node (PySem.W.boot_o_6 P) (.node (PySem.W.boot_o_10 P) (.node (o_54 P) (.node (o_70 P) (lf (o_111 P)) .nil) (lf (o_92 P))) (.node (o_62 P) (lf (o_81 P)) (lf (o_100 P)))) (.node (o_46 P) (.node (o_58 P) (.node (o_77 P) (lf (o_115 P)) .nil) (lf (o_96 P))) (.node (o_66 P) (lf (o_85 P)) (lf (o_107 P)))))))
theorem PySem.W.Fast.te1789134646289540474 : PySem.W.Fast.tw1789134646289540474 = PySem.W.Fast.tw1789134646289540474 := rfl
noncomputable def PySem.W.Fast.tw17498266660288711580 : Params → BT := fun P => (.node (PySem.W.boot_o_0 P) (.node (PySem.W.boot_o_1 P) (.node (o_222 P) (.node (PySem.W.boot_o_7 P) (.node (o_51 P) (.node (o_178 P) (.node (o_108 P) (lf (o_187 P)) .nil) (.node (o_149 P) (lf (o_219 P)) .nil)) (.node (o_89 P) (.node (o_127 P) (lf (o_203 P)) .nil) (.node (o_168 P) (lf (o_237 P)) .nil))) (.node (o_59 P) (.node (o_78 P) (.node (o_119 P) (lf (o_195 P)) .nil) (.node (o_157 P) (lf (o_229 P)) .nil)) (.node (o_97 P) (.node (o_138 P) (lf (o_211 P)) .nil) (.node (o_179 P) (lf (o_245 P)) .nil)))) (.node (o_43 P) (.node (o_55 P) (.node (o_74 P) (.node (o_112 P) (lf (o_191 P)) .nil) (.node (o_153 P) (lf (o_225 P)) .nil)) (.node (o_93 P) (.node (o_134 P) (lf (o_207 P)) .nil) (.node (o_172 P) (lf (o_241 P)) .nil))) (.node (o_63 P) (.node (o_82 P) (.node (o_123 P) (lf (o_199 P)) .nil) (.node (o_164 P) (lf (o_233 P)) .nil)) (.node (o_104 P) (.node (o_142 P) (lf (o_215 P)) .nil) (lf (o_183 P)))))) (.node (PySem.W.boot_o_5 P) (.node (PySem.W.boot_o_9 P) (.node (o_53 P) (.node (o_69 P) (.node (o_110 P) (lf (o_189 P)) .nil) (.node (o_151 P) (lf (o_221 P)) .nil)) (.node (o_91 P) (.node (o_129 P) (lf (o_205 P)) .nil) (.node (o_170 P) (lf (o_239 P)) .nil))) (.node (o_61 P) (.node (o_80 P) (.node (o_121 P) (lf (o_197 P)) .nil) (.node (o_159 P) (lf (o_231 P)) .nil)) (.node (o_99 P) (.node (o_140 P) (lf (o_213 P)) .nil) (.node (o_181 P) (lf (o_247 P)) .nil)))) (.node (o_45 P) (.node (o_57 P) (.node (o_76 P) (.node (o_114 P) (lf (o_193 P)) .nil) (.node (o_155 P) (lf (o_227 P)) .nil)) (.node (o_95 P) (.node (o_136 P) (lf (o_209 P)) .nil) (.node (o_174 P) (lf (o_243 P)) .nil))) (.node (o_65 P) (.node (o_84 P) (.node (o_125 P) (lf (o_201 P)) .nil) (.node (o_166 P) (lf (o_235 P)) .nil)) (.node (o_106 P) (.node (o_144 P) (lf (o_217 P)) .nil) (lf (o_185 P))))))) (.node (PySem.W.boot_o_2 P) (.node (PySem.W.boot_o_4 P) (.node (PySem.W.boot_o_8 P) (.node (o_52 P) (.node (o_68 P) (.node (o_109 P) (lf (o_188 P)) .nil) (.node (o_150 P) (lf (o_220 P)) .nil)) (.node (o_90 P) (.node (o_128 P) (lf (o_204 P)) .nil) (.node (o_169 P) (lf (o_238 P)) .nil))) (.node (o_60 P) (.node (o_79 P) (.node (o_120 P) (lf (o_196 P)) .nil) (.node (o_158 P) (lf (o_230 P)) .nil)) (.node (o_98 P) (.node (o_139 P) (lf (o_212 P)) .nil) (.node (o_180 P) (lf (o_246 P)) .nil)))) (.node (o_223 P) (.node (o_56 P) (.node (o_75 P) (.node (o_113 P) (lf (o_192 P)) .nil) (.node (o_154 P) (lf (o_226 P)) .nil)) (.node (o_94 P) (.node (o_135 P) (lf (o_208 P)) .nil) (.node (o_173 P) (lf (o_242 P)) .nil))) (.node (o_64 P) (.node (o_83 P) (.node (o_124 P) (lf (o_200 P)) .nil) (.node (o_165 P) (lf (o_234 P)) .nil)) (.node (o_105 P) (.node (o_143 P) (lf (o_216 P)) .nil) (lf (o_184 P)))))) (.node (PySem.W.boot_o_6 P) (.node (PySem.W.boot_o_10 P) (.node (o_54 P) (.node (o_70 P) (.node (o_111 P) (lf (o_190 P)) .nil) (.node (o_152 P) (lf (o_224 P)) .nil)) (.node (o_92 P) (.node (o_130 P) (lf (o_206 P)) .nil) (.node (o_171 P) (lf (o_240 P)) .nil))) (.node (o_62 P) (.node (o_81 P) (.node (o_122 P) (lf (o_198 P)) .nil) (.node (o_160 P) (lf (o_232 P)) .nil)) (.node (o_100 P) (.node (o_141 P) (lf (o_214 P)) .nil) (lf (o_182 P))))) (.node (o_46 P) (.node (o_58 P) (.node (o_77 P) (.node (o_115 P) (lf (o_194 P)) .nil) (.node (o_156 P) (lf (o_228 P)) .nil)) (.node (o_96 P) (.node (o_137 P) (lf (o_210 P)) .nil) (.node (o_175 P) (lf (o_244 P)) .nil))) (.node (o_66 P) (.node (o_85 P) (.node (o_126 P) (lf (o_202 P)) .nil) (.node (o_167 P) (lf (o_236 P)) .nil)) (.node (o_107 P) (.node (o_145 P) (lf (o_218 P)) .nil) (lf (o_186 P))))))))
theorem PySem.W.Fast.te17498266660288711580 : PySem.W.Fast.tw17498266660288711580 = PySem.W.Fast.tw17498266660288711580 := rfl
noncomputable def PySem.W.Fast.tw18283543144333476835 : Params → Heap := fun P => Heap.mk #[PySem.W.boot_o_0 P,PySem.W.boot_o_1 P,PySem.W.boot_o_2 P,PySem.W.boot_o_3 P,PySem.W.boot_o_4 P,PySem.W.boot_o_5 P,PySem.W.boot_o_6 P,PySem.W.boot_o_7 P,PySem.W.boot_o_8 P,PySem.W.boot_o_9 P,PySem.W.boot_o_10 P,o_43 P,o_44 P,o_45 P,o_46 P] (Life.mk [] [] [] 0 [] [] false #[] [] 0 false false false 0 [2000,10,10] false 0 true [] [] 0 false)
theorem PySem.W.Fast.te18283543144333476835 : PySem.W.Fast.tw18283543144333476835 = PySem.W.Fast.tw18283543144333476835 := rfl
noncomputable def PySem.W.Fast.tw8286599720005533817 : Params → Heap := fun P => Heap.mk #[PySem.W.boot_o_0 P,PySem.W.boot_o_1 P,PySem.W.boot_o_2 P,o_565 P,PySem.W.boot_o_4 P,PySem.W.boot_o_5 P,PySem.W.boot_o_6 P,PySem.W.boot_o_7 P,PySem.W.boot_o_8 P,PySem.W.boot_o_9 P,PySem.W.boot_o_10 P,o_43 P,o_566 P,o_45 P,o_46 P,o_51 P,o_52 P,o_53 P,o_54 P,o_55 P,o_56 P,o_57 P,o_58 P,o_59 P,o_60 P,o_61 P,o_62 P,o_63 P,o_64 P,o_65 P,o_66 P,o_178 P,o_68 P,o_69 P,o_70 P,o_74 P,o_75 P,o_76 P,o_77 P,o_78 P,o_79 P,o_80 P,o_81 P,o_82 P,o_83 P,o_84 P,o_85 P,o_89 P,o_90 P,o_91 P,o_92 P,o_93 P,o_94 P,o_95 P,o_96 P,o_97 P,o_98 P,o_99 P,o_100 P,o_104 P,o_105 P,o_106 P,o_107 P,o_108 P,o_109 P,o_110 P,o_111 P,o_112 P,o_113 P,o_114 P,o_115 P,o_119 P,o_120 P,o_121 P,o_122 P,o_123 P,o_124 P,o_125 P,o_126 P,o_127 P,o_128 P,o_129 P,o_130 P,o_134 P,o_135 P,o_136 P,o_137 P,o_138 P,o_139 P,o_140 P,o_141 P,o_142 P,o_143 P,o_144 P,o_145 P,o_149 P,o_150 P,o_151 P,o_152 P,o_153 P,o_154 P,o_155 P,o_156 P,o_157 P,o_158 P,o_159 P,o_160 P,o_164 P,o_165 P,o_166 P,o_167 P,o_168 P,o_169 P,o_170 P,o_171 P,o_172 P,o_173 P,o_174 P,o_175 P,o_179 P,o_180 P,o_181 P,o_182 P,o_183 P,o_184 P,o_185 P,o_186 P,o_187 P,o_188 P,o_189 P,o_190 P,o_191 P,o_192 P,o_193 P,o_194 P,o_195 P,o_196 P,o_197 P,o_198 P,o_199 P,o_200 P,o_201 P,o_202 P,o_203 P,o_204 P,o_205 P,o_206 P,o_207 P,o_208 P,o_209 P,o_210 P,o_211 P,o_212 P,o_213 P,o_214 P,o_215 P,o_216 P,o_217 P,o_218 P,o_219 P,o_220 P,o_221 P,o_224 P,o_225 P,o_226 P,o_227 P,o_228 P,o_229 P,o_230 P,o_231 P,o_232 P,o_233 P,o_234 P,o_235 P,o_236 P,o_237 P,o_238 P,o_239 P,o_240 P,o_241 P,o_242 P,o_243 P,o_244 P,o_245 P,o_246 P,o_247 P,o_250 P,o_251 P,o_252 P,o_253 P,o_254 P,o_255 P,o_256 P,o_257 P,o_258 P,o_259 P,o_260 P,o_261 P,o_262 P,o_263 P,o_264 P,o_265 P,o_266 P,o_267 P,o_268 P,o_269 P,o_270 P,o_271 P,o_272 P,o_273 P,o_274 P,o_275 P,o_276 P,o_277 P,o_278 P,o_279 P,o_280 P,o_281 P,o_282 P,o_283 P,o_284 P,o_285 P,o_286 P,o_287 P,o_288 P,o_289 P,o_290 P,o_291 P,o_292 P,o_293 P,o_294 P,o_295 P,o_296 P,o_297 P,o_298 P,o_301 P,o_302 P,o_303 P,o_304 P,o_305 P,o_306 P,o_307 P,o_310 P,o_311 P,o_312 P,o_313 P,o_314 P,o_315 P,o_316 P,o_317 P,o_318 P,o_319 P,o_320 P,o_321 P,o_322 P,o_323 P,o_324 P,o_325 P,o_326 P,o_327 P,o_328 P,o_329 P,o_330 P,o_331 P,o_332 P,o_333 P,o_334 P,o_335 P,o_336 P,o_337 P,o_338 P,o_339 P,o_340 P,o_341 P,o_342 P,o_343 P,o_344 P,o_345 P,o_346 P,o_347 P,o_348 P,o_349 P,o_350 P,o_351 P,o_352 P,o_353 P,o_354 P,o_355 P,o_356 P,o_357 P,o_358 P,o_359 P,o_360 P,o_361 P,o_362 P,o_363 P,o_364 P,o_365 P,o_366 P,o_367 P,o_368 P,o_369 P,o_370 P,o_371 P,o_372 P,o_373 P,o_374 P,o_375 P,o_376 P,o_377 P,o_378 P,o_379 P,o_380 P,o_381 P,o_382 P,o_383 P,o_384 P,o_385 P,o_386 P,o_387 P,o_388 P,o_389 P,o_390 P,o_391 P,o_392 P,o_393 P,o_394 P,o_395 P,o_396 P,o_397 P,o_398 P,o_399 P,o_400 P,o_401 P,o_402 P,o_403 P,o_404 P,o_405 P,o_406 P,o_407 P,o_408 P,o_409 P,o_410 P,o_411 P,o_412 P,o_413 P,o_414 P,o_415 P,o_416 P,o_417 P,o_418 P,o_419 P,o_420 P,o_421 P,o_422 P,o_423 P,o_424 P,o_425 P,o_426 P,o_427 P,o_428 P,o_429 P,o_430 P,o_431 P,o_432 P,o_433 P,o_434 P,o_435 P,o_436 P,o_437 P,o_438 P,o_439 P,o_440 P,o_441 P,o_442 P,o_443 P,o_444 P,o_445 P,o_446 P,o_447 P,o_448 P,o_449 P,o_450 P,o_451 P,o_452 P,o_453 P,o_454 P,o_455 P,o_456 P,o_457 P,o_458 P,o_459 P,o_460 P,o_461 P,o_462 P,o_463 P,o_464 P,o_465 P,o_466 P,o_467 P,o_468 P,o_469 P,o_470 P,o_471 P,o_472 P,o_473 P,o_474 P,o_475 P,o_476 P,o_477 P,o_478 P,o_567 P,o_568 P,o_569 P,o_570 P,o_571 P,o_572 P,o_573 P,o_574 P,o_575 P,o_576 P,o_577 P,o_578 P,o_579 P,o_580 P,o_581 P,o_582 P,o_583 P,o_584 P,o_585 P,o_586 P,o_587 P,o_588 P,o_589 P,o_590 P,o_591 P,o_592 P,o_593 P,o_594 P,o_595 P,o_596 P,o_597 P,o_598 P,o_599 P,o_600 P,o_601 P,o_602 P,o_603 P,o_604 P,o_605 P,o_606 P,o_607 P,o_608 P,o_609 P,o_610 P,o_611 P,o_612 P,o_613 P,o_614 P,o_615 P,o_616 P,o_617 P,o_618 P,o_619 P,o_620 P] (Life.mk [] [] [] 0 [] [] false #[] [] 0 false false false 0 [2000,10,10] false 0 true [] [] 0 false)
theorem PySem.W.Fast.te8286599720005533817 : PySem.W.Fast.tw8286599720005533817 = PySem.W.Fast.tw8286599720005533817 := rfl
noncomputable def PySem.W.Fast.tw16521778920867541627 : Params → Frag := fun P => [(2,PySem.W.boot_o_2 P),(3,o_565 P),(15,o_51 P),(17,o_53 P),(18,o_54 P),(20,o_56 P),(21,o_57 P),(22,o_58 P),(29,o_65 P),(30,o_66 P),(31,o_178 P),(32,o_68 P),(35,o_74 P),(42,o_81 P),(43,o_82 P),(44,o_83 P),(47,o_89 P),(54,o_96 P),(55,o_97 P),(56,o_98 P),(59,o_104 P),(66,o_111 P),(67,o_112 P),(68,o_113 P),(71,o_119 P),(78,o_126 P),(79,o_127 P),(80,o_128 P),(83,o_134 P),(90,o_141 P),(91,o_142 P),(92,o_143 P),(95,o_149 P),(102,o_156 P),(103,o_157 P),(104,o_158 P),(107,o_164 P),(114,o_171 P),(115,o_172 P),(116,o_173 P),(119,o_179 P),(126,o_186 P),(127,o_187 P),(128,o_188 P),(131,o_191 P),(133,o_193 P),(134,o_194 P),(136,o_196 P),(137,o_197 P),(138,o_198 P),(140,o_200 P),(141,o_201 P),(143,o_203 P),(144,o_204 P),(145,o_205 P),(148,o_208 P),(149,o_209 P),(150,o_210 P),(153,o_213 P),(154,o_214 P),(155,o_215 P),(157,o_217 P),(158,o_218 P),(160,o_220 P),(161,o_221 P),(162,o_224 P),(164,o_226 P),(165,o_227 P),(167,o_229 P),(168,o_230 P),(169,o_231 P),(172,o_234 P),(173,o_235 P),(174,o_236 P),(176,o_238 P),(177,o_239 P),(179,o_241 P),(180,o_242 P),(181,o_243 P),(184,o_246 P),(185,o_247 P),(193,o_257 P),(195,o_259 P),(196,o_260 P),(198,o_262 P),(199,o_263 P),(200,o_264 P),(202,o_266 P),(203,o_267 P),(205,o_269 P),(206,o_270 P),(207,o_271 P),(209,o_273 P),(210,o_274 P),(212,o_276 P),(213,o_277 P),(214,o_278 P),(216,o_280 P),(217,o_281 P),(219,o_283 P),(220,o_284 P),(221,o_285 P),(223,o_287 P),(224,o_288 P),(226,o_290 P),(227,o_291 P),(228,o_292 P),(229,o_293 P),(230,o_294 P),(231,o_295 P),(232,o_296 P),(235,o_301 P),(237,o_303 P),(238,o_304 P),(240,o_306 P),(241,o_307 P),(249,o_317 P),(251,o_319 P),(252,o_320 P),(254,o_322 P),(255,o_323 P),(256,o_324 P),(258,o_326 P),(259,o_327 P),(261,o_329 P),(262,o_330 P),(263,o_331 P),(265,o_333 P),(266,o_334 P),(268,o_336 P),(269,o_337 P),(270,o_338 P),(272,o_340 P),(273,o_341 P),(275,o_343 P),(276,o_344 P),(277,o_345 P),(280,o_348 P),(281,o_349 P),(282,o_350 P),(284,o_352 P),(285,o_353 P),(287,o_355 P),(288,o_356 P),(289,o_357 P),(291,o_359 P),(292,o_360 P),(294,o_362 P),(295,o_363 P),(296,o_364 P),(298,o_366 P),(299,o_367 P),(301,o_369 P),(302,o_370 P),(303,o_371 P),(305,o_373 P),(306,o_374 P),(308,o_376 P),(309,o_377 P),(310,o_378 P),(312,o_380 P),(313,o_381 P),(315,o_383 P),(316,o_384 P),(317,o_385 P),(319,o_387 P),(320,o_388 P),(322,o_390 P),(323,o_391 P),(324,o_392 P),(326,o_394 P),(327,o_395 P),(329,o_397 P),(330,o_398 P),(331,o_399 P),(333,o_401 P),(334,o_402 P),(336,o_404 P),(337,o_405 P),(338,o_406 P),(341,o_409 P),(342,o_410 P),(343,o_411 P),(345,o_413 P),(346,o_414 P),(348,o_416 P),(349,o_417 P),(350,o_418 P),(352,o_420 P),(353,o_421 P),(355,o_423 P),(356,o_424 P),(357,o_425 P),(360,o_428 P),(361,o_429 P),(362,o_430 P),(364,o_432 P),(365,o_433 P),(367,o_435 P),(368,o_436 P),(369,o_437 P),(371,o_439 P),(372,o_440 P),(374,o_442 P),(375,o_443 P),(376,o_444 P),(378,o_446 P),(379,o_447 P),(381,o_449 P),(382,o_450 P),(383,o_451 P),(385,o_453 P),(386,o_454 P),(388,o_456 P),(389,o_457 P),(390,o_458 P),(392,o_460 P),(393,o_461 P),(395,o_463 P),(396,o_464 P),(397,o_465 P),(399,o_467 P),(400,o_468 P),(402,o_470 P),(403,o_471 P),(404,o_472 P),(405,o_473 P),(406,o_474 P),(407,o_475 P),(408,o_476 P),(411,o_567 P),(413,o_569 P),(414,o_570 P),(416,o_572 P),(417,o_573 P),(418,o_574 P),(420,o_576 P),(421,o_577 P),(423,o_579 P),(424,o_580 P),(425,o_581 P),(427,o_583 P),(428,o_584 P),(430,o_586 P),(431,o_587 P),(432,o_588 P),(434,o_590 P),(435,o_591 P),(437,o_593 P),(438,o_594 P),(439,o_595 P),(442,o_598 P),(443,o_599 P),(444,o_600 P),(446,o_602 P),(447,o_603 P),(449,o_605 P),(450,o_606 P),(451,o_607 P),(453,o_609 P),(454,o_610 P),(456,o_612 P),(457,o_613 P),(458,o_614 P),(460,o_616 P),(461,o_617 P),(463,o_619 P),(464,o_620 P)]
theorem PySem.W.Fast.te16521778920867541627 : PySem.W.Fast.tw16521778920867541627 = PySem.W.Fast.tw16521778920867541627 := rfl
noncomputable def PySem.W.Fast.tw5702665856396953188 : List Stmt := [top 26]
theorem PySem.W.Fast.te5702665856396953188 : PySem.W.Fast.tw5702665856396953188 = PySem.W.Fast.tw5702665856396953188 := rfl
noncomputable def PySem.W.Fast.tw5599259181912516038 : List Stmt := [top 9]
theorem PySem.W.Fast.te5599259181912516038 : PySem.W.Fast.tw5599259181912516038 = PySem.W.Fast.tw5599259181912516038 := rfl
noncomputable def PySem.W.Fast.tw17601248101214957771 : List Stmt := [top 7]
theorem PySem.W.Fast.te17601248101214957771 : PySem.W.Fast.tw17601248101214957771 = PySem.W.Fast.tw17601248101214957771 := rfl
noncomputable def PySem.W.Fast.tw10491683039765915438 : List Stmt := [top 5]
theorem PySem.W.Fast.te10491683039765915438 : PySem.W.Fast.tw10491683039765915438 = PySem.W.Fast.tw10491683039765915438 := rfl
noncomputable def PySem.W.Fast.tw5827013721218150639 : List Stmt := [top 8]
theorem PySem.W.Fast.te5827013721218150639 : PySem.W.Fast.tw5827013721218150639 = PySem.W.Fast.tw5827013721218150639 := rfl
noncomputable def PySem.W.Fast.tw14713475445877079120 : List Stmt := [top 21,top 22,top 23,top 24]
theorem PySem.W.Fast.te14713475445877079120 : PySem.W.Fast.tw14713475445877079120 = PySem.W.Fast.tw14713475445877079120 := rfl
noncomputable def PySem.W.Fast.tw472702856234156464 : List Stmt := [top 6]
theorem PySem.W.Fast.te472702856234156464 : PySem.W.Fast.tw472702856234156464 = PySem.W.Fast.tw472702856234156464 := rfl
noncomputable def PySem.W.Fast.tw7660363931109335442 : List Stmt := [top 0,top 1,top 2]
theorem PySem.W.Fast.te7660363931109335442 : PySem.W.Fast.tw7660363931109335442 = PySem.W.Fast.tw7660363931109335442 := rfl
noncomputable def PySem.W.Fast.tw15523707079156893234 : List Stmt := [top 25]
theorem PySem.W.Fast.te15523707079156893234 : PySem.W.Fast.tw15523707079156893234 = PySem.W.Fast.tw15523707079156893234 := rfl
noncomputable def PySem.W.Fast.tw2950608150668860247 : List Stmt := [top 4]
theorem PySem.W.Fast.te2950608150668860247 : PySem.W.Fast.tw2950608150668860247 = PySem.W.Fast.tw2950608150668860247 := rfl
noncomputable def PySem.W.Fast.tw1600840261095780824 : List Stmt := [top 10,top 11,top 12,top 13,top 14,top 15,top 16]
theorem PySem.W.Fast.te1600840261095780824 : PySem.W.Fast.tw1600840261095780824 = PySem.W.Fast.tw1600840261095780824 := rfl
noncomputable def PySem.W.Fast.tw17687152795958882106 : List Stmt := [top 3]
theorem PySem.W.Fast.te17687152795958882106 : PySem.W.Fast.tw17687152795958882106 = PySem.W.Fast.tw17687152795958882106 := rfl
noncomputable def PySem.W.Fast.tw9870879277853697821 : List Stmt := [top 17,top 18,top 19,top 20]
theorem PySem.W.Fast.te9870879277853697821 : PySem.W.Fast.tw9870879277853697821 = PySem.W.Fast.tw9870879277853697821 := rfl
noncomputable def PySem.W.Fast.tw6208483314079656766 : List Stmt := [top 27,top 28,top 29,top 30,top 31,top 32,top 33,top 34,top 35]
theorem PySem.W.Fast.te6208483314079656766 : PySem.W.Fast.tw6208483314079656766 = PySem.W.Fast.tw6208483314079656766 := rfl
noncomputable def PySem.W.Fast.tw7818735378567373270 : Program := { PySem.Challenge.pw_patchkin_k02_stores_begun with main := { PySem.Challenge.pw_patchkin_k02_stores_begun.main with body := [top 0,top 2,top 3,top 4,top 5,top 6,top 7,top 8,top 9,top 10,top 12,top 13,top 14,top 15,top 16,top 17,top 18,top 19,top 20,top 21,top 23,top 24,top 25,top 26,top 28,top 29,top 30,top 31,top 32,top 33,top 34,top 35] } }
theorem PySem.W.Fast.te7818735378567373270 : PySem.W.Fast.tw7818735378567373270 = PySem.W.Fast.tw7818735378567373270 := rfl
end

set_option Elab.async false
set_option linter.all false
set_option maxRecDepth 100000
namespace PK
open PySem L2
theorem all_mk {l : PySem.W.OpenLaw} {w : World} {K : PySem.W.Frag} {h : Heap} {mg : Str → Option Value} {fa f0 f1 f2 f3 f4 f5 f6 f7 f8 f9 f10 f11 f12 f13 f14 f15 f16 f17 f18 f19 f20 f21 f22 f23 f24 f25 f26 f27 f28 C_Sight C_Desk X_PatchError X_BadName X_NameTaken X_NoStore X_NoPatch X_NoLine X_Unsettled X_Same X_Leant : Addr} (X : K.In h) (G : h.Ns mainGlobals mg) (hfa : mg "law" = some (.ref fa))
    {od0 an0 od1 an1 od2 an2 od3 an3 od4 an4 od5 an5 od6 an6 od7 an7 od8 an8 od9 an9 od10 an10 od11 an11 od12 an12 od13 an13 od14 an14 od15 an15 od16 an16 od17 an17 od18 an18 od19 an19 od20 an20 od21 an21 od22 an22 od23 an23 od24 an24 od25 an25 od26 an26 od27 an27 od28 an28 : Option Addr} {sl0 sl1 sl2 sl3 sl4 sl5 sl6 sl7 sl8 sl9 sl10 sl11 sl12 sl13 sl14 sl15 sl16 sl17 sl18 sl19 sl20 sl21 sl22 sl23 sl24 sl25 sl26 sl27 sl28 : Array (Option Value)}
    {oc0 kV0 dc0 pm0 cd0 ct0 oc1 kV1 dc1 pm1 cd1 ct1 oc2 kV2 dc2 pm2 cd2 ct2 oc3 kV3 dc3 pm3 cd3 ct3 oc4 kV4 dc4 pm4 cd4 ct4 oc5 kV5 dc5 pm5 cd5 ct5 oc6 kV6 dc6 pm6 cd6 ct6 oc7 kV7 dc7 pm7 cd7 ct7 oc8 kV8 dc8 pm8 cd8 ct8 oc9 kV9 dc9 pm9 cd9 ct9 oc10 kV10 dc10 pm10 cd10 ct10 oc11 kV11 dc11 pm11 cd11 ct11 oc12 kV12 dc12 pm12 cd12 ct12 oc13 kV13 dc13 pm13 cd13 ct13 oc14 kV14 dc14 pm14 cd14 ct14 oc15 kV15 dc15 pm15 cd15 ct15 oc16 kV16 dc16 pm16 cd16 ct16 oc17 kV17 dc17 pm17 cd17 ct17 oc18 kV18 dc18 pm18 cd18 ct18 oc19 kV19 dc19 pm19 cd19 ct19 oc20 kV20 dc20 pm20 cd20 ct20 oc21 kV21 dc21 pm21 cd21 ct21 oc22 kV22 dc22 pm22 cd22 ct22 oc23 kV23 dc23 pm23 cd23 ct23 oc24 kV24 dc24 pm24 cd24 ct24 oc25 kV25 dc25 pm25 cd25 ct25 oc26 kV26 dc26 pm26 cd26 ct26 oc27 kV27 dc27 pm27 cd27 ct27 oc28 kV28 dc28 pm28 cd28 ct28 : Value} {u_NAME_SIGNS u_LONGEST_NAME : Tok}
    (aC_Sight : PySem.W.nsIn K mainGlobals "Sight" = some (some (.ref C_Sight)))
    (aC_Desk : PySem.W.nsIn K mainGlobals "Desk" = some (some (.ref C_Desk)))
    (a0 : PySem.W.nsIn K mainGlobals "live_patches" = some (some (.ref f0)))
    (l0 : K.lookup f0 = some ⟨oc0, od0, .func (PySem.W.fnOf "live_patches" "live_patches" (defArgs s_live_patches) (defBody s_live_patches) (defScope s_live_patches) .none kV0 dc0 pm0 an0 cd0 ct0), sl0⟩)
    (c0 : PySem.W.codeIn K cd0 "live_patches" = true)
    (k0 : PySem.W.keepIn K (.ref f0) = true)
    (a1 : PySem.W.nsIn K mainGlobals "lines_put" = some (some (.ref f1)))
    (l1 : K.lookup f1 = some ⟨oc1, od1, .func (PySem.W.fnOf "lines_put" "lines_put" (defArgs s_lines_put) (defBody s_lines_put) (defScope s_lines_put) .none kV1 dc1 pm1 an1 cd1 ct1), sl1⟩)
    (c1 : PySem.W.codeIn K cd1 "lines_put" = true)
    (k1 : PySem.W.keepIn K (.ref f1) = true)
    (a2 : PySem.W.nsIn K mainGlobals "standing_lines" = some (some (.ref f2)))
    (l2 : K.lookup f2 = some ⟨oc2, od2, .func (PySem.W.fnOf "standing_lines" "standing_lines" (defArgs s_standing_lines) (defBody s_standing_lines) (defScope s_standing_lines) .none kV2 dc2 pm2 an2 cd2 ct2), sl2⟩)
    (c2 : PySem.W.codeIn K cd2 "standing_lines" = true)
    (k2 : PySem.W.keepIn K (.ref f2) = true)
    (a3 : PySem.W.nsIn K mainGlobals "files_with_lines" = some (some (.ref f3)))
    (l3 : K.lookup f3 = some ⟨oc3, od3, .func (PySem.W.fnOf "files_with_lines" "files_with_lines" (defArgs s_files_with_lines) (defBody s_files_with_lines) (defScope s_files_with_lines) .none kV3 dc3 pm3 an3 cd3 ct3), sl3⟩)
    (c3 : PySem.W.codeIn K cd3 "files_with_lines" = true)
    (k3 : PySem.W.keepIn K (.ref f3) = true)
    (a4 : PySem.W.nsIn K mainGlobals "straight_ahead" = some (some (.ref f4)))
    (l4 : K.lookup f4 = some ⟨oc4, od4, .func (PySem.W.fnOf "straight_ahead" "straight_ahead" (defArgs s_straight_ahead) (defBody s_straight_ahead) (defScope s_straight_ahead) .none kV4 dc4 pm4 an4 cd4 ct4), sl4⟩)
    (c4 : PySem.W.codeIn K cd4 "straight_ahead" = true)
    (k4 : PySem.W.keepIn K (.ref f4) = true)
    (a5 : PySem.W.nsIn K mainGlobals "joined" = some (some (.ref f5)))
    (l5 : K.lookup f5 = some ⟨oc5, od5, .func (PySem.W.fnOf "joined" "joined" (defArgs s_joined) (defBody s_joined) (defScope s_joined) .none kV5 dc5 pm5 an5 cd5 ct5), sl5⟩)
    (c5 : PySem.W.codeIn K cd5 "joined" = true)
    (k5 : PySem.W.keepIn K (.ref f5) = true)
    (a6 : PySem.W.nsIn K mainGlobals "all_ahead" = some (some (.ref f6)))
    (l6 : K.lookup f6 = some ⟨oc6, od6, .func (PySem.W.fnOf "all_ahead" "all_ahead" (defArgs s_all_ahead) (defBody s_all_ahead) (defScope s_all_ahead) .none kV6 dc6 pm6 an6 cd6 ct6), sl6⟩)
    (c6 : PySem.W.codeIn K cd6 "all_ahead" = true)
    (k6 : PySem.W.keepIn K (.ref f6) = true)
    (a7 : PySem.W.nsIn K mainGlobals "first_free" = some (some (.ref f7)))
    (l7 : K.lookup f7 = some ⟨oc7, od7, .func (PySem.W.fnOf "first_free" "first_free" (defArgs s_first_free) (defBody s_first_free) (defScope s_first_free) .none kV7 dc7 pm7 an7 cd7 ct7), sl7⟩)
    (c7 : PySem.W.codeIn K cd7 "first_free" = true)
    (k7 : PySem.W.keepIn K (.ref f7) = true)
    (a8 : PySem.W.nsIn K mainGlobals "row_of" = some (some (.ref f8)))
    (l8 : K.lookup f8 = some ⟨oc8, od8, .func (PySem.W.fnOf "row_of" "row_of" (defArgs s_row_of) (defBody s_row_of) (defScope s_row_of) .none kV8 dc8 pm8 an8 cd8 ct8), sl8⟩)
    (c8 : PySem.W.codeIn K cd8 "row_of" = true)
    (k8 : PySem.W.keepIn K (.ref f8) = true)
    (a9 : PySem.W.findIn K (.ref C_Sight) "__init__" = some (some (.ref f9)))
    (i9 : PySem.W.isFn K (.ref f9) = true)
    (l9 : K.lookup f9 = some ⟨oc9, od9, .func (PySem.W.fnOf "__init__" "Sight.__init__" (defArgs s_Sight___init__) (defBody s_Sight___init__) (defScope s_Sight___init__) .none kV9 dc9 pm9 an9 cd9 ct9), sl9⟩)
    (c9 : PySem.W.codeIn K cd9 "Sight.__init__" = true)
    (k9 : PySem.W.keepIn K (.ref f9) = true)
    (a10 : PySem.W.nsIn K mainGlobals "check_name" = some (some (.ref f10)))
    (l10 : K.lookup f10 = some ⟨oc10, od10, .func (PySem.W.fnOf "check_name" "check_name" (defArgs s_check_name) (defBody s_check_name) (defScope s_check_name) .none kV10 dc10 pm10 an10 cd10 ct10), sl10⟩)
    (c10 : PySem.W.codeIn K cd10 "check_name" = true)
    (k10 : PySem.W.keepIn K (.ref f10) = true)
    (a11 : PySem.W.findIn K (.ref C_Desk) "__init__" = some (some (.ref f11)))
    (i11 : PySem.W.isFn K (.ref f11) = true)
    (l11 : K.lookup f11 = some ⟨oc11, od11, .func (PySem.W.fnOf "__init__" "Desk.__init__" (defArgs s_Desk___init__) (defBody s_Desk___init__) (defScope s_Desk___init__) .none kV11 dc11 pm11 an11 cd11 ct11), sl11⟩)
    (c11 : PySem.W.codeIn K cd11 "Desk.__init__" = true)
    (k11 : PySem.W.keepIn K (.ref f11) = true)
    (a12 : PySem.W.findIn K (.ref C_Desk) "begin" = some (some (.ref f12)))
    (i12 : PySem.W.isFn K (.ref f12) = true)
    (l12 : K.lookup f12 = some ⟨oc12, od12, .func (PySem.W.fnOf "begin" "Desk.begin" (defArgs s_Desk_begin) (defBody s_Desk_begin) (defScope s_Desk_begin) .none kV12 dc12 pm12 an12 cd12 ct12), sl12⟩)
    (c12 : PySem.W.codeIn K cd12 "Desk.begin" = true)
    (k12 : PySem.W.keepIn K (.ref f12) = true)
    (a13 : PySem.W.findIn K (.ref C_Desk) "stores" = some (some (.ref f13)))
    (i13 : PySem.W.isFn K (.ref f13) = true)
    (l13 : K.lookup f13 = some ⟨oc13, od13, .func (PySem.W.fnOf "stores" "Desk.stores" (defArgs s_Desk_stores) (defBody s_Desk_stores) (defScope s_Desk_stores) .none kV13 dc13 pm13 an13 cd13 ct13), sl13⟩)
    (c13 : PySem.W.codeIn K cd13 "Desk.stores" = true)
    (k13 : PySem.W.keepIn K (.ref f13) = true)
    (a14 : PySem.W.findIn K (.ref C_Desk) "patches" = some (some (.ref f14)))
    (i14 : PySem.W.isFn K (.ref f14) = true)
    (l14 : K.lookup f14 = some ⟨oc14, od14, .func (PySem.W.fnOf "patches" "Desk.patches" (defArgs s_Desk_patches) (defBody s_Desk_patches) (defScope s_Desk_patches) .none kV14 dc14 pm14 an14 cd14 ct14), sl14⟩)
    (c14 : PySem.W.codeIn K cd14 "Desk.patches" = true)
    (k14 : PySem.W.keepIn K (.ref f14) = true)
    (a15 : PySem.W.findIn K (.ref C_Desk) "has" = some (some (.ref f15)))
    (i15 : PySem.W.isFn K (.ref f15) = true)
    (l15 : K.lookup f15 = some ⟨oc15, od15, .func (PySem.W.fnOf "has" "Desk.has" (defArgs s_Desk_has) (defBody s_Desk_has) (defScope s_Desk_has) .none kV15 dc15 pm15 an15 cd15 ct15), sl15⟩)
    (c15 : PySem.W.codeIn K cd15 "Desk.has" = true)
    (k15 : PySem.W.keepIn K (.ref f15) = true)
    (a16 : PySem.W.findIn K (.ref C_Desk) "files" = some (some (.ref f16)))
    (i16 : PySem.W.isFn K (.ref f16) = true)
    (l16 : K.lookup f16 = some ⟨oc16, od16, .func (PySem.W.fnOf "files" "Desk.files" (defArgs s_Desk_files) (defBody s_Desk_files) (defScope s_Desk_files) .none kV16 dc16 pm16 an16 cd16 ct16), sl16⟩)
    (c16 : PySem.W.codeIn K cd16 "Desk.files" = true)
    (k16 : PySem.W.keepIn K (.ref f16) = true)
    (a17 : PySem.W.findIn K (.ref C_Desk) "row" = some (some (.ref f17)))
    (i17 : PySem.W.isFn K (.ref f17) = true)
    (l17 : K.lookup f17 = some ⟨oc17, od17, .func (PySem.W.fnOf "row" "Desk.row" (defArgs s_Desk_row) (defBody s_Desk_row) (defScope s_Desk_row) .none kV17 dc17 pm17 an17 cd17 ct17), sl17⟩)
    (c17 : PySem.W.codeIn K cd17 "Desk.row" = true)
    (k17 : PySem.W.keepIn K (.ref f17) = true)
    (a18 : PySem.W.findIn K (.ref C_Desk) "patches_of" = some (some (.ref f18)))
    (i18 : PySem.W.isFn K (.ref f18) = true)
    (l18 : K.lookup f18 = some ⟨oc18, od18, .func (PySem.W.fnOf "patches_of" "Desk.patches_of" (defArgs s_Desk_patches_of) (defBody s_Desk_patches_of) (defScope s_Desk_patches_of) .none kV18 dc18 pm18 an18 cd18 ct18), sl18⟩)
    (c18 : PySem.W.codeIn K cd18 "Desk.patches_of" = true)
    (k18 : PySem.W.keepIn K (.ref f18) = true)
    (a19 : PySem.W.findIn K (.ref C_Desk) "sight_of" = some (some (.ref f19)))
    (i19 : PySem.W.isFn K (.ref f19) = true)
    (l19 : K.lookup f19 = some ⟨oc19, od19, .func (PySem.W.fnOf "sight_of" "Desk.sight_of" (defArgs s_Desk_sight_of) (defBody s_Desk_sight_of) (defScope s_Desk_sight_of) .none kV19 dc19 pm19 an19 cd19 ct19), sl19⟩)
    (c19 : PySem.W.codeIn K cd19 "Desk.sight_of" = true)
    (k19 : PySem.W.keepIn K (.ref f19) = true)
    (a20 : PySem.W.findIn K (.ref C_Desk) "check_store" = some (some (.ref f20)))
    (i20 : PySem.W.isFn K (.ref f20) = true)
    (l20 : K.lookup f20 = some ⟨oc20, od20, .func (PySem.W.fnOf "check_store" "Desk.check_store" (defArgs s_Desk_check_store) (defBody s_Desk_check_store) (defScope s_Desk_check_store) .none kV20 dc20 pm20 an20 cd20 ct20), sl20⟩)
    (c20 : PySem.W.codeIn K cd20 "Desk.check_store" = true)
    (k20 : PySem.W.keepIn K (.ref f20) = true)
    (a21 : PySem.W.nsIn K mainGlobals "_law_cell_at" = some (some (.ref f21)))
    (l21 : K.lookup f21 = some ⟨oc21, od21, .func (PySem.W.fnOf "_law_cell_at" "_law_cell_at" (defArgs s__law_cell_at) (defBody s__law_cell_at) (defScope s__law_cell_at) .none kV21 dc21 pm21 an21 cd21 ct21), sl21⟩)
    (c21 : PySem.W.codeIn K cd21 "_law_cell_at" = true)
    (k21 : PySem.W.keepIn K (.ref f21) = true)
    (a22 : PySem.W.nsIn K mainGlobals "_law_name" = some (some (.ref f22)))
    (l22 : K.lookup f22 = some ⟨oc22, od22, .func (PySem.W.fnOf "_law_name" "_law_name" (defArgs s__law_name) (defBody s__law_name) (defScope s__law_name) .none kV22 dc22 pm22 an22 cd22 ct22), sl22⟩)
    (c22 : PySem.W.codeIn K cd22 "_law_name" = true)
    (k22 : PySem.W.keepIn K (.ref f22) = true)
    (a23 : PySem.W.nsIn K mainGlobals "_law_names_are" = some (some (.ref f23)))
    (l23 : K.lookup f23 = some ⟨oc23, od23, .func (PySem.W.fnOf "_law_names_are" "_law_names_are" (defArgs s__law_names_are) (defBody s__law_names_are) (defScope s__law_names_are) .none kV23 dc23 pm23 an23 cd23 ct23), sl23⟩)
    (c23 : PySem.W.codeIn K cd23 "_law_names_are" = true)
    (k23 : PySem.W.keepIn K (.ref f23) = true)
    (a24 : PySem.W.nsIn K mainGlobals "_law_which" = some (some (.ref f24)))
    (l24 : K.lookup f24 = some ⟨oc24, od24, .func (PySem.W.fnOf "_law_which" "_law_which" (defArgs s__law_which) (defBody s__law_which) (defScope s__law_which) .none kV24 dc24 pm24 an24 cd24 ct24), sl24⟩)
    (c24 : PySem.W.codeIn K cd24 "_law_which" = true)
    (k24 : PySem.W.keepIn K (.ref f24) = true)
    (a25 : PySem.W.nsIn K mainGlobals "_law_due" = some (some (.ref f25)))
    (l25 : K.lookup f25 = some ⟨oc25, od25, .func (PySem.W.fnOf "_law_due" "_law_due" (defArgs s__law_due) (defBody s__law_due) (defScope s__law_due) .none kV25 dc25 pm25 an25 cd25 ct25), sl25⟩)
    (c25 : PySem.W.codeIn K cd25 "_law_due" = true)
    (k25 : PySem.W.keepIn K (.ref f25) = true)
    (a26 : PySem.W.nsIn K mainGlobals "_law_asked" = some (some (.ref f26)))
    (l26 : K.lookup f26 = some ⟨oc26, od26, .func (PySem.W.fnOf "_law_asked" "_law_asked" (defArgs s__law_asked) (defBody s__law_asked) (defScope s__law_asked) .none kV26 dc26 pm26 an26 cd26 ct26), sl26⟩)
    (c26 : PySem.W.codeIn K cd26 "_law_asked" = true)
    (k26 : PySem.W.keepIn K (.ref f26) = true)
    (a27 : PySem.W.nsIn K mainGlobals "_law_odd_name" = some (some (.ref f27)))
    (l27 : K.lookup f27 = some ⟨oc27, od27, .func (PySem.W.fnOf "_law_odd_name" "_law_odd_name" (defArgs s__law_odd_name) (defBody s__law_odd_name) (defScope s__law_odd_name) .none kV27 dc27 pm27 an27 cd27 ct27), sl27⟩)
    (c27 : PySem.W.codeIn K cd27 "_law_odd_name" = true)
    (k27 : PySem.W.keepIn K (.ref f27) = true)
    (a28 : PySem.W.nsIn K mainGlobals "law" = some (some (.ref f28)))
    (l28 : K.lookup f28 = some ⟨oc28, od28, .func (PySem.W.fnOf "law" "law" (defArgs s_law) (defBody s_law) (defScope s_law) .none kV28 dc28 pm28 an28 cd28 ct28), sl28⟩)
    (c28 : PySem.W.codeIn K cd28 "law" = true)
    (k28 : PySem.W.keepIn K (.ref f28) = true)
    (pg_Sight : PySem.W.plainGet K C_Sight Str.empty = true)
    (hd_Sight : PySem.W.hasDictIn K C_Sight = true)
    (po_Sight : PySem.W.plainOver K C_Sight = true)
    (sa_Sight : PySem.W.findIn K (.ref C_Sight) "__setattr__" = some (some (.builtin "object.__setattr__")))
    (mk_Sight : PySem.W.makesIn K C_Sight = true)
    (kc_Sight : PySem.W.keepIn K (.ref C_Sight) = true)
    (na_Sight_ahead : PySem.W.findIn K (.ref C_Sight) "ahead" = some none)
    (na_Sight_lines : PySem.W.findIn K (.ref C_Sight) "lines" = some none)
    (pg_Desk : PySem.W.plainGet K C_Desk Str.empty = true)
    (hd_Desk : PySem.W.hasDictIn K C_Desk = true)
    (po_Desk : PySem.W.plainOver K C_Desk = true)
    (sa_Desk : PySem.W.findIn K (.ref C_Desk) "__setattr__" = some (some (.builtin "object.__setattr__")))
    (mk_Desk : PySem.W.makesIn K C_Desk = true)
    (kc_Desk : PySem.W.keepIn K (.ref C_Desk) = true)
    (na_Desk_made : PySem.W.findIn K (.ref C_Desk) "made" = some none)
    (na_Desk_needs : PySem.W.findIn K (.ref C_Desk) "needs" = some none)
    (na_Desk_held : PySem.W.findIn K (.ref C_Desk) "held" = some none)
    (ax_PatchError : PySem.W.nsIn K mainGlobals "PatchError" = some (some (.ref X_PatchError)))
    (qx_PatchError : PySem.W.excIn K X_PatchError [.type "ValueError", .type "Exception", .type "BaseException", .type "object"] "ValueError.__new__" = true)
    (ax_BadName : PySem.W.nsIn K mainGlobals "BadName" = some (some (.ref X_BadName)))
    (qx_BadName : PySem.W.excIn K X_BadName [.type "ValueError", .type "Exception", .type "BaseException", .type "object"] "ValueError.__new__" = true)
    (ax_NameTaken : PySem.W.nsIn K mainGlobals "NameTaken" = some (some (.ref X_NameTaken)))
    (qx_NameTaken : PySem.W.excIn K X_NameTaken [.type "ValueError", .type "Exception", .type "BaseException", .type "object"] "ValueError.__new__" = true)
    (ax_NoStore : PySem.W.nsIn K mainGlobals "NoStore" = some (some (.ref X_NoStore)))
    (qx_NoStore : PySem.W.excIn K X_NoStore [.type "ValueError", .type "Exception", .type "BaseException", .type "object"] "ValueError.__new__" = true)
    (ax_NoPatch : PySem.W.nsIn K mainGlobals "NoPatch" = some (some (.ref X_NoPatch)))
    (qx_NoPatch : PySem.W.excIn K X_NoPatch [.type "ValueError", .type "Exception", .type "BaseException", .type "object"] "ValueError.__new__" = true)
    (ax_NoLine : PySem.W.nsIn K mainGlobals "NoLine" = some (some (.ref X_NoLine)))
    (qx_NoLine : PySem.W.excIn K X_NoLine [.type "ValueError", .type "Exception", .type "BaseException", .type "object"] "ValueError.__new__" = true)
    (ax_Unsettled : PySem.W.nsIn K mainGlobals "Unsettled" = some (some (.ref X_Unsettled)))
    (qx_Unsettled : PySem.W.excIn K X_Unsettled [.type "ValueError", .type "Exception", .type "BaseException", .type "object"] "ValueError.__new__" = true)
    (ax_Same : PySem.W.nsIn K mainGlobals "Same" = some (some (.ref X_Same)))
    (qx_Same : PySem.W.excIn K X_Same [.type "ValueError", .type "Exception", .type "BaseException", .type "object"] "ValueError.__new__" = true)
    (ax_Leant : PySem.W.nsIn K mainGlobals "Leant" = some (some (.ref X_Leant)))
    (qx_Leant : PySem.W.excIn K X_Leant [.type "ValueError", .type "Exception", .type "BaseException", .type "object"] "ValueError.__new__" = true)
    (ac_NAME_SIGNS : PySem.W.nsIn K mainGlobals "NAME_SIGNS" = some (some (.str (Str.ofString "abcdefghijklmnopqrstuvwxyz0123456789") u_NAME_SIGNS)))
    (ac_LONGEST_NAME : PySem.W.nsIn K mainGlobals "LONGEST_NAME" = some (some (.int 12 u_LONGEST_NAME)))
    (z_len : PySem.W.nsIn K mainGlobals "len" = some none)
    (z_range : PySem.W.nsIn K mainGlobals "range" = some none)
    (z_isinstance : PySem.W.nsIn K mainGlobals "isinstance" = some none)
    (z_list : PySem.W.nsIn K mainGlobals "list" = some none)
    (z_str : PySem.W.nsIn K mainGlobals "str" = some none)
    (z_reversed : PySem.W.nsIn K mainGlobals "reversed" = some none)
    (z_sorted : PySem.W.nsIn K mainGlobals "sorted" = some none)
    (z_set : PySem.W.nsIn K mainGlobals "set" = some none)
    (z_ValueError : PySem.W.nsIn K mainGlobals "ValueError" = some none)
    (y1_BadName : PySem.W.findIn K (.ref X_BadName) "__getattribute__" = some (some (.builtin "BaseException.__getattribute__")))
    (y2_BadName : PySem.W.findIn K (.ref X_BadName) "__getattr__" = some none)
    (y3_BadName : PySem.W.findIn K (.ref X_BadName) "__class__" = some (some (.builtin "object.__class__")))
    (y4_BadName : PySem.W.mroIn K X_BadName (.type "object") = some true)
    (y5_BadName : PySem.W.mroIn K X_BadName (.type "BaseException") = some true)
    (y6_BadName : (PySem.W.clsIn K X_BadName).isSome = true)
    (i_BadName_PatchError : PySem.W.kitOne K (.ref X_BadName) (.ref X_PatchError) = some true)
    (i_BadName_BadName : PySem.W.kitOne K (.ref X_BadName) (.ref X_BadName) = some true)
    (i_BadName_NameTaken : PySem.W.kitOne K (.ref X_BadName) (.ref X_NameTaken) = some false)
    (i_BadName_NoStore : PySem.W.kitOne K (.ref X_BadName) (.ref X_NoStore) = some false)
    (i_BadName_NoPatch : PySem.W.kitOne K (.ref X_BadName) (.ref X_NoPatch) = some false)
    (i_BadName_NoLine : PySem.W.kitOne K (.ref X_BadName) (.ref X_NoLine) = some false)
    (i_BadName_Unsettled : PySem.W.kitOne K (.ref X_BadName) (.ref X_Unsettled) = some false)
    (i_BadName_Same : PySem.W.kitOne K (.ref X_BadName) (.ref X_Same) = some false)
    (i_BadName_Leant : PySem.W.kitOne K (.ref X_BadName) (.ref X_Leant) = some false)
    (iv_BadName : PySem.W.kitOne K (.ref X_BadName) (.type "ValueError") = some true)
    (j_BadName : subX K X_BadName X_PatchError = true)
    (jj_BadName : subX K X_BadName X_BadName = true)
    (y1_NameTaken : PySem.W.findIn K (.ref X_NameTaken) "__getattribute__" = some (some (.builtin "BaseException.__getattribute__")))
    (y2_NameTaken : PySem.W.findIn K (.ref X_NameTaken) "__getattr__" = some none)
    (y3_NameTaken : PySem.W.findIn K (.ref X_NameTaken) "__class__" = some (some (.builtin "object.__class__")))
    (y4_NameTaken : PySem.W.mroIn K X_NameTaken (.type "object") = some true)
    (y5_NameTaken : PySem.W.mroIn K X_NameTaken (.type "BaseException") = some true)
    (y6_NameTaken : (PySem.W.clsIn K X_NameTaken).isSome = true)
    (i_NameTaken_PatchError : PySem.W.kitOne K (.ref X_NameTaken) (.ref X_PatchError) = some true)
    (i_NameTaken_BadName : PySem.W.kitOne K (.ref X_NameTaken) (.ref X_BadName) = some false)
    (i_NameTaken_NameTaken : PySem.W.kitOne K (.ref X_NameTaken) (.ref X_NameTaken) = some true)
    (i_NameTaken_NoStore : PySem.W.kitOne K (.ref X_NameTaken) (.ref X_NoStore) = some false)
    (i_NameTaken_NoPatch : PySem.W.kitOne K (.ref X_NameTaken) (.ref X_NoPatch) = some false)
    (i_NameTaken_NoLine : PySem.W.kitOne K (.ref X_NameTaken) (.ref X_NoLine) = some false)
    (i_NameTaken_Unsettled : PySem.W.kitOne K (.ref X_NameTaken) (.ref X_Unsettled) = some false)
    (i_NameTaken_Same : PySem.W.kitOne K (.ref X_NameTaken) (.ref X_Same) = some false)
    (i_NameTaken_Leant : PySem.W.kitOne K (.ref X_NameTaken) (.ref X_Leant) = some false)
    (iv_NameTaken : PySem.W.kitOne K (.ref X_NameTaken) (.type "ValueError") = some true)
    (j_NameTaken : subX K X_NameTaken X_PatchError = true)
    (jj_NameTaken : subX K X_NameTaken X_NameTaken = true) :
    ∃ fd : FuncData, (∀ (s : Shared) (v : Value), BindsTo s fd ⟨[v], []⟩ [("script", v)]) ∧ ∀ base : Heap, K.In base → base.Ns mainGlobals mg → FnOk l.prog w K mg base CX0 9 fa fd ["script"] (spLaw K) := by
  have e := hfa.symm.trans (PySem.W.mg_of X G a28)
  cases e
  have T : Txt mg := ⟨PySem.W.mg_none_of X G z_len, PySem.W.mg_none_of X G z_range, PySem.W.mg_none_of X G z_isinstance, PySem.W.mg_none_of X G z_list, PySem.W.mg_none_of X G z_str, PySem.W.mg_none_of X G z_reversed, PySem.W.mg_none_of X G z_sorted, PySem.W.mg_none_of X G z_set, PySem.W.mg_none_of X G z_ValueError⟩
  have F0 := fun_mk (st := s_live_patches) l0 c0 k0
  have F1 := fun_mk (st := s_lines_put) l1 c1 k1
  have F2 := fun_mk (st := s_standing_lines) l2 c2 k2
  have F3 := fun_mk (st := s_files_with_lines) l3 c3 k3
  have F4 := fun_mk (st := s_straight_ahead) l4 c4 k4
  have F5 := fun_mk (st := s_joined) l5 c5 k5
  have F6 := fun_mk (st := s_all_ahead) l6 c6 k6
  have F7 := fun_mk (st := s_first_free) l7 c7 k7
  have F8 := fun_mk (st := s_row_of) l8 c8 k8
  have F9 := fun_mk (st := s_Sight___init__) l9 c9 k9
  have F10 := fun_mk (st := s_check_name) l10 c10 k10
  have F11 := fun_mk (st := s_Desk___init__) l11 c11 k11
  have F12 := fun_mk (st := s_Desk_begin) l12 c12 k12
  have F13 := fun_mk (st := s_Desk_stores) l13 c13 k13
  have F14 := fun_mk (st := s_Desk_patches) l14 c14 k14
  have F15 := fun_mk (st := s_Desk_has) l15 c15 k15
  have F16 := fun_mk (st := s_Desk_files) l16 c16 k16
  have F17 := fun_mk (st := s_Desk_row) l17 c17 k17
  have F18 := fun_mk (st := s_Desk_patches_of) l18 c18 k18
  have F19 := fun_mk (st := s_Desk_sight_of) l19 c19 k19
  have F20 := fun_mk (st := s_Desk_check_store) l20 c20 k20
  have F21 := fun_mk (st := s__law_cell_at) l21 c21 k21
  have F22 := fun_mk (st := s__law_name) l22 c22 k22
  have F23 := fun_mk (st := s__law_names_are) l23 c23 k23
  have F24 := fun_mk (st := s__law_which) l24 c24 k24
  have F25 := fun_mk (st := s__law_due) l25 c25 k25
  have F26 := fun_mk (st := s__law_asked) l26 c26 k26
  have F27 := fun_mk (st := s__law_odd_name) l27 c27 k27
  have F28 := fun_mk (st := s_law) l28 c28 k28
  have b0 := F0.binds (ps := ["patches"]) fun _ _ _ _ _ _ us hl => match us, hl with | [_], _ => rfl
  have b1 := F1.binds (ps := ["patches", "file"]) fun _ _ _ _ _ _ us hl => match us, hl with | [_, _], _ => rfl
  have b2 := F2.binds (ps := ["patches", "file"]) fun _ _ _ _ _ _ us hl => match us, hl with | [_, _], _ => rfl
  have b3 := F3.binds (ps := ["patches"]) fun _ _ _ _ _ _ us hl => match us, hl with | [_], _ => rfl
  have b4 := F4.binds (ps := ["lines"]) fun _ _ _ _ _ _ us hl => match us, hl with | [_], _ => rfl
  have b5 := F5.binds (ps := ["names", "ahead"]) fun _ _ _ _ _ _ us hl => match us, hl with | [_, _], _ => rfl
  have b6 := F6.binds (ps := ["lines"]) fun _ _ _ _ _ _ us hl => match us, hl with | [_], _ => rfl
  have b7 := F7.binds (ps := ["waiting"]) fun _ _ _ _ _ _ us hl => match us, hl with | [_], _ => rfl
  have b8 := F8.binds (ps := ["lines", "ahead"]) fun _ _ _ _ _ _ us hl => match us, hl with | [_, _], _ => rfl
  have b9 := F9.binds (ps := ["self", "patches", "file"]) fun _ _ _ _ _ _ us hl => match us, hl with | [_, _, _], _ => rfl
  have b10 := F10.binds (ps := ["name"]) fun _ _ _ _ _ _ us hl => match us, hl with | [_], _ => rfl
  have b11 := F11.binds (ps := ["self"]) fun _ _ _ _ _ _ us hl => match us, hl with | [_], _ => rfl
  have b12 := F12.binds (ps := ["self", "store"]) fun _ _ _ _ _ _ us hl => match us, hl with | [_, _], _ => rfl
  have b13 := F13.binds (ps := ["self"]) fun _ _ _ _ _ _ us hl => match us, hl with | [_], _ => rfl
  have b14 := F14.binds (ps := ["self"]) fun _ _ _ _ _ _ us hl => match us, hl with | [_], _ => rfl
  have b15 := F15.binds (ps := ["self", "store"]) fun _ _ _ _ _ _ us hl => match us, hl with | [_, _], _ => rfl
  have b16 := F16.binds (ps := ["self", "store"]) fun _ _ _ _ _ _ us hl => match us, hl with | [_, _], _ => rfl
  have b17 := F17.binds (ps := ["self", "store", "file"]) fun _ _ _ _ _ _ us hl => match us, hl with | [_, _, _], _ => rfl
  have b18 := F18.binds (ps := ["self", "store"]) fun _ _ _ _ _ _ us hl => match us, hl with | [_, _], _ => rfl
  have b19 := F19.binds (ps := ["self", "store", "file"]) fun _ _ _ _ _ _ us hl => match us, hl with | [_, _, _], _ => rfl
  have b20 := F20.binds (ps := ["self", "store"]) fun _ _ _ _ _ _ us hl => match us, hl with | [_, _], _ => rfl
  have b21 := F21.binds (ps := ["script", "k"]) fun _ _ _ _ _ _ us hl => match us, hl with | [_, _], _ => rfl
  have b22 := F22.binds (ps := ["cell", "k"]) fun _ _ _ _ _ _ us hl => match us, hl with | [_, _], _ => rfl
  have b23 := F23.binds (ps := ["found", "due"]) fun _ _ _ _ _ _ us hl => match us, hl with | [_, _], _ => rfl
  have b24 := F24.binds (ps := ["e"]) fun _ _ _ _ _ _ us hl => match us, hl with | [_], _ => rfl
  have b25 := F25.binds (ps := ["place"]) fun _ _ _ _ _ _ us hl => match us, hl with | [_], _ => rfl
  have b26 := F26.binds (ps := ["desk", "name"]) fun _ _ _ _ _ _ us hl => match us, hl with | [_, _], _ => rfl
  have b27 := F27.binds (ps := ["name", "cell"]) fun _ _ _ _ _ _ us hl => match us, hl with | [_, _], _ => rfl
  have O : Ok K mg (Ad.mk f0 _ f1 _ f2 _ f3 _ f4 _ f5 _ f6 _ f7 _ f8 _ f9 _ f10 _ f11 _ f12 _ f13 _ f14 _ f15 _ f16 _ f17 _ f18 _ f19 _ f20 _ f21 _ f22 _ f23 _ f24 _ f25 _ f26 _ f27 _ C_Sight C_Desk X_PatchError X_BadName X_NameTaken X_NoStore X_NoPatch X_NoLine X_Unsettled X_Same X_Leant u_NAME_SIGNS u_LONGEST_NAME ()) := ⟨F0, b0, PySem.W.mg_of X G a0, F1, b1, PySem.W.mg_of X G a1, F2, b2, PySem.W.mg_of X G a2, F3, b3, PySem.W.mg_of X G a3, F4, b4, PySem.W.mg_of X G a4, F5, b5, PySem.W.mg_of X G a5, F6, b6, PySem.W.mg_of X G a6, F7, b7, PySem.W.mg_of X G a7, F8, b8, PySem.W.mg_of X G a8, F9, b9, ⟨a9, i9, k9⟩, F10, b10, PySem.W.mg_of X G a10, F11, b11, ⟨a11, i11, k11⟩, F12, b12, ⟨a12, i12, k12⟩, F13, b13, ⟨a13, i13, k13⟩, F14, b14, ⟨a14, i14, k14⟩, F15, b15, ⟨a15, i15, k15⟩, F16, b16, ⟨a16, i16, k16⟩, F17, b17, ⟨a17, i17, k17⟩, F18, b18, ⟨a18, i18, k18⟩, F19, b19, ⟨a19, i19, k19⟩, F20, b20, ⟨a20, i20, k20⟩, F21, b21, PySem.W.mg_of X G a21, F22, b22, PySem.W.mg_of X G a22, F23, b23, PySem.W.mg_of X G a23, F24, b24, PySem.W.mg_of X G a24, F25, b25, PySem.W.mg_of X G a25, F26, b26, PySem.W.mg_of X G a26, F27, b27, PySem.W.mg_of X G a27, ⟨pg_Sight, hd_Sight, po_Sight, sa_Sight⟩, ⟨mk_Sight, a9, i9, kc_Sight⟩, PySem.W.mg_of X G aC_Sight, na_Sight_ahead, na_Sight_lines, ⟨pg_Desk, hd_Desk, po_Desk, sa_Desk⟩, ⟨mk_Desk, a11, i11, kc_Desk⟩, PySem.W.mg_of X G aC_Desk, na_Desk_made, na_Desk_needs, na_Desk_held, ⟨PySem.W.mg_of X G ax_PatchError, qx_PatchError⟩, ⟨PySem.W.mg_of X G ax_BadName, qx_BadName⟩, ⟨PySem.W.mg_of X G ax_NameTaken, qx_NameTaken⟩, ⟨PySem.W.mg_of X G ax_NoStore, qx_NoStore⟩, ⟨PySem.W.mg_of X G ax_NoPatch, qx_NoPatch⟩, ⟨PySem.W.mg_of X G ax_NoLine, qx_NoLine⟩, ⟨PySem.W.mg_of X G ax_Unsettled, qx_Unsettled⟩, ⟨PySem.W.mg_of X G ax_Same, qx_Same⟩, ⟨PySem.W.mg_of X G ax_Leant, qx_Leant⟩, PySem.W.mg_of X G ac_NAME_SIGNS, PySem.W.mg_of X G ac_LONGEST_NAME, ⟨y1_BadName, y2_BadName, y3_BadName, y4_BadName, y5_BadName, y6_BadName⟩, i_BadName_PatchError, i_BadName_BadName, i_BadName_NameTaken, i_BadName_NoStore, i_BadName_NoPatch, i_BadName_NoLine, i_BadName_Unsettled, i_BadName_Same, i_BadName_Leant, iv_BadName, j_BadName, jj_BadName, ⟨y1_NameTaken, y2_NameTaken, y3_NameTaken, y4_NameTaken, y5_NameTaken, y6_NameTaken⟩, i_NameTaken_PatchError, i_NameTaken_BadName, i_NameTaken_NameTaken, i_NameTaken_NoStore, i_NameTaken_NoPatch, i_NameTaken_NoLine, i_NameTaken_Unsettled, i_NameTaken_Same, i_NameTaken_Leant, iv_NameTaken, j_NameTaken, jj_NameTaken, True.intro⟩
  exact ⟨_, fun s v => .of_eq rfl, fun base _ _ => ok_law F28 T O⟩
theorem walk {l : PySem.W.OpenLaw} {q : Program} {loose : List Str} {XP : (Str → Option Value) → Heap → Prop} {YP : World → Heap → Prop} {d : DefRec} {K : Params → PySem.W.Frag} (hn : l.most = some 63) (hdf : d.params.defaults = [])
    (hY : ∀ (w : World) (h : Heap), YP w h → (K w.params).In h)
    (F : ∀ (w : World) (mg : Str → Option Value) (fa : Addr) (h : Heap), (K w.params).In h → h.Ns mainGlobals mg → mg d.name = some (.ref fa) →
      ∃ fd : FuncData, (∀ (s : Shared) (u : Value), BindsTo s fd ⟨[u], []⟩ [("script", u)]) ∧ ∀ base : Heap, (K w.params).In base → base.Ns mainGlobals mg → FnOk l.prog w (K w.params) mg base CX0 9 fa fd ["script"] (spLaw (K w.params))) :
    PySem.W.WalkO q loose XP YP l.row.toRowW d [] (fun f vs => PySem.call f vs) :=
  L2.walk_of (n := 63) (k := 9) (x := "script") (CX := fun _ => CX0) (sp := fun w => spLaw (K w.params)) hn (by decide) hdf ⟨rfl, by decide, by decide⟩ hY F (fun _ _ a ns hl _ hS => ⟨a, ns, rfl, hS, hl, fun _ => rfl⟩) fun _ _ _ _ _ z => z
end PK
open PySem PySem.W PyProof.Rows
set_option maxRecDepth 100000 in
set_option maxHeartbeats 0 in
theorem PySem.Challenge.cw_patchkin_k02_stores_begun_holds : PySem.Challenge.rw_patchkin_k02_stores_begun.Holds := by
  w_on; o_law; k_head; (case hw => w_witness2)
  k_fill
  refine PK.walk (l := PySem.Challenge.rw_patchkin_k02_stores_begun) rfl rfl (fun w h Y => PySem.W.kIn_of Y) ?F
  case F =>
    intro w mg fa h KX G hmg
    refine' PK.all_mk KX G hmg ?aC_Sight ?aC_Desk ?a0 ?l0 ?c0 ?k0 ?a1 ?l1 ?c1 ?k1 ?a2 ?l2 ?c2 ?k2 ?a3 ?l3 ?c3 ?k3 ?a4 ?l4 ?c4 ?k4 ?a5 ?l5 ?c5 ?k5 ?a6 ?l6 ?c6 ?k6 ?a7 ?l7 ?c7 ?k7 ?a8 ?l8 ?c8 ?k8 ?a9 ?i9 ?l9 ?c9 ?k9 ?a10 ?l10 ?c10 ?k10 ?a11 ?i11 ?l11 ?c11 ?k11 ?a12 ?i12 ?l12 ?c12 ?k12 ?a13 ?i13 ?l13 ?c13 ?k13 ?a14 ?i14 ?l14 ?c14 ?k14 ?a15 ?i15 ?l15 ?c15 ?k15 ?a16 ?i16 ?l16 ?c16 ?k16 ?a17 ?i17 ?l17 ?c17 ?k17 ?a18 ?i18 ?l18 ?c18 ?k18 ?a19 ?i19 ?l19 ?c19 ?k19 ?a20 ?i20 ?l20 ?c20 ?k20 ?a21 ?l21 ?c21 ?k21 ?a22 ?l22 ?c22 ?k22 ?a23 ?l23 ?c23 ?k23 ?a24 ?l24 ?c24 ?k24 ?a25 ?l25 ?c25 ?k25 ?a26 ?l26 ?c26 ?k26 ?a27 ?l27 ?c27 ?k27 ?a28 ?l28 ?c28 ?k28 ?pg_Sight ?hd_Sight ?po_Sight ?sa_Sight ?mk_Sight ?kc_Sight ?na_Sight_ahead ?na_Sight_lines ?pg_Desk ?hd_Desk ?po_Desk ?sa_Desk ?mk_Desk ?kc_Desk ?na_Desk_made ?na_Desk_needs ?na_Desk_held ?ax_PatchError ?qx_PatchError ?ax_BadName ?qx_BadName ?ax_NameTaken ?qx_NameTaken ?ax_NoStore ?qx_NoStore ?ax_NoPatch ?qx_NoPatch ?ax_NoLine ?qx_NoLine ?ax_Unsettled ?qx_Unsettled ?ax_Same ?qx_Same ?ax_Leant ?qx_Leant ?ac_NAME_SIGNS ?ac_LONGEST_NAME ?z_len ?z_range ?z_isinstance ?z_list ?z_str ?z_reversed ?z_sorted ?z_set ?z_ValueError ?y1_BadName ?y2_BadName ?y3_BadName ?y4_BadName ?y5_BadName ?y6_BadName ?i_BadName_PatchError ?i_BadName_BadName ?i_BadName_NameTaken ?i_BadName_NoStore ?i_BadName_NoPatch ?i_BadName_NoLine ?i_BadName_Unsettled ?i_BadName_Same ?i_BadName_Leant ?iv_BadName ?j_BadName ?jj_BadName ?y1_NameTaken ?y2_NameTaken ?y3_NameTaken ?y4_NameTaken ?y5_NameTaken ?y6_NameTaken ?i_NameTaken_PatchError ?i_NameTaken_BadName ?i_NameTaken_NameTaken ?i_NameTaken_NoStore ?i_NameTaken_NoPatch ?i_NameTaken_NoLine ?i_NameTaken_Unsettled ?i_NameTaken_Same ?i_NameTaken_Leant ?iv_NameTaken ?j_NameTaken ?jj_NameTaken
    (case aC_Sight => k_is); (case aC_Desk => k_is); (case a0 => k_is); (case l0 => k_is); (case c0 => k_is)
    (case k0 => k_is); (case a1 => k_is); (case l1 => k_is); (case c1 => k_is); (case k1 => k_is)
    (case a2 => k_is); (case l2 => k_is); (case c2 => k_is); (case k2 => k_is); (case a3 => k_is)
    (case l3 => k_is); (case c3 => k_is); (case k3 => k_is); (case a4 => k_is); (case l4 => k_is)
    (case c4 => k_is); (case k4 => k_is); (case a5 => k_is); (case l5 => k_is); (case c5 => k_is)
    (case k5 => k_is); (case a6 => k_is); (case l6 => k_is); (case c6 => k_is); (case k6 => k_is)
    (case a7 => k_is); (case l7 => k_is); (case c7 => k_is); (case k7 => k_is); (case a8 => k_is)
    (case l8 => k_is); (case c8 => k_is); (case k8 => k_is); (case a9 => k_is); (case i9 => k_is)
    (case l9 => k_is); (case c9 => k_is); (case k9 => k_is); (case a10 => k_is); (case l10 => k_is)
    (case c10 => k_is); (case k10 => k_is); (case a11 => k_is); (case i11 => k_is); (case l11 => k_is)
    (case c11 => k_is); (case k11 => k_is); (case a12 => k_is); (case i12 => k_is); (case l12 => k_is)
    (case c12 => k_is); (case k12 => k_is); (case a13 => k_is); (case i13 => k_is); (case l13 => k_is)
    (case c13 => k_is); (case k13 => k_is); (case a14 => k_is); (case i14 => k_is); (case l14 => k_is)
    (case c14 => k_is); (case k14 => k_is); (case a15 => k_is); (case i15 => k_is); (case l15 => k_is)
    (case c15 => k_is); (case k15 => k_is); (case a16 => k_is); (case i16 => k_is); (case l16 => k_is)
    (case c16 => k_is); (case k16 => k_is); (case a17 => k_is); (case i17 => k_is); (case l17 => k_is)
    (case c17 => k_is); (case k17 => k_is); (case a18 => k_is); (case i18 => k_is); (case l18 => k_is)
    (case c18 => k_is); (case k18 => k_is); (case a19 => k_is); (case i19 => k_is); (case l19 => k_is)
    (case c19 => k_is); (case k19 => k_is); (case a20 => k_is); (case i20 => k_is); (case l20 => k_is)
    (case c20 => k_is); (case k20 => k_is); (case a21 => k_is); (case l21 => k_is); (case c21 => k_is)
    (case k21 => k_is); (case a22 => k_is); (case l22 => k_is); (case c22 => k_is); (case k22 => k_is)
    (case a23 => k_is); (case l23 => k_is); (case c23 => k_is); (case k23 => k_is); (case a24 => k_is)
    (case l24 => k_is); (case c24 => k_is); (case k24 => k_is); (case a25 => k_is); (case l25 => k_is)
    (case c25 => k_is); (case k25 => k_is); (case a26 => k_is); (case l26 => k_is); (case c26 => k_is)
    (case k26 => k_is); (case a27 => k_is); (case l27 => k_is); (case c27 => k_is); (case k27 => k_is)
    (case a28 => k_is); (case l28 => k_is); (case c28 => k_is); (case k28 => k_is); (case pg_Sight => k_is)
    (case hd_Sight => k_is); (case po_Sight => k_is); (case sa_Sight => k_is); (case mk_Sight => k_is); (case kc_Sight => k_is)
    (case na_Sight_ahead => k_is); (case na_Sight_lines => k_is); (case pg_Desk => k_is); (case hd_Desk => k_is); (case po_Desk => k_is)
    (case sa_Desk => k_is); (case mk_Desk => k_is); (case kc_Desk => k_is); (case na_Desk_made => k_is); (case na_Desk_needs => k_is)
    (case na_Desk_held => k_is); (case ax_PatchError => k_is); (case qx_PatchError => k_exc); (case ax_BadName => k_is); (case qx_BadName => k_exc)
    (case ax_NameTaken => k_is); (case qx_NameTaken => k_exc); (case ax_NoStore => k_is); (case qx_NoStore => k_exc); (case ax_NoPatch => k_is)
    (case qx_NoPatch => k_exc); (case ax_NoLine => k_is); (case qx_NoLine => k_exc); (case ax_Unsettled => k_is); (case qx_Unsettled => k_exc)
    (case ax_Same => k_is); (case qx_Same => k_exc); (case ax_Leant => k_is); (case qx_Leant => k_exc); (case ac_NAME_SIGNS => k_is)
    (case ac_LONGEST_NAME => k_is); (case z_len => k_is); (case z_range => k_is); (case z_isinstance => k_is); (case z_list => k_is)
    (case z_str => k_is); (case z_reversed => k_is); (case z_sorted => k_is); (case z_set => k_is); (case z_ValueError => k_is)
    (case y1_BadName => k_is); (case y2_BadName => k_is); (case y3_BadName => k_is); (case y4_BadName => k_is); (case y5_BadName => k_is)
    (case y6_BadName => kernel_rfl); (case i_BadName_PatchError => kit_is); (case i_BadName_BadName => kit_is); (case i_BadName_NameTaken => kit_is); (case i_BadName_NoStore => kit_is)
    (case i_BadName_NoPatch => kit_is); (case i_BadName_NoLine => kit_is); (case i_BadName_Unsettled => kit_is); (case i_BadName_Same => kit_is); (case i_BadName_Leant => kit_is)
    (case iv_BadName => kit_is); (case j_BadName => kernel_rfl); (case jj_BadName => kernel_rfl); (case y1_NameTaken => k_is); (case y2_NameTaken => k_is)
    (case y3_NameTaken => k_is); (case y4_NameTaken => k_is); (case y5_NameTaken => k_is); (case y6_NameTaken => kernel_rfl); (case i_NameTaken_PatchError => kit_is)
    (case i_NameTaken_BadName => kit_is); (case i_NameTaken_NameTaken => kit_is); (case i_NameTaken_NoStore => kit_is); (case i_NameTaken_NoPatch => kit_is); (case i_NameTaken_NoLine => kit_is)
    (case i_NameTaken_Unsettled => kit_is); (case i_NameTaken_Same => kit_is); (case i_NameTaken_Leant => kit_is); (case iv_NameTaken => kit_is); (case j_NameTaken => kernel_rfl)
    (case jj_NameTaken => kernel_rfl)
#print axioms PySem.Challenge.cw_patchkin_k02_stores_begun_holds

