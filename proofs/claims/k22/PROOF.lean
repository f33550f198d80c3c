import PyProof.Rows.All
import Wide.All
import OpenK.AllK
import Wide.FinOn
import Lean
import PyProof.EqAt
import PyProof.EqKinds
import PyProof.TupleCall
import PySem.Challenge.RW_sharewheel_k22_the_mark_goes_as_the_road
set_option Elab.async false
set_option linter.all false
set_option maxRecDepth 100000
/-! THE HAND LAYER, for ints, bools, texts, own classes, LISTS and tuples (index, slices, in, append, pop ..), calls, loops. Paste it whole ahead of your own text; what your proof does not reach may be deleted. -/
namespace L2
open PySem PySem.Spec PyProof.Rows

/-- a key: an int or a str -/
abbrev Key := Sum Int Str
def keyIs : Key → Value → Bool
  | .inl k, v => Value.isInt k v
  | .inr x, v => Value.isStrOf x v
def keyH (w : World) : Key → Int
  | .inl k => hashInt k
  | .inr x => hashStr w x
theorem keyIs_shape : ∀ {k : Key} {v : Value}, keyIs k v = true → (∃ i t, k = Sum.inl i ∧ v = Value.int i t) ∨ (∃ x t, k = Sum.inr x ∧ v = Value.str x t)
  | .inl i, v, h => by
    obtain ⟨t, e⟩ := Value.isInt_shape (k := i) (v := v) h
    exact .inl ⟨i, t, rfl, e⟩
  | .inr x, v, h => by
    obtain ⟨t, e⟩ := Value.isStrOf_shape (x := x) (v := v) h
    exact .inr ⟨x, t, rfl, e⟩
theorem keyIs_int (i : Int) (t : Tok) : keyIs (.inl i) (.int i t) = true := by simp [keyIs, Value.isInt]
theorem keyIs_str (x : Str) (t : Tok) : keyIs (.inr x) (.str x t) = true := by simp [keyIs, Value.isStrOf]
theorem key_ll (a b : Int) : decide ((Sum.inl a : Key) = Sum.inl b) = (a == b) := by
  by_cases e : a = b
  · subst e; simp
  · have h : ¬ (Sum.inl a : Key) = Sum.inl b := fun q => e (Sum.inl.inj q)
    rw [decide_eq_false h]
    exact (beq_eq_false_iff_ne.mpr e).symm
theorem key_rr (a b : Str) : decide ((Sum.inr a : Key) = Sum.inr b) = decide (a = b) := by
  by_cases e : a = b
  · subst e; simp
  · have h : ¬ (Sum.inr a : Key) = Sum.inr b := fun q => e (Sum.inr.inj q)
    rw [decide_eq_false h, decide_eq_false e]
theorem key_lr (a : Int) (b : Str) : decide ((Sum.inl a : Key) = Sum.inr b) = false := decide_eq_false (fun q => nomatch q)
theorem key_rl (a : Str) (b : Int) : decide ((Sum.inr a : Key) = Sum.inl b) = false := decide_eq_false (fun q => nomatch q)

def mixKind (prog : Program) (w : World) : PySem.KeyKind prog w Key where
  is := keyIs
  hash := keyH w
  inj := fun v a b ha hb => by
    rcases keyIs_shape ha with ⟨i, t, rfl, rfl⟩ | ⟨x, t, rfl, rfl⟩
    · rcases keyIs_shape hb with ⟨j, u, rfl, e⟩ | ⟨y, u, rfl, e⟩
      · injection e with e1 _; rw [e1]
      · exact nomatch e
    · rcases keyIs_shape hb with ⟨j, u, rfl, e⟩ | ⟨y, u, rfl, e⟩
      · exact nomatch e
      · injection e with e1 _; rw [e1]
  byValue := fun k v h => by
    rcases keyIs_shape h with ⟨i, t, rfl, rfl⟩ | ⟨x, t, rfl, rfl⟩ <;> rfl
  pyHash := fun hv h => by
    rcases keyIs_shape hv with ⟨i, t, rfl, rfl⟩ | ⟨x, t, rfl, rfl⟩
    · exact wpAny_pyHash_int h
    · exact wpAny_pyHash_str h
  eqBool := fun hu hv h => by
    rcases keyIs_shape hu with ⟨i, t, rfl, rfl⟩ | ⟨x, t, rfl, rfl⟩
    · rcases keyIs_shape hv with ⟨j, u, rfl, rfl⟩ | ⟨y, u, rfl, rfl⟩
      · rw [key_ll] at h; exact wpAny_eqBool_int h
      · rw [key_lr] at h; exact SeqAt.EqAt.int_str i t y u _ _ _ _ h
    · rcases keyIs_shape hv with ⟨j, u, rfl, rfl⟩ | ⟨y, u, rfl, rfl⟩
      · rw [key_rl] at h; exact SeqAt.EqAt.str_int x t j u _ _ _ _ h
      · rw [key_rr] at h; exact wpAny_eqBool_str h
  «strs» := fun k x t v h => by
    rcases keyIs_shape h with ⟨i, u, rfl, e⟩ | ⟨y, u, rfl, e⟩
    · exact nomatch e
    · injection e with e1 _
      subst e1
      cases v <;> rfl

theorem mixKind_is (prog : Program) (w : World) (k : Key) (v : Value) : (mixKind prog w).is k v = keyIs k v := rfl
theorem mixKind_int (prog : Program) (w : World) (i : Int) (t : Tok) : (mixKind prog w).is (.inl i) (.int i t) = true := keyIs_int i t
theorem mixKind_str (prog : Program) (w : World) (x : Str) (t : Tok) : (mixKind prog w).is (.inr x) (.str x t) = true := keyIs_str x t
end L2

namespace L2
open PySem PySem.Spec PyProof.Rows

/-- a value, without the heap -/
inductive V where
  | non | bl (b : Bool) | int (i : Int) | str (x : Str) | byt (b : Array UInt8) | flt (b : UInt64) | ref (a : Addr) | ty (n : String)
  deriving DecidableEq

def RelV : V → Value → Prop
  | .non, u => u = Value.none
  | .bl b, u => u = Value.bool b
  | .int i, u => ∃ t, u = Value.int i t
  | .str x, u => ∃ t, u = Value.str x t
  | .byt b, u => ∃ t, u = Value.bytes b t
  | .flt b, u => ∃ t, u = Value.float b t
  | .ref a, u => u = Value.ref a
  | .ty n, u => u = Value.type n

abbrev Vals : List V → List Value → Prop := Paired RelV
theorem Vals.length {xs : List V} {us : List Value} (r : Vals xs us) : xs.length = us.length := Paired.length r
theorem Vals.get : ∀ {xs : List V} {us : List Value} {i : Nat} {x : V}, Vals xs us → xs[i]? = some x → ∃ u, us[i]? = some u ∧ RelV x u
  | _, _, _, _, .nil, e => by simp at e
  | _, _, 0, _, .cons r _, e => by simp at e; subst e; exact ⟨_, rfl, r⟩
  | _, _, i + 1, x, .cons _ t, e => by
    obtain ⟨u, h1, h2⟩ := Vals.get (i := i) (x := x) t (by simpa using e)
    exact ⟨u, by simpa using h1, h2⟩
theorem Vals.set {x : V} {u : Value} (r : RelV x u) : ∀ {xs : List V} {us : List Value} (i : Nat), Vals xs us → Vals (xs.set i x) (us.set i u)
  | _, _, _, .nil => .nil
  | _, _, 0, .cons _ t => .cons r t
  | _, _, i + 1, .cons q t => .cons q (Vals.set r i t)
theorem Vals.append : ∀ {xs ys : List V} {us ws : List Value}, Vals xs us → Vals ys ws → Vals (xs ++ ys) (us ++ ws)
  | _, _, _, _, .nil, s => s
  | _, _, _, _, .cons r t, s => .cons r (Vals.append t s)
theorem Vals.take : ∀ {xs : List V} {us : List Value} (n : Nat), Vals xs us → Vals (xs.take n) (us.take n)
  | _, _, 0, _ => .nil
  | _, _, _ + 1, .nil => .nil
  | _, _, n + 1, .cons r t => .cons r (Vals.take n t)
theorem Vals.drop : ∀ {xs : List V} {us : List Value} (n : Nat), Vals xs us → Vals (xs.drop n) (us.drop n)
  | _, _, 0, r => r
  | _, _, _ + 1, .nil => .nil
  | _, _, n + 1, .cons _ t => Vals.drop n t
theorem Vals.none_of : ∀ {xs : List V} {us : List Value} {i : Nat}, Vals xs us → xs[i]? = none → us[i]? = none := fun {xs us i} r e => by
  have h1 := r.length
  have h2 : xs.length ≤ i := List.getElem?_eq_none_iff.mp e
  exact List.getElem?_eq_none_iff.mpr (by omega)

def RelO : Option V → Option Value → Prop
  | some v, some u => RelV v u
  | none, none => True
  | _, _ => False
def KV {κ : Type} : List (κ × V) → List (κ × Value) → Prop := Paired fun (p : κ × V) (q : κ × Value) => p.1 = q.1 ∧ RelV p.2 q.2

/-- a key of a dict (00_mix): an int or a text -/
def kV : Key → V
  | .inl i => .int i
  | .inr x => .str x

/-- what stands at a tracked address -/
inductive HO where
  /-- a list -/
  | lst (xs : List V)
  /-- a tuple (never changes) -/
  | tup (xs : List V)
  /-- a dict whose keys are ints and texts; one whose keys are tuples of ints and texts (the empty one is both) -/
  | dK (kvs : List (Key × V)) | dT (kvs : List (List Key × V))
  /-- a set of ints: its members, its size -/
  | set (S : Int → Bool) (n : Nat)
  /-- an instance of the class at C, its dict at dx, its attributes -/
  | ins (C dx : Addr) (fs : List (Str × V))
  /-- the dict of the instance at x -/
  | own (x : Addr)
  /-- the dict of an exception -/
  | xd (fs : List (Str × V))
  /-- a bound method, f of x -/
  | met (f x : Addr)
  /-- a range object lo, lo + 1, .. below hi -/
  | rng (lo hi : Int)
  /-- a thing that is known to the object (the script; a dict while a loop walks it): read, never written while it is so -/
  | frz (o : Obj) (u : HO)
  /-- a code object's table -/
  | tbl (ps : Array Value)
  /-- any other thing, by what is true of its one object (a def of one's own: SetO a S n := HO.ext fun h => ..) -/
  | ext (φ : Heap → Prop)

abbrev Hp := Addr → Option HO
def upd (H : Hp) (a : Addr) (o : HO) : Hp := fun b => if b = a then some o else H b
theorem upd_same {H : Hp} {a : Addr} {o : HO} : upd H a o a = some o := by unfold upd; rw [if_pos rfl]
theorem upd_ne {H : Hp} {a b : Addr} {o : HO} (h : b ≠ a) : upd H a o b = H b := by unfold upd; rw [if_neg h]
theorem upd_upd {H : Hp} {a : Addr} {o u : HO} : upd (upd H a o) a u = upd H a u := by
  funext b; unfold upd; split <;> rfl
/-- two objects of different content stand apart -/
theorem ne_of {H : Hp} {a b : Addr} {o u : HO} (h : H a = some o) (h' : H b = some u) (d : o ≠ u) : a ≠ b := by
  intro e; subst e; rw [h] at h'; exact d (Option.some.inj h')
theorem ne_of_none {H : Hp} {a b : Addr} {o : HO} (h : H a = some o) (h' : H b = none) : a ≠ b := by
  intro e; subst e; rw [h] at h'; cases h'

section
variable (P : Program) (w : World)
def ObjOk (H : Hp) (h : Heap) (a : Addr) : HO → Prop
  | .lst xs => xs.length ≤ sizeLine ∧ ∃ (its : List Value) (n : Nat), Vals xs its ∧ h.get? a = some { cls := .type "list", data := .seq its.toArray n }
  | .tup xs => xs.length ≤ sizeLine ∧ ∃ its : List Value, Vals xs its ∧ IsTup h a its.toArray
  | .dK kvs => kvs.length ≤ sizeLine ∧ (a == sysModules) = false ∧ ∃ vs, KV kvs vs ∧ h.DictOf (mixKind P w) a vs
  | .dT kvs => kvs.length ≤ sizeLine ∧ (a == sysModules) = false ∧ ∃ xs : List (List Key × Addr × Value),
      Paired (fun (p : List Key × V) (q : List Key × Addr × Value) => p.1 = q.1 ∧ H q.2.1 = some (.tup (p.1.map kV)) ∧ RelV p.2 q.2.2) kvs xs ∧
      ∃ o es ep, h.get? a = some o ∧ o.ExactDict ∧ o.data = .dict es ep ∧ es.toList = xs.map (entryOfKey (tupleKind (mixKind P w))) ∧ (xs.map (·.1)).Nodup
  | .set S n => h.SetOf (intKind P w) a S n
  | .ins C dx fs => H dx = some (.own a) ∧ fs.length ≤ 1000 ∧ dx ≠ a ∧ h.get? a = some (PySem.W.instObj C dx) ∧
      ∃ mA, h.Ns1 dx mA ∧ (∀ f, RelO (fs.lookup f) (mA f)) ∧ PySem.Within mA (fs.map (·.1))
  | .own _ => ∃ o, h.get? a = some o
  | .xd fs => ∃ mA, h.Ns1 a mA ∧ ∀ f, RelO (fs.lookup f) (mA f)
  | .rng lo hi => ∃ t u v, h.get? a = some { cls := .type "range", data := .fields #[.int lo t, .int hi u, .int 1 v] }
  | .frz o u => h.get? a = some o ∧ ObjOk H h a u
  | .tbl ps => h.get? a = some { cls := .none, data := .fields ps }
  | .met f x => h.get? a = some (PySem.W.methodObj (.ref f) (.ref x))
  | .ext φ => φ h ∧ (∃ o, h.get? a = some o) ∧ ∀ h1 h2 : Heap, φ h1 → (∀ o, h1.get? a = some o → h2.get? a = some o) → φ h2
/-- the abstract heap is held -/
def HOk (H : Hp) (h : Heap) : Prop := ∀ a o, H a = some o → ObjOk P w H h a o
end

section
variable {P : Program} {w : World} {H H' : Hp} {h h' : Heap} {a : Addr} {o : HO}
theorem ObjOk.lt (x : ObjOk P w H h a o) : a < h.objs.size := by
  cases o with
  | lst xs => obtain ⟨_, _, _, _, e⟩ := x; exact Heap.lt_size e
  | tup xs => obtain ⟨_, _, _, p⟩ := x; exact p.lt
  | dK kvs => obtain ⟨_, _, _, _, o, _, _, e, _⟩ := x; exact Heap.lt_size e
  | dT kvs => obtain ⟨_, _, _, _, o, _, _, e, _⟩ := x; exact Heap.lt_size e
  | set S n => obtain ⟨o, _, _, _, e, _⟩ := x; exact Heap.lt_size e
  | ins C dx fs => obtain ⟨_, _, _, e, _⟩ := x; exact Heap.lt_size e
  | own y => obtain ⟨_, e⟩ := x; exact Heap.lt_size e
  | xd fs => obtain ⟨_, ⟨_, _, _, e, _⟩, _⟩ := x; exact Heap.lt_size e
  | rng lo hi => obtain ⟨_, _, _, e⟩ := x; exact Heap.lt_size e
  | frz ob u => obtain ⟨e, _⟩ := x; exact Heap.lt_size e
  | tbl ps => exact Heap.lt_size (show h.get? a = some _ from x)
  | met f y => exact Heap.lt_size (show h.get? a = some _ from x)
  | ext φ => obtain ⟨_, ⟨_, e⟩, _⟩ := x; exact Heap.lt_size e
theorem Paired.mapP {α β : Type} {F G : α → β → Prop} : ∀ {l₁ : List α} {l₂ : List β}, Paired F l₁ l₂ → (∀ a b, F a b → G a b) → Paired G l₁ l₂
  | _, _, .nil, _ => .nil
  | _, _, .cons r t, f => .cons (f _ _ r) (Paired.mapP t f)
theorem Paired.imp' {α β : Type} {F G : α → β → Prop} (f : ∀ a b, F a b → G a b) {l₁ : List α} {l₂ : List β} (r : Paired F l₁ l₂) : Paired G l₁ l₂ := Paired.mapP r f
/-- what an object's description leans on: its own object, its own dict, the tuples -/
theorem ObjOk.stay (x : ObjOk P w H h a o) (k : ∀ b u, (b = a ∨ H b = some (.own a)) → h.get? b = some u → h'.get? b = some u)
    (ho : ∀ b, H b = some (.own a) → H' b = some (.own a)) (ht : ∀ b xs, H b = some (.tup xs) → H' b = some (.tup xs)) : ObjOk P w H' h' a o := by
  induction o with
  | lst xs => obtain ⟨z, its, n, r, e⟩ := x; exact ⟨z, its, n, r, k _ _ (.inl rfl) e⟩
  | tup xs => obtain ⟨z, its, r, ob, e, c⟩ := x; exact ⟨z, its, r, ob, k _ _ (.inl rfl) e, c⟩
  | dK kvs => obtain ⟨z, y, vs, r, ob, es, ep, e, c⟩ := x; exact ⟨z, y, vs, r, ob, es, ep, k _ _ (.inl rfl) e, c⟩
  | dT kvs =>
    obtain ⟨z, y, xs, r, ob, es, ep, e, c⟩ := x
    exact ⟨z, y, xs, Paired.mapP r fun p q z => ⟨z.1, ht _ _ z.2.1, z.2.2⟩, ob, es, ep, k _ _ (.inl rfl) e, c⟩
  | set S n => obtain ⟨ob, es, ep, t, e, c⟩ := x; exact ⟨ob, es, ep, t, k _ _ (.inl rfl) e, c⟩
  | ins C dx fs =>
    obtain ⟨d, z, ne, e, mA, ⟨od, es, ep, e2, c⟩, r⟩ := x
    exact ⟨ho _ d, z, ne, k _ _ (.inl rfl) e, mA, ⟨od, es, ep, k _ _ (.inr d) e2, c⟩, r⟩
  | own y => obtain ⟨ob, e⟩ := x; exact ⟨ob, k _ _ (.inl rfl) e⟩
  | xd fs => obtain ⟨mA, ⟨od, es, ep, e, c⟩, r⟩ := x; exact ⟨mA, ⟨od, es, ep, k _ _ (.inl rfl) e, c⟩, r⟩
  | rng lo hi => obtain ⟨t, u, v, e⟩ := x; exact ⟨t, u, v, k _ _ (.inl rfl) e⟩
  | frz ob u ih => obtain ⟨e, q⟩ := x; exact ⟨k _ _ (.inl rfl) e, ih q⟩
  | tbl ps =>
    have e : h.get? a = some { cls := .none, data := .fields ps } := x
    show h'.get? a = some { cls := .none, data := .fields ps }
    exact k a _ (.inl rfl) e
  | met f y =>
    have e : h.get? a = some (PySem.W.methodObj (.ref f) (.ref y)) := x
    show h'.get? a = some (PySem.W.methodObj (.ref f) (.ref y))
    exact k a _ (.inl rfl) e
  | ext φ => obtain ⟨p, ⟨o, e⟩, st⟩ := x; exact ⟨st _ _ p fun o q => k _ _ (.inl rfl) q, ⟨o, k _ _ (.inl rfl) e⟩, st⟩
theorem HOk.lt (x : HOk P w H h) (e : H a = some o) : a < h.objs.size := (x a o e).lt
theorem HOk.fresh (x : HOk P w H h) (e : h.objs.size ≤ a) : H a = none := by
  cases q : H a with
  | none => rfl
  | some u => exact absurd (Nat.lt_of_lt_of_le (x.lt q) e) (Nat.lt_irrefl _)
/-- every object of the heap is kept -/
theorem HOk.kept (x : HOk P w H h) (k : ∀ b u, h.get? b = some u → h'.get? b = some u) : HOk P w H h' := fun a o e =>
  (x a o e).stay (fun b u _ q => k b u q) (fun _ q => q) fun _ _ q => q
/-- a new object is laid and tracked -/
theorem HOk.laid (x : HOk P w H h) (k : ∀ b u, h.get? b = some u → h'.get? b = some u) (hp : h.objs.size ≤ a) (new : ObjOk P w (upd H a o) h' a o) : HOk P w (upd H a o) h' := fun b u e => by
  have hn := x.fresh hp
  by_cases hb : b = a
  · subst hb; rw [upd_same] at e; cases e; exact new
  · rw [upd_ne hb] at e
    exact (x b u e).stay (fun c v _ q => k c v q) (fun c q => by rw [upd_ne (ne_of_none q hn)]; exact q) fun c xs q => by rw [upd_ne (ne_of_none q hn)]; exact q
end

/-- what may be read as u: it is u, or a known u -/
def Rd (H : Hp) (a : Addr) (u : HO) : Prop := H a = some u ∨ ∃ o, H a = some (.frz o u)
theorem Rd.of {H : Hp} {a : Addr} {u : HO} (h : H a = some u) : Rd H a u := .inl h
theorem Rd.ok {P : Program} {w : World} {H : Hp} {h : Heap} {a : Addr} {u : HO} (r : Rd H a u) (x : HOk P w H h) : ObjOk P w H h a u := by
  rcases r with r | ⟨o, r⟩
  · exact x a u r
  · obtain ⟨_, q⟩ := x a _ r
    exact q
/-- what may be written -/
def Mut : Option HO → Prop
  | some (.lst _) => True
  | some (.dK _) => True
  | some (.dT _) => True
  | some (.set _ _) => True
  | some (.ins _ _ _) => True
  | some (.ext _) => True
  | _ => False
section
variable {P : Program} {w : World} {H : Hp} {h h' : Heap} {x e : Addr} {o' : HO}
/-- the object at e is changed: x itself, or the dict of the instance x -/
theorem HOk.write (ok : HOk P w H h) (mu : Mut (H x)) (he : e = x ∨ H e = some (.own x)) (k : ∀ b u, b ≠ e → h.get? b = some u → h'.get? b = some u) (heo : ∃ u, h'.get? e = some u)
    (new : ObjOk P w (upd H x o') h' x o') : HOk P w (upd H x o') h' := fun b u q => by
  have nown : ∀ c y, H c = some (.own y) → c ≠ x := fun c y r z => by subst z; rw [r] at mu; exact mu
  have ntup : ∀ c xs, H c = some (.tup xs) → c ≠ x := fun c xs r z => by subst z; rw [r] at mu; exact mu
  by_cases hb : b = x
  · subst hb; rw [upd_same] at q; cases q; exact new
  · rw [upd_ne hb] at q
    by_cases hbe : b = e
    · have q' : H b = some (.own x) := by
        rcases he with z | z
        · exact absurd (hbe.trans z) hb
        · rw [hbe]; exact z
      rw [q] at q'; cases q'
      obtain ⟨v, hv⟩ := heo
      exact ⟨v, by rw [hbe]; exact hv⟩
    · refine (ok b u q).stay (fun c v hc r => k c v ?_ r) (fun c r => by rw [upd_ne (nown c b r)]; exact r) fun c xs r => by rw [upd_ne (ntup c xs r)]; exact r
      rcases hc with rfl | hc
      · exact hbe
      · rintro rfl
        rcases he with z | z
        · exact nown c b hc z
        · rw [hc] at z; cases z; exact hb rfl
end

/-! ### kept unless tracked; of the frames at fs (the callers') the slots may change (an exception that passes writes there); of the records at ex (iterators) nothing is said -/
structure Un (fs ex : List Addr) (H H' : Hp) (h h' : Heap) : Prop where
  keep : ∀ b o, h.get? b = some o → H b = none → b ∉ fs → b ∉ ex → h'.get? b = some o
  slot : ∀ b o, h.get? b = some o → H b = none → b ∈ fs → b ∉ ex → ∃ sl, h'.get? b = some { o with slots := sl }
  free : ∀ b o, h.get? b = some o → H b = none → b ∉ ex → H' b = none
  there : ∀ b o, h.get? b = some o → b ∉ ex → ∃ o', h'.get? b = some o'
  tups : ∀ b xs, H b = some (.tup xs) → H' b = some (.tup xs)
  frzs : ∀ b o u, H b = some (.frz o u) → H' b = some (.frz o u)
  tbls : ∀ b ps, H b = some (.tbl ps) → ∃ more, H' b = some (.tbl (ps ++ more))
section
variable {fs fs' ex ex' : List Addr} {H H1 H2 : Hp} {h h1 h2 h' : Heap} {a x e : Addr} {o : HO}
theorem Un.any (u : Un fs ex H H1 h h1) {b : Addr} {ob : Obj} (q : h.get? b = some ob) (n : H b = none) (hx : b ∉ ex) : ∃ sl, h1.get? b = some { ob with slots := sl } := by
  by_cases hb : b ∈ fs
  · exact u.slot b ob q n hb hx
  · exact ⟨ob.slots, u.keep b ob q n hb hx⟩
theorem Un.trans (a : Un fs ex H H1 h h1) (b : Un fs ex H1 H2 h1 h2) : Un fs ex H H2 h h2 where
  keep := fun c ob q n hc hx => b.keep c ob (a.keep c ob q n hc hx) (a.free c ob q n hx) hc hx
  slot := fun c ob q n hc hx => by
    obtain ⟨sl, e1⟩ := a.slot c ob q n hc hx
    obtain ⟨sl', e2⟩ := b.slot c _ e1 (a.free c ob q n hx) hc hx
    exact ⟨sl', e2⟩
  free := fun c ob q n hx => by
    obtain ⟨o', e1⟩ := a.there c ob q hx
    exact b.free c o' e1 (a.free c ob q n hx) hx
  there := fun c ob q hx => by
    obtain ⟨o', e1⟩ := a.there c ob q hx
    exact b.there c o' e1 hx
  tups := fun c xs q => b.tups c xs (a.tups c xs q)
  frzs := fun c ob xs q => b.frzs c ob xs (a.frzs c ob xs q)
  tbls := fun c ps q => by
    obtain ⟨m1, e1⟩ := a.tbls c ps q
    obtain ⟨m2, e2⟩ := b.tbls c _ e1
    exact ⟨m1 ++ m2, by rw [e2, Array.append_assoc]⟩
theorem Un.kept (k : ∀ b u, h.get? b = some u → h'.get? b = some u) : Un fs ex H H h h' :=
  ⟨fun b ob q _ _ _ => k b ob q, fun b ob q _ _ _ => ⟨ob.slots, k b ob q⟩, fun _ _ _ n _ => n, fun b ob q _ => ⟨ob, k b ob q⟩, fun _ _ q => q, fun _ _ _ q => q, fun _ ps q => ⟨#[], by rw [q]; simp⟩⟩
theorem Un.refl : Un fs ex H H h h := Un.kept fun _ _ q => q
theorem Un.laid (k : ∀ b u, h.get? b = some u → h'.get? b = some u) (hp : h.objs.size ≤ a) (hn : H a = none) : Un fs ex H (upd H a o) h h' where
  keep := fun b u q _ _ _ => k b u q
  slot := fun b u q _ _ _ => ⟨u.slots, k b u q⟩
  free := fun b u q n _ => by rw [upd_ne (Nat.ne_of_lt (Nat.lt_of_lt_of_le (Heap.lt_size q) hp))]; exact n
  there := fun b u q _ => ⟨u, k b u q⟩
  tups := fun b xs q => by rw [upd_ne (ne_of_none q hn)]; exact q
  frzs := fun b u xs q => by rw [upd_ne (ne_of_none q hn)]; exact q
  tbls := fun b ps q => ⟨#[], by rw [upd_ne (ne_of_none q hn), q]; simp⟩
theorem Un.write (mu : Mut (H x)) (he : e = x ∨ H e = some (.own x)) (k : ∀ b u, b ≠ e → h.get? b = some u → h'.get? b = some u) (heo : ∃ u, h'.get? e = some u) : Un fs ex H (upd H x o) h h' := by
  have hx : ∀ b, H b = none → b ≠ x := fun b n z => by subst z; rw [n] at mu; exact mu
  have hb : ∀ b, H b = none → b ≠ e := fun b n z => by
    subst z
    rcases he with r | r
    · exact hx b n r
    · rw [n] at r; cases r
  have hm : ∀ b u, H b = some u → ¬ Mut (some u) → b ≠ x := fun b u q nm z => by subst z; rw [q] at mu; exact nm mu
  refine ⟨fun b u q n _ _ => k b u (hb b n) q, fun b u q n _ _ => ⟨u.slots, k b u (hb b n) q⟩, fun b u q n _ => by rw [upd_ne (hx b n)]; exact n, fun b u q _ => ?_,
    fun b xs q => by rw [upd_ne (hm b _ q fun z => z)]; exact q, fun b u xs q => by rw [upd_ne (hm b _ q fun z => z)]; exact q, fun b ps q => ⟨#[], by rw [upd_ne (hm b _ q fun z => z), q]; simp⟩⟩
  by_cases hbe : b = e
  · subst hbe; exact heo
  · exact ⟨u, k b u hbe q⟩
theorem Un.mono (u : Un fs ex H H1 h h1) (hs : ∀ b ∈ fs, b ∈ fs') (hx : ∀ b ∈ ex, b ∈ ex') : Un fs' ex' H H1 h h1 :=
  ⟨fun b ob q n hb he => u.keep b ob q n (fun z => hb (hs b z)) fun z => he (hx b z), fun _ _ q n _ he => u.any q n fun z => he (hx _ z), fun b ob q n he => u.free b ob q n fun z => he (hx b z), fun b ob q he => u.there b ob q fun z => he (hx b z), u.tups, u.frzs, u.tbls⟩
end

/-! ### the heap without what is tracked -/
def trk (h : Heap) (H : Hp) : List Addr := (List.range h.objs.size).filter fun a => (H a).isSome
def hidT (h : Heap) (H : Hp) : Heap := PySem.W.hideAll h (trk h H)
theorem hidT_size (h : Heap) (H : Hp) : (hidT h H).objs.size = h.objs.size := PySem.W.hideAll_size _ _
theorem hidT_get {h : Heap} {H : Hp} {b : Addr} {o : Obj} (e : h.get? b = some o) (n : H b = none) : (hidT h H).get? b = some o :=
  PySem.W.hideAll_get _ e fun hm => by
    have q : (H b).isSome = true := (List.mem_filter.mp hm).2
    rw [n] at q; simp at q
theorem of_hidT {h : Heap} {H : Hp} {b : Addr} {o : Obj} (e : (hidT h H).get? b = some o) : h.get? b = some o ∧ H b = none := by
  have e' : h.get? b = some o := PySem.W.of_hideAll (trk h H) e
  refine ⟨e', ?_⟩
  cases q : H b with
  | none => rfl
  | some x =>
    have hm : b ∈ trk h H := List.mem_filter.mpr ⟨List.mem_range.mpr (Heap.lt_size e'), by simp [q]⟩
    have z : (hidT h H).get? b = none := PySem.W.hideAll_none (trk h H) hm
    rw [z] at e; cases e

/-! ### OpenK's ledger, filled with every new object but one -/
def allNews (g h : Heap) (L : Addr) : List (Addr × Obj) := (List.range h.objs.size).filterMap fun a => if a = L ∨ (g.get? a).isSome = true then none else (h.get? a).map fun o => (a, o)
theorem mem_allNews {g h : Heap} {L a : Addr} {o : Obj} (h1 : a ≠ L) (h2 : g.get? a = none) (h3 : h.get? a = some o) : (a, o) ∈ allNews g h L :=
  List.mem_filterMap.mpr ⟨a, List.mem_range.mpr (Heap.lt_size h3), by simp [h1, h2, h3]⟩
theorem of_mem_allNews {g h : Heap} {L : Addr} {p : Addr × Obj} (hp : p ∈ allNews g h L) : p.1 ≠ L ∧ g.get? p.1 = none ∧ h.get? p.1 = some p.2 := by
  obtain ⟨b, _, e⟩ := List.mem_filterMap.mp hp
  split at e
  · cases e
  · rename_i hn
    cases q : h.get? b with
    | none => rw [q] at e; simp at e
    | some u =>
      rw [q] at e
      simp only [Option.map_some, Option.some.injEq] at e
      subst e
      refine ⟨fun z => hn (.inl z), ?_, q⟩
      show g.get? b = none
      cases r : g.get? b with
      | none => rfl
      | some v => exact (hn (.inr (by simp [r]))).elim
def rest (g h : Heap) (L d : Addr) : List (Addr × Obj) := (allNews g h L).filter fun p => decide (p.1 ≠ d)
theorem rest_ne {g h : Heap} {L d : Addr} : ∀ p ∈ rest g h L d, p.1 ≠ d := fun p hp => of_decide_eq_true (List.mem_filter.mp hp).2
theorem mem_rest {g h : Heap} {L d a : Addr} {o : Obj} (h1 : a ≠ L) (h2 : g.get? a = none) (h3 : h.get? a = some o) (h4 : a ≠ d) : (a, o) ∈ rest g h L d :=
  List.mem_filter.mpr ⟨mem_allNews h1 h2 h3, decide_eq_true h4⟩
theorem news_all {g h : Heap} {L : Addr} : News g L h (allNews g h L) := fun p hp => let ⟨a, b, c⟩ := of_mem_allNews hp; ⟨c, a, b⟩
theorem news_at {g h : Heap} {L d : Addr} {o : Obj} (h1 : d ≠ L) (h2 : g.get? d = none) (h3 : h.get? d = some o) : News g L h ((d, o) :: rest g h L d) := fun p hp => by
  rcases List.mem_cons.mp hp with rfl | hp
  · exact ⟨h3, h1, h2⟩
  · exact news_all p (List.mem_filter.mp hp).1
/-- behind a rule that changed d alone: all else but the frame is kept -/
theorem kept_of_news {g h h' : Heap} {L d : Addr} {m : Str → Option Value} (k : ∀ b o, g.get? b = some o → h.get? b = some o) (F : Fr g L h' m) (N : News g L h' (rest g h L d)) :
    ∀ b o, b ≠ L → b ≠ d → h.get? b = some o → h'.get? b = some o := fun b o h1 h2 e => by
  cases q : g.get? b with
  | some u =>
    have := k b u q
    rw [e] at this; cases this
    exact F.keep b _ q
  | none => exact (N (b, o) (mem_rest h1 q e h2)).1
end L2

namespace L2
open PySem PySem.Spec PyProof.Rows

/-- the module's facts, over the base: the heap at the law's entry without what is tracked there -/
structure Mod (K : PySem.W.Frag) (mg : Str → Option Value) (base : Heap) : Prop where
  kin : K.In base
  glob : base.Ns mainGlobals mg
  blt : ∃ mb, base.Ns builtinsNs mb ∧ ∀ x : Str, x ≠ "__name__" → mb x = bootBuiltins x
  nolimit : base.NoLimit

/-- the context: a def's body (or a comprehension's block) running. base: fixed through the whole law; s₀, H₀: the entry; outer: the frames whose slots others may change (a def's callers); stack: all frames that run;
   ex: iterators that were made ahead of the entry and are walked here (a comprehension's); fn: the names whose cells were made at the entry (a def: all; a comprehension's block: its own); calm: not within an except suite; pn: pins that every state bears; xe: what is wanted of an exception that leaves the code -/
structure Cx where
  prog : Program
  w : World
  K : PySem.W.Frag
  mg : Str → Option Value
  base : Heap
  A : Around
  N : List Str
  s₀ : Shared
  H₀ : Hp
  env : Env
  outer : List Env
  stack : List Env
  ex : List Addr
  fn : Str → Bool
  calm : Bool
  pn : List (Addr × Obj)
  xe : Value → Shared → Prop
/-- the callers' frames -/
def frs (l : List Env) : List Addr := l.filterMap (·.frame)
abbrev Cx.fs (X : Cx) : List Addr := frs X.outer

def Vis (sc : Scope) (x : Str) : Prop := sc.names.lookup x = some .local ∨ sc.names.lookup x = some .cell ∨ sc.names.lookup x = some .free
def Loc (sc : Scope) (x : Str) : Prop := sc.names.lookup x = some .local ∨ sc.names.lookup x = some .cell
def Look (env : Env) (h : Heap) (m : Str → Option Value) (x : Str) (u : Value) : Prop :=
  (env.kindOf x = some .local ∧ m x = some u) ∨ ((env.kindOf x = some .cell ∨ env.kindOf x = some .free) ∧ ∃ c, env.cells.lookup x = some c ∧ h.IsCell c (some u))

structure Cx.Ok (X : Cx) : Prop where
  mod : Mod X.K X.mg X.base
  kind : X.env.scope.kind = .function
  glob : X.env.globals = mainGlobals
  blt : X.env.builtins = builtinsNs
  above : X.s₀.heap.objs.size ≤ X.env.locals
  inj : ∀ x y c, X.env.cells.lookup x = some c → X.env.cells.lookup y = some c → x = y
  has : ∀ x, (X.env.kindOf x = some .cell ∨ X.env.kindOf x = some .free) → ∃ c, X.env.cells.lookup x = some c
  cab : ∀ x c, X.fn x = true → X.env.cells.lookup x = some c → X.s₀.heap.objs.size ≤ c
  hd : X.calm = true → X.A.handled = none
  frames : X.A.frames = some X.stack
  stk : X.stack = X.outer ∨ (X.stack = X.env :: X.outer ∧ X.env.frame = some X.env.locals)
  exf : ∀ b ∈ X.ex, b ≠ X.env.locals ∧ ∀ x c, X.env.cells.lookup x = some c → c ≠ b
  bs : ∀ b o, X.base.get? b = some o → X.s₀.heap.get? b = some o ∧ X.H₀ b = none
  bsz : X.base.objs.size ≤ X.s₀.heap.objs.size
  noex : ∀ b o, X.base.get? b = some o → b ∉ X.ex
  exfs : ∀ b ∈ X.ex, b ∉ X.fs
  funs : X.s₀.heap.FunFrames X.base X.outer
  frf : ∀ b ∈ X.fs, X.H₀ b = none

structure Inv (X : Cx) (pins : List (Addr × Obj)) (σ : List (Option V)) (H : Hp) (s : Shared) : Prop where
  ok : X.Ok
  os : s.os = X.s₀.os
  bare : AllBare s.gens
  base : Un X.fs X.ex X.H₀ H X.s₀.heap s.heap
  loc : ∃ m, s.heap.Ns X.env.locals m ∧ ∀ (i : Nat) (x : Str) (v : V), X.N[i]? = some x → σ[i]? = some (some v) → Vis X.env.scope x → ∃ u, RelV v u ∧ Look X.env s.heap m x u
  cell : ∀ x c, X.env.cells.lookup x = some c → ∃ v, s.heap.IsCell c v
  free : H X.env.locals = none
  freeC : ∀ x c, X.env.cells.lookup x = some c → H c = none
  pin : ∀ p ∈ X.pn ++ pins, s.heap.get? p.1 = some p.2 ∧ H p.1 = none ∧ p.1 ≠ X.env.locals ∧ p.1 ∉ X.fs ∧ ∀ v, p.2.data ≠ .cell v
  hok : HOk X.prog X.w H s.heap
  len : σ.length = X.N.length

section
variable {X : Cx} {pins : List (Addr × Obj)} {σ : List (Option V)} {H H' : Hp} {s : Shared} {h' : Heap}

theorem Cx.Ok.nofr (ok : X.Ok) {b : Addr} {o : Obj} (e : X.base.get? b = some o) : b ∉ X.fs := fun hb => by
  have := (ok.funs.mem hb).1
  rw [e] at this; cases this
theorem Inv.bs (I : Inv X pins σ H s) : ∀ b o, X.base.get? b = some o → s.heap.get? b = some o ∧ H b = none := fun b o e =>
  ⟨I.base.keep b o (I.ok.bs b o e).1 (I.ok.bs b o e).2 (I.ok.nofr e) (I.ok.noex b o e), I.base.free b o (I.ok.bs b o e).1 (I.ok.bs b o e).2 (I.ok.noex b o e)⟩
theorem Inv.bk (I : Inv X pins σ H s) : ∀ b o, X.base.get? b = some o → s.heap.get? b = some o := fun b o e => (I.bs b o e).1
theorem Inv.mod (I : Inv X pins σ H s) : Mod X.K X.mg X.base := I.ok.mod
theorem Inv.kIn (I : Inv X pins σ H s) : X.K.In s.heap := I.ok.mod.kin.keeps I.bk
theorem Inv.nolimit (I : Inv X pins σ H s) : s.heap.NoLimit := I.ok.mod.nolimit.keeps I.bk
/-- the frame over the base: for OpenK's rules (K.In X.base is I.mod.kin) -/
theorem Inv.fr (I : Inv X pins σ H s) : ∃ m, Fr X.base X.env.locals s.heap m :=
  let ⟨m, hn, _⟩ := I.loc
  ⟨m, hn, I.bk, Nat.le_trans I.ok.bsz I.ok.above⟩
theorem Inv.lt (I : Inv X pins σ H s) : X.env.locals < s.heap.objs.size := let ⟨_, hn, _⟩ := I.loc; hn.lt
theorem Inv.sz (I : Inv X pins σ H s) : X.s₀.heap.objs.size ≤ s.heap.objs.size := Nat.le_trans I.ok.above (Nat.le_of_lt I.lt)
theorem Inv.nofs (I : Inv X pins σ H s) {a : Addr} (h : s.heap.objs.size ≤ a) : a ∉ X.fs := fun hb => by
  obtain ⟨_, o, ho, _⟩ := I.ok.funs.mem hb
  exact absurd (Nat.lt_of_lt_of_le (Heap.lt_size ho) (Nat.le_trans I.sz h)) (Nat.lt_irrefl _)
theorem Inv.cne (I : Inv X pins σ H s) : ∀ x c, X.env.cells.lookup x = some c → c ≠ X.env.locals := fun x c e z => by
  obtain ⟨v, o, ho, hd⟩ := I.cell x c e
  obtain ⟨m, ⟨o', es, ep, ho', hd', _⟩, _⟩ := I.loc
  rw [z, ho'] at ho; cases ho; rw [hd'] at hd; cases hd
theorem Inv.funs (I : Inv X pins σ H s) : s.heap.FunFrames X.base X.outer := by
  have all : ∀ (l : List Env), (∀ b ∈ frs l, b ∈ X.fs) → X.s₀.heap.FunFrames X.base l → s.heap.FunFrames X.base l := by
    intro l
    induction l with
    | nil => intro _ _; trivial
    | cons env r ih =>
      intro hs hl
      obtain ⟨hk, ⟨L, o, hf, hn, ho, hd⟩, hr⟩ := hl
      have hL : L ∈ X.fs := hs L (by unfold frs; rw [List.filterMap_cons, hf]; exact List.mem_cons_self)
      obtain ⟨sl, e⟩ := I.base.slot L o ho (I.ok.frf L hL) hL fun z => I.ok.exfs L z hL
      exact ⟨hk, ⟨L, _, hf, hn, e, hd⟩, ih (fun b hb => hs b (by unfold frs; rw [List.filterMap_cons, hf]; exact List.mem_cons_of_mem _ hb)) hr⟩
  exact all X.outer (fun _ hb => hb) I.ok.funs

/-- the frames that run, for a call -/
theorem Inv.stack (I : Inv X pins σ H s) : s.heap.FunFrames X.base X.stack := by
  rcases I.ok.stk with e | ⟨e, hf⟩
  · rw [e]; exact I.funs
  · rw [e]
    obtain ⟨m, hn, _⟩ := I.loc
    refine .cons (by rw [I.ok.kind]; decide) hf hn ?_ I.funs
    exact Heap.get?_none_of_le (Nat.le_trans I.ok.bsz I.ok.above)
theorem Inv.stkSub (I : Inv X pins σ H s) : ∀ b ∈ frs X.stack, b ∈ X.env.locals :: X.fs := fun b hb => by
  rcases I.ok.stk with e | ⟨e, hf⟩
  · rw [e] at hb; exact List.mem_cons_of_mem _ hb
  · rw [e] at hb
    unfold frs at hb
    rw [List.filterMap_cons, hf] at hb
    exact hb
theorem Inv.stkFree (I : Inv X pins σ H s) : ∀ b ∈ frs X.stack, H b = none := fun b hb => by
  rcases List.mem_cons.mp (I.stkSub b hb) with e | hb
  · rw [e]; exact I.free
  · obtain ⟨_, o, ho, _⟩ := I.ok.funs.mem hb
    exact I.base.free b o ho (I.ok.frf b hb) fun z => I.ok.exfs b z hb

/-- THE STEP: the untracked objects but the frame and the records at ch are kept (the callers' frames up to slots), the frame's map is kept, the new abstract heap is held -/
theorem Inv.step {g' : Array GenState} {t' : Nat} {d' : Drawn} {ch : List Addr} (I : Inv X pins σ H s)
    (hch : ∀ b ∈ ch, (b ∈ X.ex ∨ X.s₀.heap.objs.size ≤ b) ∧ b ≠ X.env.locals ∧ (∀ x c, X.env.cells.lookup x = some c → c ≠ b) ∧ ∀ p ∈ X.pn ++ pins, p.1 ≠ b)
    (keep : ∀ b o, b ≠ X.env.locals → b ∉ X.fs → b ∉ ch → s.heap.get? b = some o → H b = none → h'.get? b = some o)
    (slot : ∀ b o, b ≠ X.env.locals → b ∈ X.fs → b ∉ ch → s.heap.get? b = some o → H b = none → ∃ sl, h'.get? b = some { o with slots := sl }) (free : ∀ b o, b ∉ ch → s.heap.get? b = some o → H b = none → H' b = none)
    (there : ∀ b o, b ∉ ch → s.heap.get? b = some o → ∃ o', h'.get? b = some o')
    (tups : ∀ b xs, H b = some (.tup xs) → H' b = some (.tup xs)) (frzs : ∀ b o u, H b = some (.frz o u) → H' b = some (.frz o u)) (tbls : ∀ b ps, H b = some (.tbl ps) → ∃ more, H' b = some (.tbl (ps ++ more)))
    (ns : ∀ m, s.heap.Ns X.env.locals m → h'.Ns X.env.locals m) (hok : HOk X.prog X.w H' h') (hg : AllBare g') :
    Inv X pins σ H' { s with heap := h', gens := g', drawn := d', toks := t' } := by
  have neL : ∀ b o, X.s₀.heap.get? b = some o → b ≠ X.env.locals := fun b o e => Nat.ne_of_lt (Nat.lt_of_lt_of_le (Heap.lt_size e) I.ok.above)
  have neC : ∀ b o, X.s₀.heap.get? b = some o → b ∉ X.ex → b ∉ ch := fun b o e hx hb => by
    rcases (hch b hb).1 with z | z
    · exact hx z
    · exact absurd (Nat.lt_of_lt_of_le (Heap.lt_size e) z) (Nat.lt_irrefl _)
  have cellK : ∀ x c, X.env.cells.lookup x = some c → ∀ v, s.heap.IsCell c v → h'.IsCell c v := fun x c e v ⟨o, ho, hd⟩ => by
    have nch : c ∉ ch := fun z => (hch c z).2.2.1 x c e rfl
    by_cases hc : c ∈ X.fs
    · obtain ⟨sl, q⟩ := slot c o (I.cne x c e) hc nch ho (I.freeC x c e)
      exact ⟨_, q, hd⟩
    · exact ⟨o, keep c o (I.cne x c e) hc nch ho (I.freeC x c e), hd⟩
  refine ⟨I.ok, I.os, hg, ⟨fun b o e n hb hx => ?_, fun b o e n hb hx => ?_, fun b o e n hx => ?_, fun b o e hx => ?_, fun b xs e => tups b xs (I.base.tups b xs e), fun b o xs e => frzs b o xs (I.base.frzs b o xs e), fun b ps e => ?_⟩, ?_, fun x c e => ?_, ?_, fun x c e => ?_, fun p hp => ?_, hok, I.len⟩
  · exact keep b o (neL b o e) hb (neC b o e hx) (I.base.keep b o e n hb hx) (I.base.free b o e n hx)
  · obtain ⟨sl, e1⟩ := I.base.slot b o e n hb hx
    obtain ⟨sl', e2⟩ := slot b _ (neL b o e) hb (neC b o e hx) e1 (I.base.free b o e n hx)
    exact ⟨sl', e2⟩
  · obtain ⟨o', e1⟩ := I.base.there b o e hx
    exact free b o' (neC b o e hx) e1 (I.base.free b o e n hx)
  · obtain ⟨o', e1⟩ := I.base.there b o e hx
    exact there b o' (neC b o e hx) e1
  · obtain ⟨m1, e1⟩ := I.base.tbls b ps e
    obtain ⟨m2, e2⟩ := tbls b _ e1
    exact ⟨m1 ++ m2, by rw [e2, Array.append_assoc]⟩
  · obtain ⟨m, hn, hl⟩ := I.loc
    refine ⟨m, ns m hn, fun i x v e1 e2 e3 => ?_⟩
    obtain ⟨u, r, l⟩ := hl i x v e1 e2 e3
    refine ⟨u, r, ?_⟩
    rcases l with l | ⟨k, c, e, z⟩
    · exact .inl l
    · exact .inr ⟨k, c, e, cellK x c e _ z⟩
  · obtain ⟨v, z⟩ := I.cell x c e
    exact ⟨v, cellK x c e v z⟩
  · obtain ⟨m, ⟨o, _, _, ho, _⟩, _⟩ := I.loc
    exact free _ o (fun z => (hch _ z).2.1 rfl) ho I.free
  · obtain ⟨v, o, ho, hd⟩ := I.cell x c e
    exact free c o (fun z => (hch c z).2.2.1 x c e rfl) ho (I.freeC x c e)
  · obtain ⟨e, n, ne, nf, d⟩ := I.pin p hp
    have nch : p.1 ∉ ch := fun z => (hch p.1 z).2.2.2 p hp rfl
    exact ⟨keep p.1 p.2 ne nf nch e n, free p.1 p.2 nch e n, ne, nf, d⟩
/-- .. where the frame's own object is kept too -/
theorem Inv.un {t' : Nat} (I : Inv X pins σ H s) (u : Un X.fs [] H H' s.heap h') (hok : HOk X.prog X.w H' h') : Inv X pins σ H' { s with heap := h', toks := t' } := by
  obtain ⟨m, ⟨o, es, ep, ho, r⟩, _⟩ := id I.loc
  obtain ⟨sl, hL⟩ := u.any ho I.free (by simp)
  exact I.step (g' := s.gens) (d' := s.drawn) (ch := []) (fun _ z => nomatch z) (fun b o _ hb _ e n => u.keep b o e n hb (by simp)) (fun b o _ hb _ e n => u.slot b o e n hb (by simp)) (fun b o _ e n => u.free b o e n (by simp)) (fun b o _ e => u.there b o e (by simp)) u.tups u.frzs u.tbls (fun m' hm => by
    obtain ⟨o', es', ep', ho', r'⟩ := hm
    rw [ho] at ho'; cases ho'
    exact ⟨_, es', ep', hL, r'⟩) hok I.bare
/-- behind a call (or a comprehension's block): the slots of this frame may have changed too, the records at ch may have turned -/
theorem Inv.call {g' : Array GenState} {t' : Nat} {d' : Drawn} {ch : List Addr} (I : Inv X pins σ H s) (u : Un (frs X.stack) ch H H' s.heap h') (hok : HOk X.prog X.w H' h') (hg : AllBare g')
    (hch : ∀ b ∈ ch, (b ∈ X.ex ∨ X.s₀.heap.objs.size ≤ b) ∧ b ≠ X.env.locals ∧ (∀ x c, X.env.cells.lookup x = some c → c ≠ b) ∧ ∀ p ∈ X.pn ++ pins, p.1 ≠ b) :
    Inv X pins σ H' { s with heap := h', gens := g', drawn := d', toks := t' } := by
  obtain ⟨m, ⟨o, es, ep, ho, r⟩, _⟩ := id I.loc
  obtain ⟨sl, hL⟩ := u.any ho I.free fun z => (hch _ z).2.1 rfl
  exact I.step (ch := ch) hch (fun b o hL hb hc e n => u.keep b o e n (fun z => (List.mem_cons.mp (I.stkSub b z)).elim hL hb) hc) (fun b o _ _ hc e n => u.any e n hc) (fun b o hc e n => u.free b o e n hc) (fun b o hc e => u.there b o e hc) u.tups u.frzs u.tbls (fun m' hm => by
    obtain ⟨o', es', ep', ho', r'⟩ := hm
    rw [ho] at ho'; cases ho'
    exact ⟨_, es', ep', hL, r'⟩) hok hg
/-- an untracked record of ours (an iterator) has turned -/
theorem Inv.turned {t' : Nat} {it : Addr} (I : Inv X pins σ H s) (k : ∀ b o, b ≠ it → s.heap.get? b = some o → h'.get? b = some o) (hn : H it = none) (hL : it ≠ X.env.locals)
    (h1 : it ∈ X.ex ∨ X.s₀.heap.objs.size ≤ it) (h2 : ∀ x c, X.env.cells.lookup x = some c → c ≠ it) (h3 : ∀ p ∈ X.pn ++ pins, p.1 ≠ it) : Inv X pins σ H { s with heap := h', toks := t' } := by
  have nit : ∀ b u, H b = some u → b ≠ it := fun b u e z => by rw [z, hn] at e; cases e
  refine I.step (g' := s.gens) (d' := s.drawn) (ch := [it]) (fun b hb => ?_) (fun b o _ _ hc e _ => k b o (fun z => hc (by simp [z])) e) (fun b o _ _ hc e _ => ⟨o.slots, k b o (fun z => hc (by simp [z])) e⟩) (fun _ _ _ _ n => n)
    (fun b o hc e => ⟨o, k b o (fun z => hc (by simp [z])) e⟩) (fun _ _ e => e) (fun _ _ _ e => e) (fun b ps e => ⟨#[], by rw [e]; simp⟩) (fun m hm => ?_) (fun b u e => ?_) I.bare
  · have e : b = it := by simpa using hb
    subst e
    exact ⟨h1, hL, h2, h3⟩
  · obtain ⟨o, es, ep, ho, r⟩ := hm
    exact ⟨o, es, ep, k _ o (Ne.symm hL) ho, r⟩
  · refine (I.hok b u e).stay (fun c v hc q => k c v ?_ q) (fun _ q => q) fun _ _ q => q
    rcases hc with z | z
    · rw [z]; exact nit b u e
    · exact nit c _ z
theorem Inv.tok (I : Inv X pins σ H s) (t : Nat) : Inv X pins σ H { s with toks := t } := I.un (h' := s.heap) (t' := t) Un.refl I.hok
/-- all objects kept -/
theorem Inv.kept {t' : Nat} (I : Inv X pins σ H s) (k : ∀ b u, s.heap.get? b = some u → h'.get? b = some u) : Inv X pins σ H { s with heap := h', toks := t' } := I.un (Un.kept k) (I.hok.kept k)
/-- a new object laid and tracked -/
theorem Inv.laid {a : Addr} {o : HO} {t' : Nat} (I : Inv X pins σ H s) (k : ∀ b u, s.heap.get? b = some u → h'.get? b = some u) (hp : s.heap.objs.size ≤ a) (new : ObjOk X.prog X.w (upd H a o) h' a o) :
    Inv X pins σ (upd H a o) { s with heap := h', toks := t' } := I.un (Un.laid k hp (I.hok.fresh hp)) (I.hok.laid k hp new)
/-- an object written -/
theorem Inv.write {x e : Addr} {o : HO} {t' : Nat} (I : Inv X pins σ H s) (mu : Mut (H x)) (he : e = x ∨ H e = some (.own x)) (k : ∀ b u, b ≠ e → s.heap.get? b = some u → h'.get? b = some u) (heo : ∃ u, h'.get? e = some u)
    (new : ObjOk X.prog X.w (upd H x o) h' x o) : Inv X pins σ (upd H x o) { s with heap := h', toks := t' } := I.un (Un.write mu he k heo) (I.hok.write mu he k heo new)
/-- forgetting slots, pins -/
theorem Inv.weak {σ' : List (Option V)} (I : Inv X pins σ H s) (hl : σ'.length = σ.length) (w : ∀ (i : Nat) v, σ'[i]? = some (some v) → σ[i]? = some (some v)) : Inv X pins σ' H s :=
  ⟨I.ok, I.os, I.bare, I.base, let ⟨m, hn, hl'⟩ := I.loc; ⟨m, hn, fun i x v e1 e2 e3 => hl' i x v e1 (w i v e2) e3⟩, I.cell, I.free, I.freeC, I.pin, I.hok, hl.trans I.len⟩
theorem Inv.pins_of {pins' : List (Addr × Obj)} (I : Inv X pins σ H s) (h : ∀ p ∈ pins', s.heap.get? p.1 = some p.2 ∧ H p.1 = none ∧ p.1 ≠ X.env.locals ∧ p.1 ∉ X.fs ∧ ∀ v, p.2.data ≠ .cell v) : Inv X pins' σ H s :=
  ⟨I.ok, I.os, I.bare, I.base, I.loc, I.cell, I.free, I.freeC, fun p hp => (List.mem_append.mp hp).elim (fun z => I.pin p (List.mem_append_left _ z)) (h p), I.hok, I.len⟩

theorem nodup_ix {N : List Str} (hN : N.Nodup) {i j : Nat} {x : Str} (a : N[i]? = some x) (b : N[j]? = some x) : i = j := by
  obtain ⟨h1, e1⟩ := List.getElem?_eq_some_iff.mp a
  obtain ⟨h2, e2⟩ := List.getElem?_eq_some_iff.mp b
  exact (List.getElem_inj hN).mp (e1.trans e2.symm)

/-- a name is stored; what changed -/
theorem store_ok2 {M : Model} {A : Around} {E : Value → Shared → Prop} {i : Nat} {x : Str} {v : V} {u : Value} {Q : Unit → Shared → Prop} (I : Inv X pins σ H s) (hN : X.N.Nodup) (hi : X.N[i]? = some x) (hx : Loc X.env.scope x) (r : RelV v u)
    (h : ∀ s', Inv X pins (σ.set i (some v)) H s' → (∃ a, Heap.SameBut a s.heap s'.heap ∧ (a = X.env.locals ∨ X.env.cells.lookup x = some a)) → Q () s') (hf : X.fn x = true ∨ X.env.scope.names.lookup x = some .local := by first | exact .inl rfl | exact .inr rfl | assumption) : wpAny M A (storeName X.env x u) Q E s := by
  obtain ⟨m, hn, hl⟩ := id I.loc
  have hcls : (X.env.scope.kind == .class || (X.env.scope.kind == .module && X.env.locals != X.env.globals)) = false := by rw [I.ok.kind]; rfl
  have hiσ : i < σ.length := by rw [I.len]; exact (List.getElem?_eq_some_iff.mp hi).1
  have cne := I.cne
  have tracked : ∀ {a : Addr} {h' : Heap}, (∃ o, s.heap.get? a = some o ∧ H a = none) → Heap.SameBut a s.heap h' → HOk X.prog X.w H h' := fun {a h'} ha hs b ob e => by
    obtain ⟨_, _, hfree⟩ := ha
    refine (I.hok b ob e).stay (fun c w' hc q => (hs.2 c ?_).trans q) (fun _ q => q) fun _ _ q => q
    rintro rfl
    rcases hc with rfl | hc
    · rw [hfree] at e; cases e
    · rw [hfree] at hc; cases hc
  rcases hx with hk | hk
  · refine wpAny_storeName_local hk hn (fun h' hn' hs => ?_) hcls
    obtain ⟨oL, _, _, hoL, _⟩ := id hn
    refine h _ ⟨I.ok, I.os, I.bare, ⟨fun b o e n hb hx => ?_, fun b o e n hb hx => ?_, I.base.free, fun b o e hx => ?_, I.base.tups, I.base.frzs, I.base.tbls⟩, ⟨_, hn', fun j y v' e1 e2 e3 => ?_⟩, fun y c e => ?_, I.free, I.freeC, fun p hp => ?_, tracked ⟨oL, hoL, I.free⟩ hs, by simpa using I.len⟩ ⟨_, hs, .inl rfl⟩
    · exact (hs.2 b (Nat.ne_of_lt (Nat.lt_of_lt_of_le (Heap.lt_size e) I.ok.above))).trans (I.base.keep b o e n hb hx)
    · obtain ⟨sl, e1⟩ := I.base.slot b o e n hb hx
      exact ⟨sl, (hs.2 b (Nat.ne_of_lt (Nat.lt_of_lt_of_le (Heap.lt_size e) I.ok.above))).trans e1⟩
    · obtain ⟨o', e1⟩ := I.base.there b o e hx
      exact ⟨o', (hs.2 b (Nat.ne_of_lt (Nat.lt_of_lt_of_le (Heap.lt_size e) I.ok.above))).trans e1⟩
    · by_cases hj : j = i
      · subst hj
        rw [hi] at e1; cases e1
        rw [List.getElem?_set_self hiσ] at e2
        cases e2
        exact ⟨u, r, .inl ⟨hk, by simp⟩⟩
      · rw [List.getElem?_set_ne (Ne.symm hj)] at e2
        obtain ⟨u', r', q⟩ := hl j y v' e1 e2 e3
        refine ⟨u', r', ?_⟩
        rcases q with ⟨k, e⟩ | ⟨k, c, e, z⟩
        · refine .inl ⟨k, ?_⟩
          have : y ≠ x := fun e => hj (nodup_ix hN e1 (e ▸ hi))
          simp [this, e]
        · exact .inr ⟨k, c, e, z.sameBut hs (cne y c e)⟩
    · obtain ⟨w', z⟩ := I.cell y c e
      exact ⟨w', z.sameBut hs (cne y c e)⟩
    · obtain ⟨e, n, ne, nf, d⟩ := I.pin p hp
      exact ⟨(hs.2 p.1 ne).trans e, n, ne, nf, d⟩
  · have hfn : X.fn x = true := by
      rcases hf with z | z
      · exact z
      · rw [z] at hk; cases hk
    obtain ⟨c, hc⟩ := I.ok.has x (.inl hk)
    obtain ⟨w', z⟩ := I.cell x c hc
    refine wpAny_storeName_cell I.ok.kind hk hc z (fun h' hc' hs => ?_)
    obtain ⟨oc, hoc, hocd⟩ := id z
    refine h { s with heap := h' } ⟨I.ok, I.os, I.bare, ⟨fun b o e n hb hx => ?_, fun b o e n hb hx => ?_, I.base.free, fun b o e hx => ?_, I.base.tups, I.base.frzs, I.base.tbls⟩, ⟨m, hn.sameBut hs (Ne.symm (cne x c hc)), fun j y v' e1 e2 e3 => ?_⟩, fun y c' e => ?_, I.free, I.freeC, fun p hp => ?_, tracked ⟨oc, hoc, I.freeC x c hc⟩ hs, by simpa using I.len⟩ ⟨c, hs, .inr hc⟩
    · exact (hs.2 b (Nat.ne_of_lt (Nat.lt_of_lt_of_le (Heap.lt_size e) (I.ok.cab x c hfn hc)))).trans (I.base.keep b o e n hb hx)
    · obtain ⟨sl, e1⟩ := I.base.slot b o e n hb hx
      exact ⟨sl, (hs.2 b (Nat.ne_of_lt (Nat.lt_of_lt_of_le (Heap.lt_size e) (I.ok.cab x c hfn hc)))).trans e1⟩
    · obtain ⟨o', e1⟩ := I.base.there b o e hx
      exact ⟨o', (hs.2 b (Nat.ne_of_lt (Nat.lt_of_lt_of_le (Heap.lt_size e) (I.ok.cab x c hfn hc)))).trans e1⟩
    · by_cases hj : j = i
      · subst hj
        rw [hi] at e1; cases e1
        rw [List.getElem?_set_self hiσ] at e2
        cases e2
        exact ⟨u, r, .inr ⟨.inl hk, c, hc, hc'⟩⟩
      · rw [List.getElem?_set_ne (Ne.symm hj)] at e2
        obtain ⟨u', r', q⟩ := hl j y v' e1 e2 e3
        refine ⟨u', r', ?_⟩
        rcases q with q | ⟨k, c', e, z'⟩
        · exact .inl q
        · refine .inr ⟨k, c', e, z'.sameBut hs ?_⟩
          rintro rfl
          exact hj (nodup_ix hN e1 (I.ok.inj _ _ _ e hc ▸ hi))
    · by_cases hcc : c' = c
      · subst hcc; exact ⟨_, hc'⟩
      · obtain ⟨w2, z2⟩ := I.cell y c' e
        exact ⟨w2, z2.sameBut hs hcc⟩
    · obtain ⟨e, n, ne, nf, d⟩ := I.pin p hp
      refine ⟨(hs.2 p.1 ?_).trans e, n, ne, nf, d⟩
      intro q
      rw [q, hoc] at e
      have q' : oc = p.2 := Option.some.inj e
      exact d w' (by rw [← q']; exact hocd)
theorem store_ok {M : Model} {A : Around} {E : Value → Shared → Prop} {i : Nat} {x : Str} {v : V} {u : Value} {Q : Unit → Shared → Prop} (I : Inv X pins σ H s) (hN : X.N.Nodup) (hi : X.N[i]? = some x) (hx : Loc X.env.scope x) (r : RelV v u)
    (h : ∀ s', Inv X pins (σ.set i (some v)) H s' → Q () s') (hf : X.fn x = true ∨ X.env.scope.names.lookup x = some .local := by first | exact .inl rfl | exact .inr rfl | assumption) : wpAny M A (storeName X.env x u) Q E s :=
  store_ok2 I hN hi hx r (fun s' I' _ => h s' I') hf
/-- behind a call or a block, the state as it is -/
theorem Inv.call' {s' : Shared} {ch : List Addr} (I : Inv X pins σ H s) (ho : s'.os = s.os) (u : Un (frs X.stack) ch H H' s.heap s'.heap) (hok : HOk X.prog X.w H' s'.heap) (hg : AllBare s'.gens)
    (hch : ∀ b ∈ ch, (b ∈ X.ex ∨ X.s₀.heap.objs.size ≤ b) ∧ b ≠ X.env.locals ∧ (∀ x c, X.env.cells.lookup x = some c → c ≠ b) ∧ ∀ p ∈ X.pn ++ pins, p.1 ≠ b) : Inv X pins σ H' s' := by
  obtain ⟨h', g', d', t', o'⟩ := s'
  have e : o' = s.os := ho
  subst e
  exact I.call (g' := g') (t' := t') (d' := d') u hok hg hch
end

/-! ### the judgements -/
/-- an exception: its class, its own dict's address (where it has one), the abstract heap behind it -/
abbrev XK := Value → Option Addr → Hp → Prop
abbrev St := List (Option V)
abbrev VK := V → Hp → Prop
/-- an expression's reading; a test's; an argument list's -/
abbrev TE := St → Hp → VK → Prop
abbrev TT := St → Hp → (Bool → Hp → Prop) → Prop
abbrev TA := St → Hp → (List V → Hp → Prop) → Prop
/-- what is wanted behind a statement -/
structure Ends where
  nx : St → Hp → Prop
  rt : VK
  bk : St → Hp → Prop := fun _ _ => False
  ct : St → Hp → Prop := fun _ _ => False
abbrev TS := Ends → St → Hp → Prop

def EP (X : Cx) (pins : List (Addr × Obj)) (σ : St) (Q : VK) (u : Value) (s' : Shared) : Prop := ∃ v H', Inv X pins σ H' s' ∧ RelV v u ∧ Q v H'
def TP (X : Cx) (pins : List (Addr × Obj)) (σ : St) (Q : Bool → Hp → Prop) (b : Bool) (s' : Shared) : Prop := ∃ H', Inv X pins σ H' s' ∧ Q b H'
def AP (X : Cx) (pins : List (Addr × Obj)) (σ : St) (Q : List V → Hp → Prop) (us : List Value) (s' : Shared) : Prop := ∃ vs H', Inv X pins σ H' s' ∧ Vals vs us ∧ Q vs H'
def SP (X : Cx) (pins : List (Addr × Obj)) (D : Ends) (f : Flow) (s' : Shared) : Prop :=
  match f with
  | .next => ∃ σ' H', Inv X pins σ' H' s' ∧ D.nx σ' H'
  | .brk => ∃ σ' H', Inv X pins σ' H' s' ∧ D.bk σ' H'
  | .cont => ∃ σ' H', Inv X pins σ' H' s' ∧ D.ct σ' H'
  | .ret u => ∃ v σ' H', Inv X pins σ' H' s' ∧ RelV v u ∧ D.rt v H'

def PE (X : Cx) (e : Expr) (t : TE) : Prop :=
  ∀ (pins : List (Addr × Obj)) (s : Shared) (σ : St) (H : Hp) (Q : VK), Inv X pins σ H s → t σ H Q → wpAny (model X.prog X.w) X.A (eval e X.env) (EP X pins σ Q) X.xe s
def PT (X : Cx) (e : Expr) (t : TT) : Prop :=
  ∀ (pins : List (Addr × Obj)) (s : Shared) (σ : St) (H : Hp) (Q : Bool → Hp → Prop), Inv X pins σ H s → t σ H Q → wpAny (model X.prog X.w) X.A (isTrue e X.env (eval e X.env)) (TP X pins σ Q) X.xe s
/-- a test whatever its 'whole' is (and, or) -/
def PW (X : Cx) (e : Expr) (t : TT) : Prop :=
  ∀ (whole : Sem Value) (pins : List (Addr × Obj)) (s : Shared) (σ : St) (H : Hp) (Q : Bool → Hp → Prop), Inv X pins σ H s → t σ H Q → wpAny (model X.prog X.w) X.A (isTrue e X.env whole) (TP X pins σ Q) X.xe s
theorem PW.pt {X : Cx} {e : Expr} {t : TT} (h : PW X e t) : PT X e t := h _
/-- an argument list (no star), from the left -/
def PA (X : Cx) (es : List Expr) (t : TA) : Prop :=
  ∀ (pos : Pos) (pins : List (Addr × Obj)) (s : Shared) (σ : St) (H : Hp) (Q : List V → Hp → Prop), Inv X pins σ H s → t σ H Q → wpAny (model X.prog X.w) X.A (spliced (backTo pos (starEach es X.env))) (AP X pins σ Q) X.xe s
def PS (X : Cx) (st : Stmt) (t : TS) : Prop :=
  ∀ (pins : List (Addr × Obj)) (s : Shared) (σ : St) (H : Hp) (D : Ends), Inv X pins σ H s → t D σ H → wpAny (model X.prog X.w) X.A (exec st X.env) (SP X pins D) X.xe s
def PSs (X : Cx) (st : List Stmt) (t : TS) : Prop :=
  ∀ (pins : List (Addr × Obj)) (s : Shared) (σ : St) (H : Hp) (D : Ends), Inv X pins σ H s → t D σ H → wpAny (model X.prog X.w) X.A (execs st X.env) (SP X pins D) X.xe s
/-- weaken the end -/
theorem thn {α : Type} {t : Sem α} {Q Q' : α → Shared → Prop} {M : Model} {A : Around} {E : Value → Shared → Prop} {s : Shared} (h : wpAny M A t Q E s) (hQ : ∀ a s, Q a s → Q' a s) : wpAny M A t Q' E s := wpAny_mono h hQ fun _ _ x => x
end L2

namespace L2
open PySem PySem.Spec PyProof.Rows
section
variable {X : Cx}

/-- two expressions in a row -/
theorem bin {a b : Expr} {ta tb : TE} (ha : PE X a ta) (hb : PE X b tb) {pins : List (Addr × Obj)} {s : Shared} {σ : St} {H : Hp} {R : V → V → Hp → Prop} (I : Inv X pins σ H s) (h : ta σ H fun x H1 => tb σ H1 fun y H2 => R x y H2)
    {α : Type} {Q : α → Shared → Prop} {f : Value → Value → Sem α}
    (hf : ∀ v u s2 x y H2, Inv X pins σ H2 s2 → RelV x v → RelV y u → R x y H2 → wpAny (model X.prog X.w) X.A (f v u) Q X.xe s2) :
    wpAny (model X.prog X.w) X.A (eval a X.env) (fun v s₁ => wpAny (model X.prog X.w) X.A (eval b X.env) (fun u s₂ => wpAny (model X.prog X.w) X.A (f v u) Q X.xe s₂) X.xe s₁) X.xe s := by
  refine thn (ha pins s σ H _ I h) fun v s1 ⟨x, H1, I1, r1, q1⟩ => ?_
  refine thn (hb pins s1 σ H1 _ I1 q1) fun u s2 ⟨y, H2, I2, r2, q2⟩ => ?_
  exact hf v u s2 x y H2 I2 r1 r2 q2

/-! ### names and constants -/
def tVar (i : Nat) : TE := fun σ H Q => ∃ v, σ[i]? = some (some v) ∧ Q v H
def tC (v : V) : TE := fun _ H Q => Q v H
theorem pe_var {i : Nat} {x : Str} {pos : Pos} (hN : X.N[i]? = some x) (hv : Vis X.env.scope x) (hd : (x == ("__debug__" : Str)) = false := by decide) (hcd : (x == ("__classdict__" : Str)) = false := by decide) : PE X (.Name x pos) (tVar i) := by
  intro pins s σ H Q I h
  obtain ⟨v, e, h⟩ := h
  obtain ⟨m, hn, hl⟩ := I.loc
  obtain ⟨u, r, l⟩ := hl i x v hN e hv
  have fin : EP X pins σ Q u s := ⟨v, H, I, r, h⟩
  rcases l with ⟨hk, hm⟩ | ⟨hk, c, hc, hcell⟩
  · exact wpAny_Name (wpAny_loadName_local I.ok.kind hk hn hm fin) hd
  · rcases hk with hk | hk
    · exact wpAny_Name (wpAny_loadName_cell I.ok.kind hk hc hcell fin) hd
    · exact wpAny_Name (wpAny_loadName_free I.ok.kind hk hc hcell fin hcd) hd
theorem pe_int {i j pos} : PE X (.Constant (.int i) j pos) (tC (.int i)) := fun _ _ _ H _ I h => wpAny_Constant_int ⟨.int i, H, I.tok _, ⟨_, rfl⟩, h⟩
theorem pe_bl {b j pos} : PE X (.Constant (.bool b) j pos) (tC (.bl b)) := fun _ _ _ H _ I h => Constant_bool ⟨.bl b, H, I, rfl, h⟩
theorem pe_non {j pos} : PE X (.Constant .none j pos) (tC .non) := fun _ _ _ H _ I h => Constant_none ⟨.non, H, I, rfl, h⟩
theorem pe_str {x j pos} : PE X (.Constant (.str x) j pos) (tC (.str x)) := fun _ _ _ H _ I h => Calls.Constant_str ⟨.str x, H, I.tok _, ⟨_, rfl⟩, h⟩

/-- a global name of the def -/
def Gl (X : Cx) (x : Str) : Prop := X.env.kindOf x = some .globalImplicit
theorem ld_glob {E : Value → Shared → Prop} {pins : List (Addr × Obj)} {s : Shared} {σ : St} {H : Hp} {x : Str} {u : Value} {pos : Pos} {Q : Value → Shared → Prop} (I : Inv X pins σ H s) (hg : Gl X x) (hm : X.mg x = some u) (h : Q u s)
    (hd : (x == ("__debug__" : Str)) = false := by decide) : wpAny (model X.prog X.w) X.A (eval (.Name x pos) X.env) Q E s :=
  Calls.Name_function_global I.ok.kind hg (Calls.loadGlobal_global (by rw [I.ok.glob]; exact I.mod.glob.keeps I.bk) hm h) hd
theorem ld_blt {E : Value → Shared → Prop} {pins : List (Addr × Obj)} {s : Shared} {σ : St} {H : Hp} {x : Str} {u : Value} {pos : Pos} {Q : Value → Shared → Prop} (I : Inv X pins σ H s) (hg : Gl X x) (hm : X.mg x = none) (hv : bootBuiltins x = some u) (h : Q u s)
    (hn : x ≠ "__name__" := by decide) (hd : (x == ("__debug__" : Str)) = false := by decide) : wpAny (model X.prog X.w) X.A (eval (.Name x pos) X.env) Q E s := by
  obtain ⟨mb, h1, h2⟩ := I.mod.blt
  exact Calls.Name_function_global I.ok.kind hg (Calls.loadGlobal_builtin (by rw [I.ok.glob]; exact I.mod.glob.keeps I.bk) hm (by rw [I.ok.blt]; exact h1.keeps I.bk) ((h2 x hn).trans hv) h) hd
/-- a module's constant, a class, a function, as a value -/
theorem pe_glob {x : Str} {v : V} {u : Value} {pos : Pos} (hg : Gl X x) (hm : X.mg x = some u) (r : RelV v u) (hd : (x == ("__debug__" : Str)) = false := by decide) : PE X (.Name x pos) (tC v) :=
  fun _ _ _ H _ I h => ld_glob I hg hm ⟨v, H, I, r, h⟩ hd
theorem pe_bltn {x : Str} {v : V} {u : Value} {pos : Pos} (hg : Gl X x) (hm : X.mg x = none) (hv : bootBuiltins x = some u) (r : RelV v u) (hn : x ≠ "__name__" := by decide) (hd : (x == ("__debug__" : Str)) = false := by decide) : PE X (.Name x pos) (tC v) :=
  fun _ _ _ H _ I h => ld_blt I hg hm hv ⟨v, H, I, r, h⟩ hn hd

/-! ### arithmetic -/
/-- two ints -/
def t2I (ta tb : TE) (k : Int → Int → Hp → Prop) : St → Hp → Prop := fun σ H => ta σ H fun x H1 => tb σ H1 fun y H2 => ∃ i j, x = .int i ∧ y = .int j ∧ k i j H2
def tAdd (ta tb : TE) : TE := fun σ H Q => t2I ta tb (fun i j H2 => Q (.int (i + j)) H2) σ H
def tSub (ta tb : TE) : TE := fun σ H Q => t2I ta tb (fun i j H2 => Q (.int (i - j)) H2) σ H
/-- the left factor below 2^64 -/
def tMul (ta tb : TE) : TE := fun σ H Q => t2I ta tb (fun i j H2 => (-(2 ^ 64) < i ∧ i < 2 ^ 64) ∧ Q (.int (i * j)) H2) σ H
variable {a b : Expr} {ta tb : TE} {pos : Pos}
theorem pe_add (ha : PE X a ta) (hb : PE X b tb) : PE X (.BinOp a .Add b pos) (tAdd ta tb) := by
  intro pins s σ H Q I h
  refine wpAny_BinOp (bin ha hb I h fun v u s2 x y H2 I2 rx ry q => ?_)
  obtain ⟨i, j, rfl, rfl, q⟩ := q
  obtain ⟨t, rfl⟩ := rx
  obtain ⟨t', rfl⟩ := ry
  exact add_int ⟨.int _, H2, I2.tok _, ⟨_, rfl⟩, q⟩
theorem pe_sub (ha : PE X a ta) (hb : PE X b tb) : PE X (.BinOp a .Sub b pos) (tSub ta tb) := by
  intro pins s σ H Q I h
  refine wpAny_BinOp (bin ha hb I h fun v u s2 x y H2 I2 rx ry q => ?_)
  obtain ⟨i, j, rfl, rfl, q⟩ := q
  obtain ⟨t, rfl⟩ := rx
  obtain ⟨t', rfl⟩ := ry
  exact sub_int ⟨.int _, H2, I2.tok _, ⟨_, rfl⟩, q⟩
theorem pe_mul (ha : PE X a ta) (hb : PE X b tb) : PE X (.BinOp a .Mult b pos) (tMul ta tb) := by
  intro pins s σ H Q I h
  refine wpAny_BinOp (bin ha hb I h fun v u s2 x y H2 I2 rx ry q => ?_)
  obtain ⟨i, j, rfl, rfl, ⟨q1, q2⟩, q⟩ := q
  obtain ⟨t, rfl⟩ := rx
  obtain ⟨t', rfl⟩ := ry
  exact mul_int ⟨.int _, H2, I2.tok _, ⟨_, rfl⟩, q⟩ (.of_left (intBits_le_64 q1 q2))

/-! ### comparisons -/
def PC (X : Cx) (op : CmpOp) (a b : Expr) (t : TE) : Prop :=
  ∀ (pins : List (Addr × Obj)) (s : Shared) (σ : St) (H : Hp) (Q : VK), Inv X pins σ H s → t σ H Q →
    wpAny (model X.prog X.w) X.A (eval a X.env) (fun v s₁ => wpAny (model X.prog X.w) X.A (eval b X.env) (fun u s₂ => wpAny (model X.prog X.w) X.A (compareOp op v u) (EP X pins σ Q) X.xe s₂) X.xe s₁) X.xe s
theorem nobehind (b : Expr) {op : CmpOp} (h : op ≠ .In) (h2 : op ≠ .NotIn) : behindInMarks op b = false := by
  have e1 : (op == CmpOp.In) = false := by cases op <;> first | rfl | exact absurd rfl h
  have e2 : (op == CmpOp.NotIn) = false := by cases op <;> first | rfl | exact absurd rfl h2
  cases b <;> simp [behindInMarks, e1, e2]
def tCmp (p : Int → Int → Bool) (ta tb : TE) : TE := fun σ H Q => t2I ta tb (fun i j H2 => Q (.bl (p i j)) H2) σ H
abbrev tLt : TE → TE → TE := tCmp fun i j => decide (i < j)
abbrev tLe : TE → TE → TE := tCmp fun i j => decide (i ≤ j)
abbrev tGt : TE → TE → TE := tCmp fun i j => decide (j < i)
abbrev tGe : TE → TE → TE := tCmp fun i j => decide (j ≤ i)
abbrev tEqI : TE → TE → TE := tCmp fun i j => decide (i = j)
abbrev tNeI : TE → TE → TE := tCmp fun i j => !decide (i = j)
/-- a comparison of two ints, by its rule -/
theorem pc_int {op : CmpOp} {p : Int → Int → Bool} (ha : PE X a ta) (hb : PE X b tb)
    (rule : ∀ (i j : Int) (t u : Tok) (Q : Value → Shared → Prop) (s : Shared), Q (.bool (p i j)) s → wpAny (model X.prog X.w) X.A (compareOp op (.int i t) (.int j u)) Q X.xe s) : PC X op a b (tCmp p ta tb) := by
  intro pins s σ H Q I h
  refine bin ha hb I h fun v u s2 x y H2 I2 rx ry q => ?_
  obtain ⟨i, j, rfl, rfl, q⟩ := q
  obtain ⟨t, rfl⟩ := rx
  obtain ⟨t', rfl⟩ := ry
  exact rule i j t t' _ s2 ⟨.bl _, H2, I2, rfl, q⟩
theorem pc_lt (ha : PE X a ta) (hb : PE X b tb) : PC X .Lt a b (tLt ta tb) := pc_int ha hb fun _ _ _ _ _ _ h => lt_int h
theorem pc_le (ha : PE X a ta) (hb : PE X b tb) : PC X .LtE a b (tLe ta tb) := pc_int ha hb fun _ _ _ _ _ _ h => le_int h
theorem pc_gt (ha : PE X a ta) (hb : PE X b tb) : PC X .Gt a b (tGt ta tb) := pc_int ha hb fun _ _ _ _ _ _ h => gt_int h
theorem pc_ge (ha : PE X a ta) (hb : PE X b tb) : PC X .GtE a b (tGe ta tb) := pc_int ha hb fun _ _ _ _ _ _ h => ge_int h
theorem pc_eqI (ha : PE X a ta) (hb : PE X b tb) : PC X .Eq a b (tEqI ta tb) := pc_int ha hb fun _ _ _ _ _ _ h => eq_int (by rw [Bool.beq_eq_decide_eq]; exact h)
theorem pc_neI (ha : PE X a ta) (hb : PE X b tb) : PC X .NotEq a b (tNeI ta tb) := pc_int ha hb fun _ _ _ _ _ _ h => ne_int (by rw [bne, Bool.beq_eq_decide_eq]; exact h)
/-- is None -/
def tIsN (ta : TE) : TE := fun σ H Q => ta σ H fun x H1 => Q (.bl (decide (x = .non))) H1
def tNotN (ta : TE) : TE := fun σ H Q => ta σ H fun x H1 => Q (.bl (!decide (x = .non))) H1
theorem RelV.none_iff {x : V} {v : Value} (r : RelV x v) : (v == Value.none) = decide (x = .non) := by
  cases x with
  | non => cases r; rfl
  | bl _ => cases r; rfl
  | int _ => obtain ⟨t, rfl⟩ := r; rfl
  | str _ => obtain ⟨t, rfl⟩ := r; rfl
  | byt _ => obtain ⟨t, rfl⟩ := r; rfl
  | flt _ => obtain ⟨t, rfl⟩ := r; rfl
  | ref _ => cases r; rfl
  | ty _ => cases r; rfl
theorem pc_isN {j pos'} (ha : PE X a ta) : PC X .Is a (.Constant .none j pos') (tIsN ta) := by
  intro pins s σ H Q I h
  refine thn (ha pins s σ H _ I h) fun v s1 ⟨x, H1, I1, r1, q1⟩ => ?_
  exact Constant_none (is_none_gen ⟨.bl _, H1, I1, by rw [r1.none_iff]; rfl, q1⟩)
theorem pc_notN {j pos'} (ha : PE X a ta) : PC X .IsNot a (.Constant .none j pos') (tNotN ta) := by
  intro pins s σ H Q I h
  refine thn (ha pins s σ H _ I h) fun v s1 ⟨x, H1, I1, r1, q1⟩ => ?_
  exact Constant_none (isnot_none_gen ⟨.bl _, H1, I1, by rw [r1.none_iff]; rfl, q1⟩)
/-- a comparison as a value, as a test -/
def tB (t : TE) : TT := fun σ H Q => t σ H fun x H1 => ∃ c, x = .bl c ∧ Q c H1
theorem pe_cmp {op : CmpOp} {t : TE} (h : PC X op a b t) (h1 : behindInMarks op b = false := by first | exact nobehind _ (by decide) (by decide) | rfl) : PE X (.Compare a [op] [b] pos) t := fun pins s σ H Q I hw => wpAny_Compare1 (h pins s σ H Q I hw) h1
theorem pt_cmp {op : CmpOp} {t : TE} (h : PC X op a b t) (h1 : behindInMarks op b = false := by first | exact nobehind _ (by decide) (by decide) | rfl) : PT X (.Compare a [op] [b] pos) (tB t) := by
  intro pins s σ H Q I hw
  refine wpAny_isTrue_Compare1 (thn (h pins s σ H _ I hw) fun v s1 h1 => thn h1 fun u s2 h2 => thn h2 fun c s3 ⟨x, H1, I1, r1, q1⟩ => ?_) h1
  obtain ⟨d, rfl, q⟩ := q1
  cases r1
  exact wpAny_truthy_bool ⟨H1, I1, q⟩
/-- an expression whose value is a bool, as a test -/
theorem pt_val {e : Expr} {t : TE} (h : PE X e t) (he : ∀ whole, isTrue e X.env whole = (do let v ← whole; standAt e.pos; holding [v] (truthy v)) := by intro _; rfl) : PT X e (tB t) := by
  intro pins s σ H Q I hw
  refine isTrue_plain (thn (h pins s σ H _ I hw) fun v s1 ⟨x, H1, I1, r1, q1⟩ => ?_) (he _)
  obtain ⟨d, rfl, q⟩ := q1
  cases r1
  exact wpAny_truthy_bool ⟨H1, I1, q⟩

/-! ### and, or, not -/
variable {tA tB' : TT} {rest : List Expr}
def tAnd (t u : TT) : TT := fun σ H Q => t σ H fun c H1 => if c = true then u σ H1 Q else Q false H1
def tOr (t u : TT) : TT := fun σ H Q => t σ H fun c H1 => if c = true then Q true H1 else u σ H1 Q
def tNot (t : TT) : TT := fun σ H Q => t σ H fun c H1 => Q (!c) H1
theorem pw_and1 (ha : PT X a tA) : PW X (.BoolOp .And [a] pos) tA := by
  intro wh pins s σ H Q I h
  refine isTrue_and (thn (ha pins s σ H Q I h) fun c s1 e => ?_)
  cases c with
  | true => exact isTrue_and_nil e
  | false => exact e
theorem pw_or1 (ha : PT X a tA) : PW X (.BoolOp .Or [a] pos) tA := by
  intro wh pins s σ H Q I h
  refine isTrue_or (thn (ha pins s σ H Q I h) fun c s1 e => ?_)
  cases c with
  | false => exact isTrue_or_nil e
  | true => exact e
theorem pw_and (ha : PT X a tA) (hb : PW X (.BoolOp .And (b :: rest) pos) tB') : PW X (.BoolOp .And (a :: b :: rest) pos) (tAnd tA tB') := by
  intro wh pins s σ H Q I h
  refine isTrue_and (thn (ha pins s σ H _ I h) fun c s1 ⟨H1, I1, q1⟩ => ?_)
  cases c with
  | true => exact hb wh pins s1 σ H1 Q I1 q1
  | false => exact ⟨H1, I1, q1⟩
theorem pw_or (ha : PT X a tA) (hb : PW X (.BoolOp .Or (b :: rest) pos) tB') : PW X (.BoolOp .Or (a :: b :: rest) pos) (tOr tA tB') := by
  intro wh pins s σ H Q I h
  refine isTrue_or (thn (ha pins s σ H _ I h) fun c s1 ⟨H1, I1, q1⟩ => ?_)
  cases c with
  | true => exact ⟨H1, I1, q1⟩
  | false => exact hb wh pins s1 σ H1 Q I1 q1
theorem pt_not (ha : PT X a tA) : PT X (.UnaryOp .Not a pos) (tNot tA) := by
  intro pins s σ H Q I h
  exact isTrue_not (ha pins s σ H (fun c H1 => Q (!c) H1) I h)
/-- .. as values (bools) -/
def tAndV (ta tb : TE) : TE := fun σ H Q => ta σ H fun x H1 => ∃ c, x = .bl c ∧ if c = true then tb σ H1 Q else Q (.bl false) H1
def tOrV (ta tb : TE) : TE := fun σ H Q => ta σ H fun x H1 => ∃ c, x = .bl c ∧ if c = true then Q (.bl true) H1 else tb σ H1 Q
def tNotV (ta : TE) : TE := fun σ H Q => ta σ H fun x H1 => ∃ c, x = .bl c ∧ Q (.bl (!c)) H1
theorem pe_one {op} {t : TE} (h : PE X a t) : PE X (.BoolOp op [a] pos) t := fun pins s σ H Q I hw => BoolOp_one (h pins s σ H Q I hw)
theorem pe_and (ha : PE X a ta) (hb : PE X (.BoolOp .And (b :: rest) pos) tb) : PE X (.BoolOp .And (a :: b :: rest) pos) (tAndV ta tb) := by
  intro pins s σ H Q I h
  refine BoolOp_and (thn (ha pins s σ H _ I h) fun v s1 ⟨x, H1, I1, r1, q1⟩ => ?_)
  obtain ⟨c, rfl, q1⟩ := q1
  cases r1
  refine wpAny_truthy_bool ?_
  cases c with
  | true => exact hb pins s1 σ H1 Q I1 q1
  | false => exact ⟨.bl false, H1, I1, rfl, q1⟩
theorem pe_or (ha : PE X a ta) (hb : PE X (.BoolOp .Or (b :: rest) pos) tb) : PE X (.BoolOp .Or (a :: b :: rest) pos) (tOrV ta tb) := by
  intro pins s σ H Q I h
  refine BoolOp_or (thn (ha pins s σ H _ I h) fun v s1 ⟨x, H1, I1, r1, q1⟩ => ?_)
  obtain ⟨c, rfl, q1⟩ := q1
  cases r1
  refine wpAny_truthy_bool ?_
  cases c with
  | false => exact hb pins s1 σ H1 Q I1 q1
  | true => exact ⟨.bl true, H1, I1, rfl, q1⟩
theorem pe_not (ha : PE X a ta) : PE X (.UnaryOp .Not a pos) (tNotV ta) := by
  intro pins s σ H Q I h
  refine UnaryOp_ (thn (ha pins s σ H _ I h) fun v s1 ⟨x, H1, I1, r1, q1⟩ => ?_)
  obtain ⟨c, rfl, q1⟩ := q1
  cases r1
  exact not_of (wpAny_truthy_bool ⟨.bl (!c), H1, I1, rfl, q1⟩)
/-- a if t else b -/
def tIf (t : TT) (ta tb : TE) : TE := fun σ H Q => t σ H fun c H1 => if c = true then ta σ H1 Q else tb σ H1 Q
theorem pe_ifExp {c : Expr} (hc : PT X c tA) (ha : PE X a ta) (hb : PE X b tb) : PE X (.IfExp c a b pos) (tIf tA ta tb) := by
  intro pins s σ H Q I h
  refine wpAny_IfExp (thn (hc pins s σ H _ I h) fun d s1 ⟨H1, I1, q1⟩ => ?_)
  cases d with
  | true => exact ha pins s1 σ H1 Q I1 q1
  | false => exact hb pins s1 σ H1 Q I1 q1
end
end L2

namespace L2
open PySem PySem.Spec PyProof.Rows

/-! ### a list, a tuple that is read: tracked, frozen, or an object of the module -/
def SqL (K : PySem.W.Frag) (H : Hp) (a : Addr) (xs : List V) : Prop :=
  Rd H a (.lst xs) ∨
    ∃ (o : Obj) (its : Array Value) (n : Nat), K.lookup a = some o ∧ o.cls = .type "list" ∧ o.dict = none ∧ o.data = .seq its n ∧ its.size ≤ sizeLine ∧ Vals xs its.toList
def SqT (K : PySem.W.Frag) (H : Hp) (a : Addr) (xs : List V) : Prop :=
  Rd H a (.tup xs) ∨
    ∃ (o : Obj) (its : Array Value) (n : Nat), K.lookup a = some o ∧ o.cls = .type "tuple" ∧ o.data = .seq its n ∧ its.size ≤ sizeLine ∧ Vals xs its.toList
def absV : Value → Option V
  | .none => some .non
  | .bool b => some (.bl b)
  | .int i _ => some (.int i)
  | .str x _ => some (.str x)
  | .bytes b _ => some (.byt b)
  | .float b _ => some (.flt b)
  | .ref a => some (.ref a)
  | .type n => some (.ty n)
  | _ => none
theorem RelV.abs {x : V} {u : Value} (r : RelV x u) : absV u = some x := by
  cases x with
  | non => cases r; rfl
  | bl _ => cases r; rfl
  | int _ => obtain ⟨t, rfl⟩ := r; rfl
  | str _ => obtain ⟨t, rfl⟩ := r; rfl
  | byt _ => obtain ⟨t, rfl⟩ := r; rfl
  | flt _ => obtain ⟨t, rfl⟩ := r; rfl
  | ref _ => cases r; rfl
  | ty _ => cases r; rfl
theorem RelV.inj {x y : V} {u : Value} (r : RelV x u) (q : RelV y u) : x = y := Option.some.inj (r.abs.symm.trans q.abs)
theorem Vals.inj : ∀ {xs ys : List V} {us : List Value}, Vals xs us → Vals ys us → xs = ys
  | _, _, _, .nil, .nil => rfl
  | _, _, _, .cons r t, .cons r' t' => by rw [r.inj r', Vals.inj t t']
section
variable {X : Cx} {pins : List (Addr × Obj)} {σ : St} {H : Hp} {s : Shared} {a : Addr} {xs ys : List V}
theorem SqL.of {K : PySem.W.Frag} (h : H a = some (.lst xs)) : SqL K H a xs := .inl (.inl h)
theorem SqT.of {K : PySem.W.Frag} (h : H a = some (.tup xs)) : SqT K H a xs := .inl (.inl h)
theorem Inv.list (I : Inv X pins σ H s) (h : SqL X.K H a xs) : ∃ its : List Value, Vals xs its ∧ PlainL s.heap a its.toArray ∧ xs.length ≤ sizeLine := by
  rcases h with h | ⟨o, its, n, hk, hc, hd, hs, hz, r⟩
  · obtain ⟨z, its, n, r, e⟩ := h.ok I.hok
    exact ⟨its, r, ⟨_, n, e, rfl, rfl, rfl⟩, z⟩
  · refine ⟨its.toList, r, ⟨o, n, I.kIn a o hk, hc, hd, by simpa using hs⟩, ?_⟩
    have e := r.length
    simp only [Array.length_toList] at e
    omega
theorem Inv.tuple (I : Inv X pins σ H s) (h : SqT X.K H a xs) : ∃ its : List Value, Vals xs its ∧ IsTup s.heap a its.toArray ∧ xs.length ≤ sizeLine := by
  rcases h with h | ⟨o, its, n, hk, hc, hs, hz, r⟩
  · obtain ⟨z, its, r, p⟩ := h.ok I.hok
    exact ⟨its, r, p, z⟩
  · refine ⟨its.toList, r, ⟨o, I.kIn a o hk, hc, n, by simpa using hs⟩, ?_⟩
    have e := r.length
    simp only [Array.length_toList] at e
    omega
theorem Inv.list_inj (I : Inv X pins σ H s) (h : SqL X.K H a xs) (h' : SqL X.K H a ys) : xs = ys := by
  obtain ⟨its, r, ⟨o, n, e, _, _, d⟩, _⟩ := I.list h
  obtain ⟨its', r', ⟨o', n', e', _, _, d'⟩, _⟩ := I.list h'
  rw [e] at e'; cases e'
  rw [d] at d'
  injection d' with d1 _
  have : its = its' := by simpa using congrArg Array.toList d1
  subst this
  exact r.inj r'
theorem Inv.tuple_inj (I : Inv X pins σ H s) (h : SqT X.K H a xs) (h' : SqT X.K H a ys) : xs = ys := by
  obtain ⟨its, r, ⟨o, e, _, n, d⟩, _⟩ := I.tuple h
  obtain ⟨its', r', ⟨o', e', _, n', d'⟩, _⟩ := I.tuple h'
  rw [e] at e'; cases e'
  rw [d] at d'
  injection d' with d1 _
  have : its = its' := by simpa using congrArg Array.toList d1
  subst this
  exact r.inj r'
end

/-! ### another wish about exceptions -/
abbrev Cx.wish (X : Cx) (E : Value → Shared → Prop) : Cx := { X with xe := E }
/-- no exception leaves -/
abbrev Cx.nox (X : Cx) : Cx := X.wish fun _ _ => False
theorem Cx.Ok.wish {X : Cx} (ok : X.Ok) (E : Value → Shared → Prop) : (X.wish E).Ok :=
  ⟨ok.mod, ok.kind, ok.glob, ok.blt, ok.above, ok.inj, ok.has, ok.cab, ok.hd, ok.frames, ok.stk, ok.exf, ok.bs, ok.bsz, ok.noex, ok.exfs, ok.funs, ok.frf⟩
theorem Cx.Ok.unwish {X : Cx} {E : Value → Shared → Prop} (ok : (X.wish E).Ok) : X.Ok :=
  ⟨ok.mod, ok.kind, ok.glob, ok.blt, ok.above, ok.inj, ok.has, ok.cab, ok.hd, ok.frames, ok.stk, ok.exf, ok.bs, ok.bsz, ok.noex, ok.exfs, ok.funs, ok.frf⟩
section
variable {X : Cx} {pins : List (Addr × Obj)} {σ : St} {H : Hp} {s : Shared} {E : Value → Shared → Prop}
theorem Inv.wish (I : Inv X pins σ H s) (E : Value → Shared → Prop) : Inv (X.wish E) pins σ H s := ⟨I.ok.wish E, I.os, I.bare, I.base, I.loc, I.cell, I.free, I.freeC, I.pin, I.hok, I.len⟩
theorem Inv.unwish (I : Inv (X.wish E) pins σ H s) : Inv X pins σ H s := ⟨I.ok.unwish, I.os, I.bare, I.base, I.loc, I.cell, I.free, I.freeC, I.pin, I.hok, I.len⟩
theorem SP.unwish {D : Ends} {f : Flow} {s' : Shared} (h : SP (X.wish E) pins D f s') : SP X pins D f s' := by
  cases f with
  | next => obtain ⟨σ', H', I, q⟩ := h; exact ⟨σ', H', I.unwish, q⟩
  | brk => obtain ⟨σ', H', I, q⟩ := h; exact ⟨σ', H', I.unwish, q⟩
  | cont => obtain ⟨σ', H', I, q⟩ := h; exact ⟨σ', H', I.unwish, q⟩
  | ret u => obtain ⟨v, σ', H', I, r, q⟩ := h; exact ⟨v, σ', H', I.unwish, r, q⟩
theorem PE.nox {e : Expr} {t : TE} (h : PE X.nox e t) : PE X e t := fun pins s σ H Q I hw =>
  wpAny_mono (h pins s σ H Q (I.wish _) hw) (fun _ _ ⟨v, H', I', r, q⟩ => ⟨v, H', I'.unwish, r, q⟩) fun _ _ z => False.elim z
theorem PT.nox {e : Expr} {t : TT} (h : PT X.nox e t) : PT X e t := fun pins s σ H Q I hw =>
  wpAny_mono (h pins s σ H Q (I.wish _) hw) (fun _ _ ⟨H', I', q⟩ => ⟨H', I'.unwish, q⟩) fun _ _ z => False.elim z
theorem PSs.nox {st : List Stmt} {t : TS} (h : PSs X.nox st t) : PSs X st t := fun pins s σ H D I hw =>
  wpAny_mono (h pins s σ H D (I.wish _) hw) (fun _ _ q => q.unwish) fun _ _ z => False.elim z
end

/-! ### blocks and small statements -/
section
variable {X : Cx} {st : Stmt} {rest : List Stmt} {t u : TS} {e : Expr} {te : TE} {pos : Pos}
def tNext : TS := fun D σ H => D.nx σ H
def tSeq (t u : TS) : TS := fun D σ H => t { D with nx := u D } σ H
theorem pss_nil : PSs X [] tNext := fun _ _ σ H _ I h => wpAny_execs_nil ⟨σ, H, I, h⟩
theorem pss_cons (h1 : PS X st t) (h2 : PSs X rest u) : PSs X (st :: rest) (tSeq t u) := by
  intro pins s σ H D I h
  refine wpAny_execs_cons (thn (h1 pins s σ H { D with nx := u D } I h) fun f s1 q => ?_)
  cases f with
  | next =>
    obtain ⟨σ', H', I', q⟩ := q
    exact h2 pins s1 σ' H' D I' q
  | ret v => exact q
  | brk => exact q
  | cont => exact q
theorem pss_one (h1 : PS X st t) : PSs X [st] t := by
  intro pins s σ H D I h
  refine wpAny_execs_cons (thn (h1 pins s σ H D I h) fun f s1 q => ?_)
  cases f with
  | next => exact wpAny_execs_nil q
  | ret v => exact q
  | brk => exact q
  | cont => exact q
def tBreak : TS := fun D σ H => D.bk σ H
def tCont : TS := fun D σ H => D.ct σ H
theorem ps_pass : PS X (.Pass pos) tNext := fun _ _ σ H _ I h => wpAny_Pass ⟨σ, H, I, h⟩
theorem ps_break : PS X (.Break pos) tBreak := fun _ _ σ H _ I h => wpAny_Break ⟨σ, H, I, h⟩
theorem ps_continue : PS X (.Continue pos) tCont := fun _ _ σ H _ I h => wpAny_Continue ⟨σ, H, I, h⟩
/-- in a def's body nothing is shown -/
theorem Inv.quiet {pins : List (Addr × Obj)} {σ : St} {H : Hp} {s : Shared} (I : Inv X pins σ H s) : interactive X.env = false := by simp [interactive, I.ok.kind]
/-- a docstring -/
theorem ps_doc {x j pos pos'} : PS X (.Expr (.Constant (.str x) j pos) pos') tNext := fun _ s σ H _ I h => wpAny_Expr (Calls.Constant_str (show SP X _ _ .next { s with toks := s.toks + 1 } from ⟨σ, H, I.tok _, h⟩)) I.quiet
/-- an expression whose value is dropped -/
def tDrop (te : TE) : TS := fun D σ H => te σ H fun _ H1 => D.nx σ H1
theorem ps_expr (he : PE X e te) (hs : swapsWith e none pos.line X.env = pure false := by rfl) : PS X (.Expr e pos) (tDrop te) := by
  intro pins s σ H D I h
  exact wpAny_Expr_any (thn (he pins s σ H _ I h) fun v s1 ⟨x, H1, I1, r1, q1⟩ => ⟨σ, H1, I1, q1⟩) I.quiet hs
def tRet (te : TE) : TS := fun D σ H => te σ H D.rt
theorem ps_ret (he : PE X e te) : PS X (.Return (some e) pos) (tRet te) := by
  intro pins s σ H D I h
  exact wpAny_Return_some (thn (he pins s σ H _ I h) fun v s1 ⟨x, H1, I1, r1, q1⟩ => ⟨x, σ, H1, I1, r1, q1⟩)
def tRetN : TS := fun D _ H => D.rt .non H
theorem ps_retN : PS X (.Return none pos) tRetN := fun _ _ σ H _ I h => wpAny_Return_none ⟨.non, σ, H, I, rfl, h⟩
def tIfS (c : TT) (t u : TS) : TS := fun D σ H => c σ H fun b H1 => if b = true then t D σ H1 else u D σ H1
theorem ps_if {c : Expr} {a b : List Stmt} {tc : TT} (hc : PT X c tc) (ha : PSs X a t) (hb : PSs X b u) : PS X (.If c a b pos) (tIfS tc t u) := by
  intro pins s σ H D I h
  refine wpAny_If (thn (hc pins s σ H _ I h) fun d s1 ⟨H1, I1, q1⟩ => ?_)
  cases d with
  | true => exact ha pins s1 σ H1 D I1 q1
  | false => exact hb pins s1 σ H1 D I1 q1
/-- code that the proof never comes to -/
def tNever : TS := fun _ _ _ => False
theorem ps_never : PS X st tNever := fun _ _ _ _ _ _ h => h.elim
theorem pss_never {sts : List Stmt} : PSs X sts tNever := fun _ _ _ _ _ _ h => h.elim
end

/-! ### targets -/
abbrev TG := V → St → Hp → (St → Hp → Prop) → Prop
abbrev TGs := List V → St → Hp → (St → Hp → Prop) → Prop
def PG (X : Cx) (target : Expr) (t : TG) : Prop :=
  ∀ (pins : List (Addr × Obj)) (s : Shared) (σ : St) (H : Hp) (v : V) (u : Value) (Q : St → Hp → Prop), Inv X pins σ H s → RelV v u → t v σ H Q →
    wpAny (model X.prog X.w) X.A (assign target X.env u) (fun _ s' => ∃ σ' H', Inv X pins σ' H' s' ∧ Q σ' H') X.xe s
/-- several targets, one after another -/
def PGs (X : Cx) (ts : List Expr) (t : TGs) : Prop :=
  ∀ (pins : List (Addr × Obj)) (s : Shared) (σ : St) (H : Hp) (vs : List V) (us : List Value) (Q : St → Hp → Prop), Inv X pins σ H s → Vals vs us → t vs σ H Q →
    wpAny (model X.prog X.w) X.A (assignInOrder ((assignEach ts X.env).map (·.2)) us) (fun _ s' => ∃ σ' H', Inv X pins σ' H' s' ∧ Q σ' H') X.xe s
/-- o[i] = v, by values -/
abbrev TSet := V → V → V → Hp → (Hp → Prop) → Prop
def PSet (X : Cx) (t : TSet) : Prop :=
  ∀ (pins : List (Addr × Obj)) (s : Shared) (σ : St) (H : Hp) (o i v : V) (ov iv u : Value) (Q : Hp → Prop), Inv X pins σ H s → RelV o ov → RelV i iv → RelV v u → t o i v H Q →
    wpAny (model X.prog X.w) X.A (setItem ov iv u) (fun _ s' => ∃ H', Inv X pins σ H' s' ∧ Q H') X.xe s
/-- a op= b, by values -/
abbrev TIp := V → V → Hp → VK → Prop
def PIp (X : Cx) (op : Operator) (t : TIp) : Prop :=
  ∀ (pins : List (Addr × Obj)) (s : Shared) (σ : St) (H : Hp) (x y : V) (v u : Value) (Q : VK), Inv X pins σ H s → RelV x v → RelV y u → t x y H Q →
    wpAny (model X.prog X.w) X.A (inplaceOp op v u) (EP X pins σ Q) X.xe s
section
variable {X : Cx} {pos : Pos}
def gName (i : Nat) : TG := fun v σ H Q => Q (σ.set i (some v)) H
theorem pg_name {i : Nat} {x : Str} (hN : X.N.Nodup) (hi : X.N[i]? = some x) (hx : Loc X.env.scope x) (hf : X.fn x = true ∨ X.env.scope.names.lookup x = some .local := by first | exact .inl rfl | exact .inr rfl | assumption) : PG X (.Name x pos) (gName i) := by
  intro pins s σ H v u Q I r h
  exact wpAny_assign_Name (store_ok I hN hi hx r (fun s' I' => ⟨_, H, I', h⟩) hf)
def gNil : TGs := fun vs σ H Q => vs = [] ∧ Q σ H
def gCons (t : TG) (u : TGs) : TGs := fun vs σ H Q => ∃ v r, vs = v :: r ∧ t v σ H fun σ' H' => u r σ' H' Q
theorem pgs_nil : PGs X [] gNil := by
  intro pins s σ H vs us Q I r h
  obtain ⟨e, h⟩ := h
  subst e
  cases r
  exact assignInOrder_nil ⟨σ, H, I, h⟩
theorem pgs_cons {e : Expr} {es : List Expr} {t : TG} {u : TGs} (h1 : PG X e t) (h2 : PGs X es u)
    (hs : (assignEach (e :: es) X.env).map (·.2) = assign e X.env :: (assignEach es X.env).map (·.2) := by rfl) : PGs X (e :: es) (gCons t u) := by
  intro pins s σ H vs us Q I r h
  obtain ⟨v, vr, e1, h⟩ := h
  subst e1
  cases r with
  | cons r rr =>
    rw [hs]
    refine assignInOrder_cons (thn (h1 pins s σ H _ _ _ I r h) fun _ s1 ⟨σ1, H1, I1, q1⟩ => ?_)
    exact h2 pins s1 σ1 H1 _ _ Q I1 rr q1
/-- (a, b, ..) = a tuple of that length -/
def gTup (K : PySem.W.Frag) (n : Nat) (t : TGs) : TG := fun v σ H Q => ∃ a xs, v = .ref a ∧ SqT K H a xs ∧ xs.length = n ∧ t xs σ H Q
theorem pg_tup {es : List Expr} {k : Nat} {t : TGs} {n : Nat} (hc : X.calm = true) (h : PGs X es t)
    (hn : (assignEach es X.env).length = n := by rfl) (hst : (assignEach es X.env).findIdx? (·.1) = none := by rfl) : PG X (.Tuple es k pos) (gTup X.K n t) := by
  intro pins s σ H v u Q I r hw
  obtain ⟨a, xs, e1, hq, hl, hw⟩ := hw
  subst e1
  cases r
  obtain ⟨its, rv, ht, hz⟩ := I.tuple hq
  refine assign_Tuple_tuple (I.ok.hd hc) ht (by simp [hn, ← hl, rv.length]) hst fun h' hx => ?_
  have I1 : Inv X pins σ H { s with heap := h' } := I.kept (t' := s.toks) fun b o e => hx b o (Nat.ne_of_lt (Heap.lt_size e)) e
  exact h pins _ σ H xs _ Q I1 (by simpa using rv) hw
/-- o[i] = .. -/
def gSub (to ti : TE) (t : TSet) : TG := fun v σ H Q => to σ H fun o H1 => ti σ H1 fun i H2 => t o i v H2 fun H3 => Q σ H3
theorem pg_sub {o i : Expr} {to ti : TE} {t : TSet} (ho : PE X o to) (hi : PE X i ti) (hs : PSet X t)
    (ha : ∀ v, assign (.Subscript o i pos) X.env v = (do
      let ov ← holding [v] (eval o X.env)
      let iv ← holding [v, ov] (eval i X.env)
      standAt pos
      holding [v, ov, iv] (setItem ov iv v)
      release [v, ov, iv] []) := by intro _; rfl) : PG X (.Subscript o i pos) (gSub to ti t) := by
  intro pins s σ H v u Q I r h
  rw [ha]
  refine wpAny_bind (wpAny_holding (thn (ho pins s σ H _ I h) fun ov s1 ⟨x, H1, I1, r1, q1⟩ => ?_))
  refine wpAny_bind (wpAny_holding (thn (hi pins s1 σ H1 _ I1 q1) fun iv s2 ⟨y, H2, I2, r2, q2⟩ => ?_))
  refine wpAny_bind (wpAny_standAt (wpAny_bind (wpAny_holding (thn (hs pins s2 σ H2 x y v ov iv u _ I2 r1 r2 r q2) fun _ s3 ⟨H3, I3, q3⟩ => ?_))))
  exact wpAny_release ⟨σ, H3, I3, q3⟩
/-- target = value -/
def tAsg (te : TE) (g : TG) : TS := fun D σ H => te σ H fun x H1 => g x σ H1 D.nx
theorem ps_asg {tg e : Expr} {te : TE} {g : TG} (he : PE X e te) (hg : PG X tg g) (hs : swapsWithSole [tg] e pos.line X.env = pure false := by rfl) (hw : swappedStores [tg] e X.env = pure none := by rfl)
    (h1 : (assignEach [tg] X.env).map (·.2) = [assign tg X.env] := by rfl) : PS X (.Assign [tg] e pos) (tAsg te g) := by
  intro pins s σ H D I h
  refine wpAny_Assign_stores (thn (he pins s σ H _ I h) fun v s1 ⟨x, H1, I1, r1, q1⟩ => ?_) hs hw
  rw [h1]
  exact thn (hg pins s1 σ H1 x v _ I1 r1 q1) fun _ s2 q => q
/-- name = value -/
theorem ps_set {i : Nat} {x : Str} {e : Expr} {te : TE} {pos' : Pos} (hN : X.N.Nodup) (hi : X.N[i]? = some x) (hx : Loc X.env.scope x) (he : PE X e te) (hs : swapsWith e (some (.Name x pos')) pos.line X.env = pure false := by rfl) (hf : X.fn x = true ∨ X.env.scope.names.lookup x = some .local := by first | exact .inl rfl | exact .inr rfl | assumption) :
    PS X (.Assign [.Name x pos'] e pos) (tAsg te (gName i)) := by
  intro pins s σ H D I h
  refine wpAny_Assign_Name (thn (he pins s σ H _ I h) fun v s1 ⟨y, H1, I1, r1, q1⟩ => ?_) hs
  exact store_ok I1 hN hi hx r1 (fun s2 I2 => ⟨_, H1, I2, q1⟩) hf
/-- a, b = x, y with plain local names: stored from the right; the pair itself is not tracked (the opening rows as in PyProof/Rows/TupAssign.lean:23) -/
def tPar (i j : Nat) (ta : TA) : TS := fun D σ H => ta σ H fun vs H1 => ∃ v w, vs = [v, w] ∧ D.nx ((σ.set i (some v)).set j (some w)) H1
theorem ps_par {i j : Nat} {x y : Str} {a b : Expr} {ta : TA} {px py pt : Pos} {kt k2 pt2} (hc : X.calm = true) (hN : X.N.Nodup) (hi : X.N[i]? = some x) (hj : X.N[j]? = some y) (hij : i ≠ j)
    (hx : X.env.scope.names.lookup x = some .local) (hy : X.env.scope.names.lookup y = some .local) (ha : PA X [a, b] ta)
    (hw : swappedStores [.Tuple [.Name x px, .Name y py] kt pt] (.Tuple [a, b] k2 pt2) X.env = pure (some [x, y]))
    (hs : swapsWithSole [.Tuple [.Name x px, .Name y py] kt pt] (.Tuple [a, b] k2 pt2) pos.line X.env = pure false := by rfl) :
    PS X (.Assign [.Tuple [.Name x px, .Name y py] kt pt] (.Tuple [a, b] k2 pt2) pos) (tPar i j ta) := by
  intro pins s σ H D I h
  rw [exec_Assign_arm]
  refine wpAny_bind (wpAny_standAt ?_)
  rw [hs]
  refine wpAny_bind (wpAny_pure ?_)
  rw [if_neg (by decide)]
  refine wpAny_bind (Tuple_ (thn (ha _ pins s σ H _ I h) fun us s1 ⟨vs, H1, I1, r1, q1⟩ => ?_))
  obtain ⟨v, w, e1, q1⟩ := q1
  subst e1
  obtain ⟨u1, u2, rfl, rv, rw'⟩ : ∃ u1 u2, us = [u1, u2] ∧ RelV v u1 ∧ RelV w u2 := by
    cases r1 with
    | cons p q =>
      cases q with
      | cons p' q' =>
        cases q'
        exact ⟨_, _, rfl, p, p'⟩
  refine wpAny_newObj_type ?_ (by show 2 ≤ sizeLine; decide)
  have I2 : Inv X pins σ H1 { s1 with heap := s1.heap.push { cls := .type "tuple", data := .seq [u1, u2].toArray } } := I1.kept (t' := s1.toks) fun b o e => Heap.get?_push_of_some _ e
  rw [hw]
  refine wpAny_bind (wpAny_pure ?_)
  show wpAny (model X.prog X.w) X.A (do rule "assign.swapped-stores"; let items ← unpackItems (.ref s1.heap.objs.size) 2 none; assignInOrder [fun v => bindName X.env y v, fun v => bindName X.env x v] items.reverse; pure Flow.next) _ _ _
  refine wpAny_bind (wpAny_rule (wpAny_bind (unpackItems_tuple (items := #[u1, u2]) (I.ok.hd hc) (IsTup.new s1.heap _) fun h' hx' => ?_)))
  have I3 := I2.kept (h' := h') (t' := s1.toks) fun b o e => hx' b o (Nat.ne_of_lt (Heap.lt_size e)) e
  show wpAny _ _ (assignInOrder [fun v => bindName X.env y v, fun v => bindName X.env x v] [u2, u1] >>= fun _ => pure Flow.next) _ _ _
  refine wpAny_bind (assignInOrder_cons (wpAny_bindName (store_ok I3 hN hj (.inl hy) rw' (fun s2 I4 => ?_) (.inr hy))))
  refine assignInOrder_cons (wpAny_bindName (store_ok I4 hN hi (.inl hx) rv (fun s3 I5 => assignInOrder_nil (wpAny_pure ?_)) (.inr hx)))
  rw [List.set_comm _ _ (Ne.symm hij)] at I5
  exact ⟨_, H1, I5, q1⟩
/-- name op= e -/
def tAug (i : Nat) (te : TE) (ti : TIp) : TS := fun D σ H => ∃ x, σ[i]? = some (some x) ∧ te σ H fun y H1 => ti x y H1 fun z H2 => D.nx (σ.set i (some z)) H2
theorem ps_aug {i : Nat} {x : Str} {e : Expr} {te : TE} {op : Operator} {ti : TIp} {pos' : Pos} (hN : X.N.Nodup) (hi : X.N[i]? = some x) (hx : Loc X.env.scope x) (he : PE X e te) (ho : PIp X op ti) (hf : X.fn x = true ∨ X.env.scope.names.lookup x = some .local := by first | exact .inl rfl | exact .inr rfl | assumption) :
    PS X (.AugAssign (.Name x pos') op e pos) (tAug i te ti) := by
  intro pins s σ H D I h
  obtain ⟨v, e1, h⟩ := h
  obtain ⟨m, hn, hl⟩ := I.loc
  have vis : Vis X.env.scope x := by rcases hx with k | k; exact .inl k; exact .inr (.inl k)
  obtain ⟨u, r, l⟩ := hl i x v hi e1 vis
  refine wpAny_AugAssign_Name ?_
  have go : wpAny (model X.prog X.w) X.A (eval e X.env) (fun w s₂ => wpAny (model X.prog X.w) X.A (inplaceOp op u w) (fun r s₃ => wpAny (model X.prog X.w) X.A (storeName X.env x r) (fun _ => SP X pins D .next) X.xe s₃) X.xe s₂) X.xe s := by
    refine thn (he pins s σ H _ I h) fun w s1 ⟨y, H1, I1, r1, q1⟩ => ?_
    refine thn (ho pins s1 σ H1 v y u w _ I1 r r1 q1) fun z s2 ⟨zv, H2, I2, r2, q2⟩ => ?_
    exact store_ok I2 hN hi hx r2 (fun s3 I3 => ⟨_, H2, I3, q2⟩) hf
  rcases l with ⟨hk, hm⟩ | ⟨hk, c, hc, hcell⟩
  · exact wpAny_loadName_local I.ok.kind hk hn hm go
  · rcases hk with hk | hk
    · exact wpAny_loadName_cell I.ok.kind hk hc hcell go
    · rcases hx with k | k
      · have : X.env.scope.names.lookup x = some .free := hk
        rw [k] at this; cases this
      · have : X.env.scope.names.lookup x = some .free := hk
        rw [k] at this; cases this
/-- o[i] op= e -/
def tAugS (to ti te : TE) (tget : V → V → Hp → VK → Prop) (tip : TIp) (tset : TSet) : TS := fun D σ H => to σ H fun o H1 => ti σ H1 fun i H2 => tget o i H2 fun x H3 => te σ H3 fun y H4 => tip x y H4 fun z H5 => tset o i z H5 fun H6 => D.nx σ H6
/-- o[i], by values -/
def PGet (X : Cx) (t : V → V → Hp → VK → Prop) : Prop :=
  ∀ (pins : List (Addr × Obj)) (s : Shared) (σ : St) (H : Hp) (o i : V) (ov iv : Value) (Q : VK), Inv X pins σ H s → RelV o ov → RelV i iv → t o i H Q →
    wpAny (model X.prog X.w) X.A (getItem ov iv) (EP X pins σ Q) X.xe s
theorem ps_augS {o i e : Expr} {to ti te : TE} {tget : V → V → Hp → VK → Prop} {tip : TIp} {tset : TSet} {op : Operator} {tpos : Pos} (ho : PE X o to) (hi : PE X i ti) (hg : PGet X tget) (he : PE X e te) (hp : PIp X op tip) (hs : PSet X tset)
    (ha : ∀ ov iv new, augStore i ov iv new = (do holding [new, ov, iv] (setItem ov iv new); release [new, ov, iv] []; pure .next) := by intros; rfl) : PS X (.AugAssign (.Subscript o i tpos) op e pos) (tAugS to ti te tget tip tset) := by
  intro pins s σ H D I h
  refine wpAny_AugAssign_SubscriptAny (thn (ho pins s σ H _ I h) fun ov s1 ⟨x1, H1, I1, r1, q1⟩ => ?_) ha
  refine thn (hi pins s1 σ H1 _ I1 q1) fun iv s2 ⟨x2, H2, I2, r2, q2⟩ => ?_
  refine thn (hg pins s2 σ H2 x1 x2 ov iv _ I2 r1 r2 q2) fun old s3 ⟨x3, H3, I3, r3, q3⟩ => ?_
  refine thn (he pins s3 σ H3 _ I3 q3) fun v s4 ⟨x4, H4, I4, r4, q4⟩ => ?_
  refine thn (hp pins s4 σ H4 x3 x4 old v _ I4 r3 r4 q4) fun new s5 ⟨x5, H5, I5, r5, q5⟩ => ?_
  exact thn (hs pins s5 σ H5 x1 x2 x5 ov iv new _ I5 r1 r2 r5 q5) fun _ s6 ⟨H6, I6, q6⟩ => ⟨σ, H6, I6, q6⟩
/-- ints -/
def ipI (f : Int → Int → Int) : TIp := fun x y H Q => ∃ i j, x = .int i ∧ y = .int j ∧ Q (.int (f i j)) H
theorem ip_add : PIp X .Add (ipI fun i j => i + j) := by
  intro pins s σ H x y v u Q I r1 r2 h
  obtain ⟨i, j, e1, e2, q⟩ := h
  subst e1; subst e2
  obtain ⟨t, rfl⟩ := r1
  obtain ⟨t', rfl⟩ := r2
  exact iadd_int ⟨.int _, H, I.tok _, ⟨_, rfl⟩, q⟩
theorem ip_sub : PIp X .Sub (ipI fun i j => i - j) := by
  intro pins s σ H x y v u Q I r1 r2 h
  obtain ⟨i, j, e1, e2, q⟩ := h
  subst e1; subst e2
  obtain ⟨t, rfl⟩ := r1
  obtain ⟨t', rfl⟩ := r2
  exact isub_int ⟨.int _, H, I.tok _, ⟨_, rfl⟩, q⟩
end

/-! ### while -/
section
variable {X : Cx} {pos : Pos}
/-- the invariant W with its measure -/
def tWhile (c : TT) (tb : TS) : TS := fun D σ H => ∃ W : Nat → St → Hp → Prop, (∃ m, W m σ H) ∧ ∀ m σ H, W m σ H →
  c σ H fun b H1 => if b = true then ∃ N : St → Hp → Prop, (∀ σ' H', N σ' H' → ∃ m', m' < m ∧ W m' σ' H') ∧ tb { D with nx := N, ct := N, bk := D.nx } σ H1 else D.nx σ H1
theorem ps_while {c : Expr} {body : List Stmt} {tc : TT} {tb : TS} (hp : PassesOwn (model X.prog X.w) X.A X.env X.xe) (hc : PT X c tc) (hb : PSs X body tb) : PS X (.While c body [] pos) (tWhile tc tb) := by
  intro pins s σ H D I h
  obtain ⟨W, ⟨m0, w0⟩, turn⟩ := h
  refine wpAny_While (codeAny_whileLoop (fun n s' => ∃ σ' H', Inv X pins σ' H' s' ∧ W n σ' H') ?_ m0 ⟨σ, H, I, w0⟩)
  rintro n s1 ⟨σ1, H1, I1, w1⟩
  refine wpAny_passesOwn hp (thn (hc pins s1 σ1 H1 _ I1 (turn n σ1 H1 w1)) fun b s2 ⟨H2, I2, q2⟩ => ?_)
  cases b with
  | true =>
    obtain ⟨N, hN, q2⟩ := q2
    rw [if_pos rfl]
    refine wpAny_passesOwn hp (thn (hb pins s2 σ1 H2 _ I2 q2) fun f s3 q3 => ?_)
    cases f with
    | next =>
      obtain ⟨σ3, H3, I3, n3⟩ := q3
      obtain ⟨m', hm, w3⟩ := hN σ3 H3 n3
      exact ⟨m', hm, σ3, H3, I3, w3⟩
    | cont =>
      obtain ⟨σ3, H3, I3, n3⟩ := q3
      obtain ⟨m', hm, w3⟩ := hN σ3 H3 n3
      exact ⟨m', hm, σ3, H3, I3, w3⟩
    | brk => exact q3
    | ret v => exact q3
  | false =>
    rw [if_neg Bool.false_ne_true]
    exact wpAny_execs_nil ⟨σ1, H2, I2, q2⟩
end

/-! ### what a loop or a comprehension walks -/
/-- at turn i: it yields x (the heap may grow), or it stops -/
structure It where
  go : Nat → Hp → Prop
  yld : Nat → Hp → V → Hp → Prop
  stop : Nat → Hp → Prop
/-- the iterator's own objects may turn: they are not the frame's, not pinned, younger than the entry (or a comprehension's own) -/
def FpOk (X : Cx) (pins : List (Addr × Obj)) (H : Hp) (b : Addr) : Prop :=
  H b = none ∧ b ≠ X.env.locals ∧ b ∉ X.fs ∧ (b ∈ X.ex ∨ X.s₀.heap.objs.size ≤ b) ∧ (∀ x c, X.env.cells.lookup x = some c → c ≠ b) ∧ ∀ p ∈ X.pn ++ pins, p.1 ≠ b
theorem Inv.fpOk {X : Cx} {pins : List (Addr × Obj)} {σ : St} {H H' : Hp} {s : Shared} {b : Addr} (I : Inv X pins σ H s) (hb : s.heap.objs.size ≤ b) (hn : H' b = none) : FpOk X pins H' b := by
  refine ⟨hn, Nat.ne_of_gt (Nat.lt_of_lt_of_le I.lt hb), I.nofs hb, .inr (Nat.le_trans I.sz hb), fun x c e z => ?_, fun p hp z => ?_⟩
  · obtain ⟨v, q⟩ := I.cell x c e
    exact absurd (Nat.lt_of_lt_of_le q.lt (by rw [z]; exact hb)) (Nat.lt_irrefl _)
  · exact absurd (Nat.lt_of_lt_of_le (Heap.lt_size (I.pin p hp).1) (by rw [z]; exact hb)) (Nat.lt_irrefl _)
structure Turn (P : Program) (w : World) (K : PySem.W.Frag) (tg : Expr) (J : It) (fp : List Addr) (it : Addr) (tn : Nat → Heap → Prop) : Prop where
  mem : it ∈ fp
  obj : ∀ i h, tn i h → ∀ b ∈ fp, ∃ o, h.get? b = some o ∧ ∀ v, o.data ≠ .cell v
  keep : ∀ i h h', tn i h → (∀ b ∈ fp, ∀ o, h.get? b = some o → h'.get? b = some o) → tn i h'
  item : ∀ (X : Cx), X.prog = P → X.w = w → X.K = K → X.calm = true → ∀ (i : Nat) (pins : List (Addr × Obj)) (s : Shared) (σ : St) (H : Hp) (E : Value → Shared → Prop), Inv X pins σ H s → (∀ b ∈ fp, FpOk X pins H b) → tn i s.heap → J.go i H →
    wpAny (model P w) X.A (pyNext (.ref it)) (fun r s1 => ∃ u, r = some u ∧
      wpAny (model P w) X.A (letOwnedTupleGo tg (.ref it) u) (fun _ s2 => ∃ x H', Inv X pins σ H' s2 ∧ RelV x u ∧ J.yld i H x H' ∧ tn (i + 1) s2.heap ∧ ∀ b ∈ fp, H' b = none) E s1) E s
  done : ∀ (X : Cx), X.prog = P → X.w = w → X.K = K → X.calm = true → ∀ (i : Nat) (pins : List (Addr × Obj)) (s : Shared) (σ : St) (H : Hp) (E : Value → Shared → Prop), Inv X pins σ H s → (∀ b ∈ fp, FpOk X pins H b) → tn i s.heap → J.stop i H →
    wpAny (model P w) X.A (pyNext (.ref it)) (fun r s1 => r = none ∧ Inv X pins σ H s1) E s
  self : ∀ (A : Around) (i : Nat) (s : Shared) (Q : Value → Shared → Prop) (E : Value → Shared → Prop), tn i s.heap → Q (.ref it) s → wpAny (model P w) A (pyIter (.ref it)) Q E s
abbrev TI := St → Hp → (It → Hp → Prop) → Prop
/-- an iterator has come -/
def PIE (X : Cx) (pins : List (Addr × Obj)) (σ : St) (tg : Expr) (R : It → Hp → Prop) (itv : Value) (s2 : Shared) : Prop :=
  ∃ (it : Addr) (fp : List Addr) (tn : Nat → Heap → Prop) (J : It) (H' : Hp), itv = .ref it ∧ Inv X pins σ H' s2 ∧ Turn X.prog X.w X.K tg J fp it tn ∧ tn 0 s2.heap ∧ (∀ b ∈ fp, FpOk X pins H' b) ∧ R J H'
def PI (X : Cx) (tg iter : Expr) (wi : TI) : Prop :=
  ∀ (pins : List (Addr × Obj)) (s : Shared) (σ : St) (H : Hp) (R : It → Hp → Prop), Inv X pins σ H s → wi σ H R →
    wpAny (model X.prog X.w) X.A (eval iter X.env) (fun v s1 => wpAny (model X.prog X.w) X.A (pyIter v) (PIE X pins σ tg R) X.xe s1) X.xe s

/-- the step ahead of the store is nothing for an iterator that keeps no tuple -/
theorem go_of {M : Model} {A : Around} {E : Value → Shared → Prop} {s : Shared} {tg : Expr} {it : Addr} {u : Value} {o : Obj} {n : String} {vs : Array Value} {Q : Unit → Shared → Prop} (ho : s.heap.get? it = some o) (hc : o.cls = .type n) (hd : o.data = .fields vs)
    (hn : ["enumerate", "zip", "dict_itemiterator", "dict_reverseitemiterator", "odict_iterator", "itertools.zip_longest", "itertools.pairwise"].contains n = false) (hQ : Q () s) : wpAny M A (letOwnedTupleGo tg (.ref it) u) Q E s := by
  unfold letOwnedTupleGo
  cases tg <;> first
    | exact wpAny_pure hQ
    | (cases u <;> first
        | exact wpAny_pure hQ
        | (refine wpAny_bind (wpAny_load ho ?_)
           rw [hc, hd]
           show wpAny M A (if (["enumerate", "zip", "dict_itemiterator", "dict_reverseitemiterator", "odict_iterator", "itertools.zip_longest", "itertools.pairwise"].contains n && vs[0]? == some (rawInt _)) = true then _ else _) Q E s
           rw [if_neg (by intro h; rw [hn, Bool.false_and] at h; cases h)]
           exact wpAny_pure hQ))

/-- the list at a, as it stands at each turn (a loop may append to it) -/
def Itl (K : PySem.W.Frag) (a : Addr) : It :=
  ⟨fun i H => ∃ xs x, SqL K H a xs ∧ xs[i]? = some x, fun i H x H' => H' = H ∧ ∀ xs, SqL K H a xs → xs[i]? = some x, fun i H => ∃ xs, SqL K H a xs ∧ xs.length ≤ i⟩
def Itt (K : PySem.W.Frag) (a : Addr) : It :=
  ⟨fun i H => ∃ xs x, SqT K H a xs ∧ xs[i]? = some x, fun i H x H' => H' = H ∧ ∀ xs, SqT K H a xs → xs[i]? = some x, fun i H => ∃ xs, SqT K H a xs ∧ xs.length ≤ i⟩
/-- lo, lo + 1, .. (n of them) -/
def Itr (lo : Int) (n : Nat) : It := ⟨fun i _ => i < n, fun i H x H' => H' = H ∧ x = .int (lo + i), fun i _ => n ≤ i⟩
theorem turn_list {P : Program} {w : World} {K : PySem.W.Frag} {tg : Expr} (a it : Addr) : Turn P w K tg (Itl K a) [it] it (fun i h => h.IsListIter it a i) where
  mem := by simp
  obj := fun i h st b hb => by
    have e : b = it := by simpa using hb
    subst e
    obtain ⟨o, e, c, d⟩ := st
    exact ⟨o, e, fun v z => by rw [d] at z; cases z⟩
  keep := fun i h h' st k => st.at fun o e => k it (by simp) o e
  item := by
    intro X hP hw hK hc i pins s σ H E I hf st hg
    subst hP hw hK
    obtain ⟨xs, x, hq, hx⟩ := hg
    obtain ⟨its, rv, p, hz⟩ := I.list hq
    obtain ⟨u, hu, ru⟩ := rv.get hx
    obtain ⟨f0, f1, f2, f3, f4, f5⟩ := hf it (by simp)
    refine wpAny_pyNext_list_item st p.isList (x := u) (by simpa using hu) fun h' st' sb => ?_
    have I1 : Inv X pins σ H { s with heap := h' } := I.turned (t' := s.toks) (fun b o hb e => (sb.2 b hb).trans e) f0 f1 f3 f4 f5
    obtain ⟨o, e, c, d⟩ := id st'
    exact ⟨u, rfl, go_of (s := { s with heap := h' }) e c d (by decide) ⟨x, H, I1, ru, ⟨rfl, fun ys hy => by rw [I.list_inj hy hq]; exact hx⟩, st', fun b hb => (hf b hb).1⟩⟩
  done := by
    intro X hP hw hK hc i pins s σ H E I hf st hg
    subst hP hw hK
    obtain ⟨xs, hq, hx⟩ := hg
    obtain ⟨its, rv, p, hz⟩ := I.list hq
    obtain ⟨f0, f1, f2, f3, f4, f5⟩ := hf it (by simp)
    have hl := rv.length
    exact wpAny_pyNext_list_end (I.ok.hd hc) st p.isList (by simp; omega) fun h' eb => ⟨rfl, I.turned (t' := s.toks) (fun b o hb e => eb b o hb e) f0 f1 f3 f4 f5⟩
  self := fun _ _ _ _ _ st h => wpAny_pyIter_listiter st h
theorem turn_tuple {P : Program} {w : World} {K : PySem.W.Frag} {tg : Expr} (a it : Addr) : Turn P w K tg (Itt K a) [it] it (fun i h => h.IsTupleIter it a i) where
  mem := by simp
  obj := fun i h st b hb => by
    have e : b = it := by simpa using hb
    subst e
    obtain ⟨o, e, c, d⟩ := st
    exact ⟨o, e, fun v z => by rw [d] at z; cases z⟩
  keep := fun i h h' st k => st.at fun o e => k it (by simp) o e
  item := by
    intro X hP hw hK hc i pins s σ H E I hf st hg
    subst hP hw hK
    obtain ⟨xs, x, hq, hx⟩ := hg
    obtain ⟨its, rv, p, hz⟩ := I.tuple hq
    obtain ⟨u, hu, ru⟩ := rv.get hx
    obtain ⟨f0, f1, f2, f3, f4, f5⟩ := hf it (by simp)
    refine wpAny_pyNext_tuple_item st (show s.heap.IsTuple a its.toArray from p) (x := u) (by simpa using hu) fun h' st' sb => ?_
    have I1 : Inv X pins σ H { s with heap := h' } := I.turned (t' := s.toks) (fun b o hb e => (sb.2 b hb).trans e) f0 f1 f3 f4 f5
    obtain ⟨o, e, c, d⟩ := id st'
    exact ⟨u, rfl, go_of (s := { s with heap := h' }) e c d (by decide) ⟨x, H, I1, ru, ⟨rfl, fun ys hy => by rw [I.tuple_inj hy hq]; exact hx⟩, st', fun b hb => (hf b hb).1⟩⟩
  done := by
    intro X hP hw hK hc i pins s σ H E I hf st hg
    subst hP hw hK
    obtain ⟨xs, hq, hx⟩ := hg
    obtain ⟨its, rv, p, hz⟩ := I.tuple hq
    obtain ⟨f0, f1, f2, f3, f4, f5⟩ := hf it (by simp)
    have hl := rv.length
    exact wpAny_pyNext_tuple_end (I.ok.hd hc) st (show s.heap.IsTuple a its.toArray from p) (by simp; omega) fun h' eb => ⟨rfl, I.turned (t' := s.toks) (fun b o hb e => eb b o hb e) f0 f1 f3 f4 f5⟩
  self := fun _ _ _ _ _ st h => wpAny_pyIter_tupleiter st h
theorem turn_range {P : Program} {w : World} {K : PySem.W.Frag} {tg : Expr} (it : Addr) (lo : Int) (n : Nat) : Turn P w K tg (Itr lo n) [it] it (fun i h => IsRangeIter h it (lo + (i : Nat) * 1) ((n : Int) - (i : Nat)) 1) where
  mem := by simp
  obj := fun i h st b hb => by
    have e : b = it := by simpa using hb
    subst e
    exact ⟨_, st, fun v z => by
      have z' : Data.fields _ = Data.cell v := z
      cases z'⟩
  keep := fun i h h' st k => k it (by simp) _ st
  item := by
    intro X hP hw hK hc i pins s σ H E I hf st hg
    subst hP hw hK
    obtain ⟨f0, f1, f2, f3, f4, f5⟩ := hf it (by simp)
    have W := Walks.range (prog := X.prog) (w := X.w) (I.ok.hd hc) it lo 1 n
    refine W.item i s _ _ hg st fun v h' tk hv st' kk => ?_
    obtain ⟨t, rfl⟩ := hv
    have I1 : Inv X pins σ H { s with heap := h', toks := tk } := I.turned (fun b o hb e => kk b o (by simpa using hb) e) f0 f1 f3 f4 f5
    refine ⟨_, rfl, go_of (s := { s with heap := h', toks := tk }) (n := "range_iterator") st' rfl rfl (by decide) ⟨.int (lo + i), H, I1, ⟨t, ?_⟩, ⟨rfl, rfl⟩, st', fun b hb => (hf b hb).1⟩⟩
    rw [Int.mul_one]
  done := by
    intro X hP hw hK hc i pins s σ H E I hf st hg
    subst hP hw hK
    obtain ⟨f0, f1, f2, f3, f4, f5⟩ := hf it (by simp)
    exact wpAny_pyNext_range_end (I.ok.hd hc) st (by have : n ≤ i := hg; omega) fun h' eb => ⟨rfl, I.turned (t' := s.toks) (fun b o hb e => eb b o hb e) f0 f1 f3 f4 f5⟩
  self := fun _ _ _ _ _ st h => wpAny_pyIter_rangeiter st h
end L2

namespace L2
open PySem PySem.Spec PyProof.Rows
section
variable {X : Cx} {tg : Expr}
def iList (K : PySem.W.Frag) (tl : TE) : TI := fun σ H R => tl σ H fun x H1 => ∃ a, x = .ref a ∧ (∃ xs, SqL K H1 a xs) ∧ R (Itl K a) H1
def iTup (K : PySem.W.Frag) (tl : TE) : TI := fun σ H R => tl σ H fun x H1 => ∃ a, x = .ref a ∧ (∃ xs, SqT K H1 a xs) ∧ R (Itt K a) H1
theorem pi_list {l : Expr} {tl : TE} (hl : PE X l tl) : PI X tg l (iList X.K tl) := by
  intro pins s σ H R I h
  refine thn (hl pins s σ H _ I h) fun v s1 ⟨x, H1, I1, r1, q1⟩ => ?_
  obtain ⟨a, e, ⟨xs, hq⟩, q⟩ := q1
  subst e
  cases r1
  obtain ⟨its, rv, p, hz⟩ := I1.list hq
  refine wpAny_pyIter_list p.isList ?_
  refine ⟨s1.heap.objs.size, [s1.heap.objs.size], _, _, H1, rfl, I1.kept (t' := s1.toks) fun b o e => Heap.get?_push_of_some _ e, turn_list a _, ⟨_, Heap.get?_push_size _ rfl, rfl, rfl⟩, fun b hb => ?_, q⟩
  have e : b = s1.heap.objs.size := by simpa using hb
  subst e
  exact I1.fpOk (Nat.le_refl _) (I1.hok.fresh (Nat.le_refl _))
theorem pi_tup {l : Expr} {tl : TE} (hl : PE X l tl) : PI X tg l (iTup X.K tl) := by
  intro pins s σ H R I h
  refine thn (hl pins s σ H _ I h) fun v s1 ⟨x, H1, I1, r1, q1⟩ => ?_
  obtain ⟨a, e, ⟨xs, hq⟩, q⟩ := q1
  subst e
  cases r1
  obtain ⟨its, rv, p, hz⟩ := I1.tuple hq
  refine wpAny_pyIter_tuple (show s1.heap.IsTuple a its.toArray from p) ?_
  refine ⟨s1.heap.objs.size, [s1.heap.objs.size], _, _, H1, rfl, I1.kept (t' := s1.toks) fun b o e => Heap.get?_push_of_some _ e, turn_tuple a _, ⟨_, Heap.get?_push_size _ rfl, rfl, rfl⟩, fun b hb => ?_, q⟩
  have e : b = s1.heap.objs.size := by simpa using hb
  subst e
  exact I1.fpOk (Nat.le_refl _) (I1.hok.fresh (Nat.le_refl _))
/-- a range object just made, walked -/
theorem range_it {pins : List (Addr × Obj)} {σ : St} {H : Hp} {s : Shared} {R : It → Hp → Prop} {E : Value → Shared → Prop} {lo hi : Int} {t u v : Tok} {tk : Nat} (I : Inv X pins σ H s) (h1 : -(2 ^ 62) ≤ lo) (h2 : lo < 2 ^ 62) (h3 : -(2 ^ 62) ≤ hi) (h4 : hi < 2 ^ 62)
    (q : R (Itr lo (hi - lo).toNat) H) : wpAny (model X.prog X.w) X.A (pyIter (.ref s.heap.objs.size)) (PIE X pins σ tg R) E { s with heap := s.heap.push { cls := .type "range", data := .fields #[.int lo t, .int hi u, .int 1 v] }, toks := tk } := by
  refine wpAny_pyIter_range (IsRange.new ..) (small_one h1 h2 h3 h4) ?_
  have I1 : Inv X pins σ H { s with heap := s.heap.push { cls := .type "range", data := .fields #[.int lo t, .int hi u, .int 1 v] }, toks := tk } := I.kept fun b o e => Heap.get?_push_of_some _ e
  refine ⟨(s.heap.push { cls := .type "range", data := .fields #[.int lo t, .int hi u, .int 1 v] }).objs.size, [(s.heap.push { cls := .type "range", data := .fields #[.int lo t, .int hi u, .int 1 v] }).objs.size], _, _, H, rfl,
    I1.kept (t' := tk) fun b o e => Heap.get?_push_of_some _ e, turn_range _ lo (hi - lo).toNat, ?_, fun b hb => ?_, q⟩
  · have e1 : lo + ((0 : Nat) : Int) * 1 = lo := by simp
    have e2 : (((hi - lo).toNat : Nat) : Int) - ((0 : Nat) : Int) = Builtin.Range.rangeSize lo hi 1 := by rw [rangeSize_one]; split <;> omega
    show IsRangeIter _ _ (lo + ((0 : Nat) : Int) * 1) ((((hi - lo).toNat : Nat) : Int) - ((0 : Nat) : Int)) 1
    rw [e1, e2]
    exact Heap.get?_push_size _ rfl
  · have e : b = (s.heap.push { cls := .type "range", data := .fields #[.int lo t, .int hi u, .int 1 v] }).objs.size := by simpa using hb
    subst e
    exact I1.fpOk (Nat.le_refl _) (I1.hok.fresh (Nat.le_refl _))
def iRng1 (ta : TA) : TI := fun σ H R => ta σ H fun vs H1 => ∃ j : Int, vs = [.int j] ∧ -(2 ^ 62) ≤ j ∧ j < 2 ^ 62 ∧ R (Itr 0 j.toNat) H1
def iRng2 (ta : TA) : TI := fun σ H R => ta σ H fun vs H1 => ∃ i j : Int, vs = [.int i, .int j] ∧ (-(2 ^ 62) ≤ i ∧ i < 2 ^ 62 ∧ -(2 ^ 62) ≤ j ∧ j < 2 ^ 62) ∧ R (Itr i (j - i).toNat) H1
theorem pi_range1 {a : Expr} {ta : TA} {p pos : Pos} (hg : Gl X "range") (hm : X.mg "range" = none) (ha : PA X [a] ta) (hs : starEach [a] X.env = [(false, eval a X.env)] := by rfl) : PI X tg (.Call (.Name "range" p) [a] [] pos) (iRng1 ta) := by
  intro pins s σ H R I h
  refine Call_ (ld_blt I hg hm boot_range (PyProof.Rows.callWith_type1 (thn (ha pos pins s σ H _ I h) fun us s1 ⟨vs, H1, I1, r1, q1⟩ => ?_) hs rfl))
  obtain ⟨j, e, q1, q2, q⟩ := q1
  subst e
  cases r1 with
  | cons r rr =>
    cases rr
    obtain ⟨t, rfl⟩ := r
    exact call_range_1 (range_it I1 (by omega) (by omega) q1 q2 (by simpa using q))
theorem pi_range2 {a b : Expr} {ta : TA} {p pos : Pos} (hg : Gl X "range") (hm : X.mg "range" = none) (ha : PA X [a, b] ta) (hs : starEach [a, b] X.env = [(false, eval a X.env), (false, eval b X.env)] := by rfl) (hs2 : starEach [b] X.env = [(false, eval b X.env)] := by rfl) :
    PI X tg (.Call (.Name "range" p) [a, b] [] pos) (iRng2 ta) := by
  intro pins s σ H R I h
  refine Call_ (ld_blt I hg hm boot_range (PyProof.Rows.callWith_type1 (thn (ha pos pins s σ H _ I h) fun us s1 ⟨vs, H1, I1, r1, q1⟩ => ?_) (by rw [hs, hs2]) (by rw [hs2]; rfl)))
  obtain ⟨i, j, e, ⟨q1, q2, q3, q4⟩, q⟩ := q1
  subst e
  cases r1 with
  | cons r rr =>
    cases rr with
    | cons r' rr =>
      cases rr
      obtain ⟨t, rfl⟩ := r
      obtain ⟨t', rfl⟩ := r'
      exact call_range_2 (range_it I1 q1 q2 q3 q4 q)

/-! ### for -/
/-- W: the invariant by the turn and a measure; N: what the body is to reach -/
def tFor (wi : TI) (g : TG) (tb : TS) : TS := fun D σ H => wi σ H fun J H1 => ∃ W : Nat → Nat → St → Hp → Prop, (∃ m, W 0 m σ H1) ∧ ∀ i m σ H, W i m σ H →
  (J.stop i H ∧ D.nx σ H) ∨ (J.go i H ∧ ∃ N : St → Hp → Prop, (∀ σ' H', N σ' H' → ∃ m', m' < m ∧ W (i + 1) m' σ' H') ∧ ∀ x H', J.yld i H x H' → g x σ H' fun σ2 H2 => tb { D with nx := N, ct := N, bk := D.nx } σ2 H2)
/-- the records at fp as they stand -/
def pinsAt (fp : List Addr) (h : Heap) : List (Addr × Obj) := fp.filterMap fun b => (h.get? b).map fun o => (b, o)
theorem mem_pinsAt {fp : List Addr} {h : Heap} {b : Addr} {o : Obj} (hb : b ∈ fp) (e : h.get? b = some o) : (b, o) ∈ pinsAt fp h := List.mem_filterMap.mpr ⟨b, hb, by rw [e]; rfl⟩
theorem of_pinsAt {fp : List Addr} {h : Heap} {p : Addr × Obj} (hp : p ∈ pinsAt fp h) : p.1 ∈ fp ∧ h.get? p.1 = some p.2 := by
  obtain ⟨b, hb, e⟩ := List.mem_filterMap.mp hp
  cases q : h.get? b with
  | none => rw [q] at e; cases e
  | some o =>
    rw [q] at e
    have e' : (b, o) = p := Option.some.inj e
    subst e'
    exact ⟨hb, q⟩
theorem Inv.pinned {pins : List (Addr × Obj)} {σ : St} {H : Hp} {s : Shared} {fp : List Addr} (I : Inv X pins σ H s) (hf : ∀ b ∈ fp, FpOk X pins H b) (ho : ∀ b ∈ fp, ∃ o, s.heap.get? b = some o ∧ ∀ v, o.data ≠ .cell v) : Inv X (pins ++ pinsAt fp s.heap) σ H s :=
  I.pins_of fun p hp => (List.mem_append.mp hp).elim (fun z => I.pin p (List.mem_append_right _ z)) fun z => by
    obtain ⟨hb, e⟩ := of_pinsAt z
    obtain ⟨f0, f1, f2, _⟩ := hf p.1 hb
    obtain ⟨o, e', d⟩ := ho p.1 hb
    rw [e] at e'; cases e'
    exact ⟨e, f0, f1, f2, d⟩
theorem Inv.unpinned {pins pl : List (Addr × Obj)} {σ : St} {H : Hp} {s : Shared} (I : Inv X (pins ++ pl) σ H s) : Inv X pins σ H s := I.pins_of fun p hp => I.pin p (List.mem_append_right _ (List.mem_append_left _ hp))
theorem ps_for {iter : Expr} {body : List Stmt} {wi : TI} {g : TG} {tb : TS} {pos : Pos} (hp : PassesOwn (model X.prog X.w) X.A X.env X.xe) (hc : X.calm = true) (hi : PI X tg iter wi) (hg : PG X tg g) (hb : PSs X body tb)
    (hs : ∀ x, foldedSetIterable iter X.env x = pure x := by intro _; rfl) : PS X (.For tg iter body [] pos) (tFor wi g tb) := by
  intro pins s σ H D I h
  refine wpAny_For (thn (hi pins s σ H _ I h) fun v s1 h1 => thn h1 fun itv s2 h2 => ?_) hs
  obtain ⟨it, fp, tn, J, H2, e, I2, T, st2, f2, W, ⟨m0, w0⟩, turn⟩ := h2
  subst e
  -- what stays true of the iterator's objects through the loop
  have stat : ∀ {H' : Hp}, (∀ b ∈ fp, H' b = none) → ∀ b ∈ fp, FpOk X pins H' b := fun hn b hb => ⟨hn b hb, (f2 b hb).2⟩
  refine codeAny_forLoop_any (fun n s' => ∃ i σ' H', Inv X pins σ' H' s' ∧ tn i s'.heap ∧ (∀ b ∈ fp, H' b = none) ∧ W i n σ' H') ?_ m0 ⟨0, σ, H2, I2, st2, fun b hb => (f2 b hb).1, w0⟩
  rintro n s3 ⟨i, σ3, H3, I3, st3, fr3, w3⟩
  rcases turn i n σ3 H3 w3 with ⟨stop, qn⟩ | ⟨go, N, hN, step⟩
  · refine wpAny_passesOwn hp (thn (T.done X rfl rfl rfl hc i pins s3 σ3 H3 X.xe I3 (stat fr3) st3 stop) fun r s4 ⟨hr, I4⟩ => ?_)
    subst hr
    exact wpAny_execs_nil ⟨σ3, H3, I4, qn⟩
  · refine wpAny_passesOwn hp (thn (T.item X rfl rfl rfl hc i pins s3 σ3 H3 X.xe I3 (stat fr3) st3 go) fun r s4 ⟨u, hr, h4⟩ => ?_)
    subst hr
    refine wpAny_passesOwn hp (thn h4 fun _ s5 ⟨x, H5, I5, r5, y5, st5, fr5⟩ => ?_)
    have I5' := I5.pinned (stat fr5) (T.obj _ _ st5)
    refine wpAny_passesOwn hp (thn (hg _ s5 σ3 H5 x u _ I5' r5 (step x H5 y5)) fun _ s6 ⟨σ6, H6, I6, q6⟩ => ?_)
    refine wpAny_passesOwn hp (thn (hb _ s6 σ6 H6 _ I6 q6) fun f s7 q7 => ?_)
    have again : ∀ {σ7 : St} {H7 : Hp}, Inv X (pins ++ pinsAt fp s5.heap) σ7 H7 s7 → N σ7 H7 → ∃ m, m < n ∧ ∃ i σ' H', Inv X pins σ' H' s7 ∧ tn i s7.heap ∧ (∀ b ∈ fp, H' b = none) ∧ W i m σ' H' := fun {σ7 H7} I7 n7 => by
      obtain ⟨m', hm, w7⟩ := hN σ7 H7 n7
      refine ⟨m', hm, i + 1, σ7, H7, I7.unpinned, T.keep _ _ _ st5 fun b hb o e => (I7.pin (b, o) (List.mem_append_right _ (List.mem_append_right _ (mem_pinsAt hb e)))).1, fun b hb => ?_, w7⟩
      obtain ⟨o, e, d⟩ := T.obj _ _ st5 b hb
      exact (I7.pin (b, o) (List.mem_append_right _ (List.mem_append_right _ (mem_pinsAt hb e)))).2.1
    cases f with
    | next => obtain ⟨σ7, H7, I7, n7⟩ := q7; exact again I7 n7
    | cont => obtain ⟨σ7, H7, I7, n7⟩ := q7; exact again I7 n7
    | brk => obtain ⟨σ7, H7, I7, q7⟩ := q7; exact ⟨σ7, H7, I7.unpinned, q7⟩
    | ret v => obtain ⟨x7, σ7, H7, I7, r7, q7⟩ := q7; exact ⟨x7, σ7, H7, I7.unpinned, r7, q7⟩
end

/-! ### the forms one uses -/
/-- over a list that the body leaves as it is -/
theorem for_list {K : PySem.W.Frag} {a : Addr} {xs : List V} {g : TG} {tb : TS} {D : Ends} {σ : St} {H : Hp} (Pv : Nat → St → Hp → Prop) (h0 : Pv 0 σ H) (hl : ∀ i σ H, i ≤ xs.length → Pv i σ H → SqL K H a xs)
    (hs : ∀ i x σ H, xs[i]? = some x → Pv i σ H → g x σ H fun σ2 H2 => tb { D with nx := Pv (i + 1), ct := Pv (i + 1), bk := D.nx } σ2 H2) (hd : ∀ σ H, Pv xs.length σ H → D.nx σ H) :
    ∃ W : Nat → Nat → St → Hp → Prop, (∃ m, W 0 m σ H) ∧ ∀ i m σ H, W i m σ H →
      ((Itl K a).stop i H ∧ D.nx σ H) ∨ ((Itl K a).go i H ∧ ∃ N : St → Hp → Prop, (∀ σ' H', N σ' H' → ∃ m', m' < m ∧ W (i + 1) m' σ' H') ∧ ∀ x H', (Itl K a).yld i H x H' → g x σ H' fun σ2 H2 => tb { D with nx := N, ct := N, bk := D.nx } σ2 H2) := by
  refine ⟨fun i m σ H => m = xs.length - i ∧ i ≤ xs.length ∧ Pv i σ H, ⟨xs.length, by simp, Nat.zero_le _, h0⟩, ?_⟩
  rintro i m σ H ⟨rfl, hi, p⟩
  have q := hl i σ H hi p
  by_cases hlt : i < xs.length
  · refine .inr ⟨⟨xs, xs[i], q, by simp [hlt]⟩, Pv (i + 1), fun σ' H' p' => ⟨xs.length - (i + 1), by omega, rfl, hlt, p'⟩, fun x H' y => ?_⟩
    obtain ⟨e, y⟩ := y
    subst e
    exact hs i x σ _ (y xs q) p
  · have e : i = xs.length := by omega
    subst e
    exact .inl ⟨⟨xs, q, Nat.le_refl _⟩, hd σ H p⟩
theorem for_tup {K : PySem.W.Frag} {a : Addr} {xs : List V} {g : TG} {tb : TS} {D : Ends} {σ : St} {H : Hp} (Pv : Nat → St → Hp → Prop) (h0 : Pv 0 σ H) (hl : ∀ i σ H, i ≤ xs.length → Pv i σ H → SqT K H a xs)
    (hs : ∀ i x σ H, xs[i]? = some x → Pv i σ H → g x σ H fun σ2 H2 => tb { D with nx := Pv (i + 1), ct := Pv (i + 1), bk := D.nx } σ2 H2) (hd : ∀ σ H, Pv xs.length σ H → D.nx σ H) :
    ∃ W : Nat → Nat → St → Hp → Prop, (∃ m, W 0 m σ H) ∧ ∀ i m σ H, W i m σ H →
      ((Itt K a).stop i H ∧ D.nx σ H) ∨ ((Itt K a).go i H ∧ ∃ N : St → Hp → Prop, (∀ σ' H', N σ' H' → ∃ m', m' < m ∧ W (i + 1) m' σ' H') ∧ ∀ x H', (Itt K a).yld i H x H' → g x σ H' fun σ2 H2 => tb { D with nx := N, ct := N, bk := D.nx } σ2 H2) := by
  refine ⟨fun i m σ H => m = xs.length - i ∧ i ≤ xs.length ∧ Pv i σ H, ⟨xs.length, by simp, Nat.zero_le _, h0⟩, ?_⟩
  rintro i m σ H ⟨rfl, hi, p⟩
  have q := hl i σ H hi p
  by_cases hlt : i < xs.length
  · refine .inr ⟨⟨xs, xs[i], q, by simp [hlt]⟩, Pv (i + 1), fun σ' H' p' => ⟨xs.length - (i + 1), by omega, rfl, hlt, p'⟩, fun x H' y => ?_⟩
    obtain ⟨e, y⟩ := y
    subst e
    exact hs i x σ _ (y xs q) p
  · have e : i = xs.length := by omega
    subst e
    exact .inl ⟨⟨xs, q, Nat.le_refl _⟩, hd σ H p⟩
theorem for_range {lo : Int} {n : Nat} {g : TG} {tb : TS} {D : Ends} {σ : St} {H : Hp} (Pv : Nat → St → Hp → Prop) (h0 : Pv 0 σ H)
    (hs : ∀ i σ H, i < n → Pv i σ H → g (.int (lo + i)) σ H fun σ2 H2 => tb { D with nx := Pv (i + 1), ct := Pv (i + 1), bk := D.nx } σ2 H2) (hd : ∀ σ H, Pv n σ H → D.nx σ H) :
    ∃ W : Nat → Nat → St → Hp → Prop, (∃ m, W 0 m σ H) ∧ ∀ i m σ H, W i m σ H →
      ((Itr lo n).stop i H ∧ D.nx σ H) ∨ ((Itr lo n).go i H ∧ ∃ N : St → Hp → Prop, (∀ σ' H', N σ' H' → ∃ m', m' < m ∧ W (i + 1) m' σ' H') ∧ ∀ x H', (Itr lo n).yld i H x H' → g x σ H' fun σ2 H2 => tb { D with nx := N, ct := N, bk := D.nx } σ2 H2) := by
  refine ⟨fun i m σ H => m = n - i ∧ i ≤ n ∧ Pv i σ H, ⟨n, by simp, Nat.zero_le _, h0⟩, ?_⟩
  rintro i m σ H ⟨rfl, hi, p⟩
  by_cases hlt : i < n
  · refine .inr ⟨hlt, Pv (i + 1), fun σ' H' p' => ⟨n - (i + 1), by omega, rfl, hlt, p'⟩, fun x H' y => ?_⟩
    obtain ⟨e, y⟩ := y
    subst e y
    exact hs i σ _ hlt p
  · have e : i = n := by omega
    subst e
    exact .inl ⟨Nat.le_refl _, hd σ H p⟩
/-- while, by a word and a measure of the state -/
theorem while_by {c : TT} {tb : TS} {D : Ends} {σ : St} {H : Hp} (Pv : St → Hp → Prop) (μ : St → Hp → Nat) (h0 : Pv σ H)
    (hs : ∀ σ H, Pv σ H → c σ H fun b H1 => if b = true then tb { D with nx := fun σ' H' => Pv σ' H' ∧ μ σ' H' < μ σ H, ct := fun σ' H' => Pv σ' H' ∧ μ σ' H' < μ σ H, bk := D.nx } σ H1 else D.nx σ H1)
    (mono : ∀ σ H Q Q', (∀ b H1, Q b H1 → Q' b H1) → c σ H Q → c σ H Q') : tWhile c tb D σ H := by
  refine ⟨fun m σ H => m = μ σ H ∧ Pv σ H, ⟨_, rfl, h0⟩, ?_⟩
  rintro m σ H ⟨rfl, p⟩
  refine mono σ H _ _ (fun b H1 q => ?_) (hs σ H p)
  cases b with
  | true => exact ⟨_, fun σ' H' ⟨p', l⟩ => ⟨_, l, rfl, p'⟩, q⟩
  | false => exact q
end L2

namespace L2
open PySem PySem.Spec PyProof.Rows

abbrev R2 := V → V → Hp → VK → Prop
/-- a two-place operation on values: f is binaryOp op, inplaceOp op or compareOp op -/
def OpR (X : Cx) (f : Value → Value → Sem Value) (r : R2) : Prop :=
  ∀ (pins : List (Addr × Obj)) (s : Shared) (σ : St) (H : Hp) (x y : V) (v u : Value) (Q : VK), Inv X pins σ H s → RelV x v → RelV y u → r x y H Q →
    wpAny (model X.prog X.w) X.A (f v u) (EP X pins σ Q) X.xe s
/-- a one-place operation -/
def UnR (X : Cx) (f : Value → Sem Value) (r : V → Hp → VK → Prop) : Prop :=
  ∀ (pins : List (Addr × Obj)) (s : Shared) (σ : St) (H : Hp) (x : V) (v : Value) (Q : VK), Inv X pins σ H s → RelV x v → r x H Q →
    wpAny (model X.prog X.w) X.A (f v) (EP X pins σ Q) X.xe s
/-- a call of a value that is known (a builtin, a type) with values -/
def CallR (X : Cx) (f : Value) (r : List V → Hp → VK → Prop) : Prop :=
  ∀ (pins : List (Addr × Obj)) (s : Shared) (σ : St) (H : Hp) (xs : List V) (us : List Value) (Q : VK), Inv X pins σ H s → Vals xs us → r xs H Q →
    wpAny (model X.prog X.w) X.A (call f us) (EP X pins σ Q) X.xe s
/-- a value's truth -/
def TruR (X : Cx) (r : V → Hp → (Bool → Hp → Prop) → Prop) : Prop :=
  ∀ (pins : List (Addr × Obj)) (s : Shared) (σ : St) (H : Hp) (x : V) (v : Value) (Q : Bool → Hp → Prop), Inv X pins σ H s → RelV x v → r x H Q →
    wpAny (model X.prog X.w) X.A (truthy v) (TP X pins σ Q) X.xe s

def tOp (r : R2) (ta tb : TE) : TE := fun σ H Q => ta σ H fun x H1 => tb σ H1 fun y H2 => r x y H2 Q
def tUn (r : V → Hp → VK → Prop) (ta : TE) : TE := fun σ H Q => ta σ H fun x H1 => r x H1 Q
/-- ints in, under C, and a value out -/
def rI (C : Int → Int → Prop) (g : Int → Int → V) : R2 := fun x y H Q => ∃ i j, x = .int i ∧ y = .int j ∧ C i j ∧ Q (g i j) H
def rI0 (g : Int → Int → V) : R2 := fun x y H Q => ∃ i j, x = .int i ∧ y = .int j ∧ Q (g i j) H
def rU (g : Int → V) : V → Hp → VK → Prop := fun x H Q => ∃ i, x = .int i ∧ Q (g i) H

section
variable {X : Cx} {a b c : Expr} {ta tb tc : TE} {pos : Pos}

theorem binT (ha : PE X a ta) (hb : PE X b tb) {pins : List (Addr × Obj)} {s : Shared} {σ : St} {H : Hp} {R : V → V → Hp → Prop} (I : Inv X pins σ H s)
    (h : ta σ H fun x H1 => tb σ H1 fun y H2 => R x y H2) {Q : Value → Shared → Prop} {f : Value → Value → Sem Value}
    (hf : ∀ v u s2 x y H2, Inv X pins σ H2 s2 → RelV x v → RelV y u → R x y H2 → wpAny (model X.prog X.w) X.A (f v u) Q X.xe s2) :
    wpAny (model X.prog X.w) X.A (eval a X.env) (fun v s₁ => wpAny (model X.prog X.w) X.A (eval b X.env) (fun u s₂ => wpAny (model X.prog X.w) X.A (f v u) Q X.xe s₂) X.xe s₁) X.xe s := by
  refine thn (ha pins s σ H _ I h) fun v s1 ⟨x, H1, I1, r1, q1⟩ => ?_
  refine thn (hb pins s1 σ H1 _ I1 q1) fun u s2 ⟨y, H2, I2, r2, q2⟩ => ?_
  exact hf v u s2 x y H2 I2 r1 r2 q2

theorem pe_op {op : Operator} {r : R2} (ho : OpR X (binaryOp op) r) (ha : PE X a ta) (hb : PE X b tb) : PE X (.BinOp a op b pos) (tOp r ta tb) := by
  intro pins s σ H Q I h
  exact wpAny_BinOp (binT ha hb I h fun v u s2 x y H2 I2 rx ry q => ho pins s2 σ H2 x y v u Q I2 rx ry q)
theorem pe_un {op : UnaryOp} {r : V → Hp → VK → Prop} (ho : UnR X (unaryOp op) r) (ha : PE X a ta) : PE X (.UnaryOp op a pos) (tUn r ta) := by
  intro pins s σ H Q I h
  exact UnaryOp_ (thn (ha pins s σ H _ I h) fun v s1 ⟨x, H1, I1, r1, q1⟩ => ho pins s1 σ H1 x v Q I1 r1 q1)
/-- a op= e at a name: the name's slot i -/
theorem augR {op : Operator} {r : R2} (ho : OpR X (inplaceOp op) r) {pins : List (Addr × Obj)} {s : Shared} {σ : St} {H : Hp} {x y : V} {v u : Value} {Q : VK} (I : Inv X pins σ H s)
    (rx : RelV x v) (ry : RelV y u) (q : r x y H Q) : wpAny (model X.prog X.w) X.A (inplaceOp op v u) (EP X pins σ Q) X.xe s := ho pins s σ H x y v u Q I rx ry q

/-! ### ints -/
theorem opI {f : Value → Value → Sem Value} {C : Int → Int → Prop} {g : Int → Int → Int}
    (rule : ∀ (i j : Int) (t u : Tok) (s : Shared) (Q : Value → Shared → Prop) (E : Value → Shared → Prop), C i j → Q (.int (g i j) s.toks) { s with toks := s.toks + 1 } → wpAny (model X.prog X.w) X.A (f (.int i t) (.int j u)) Q E s) :
    OpR X f (rI C fun i j => .int (g i j)) := by
  intro pins s σ H x y v u Q I rx ry h
  obtain ⟨i, j, rfl, rfl, hc, q⟩ := h
  obtain ⟨t, rfl⟩ := rx
  obtain ⟨t', rfl⟩ := ry
  exact rule i j t t' s _ _ hc ⟨.int (g i j), H, I.tok _, ⟨_, rfl⟩, q⟩
theorem opI0 {f : Value → Value → Sem Value} {g : Int → Int → Int}
    (rule : ∀ (i j : Int) (t u : Tok) (s : Shared) (Q : Value → Shared → Prop) (E : Value → Shared → Prop), Q (.int (g i j) s.toks) { s with toks := s.toks + 1 } → wpAny (model X.prog X.w) X.A (f (.int i t) (.int j u)) Q E s) :
    OpR X f (rI0 fun i j => .int (g i j)) := by
  intro pins s σ H x y v u Q I rx ry h
  obtain ⟨i, j, rfl, rfl, q⟩ := h
  obtain ⟨t, rfl⟩ := rx
  obtain ⟨t', rfl⟩ := ry
  exact rule i j t t' s _ _ ⟨.int (g i j), H, I.tok _, ⟨_, rfl⟩, q⟩
theorem opB0 {f : Value → Value → Sem Value} {g : Int → Int → Bool}
    (rule : ∀ (i j : Int) (t u : Tok) (s : Shared) (Q : Value → Shared → Prop) (E : Value → Shared → Prop), Q (.bool (g i j)) s → wpAny (model X.prog X.w) X.A (f (.int i t) (.int j u)) Q E s) :
    OpR X f (rI0 fun i j => .bl (g i j)) := by
  intro pins s σ H x y v u Q I rx ry h
  obtain ⟨i, j, rfl, rfl, q⟩ := h
  obtain ⟨t, rfl⟩ := rx
  obtain ⟨t', rfl⟩ := ry
  exact rule i j t t' s _ _ ⟨.bl (g i j), H, I, rfl, q⟩

def CDiv (i j : Int) : Prop := 0 < j ∧ j < 1073741824
def CDivN (i j : Int) : Prop := j ≠ 0 ∧ j.natAbs < 1073741824
def CPow (i j : Int) : Prop := 0 ≤ j ∧ j ≤ 1000000 ∧ i.natAbs < 2 ^ 64
def CMul (i j : Int) : Prop := (-(2 ^ 64) < i ∧ i < 2 ^ 64) ∨ (-(2 ^ 64) < j ∧ j < 2 ^ 64)
theorem CMul.ok {i j : Int} (h : CMul i j) : IntMulOk i j := by
  rcases h with ⟨h1, h2⟩ | ⟨h1, h2⟩
  · exact .of_left (intBits_le_64 h1 h2)
  · exact .of_right (intBits_le_64 h1 h2)
theorem two_pow_nn (k : Nat) : (0 : Int) ≤ 2 ^ k := by
  rw [two_pow_cast]
  exact Int.natCast_nonneg _

theorem op_add : OpR X (binaryOp .Add) (rI0 fun i j => .int (i + j)) := opI0 fun _ _ _ _ _ _ _ q => add_int q
theorem op_sub : OpR X (binaryOp .Sub) (rI0 fun i j => .int (i - j)) := opI0 fun _ _ _ _ _ _ _ q => sub_int q
theorem op_mul : OpR X (binaryOp .Mult) (rI CMul fun i j => .int (i * j)) := opI fun _ _ _ _ _ _ _ hc q => mul_int q hc.ok
/-- // by a positive divisor -/
theorem op_fdiv : OpR X (binaryOp .FloorDiv) (rI CDiv fun i j => .int (i / j)) := opI fun i j _ _ _ _ _ hc q => by
  have h1 : (0 : Int) < j := hc.1
  have h2 : j < 1073741824 := hc.2
  exact floordiv_int (by omega) (by rw [Int.fdiv_eq_ediv_of_nonneg i (by omega)]; exact q) (.inl (PyProof.noPylong_small (by omega)))
theorem op_fdivN : OpR X (binaryOp .FloorDiv) (rI CDivN fun i j => .int (i.fdiv j)) := opI fun _ _ _ _ _ _ _ hc q => floordiv_int hc.1 q (.inl (PyProof.noPylong_small hc.2))
/-- % by a positive divisor of any size -/
theorem op_mod : OpR X (binaryOp .Mod) (rI (fun _ j => 0 < j) fun i j => .int (i % j)) := opI fun i j _ _ _ _ _ hc q => by
  have h1 : (0 : Int) < j := hc
  exact mod_int' (by omega) (by rw [Int.fmod_eq_emod_of_nonneg i (by omega)]; exact q)
theorem op_modN : OpR X (binaryOp .Mod) (rI (fun _ j => j ≠ 0) fun i j => .int (i.fmod j)) := opI fun _ _ _ _ _ _ _ hc q => mod_int' hc q
theorem op_pow : OpR X (binaryOp .Pow) (rI CPow fun i j => .int (i ^ j.toNat)) := opI fun _ _ _ _ _ _ _ hc q => pow_int_small hc.1 hc.2.1 hc.2.2 q
theorem op_shl : OpR X (binaryOp .LShift) (rI CPow fun i j => .int (i * 2 ^ j.toNat)) := opI fun _ _ _ _ _ _ _ hc q => lshift_int_small hc.1 hc.2.1 hc.2.2 q
theorem op_shr : OpR X (binaryOp .RShift) (rI (fun _ j => 0 ≤ j) fun i j => .int (i / 2 ^ j.toNat)) := opI fun i j _ _ _ _ _ hc q =>
  rshift_int hc (by rw [Int.fdiv_eq_ediv_of_nonneg i (two_pow_nn _)]; exact q)
theorem op_and : OpR X (binaryOp .BitAnd) (rI0 fun i j => .int (Builtin.bitAnd i j)) := opI0 fun _ _ _ _ _ _ _ q => and_int q
theorem op_or : OpR X (binaryOp .BitOr) (rI0 fun i j => .int (Builtin.bitOr i j)) := opI0 fun _ _ _ _ _ _ _ q => or_int q
theorem op_xor : OpR X (binaryOp .BitXor) (rI0 fun i j => .int (Builtin.bitXor i j)) := opI0 fun _ _ _ _ _ _ _ q => xor_int q

theorem iop_add : OpR X (inplaceOp .Add) (rI0 fun i j => .int (i + j)) := opI0 fun _ _ _ _ _ _ _ q => iadd_int q
theorem iop_sub : OpR X (inplaceOp .Sub) (rI0 fun i j => .int (i - j)) := opI0 fun _ _ _ _ _ _ _ q => isub_int q
theorem iop_mul : OpR X (inplaceOp .Mult) (rI CMul fun i j => .int (i * j)) := opI fun _ _ _ _ _ _ _ hc q => imul_int q hc.ok
theorem iop_fdiv : OpR X (inplaceOp .FloorDiv) (rI CDiv fun i j => .int (i / j)) := opI fun i j _ _ _ _ _ hc q => by
  have h1 : (0 : Int) < j := hc.1
  have h2 : j < 1073741824 := hc.2
  exact ifloordiv_int (by omega) (by rw [Int.fdiv_eq_ediv_of_nonneg i (by omega)]; exact q) (.inl (PyProof.noPylong_small (by omega)))
theorem iop_mod : OpR X (inplaceOp .Mod) (rI (fun _ j => 0 < j) fun i j => .int (i % j)) := opI fun i j _ _ _ _ _ hc q => by
  have h1 : (0 : Int) < j := hc
  exact imod_int (by omega) (by rw [Int.fmod_eq_emod_of_nonneg i (by omega)]; exact q)
theorem iop_shl : OpR X (inplaceOp .LShift) (rI CPow fun i j => .int (i * 2 ^ j.toNat)) := opI fun _ _ _ _ _ _ _ hc q => ilshift_int_small hc.1 hc.2.1 hc.2.2 q
theorem iop_shr : OpR X (inplaceOp .RShift) (rI (fun _ j => 0 ≤ j) fun i j => .int (i / 2 ^ j.toNat)) := opI fun i j _ _ _ _ _ hc q =>
  irshift_int hc (by rw [Int.fdiv_eq_ediv_of_nonneg i (two_pow_nn _)]; exact q)
theorem iop_and : OpR X (inplaceOp .BitAnd) (rI0 fun i j => .int (Builtin.bitAnd i j)) := opI0 fun _ _ _ _ _ _ _ q => iand_int q
theorem iop_or : OpR X (inplaceOp .BitOr) (rI0 fun i j => .int (Builtin.bitOr i j)) := opI0 fun _ _ _ _ _ _ _ q => ior_int q
theorem iop_xor : OpR X (inplaceOp .BitXor) (rI0 fun i j => .int (Builtin.bitXor i j)) := opI0 fun _ _ _ _ _ _ _ q => ixor_int q

theorem unI {f : Value → Sem Value} {g : Int → Int}
    (rule : ∀ (i : Int) (t : Tok) (s : Shared) (Q : Value → Shared → Prop) (E : Value → Shared → Prop), Q (.int (g i) s.toks) { s with toks := s.toks + 1 } → wpAny (model X.prog X.w) X.A (f (.int i t)) Q E s) :
    UnR X f (rU fun i => .int (g i)) := by
  intro pins s σ H x v Q I rx h
  obtain ⟨i, rfl, q⟩ := h
  obtain ⟨t, rfl⟩ := rx
  exact rule i t s _ _ ⟨.int (g i), H, I.tok _, ⟨_, rfl⟩, q⟩
theorem un_neg : UnR X (unaryOp .USub) (rU fun i => .int (-i)) := unI fun _ _ _ _ _ q => neg_int q
theorem un_inv : UnR X (unaryOp .Invert) (rU fun i => .int (Builtin.bitNot i)) := unI fun _ _ _ _ _ q => invert_int q

/-! ### bools among ints: n += (a < b) -/
theorem op_add_ib : OpR X (binaryOp .Add) (fun x y H Q => ∃ i k, x = .int i ∧ y = .bl k ∧ Q (.int (i + b2i k)) H) := by
  intro pins s σ H x y v u Q I rx ry h
  obtain ⟨i, k, rfl, rfl, q⟩ := h
  obtain ⟨t, rfl⟩ := rx
  cases ry
  exact add_int_bool ⟨.int (i + b2i k), H, I.tok _, ⟨_, rfl⟩, q⟩
end

/-! ### comparisons -/
/-- the scalars that == tells apart as data does -/
def scal : V → V → Bool
  | .non, .non => true | .non, .int _ => true | .int _, .non => true | .non, .bl _ => true | .bl _, .non => true | .non, .str _ => true | .str _, .non => true
  | .int _, .int _ => true | .bl _, .bl _ => true | .str _, .str _ => true | .byt _, .byt _ => true
  | .int _, .str _ => true | .str _, .int _ => true | .bl _, .str _ => true | .str _, .bl _ => true
  | _, _ => false
def rEq : R2 := fun x y H Q => scal x y = true ∧ Q (.bl (decide (x = y))) H
def rNe : R2 := fun x y H Q => scal x y = true ∧ Q (.bl (!decide (x = y))) H

theorem dec_int {i j : Int} : decide (V.int i = V.int j) = (i == j) := by
  rw [Bool.eq_iff_iff]
  simp
theorem dec_bl {i j : Bool} : decide (V.bl i = V.bl j) = (i == j) := by
  rw [Bool.eq_iff_iff]
  simp
theorem dec_str {i j : Str} : decide (V.str i = V.str j) = (i == j) := by
  rw [Bool.eq_iff_iff]
  simp
theorem dec_byt {i j : Array UInt8} : decide (V.byt i = V.byt j) = (i.toList == j.toList) := by
  rw [Bool.eq_iff_iff]
  cases i
  cases j
  simp

section
variable {X : Cx} {a b c : Expr} {ta tb tc : TE} {pos : Pos}
theorem fin_bl {pins : List (Addr × Obj)} {σ : St} {H : Hp} {s : Shared} {Q : VK} {k k' : Bool} (I : Inv X pins σ H s) (q : Q (.bl k) H) (e : k = k') : EP X pins σ Q (.bool k') s := by
  subst e
  exact ⟨.bl k, H, I, rfl, q⟩
theorem op_eq : OpR X (compareOp .Eq) rEq := by
  intro pins s σ H x y v u Q I rx ry h
  obtain ⟨hs, q⟩ := h
  cases x with
  | non =>
    cases rx
    cases y with
    | non => cases ry; exact PySem.EqNone.eq_none_none (fin_bl I q (by simp))
    | bl j => cases ry; exact PySem.EqNone.eq_none_bool (fin_bl I q (by simp))
    | int j => obtain ⟨t', rfl⟩ := ry; exact PySem.EqNone.eq_none_int (fin_bl I q (by simp))
    | str j => obtain ⟨t', rfl⟩ := ry; exact PySem.EqNone.eq_none_str (fin_bl I q (by simp))
    | _ => exact absurd (show false = true from hs) Bool.false_ne_true
  | bl i =>
    cases rx
    cases y with
    | non => cases ry; exact PySem.EqNone.eq_bool_none (fin_bl I q (by simp))
    | bl j => cases ry; exact eq_bool (fin_bl I q dec_bl)
    | str j => obtain ⟨t', rfl⟩ := ry; exact PySem.EqMixed.eq_bool_str (fin_bl I q (by simp))
    | _ => exact absurd (show false = true from hs) Bool.false_ne_true
  | int i =>
    obtain ⟨t, rfl⟩ := rx
    cases y with
    | non => cases ry; exact PySem.EqNone.eq_int_none (fin_bl I q (by simp))
    | int j => obtain ⟨t', rfl⟩ := ry; exact eq_int (fin_bl I q dec_int)
    | str j => obtain ⟨t', rfl⟩ := ry; exact PySem.EqMixed.eq_int_str (fin_bl I q (by simp))
    | _ => exact absurd (show false = true from hs) Bool.false_ne_true
  | str i =>
    obtain ⟨t, rfl⟩ := rx
    cases y with
    | non => cases ry; exact PySem.EqNone.eq_str_none (fin_bl I q (by simp))
    | bl j => cases ry; exact PySem.EqMixed.eq_str_bool (fin_bl I q (by simp))
    | int j => obtain ⟨t', rfl⟩ := ry; exact PySem.EqMixed.eq_str_int (fin_bl I q (by simp))
    | str j => obtain ⟨t', rfl⟩ := ry; exact eq_str (fin_bl I q dec_str)
    | _ => exact absurd (show false = true from hs) Bool.false_ne_true
  | byt i =>
    obtain ⟨t, rfl⟩ := rx
    cases y with
    | byt j => obtain ⟨t', rfl⟩ := ry; exact PySem.W.eq_bytes (fin_bl I q dec_byt)
    | _ => exact absurd (show false = true from hs) Bool.false_ne_true
  | _ => cases y <;> exact absurd (show false = true from hs) Bool.false_ne_true
theorem op_ne : OpR X (compareOp .NotEq) rNe := by
  intro pins s σ H x y v u Q I rx ry h
  obtain ⟨hs, q⟩ := h
  cases x with
  | non =>
    cases rx
    cases y with
    | non => cases ry; exact PySem.EqNone.ne_none_none (fin_bl I q (by simp))
    | bl j => cases ry; exact PySem.EqNone.ne_none_bool (fin_bl I q (by simp))
    | int j => obtain ⟨t', rfl⟩ := ry; exact PySem.EqNone.ne_none_int (fin_bl I q (by simp))
    | str j => obtain ⟨t', rfl⟩ := ry; exact PySem.EqNone.ne_none_str (fin_bl I q (by simp))
    | _ => exact absurd (show false = true from hs) Bool.false_ne_true
  | bl i =>
    cases rx
    cases y with
    | non => cases ry; exact PySem.EqNone.ne_bool_none (fin_bl I q (by simp))
    | bl j => cases ry; exact ne_bool (fin_bl I q (congrArg not dec_bl))
    | str j => obtain ⟨t', rfl⟩ := ry; exact PySem.EqMixed.ne_bool_str (fin_bl I q (by simp))
    | _ => exact absurd (show false = true from hs) Bool.false_ne_true
  | int i =>
    obtain ⟨t, rfl⟩ := rx
    cases y with
    | non => cases ry; exact PySem.EqNone.ne_int_none (fin_bl I q (by simp))
    | int j => obtain ⟨t', rfl⟩ := ry; exact ne_int (fin_bl I q (congrArg not dec_int))
    | str j => obtain ⟨t', rfl⟩ := ry; exact PySem.EqMixed.ne_int_str (fin_bl I q (by simp))
    | _ => exact absurd (show false = true from hs) Bool.false_ne_true
  | str i =>
    obtain ⟨t, rfl⟩ := rx
    cases y with
    | non => cases ry; exact PySem.EqNone.ne_str_none (fin_bl I q (by simp))
    | bl j => cases ry; exact PySem.EqMixed.ne_str_bool (fin_bl I q (by simp))
    | int j => obtain ⟨t', rfl⟩ := ry; exact PySem.EqMixed.ne_str_int (fin_bl I q (by simp))
    | str j => obtain ⟨t', rfl⟩ := ry; exact ne_str (fin_bl I q (congrArg not dec_str))
    | _ => exact absurd (show false = true from hs) Bool.false_ne_true
  | byt i =>
    obtain ⟨t, rfl⟩ := rx
    cases y with
    | byt j => obtain ⟨t', rfl⟩ := ry; exact PySem.W.ne_bytes (fin_bl I q (congrArg not dec_byt))
    | _ => exact absurd (show false = true from hs) Bool.false_ne_true
  | _ => cases y <;> exact absurd (show false = true from hs) Bool.false_ne_true

theorem op_lt : OpR X (compareOp .Lt) (rI0 fun i j => .bl (decide (i < j))) := opB0 fun _ _ _ _ _ _ _ q => lt_int q
theorem op_le : OpR X (compareOp .LtE) (rI0 fun i j => .bl (decide (i ≤ j))) := opB0 fun _ _ _ _ _ _ _ q => le_int q
theorem op_gt : OpR X (compareOp .Gt) (rI0 fun i j => .bl (decide (j < i))) := opB0 fun _ _ _ _ _ _ _ q => gt_int q
theorem op_ge : OpR X (compareOp .GtE) (rI0 fun i j => .bl (decide (j ≤ i))) := opB0 fun _ _ _ _ _ _ _ q => ge_int q
theorem op_lt_str : OpR X (compareOp .Lt) (fun x y H Q => ∃ i j, x = .str i ∧ y = .str j ∧ Q (.bl (decide (i.cps.toList < j.cps.toList))) H) := by
  intro pins s σ H x y v u Q I rx ry h
  obtain ⟨i, j, rfl, rfl, q⟩ := h
  obtain ⟨t, rfl⟩ := rx
  obtain ⟨t', rfl⟩ := ry
  exact lt_str (fin_bl I q rfl)
/-- the one string within the other -/
theorem op_in_str : OpR X (compareOp .In) (fun x y H Q => ∃ i j, x = .str i ∧ y = .str j ∧ Q (.bl (!(Builtin.Str.occurrences j i 0 j.length 1).isEmpty)) H) := by
  intro pins s σ H x y v u Q I rx ry h
  obtain ⟨i, j, rfl, rfl, q⟩ := h
  obtain ⟨t, rfl⟩ := rx
  obtain ⟨t', rfl⟩ := ry
  exact in_str (fin_bl I q rfl)

/-- is None, is not None: the right side a value none -/
theorem op_isN : OpR X (compareOp .Is) (fun x y H Q => y = .non ∧ Q (.bl (decide (x = .non))) H) := by
  intro pins s σ H x y v u Q I rx ry h
  obtain ⟨rfl, q⟩ := h
  cases ry
  refine is_none_gen (fin_bl I q ?_)
  cases x <;> first
    | (cases rx; rfl)
    | (obtain ⟨t, rfl⟩ := rx; rfl)
theorem op_notN : OpR X (compareOp .IsNot) (fun x y H Q => y = .non ∧ Q (.bl (!decide (x = .non))) H) := by
  intro pins s σ H x y v u Q I rx ry h
  obtain ⟨rfl, q⟩ := h
  cases ry
  refine isnot_none_gen (fin_bl I q ?_)
  cases x <;> first
    | (cases rx; rfl)
    | (obtain ⟨t, rfl⟩ := rx; rfl)

theorem op_notin_str : OpR X (compareOp .NotIn) (fun x y H Q => ∃ i j, x = .str i ∧ y = .str j ∧ Q (.bl (!(!(Builtin.Str.occurrences j i 0 j.length 1).isEmpty))) H) := by
  intro pins s σ H x y v u Q I rx ry h
  obtain ⟨i, j, rfl, rfl, q⟩ := h
  obtain ⟨t, rfl⟩ := rx
  obtain ⟨t', rfl⟩ := ry
  exact notIn_str (fin_bl I q rfl)
/-- is, is not of two objects that are tracked lists or instances -/
def isObj : HO → Bool
  | .lst _ => true
  | .ins _ _ _ => true
  | _ => false
theorem obj_there {pins : List (Addr × Obj)} {s : Shared} {σ : St} {H : Hp} {a : Addr} {o : HO} (I : Inv X pins σ H s) (h : H a = some o) (p : isObj o = true) : ∃ ob, s.heap.get? a = some ob ∧ ob.cls ≠ .type "tuple" := by
  cases o with
  | lst xs =>
    obtain ⟨_, its, n, _, e⟩ : xs.length ≤ sizeLine ∧ ∃ (its : List Value) (n : Nat), Vals xs its ∧ s.heap.get? a = some { cls := .type "list", data := .seq its.toArray n } := I.hok a _ h
    exact ⟨_, e, (by show Value.type "list" ≠ .type "tuple"; decide +kernel)⟩
  | ins C dx fs =>
    have x := I.hok a _ h
    obtain ⟨_, _, _, e, _⟩ := x
    exact ⟨_, e, (by show Value.ref C ≠ .type "tuple"; exact fun z => by cases z)⟩
  | _ => exact absurd (show false = true from p) Bool.false_ne_true
theorem op_is_ref : OpR X (compareOp .Is) (fun x y H Q => ∃ a b oa ob, x = .ref a ∧ y = .ref b ∧ H a = some oa ∧ isObj oa = true ∧ H b = some ob ∧ isObj ob = true ∧ Q (.bl (decide (a = b))) H) := by
  intro pins s σ H x y v u Q I rx ry h
  obtain ⟨a, b, oa, ob, rfl, rfl, ha, pa, hb, pb, q⟩ := h
  cases rx
  cases ry
  obtain ⟨o1, e1, n1⟩ := obj_there I ha pa
  obtain ⟨o2, e2, _⟩ := obj_there I hb pb
  by_cases z : a = b
  · subst z
    exact wpAny_is_ref_self (fin_bl I q (by simp))
  · exact wpAny_is_ref_other z e1 e2 n1 (fin_bl I q (by simp [z]))
theorem op_isnot_ref : OpR X (compareOp .IsNot) (fun x y H Q => ∃ a b oa ob, x = .ref a ∧ y = .ref b ∧ H a = some oa ∧ isObj oa = true ∧ H b = some ob ∧ isObj ob = true ∧ Q (.bl (!decide (a = b))) H) := by
  intro pins s σ H x y v u Q I rx ry h
  obtain ⟨a, b, oa, ob, rfl, rfl, ha, pa, hb, pb, q⟩ := h
  cases rx
  cases ry
  obtain ⟨o1, e1, n1⟩ := obj_there I ha pa
  obtain ⟨o2, e2, _⟩ := obj_there I hb pb
  by_cases z : a = b
  · subst z
    exact wpAny_isNot_ref_self (fin_bl I q (by simp))
  · exact wpAny_isNot_ref_other z e1 e2 n1 (fin_bl I q (by simp [z]))

/-- two rules for one operation: by cases -/
theorem OpR.or {f : Value → Value → Sem Value} {r r' : R2} (h : OpR X f r) (h' : OpR X f r') : OpR X f (fun x y H Q => r x y H Q ∨ r' x y H Q) := by
  intro pins s σ H x y v u Q I rx ry q
  rcases q with q | q
  · exact h pins s σ H x y v u Q I rx ry q
  · exact h' pins s σ H x y v u Q I rx ry q

theorem nomark (b : Expr) {op : CmpOp} (h : op ≠ .In := by decide) (h2 : op ≠ .NotIn := by decide) : behindInMarks op b = false := by
  have e1 : (op == CmpOp.In) = false := by cases op <;> first | rfl | exact absurd rfl h
  have e2 : (op == CmpOp.NotIn) = false := by cases op <;> first | rfl | exact absurd rfl h2
  cases b <;> simp [behindInMarks, e1, e2]
/-- a comparison as a value; hm: nomark b, or (for in, not in) by with_unfolding_all rfl -/
theorem pe_cmpR {op : CmpOp} {r : R2} (ho : OpR X (compareOp op) r) (ha : PE X a ta) (hb : PE X b tb) (hm : behindInMarks op b = false) : PE X (.Compare a [op] [b] pos) (tOp r ta tb) := by
  intro pins s σ H Q I h
  exact wpAny_Compare1 (binT ha hb I h fun v u s2 x y H2 I2 rx ry q => ho pins s2 σ H2 x y v u Q I2 rx ry q) hm
/-- a reading of a value as a test -/
def tTest (t : TE) : TT := fun σ H Q => t σ H fun x H' => ∃ k, x = .bl k ∧ Q k H'
theorem pt_cmpR {op : CmpOp} {r : R2} (ho : OpR X (compareOp op) r) (ha : PE X a ta) (hb : PE X b tb) (hm : behindInMarks op b = false) : PT X (.Compare a [op] [b] pos) (tTest (tOp r ta tb)) := by
  intro pins s σ H Q I h
  refine wpAny_isTrue_Compare1 (thn (ha pins s σ H _ I h) fun v s1 ⟨x, H1, I1, r1, q1⟩ => thn (hb pins s1 σ H1 _ I1 q1) fun u s2 ⟨y, H2, I2, r2, q2⟩ =>
    thn (ho pins s2 σ H2 x y v u _ I2 r1 r2 q2) fun c s3 ⟨z, H3, I3, r3, k, e, q3⟩ => ?_) hm
  subst e
  cases r3
  exact wpAny_truthy_bool ⟨H3, I3, q3⟩
/-- a op1 b op2 c -/
def tChain (r r' : R2) (ta tb tc : TE) : TE := fun σ H Q => ta σ H fun x H1 => tb σ H1 fun y H2 => r x y H2 fun z H3 => ∃ k, z = .bl k ∧
  (if k = true then tc σ H3 fun w' H4 => r' y w' H4 Q else Q (.bl false) H3)
theorem pe_chain {op op' : CmpOp} {r r' : R2} (ho : OpR X (compareOp op) r) (ho' : OpR X (compareOp op') r') (ha : PE X a ta) (hb : PE X b tb) (hc : PE X c tc)
    (hm : lastMarks [op, op'] [b, c] = false := by with_unfolding_all rfl) : PE X (.Compare a [op, op'] [b, c] pos) (tChain r r' ta tb tc) := by
  intro pins s σ H Q I h
  refine Compare_chain (thn (ha pins s σ H _ I h) fun v s1 ⟨x, H1, I1, r1, q1⟩ => chain_link (thn (hb pins s1 σ H1 _ I1 q1) fun u s2 ⟨y, H2, I2, r2, q2⟩ =>
    thn (ho pins s2 σ H2 x y v u _ I2 r1 r2 q2) fun d s3 ⟨z, H3, I3, r3, k, e, q3⟩ => ?_)) hm
  subst e
  cases r3
  refine wpAny_truthy_bool ?_
  cases k with
  | false => exact ite_ff ⟨.bl false, H3, I3, rfl, q3⟩
  | true => exact ite_tt (chain_last (thn (hc pins s3 σ H3 _ I3 q3) fun w' s4 ⟨z', H4, I4, r4, q4⟩ => ho' pins s4 σ H4 y z' u w' Q I4 r2 r4 q4))
theorem pt_chain {op op' : CmpOp} {r r' : R2} (ho : OpR X (compareOp op) r) (ho' : OpR X (compareOp op') r') (ha : PE X a ta) (hb : PE X b tb) (hc : PE X c tc)
    (hm : lastMarks [op, op'] [b, c] = false := by with_unfolding_all rfl) : PT X (.Compare a [op, op'] [b, c] pos) (tTest (tChain r r' ta tb tc)) := by
  intro pins s σ H Q I h
  refine isTrue_chain (thn (ha pins s σ H _ I h) fun v s1 ⟨x, H1, I1, r1, q1⟩ => test_link (thn (hb pins s1 σ H1 _ I1 q1) fun u s2 ⟨y, H2, I2, r2, q2⟩ =>
    thn (ho pins s2 σ H2 x y v u _ I2 r1 r2 q2) fun d s3 ⟨z, H3, I3, r3, k, e, q3⟩ => ?_)) hm
  subst e
  cases r3
  refine wpAny_truthy_bool ?_
  cases k with
  | false =>
    obtain ⟨k', e', q'⟩ := q3
    cases e'
    exact ite_ff ⟨H3, I3, q'⟩
  | true =>
    refine ite_tt (test_last (thn (hc pins s3 σ H3 _ I3 q3) fun w' s4 ⟨z', H4, I4, r4, q4⟩ => thn (ho' pins s4 σ H4 y z' u w' _ I4 r2 r4 q4) fun d' s5 ⟨z2, H5, I5, r5, k2, e2, q5⟩ => ?_))
    subst e2
    cases r5
    exact wpAny_truthy_bool ⟨H5, I5, q5⟩

/-! ### truth -/
/-- a value's truth by the abstract heap -/
def TruV (K : PySem.W.Frag) (x : V) (H : Hp) (k : Bool) : Prop :=
  match x with
  | .non => k = false
  | .bl b => k = b
  | .int i => k = (i != 0)
  | .str y => y.length ≤ sizeLine ∧ k = ((y.length : Int) != 0)
  | .byt y => y.size ≤ sizeLine ∧ k = ((y.size : Int) != 0)
  | .ref p => (∃ xs, SqL K H p xs ∧ k = !xs.isEmpty) ∨ (∃ xs, SqT K H p xs ∧ k = !xs.isEmpty) ∨ ∃ kvs, H p = some (.dK kvs) ∧ k = !kvs.isEmpty
  | _ => False
theorem isEmpty_kv {κ : Type} {kvs : List (κ × V)} {vs : List (κ × Value)} (r : KV kvs vs) : (!vs.isEmpty) = !kvs.isEmpty := by
  cases r <;> rfl
theorem isEmpty_of {xs : List V} {its : List Value} (r : Vals xs its) : (!its.toArray.isEmpty) = !xs.isEmpty := by
  cases r <;> simp
theorem line63 : (sizeLine : Nat) < 2 ^ 63 := by rw [sizeLine_eq]; decide
theorem tru_ok : TruR X (fun x H Q => ∃ k, TruV X.K x H k ∧ Q k H) := by
  intro pins s σ H x v Q I rx h
  obtain ⟨k, e, q⟩ := h
  have hl := line63
  have hs : sizeLine = 16777216 := sizeLine_eq
  cases x with
  | non =>
    cases rx
    have e' : k = false := e
    subst e'
    exact truthy_none ⟨H, I, q⟩
  | bl b =>
    cases rx
    have e' : k = b := e
    subst e'
    exact wpAny_truthy_bool ⟨H, I, q⟩
  | int i =>
    obtain ⟨t, rfl⟩ := rx
    have e' : k = (i != 0) := e
    subst e'
    exact PySem.P.truthy_int ⟨H, I, q⟩
  | str y =>
    obtain ⟨t, rfl⟩ := rx
    obtain ⟨hy, e'⟩ : y.length ≤ sizeLine ∧ k = ((y.length : Int) != 0) := e
    subst e'
    exact PySem.P.truthy_str (by omega) ⟨H, I.tok _, q⟩
  | byt y =>
    obtain ⟨t, rfl⟩ := rx
    obtain ⟨hy, e'⟩ : y.size ≤ sizeLine ∧ k = ((y.size : Int) != 0) := e
    subst e'
    exact PySem.W.truthy_bytes (by omega) ⟨H, I.tok _, q⟩
  | ref p =>
    cases rx
    have e' : (∃ xs, SqL X.K H p xs ∧ k = !xs.isEmpty) ∨ (∃ xs, SqT X.K H p xs ∧ k = !xs.isEmpty) ∨ ∃ kvs, H p = some (.dK kvs) ∧ k = !kvs.isEmpty := e
    rcases e' with ⟨xs, hx, e'⟩ | ⟨xs, hx, e'⟩ | ⟨kvs, hx, e'⟩
    · subst e'
      obtain ⟨its, r, pl, hz⟩ := I.list hx
      have hlen := r.length
      exact wpAny_truthy_list pl.isList (by simp only [List.size_toArray]; omega) ⟨H, I.tok _, by rw [isEmpty_of r]; exact q⟩
    · subst e'
      obtain ⟨its, r, pl, hz⟩ := I.tuple hx
      have hlen := r.length
      exact truthy_tuple pl (by simp only [List.size_toArray]; omega) ⟨H, I.tok _, by rw [isEmpty_of r]; exact q⟩
    · subst e'
      obtain ⟨hz, hS, vs, r, m⟩ : kvs.length ≤ sizeLine ∧ (p == sysModules) = false ∧ ∃ vs, KV kvs vs ∧ s.heap.DictOf (mixKind X.prog X.w) p vs := I.hok p _ hx
      have hlen : kvs.length = vs.length := Paired.length r
      exact wpAny_truthy_dict hS m (by omega) ⟨H, I.tok _, by rw [isEmpty_kv r]; exact q⟩
  | _ => exact (show False from e).elim
/-- any expression whose test is its value's truth (a name, a call, a subscript, a field ..: he by fun _ => rfl) -/
theorem pt_truth (ha : PE X a ta) (he : ∀ whole, isTrue a X.env whole = (do let v ← whole; standAt a.pos; holding [v] (truthy v))) :
    PT X a (fun σ H Q => ta σ H fun x H' => ∃ k, TruV X.K x H' k ∧ Q k H') := by
  intro pins s σ H Q I h
  exact isTrue_plain (thn (ha pins s σ H _ I h) fun v s1 ⟨x, H1, I1, r1, q1⟩ => tru_ok pins s1 σ H1 x v Q I1 r1 q1) (he _)

/-! ### strs and bytes -/
theorem pe_byt {x : List UInt8} {k : Nat} : PE X (.Constant (.bytes x) k pos) (fun _ H Q => Q (.byt x.toArray) H) := fun _ _ _ H _ I h => PySem.W.Constant_bytes ⟨.byt x.toArray, H, I.tok _, ⟨_, rfl⟩, h⟩
theorem op_add_str : OpR X (binaryOp .Add) (fun x y H Q => ∃ i j, x = .str i ∧ y = .str j ∧ i.length + j.length ≤ sizeLine ∧ Q (.str (i ++ j)) H) := by
  intro pins s σ H x y v u Q I rx ry h
  obtain ⟨i, j, rfl, rfl, hz, q⟩ := h
  obtain ⟨t, rfl⟩ := rx
  obtain ⟨t', rfl⟩ := ry
  exact add_str (fun t' tk => ⟨.str (i ++ j), H, I.tok _, ⟨_, rfl⟩, q⟩) hz
theorem iop_add_str : OpR X (inplaceOp .Add) (fun x y H Q => ∃ i j, x = .str i ∧ y = .str j ∧ i.length + j.length ≤ sizeLine ∧ Q (.str (i ++ j)) H) := by
  intro pins s σ H x y v u Q I rx ry h
  obtain ⟨i, j, rfl, rfl, hz, q⟩ := h
  obtain ⟨t, rfl⟩ := rx
  obtain ⟨t', rfl⟩ := ry
  exact iadd_str (fun t' tk => ⟨.str (i ++ j), H, I.tok _, ⟨_, rfl⟩, q⟩) hz
theorem op_add_byt : OpR X (binaryOp .Add) (fun x y H Q => ∃ i j, x = .byt i ∧ y = .byt j ∧ i.size + j.size ≤ 16777216 ∧ Q (.byt (i ++ j)) H) := by
  intro pins s σ H x y v u Q I rx ry h
  obtain ⟨i, j, rfl, rfl, hz, q⟩ := h
  obtain ⟨t, rfl⟩ := rx
  obtain ⟨t', rfl⟩ := ry
  exact PySem.W.KBy.add_bytes hz (fun t' tk => ⟨.byt (i ++ j), H, I.tok _, ⟨_, rfl⟩, q⟩)

def PlainIxT (b : Expr) : Prop := ∀ o i, subscripted b false o i = operate [o, i] (getItem o i)
/-- s[i], 0 ≤ i < len -/
theorem pe_item_str (ha : PE X a ta) (hb : PE X b tb) (hs : PlainIxT b) :
    PE X (.Subscript a b pos) (tOp (fun x y H Q => ∃ z i c, x = .str z ∧ y = .int i ∧ 0 ≤ i ∧ i < 2 ^ 63 ∧ i < z.length ∧ z.cps[i.toNat]? = some c ∧ Q (.str ⟨#[c]⟩) H) ta tb) := by
  intro pins s σ H Q I h
  refine Subscript_ (binT ha hb I h fun v u s2 x y H2 I2 rx ry q => ?_)
  obtain ⟨z, i, c, rfl, rfl, h0, h63, h1, hc, q⟩ := q
  obtain ⟨t, rfl⟩ := rx
  obtain ⟨t', rfl⟩ := ry
  have e : seqIndex? i z.length = some i.toNat := PySem.StrLaws.seqIndex_nonneg h0 h1
  exact tail_any (typeIs_str s2 z t) slot_str_getitem.lookup (getItem_str (c := c) (by
    have e1 : decide (i < -(2 ^ 63 : Int)) = false := decide_eq_false (by omega)
    have e2 : decide (i ≥ 2 ^ 63) = false := decide_eq_false (by omega)
    rw [e1, e2] <;> rfl) (by rw [e]; exact hc) ⟨.str ⟨#[c]⟩, H2, I2.tok _, ⟨_, rfl⟩, q⟩) (hs _ _)
/-- b[i], 0 ≤ i < len -/
theorem pe_item_byt (ha : PE X a ta) (hb : PE X b tb) (hs : PlainIxT b) :
    PE X (.Subscript a b pos) (tOp (fun x y H Q => ∃ (z : List UInt8) (i : Int), x = .byt z.toArray ∧ y = .int i ∧ z.length ≤ sizeLine ∧ 0 ≤ i ∧ i < z.length ∧ Q (.int ((z.getD i.toNat 0).toNat : Nat)) H) ta tb) := by
  intro pins s σ H Q I h
  refine Subscript_ (binT ha hb I h fun v u s2 x y H2 I2 rx ry q => ?_)
  obtain ⟨z, i, rfl, rfl, hz, h0, h1, q⟩ := q
  obtain ⟨t, rfl⟩ := rx
  obtain ⟨t', rfl⟩ := ry
  have hl : sizeLine = 16777216 := sizeLine_eq
  exact tail_any (PySem.W.typeIs_bytes s2 z.toArray t) PySem.W.FB.slot_bytes_getitem.lookup (PySem.W.getItem_bytes (by omega) h0 h1 ⟨.int ((z.getD i.toNat 0).toNat : Nat), H2, I2.tok _, ⟨_, rfl⟩, q⟩) (hs _ _)

/-! ### scalar builtins, by CallR -/
theorem vals1 {x : V} {us : List Value} (r : Vals [x] us) : ∃ u, us = [u] ∧ RelV x u := by
  cases r with
  | cons r1 r2 => cases r2; exact ⟨_, rfl, r1⟩
theorem vals2 {x y : V} {us : List Value} (r : Vals [x, y] us) : ∃ u w', us = [u, w'] ∧ RelV x u ∧ RelV y w' := by
  cases r with
  | cons r1 r2 =>
    cases r2 with
    | cons r3 r4 => cases r4; exact ⟨_, _, rfl, r1, r3⟩
theorem call_abs : CallR X (.builtin "abs") (fun xs H Q => ∃ i, xs = [.int i] ∧ Q (.int (if i < 0 then -i else i)) H) := by
  intro pins s σ H xs us Q I r h
  obtain ⟨i, rfl, q⟩ := h
  obtain ⟨u, rfl, t, rfl⟩ := vals1 r
  exact call_abs_int fun u tk => ⟨.int (if i < 0 then -i else i), H, I.tok _, ⟨_, rfl⟩, q⟩
theorem call_max2 (hc : X.calm = true) : CallR X (.builtin "max") (fun xs H Q => ∃ i j, xs = [.int i, .int j] ∧ Q (.int (if j > i then j else i)) H) := by
  intro pins s σ H xs us Q I r h
  obtain ⟨i, j, rfl, q⟩ := h
  obtain ⟨u, w', rfl, ⟨t, rfl⟩, ⟨t', rfl⟩⟩ := vals2 r
  refine max_two_ints (I.ok.hd hc) fun h' tk k => ⟨_, H, I.kept k, ?_, q⟩
  by_cases hj : j > i
  · rw [if_pos hj, if_pos hj]; exact ⟨_, rfl⟩
  · rw [if_neg hj, if_neg hj]; exact ⟨_, rfl⟩
theorem call_min2 (hc : X.calm = true) : CallR X (.builtin "min") (fun xs H Q => ∃ i j, xs = [.int i, .int j] ∧ Q (.int (if j < i then j else i)) H) := by
  intro pins s σ H xs us Q I r h
  obtain ⟨i, j, rfl, q⟩ := h
  obtain ⟨u, w', rfl, ⟨t, rfl⟩, ⟨t', rfl⟩⟩ := vals2 r
  refine min_two_ints (I.ok.hd hc) fun h' tk k => ⟨_, H, I.kept k, ?_, q⟩
  by_cases hj : j < i
  · rw [if_pos hj, if_pos hj]; exact ⟨_, rfl⟩
  · rw [if_neg hj, if_neg hj]; exact ⟨_, rfl⟩
theorem call_int1 : CallR X (.type "int") (fun xs H Q => (∃ i, xs = [.int i] ∧ Q (.int i) H) ∨ ∃ k, xs = [.bl k] ∧ Q (.int (if k then 1 else 0)) H) := by
  intro pins s σ H xs us Q I r h
  rcases h with ⟨i, rfl, q⟩ | ⟨k, rfl, q⟩
  · obtain ⟨u, rfl, t, rfl⟩ := vals1 r
    exact call_int_int ⟨.int i, H, I, ⟨_, rfl⟩, q⟩
  · obtain ⟨u, rfl, r1⟩ := vals1 r
    cases r1
    exact call_int_bool ⟨.int (if k then 1 else 0), H, I.tok _, ⟨_, rfl⟩, q⟩
theorem call_bool1 : CallR X (.type "bool") (fun xs H Q => (∃ i, xs = [.int i] ∧ Q (.bl (i != 0)) H) ∨ ∃ k, xs = [.bl k] ∧ Q (.bl k) H) := by
  intro pins s σ H xs us Q I r h
  rcases h with ⟨i, rfl, q⟩ | ⟨k, rfl, q⟩
  · obtain ⟨u, rfl, t, rfl⟩ := vals1 r
    exact call_bool_int ⟨.bl (i != 0), H, I, rfl, q⟩
  · obtain ⟨u, rfl, r1⟩ := vals1 r
    cases r1
    exact call_bool_bool ⟨.bl k, H, I, rfl, q⟩
theorem call_str_int : CallR X (.type "str") (fun xs H Q => ∃ i, xs = [.int i] ∧ i.natAbs.log2 < 1920 ∧ Q (.str (toString i)) H) := by
  intro pins s σ H xs us Q I r h
  obtain ⟨i, rfl, hz, q⟩ := h
  obtain ⟨u, rfl, t, rfl⟩ := vals1 r
  exact PySem.P.str_of_int hz ⟨.str _, H, I.tok _, ⟨_, rfl⟩, q⟩
theorem call_ord : CallR X (.builtin "ord") (fun xs H Q => ∃ x, xs = [.str x] ∧ x.length = 1 ∧ Q (.int (x.cps.getD 0 0 : Nat)) H) := by
  intro pins s σ H xs us Q I r h
  obtain ⟨x, rfl, hz, q⟩ := h
  obtain ⟨u, rfl, t, rfl⟩ := vals1 r
  exact ord_of_one hz ⟨.int _, H, I.tok _, ⟨_, rfl⟩, q⟩
theorem call_chr : CallR X (.builtin "chr") (fun xs H Q => ∃ i, xs = [.int i] ∧ 0 ≤ i ∧ i ≤ 1114111 ∧ Q (.str ⟨#[i.toNat]⟩) H) := by
  intro pins s σ H xs us Q I r h
  obtain ⟨i, rfl, h0, h1, q⟩ := h
  obtain ⟨u, rfl, t, rfl⟩ := vals1 r
  exact chr_of_range h0 h1 ⟨.str _, H, I.tok _, ⟨_, rfl⟩, q⟩
/-- len of a str, a bytes, a list, a tuple -/
def LenV (K : PySem.W.Frag) (x : V) (H : Hp) (n : Nat) : Prop :=
  match x with
  | .str y => y.length ≤ sizeLine ∧ n = y.length
  | .byt y => y.size ≤ sizeLine ∧ n = y.size
  | .ref p => (∃ xs, SqL K H p xs ∧ n = xs.length) ∨ ∃ xs, SqT K H p xs ∧ n = xs.length
  | _ => False
theorem call_len : CallR X (.builtin "len") (fun xs H Q => ∃ x n, xs = [x] ∧ LenV X.K x H n ∧ Q (.int n) H) := by
  intro pins s σ H xs us Q I r h
  obtain ⟨x, n, rfl, e, q⟩ := h
  obtain ⟨u, rfl, rx⟩ := vals1 r
  have hl := line63
  have hs : sizeLine = 16777216 := sizeLine_eq
  cases x with
  | str y =>
    obtain ⟨t, rfl⟩ := rx
    obtain ⟨hy, e'⟩ : y.length ≤ sizeLine ∧ n = y.length := e
    subst e'
    exact len_str (by omega) ⟨.int _, H, I.tok _, ⟨_, rfl⟩, q⟩
  | byt y =>
    obtain ⟨t, rfl⟩ := rx
    obtain ⟨hy, e'⟩ : y.size ≤ sizeLine ∧ n = y.size := e
    subst e'
    exact PySem.W.len_bytes (by omega) ⟨.int _, H, I.tok _, ⟨_, rfl⟩, q⟩
  | ref p =>
    cases rx
    have e' : (∃ xs, SqL X.K H p xs ∧ n = xs.length) ∨ ∃ xs, SqT X.K H p xs ∧ n = xs.length := e
    rcases e' with ⟨xs, hx, e'⟩ | ⟨xs, hx, e'⟩
    · subst e'
      obtain ⟨its, r', pl, hz⟩ := I.list hx
      have hlen := r'.length
      exact Calls.call_len_list pl.isList (by simp only [List.size_toArray]; omega) ⟨.int xs.length, H, I.tok _, ⟨_, by simp only [List.size_toArray]; rw [hlen]⟩, q⟩
    · subst e'
      obtain ⟨its, r', pl, hz⟩ := I.tuple hx
      have hlen := r'.length
      exact len_tuple pl (by simp only [List.size_toArray]; omega) ⟨.int xs.length, H, I.tok _, ⟨_, by simp only [List.size_toArray]; rw [hlen]⟩, q⟩
  | _ => exact (show False from e).elim
/-- divmod: a new tuple -/
theorem call_divmod : CallR X (.builtin "divmod") (fun xs H Q => ∃ i j, xs = [.int i, .int j] ∧ CDiv i j ∧ ∀ p, H p = none → Q (.ref p) (upd H p (.tup [.int (i / j), .int (i % j)]))) := by
  intro pins s σ H xs us Q I r h
  obtain ⟨i, j, rfl, ⟨h1, h2⟩, q⟩ := h
  obtain ⟨u, w', rfl, ⟨t, rfl⟩, ⟨t', rfl⟩⟩ := vals2 r
  refine divmod_int (by omega) ?_ (.inl (PyProof.noPylong_small (by omega)))
  rw [Int.fdiv_eq_ediv_of_nonneg i (by omega), Int.fmod_eq_emod_of_nonneg i (by omega)]
  have hn : H s.heap.objs.size = none := I.hok.fresh (Nat.le_refl _)
  refine ⟨.ref s.heap.objs.size, _, ?_, rfl, q _ hn⟩
  refine I.laid (fun b o e => Heap.get?_push_of_some _ e) (Nat.le_refl _) ⟨by simp only [List.length_cons, List.length_nil]; rw [sizeLine_eq]; decide, [.int (i / j) s.toks, .int (i % j) (s.toks + 1)], .cons ⟨_, rfl⟩ (.cons ⟨_, rfl⟩ .nil), ?_⟩
  exact ⟨_, Heap.get?_push_size s.heap rfl, rfl, 0, rfl⟩
end
end L2

namespace L2
open PySem PySem.Spec PyProof.Rows

/-! ### an instance, its attributes a map -/
structure ObjM (h : Heap) (x dx C : Addr) (mA : Str → Option Value) : Prop where
  obj : h.get? x = some (PySem.W.instObj C dx)
  ns : h.Ns1 dx mA
  ne : dx ≠ x

theorem lookIn_ns {h : Heap} {dx : Addr} {mA : Str → Option Value} (n : h.Ns1 dx mA) : ∃ od, h.get? dx = some od ∧ ∀ name, PySem.W.lookIn name od = some (mA name) := by
  obtain ⟨o, es, ep, ho, hd, hk, _, hm⟩ := n
  refine ⟨o, ho, fun name => ?_⟩
  have e := hm name
  unfold nsFind findBy at e
  rw [← Array.find?_toList] at e
  unfold PySem.W.lookIn
  rw [hd]
  dsimp only
  split
  · rename_i y q
    rw [q] at e
    exact congrArg some e
  · rename_i q
    rw [q] at e
    have a : es.toList.any (·.refKey) = false := by
      rw [List.any_eq_false]
      intro y hy
      obtain ⟨z, t, hkey⟩ := hk y (Array.mem_toList_iff.mp hy)
      simp [DictEntry.refKey, hkey]
    have a' : ¬ es.toList.any (·.refKey) = true := by rw [a]; exact Bool.false_ne_true
    rw [if_neg a']
    exact congrArg some e

theorem ObjM.look {h : Heap} {x dx C : Addr} {mA : Str → Option Value} (I : ObjM h x dx C mA) : ∃ od, PySem.W.InstAt h x (PySem.W.instObj C dx) C (some od) ∧ ∀ name, PySem.W.lookIn name od = some (mA name) :=
  let ⟨od, ho, hl⟩ := lookIn_ns I.ns
  ⟨od, ⟨I.obj, rfl, rfl, ho⟩, hl⟩

section
variable {prog : Program} {w : World} {A : Around} {E : Value → Shared → Prop} {s : Shared} {K : PySem.W.Frag} {x dx C f : Addr} {mA : Str → Option Value} {name : Str} {v : Value}

theorem get_map {expr : Bool} {Q : Value → Shared → Prop} (X : K.In s.heap) (I : ObjM s.heap x dx C mA) (hg : PySem.W.plainGet K C name = true) (hh : PySem.W.hasDictIn K C = true)
    (ha : PySem.W.findIn K (.ref C) name = some none) (hv : mA name = some v) (hv' : PySem.W.handedIn v = true) (h : Q v { s with toks := s.toks + 1 }) :
    wpAny (model prog w) A (getAttr (.ref x) name expr) Q E s := by
  obtain ⟨od, J, hl⟩ := I.look
  exact PySem.W.get_value X J (PySem.W.plainGet_of hg).1 (PySem.W.findObj_own hh ha rfl (by rw [hl, hv])) hv' h

theorem get_const {expr : Bool} {a : Value} {Q : Value → Shared → Prop} (X : K.In s.heap) (I : ObjM s.heap x dx C mA) (hg : PySem.W.plainGet K C name = true) (hh : PySem.W.hasDictIn K C = true)
    (ha : PySem.W.findIn K (.ref C) name = some (some a)) (hn : PySem.W.specialIn K a "__get__" = some none) (hc : PySem.W.copiedNames.contains name = false) (hv : mA name = none) (hv' : PySem.W.handedIn a = true)
    (h : Q a { s with toks := s.toks + 1 }) : wpAny (model prog w) A (getAttr (.ref x) name expr) Q E s := by
  obtain ⟨od, J, hl⟩ := I.look
  exact PySem.W.get_value X J (PySem.W.plainGet_of hg).1 (PySem.W.findObj_cls hh ha hn hv' hc (by rw [hl, hv])) hv' h

theorem get_meth {pl : Sem Bool} {Q : Value × List Value → Shared → Prop} (X : K.In s.heap) (I : ObjM s.heap x dx C mA) (hg : PySem.W.plainGet K C name = true)
    (hf : PySem.W.findIn K (.ref C) name = some (some (.ref f))) (ht : PySem.W.isFn K (.ref f) = true) (hv : mA name = none) (h : Q (.ref f, [.ref x]) s) :
    wpAny (model prog w) A (getMethod (.ref x) name pl) Q E s := by
  obtain ⟨od, J, hl⟩ := I.look
  exact PySem.W.method_fn X J (PySem.W.plainGet_of hg).1 (PySem.W.plainGet_of hg).2 hf (beq_iff_eq.mp ht) (by show (PySem.W.lookIn name od).map (·.isSome) = some false; rw [hl, hv]; rfl) h

theorem set_map {ns : List Str} {Q : Unit → Shared → Prop} (X : K.In s.heap) (I : ObjM s.heap x dx C mA)
    (hs : PySem.W.findIn K (.ref C) "__setattr__" = some (some (.builtin "object.__setattr__"))) (hp : PySem.W.plainOver K C = true) (ht : PySem.W.takerIn K C name = some none) (hh : PySem.W.hasDictIn K C = true)
    (hw : PySem.Within mA ns) (hsz : ns.length ≤ sizeLine)
    (h : ∀ h', ObjM h' x dx C (fun y => if y = name then some v else mA y) → Heap.SameBut dx s.heap h' → Q () { s with heap := h', toks := s.toks + 2 }) :
    wpAny (model prog w) A (setAttr (.ref x) name v) Q E s := by
  obtain ⟨od, J, hl⟩ := I.look
  refine PySem.W.set_plain X J hs (PySem.W.osa_open (s := { s with toks := s.toks + 1 }) (r := none) X J hp ht fun b => ?_)
  obtain ⟨cd, hc, hd'⟩ := PySem.W.any_some hh
  have hx : s.heap.get? x = some ⟨.ref C, some dx, .plain, #[]⟩ := I.obj
  refine wpAny_bind (wpAny_pure (wpAny_bind (wpAny_bind (wpAny_loadPart hx (wpAny_bind (PySem.W.Looks.here (s := { s with toks := s.toks + 1 }) (PySem.W.looks_clsIn X hc) ?_))))))
  rw [hd']
  refine wpAny_pure (a := some dx) (wpAny_bind (wpAny_pure (wpAny_bind ?_)))
  refine wpAny_nsSet1 (s := { s with toks := s.toks + 1 }) I.ns fun h' hn2 hs2 => ?_
  obtain ⟨oD, esD, epD, hoD, hdD, hcD⟩ := hn2.count (PySem.Within.cons name v hw)
  refine wpAny_bind (wpAny_lookBehind hoD (by rw [hdD]; exact pastItsLine_dict (Nat.le_trans hcD (by rw [List.length_cons]; omega))) ?_)
  exact wpAny_pure (h _ ⟨(hs2.2 _ (Ne.symm I.ne)).trans I.obj, hn2, I.ne⟩ hs2)

/-- C(..): the dict at the heap's end, the instance behind it; then its __init__ -/
theorem make_map {R : Result → Shared → Prop} {vs : List Value} {kw : List (Str × Value)} (X : K.In s.heap) (hm : PySem.W.makesIn K C = true)
    (hi : PySem.W.findIn K (.ref C) "__init__" = some (some (.ref f))) (hf : PySem.W.typeIn K (.ref f) = some (.type "function"))
    (h : codeAny (model prog w) (A.under (.builtin "type.__call__" ⟨.ref C :: vs, kw⟩)) (.call (.ref f) ⟨.ref (s.heap.objs.size + 1) :: vs, kw⟩) (PySem.W.InitBack (s.heap.objs.size + 1) R)
      { s with heap := (s.heap.push PySem.W.emptyDict).push (PySem.W.instObj C s.heap.objs.size) }) :
    codeAny (model prog w) A (.call (.ref C) ⟨vs, kw⟩) R s := by
  obtain ⟨hh, g, d, t, os⟩ := s
  exact PySem.W.make_core (PySem.W.makes_of X hm) (PySem.W.looks_findIn X hi) (fun self => PySem.W.bind_fn X self hf) (.inl rfl) h
/-- C() where there is no __init__ but object's -/
theorem make_map0 {R : Result → Shared → Prop} (X : K.In s.heap) (hm : PySem.W.makesIn K C = true)
    (hi : PySem.W.findIn K (.ref C) "__init__" = some (some (.builtin "object.__init__")))
    (hb : ∀ self, PySem.W.Looks (model prog w) s.heap (bindSpecial (.builtin "object.__init__") self) (.builtin "object.__init__", [self]))
    (h : codeAny (model prog w) (A.under (.builtin "type.__call__" ⟨[.ref C], []⟩)) (.call (.builtin "object.__init__") ⟨[.ref (s.heap.objs.size + 1)], []⟩) (PySem.W.InitBack (s.heap.objs.size + 1) R)
      { s with heap := (s.heap.push PySem.W.emptyDict).push (PySem.W.instObj C s.heap.objs.size) }) :
    codeAny (model prog w) A (.call (.ref C) ⟨[], []⟩) R s := by
  obtain ⟨hh, g, d, t, os⟩ := s
  exact PySem.W.make_core (PySem.W.makes_of X hm) (PySem.W.looks_findIn X hi) hb (.inr ⟨rfl, rfl⟩) h
end

/-! ### the attributes as a list of pairs -/
def putF (f : Str) (v : V) : List (Str × V) → List (Str × V)
  | [] => [(f, v)]
  | (g, x) :: r => if g = f then (g, v) :: r else (g, x) :: putF f v r
theorem lookup_putF (f g : Str) (v : V) : ∀ fs : List (Str × V), (putF f v fs).lookup g = if g = f then some v else fs.lookup g
  | [] => by
    show List.lookup g [(f, v)] = _
    by_cases h : g = f
    · have hb : (g == f) = true := beq_iff_eq.mpr h
      simp only [List.lookup, hb, if_pos h]
    · have hb : (g == f) = false := beq_eq_false_iff_ne.mpr h
      simp only [List.lookup, hb, if_neg h]
  | (k, x) :: r => by
    have ih := lookup_putF f g v r
    rw [show putF f v ((k, x) :: r) = (if k = f then (k, v) :: r else (k, x) :: putF f v r) from rfl]
    by_cases hk : k = f
    · rw [if_pos hk]
      by_cases h : g = k
      · have hb : (g == k) = true := beq_iff_eq.mpr h
        simp only [List.lookup, hb, if_pos (h.trans hk)]
      · have hb : (g == k) = false := beq_eq_false_iff_ne.mpr h
        simp only [List.lookup, hb, if_neg (fun e : g = f => h (e.trans hk.symm))]
    · rw [if_neg hk]
      by_cases h : g = k
      · have hb : (g == k) = true := beq_iff_eq.mpr h
        simp only [List.lookup, hb, if_neg (fun e : g = f => hk (h.symm.trans e))]
      · have hb : (g == k) = false := beq_eq_false_iff_ne.mpr h
        simp only [List.lookup, hb]
        exact ih
theorem keys_putF (f : Str) (v : V) : ∀ fs : List (Str × V), f ∈ (putF f v fs).map (·.1) ∧ ∀ g, g ∈ fs.map (·.1) → g ∈ (putF f v fs).map (·.1)
  | [] => ⟨by simp [putF], fun g h => by simp at h⟩
  | (k, x) :: r => by
    obtain ⟨i1, i2⟩ := keys_putF f v r
    rw [show putF f v ((k, x) :: r) = (if k = f then (k, v) :: r else (k, x) :: putF f v r) from rfl]
    by_cases hk : k = f
    · rw [if_pos hk]
      subst hk
      exact ⟨by simp, fun g h => by simpa using h⟩
    · rw [if_neg hk]
      refine ⟨?_, fun g h => ?_⟩
      · rw [List.map_cons]
        exact List.mem_cons_of_mem _ i1
      · rw [List.map_cons] at h ⊢
        rcases List.mem_cons.mp h with e | e
        · exact List.mem_cons.mpr (.inl e)
        · exact List.mem_cons_of_mem _ (i2 g e)
theorem length_putF (f : Str) (v : V) : ∀ fs : List (Str × V), (putF f v fs).length ≤ fs.length + 1
  | [] => by simp [putF]
  | (k, x) :: r => by
    have ih := length_putF f v r
    rw [show putF f v ((k, x) :: r) = (if k = f then (k, v) :: r else (k, x) :: putF f v r) from rfl]
    by_cases hk : k = f
    · rw [if_pos hk, List.length_cons, List.length_cons]; omega
    · rw [if_neg hk, List.length_cons, List.length_cons]; omega

theorem RelO.some_of {v : V} {o : Option Value} (r : RelO (some v) o) : ∃ u, o = some u ∧ RelV v u := by
  cases o with
  | none => exact (show False from r).elim
  | some u => exact ⟨u, rfl, r⟩
theorem RelO.none_of {o : Option Value} (r : RelO none o) : o = none := by
  cases o with
  | none => rfl
  | some u => exact (show False from r).elim
theorem handed_of {v : V} {u : Value} (r : RelV v u) : PySem.W.handedIn u = true := by
  cases v with
  | non => cases (show u = Value.none from r); rfl
  | bl b => cases (show u = Value.bool b from r); rfl
  | int i => obtain ⟨t, e⟩ := (show ∃ t, u = Value.int i t from r); cases e; rfl
  | str x => obtain ⟨t, e⟩ := (show ∃ t, u = Value.str x t from r); cases e; rfl
  | byt b => obtain ⟨t, e⟩ := (show ∃ t, u = Value.bytes b t from r); cases e; rfl
  | flt b => obtain ⟨t, e⟩ := (show ∃ t, u = Value.float b t from r); cases e; rfl
  | ref a => cases (show u = Value.ref a from r); rfl
  | ty n => cases (show u = Value.type n from r); rfl

section
variable {P : Program} {w : World} {H H' : Hp} {h h' : Heap} {a C dx : Addr} {fs fs' : List (Str × V)}
theorem ins_get (hok : HOk P w H h) (e : H a = some (.ins C dx fs)) : ∃ mA, ObjM h a dx C mA ∧ (∀ f, RelO (fs.lookup f) (mA f)) ∧ PySem.Within mA (fs.map (·.1)) ∧ fs.length ≤ 1000 ∧ H dx = some (.own a) := by
  obtain ⟨d, z, ne, ob, mA, n, r, q⟩ := (show ObjOk P w H h a (.ins C dx fs) from hok a _ e)
  exact ⟨mA, ⟨ob, n, ne⟩, r, q, z, d⟩
end

/-! ### what of the text a class must have -/
structure Cls (K : PySem.W.Frag) (C : Addr) : Prop where
  pg : PySem.W.plainGet K C Str.empty = true
  hd : PySem.W.hasDictIn K C = true
  po : PySem.W.plainOver K C = true
  sa : PySem.W.findIn K (.ref C) "__setattr__" = some (some (.builtin "object.__setattr__"))
theorem Cls.get {K : PySem.W.Frag} {C : Addr} (c : Cls K C) (f : Str) : PySem.W.plainGet K C f = true := c.pg
/-- no class of it has the name -/
def NoAttr (K : PySem.W.Frag) (C : Addr) (f : Str) : Prop := PySem.W.findIn K (.ref C) f = some none
theorem NoAttr.taker {K : PySem.W.Frag} {C : Addr} {f : Str} (n : NoAttr K C f) : PySem.W.takerIn K C f = some none := by
  unfold PySem.W.takerIn
  rw [show PySem.W.findIn K (.ref C) f = some none from n]
  rfl
/-- a constant of the class -/
structure Con (K : PySem.W.Frag) (C : Addr) (f : Str) (v : V) (u : Value) : Prop where
  at_ : PySem.W.findIn K (.ref C) f = some (some u)
  rel : RelV v u
  get : PySem.W.specialIn K u "__get__" = some none
  cp : PySem.W.copiedNames.contains f = false
/-- a method: a plain def of the class or of one above it -/
structure Meth (K : PySem.W.Frag) (C : Addr) (m : Str) (f : Addr) : Prop where
  at_ : PySem.W.findIn K (.ref C) m = some (some (.ref f))
  fn : PySem.W.isFn K (.ref f) = true
  kp : PySem.W.keepIn K (.ref f) = true

section
variable {X : Cx} {pins : List (Addr × Obj)} {σ : St} {H : Hp} {s : Shared} {a C dx : Addr} {fs : List (Str × V)} {f : Str} {v : V} {A : Around} {E : Value → Shared → Prop}

theorem getattr_ok {b : Bool} {Q : Value → Shared → Prop} (I : Inv X pins σ H s) (e : H a = some (.ins C dx fs)) (c : Cls X.K C) (n : NoAttr X.K C f) (l : fs.lookup f = some v)
    (h : ∀ u s', Inv X pins σ H s' → RelV v u → Q u s') : wpAny (model X.prog X.w) A (getAttr (.ref a) f b) Q E s := by
  obtain ⟨mA, O, r, _, _, _⟩ := ins_get I.hok e
  obtain ⟨u, hu, ru⟩ := RelO.some_of (v := v) (o := mA f) (by rw [← l]; exact r f)
  exact get_map I.kIn O (c.get f) c.hd n hu (handed_of ru) (h u _ (I.tok _) ru)

theorem getcon_ok {b : Bool} {u : Value} {Q : Value → Shared → Prop} (I : Inv X pins σ H s) (e : H a = some (.ins C dx fs)) (c : Cls X.K C) (k : Con X.K C f v u) (l : fs.lookup f = none)
    (h : ∀ s', Inv X pins σ H s' → Q u s') : wpAny (model X.prog X.w) A (getAttr (.ref a) f b) Q E s := by
  obtain ⟨mA, O, r, _, _, _⟩ := ins_get I.hok e
  have hn : mA f = none := RelO.none_of (by rw [← l]; exact r f)
  exact get_const I.kIn O (c.get f) c.hd k.at_ k.get k.cp hn (handed_of k.rel) (h _ (I.tok _))

theorem getmeth_ok {m : Str} {g : Addr} {pl : Sem Bool} {Q : Value × List Value → Shared → Prop} (I : Inv X pins σ H s) (e : H a = some (.ins C dx fs)) (c : Cls X.K C) (k : Meth X.K C m g) (l : fs.lookup m = none)
    (h : Q (.ref g, [.ref a]) s) : wpAny (model X.prog X.w) A (getMethod (.ref a) m pl) Q E s := by
  obtain ⟨mA, O, r, _, _, _⟩ := ins_get I.hok e
  have hn : mA m = none := RelO.none_of (by rw [← l]; exact r m)
  exact get_meth I.kIn O (c.get m) k.at_ k.fn hn h

theorem setattr_ok {y : V} {u : Value} {Q : Unit → Shared → Prop} (I : Inv X pins σ H s) (e : H a = some (.ins C dx fs)) (c : Cls X.K C) (n : NoAttr X.K C f) (hl : fs.length < 1000) (ry : RelV y u)
    (h : ∀ s', Inv X pins σ (upd H a (.ins C dx (putF f y fs))) s' → Q () s') : wpAny (model X.prog X.w) A (setAttr (.ref a) f u) Q E s := by
  obtain ⟨mA, O, r, wi, _, ho⟩ := ins_get I.hok e
  have hz : (fs.map (·.1)).length ≤ sizeLine := by rw [List.length_map, sizeLine_eq]; omega
  refine set_map I.kIn O c.sa c.po n.taker c.hd wi hz fun h' O' sb => h _ ?_
  have hd : ∃ o, h'.get? dx = some o := let ⟨o, _, _, e', _⟩ := O'.ns; ⟨o, e'⟩
  refine I.write (x := a) (e := dx) (by rw [e]; exact True.intro) (.inr ho) (fun b q hb z => (sb.2 b hb).trans z) hd ?_
  refine ⟨by rw [upd_ne O.ne]; exact ho, ?_, O.ne, O'.obj, _, O'.ns, fun g => ?_, fun g hg => ?_⟩
  · have := length_putF f y fs; omega
  · show RelO ((putF f y fs).lookup g) (if g = f then some u else mA g)
    rw [lookup_putF]
    by_cases q : g = f
    · rw [if_pos q, if_pos q]; exact ry
    · rw [if_neg q, if_neg q]; exact r g
  · by_cases q : g = f
    · rw [q]; exact (keys_putF f y fs).1
    · refine (keys_putF f y fs).2 g (wi g fun z => hg ?_)
      show (if g = f then some u else mA g) = none
      rw [if_neg q]; exact z

/-- a new instance, tracked, without attributes -/
theorem Inv.made (I : Inv X pins σ H s) : Inv X pins σ (upd (upd H s.heap.objs.size (.own (s.heap.objs.size + 1))) (s.heap.objs.size + 1) (.ins C s.heap.objs.size []))
    { s with heap := (s.heap.push PySem.W.emptyDict).push (PySem.W.instObj C s.heap.objs.size) } := by
  have e1 : (s.heap.push PySem.W.emptyDict).get? s.heap.objs.size = some PySem.W.emptyDict := Heap.get?_push_size s.heap rfl
  have e2 : ((s.heap.push PySem.W.emptyDict).push (PySem.W.instObj C s.heap.objs.size)).get? (s.heap.objs.size + 1) = some (PySem.W.instObj C s.heap.objs.size) := by
    have := Heap.get?_push_size (s.heap.push PySem.W.emptyDict) (o := PySem.W.instObj C s.heap.objs.size) rfl
    rwa [Heap.size_push] at this
  have e3 : (s.heap.push PySem.W.emptyDict).Ns s.heap.objs.size (fun _ => none) := ⟨PySem.W.emptyDict, #[], _, e1, rfl, (fun e he => absurd he (by simp)), fun _ => rfl⟩
  have I1 := I.laid (a := s.heap.objs.size) (o := .own (s.heap.objs.size + 1)) (h' := s.heap.push PySem.W.emptyDict) (t' := s.toks) (fun b u q => Heap.get?_push_of_some _ q) (Nat.le_refl _) ⟨_, e1⟩
  refine I1.laid (a := s.heap.objs.size + 1) (o := .ins C s.heap.objs.size []) (t' := s.toks) (fun b u q => Heap.get?_push_of_some _ q) (Nat.le_of_eq (Heap.size_push _ _)) ?_
  have ne : s.heap.objs.size ≠ s.heap.objs.size + 1 := Nat.ne_of_lt (Nat.lt_succ_self _)
  refine ⟨by rw [upd_ne ne, upd_same], Nat.zero_le _, ne, e2, fun _ => none, (Heap.Ns1.of_empty e3).at fun o q => Heap.get?_push_of_some _ q, fun _ => True.intro, fun y hy => absurd rfl hy⟩

/-- e.f where nothing but the object is asked: through attributeBase (super) and the last hold -/
theorem attr_of {prog : Program} {w : World} {env : Env} {e : Expr} {f : Str} {pos : Pos} {s : Shared} {Q : Value → Shared → Prop} (hb : attributeBase e f env (eval e env) = eval e env)
    (h : wpAny (model prog w) A (eval e env) (fun o s₁ => wpAny (model prog w) A (getAttr o f true) Q E s₁) E s) : wpAny (model prog w) A (eval (.Attribute e f pos) env) Q E s :=
  Attribute_any_ h (by rw [arm_eval_Attribute, hb])
end

/-! ### readings and rules -/
/-- e.f, an attribute of the instance -/
def tFld (K : PySem.W.Frag) (ta : TE) (f : Str) : TE := fun σ H Q => ta σ H fun x H1 => ∃ a C dx fs v, x = .ref a ∧ H1 a = some (.ins C dx fs) ∧ Cls K C ∧ NoAttr K C f ∧ fs.lookup f = some v ∧ Q v H1
/-- e.f, a constant of the class -/
def tCon (K : PySem.W.Frag) (ta : TE) (f : Str) : TE := fun σ H Q => ta σ H fun x H1 => ∃ a C dx fs v u, x = .ref a ∧ H1 a = some (.ins C dx fs) ∧ Cls K C ∧ Con K C f v u ∧ fs.lookup f = none ∧ Q v H1
/-- e.f = value -/
def sFld (K : PySem.W.Frag) (ta tv : TE) (f : Str) : TS := fun D σ H => tv σ H fun y H1 => ta σ H1 fun x H2 => ∃ a C dx fs, x = .ref a ∧ H2 a = some (.ins C dx fs) ∧ Cls K C ∧ NoAttr K C f ∧ fs.length < 1000 ∧
  D.nx σ (upd H2 a (.ins C dx (putF f y fs)))
/-- an augmented operator on two values -/
def InOp (X : Cx) (op : Operator) (rd : V → V → Hp → VK → Prop) : Prop :=
  ∀ (pins : List (Addr × Obj)) (s : Shared) (σ : St) (H : Hp) (x y : V) (u v : Value) (Q : VK), Inv X pins σ H s → RelV x u → RelV y v → rd x y H Q → wpAny (model X.prog X.w) X.A (inplaceOp op u v) (EP X pins σ Q) X.xe s
/-- e.f op= value -/
def sFldAug (K : PySem.W.Frag) (ta tv : TE) (rd : V → V → Hp → VK → Prop) (f : Str) : TS := fun D σ H => ta σ H fun x H1 => ∃ a C dx fs v, x = .ref a ∧ H1 a = some (.ins C dx fs) ∧ Cls K C ∧ NoAttr K C f ∧ fs.lookup f = some v ∧
  tv σ H1 fun y H2 => rd v y H2 fun z H3 => ∃ dx' fs', H3 a = some (.ins C dx' fs') ∧ fs'.length < 1000 ∧ D.nx σ (upd H3 a (.ins C dx' (putF f z fs')))

section
variable {X : Cx} {o e value : Expr} {f : Str} {pos pos' tpos : Pos} {ta tv : TE}
theorem pe_fld (he : PE X e ta) (hb : attributeBase e f X.env (eval e X.env) = eval e X.env) : PE X (.Attribute e f pos) (tFld X.K ta f) := by
  intro pins s σ H Q I h
  refine attr_of hb (thn (he pins s σ H _ I h) fun u s1 ⟨x, H1, I1, rx, a, C, dx, fs, v, ex, ea, c, n, l, q⟩ => ?_)
  subst ex
  obtain rfl : u = Value.ref a := rx
  exact getattr_ok I1 ea c n l fun u' s2 I2 ru => ⟨v, H1, I2, ru, q⟩
theorem pe_con (he : PE X e ta) (hb : attributeBase e f X.env (eval e X.env) = eval e X.env) : PE X (.Attribute e f pos) (tCon X.K ta f) := by
  intro pins s σ H Q I h
  refine attr_of hb (thn (he pins s σ H _ I h) fun u s1 ⟨x, H1, I1, rx, a, C, dx, fs, v, u0, ex, ea, c, k, l, q⟩ => ?_)
  subst ex
  obtain rfl : u = Value.ref a := rx
  exact getcon_ok I1 ea c k l fun s2 I2 => ⟨v, H1, I2, k.rel, q⟩
theorem ps_fld (ha : PE X o ta) (hv : PE X value tv) (hs : swapsWith value (some (.Attribute o f pos')) pos.line X.env = pure false) : PS X (.Assign [.Attribute o f pos'] value pos) (sFld X.K ta tv f) := by
  intro pins s σ H D I h
  refine plainObj_wpAny_Assign_Attribute (thn (hv pins s σ H _ I h) fun u s1 ⟨y, H1, I1, ry, q⟩ => thn (ha pins s1 σ H1 _ I1 q) fun ov s2 ⟨x, H2, I2, rx, a, C, dx, fs, ex, ea, c, n, l, q2⟩ => ?_) hs
  subst ex
  obtain rfl : ov = Value.ref a := rx
  exact setattr_ok I2 ea c n l ry fun s3 I3 => ⟨σ, _, I3, q2⟩
theorem ps_fldaug {op : Operator} {rd : V → V → Hp → VK → Prop} (ha : PE X o ta) (hv : PE X value tv) (hop : InOp X op rd) : PS X (.AugAssign (.Attribute o f tpos) op value pos) (sFldAug X.K ta tv rd f) := by
  intro pins s σ H D I h
  refine wpAny_AugAssign_AttributeAny (thn (ha pins s σ H _ I h) fun ov s1 ⟨x, H1, I1, rx, a, C, dx, fs, v, ex, ea, c, n, l, q⟩ => ?_)
  subst ex
  obtain rfl : ov = Value.ref a := rx
  refine getattr_ok I1 ea c n l fun u s2 I2 ru => thn (hv pins s2 σ H1 _ I2 q) fun w3 s3 ⟨y, H2, I3, ry, q3⟩ => thn (hop pins s3 σ H2 v y u w3 _ I3 ru ry q3) fun w4 s4 ⟨z, H3, I4, rz, dx', fs', ea', l', q4⟩ => ?_
  exact setattr_ok I4 ea' c n l' rz fun s5 I5 => ⟨σ, _, I5, q4⟩
def rAdd : V → V → Hp → VK → Prop := fun x y H Q => ∃ i j, x = .int i ∧ y = .int j ∧ Q (.int (i + j)) H
def rSub : V → V → Hp → VK → Prop := fun x y H Q => ∃ i j, x = .int i ∧ y = .int j ∧ Q (.int (i - j)) H
theorem in_add : InOp X .Add rAdd := by
  rintro pins s σ H x y u v Q I rx ry ⟨i, j, rfl, rfl, q⟩
  obtain ⟨t, rfl⟩ := (show ∃ t, u = Value.int i t from rx)
  obtain ⟨t', rfl⟩ := (show ∃ t', v = Value.int j t' from ry)
  exact PyProof.Rows.iadd_int ⟨.int (i + j), H, I.tok _, ⟨_, rfl⟩, q⟩
theorem in_sub : InOp X .Sub rSub := by
  rintro pins s σ H x y u v Q I rx ry ⟨i, j, rfl, rfl, q⟩
  obtain ⟨t, rfl⟩ := (show ∃ t, u = Value.int i t from rx)
  obtain ⟨t', rfl⟩ := (show ∃ t', v = Value.int j t' from ry)
  exact PyProof.Rows.isub_int ⟨.int (i - j), H, I.tok _, ⟨_, rfl⟩, q⟩

/-- what is between an instance and its method: the tree of a method call -/
theorem methcall_of {pl : Sem Bool} {m : Str} {apos : Pos} {args : List Expr} {pins : List (Addr × Obj)} {s : Shared} {σ : St} {H : Hp} {Q : Value → Shared → Prop} {te : TE} (he : PE X e te) (I : Inv X pins σ H s)
    (h : te σ H fun x H1 => ∃ a C dx fs g, x = .ref a ∧ H1 a = some (.ins C dx fs) ∧ Cls X.K C ∧ Meth X.K C m g ∧ fs.lookup m = none ∧
      ∀ s1, Inv X pins σ H1 s1 → wpAny (model X.prog X.w) X.A (callWith pos (.ref g) [.ref a] (backTo pos (starEach args X.env)) (backToKw pos (keywordEach [] X.env))) Q X.xe s1)
    (ht : eval (.Call (.Attribute e m apos) args [] pos) X.env = (do
      let ov ← eval e X.env
      standAt apos.atName
      let (f, first) ← holding [ov] (getMethod ov m pl)
      callWith pos f first (backTo pos (starEach args X.env)) (backToKw pos (keywordEach [] X.env)))) :
    wpAny (model X.prog X.w) X.A (eval (.Call (.Attribute e m apos) args [] pos) X.env) Q X.xe s := by
  refine PySem.W.methodCall_KW (pl := pl) (thn (he pins s σ H _ I h) fun u s1 ⟨x, H1, I1, rx, a, C, dx, fs, g, ex, ea, c, k, l, q⟩ => ?_) ht
  subst ex
  obtain rfl : u = Value.ref a := rx
  exact getmeth_ok I1 ea c k l (q s1 I1)
end

/-! ### isinstance -/
section
variable {X : Cx} {pins : List (Addr × Obj)} {σ : St} {H : Hp} {s : Shared} {A : Around} {E : Value → Shared → Prop} {Q : Value → Shared → Prop} {c : Value} {b : Bool}
/-- the type of a value, as the fragment's deciders take it; for an instance its class -/
inductive TyOf (K : PySem.W.Frag) (H : Hp) : V → Value → Prop where
  | non : TyOf K H .non (.type "NoneType")
  | bl (x : Bool) : TyOf K H (.bl x) (.type "bool")
  | int (i : Int) : TyOf K H (.int i) (.type "int")
  | str (x : Str) : TyOf K H (.str x) (.type "str")
  | flt (x : UInt64) : TyOf K H (.flt x) (.type "float")
  | lst {a : Addr} {xs : List V} (e : H a = some (.lst xs)) : TyOf K H (.ref a) (.type "list")
  | frz {a : Addr} {o : Obj} {xs : List V} (e : H a = some (.frz o (.lst xs))) : TyOf K H (.ref a) (.type "list")
  | tup {a : Addr} {xs : List V} (e : H a = some (.tup xs)) : TyOf K H (.ref a) (.type "tuple")
  | dK {a : Addr} {kvs : List (Key × V)} (e : H a = some (.dK kvs)) : TyOf K H (.ref a) (.type "dict")
  | dT {a : Addr} {kvs : List (List Key × V)} (e : H a = some (.dT kvs)) : TyOf K H (.ref a) (.type "dict")
  | ins {a C dx : Addr} {fs : List (Str × V)} (e : H a = some (.ins C dx fs)) (cl : Cls K C) (ha : PySem.W.findIn K (.ref C) "__class__" = some (some (.builtin "object.__class__")))
      (hn : PySem.W.specialIn K (.builtin "object.__class__") "__get__" = some (some (.builtin "getset_descriptor.__get__"))) (htk : PySem.W.takesIn K (.builtin "object.__class__") = some true)
      (hm : PySem.W.mroIn K C (.type "object") = some true) : TyOf K H (.ref a) (.ref C)
/-- isinstance(x, c) for one class c, a built-in or an own one: kitOne's answer -/
theorem isinst_ok {x : V} {u t : Value} (I : Inv X pins σ H s) (rx : RelV x u) (ty : TyOf X.K H x t) (e : PySem.W.kitOne X.K t c = some b) (h : ∀ tk, Q (.bool b) { s with toks := tk }) :
    wpAny (model X.prog X.w) A (call (.builtin "isinstance") [u, c]) Q E s := by
  cases ty with
  | non => cases (show u = Value.none from rx); exact PySem.W.kia_one PySem.W.kitx_none I.kIn True.intro e (fun z => nomatch z) h
  | bl y => cases (show u = Value.bool y from rx); exact PySem.W.kia_one PySem.W.kitx_bool I.kIn True.intro e (fun z => nomatch z) h
  | int i => obtain ⟨t, q⟩ := (show ∃ t, u = Value.int i t from rx); cases q; exact PySem.W.kia_one PySem.W.kitx_int I.kIn True.intro e (fun z => nomatch z) h
  | str y => obtain ⟨t, q⟩ := (show ∃ t, u = Value.str y t from rx); cases q; exact PySem.W.kia_one PySem.W.kitx_str I.kIn True.intro e (fun z => nomatch z) h
  | flt y => obtain ⟨t, q⟩ := (show ∃ t, u = Value.float y t from rx); cases q; exact PySem.W.kia_one PySem.W.kitx_float I.kIn True.intro e (fun z => nomatch z) h
  | @lst a xs ea =>
    cases (show u = Value.ref a from rx)
    obtain ⟨_, _, n, _, h1⟩ := (show ObjOk X.prog X.w H s.heap a (.lst xs) from I.hok a _ ea)
    exact PySem.W.kia_one PySem.W.kitx_list I.kIn ⟨_, h1, rfl⟩ e (fun z => nomatch z) h
  | @frz a ob xs ea =>
    cases (show u = Value.ref a from rx)
    obtain ⟨_, _, _, n, _, h1⟩ := (show ObjOk X.prog X.w H s.heap a (.frz ob (.lst xs)) from I.hok a _ ea)
    exact PySem.W.kia_one PySem.W.kitx_list I.kIn ⟨_, h1, rfl⟩ e (fun z => nomatch z) h
  | @tup a xs ea =>
    cases (show u = Value.ref a from rx)
    obtain ⟨_, _, _, p⟩ := (show ObjOk X.prog X.w H s.heap a (.tup xs) from I.hok a _ ea)
    obtain ⟨o, h1, h2, _⟩ := p
    exact PySem.W.kia_one PySem.W.kitx_tuple I.kIn ⟨o, h1, h2⟩ e (fun z => nomatch z) h
  | @dK a kvs ea =>
    cases (show u = Value.ref a from rx)
    obtain ⟨_, _, vs, _, p⟩ := (show ObjOk X.prog X.w H s.heap a (.dK kvs) from I.hok a _ ea)
    obtain ⟨o, es, ep, h1, h2, _⟩ := p
    exact PySem.W.kia_one PySem.W.kitx_dict I.kIn ⟨o, h1, h2.1⟩ e (fun z => nomatch z) h
  | @dT a kvs ea =>
    cases (show u = Value.ref a from rx)
    obtain ⟨_, _, xs, _, o, es, ep, h1, h2, _⟩ := (show ObjOk X.prog X.w H s.heap a (.dT kvs) from I.hok a _ ea)
    exact PySem.W.kia_one PySem.W.kitx_dict I.kIn ⟨o, h1, h2.1⟩ e (fun z => nomatch z) h
  | @ins a C dx fs ea cl ha hn htk hm =>
    cases (show u = Value.ref a from rx)
    obtain ⟨mA, O, _⟩ := ins_get I.hok ea
    obtain ⟨od, J, _⟩ := O.look
    exact PySem.W.kia_one (PySem.W.kitx_own (cl.get _) cl.hd ha hn htk hm) I.kIn J e (fun z => nomatch z) h
end
end L2

namespace L2
open PySem PySem.Spec PyProof.Rows

/-! ### room -/
structure Room (k : Nat) (A : Around) : Prop where
  hd : A.handled = none
  dp : A.depth + 3 * k + 5 < recursionLimit
  un : A.units + 16 * k + 200 < cLine
theorem Room.mono {j k : Nat} {A : Around} (r : Room k A) (h : j ≤ k) : Room j A := ⟨r.hd, by have := r.dp; omega, by have := r.un; omega⟩
theorem Room.deeper {k : Nat} {A : Around} (r : Room (k + 1) A) (env : Env) : Room k (A.deeper env) :=
  ⟨r.hd, by have := r.dp; show A.depth + 1 + 3 * k + 5 < _; omega, by have := r.un; show A.units + 3 + 16 * k + 200 < _; omega⟩
theorem Room.in1 {k : Nat} {A : Around} (r : Room (k + 1) A) : Room k A.in1 :=
  ⟨r.hd, by have := r.dp; show A.depth + 3 * k + 5 < _; omega, by have := r.un; show A.units + 1 + 16 * k + 200 < _; omega⟩
theorem make_depth {A : Around} {C : Addr} {us : List Value} {kw : List (Str × Value)} : (A.under (.builtin "type.__call__" ⟨.ref C :: us, kw⟩)).depth = A.depth + 1 := by
  first | rfl | simp [Around.under, Code.weight, Code.isCreation, Code.isGuard, Code.isCaller, Code.frames, Code.isFrame, guardIds]
theorem make_units {A : Around} {C : Addr} {us : List Value} {kw : List (Str × Value)} : (A.under (.builtin "type.__call__" ⟨.ref C :: us, kw⟩)).units = A.units + 1 := by
  first | rfl | simp [Around.under, Code.cUnits, Code.frames, Code.isFrame]
theorem Room.make {k : Nat} {A : Around} (r : Room (k + 1) A) (C : Addr) (us : List Value) (kw : List (Str × Value)) : Room k (A.under (.builtin "type.__call__" ⟨.ref C :: us, kw⟩)) :=
  ⟨r.hd, by have := r.dp; rw [make_depth]; omega, by have := r.un; rw [make_units]; omega⟩
theorem Room.depth {k : Nat} {A : Around} (r : Room k A) : A.depth < recursionLimit := by have := r.dp; omega
theorem Room.units {k : Nat} {A : Around} (r : Room k A) : A.units + 64 < cLine := by have := r.un; omega
theorem Room.units0 {k : Nat} {A : Around} (r : Room k A) : A.units < cLine := by have := r.un; omega

/-! ### argument lists and displays -/
def tNil : TA := fun _ H Q => Q [] H
def tCons (ta : TE) (tr : TA) : TA := fun σ H Q => ta σ H fun x H1 => tr σ H1 fun xs H2 => Q (x :: xs) H2
section
variable {X : Cx} {e : Expr} {es : List Expr} {te : TE} {t : TA} {pos : Pos}
theorem pa_nil : PA X [] tNil := fun _ _ _ _ H Q I h => Calls.spliced_nil ⟨[], H, I, .nil, h⟩
theorem pa_cons (ha : PE X e te) (hr : PA X es t) (hs : starEach (e :: es) X.env = (false, eval e X.env) :: starEach es X.env := by rfl) : PA X (e :: es) (tCons te t) := by
  intro pos pins s σ H Q I h
  rw [hs]
  show wpAny _ _ (spliced ((false, eval e X.env) :: backTo pos (starEach es X.env))) _ _ s
  refine Calls.spliced_cons (thn (ha pins s σ H _ I h) fun u s1 ⟨x, H1, I1, r1, q1⟩ => ?_)
  exact thn (hr pos pins s1 σ H1 _ I1 q1) fun us s2 ⟨xs, H2, I2, r2, q2⟩ => ⟨x :: xs, H2, I2, .cons r1 r2, q2⟩

/-- a tuple, a list of written items -/
def tTup (t : TA) : TE := fun σ H Q => t σ H fun xs H1 => xs.length ≤ sizeLine ∧ ∀ p, H1 p = none → Q (.ref p) (upd H1 p (.tup xs))
def tLst (t : TA) : TE := fun σ H Q => t σ H fun xs H1 => xs.length ≤ sizeLine ∧ ∀ p, H1 p = none → Q (.ref p) (upd H1 p (.lst xs))
theorem pe_tup {x1} (h : PA X es t) : PE X (.Tuple es x1 pos) (tTup t) := by
  intro pins s σ H Q I hq
  refine wpAny_Tuple_spliced (thn (h pos pins s σ H _ I hq) fun us s1 ⟨xs, H1, I1, r, z, q⟩ => ⟨by rw [← r.length]; exact z, ?_⟩)
  have hf : H1 s1.heap.objs.size = none := I1.hok.fresh (Nat.le_refl _)
  refine ⟨.ref s1.heap.objs.size, upd H1 s1.heap.objs.size (.tup xs), I1.laid (t' := s1.toks) (fun b u e => Heap.get?_push_of_some _ e) (Nat.le_refl _) ?_, rfl, q _ hf⟩
  exact ⟨z, us, r, ⟨_, Heap.get?_push_size _ rfl, rfl, _, rfl⟩⟩
theorem pe_lst (h : PA X es t) : PE X (.List es pos) (tLst t) := by
  intro pins s σ H Q I hq
  refine wpAny_List_spliced (thn (h pos pins s σ H _ I hq) fun us s1 ⟨xs, H1, I1, r, z, q⟩ => ⟨by rw [← r.length]; exact z, ?_⟩)
  have hf : H1 s1.heap.objs.size = none := I1.hok.fresh (Nat.le_refl _)
  refine ⟨.ref s1.heap.objs.size, upd H1 s1.heap.objs.size (.lst xs), I1.laid (t' := s1.toks) (fun b u e => Heap.get?_push_of_some _ e) (Nat.le_refl _) ?_, rfl, q _ hf⟩
  exact ⟨z, us, 0, r, Heap.get?_push_size _ rfl⟩
end

/-! ### what a def promises -/
/-- a def's promise: the bound arguments in the parameters' order, the heap, the wanted end, the wanted exception -/
abbrev Sp := List V → Hp → VK → XK → Prop
/-- how an exception lies behind a call (file 08 gives it): the callers' frames, abstract heap and state ahead of the call, the wish, the exception, the state -/
abbrev CXT := List Env → Hp → Shared → XK → Value → Shared → Prop

/-- the state at a call -/
structure Env0 (P : Program) (w : World) (K : PySem.W.Frag) (mg : Str → Option Value) (base : Heap) (A : Around) (outer : List Env) (s : Shared) (H : Hp) : Prop where
  frames : A.frames = some outer
  mod : Mod K mg base
  bs : ∀ b o, base.get? b = some o → s.heap.get? b = some o ∧ H b = none
  bsz : base.objs.size ≤ s.heap.objs.size
  funs : s.heap.FunFrames base outer
  frf : ∀ b ∈ frs outer, H b = none
  hok : HOk P w H s.heap
  bare : AllBare s.gens
/-- a call's end -/
def CE (outer : List Env) (P : Program) (w : World) (H : Hp) (s : Shared) (Q : VK) (u : Value) (s' : Shared) : Prop :=
  ∃ v H', s'.os = s.os ∧ AllBare s'.gens ∧ Un (frs outer) [] H H' s.heap s'.heap ∧ HOk P w H' s'.heap ∧ RelV v u ∧ Q v H'
def CR (CX : CXT) (outer : List Env) (P : Program) (w : World) (H : Hp) (s : Shared) (Q : VK) (E : XK) (r : Result) (s' : Shared) : Prop :=
  match r with
  | .ok (.ret u) => CE outer P w H s Q u s'
  | .ok _ => False
  | .error e => CX outer H s E e s'
structure FnOk (P : Program) (w : World) (K : PySem.W.Frag) (mg : Str → Option Value) (base : Heap) (CX : CXT) (k : Nat) (f : Addr) (fd : FuncData) (ps : List Str) (sp : Sp) : Prop where
  len : ∀ vs H Q E, sp vs H Q E → vs.length = ps.length
  run : ∀ (A : Around) (outer : List Env) (s : Shared) (H : Hp) (args : Args) (us : List Value) (vs : List V) (Q : VK) (E : XK), Room k A → Env0 P w K mg base A outer s H → BindsTo s fd args (ps.zip us) → Vals vs us → sp vs H Q E →
    codeAny (model P w) A (.call (.ref f) args) (CR CX outer P w H s Q E) s
theorem FnOk.mono {P : Program} {w : World} {K : PySem.W.Frag} {mg : Str → Option Value} {base : Heap} {CX : CXT} {j k : Nat} {f : Addr} {fd : FuncData} {ps : List Str} {sp : Sp} (F : FnOk P w K mg base CX j f fd ps sp) (h : j ≤ k) :
    FnOk P w K mg base CX k f fd ps sp := ⟨F.len, fun A outer s H args us vs Q E hr => F.run A outer s H args us vs Q E (hr.mono h)⟩
/-- a weaker promise -/
theorem FnOk.imp {P : Program} {w : World} {K : PySem.W.Frag} {mg : Str → Option Value} {base : Heap} {CX : CXT} {k : Nat} {f : Addr} {fd : FuncData} {ps : List Str} {sp sp' : Sp} (F : FnOk P w K mg base CX k f fd ps sp)
    (h : ∀ vs H Q E, sp' vs H Q E → sp vs H Q E) : FnOk P w K mg base CX k f fd ps sp' :=
  ⟨fun vs H Q E q => F.len vs H Q E (h _ _ _ _ q), fun A outer s H args us vs Q E hr he hb hv hs => F.run A outer s H args us vs Q E hr he hb hv (h _ _ _ _ hs)⟩

theorem Env0.make {P : Program} {w : World} {K : PySem.W.Frag} {mg : Str → Option Value} {base : Heap} {A : Around} {outer : List Env} {s : Shared} {H : Hp} (e : Env0 P w K mg base A outer s H) (C : Addr) (us : List Value) (kw : List (Str × Value)) :
    Env0 P w K mg base (A.under (.builtin "type.__call__" ⟨.ref C :: us, kw⟩)) outer s H := ⟨by first | exact e.frames | (simpa [Around.under, Code.envs, Code.isFrame, pushEnvs] using e.frames), e.mod, e.bs, e.bsz, e.funs, e.frf, e.hok, e.bare⟩
theorem Env0.in1 {P : Program} {w : World} {K : PySem.W.Frag} {mg : Str → Option Value} {base : Heap} {A : Around} {outer : List Env} {s : Shared} {H : Hp} (e : Env0 P w K mg base A outer s H) :
    Env0 P w K mg base A.in1 outer s H := ⟨e.frames, e.mod, e.bs, e.bsz, e.funs, e.frf, e.hok, e.bare⟩

section
variable {X : Cx} {pins : List (Addr × Obj)} {σ : St} {H : Hp} {s s' : Shared}
/-- from a body: what a callee wants -/
theorem Inv.env0 (I : Inv X pins σ H s) : Env0 X.prog X.w X.K X.mg X.base X.A X.stack s H :=
  ⟨I.ok.frames, I.ok.mod, I.bs, Nat.le_trans I.ok.bsz I.sz, I.stack, I.stkFree, I.hok, I.bare⟩
/-- behind a call -/
theorem Inv.after {Q : VK} {u : Value} (I : Inv X pins σ H s) (h : CE X.stack X.prog X.w H s Q u s') : EP X pins σ Q u s' := by
  obtain ⟨v, H', os, bare, un, hok, r, q⟩ := h
  obtain ⟨hh, g, d, t, os'⟩ := s'
  obtain rfl : os' = s.os := os
  exact ⟨v, H', I.call (h' := hh) (g' := g) (d' := d) (t' := t) (ch := []) un hok bare (fun b z => absurd z (by simp)), r, q⟩
end

/-! ### calls -/
/-- f(..): the written arguments, then the defaults dvs; E: what is wanted of an exception -/
def tCall (sp : Sp) (dvs : List V) (E : XK) (t : TA) : TE := fun σ H Q => t σ H fun vs H1 => sp (vs ++ dvs) H1 Q E
/-- o.m(..) of an instance of the class at C -/
def tMeth (C : Addr) (m : Str) (sp : Sp) (dvs : List V) (E : XK) (ta : TE) (t : TA) : TE := fun σ H Q => ta σ H fun x H1 => ∃ a dx fs, x = .ref a ∧ H1 a = some (.ins C dx fs) ∧ fs.lookup m = none ∧
  t σ H1 fun vs H2 => sp (x :: (vs ++ dvs)) H2 Q E
/-- C(..): a new instance and its dict, then __init__ -/
def tMake (C : Addr) (sp : Sp) (dvs : List V) (E : XK) (t : TA) : TE := fun σ H Q => t σ H fun vs H1 => ∀ x dx, H1 x = none → H1 dx = none → dx ≠ x →
  sp (.ref x :: (vs ++ dvs)) (upd (upd H1 dx (.own x)) x (.ins C dx [])) (fun v H2 => v = .non ∧ Q (.ref x) H2) E

/-- how the parameters are bound: us the positional arguments, kw the keywords' values by name, ds the defaults that fill up -/
def Binds (K : PySem.W.Frag) (fd : FuncData) (ps : List Str) (ds : List Value) : Prop :=
  ∀ (s : Shared) (us : List Value), K.In s.heap → (us ++ ds).length = ps.length → BindsTo s fd ⟨us, []⟩ (ps.zip (us ++ ds))
/-- every parameter is given -/
theorem Binds.all {K : PySem.W.Frag} {fd : FuncData} {ps : List Str} (h : ∀ us : List Value, us.length = ps.length → bindArgs fd ⟨us, []⟩ = pure (ps.zip us)) : Binds K fd ps [] := fun s us _ hl => by
  rw [List.append_nil] at hl ⊢
  exact .of_eq (h us hl)

/-- an exception of a callee reaches what this body wants of exceptions -/
def Passes (CX : CXT) (X : Cx) (E : XK) : Prop := ∀ (pins : List (Addr × Obj)) (σ : St) (H : Hp) (s : Shared) (e : Value) (s' : Shared), Inv X pins σ H s → CX X.stack H s E e s' → X.xe e s'

section
variable {X : Cx} {CX : CXT} {k : Nat} {f C : Addr} {fd : FuncData} {ps : List Str} {sp : Sp} {dvs : List V} {ds : List Value} {E : XK} {x m : Str} {p pos apos : Pos} {e o : Expr} {es : List Expr} {ta : TE} {t : TA}

/-- the callee runs -/
theorem run_fn {pins : List (Addr × Obj)} {σ : St} {H : Hp} {s : Shared} {Q : VK} {us : List Value} {vs : List V} (F : FnOk X.prog X.w X.K X.mg X.base CX k f fd ps sp) (hr : Room k X.A) (hb : Binds X.K fd ps ds) (hd : Vals dvs ds) (hx : Passes CX X E)
    (I : Inv X pins σ H s) (r : Vals vs us) (h : sp (vs ++ dvs) H Q E) : wpAny (model X.prog X.w) X.A (call (.ref f) us) (EP X pins σ Q) X.xe s := by
  have r2 : Vals (vs ++ dvs) (us ++ ds) := r.append hd
  have hl : (us ++ ds).length = ps.length := by rw [← r2.length]; exact F.len _ _ _ _ h
  refine wpAny_call (codeAny_mono (F.run X.A X.stack s H ⟨us, []⟩ (us ++ ds) (vs ++ dvs) Q E hr I.env0 (hb s us I.kIn hl) r2 h) fun r s' hq => ?_)
  cases r with
  | error e => exact hx pins σ H s e s' I hq
  | ok fl =>
    cases fl with
    | ret u => exact I.after hq
    | next => exact False.elim hq
    | brk => exact False.elim hq
    | cont => exact False.elim hq

theorem pe_call (F : FnOk X.prog X.w X.K X.mg X.base CX k f fd ps sp) (hr : Room k X.A) (hg : Gl X x) (hm : X.mg x = some (.ref f)) (hk : PySem.W.keepIn X.K (.ref f) = true) (hb : Binds X.K fd ps ds) (hd : Vals dvs ds) (hx : Passes CX X E)
    (ha : PA X (e :: es) t) (hdb : (x == ("__debug__" : Str)) = false := by decide) (he : starEach (e :: es) X.env = (false, eval e X.env) :: starEach es X.env := by rfl) (hpl : (backTo pos (starEach es X.env)).any (·.1) = false := by rfl) :
    PE X (.Call (.Name x p) (e :: es) [] pos) (tCall sp dvs E t) := by
  intro pins s σ H Q I h
  refine wpAny_Call_Name_kw (ld_glob I hg hm ?_ hdb)
  refine PySem.W.callWith_K (h₀ := X.base) I.ok.mod.kin hk (thn (ha pos pins s σ H _ I h) fun us s1 ⟨vs, H1, I1, r, q⟩ => ⟨I1.kIn, ?_⟩) he hpl
  exact run_fn F hr hb hd hx I1 r q
theorem pe_call0 (F : FnOk X.prog X.w X.K X.mg X.base CX k f fd ps sp) (hr : Room k X.A) (hg : Gl X x) (hm : X.mg x = some (.ref f)) (hk : PySem.W.keepIn X.K (.ref f) = true) (hb : Binds X.K fd ps ds) (hd : Vals dvs ds) (hx : Passes CX X E)
    (hdb : (x == ("__debug__" : Str)) = false := by decide) : PE X (.Call (.Name x p) [] [] pos) (tCall sp dvs E tNil) := by
  intro pins s σ H Q I h
  refine wpAny_Call_Name_kw (ld_glob I hg hm ?_ hdb)
  exact PySem.W.callWith_K0 I.kIn hk (run_fn (us := []) F hr hb hd hx I .nil h)

/-- o.m(e, ..) -/
theorem pe_meth {pl : Sem Bool} (he : PE X o ta) (c : Cls X.K C) (hm : Meth X.K C m f) (F : FnOk X.prog X.w X.K X.mg X.base CX k f fd ps sp) (hr : Room k X.A) (hb : Binds X.K fd ps ds) (hd : Vals dvs ds) (hx : Passes CX X E) (ha : PA X (e :: es) t)
    (hst : starEach (e :: es) X.env = (false, eval e X.env) :: starEach es X.env := by rfl) (hpl : (backTo pos (starEach es X.env)).any (·.1) = false := by rfl)
    (ht : eval (.Call (.Attribute o m apos) (e :: es) [] pos) X.env = (do
      let ov ← eval o X.env
      standAt apos.atName
      let (f, first) ← holding [ov] (getMethod ov m pl)
      callWith pos f first (backTo pos (starEach (e :: es) X.env)) (backToKw pos (keywordEach [] X.env))) := by rfl) :
    PE X (.Call (.Attribute o m apos) (e :: es) [] pos) (tMeth C m sp dvs E ta t) := by
  intro pins s σ H Q I h
  refine PySem.W.methodCall_KW (pl := pl) (thn (he pins s σ H _ I h) fun u s1 ⟨x, H1, I1, rx, a, dx, fs, ex, ea, l, q⟩ => ?_) ht
  subst ex
  obtain rfl : u = Value.ref a := rx
  refine getmeth_ok I1 ea c hm l ?_
  refine PySem.W.callWith_K (first := [.ref a]) (h₀ := X.base) I.ok.mod.kin hm.kp (thn (ha pos pins s1 σ H1 _ I1 q) fun us s2 ⟨vs, H2, I2, r, q2⟩ => ⟨I2.kIn, ?_⟩) hst hpl
  exact run_fn (us := .ref a :: us) (vs := .ref a :: vs) F hr hb hd hx I2 (.cons rfl r) q2
/-- o.m() -/
theorem pe_meth0 {pl : Sem Bool} (he : PE X o ta) (c : Cls X.K C) (hm : Meth X.K C m f) (F : FnOk X.prog X.w X.K X.mg X.base CX k f fd ps sp) (hr : Room k X.A) (hb : Binds X.K fd ps ds) (hd : Vals dvs ds) (hx : Passes CX X E)
    (ht : eval (.Call (.Attribute o m apos) [] [] pos) X.env = (do
      let ov ← eval o X.env
      standAt apos.atName
      let (f, first) ← holding [ov] (getMethod ov m pl)
      callWith pos f first (backTo pos (starEach [] X.env)) (backToKw pos (keywordEach [] X.env))) := by rfl) :
    PE X (.Call (.Attribute o m apos) [] [] pos) (tMeth C m sp dvs E ta tNil) := by
  intro pins s σ H Q I h
  refine PySem.W.methodCall_KW (pl := pl) (thn (he pins s σ H _ I h) fun u s1 ⟨x, H1, I1, rx, a, dx, fs, ex, ea, l, q⟩ => ?_) ht
  subst ex
  obtain rfl : u = Value.ref a := rx
  refine getmeth_ok I1 ea c hm l ?_
  exact PySem.W.callWith_K0 (first := [.ref a]) I1.kIn hm.kp (run_fn (us := [.ref a]) (vs := [.ref a]) F hr hb hd hx I1 (.cons rfl .nil) q)

/-- what a class must have to be made -/
structure Mk (K : PySem.W.Frag) (C f : Addr) : Prop where
  makes : PySem.W.makesIn K C = true
  init : PySem.W.findIn K (.ref C) "__init__" = some (some (.ref f))
  fn : PySem.W.isFn K (.ref f) = true
  kp : PySem.W.keepIn K (.ref C) = true

theorem run_make {pins : List (Addr × Obj)} {σ : St} {H : Hp} {s : Shared} {Q : VK} {us : List Value} {vs : List V} (M : Mk X.K C f) (F : FnOk X.prog X.w X.K X.mg X.base CX k f fd ps sp) (hr : Room (k + 1) X.A) (hb : Binds X.K fd ps ds) (hd : Vals dvs ds)
    (hx : Passes CX X E) (I : Inv X pins σ H s) (r : Vals vs us)
    (h : ∀ x dx, H x = none → H dx = none → dx ≠ x → sp (.ref x :: (vs ++ dvs)) (upd (upd H dx (.own x)) x (.ins C dx [])) (fun v H2 => v = .non ∧ Q (.ref x) H2) E) :
    wpAny (model X.prog X.w) X.A (call (.ref C) us) (EP X pins σ Q) X.xe s := by
  have hq := h (s.heap.objs.size + 1) s.heap.objs.size (I.hok.fresh (Nat.le_succ _)) (I.hok.fresh (Nat.le_refl _)) (Nat.ne_of_lt (Nat.lt_succ_self _))
  have I2 := Inv.made (C := C) I
  have r2 : Vals (V.ref (s.heap.objs.size + 1) :: (vs ++ dvs)) (Value.ref (s.heap.objs.size + 1) :: (us ++ ds)) := .cons rfl (r.append hd)
  have hl : (Value.ref (s.heap.objs.size + 1) :: us ++ ds).length = ps.length := by
    have e := r2.length
    rw [F.len _ _ _ _ hq] at e
    exact e.symm
  refine wpAny_call (make_map (f := f) I.kIn M.makes M.init (beq_iff_eq.mp M.fn) (codeAny_mono (F.run _ X.stack _ _ ⟨Value.ref (s.heap.objs.size + 1) :: us, []⟩ (Value.ref (s.heap.objs.size + 1) :: (us ++ ds)) _ _ E (hr.make C us [])
    (I2.env0.make C us []) (hb _ (Value.ref (s.heap.objs.size + 1) :: us) I2.kIn hl) r2 hq) fun r s' hq' => ?_))
  cases r with
  | error e => exact hx pins σ _ _ e s' I2 hq'
  | ok fl =>
    cases fl with
    | ret u =>
      obtain ⟨v, H', I3, rv, ev, q3⟩ := I2.after hq'
      subst ev
      exact ⟨rv, ⟨V.ref (s.heap.objs.size + 1), H', I3, rfl, q3⟩⟩
    | next => exact False.elim hq'
    | brk => exact False.elim hq'
    | cont => exact False.elim hq'
theorem pe_make (M : Mk X.K C f) (F : FnOk X.prog X.w X.K X.mg X.base CX k f fd ps sp) (hr : Room (k + 1) X.A) (hg : Gl X x) (hm : X.mg x = some (.ref C)) (hb : Binds X.K fd ps ds) (hd : Vals dvs ds) (hx : Passes CX X E)
    (ha : PA X (e :: es) t) (hdb : (x == ("__debug__" : Str)) = false := by decide) (he : starEach (e :: es) X.env = (false, eval e X.env) :: starEach es X.env := by rfl) (hpl : (backTo pos (starEach es X.env)).any (·.1) = false := by rfl) :
    PE X (.Call (.Name x p) (e :: es) [] pos) (tMake C sp dvs E t) := by
  intro pins s σ H Q I h
  refine wpAny_Call_Name_kw (ld_glob I hg hm ?_ hdb)
  refine PySem.W.callWith_K (h₀ := X.base) I.ok.mod.kin M.kp (thn (ha pos pins s σ H _ I h) fun us s1 ⟨vs, H1, I1, r, q⟩ => ⟨I1.kIn, ?_⟩) he hpl
  exact run_make M F hr hb hd hx I1 r q
theorem pe_make0 (M : Mk X.K C f) (F : FnOk X.prog X.w X.K X.mg X.base CX k f fd ps sp) (hr : Room (k + 1) X.A) (hg : Gl X x) (hm : X.mg x = some (.ref C)) (hb : Binds X.K fd ps ds) (hd : Vals dvs ds) (hx : Passes CX X E)
    (hdb : (x == ("__debug__" : Str)) = false := by decide) : PE X (.Call (.Name x p) [] [] pos) (tMake C sp dvs E tNil) := by
  intro pins s σ H Q I h
  refine wpAny_Call_Name_kw (ld_glob I hg hm ?_ hdb)
  exact PySem.W.callWith_K0 I.kIn M.kp (run_make (us := []) M F hr hb hd hx I .nil h)
end

/-! ### keywords -/
/-- the values of the keywords, from the left -/
def PK (X : Cx) (kws : List Keyword) (t : TA) : Prop :=
  ∀ (pos : Pos) (pins : List (Addr × Obj)) (s : Shared) (σ : St) (H : Hp) (Q : List V → Hp → Prop), Inv X pins σ H s → t σ H Q → wpAny (model X.prog X.w) X.A (evalAll ((backToKw pos (keywordEach kws X.env)).map (·.2))) (AP X pins σ Q) X.xe s
section
variable {X : Cx} {CX : CXT} {k : Nat} {f C : Addr} {fd : FuncData} {ps ks : List Str} {sp : Sp} {E : XK} {x m : Str} {p pos apos kpos : Pos} {e o : Expr} {es : List Expr} {kws : List Keyword} {te ta : TE} {t tk : TA} {nm : Option Str}
theorem pk_nil : PK X [] tNil := fun _ _ _ _ H Q I h => wpAny_evalAll_nil ⟨[], H, I, .nil, h⟩
theorem pk_cons (ha : PE X e te) (hr : PK X kws t) : PK X (⟨nm, e, kpos⟩ :: kws) (tCons te t) := by
  intro pos pins s σ H Q I h
  show wpAny _ _ (evalAll ((do let v ← eval e X.env; standAt pos; pure v) :: (backToKw pos (keywordEach kws X.env)).map (·.2))) _ _ s
  refine wpAny_evalAll_cons (wpAny_bind (thn (ha pins s σ H _ I h) fun u s1 ⟨x, H1, I1, r1, q1⟩ => wpAny_bind (wpAny_standAt (wpAny_pure ?_))))
  exact thn (hr pos pins s1 σ H1 _ I1 q1) fun us s2 ⟨xs, H2, I2, r2, q2⟩ => ⟨x :: xs, H2, I2, .cons r1 r2, q2⟩

/-- how a call with keywords binds: g puts the positional values us and the keywords' values ws (names ks) in the parameters' order, defaults among them -/
structure KBinds (K : PySem.W.Frag) (fd : FuncData) (ps ks : List Str) (g : List Value → List Value → List Value) (gV : List V → List V → List V) : Prop where
  to : ∀ (s : Shared) (us ws : List Value), K.In s.heap → (g us ws).length = ps.length → BindsTo s fd ⟨us, ks.zip ws⟩ (ps.zip (g us ws))
  rel : ∀ {vs : List V} {us : List Value} {zs : List V} {ws : List Value}, Vals vs us → Vals zs ws → Vals (gV vs zs) (g us ws)
def tCallK (sp : Sp) (gV : List V → List V → List V) (E : XK) (t tk : TA) : TE := fun σ H Q => t σ H fun vs H1 => tk σ H1 fun zs H2 => sp (gV vs zs) H2 Q E
variable {g : List Value → List Value → List Value} {gV : List V → List V → List V}
theorem run_fnk {pins : List (Addr × Obj)} {σ : St} {H : Hp} {s : Shared} {Q : VK} {us ws : List Value} {vs zs : List V} (F : FnOk X.prog X.w X.K X.mg X.base CX k f fd ps sp) (hr : Room k X.A) (hb : KBinds X.K fd ps ks g gV) (hx : Passes CX X E)
    (I : Inv X pins σ H s) (r : Vals vs us) (rz : Vals zs ws) (h : sp (gV vs zs) H Q E) : wpAny (model X.prog X.w) X.A (call (.ref f) us (ks.zip ws)) (EP X pins σ Q) X.xe s := by
  have r2 := hb.rel r rz
  have hl : (g us ws).length = ps.length := by rw [← r2.length]; exact F.len _ _ _ _ h
  refine wpAny_call (codeAny_mono (F.run X.A X.stack s H ⟨us, ks.zip ws⟩ (g us ws) (gV vs zs) Q E hr I.env0 (hb.to s us ws I.kIn hl) r2 h) fun r s' hq => ?_)
  cases r with
  | error e => exact hx pins σ H s e s' I hq
  | ok fl =>
    cases fl with
    | ret u => exact I.after hq
    | next => exact False.elim hq
    | brk => exact False.elim hq
    | cont => exact False.elim hq
/-- f(e, .., k = v, ..) -/
theorem pe_callK (F : FnOk X.prog X.w X.K X.mg X.base CX k f fd ps sp) (hr : Room k X.A) (hg : Gl X x) (hm : X.mg x = some (.ref f)) (hk : PySem.W.keepIn X.K (.ref f) = true) (hb : KBinds X.K fd ps ks g gV) (hx : Passes CX X E)
    (ha : PA X (e :: es) t) (hkw : PK X kws tk) (hall : (backToKw pos (keywordEach kws X.env)).all (·.1.isSome) = true := by rfl) (hks : (backToKw pos (keywordEach kws X.env)).filterMap (·.1) = ks := by rfl)
    (hdb : (x == ("__debug__" : Str)) = false := by decide) (he : starEach (e :: es) X.env = (false, eval e X.env) :: starEach es X.env := by rfl)
    (hpl : ((backTo pos (starEach (e :: es) X.env)).any (·.1) || (backToKw pos (keywordEach kws X.env)).any (·.1.isNone)) = false := by rfl) :
    PE X (.Call (.Name x p) (e :: es) kws pos) (tCallK sp gV E t tk) := by
  intro pins s σ H Q I h
  refine wpAny_Call_Name_kw (ld_glob I hg hm ?_ hdb)
  refine PySem.W.callWith_KW (h₀ := X.base) I.ok.mod.kin hk hall (thn (ha pos pins s σ H _ I h) fun us s1 ⟨vs, H1, I1, r, q⟩ => ?_) hpl he
  refine thn (hkw pos pins s1 σ H1 _ I1 q) fun ws s2 ⟨zs, H2, I2, rz, q2⟩ => ⟨I2.kIn, ?_⟩
  rw [hks]
  exact run_fnk F hr hb hx I2 r rz q2
end

/-! ### a def's body keeps its promise -/
/-- names: the parameters first -/
structure FnScope (N P : List Str) (sc : Scope) : Prop where
  kind : sc.kind = .function
  co : sc.isCoroutine = false
  gen : sc.isGenerator = false
  nd : N.Nodup
  pre : N.take P.length = P
  par : ∀ x ∈ P, sc.names.lookup x = some .local ∨ sc.names.lookup x = some .cell
  nofree : ∀ y ∈ sc.names, y.2 ≠ .free

theorem bindL_out {kindOf : Str → Option NameKind} {x : Str} : ∀ {binds : List (Str × Value)} {m : Str → Option Value}, (∀ v, (x, v) ∉ binds) → bindL kindOf binds m x = m x
  | [], _, _ => rfl
  | (n, v) :: r, m, h => by
    unfold bindL
    rw [bindL_out fun w hw => h w (List.mem_cons_of_mem _ hw)]
    split
    · have : x ≠ n := by rintro rfl; exact h v List.mem_cons_self
      simp [this]
    · rfl
theorem bindC_out {kindOf : Str → Option NameKind} {x : Str} : ∀ {binds : List (Str × Value)} {m : Str → Option Value}, (∀ v, (x, v) ∉ binds) → bindC kindOf binds m x = m x
  | [], _, _ => rfl
  | (n, v) :: r, m, h => by
    unfold bindC
    rw [bindC_out fun w hw => h w (List.mem_cons_of_mem _ hw)]
    split
    · rfl
    · have : x ≠ n := by rintro rfl; exact h v List.mem_cons_self
      simp [this]
theorem bindL_get {kindOf : Str → Option NameKind} {x : Str} {v : Value} : ∀ {P : List Str} {vs : List Value} {i : Nat} {m : Str → Option Value}, P.Nodup → P[i]? = some x → vs[i]? = some v → kindOf x = some .local →
    bindL kindOf (P.zip vs) m x = some v
  | [], _, _, _, _, h, _, _ => by simp at h
  | _ :: _, [], _, _, _, _, h, _ => by simp at h
  | p :: P, w :: vs, 0, m, nd, h1, h2, hk => by
    simp at h1 h2; subst h1; subst h2
    show bindL kindOf ((p, w) :: P.zip vs) m p = _
    unfold bindL
    rw [bindL_out fun v hv => (List.nodup_cons.mp nd).1 (List.of_mem_zip hv).1, if_pos hk]
    simp
  | p :: P, w :: vs, i + 1, m, nd, h1, h2, hk => by
    show bindL kindOf ((p, w) :: P.zip vs) m x = _
    unfold bindL
    exact bindL_get (i := i) (List.nodup_cons.mp nd).2 (by simpa using h1) (by simpa using h2) hk
theorem bindC_get {kindOf : Str → Option NameKind} {x : Str} {v : Value} : ∀ {P : List Str} {vs : List Value} {i : Nat} {m : Str → Option Value}, P.Nodup → P[i]? = some x → vs[i]? = some v → kindOf x ≠ some .local →
    bindC kindOf (P.zip vs) m x = some v
  | [], _, _, _, _, h, _, _ => by simp at h
  | _ :: _, [], _, _, _, _, h, _ => by simp at h
  | p :: P, w :: vs, 0, m, nd, h1, h2, hk => by
    simp at h1 h2; subst h1; subst h2
    show bindC kindOf ((p, w) :: P.zip vs) m p = _
    unfold bindC
    rw [bindC_out fun v hv => (List.nodup_cons.mp nd).1 (List.of_mem_zip hv).1, if_neg hk]
    simp
  | p :: P, w :: vs, i + 1, m, nd, h1, h2, hk => by
    show bindC kindOf ((p, w) :: P.zip vs) m x = _
    unfold bindC
    exact bindC_get (i := i) (List.nodup_cons.mp nd).2 (by simpa using h1) (by simpa using h2) hk

/-- the names' values at the entry -/
def start (N : List Str) (vs : List V) : St := vs.map some ++ List.replicate (N.length - vs.length) none

/-- the context of a def's body, at its entry; an exception leaves the frame, then lies as CX says -/
def cxOf (CX : CXT) (P : Program) (w : World) (K : PySem.W.Frag) (mg : Str → Option Value) (base : Heap) (N : List Str) (qual : Str) (scope : Scope) (f : Addr) (cd : Value) (A : Around) (outer : List Env) (s : Shared) (H : Hp) (E : XK) : Cx where
  prog := P
  w := w
  K := K
  mg := mg
  base := base
  A := A.deeper (envOfC qual scope s.heap.objs.size f cd)
  N := N
  s₀ := s
  H₀ := H
  env := envOfC qual scope s.heap.objs.size f cd
  outer := outer
  stack := envOfC qual scope s.heap.objs.size f cd :: outer
  ex := []
  calm := true
  fn := fun _ => true
  pn := []
  xe := fun e s' => wpAny (model P w) (A.deeper (envOfC qual scope s.heap.objs.size f cd)) (leaving (envOfC qual scope s.heap.objs.size f cd) e) (fun _ s'' => CX outer H s E e s'') (fun e' s'' => CX outer H s E e' s'') s'

theorem cell_has {sc : Scope} {n : Nat} {x : Str} (h : sc.names.lookup x = some .cell) : ∃ c, (cellsFrom n sc.names []).lookup x = some c := by
  have q := PySem.W.cellsFrom_some sc.names n [] (.inl h)
  exact Option.isSome_iff_exists.mp q

theorem inv_start {CX : CXT} {P : Program} {w : World} {K : PySem.W.Frag} {mg : Str → Option Value} {base : Heap} {N ps : List Str} {qual : Str} {scope : Scope} {f : Addr} {cd : Value} {A : Around} {outer : List Env} {s s1 : Shared} {H : Hp} {E : XK} {us : List Value} {vs : List V}
    (S : FnScope N ps scope) (hd : A.handled = none) (e0 : Env0 P w K mg base A outer s H) (hl : vs.length = ps.length) (r : Vals vs us)
    (x : InCallC s s.heap.objs.size (bindL (envOfC qual scope s.heap.objs.size f cd).kindOf (ps.zip us) fun _ => none) (cellsFrom (s.heap.objs.size + 1) scope.names []) (bindC (envOfC qual scope s.heap.objs.size f cd).kindOf (ps.zip us) fun _ => none) s1) :
    Inv (cxOf CX P w K mg base N qual scope f cd A outer s H E) [] (start N vs) H s1 := by
  have hpl : ps.length ≤ N.length := by have := congrArg List.length S.pre; rw [List.length_take] at this; omega
  obtain ⟨h1, tk, rfl, hk⟩ := x.done
  have noA : ∀ b : Addr, b ∉ (cxOf CX P w K mg base N qual scope f cd A outer s H E).ex := fun b z => absurd (show b ∈ ([] : List Addr) from z) (by simp)
  refine ⟨⟨e0.mod, S.kind, rfl, rfl, Nat.le_refl _, fun y z c h1 h2 => ?_, fun y hy => ?_, fun y c _ h => ?_, fun _ => hd, Around.frames_deeper e0.frames, .inr ⟨rfl, rfl⟩, fun b z => absurd z (noA b), e0.bs, e0.bsz, fun b _ _ => noA b, fun b z => absurd z (noA b), e0.funs, e0.frf⟩,
    rfl, e0.bare, Un.kept hk, ⟨_, x.toInCall.ns, fun i y v h1 h2 h3 => ?_⟩, fun y c h => ⟨_, x.cell y c h⟩, e0.hok.fresh (Nat.le_refl _), fun y c h => ?_, fun p hp => absurd (show p ∈ ([] : List (Addr × Obj)) from hp) (by simp), e0.hok.kept hk, ?_⟩
  · exact name_of_addr x.apart (PySem.mem_of_lookup h1) (PySem.mem_of_lookup h2)
  · have hy : scope.names.lookup y = some .cell ∨ scope.names.lookup y = some .free := hy
    rcases hy with hy | hy
    · exact cell_has hy
    · exact absurd rfl (S.nofree _ (PySem.mem_of_lookup hy))
  · exact Nat.le_of_lt (x.above y c (PySem.mem_of_lookup h))
  · have hi : i < vs.length := by
      unfold start at h2
      by_cases hi : i < vs.length
      · exact hi
      · rw [List.getElem?_append_right (by simpa using hi)] at h2
        rw [List.getElem?_replicate] at h2
        split at h2 <;> cases h2
    have ha : vs[i]? = some v := by
      unfold start at h2
      rw [List.getElem?_append_left (by simpa using hi), List.getElem?_map] at h2
      cases e : vs[i]? with
      | none => rw [e] at h2; cases h2
      | some a => rw [e] at h2; cases h2; rfl
    obtain ⟨u, hu, rv⟩ := r.get ha
    have hp : ps[i]? = some y := by
      rw [← S.pre, List.getElem?_take_of_lt (by omega)]; exact h1
    have ndP : ps.Nodup := by rw [← S.pre]; exact S.nd.sublist (List.take_sublist _ _)
    refine ⟨u, rv, ?_⟩
    rcases S.par y (List.mem_of_getElem? hp) with k | k
    · exact .inl ⟨k, bindL_get ndP hp hu k⟩
    · obtain ⟨c, e⟩ := cell_has (n := s.heap.objs.size + 1) k
      refine .inr ⟨.inl k, c, e, ?_⟩
      have q := x.cell y c e
      rw [bindC_get ndP hp hu (by show scope.names.lookup y ≠ _; rw [k]; decide)] at q
      exact q
  · exact e0.hok.fresh (Nat.le_of_lt (x.above y c (PySem.mem_of_lookup h)))
  · unfold start
    show _ = N.length
    rw [List.length_append, List.length_map, List.length_replicate]
    omega

/-- THE RULE: a def (or a method) of the text, by its body. The body's reading t is chosen for each entry; it is run at the parameters' values -/
theorem fn_of {CX : CXT} {P : Program} {w : World} {K : PySem.W.Frag} {mg : Str → Option Value} {base : Heap} {k : Nat} {f : Addr} {name qual : Str} {params : Arguments} {body : List Stmt} {scope : Scope} {dV kV doc pm cdv ct oc : Value} {an od : Option Addr}
    {osl : Array (Option Value)} {N ps : List Str} {sp : Sp} (lk : K.lookup f = some ⟨oc, od, .func (PySem.W.fnOf name qual params body scope dV kV doc pm an cdv ct), osl⟩) (hcd : PySem.W.codeIn K cdv qual = true) (S : FnScope N ps scope)
    (len : ∀ vs H Q E, sp vs H Q E → vs.length = ps.length)
    (hbody : ∀ (A : Around) (outer : List Env) (s : Shared) (H : Hp) (vs : List V) (Q : VK) (E : XK), Room k (A.deeper (envOfC qual scope s.heap.objs.size f cdv)) → sp vs H Q E →
      ∃ t, PSs (cxOf CX P w K mg base N qual scope f cdv A outer s H E) body t ∧ t { nx := fun _ H' => Q .non H', rt := Q } (start N vs) H) :
    FnOk P w K mg base CX (k + 1) f (PySem.W.fnOf name qual params body scope dV kV doc pm an cdv ct) ps sp := by
  refine ⟨len, fun A outer s H args us vs Q E hr e0 hb r hsp => ?_⟩
  have hl := len _ _ _ _ hsp
  have KX : K.In s.heap := e0.mod.kin.keeps fun b o e => (e0.bs b o e).1
  have lim : s.heap.NoLimit := e0.mod.nolimit.keeps fun b o e => (e0.bs b o e).1
  have hkind : ∀ y ∈ ps.zip us, scope.names.lookup y.1 = some .local ∨ (scope.names.lookup y.1 = some .cell ∧ ((cellsFrom (s.heap.objs.size + 1) scope.names []).lookup y.1).isSome = true) := fun ⟨n, v⟩ hy => by
    rcases S.par n (List.of_mem_zip hy).1 with q | q
    · exact .inl q
    · exact .inr ⟨q, PySem.W.cellsFrom_some _ _ _ (.inl q)⟩
  refine codeAny_call_function hr.depth (KX _ _ lk) rfl S.co S.gen rfl (PySem.W.codeRec_of KX hcd) (hb _ _ _ _ ?_)
  refine wpAny_newFunctionEnv_cells S.kind hkind fun env he s1 x => ?_
  subst he
  refine ⟨lim.keeps x.toInCall.keep, codeAny_func ?_⟩
  obtain ⟨t, ht, hq⟩ := hbody A outer s H vs Q E (hr.deeper _) hsp
  have I : Inv (cxOf CX P w K mg base N qual scope f cdv A outer s H E) [] (start N vs) H s1 := inv_start S hr.hd e0 hl r x
  refine wpAny_mono (ht [] s1 (start N vs) H _ I hq) (fun fl s' hs => ?_) fun e s' hs => hs
  have fin : ∀ {σ' : St} {H' : Hp} {v : V} {u : Value}, Inv (cxOf CX P w K mg base N qual scope f cdv A outer s H E) [] σ' H' s' → RelV v u → Q v H' → CE outer P w H s Q u s' :=
    fun {σ' H' v u} J rv q => ⟨v, H', J.os, J.bare, J.base, J.hok, rv, q⟩
  cases fl with
  | ret u =>
    obtain ⟨v, σ', H', J, rv, q⟩ := hs
    exact fin J rv q
  | next =>
    obtain ⟨σ', H', J, q⟩ := hs
    exact fin (v := V.non) (u := Value.none) J rfl q
  | brk =>
    obtain ⟨_, _, _, q⟩ := hs
    exact False.elim q
  | cont =>
    obtain ⟨_, _, _, q⟩ := hs
    exact False.elim q
end L2

namespace L2
open PySem PySem.Spec PyProof.Rows
section
variable {X : Cx} {x : Str} {p pos : Pos} {e : Expr} {es : List Expr} {t : TA} {id T : String} {r : List V → Hp → VK → Prop}

def tCB (r : List V → Hp → VK → Prop) (t : TA) : TE := fun σ H Q => t σ H fun vs H1 => r vs H1 Q
/-- f(e, ..), f a built-in function -/
theorem pe_callB (hc : CallR X (.builtin id) r) (hg : Gl X x) (hm : X.mg x = none) (hv : bootBuiltins x = some (.builtin id)) (ha : PA X (e :: es) t) (hn : x ≠ "__name__" := by decide) (hdb : (x == ("__debug__" : Str)) = false := by decide)
    (he : starEach (e :: es) X.env = (false, eval e X.env) :: starEach es X.env := by rfl) (hpl : (backTo pos (starEach es X.env)).any (·.1) = false := by rfl) : PE X (.Call (.Name x p) (e :: es) [] pos) (tCB r t) := by
  intro pins s σ H Q I h
  refine wpAny_Call_Name_kw (ld_blt I hg hm hv ?_ hn hdb)
  exact PyProof.Rows.callWith_builtin1 (thn (ha pos pins s σ H _ I h) fun us s1 ⟨vs, H1, I1, r1, q1⟩ => hc pins s1 σ H1 vs us Q I1 r1 q1) he hpl
/-- T(e, ..), T a built-in type -/
theorem pe_callTy (hc : CallR X (.type T) r) (hg : Gl X x) (hm : X.mg x = none) (hv : bootBuiltins x = some (.type T)) (ha : PA X (e :: es) t) (hn : x ≠ "__name__" := by decide) (hdb : (x == ("__debug__" : Str)) = false := by decide)
    (he : starEach (e :: es) X.env = (false, eval e X.env) :: starEach es X.env := by rfl) (hpl : (backTo pos (starEach es X.env)).any (·.1) = false := by rfl) : PE X (.Call (.Name x p) (e :: es) [] pos) (tCB r t) := by
  intro pins s σ H Q I h
  refine wpAny_Call_Name_kw (ld_blt I hg hm hv ?_ hn hdb)
  exact PyProof.Rows.callWith_type1 (thn (ha pos pins s σ H _ I h) fun us s1 ⟨vs, H1, I1, r1, q1⟩ => hc pins s1 σ H1 vs us Q I1 r1 q1) he hpl
/-- T() -/
theorem pe_callTy0 (hc : CallR X (.type T) r) (hg : Gl X x) (hm : X.mg x = none) (hv : bootBuiltins x = some (.type T)) (hn : x ≠ "__name__" := by decide) (hdb : (x == ("__debug__" : Str)) = false := by decide) :
    PE X (.Call (.Name x p) [] [] pos) (tCB r tNil) := by
  intro pins s σ H Q I h
  refine wpAny_Call_Name_kw (ld_blt I hg hm hv ?_ hn hdb)
  exact PyProof.Rows.callWith_type0 (hc pins s σ H [] [] Q I .nil h)
end
end L2

namespace HT
open PySem PyProof.Rows

/-- t < u of tuples of ints -/
def lexLt : List Int → List Int → Bool
  | [], [] => false
  | [], _ :: _ => true
  | _ :: _, [] => false
  | x :: xs, y :: ys => if x = y then lexLt xs ys else decide (x < y)
theorem lexLt_cons (x y : Int) (xs ys : List Int) : lexLt (x :: xs) (y :: ys) = if x = y then lexLt xs ys else decide (x < y) := rfl
theorem lexLt_nil_nil : lexLt [] [] = false := rfl
theorem lexLt_nil_cons (y : Int) (ys : List Int) : lexLt [] (y :: ys) = true := rfl
theorem lexLt_cons_nil (x : Int) (xs : List Int) : lexLt (x :: xs) [] = false := rfl

theorem eqAt_int (A : Around) (s : Shared) (a : Int) (t : Tok) (c : Int) (u : Tok) : ∃ e, SeqAt.EqAt A s (.int a t) (.int c u) e ∧ (e = true ↔ a = c) :=
  ⟨(a == c), SeqAt.EqAt.int_int a t c u, by simp⟩
theorem rcLt_int (A : Around) (s : Shared) (a : Int) (t : Tok) (c : Int) (u : Tok) (prog : Program) (w : World) (E : Value → Shared → Prop) (Q : Value → Shared → Prop) (h : Q (.bool (decide (a < c))) s) :
    wpAny (model prog w) A (richCompare .Lt (.int a t) (.int c u)) Q E s :=
  (PyProof.Rows.lt_int h : wpAny (model prog w) A (compareOp .Lt (.int a t) (.int c u)) Q E s)

section
open PySem.SeqAt
open PySem.AutoSeq1 (wpAny_loadPart')
open PySem.MeetsSeq PySem.MeetsSeq2 PySem.MeetsSeq3

theorem tuple_lt_ints (l b : Addr) (items items2 : Array Value) (n n2 : Nat) (dd dd2 : Option Addr) (sl sl2 : Array (Option Value)) (ns ms : List Int) (hi : IntsAre items.toList ns) (hj : IntsAre items2.toList ms) :
    Meets (Builtin.«tuple.__lt__» ⟨[.ref l, .ref b], []⟩)
      (fun _ R s => s.heap.get? l = some { cls := .type "tuple", dict := dd, data := .seq items n, slots := sl } ∧ s.heap.get? b = some { cls := .type "tuple", dict := dd2, data := .seq items2 n2, slots := sl2 } ∧
        R (.ok (.ret (.bool (lexLt ns ms)))) s) :=
  .of_wp fun prog w A R s h => by
    obtain ⟨hp, g, d, tk, os⟩ := s; obtain ⟨hl, hb, h⟩ := h
    have f2 := AutoSeq1.sub_tuple_tuple
    have z1 : items.size = ns.length := by rw [← hi.length]; simp
    have z2 : items2.size = ms.length := by rw [← hj.length]; simp
    wp_walk using wpAny_loadPart' hl, wpAny_loadPart' hb, wpAny_forIn_list _ (fun rest b s' => b.1 = none ∧ s' = ⟨hp, g, d, tk, os⟩ ∧ ∃ (vs ws : List Value) (ns' ms' : List Int), rest = vs.zip ws ∧
      IntsAre vs ns' ∧ IntsAre ws ms' ∧ ns'.length + items2.size = ms'.length + items.size ∧ R (.ok (.ret (.bool (lexLt ns' ms')))) ⟨hp, g, d, tk, os⟩) _
    case turn =>
      rintro ⟨y, x⟩ rest b s' ⟨hb', rfl, vs, ws, ns', ms', hz, hvi, hwi, hlen, hR⟩
      cases hvi with
      | nil => rw [List.zip_nil_left] at hz; cases hz
      | cons a t hvi' =>
        cases hwi with
        | nil => rw [List.zip_nil_right] at hz; cases hz
        | cons c u hwi' =>
          rw [List.zip_cons_cons] at hz
          injection hz with hyx hrest
          injection hyx with hy hx
          subst hy hx
          rw [lexLt_cons] at hR
          simp only [List.length_cons] at hlen
          obtain ⟨e, he, hiff⟩ := eqAt_int A.in1 ⟨hp, g, d, tk, os⟩ a t c u
          refine wpAny_bind (he prog w _ _ ?_)
          cases e with
          | true =>
            rw [if_pos (hiff.mp rfl)] at hR
            wp_walk
            exact ⟨rfl, rfl, _, _, _, _, hrest, hvi', hwi', by omega, hR⟩
          | false =>
            rw [if_neg (fun q => absurd (hiff.mpr q) Bool.false_ne_true)] at hR
            have hri := rcLt_int A.in1 ⟨hp, g, d, tk, os⟩ a t c u prog w
            wp_walk using hri
            exact ⟨_, rfl, by simpa using hR⟩
    case fin =>
      rintro ⟨b1, b2⟩ s' ⟨hb', rfl, vs, ws, ns', ms', hz, hvi, hwi, hlen, hR⟩
      simp only at hb'
      subst hb'
      have hv : lexLt ns' ms' = decide (items.size < items2.size) := by
        cases hvi with
        | nil =>
          cases hwi with
          | nil =>
            simp only [List.length_nil] at hlen
            rw [lexLt_nil_nil]
            exact (decide_eq_false (by omega)).symm
          | cons c u hw =>
            simp only [List.length_nil, List.length_cons] at hlen
            rw [lexLt_nil_cons]
            exact (decide_eq_true (by omega)).symm
        | cons a t hv =>
          cases hwi with
          | nil =>
            simp only [List.length_nil, List.length_cons] at hlen
            rw [lexLt_cons_nil]
            exact (decide_eq_false (by omega)).symm
          | cons c u hw =>
            rw [List.zip_cons_cons] at hz
            cases hz
      rw [hv] at hR
      wp_walk
      exact ⟨_, rfl, by simpa [Builtin.Tuple.tupleCompareSizes] using hR⟩
    case h =>
      exact ⟨rfl, rfl, items.toList, items2.toList, ns, ms, rfl, hi, hj, by omega, h⟩
end

section
variable {prog : Program} {w : World} {A : Around} {E : Value → Shared → Prop} {s : Shared}

theorem lt_tupInts {l b : Addr} {items items2 : Array Value} {ns ms : List Int} {Q : Value → Shared → Prop} (hl : IsTup s.heap l items) (hb : IsTup s.heap b items2) (hi : IntsAre items.toList ns) (hj : IntsAre items2.toList ms)
    (hu : A.units < cLine) (h : Q (.bool (lexLt ns ms)) s) : wpAny (model prog w) A (compareOp .Lt (.ref l) (.ref b)) Q E s := by
  obtain ⟨⟨cls, dd, data, sl⟩, ho, hc, n, hd⟩ := id hl
  obtain ⟨⟨cls2, dd2, data2, sl2⟩, ho2, hc2, n2, hd2⟩ := id hb
  simp only at hc hd hc2 hd2
  subst hc hd hc2 hd2
  exact richCompare_meets_room (op := .Lt) ⟨_, ho, rfl⟩ ⟨_, ho2, rfl⟩ PySem.F.slot_tuple_lt PySem.F.entry_tuple_lt (PySem.F.args_tuple_lt_2 _ _) (tuple_lt_ints l b items items2 n n2 dd dd2 sl sl2 ns ms hi hj)
    ⟨ho, ho2, show Value.bool (lexLt ns ms) ≠ Value.notImplemented ∧ Q (.bool (lexLt ns ms)) s from ⟨(fun x => nomatch x), h⟩⟩ hu

/-- t + u, t not empty -/
theorem cat_tup {t b : Addr} {vs ws : List Value} {Q : Value → Shared → Prop} (ht : IsTup s.heap t vs.toArray) (hb : IsTup s.heap b ws.toArray) (hv : vs ≠ [])
    (h1 : ws = [] → Q (.ref t) s) (h2 : ws ≠ [] → Q (.ref s.heap.objs.size) { s with heap := s.heap.push { cls := .type "tuple", data := .seq (vs ++ ws).toArray } })
    (hsz : vs.length + ws.length ≤ sizeLine) : wpAny (model prog w) A (binaryOp .Add (.ref t) (.ref b)) Q E s := by
  obtain ⟨⟨cls, dd, data, sl⟩, ho, hc, n, hd⟩ := id ht
  obtain ⟨⟨cls2, dd2, data2, sl2⟩, ho2, hc2, n2, hd2⟩ := id hb
  simp only at hc hd hc2 hd2
  subst hc hd hc2 hd2
  have e : vs.toArray ++ ws.toArray = (vs ++ ws).toArray := by simp
  by_cases hw : ws = []
  · exact concat_meets ⟨_, ho, rfl⟩ ⟨_, ho2, rfl⟩ noFill_tuple_add seq_tuple_add PySem.F.slot_tuple_add PySem.F.entry_tuple_add (PySem.F.args_tuple_add_2 _ _)
      (tuple_addW1 t b vs.toArray ws.toArray n n2 dd dd2 sl sl2 (by simpa using hv) (by simp [hw])) ⟨ho, ho2, h1 hw⟩
  · refine concat_meets ⟨_, ho, rfl⟩ ⟨_, ho2, rfl⟩ noFill_tuple_add seq_tuple_add PySem.F.slot_tuple_add PySem.F.entry_tuple_add (PySem.F.args_tuple_add_2 _ _)
      (tuple_addW2 t b vs.toArray ws.toArray n n2 dd dd2 sl sl2 (by simpa using hv) (by simpa using hw) (by rw [List.size_toArray, List.size_toArray]; exact hsz)) ⟨ho, ho2, ?_⟩
    rw [e]
    exact h2 hw

/-! ### t[a:b], not the whole -/
/-- a slice's bound as a place among n (d where it is left out) -/
def sIx (n d : Nat) : Option Int → Nat
  | none => d
  | some v => if v < 0 then (v + (n : Int)).toNat else min v.toNat n
theorem sIx_none (n d : Nat) : sIx n d none = d := rfl
theorem sIx_nat (n d k : Nat) : sIx n d (some (k : Int)) = min k n := by
  show (if (k : Int) < 0 then ((k : Int) + (n : Int)).toNat else min (k : Int).toNat n) = min k n
  rw [if_neg (by omega), Int.toNat_natCast]
theorem sIx_le (n d : Nat) (hd : d ≤ n) (o : Option Int) : sIx n d o ≤ n := by
  cases o with
  | none => exact hd
  | some v =>
    show (if v < 0 then (v + (n : Int)).toNat else min v.toNat n) ≤ n
    by_cases hv : v < 0
    · rw [if_pos hv]; omega
    · rw [if_neg hv]; exact Nat.min_le_right _ _
theorem clip_eq (v : Int) (n d : Nat) : (if v < 0 then max (v + (n : Int)) 0 else min v (n : Int)) = ((sIx n d (some v) : Nat) : Int) := by
  show (if v < 0 then max (v + (n : Int)) 0 else min v (n : Int)) = (((if v < 0 then (v + (n : Int)).toNat else min v.toNat n) : Nat) : Int)
  by_cases hv : v < 0
  · simp only [if_pos hv]; omega
  · simp only [if_neg hv]; omega
theorem adjust_gen (lo hi : Option Int) (n : Nat) : Builtin.Slice.sliceAdjust lo hi 1 (n : Int) = (((sIx n 0 lo : Nat) : Int), ((sIx n n hi : Nat) : Int)) := by
  have h1 : ¬ ((1 : Int) < 0) := by omega
  unfold Builtin.Slice.sliceAdjust
  simp only [h1, if_false]
  refine Prod.ext ?_ ?_
  · cases lo with
    | none => rfl
    | some v => exact clip_eq v n 0
  · cases hi with
    | none => rfl
    | some v => exact clip_eq v n n
theorem places_gen (i j : Nat) : Builtin.Slice.slicePlaces (i : Int) (j : Int) 1 = j - i := by
  unfold Builtin.Slice.slicePlaces
  have h1 : (1 : Int) > 0 := by omega
  simp only [h1, if_true, Int.ediv_one]
  split <;> omega
theorem slicePart_ {v : Value} {o : Option Int} {Q : Option Int → Shared → Prop} (p : IsPart v o) (h : Q o s) : wpAny (model prog w) A (Builtin.Slice.slicePartIndex v) Q E s := by
  cases p with
  | none => exact slicePart_none h
  | int i t => exact slicePart_int h
theorem sliceApplied_gen {sl : Addr} {vl vu : Value} {lo hi : Option Int} {n : Nat} {Q : Int × Int × Nat → Shared → Prop} (hs : s.heap.IsSliceOf sl vl vu .none) (pl : IsPart vl lo) (pu : IsPart vu hi)
    (h : Q (((sIx n 0 lo : Nat) : Int), 1, sIx n n hi - sIx n 0 lo) s) : wpAny (model prog w) A (Builtin.Slice.sliceApplied (.ref sl) (pure (n : Int))) Q E s := by
  obtain ⟨os, hos, hcs, hds⟩ := id hs
  unfold Builtin.Slice.sliceApplied Builtin.Slice.sliceFields
  refine wpAny_bind (wpAny_bind (wpAny_field hos hds (x := vl) rfl (wpAny_bind (wpAny_field hos hds (x := vu) rfl (wpAny_bind (wpAny_field hos hds (x := .none) rfl (wpAny_pure ?_)))))))
  refine wpAny_bind (slicePart_none ?_)
  show wpAny _ _ (if ((1 : Int) == 0) = true then _ else _) _ _ s
  rw [if_neg (by decide)]
  refine wpAny_bind (slicePart_ pl (wpAny_bind (slicePart_ pu (wpAny_bind (wpAny_pure ?_)))))
  show wpAny _ _ (match Builtin.Slice.sliceAdjust lo hi 1 (n : Int) with | (lo, hi) => pure (lo, (1 : Int), Builtin.Slice.slicePlaces lo hi 1)) _ _ s
  rw [adjust_gen lo hi n]
  show wpAny _ _ (pure (((sIx n 0 lo : Nat) : Int), (1 : Int), Builtin.Slice.slicePlaces ((sIx n 0 lo : Nat) : Int) ((sIx n n hi : Nat) : Int) 1)) _ _ s
  rw [places_gen]
  exact wpAny_pure h
theorem pick_gen (xs : Array Value) (i k : Nat) : ((List.range k).filterMap fun (m : Nat) => xs[((i : Int) + (m : Int) * 1).toNat]?).toArray = ((xs.toList.drop i).take k).toArray := by
  have e : (fun (m : Nat) => xs[((i : Int) + (m : Int) * 1).toNat]?) = fun m => xs[i + m]? := by
    funext m
    have : ((i : Int) + (m : Int) * 1).toNat = i + m := by omega
    rw [this]
  rw [e]
  have := pick_run xs i k
  rw [List.filterMap_map] at this
  have e2 : ((fun x => xs[x]?) ∘ fun x => i + x) = fun m => xs[i + m]? := rfl
  rw [e2] at this
  rw [this]

theorem getItem_tuple_cut {t sl : Addr} {items : Array Value} {vl vu : Value} {lo hi : Option Int} {Q : Value → Shared → Prop} (ht : IsTup s.heap t items) (hs : s.heap.IsSliceOf sl vl vu .none) (pl : IsPart vl lo) (pu : IsPart vu hi)
    (hw : ¬ (sIx items.size 0 lo = 0 ∧ sIx items.size items.size hi = items.size))
    (h : Q (.ref s.heap.objs.size) { s with heap := s.heap.push { cls := .type "tuple", data := .seq ((items.toList.drop (sIx items.size 0 lo)).take (sIx items.size items.size hi - sIx items.size 0 lo)).toArray } })
    (hsz : items.size ≤ sizeLine) : wpAny (model prog w) A (getItem (.ref t) (.ref sl)) Q E s := by
  have htake : sizeOk (.seq ((items.toList.drop (sIx items.size 0 lo)).take (sIx items.size items.size hi - sIx items.size 0 lo)).toArray) := by
    show ((items.toList.drop (sIx items.size 0 lo)).take (sIx items.size items.size hi - sIx items.size 0 lo)).toArray.size ≤ sizeLine
    rw [List.size_toArray, List.length_take, List.length_drop, Array.length_toList]
    omega
  have hj : sIx items.size items.size hi ≤ items.size := sIx_le _ _ (Nat.le_refl _) hi
  obtain ⟨os, hos, hcs, hds⟩ := id hs
  have hTs : s.TypeIs (.ref sl) "slice" := ⟨os, hos, hcs⟩
  unfold getItem
  try with_reducible refine wpAny_holding ?_
  first | refine wpAny_bind (wpAny_pure ?_) | skip
  refine wpAny_bind (wpAny_sequenceKey ht.typeIs (by decide) ?_)
  refine wpAny_bind (wpAny_callSpecial?_slot (name := Str.ofString "__getitem__") ht.typeIs PyProof.Rows.slot_tuple_getitem
    (wpAny_call_entry PyProof.Rows.slot_tuple_getitem ht.typeIs entry_tuple_getitem ?_ (args_tuple_getitem _ _)))
  show wpAny _ _ (Builtin.Tuple.tupleItemsOf (.ref t) >>= _) _ _ s
  refine wpAny_bind (tupleItemsOf_ ht ?_)
  refine wpAny_bind (wpAny_typeOf hTs ?_)
  rw [if_pos (by decide)]
  refine wpAny_bind (sliceApplied_gen hs pl pu ?_)
  have hno : ¬ ((((sIx items.size 0 lo : Nat) : Int) == 0 && (1 : Int) == 1 && (sIx items.size items.size hi - sIx items.size 0 lo) == items.size) = true) := by
    intro q
    rw [Bool.and_eq_true, Bool.and_eq_true] at q
    have q1 : ((sIx items.size 0 lo : Nat) : Int) = 0 := eq_of_beq q.1.1
    have q2 : sIx items.size items.size hi - sIx items.size 0 lo = items.size := eq_of_beq q.2
    exact hw ⟨by omega, by omega⟩
  show wpAny _ _ (if (((sIx items.size 0 lo : Nat) : Int) == 0 && (1 : Int) == 1 && (sIx items.size items.size hi - sIx items.size 0 lo) == items.size) = true then _ else _) _ _ s
  rw [if_neg hno, pick_gen]
  first
    | exact wpAny_bind (m := Builtin.Tuple.tupleExact _) (wpAny_newObj_type (wpAny_pure ⟨_, rfl, wpAny_pure h⟩) htake)
    | exact wpAny_bind (m := Builtin.Tuple.tupleExact _) (wpAny_newObj_type (wpAny_bind (wpAny_pure (wpAny_pure ⟨_, rfl, wpAny_pure h⟩))) htake)
    | exact wpAny_bind (wpAny_bind (m := Builtin.Tuple.tupleExact _) (wpAny_newObj_type (wpAny_pure (wpAny_pure ⟨_, rfl, wpAny_pure h⟩)) htake))
    | exact wpAny_bind (wpAny_bind (m := Builtin.Tuple.tupleExact _) (wpAny_newObj_type (wpAny_pure ⟨_, rfl, wpAny_pure h⟩) htake))
end
end HT

namespace L2
open PySem PySem.Spec PyProof.Rows

/-! ### the parts of a slice -/
abbrev TO := St → Hp → (Option Int → Hp → Prop) → Prop
/-- a slice's part (left out, or an int) -/
def PO (X : Cx) (e : Option Expr) (t : TO) : Prop :=
  ∀ (pins : List (Addr × Obj)) (s : Shared) (σ : St) (H : Hp) (Q : Option Int → Hp → Prop), Inv X pins σ H s → t σ H Q →
    wpAny (model X.prog X.w) X.A (evalPart e X.env) (fun u s' => ∃ o H', Inv X pins σ H' s' ∧ IsPart u o ∧ Q o H') X.xe s
def tNoPart : TO := fun _ H Q => Q none H
def tPart (t : TE) : TO := fun σ H Q => t σ H fun x H1 => ∃ i, x = .int i ∧ Q (some i) H1

theorem intsAre_of {ns : List Int} : ∀ {us : List Value}, Vals (ns.map V.int) us → IntsAre us ns := by
  induction ns with
  | nil => intro us r; rw [List.map_nil] at r; cases r; exact .nil
  | cons n ns ih =>
    intro us r
    rw [List.map_cons] at r
    cases r with
    | cons r1 r2 =>
      obtain ⟨t, e⟩ := r1
      subst e
      exact .cons n t (ih r2)

section
variable {X : Cx} {e : Expr} {te : TE} {lo hi : Option Expr} {tl th : TO} {pos p2 : Pos}

theorem po_none : PO X none tNoPart := by
  intro pins s σ H Q I h
  rw [evalPart_none]
  exact wpAny_pure ⟨none, H, I, .none, h⟩
theorem po_some (h : PE X e te) : PO X (some e) (tPart te) := by
  intro pins s σ H Q I hw
  rw [evalPart_some]
  refine thn (h pins s σ H _ I hw) fun u s1 ⟨x, H1, I1, r1, q1⟩ => ?_
  obtain ⟨i, rfl, q⟩ := q1
  obtain ⟨t, rfl⟩ := r1
  exact ⟨some i, H1, I1, .int i t, q⟩

/-- what a slice of a value is, by values: the slice object stands at sl -/
def SlR (X : Cx) (r : V → Option Int → Option Int → Hp → VK → Prop) : Prop :=
  ∀ (pins : List (Addr × Obj)) (s : Shared) (σ : St) (H : Hp) (x : V) (v vl vu : Value) (lo hi : Option Int) (sl : Addr) (Q : VK), Inv X pins σ H s → RelV x v → s.heap.IsSliceOf sl vl vu .none → IsPart vl lo → IsPart vu hi → r x lo hi H Q →
    ∃ T id, typeLookup (.type T) "__getitem__" = pure (some (.builtin id)) ∧ s.TypeIs v T ∧ wpAny (model X.prog X.w) X.A (getItem v (.ref sl)) (EP X pins σ Q) X.xe s
theorem SlR.or {r r' : V → Option Int → Option Int → Hp → VK → Prop} (h : SlR X r) (h' : SlR X r') : SlR X (fun x lo hi H Q => r x lo hi H Q ∨ r' x lo hi H Q) := by
  intro pins s σ H x v vl vu lo hi sl Q I rx hs pl pu q
  rcases q with q | q
  · exact h pins s σ H x v vl vu lo hi sl Q I rx hs pl pu q
  · exact h' pins s σ H x v vl vu lo hi sl Q I rx hs pl pu q
def tSl (r : V → Option Int → Option Int → Hp → VK → Prop) (te : TE) (tl th : TO) : TE := fun σ H Q => te σ H fun x H1 => tl σ H1 fun l H2 => th σ H2 fun u H3 => r x l u H3 Q
/-- a[lo:hi], any a -/
theorem pe_slice {r : V → Option Int → Option Int → Hp → VK → Prop} (hr : SlR X r) (he : PE X e te) (hl : PO X lo tl) (hu : PO X hi th) : PE X (.Subscript e (.Slice lo hi none p2) pos) (tSl r te tl th) := by
  intro pins s σ H Q I h
  refine Subscript_ (thn (he pins s σ H _ I h) fun v s1 ⟨x, H1, I1, r1, q1⟩ => ?_)
  refine wpAny_Slice (thn (hl pins s1 σ H1 _ I1 q1) fun vl s2 ⟨l, H2, I2, pl, q2⟩ => thn (hu pins s2 σ H2 _ I2 q2) fun vu s3 ⟨u, H3, I3, pu, q3⟩ => ?_)
  rw [evalPart_none]
  refine wpAny_pure ?_
  have I4 : Inv X pins σ H3 { s3 with heap := s3.heap.push { cls := .type "slice", data := .fields #[vl, vu, .none] } } := I3.kept (t' := s3.toks) fun b ob q => Heap.get?_push_of_some _ q
  obtain ⟨T, id, hT, ht, hg⟩ := hr pins { s3 with heap := s3.heap.push { cls := .type "slice", data := .fields #[vl, vu, .none] } } σ H3 x v vl vu l u s3.heap.objs.size Q I4 r1 (Heap.IsSliceOf.new ..) pl pu q3
  show wpAny (model X.prog X.w) X.A (subscriptTail e (.Slice lo hi none p2) v (.ref s3.heap.objs.size)) (EP X pins σ Q) X.xe { s3 with heap := s3.heap.push { cls := .type "slice", data := .fields #[vl, vu, .none] } }
  exact tail_any (ops := [.ref s3.heap.objs.size, v]) ht hT hg (by with_unfolding_all rfl)

/-- the items of xs[lo:hi] -/
def cutV (xs : List V) (lo hi : Option Int) : List V := (xs.drop (HT.sIx xs.length 0 lo)).take (HT.sIx xs.length xs.length hi - HT.sIx xs.length 0 lo)
theorem cutV_length (xs : List V) (lo hi : Option Int) : (cutV xs lo hi).length ≤ xs.length := by
  unfold cutV
  rw [List.length_take, List.length_drop]
  omega
/-- t[lo:hi], not the whole of it (the whole would be t itself) -/
def rSlT (K : PySem.W.Frag) : V → Option Int → Option Int → Hp → VK → Prop := fun x lo hi H Q => ∃ a xs, x = .ref a ∧ SqT K H a xs ∧
  ¬ (HT.sIx xs.length 0 lo = 0 ∧ HT.sIx xs.length xs.length hi = xs.length) ∧ ∀ p, H p = none → Q (.ref p) (upd H p (.tup (cutV xs lo hi)))
theorem sl_tup : SlR X (rSlT X.K) := by
  intro pins s σ H x v vl vu lo hi sl Q I rx hs pl pu h
  obtain ⟨a, xs, rfl, hx, hw, q⟩ := h
  cases rx
  obtain ⟨its, r, ht, hz⟩ := I.tuple hx
  have hlen : its.toArray.size = xs.length := by rw [List.size_toArray]; exact r.length.symm
  refine ⟨"tuple", _, PyProof.Rows.slot_tuple_getitem.lookup, ht.typeIs, ?_⟩
  refine HT.getItem_tuple_cut ht hs pl pu (by rw [hlen]; exact hw) ?_ (by rw [hlen]; exact hz)
  rw [hlen]
  refine ⟨.ref s.heap.objs.size, _, I.laid (t' := s.toks) (o := .tup (cutV xs lo hi)) (fun b ob q => Heap.get?_push_of_some _ q) (Nat.le_refl _) ?_, rfl, q _ (I.hok.fresh (Nat.le_refl _))⟩
  exact ⟨Nat.le_trans (cutV_length xs lo hi) hz, _, (r.drop (HT.sIx xs.length 0 lo)).take (HT.sIx xs.length xs.length hi - HT.sIx xs.length 0 lo), IsTup.new _ _⟩

/-! ### t < u, t + u -/
def rLtT (K : PySem.W.Frag) : R2 := fun x y H Q => ∃ a b ns ms, x = .ref a ∧ y = .ref b ∧ SqT K H a (ns.map V.int) ∧ SqT K H b (ms.map V.int) ∧ Q (.bl (HT.lexLt ns ms)) H
theorem op_ltT (hu : X.A.units < cLine) : OpR X (compareOp .Lt) (rLtT X.K) := by
  intro pins s σ H x y v u Q I rx ry h
  obtain ⟨a, b, ns, ms, rfl, rfl, ha, hb, q⟩ := h
  cases rx
  cases ry
  obtain ⟨its, r1, p1, _⟩ := I.tuple ha
  obtain ⟨its2, r2, p2, _⟩ := I.tuple hb
  have i1 : IntsAre its.toArray.toList ns := intsAre_of r1
  have i2 : IntsAre its2.toArray.toList ms := intsAre_of r2
  exact HT.lt_tupInts p1 p2 i1 i2 hu ⟨.bl (HT.lexLt ns ms), H, I, rfl, q⟩
/-- t + u, t not empty: u empty gives t itself -/
def rCatT (K : PySem.W.Frag) : R2 := fun x y H Q => ∃ a b xs ys, x = .ref a ∧ y = .ref b ∧ SqT K H a xs ∧ SqT K H b ys ∧ xs ≠ [] ∧ xs.length + ys.length ≤ sizeLine ∧
  (ys = [] → Q (.ref a) H) ∧ (ys ≠ [] → ∀ p, H p = none → Q (.ref p) (upd H p (.tup (xs ++ ys))))
theorem Vals.nil_iff {xs : List V} {us : List Value} (r : Vals xs us) : us = [] ↔ xs = [] := by
  cases r with
  | nil => simp
  | cons _ _ => simp
theorem op_catT : OpR X (binaryOp .Add) (rCatT X.K) := by
  intro pins s σ H x y v u Q I rx ry h
  obtain ⟨a, b, xs, ys, rfl, rfl, ha, hb, hx, hz, q1, q2⟩ := h
  cases rx
  cases ry
  obtain ⟨its, r1, p1, _⟩ := I.tuple ha
  obtain ⟨its2, r2, p2, _⟩ := I.tuple hb
  refine HT.cat_tup p1 p2 (fun z => hx (r1.nil_iff.mp z)) (fun z => ⟨.ref a, H, I, rfl, q1 (r2.nil_iff.mp z)⟩) (fun z => ?_) (by rw [← r1.length, ← r2.length]; exact hz)
  refine ⟨.ref s.heap.objs.size, _, I.laid (t' := s.toks) (o := .tup (xs ++ ys)) (fun b ob q => Heap.get?_push_of_some _ q) (Nat.le_refl _) ?_, rfl, q2 (fun w => z (r2.nil_iff.mpr w)) _ (I.hok.fresh (Nat.le_refl _))⟩
  exact ⟨by rw [List.length_append]; exact hz, _, r1.append r2, IsTup.new _ _⟩
/-- tuple(t) -/
theorem call_tupleT : CallR X (.type "tuple") (fun xs H Q => ∃ a ys, xs = [.ref a] ∧ SqT X.K H a ys ∧ Q (.ref a) H) := by
  intro pins s σ H xs us Q I r h
  obtain ⟨a, ys, rfl, ha, q⟩ := h
  obtain ⟨u, rfl, ru⟩ := vals1 r
  cases ru
  obtain ⟨its, _, p1, _⟩ := I.tuple ha
  exact call_tuple_same (items := its.toArray) p1 ⟨.ref a, H, I, rfl, q⟩
end
end L2

namespace L2
open PySem PySem.Spec PyProof.Rows

/-! ### places -/
/-- the place that an index of any sign means -/
def ixN (n : Nat) (i : Int) : Option Nat := if 0 ≤ i then (if i < n then some i.toNat else none) else if -(n : Int) ≤ i then some (i + n).toNat else none
def atI {α : Type} (xs : List α) (i : Int) : Option α := (ixN xs.length i).bind fun j => xs[j]?
theorem ixN_seq {n : Nat} {i : Int} {j : Nat} (h : ixN n i = some j) : seqIndex? i n = some j ∧ j < n ∧ -(n : Int) ≤ i ∧ i < n := by
  unfold ixN at h
  by_cases h0 : 0 ≤ i
  · rw [if_pos h0] at h
    by_cases h1 : i < n
    · rw [if_pos h1] at h
      have e : i.toNat = j := Option.some.inj h
      exact ⟨by rw [seqIndex_of h0 h1, e], by omega, by omega, h1⟩
    · rw [if_neg h1] at h; cases h
  · rw [if_neg h0] at h
    by_cases h1 : -(n : Int) ≤ i
    · rw [if_pos h1] at h
      have e : (i + n).toNat = j := Option.some.inj h
      exact ⟨by rw [seqIndex_neg (by omega) h1, e], by omega, h1, by omega⟩
    · rw [if_neg h1] at h; cases h
theorem atI_get {α : Type} {xs : List α} {i : Int} {v : α} (h : atI xs i = some v) : ∃ j, seqIndex? i xs.length = some j ∧ xs[j]? = some v ∧ j < xs.length ∧ -(xs.length : Int) ≤ i ∧ i < xs.length := by
  unfold atI at h
  cases e : ixN xs.length i with
  | none => rw [e] at h; cases h
  | some j =>
    rw [e] at h
    obtain ⟨h1, h2, h3, h4⟩ := ixN_seq e
    exact ⟨j, h1, h, h2, h3, h4⟩
theorem atI_nat {α : Type} {xs : List α} {j : Nat} {v : α} (h : xs[j]? = some v) : atI xs (j : Int) = some v := by
  have hj : j < xs.length := (List.getElem?_eq_some_iff.mp h).1
  have e : ixN xs.length (j : Int) = some j := by
    unfold ixN
    rw [if_pos (by omega), if_pos (by omega)]; simp
  unfold atI; rw [e]; exact h
theorem atI_last {α : Type} (xs : List α) (v : α) : atI (xs ++ [v]) (-1) = some v := by
  have hl : (xs ++ [v]).length = xs.length + 1 := by simp
  have e : ixN (xs ++ [v]).length (-1) = some xs.length := by
    unfold ixN
    rw [hl, if_neg (by decide), if_pos (by omega)]
    congr 1
    omega
  unfold atI
  rw [e]
  show (xs ++ [v])[xs.length]? = some v
  simp

/-! ### what may be subscripted -/
/-- what stands as an index of a plain subscript -/
def PlainIx (b : Expr) : Prop := ∀ o i, subscripted b false o i = operate [o, i] (getItem o i)
/-- a subscript by values -/
def IxR (X : Cx) (r : R2) : Prop :=
  ∀ (value slice : Expr) (pins : List (Addr × Obj)) (s : Shared) (σ : St) (H : Hp) (x y : V) (v u : Value) (Q : VK), Inv X pins σ H s → RelV x v → RelV y u → r x y H Q →
    subscripted slice false v u = operate [v, u] (getItem v u) → wpAny (model X.prog X.w) X.A (subscriptTail value slice v u) (EP X pins σ Q) X.xe s
/-- a call of a builtin's method by values: the receiver, the arguments -/
def MtR (X : Cx) (id : String) (r : V → List V → Hp → VK → Prop) : Prop :=
  ∀ (pins : List (Addr × Obj)) (s : Shared) (σ : St) (H : Hp) (x : V) (xs : List V) (v : Value) (us : List Value) (Q : VK), Inv X pins σ H s → RelV x v → Vals xs us → r x xs H Q →
    wpAny (model X.prog X.w) X.A (call (.builtin id) (v :: us)) (EP X pins σ Q) X.xe s
section
variable {X : Cx} {a b : Expr} {ta tb : TE} {pos : Pos}
theorem IxR.or {r r' : R2} (h : IxR X r) (h' : IxR X r') : IxR X (fun x y H Q => r x y H Q ∨ r' x y H Q) := by
  intro value slice pins s σ H x y v u Q I rx ry q hs
  rcases q with q | q
  · exact h value slice pins s σ H x y v u Q I rx ry q hs
  · exact h' value slice pins s σ H x y v u Q I rx ry q hs
theorem MtR.or {id : String} {r r' : V → List V → Hp → VK → Prop} (h : MtR X id r) (h' : MtR X id r') : MtR X id (fun x xs H Q => r x xs H Q ∨ r' x xs H Q) := by
  intro pins s σ H x xs v us Q I rx rs q
  rcases q with q | q
  · exact h pins s σ H x xs v us Q I rx rs q
  · exact h' pins s σ H x xs v us Q I rx rs q
/-- a[b] -/
theorem pe_ix {r : R2} (hr : IxR X r) (ha : PE X a ta) (hb : PE X b tb) (hs : PlainIx b) : PE X (.Subscript a b pos) (tOp r ta tb) := by
  intro pins s σ H Q I h
  exact Subscript_ (binT ha hb I h fun v u s2 x y H2 I2 rx ry q => hr a b pins s2 σ H2 x y v u Q I2 rx ry q (hs _ _))

def rIxL (K : PySem.W.Frag) : R2 := fun x y H Q => ∃ p xs i v, x = .ref p ∧ y = .int i ∧ SqL K H p xs ∧ atI xs i = some v ∧ Q v H
def rIxT (K : PySem.W.Frag) : R2 := fun x y H Q => ∃ p xs i v, x = .ref p ∧ y = .int i ∧ SqT K H p xs ∧ atI xs i = some v ∧ Q v H
def rIxS : R2 := fun x y H Q => ∃ z i c, x = .str z ∧ y = .int i ∧ z.length ≤ sizeLine ∧ atI z.cps.toList i = some c ∧ Q (.str ⟨#[c]⟩) H
theorem ix_list : IxR X (rIxL X.K) := by
  intro value slice pins s σ H x y v u Q I rx ry h hs
  obtain ⟨p, xs, i, z, rfl, rfl, hq, he, q⟩ := h
  cases rx
  obtain ⟨t, rfl⟩ := ry
  obtain ⟨its, r, pl, hz⟩ := I.list hq
  obtain ⟨j, h1, h2, h3, h4, h5⟩ := atI_get he
  obtain ⟨w, ew, rw'⟩ := r.get h2
  have hl := r.length
  have hn := line63
  have fin : EP X pins σ Q w s := ⟨z, H, I, rw', q⟩
  by_cases h0 : 0 ≤ i
  · have hj : i.toNat = j := by
      rw [seqIndex_of h0 h5] at h1
      exact Option.some.inj h1
    exact item_listR pl.isList h0 (by omega) (by rw [hj]; simpa using ew) fin hs
  · have hj : (i + (its.toArray.size : Int)).toNat = j := by
      rw [seqIndex_neg (by omega) h4] at h1
      rw [List.size_toArray, ← hl]
      exact Option.some.inj h1
    exact subscriptTail_builtinR (x := w) pl.isList.typeIs slot_list_getitem.lookup
      (wpAny_getItem_list_neg (Q := fun r s' => r = w ∧ EP X pins σ Q r s') pl.isList (by omega) (by rw [List.size_toArray] <;> omega) (by omega) (by rw [hj]; simpa using ew) ⟨rfl, fin⟩) hs
theorem ix_tup : IxR X (rIxT X.K) := by
  intro value slice pins s σ H x y v u Q I rx ry h hs
  obtain ⟨p, xs, i, z, rfl, rfl, hq, he, q⟩ := h
  cases rx
  obtain ⟨t, rfl⟩ := ry
  obtain ⟨its, r, pl, hz⟩ := I.tuple hq
  obtain ⟨j, h1, h2, h3, h4, h5⟩ := atI_get he
  obtain ⟨w, ew, rw'⟩ := r.get h2
  have hl := r.length
  have hn := line63
  have fin : EP X pins σ Q w s := ⟨z, H, I, rw', q⟩
  exact subscriptTail_builtinR (x := w) pl.typeIs slot_tuple_getitem.lookup
    (getItem_tuple (j := j) (Q := fun r s' => r = w ∧ EP X pins σ Q r s') pl (by omega) (by omega) (by rw [List.size_toArray, ← hl]; exact h1) (by simpa using ew) ⟨rfl, fin⟩) hs
theorem ix_str : IxR X rIxS := by
  intro value slice pins s σ H x y v u Q I rx ry h hs
  obtain ⟨z, i, c, rfl, rfl, hz, he, q⟩ := h
  obtain ⟨t, rfl⟩ := rx
  obtain ⟨t', rfl⟩ := ry
  obtain ⟨j, h1, h2, h3, h4, h5⟩ := atI_get he
  have hl : z.cps.toList.length = z.length := by simp [Str.length]
  rw [hl] at h1 h4 h5
  have hn := line63
  exact tail_any (typeIs_str s z t) slot_str_getitem.lookup (getItem_str (c := c) (by
    have e1 : decide (i < -(2 ^ 63 : Int)) = false := decide_eq_false (by omega)
    have e2 : decide (i ≥ 2 ^ 63) = false := decide_eq_false (by omega)
    rw [e1, e2, Bool.or_false]) (by rw [h1]; simpa using h2) ⟨.str ⟨#[c]⟩, H, I.tok _, ⟨_, rfl⟩, q⟩) hs
/-- list, tuple or str -/
def rIx (K : PySem.W.Frag) : R2 := fun x y H Q => rIxL K x y H Q ∨ rIxT K x y H Q ∨ rIxS x y H Q
theorem ix_seq : IxR X (rIx X.K) := ix_list.or (ix_tup.or ix_str)

/-! ### xs[i] = v, any sign -/
/-- the list's object behind a store -/
theorem mapSeq_set (its : List Value) (n j : Nat) (u : Value) : Obj.mapSeq (·.setIfInBounds j u) { cls := .type "list", data := .seq its.toArray n } = { cls := .type "list", data := .seq (its.set j u).toArray n } := by
  simp [Obj.mapSeq]
theorem Inv.lst {pins : List (Addr × Obj)} {σ : St} {H : Hp} {s : Shared} {p : Addr} {xs : List V} (I : Inv X pins σ H s) (h : H p = some (.lst xs)) :
    ∃ (its : List Value) (n : Nat), Vals xs its ∧ s.heap.get? p = some { cls := .type "list", data := .seq its.toArray n } ∧ xs.length ≤ sizeLine := by
  obtain ⟨z, its, n, r, e⟩ := I.hok p _ h
  exact ⟨its, n, r, e, z⟩
/-- the list at p is written by an update of its object -/
theorem Inv.lstUpd {pins : List (Addr × Obj)} {σ : St} {H : Hp} {s : Shared} {p : Addr} {xs ys : List V} {its its' : List Value} {n n' : Nat} {f : Obj → Obj} (I : Inv X pins σ H s) (h : H p = some (.lst xs))
    (ho : s.heap.get? p = some { cls := .type "list", data := .seq its.toArray n }) (hf : f { cls := .type "list", data := .seq its.toArray n } = { cls := .type "list", data := .seq its'.toArray n' }) (r : Vals ys its') (hz : ys.length ≤ sizeLine) (t : Nat) :
    Inv X pins σ (upd H p (.lst ys)) { s with heap := s.heap.update p f, toks := t } := by
  have e : (s.heap.update p f).get? p = some { cls := .type "list", data := .seq its'.toArray n' } := by
    rw [Heap.get?_update_self f ho (by rw [hf] <;> rfl), hf]
  refine I.write (x := p) (e := p) (by rw [h]; trivial) (.inl rfl) (fun b u hb q => (Heap.get?_update_other _ _ (Ne.symm hb)).trans q) ⟨_, e⟩ ?_
  exact ⟨hz, its', n', r, e⟩
def rSetL : V → V → V → Hp → (Hp → Prop) → Prop := fun o i v H Q => ∃ p xs k j, o = .ref p ∧ i = .int k ∧ H p = some (.lst xs) ∧ ixN xs.length k = some j ∧ Q (upd H p (.lst (xs.set j v)))
theorem set_list : PSet X rSetL := by
  intro pins s σ H o i v ov iv u Q I ro ri rv h
  obtain ⟨p, xs, k, j, rfl, rfl, hp, hj, q⟩ := h
  cases ro
  obtain ⟨t, rfl⟩ := ri
  obtain ⟨its, n, r, ho, hz⟩ := I.lst hp
  obtain ⟨h1, h2, h3, h4⟩ := ixN_seq hj
  have hl := r.length
  have hn := line63
  have I' : Inv X pins σ (upd H p (.lst (xs.set j v))) { s with heap := s.heap.update p (Obj.mapSeq (·.setIfInBounds j u)) } :=
    I.lstUpd hp ho (mapSeq_set its n j u) (r.set rv j) (by rw [List.length_set]; exact hz) s.toks
  by_cases h0 : 0 ≤ k
  · have hk : k.toNat = j := by
      rw [seqIndex_of h0 h4] at h1
      exact Option.some.inj h1
    exact PySem.W.ki_setAt ho h0 (by omega) (by rw [List.size_toArray, ← hl]; exact h4) (by rw [hk]; exact ⟨_, I', q⟩)
  · have hk : (k + (its.toArray.size : Int)).toNat = j := by
      rw [seqIndex_neg (by omega) h3] at h1
      rw [List.size_toArray, ← hl]
      exact Option.some.inj h1
    exact PySem.W.ki_setBack ho (by omega) (by rw [List.size_toArray, ← hl]; exact h3) (by omega) (by rw [hk]; exact ⟨_, I', q⟩)

/-! ### slices -/
theorem slice_bounds (lo hi : Option Int) (n : Nat) : (sliceBounds lo hi none n).1 = ((HT.sIx n 0 lo : Nat) : Int) ∧ (sliceBounds lo hi none n).2.1 = ((HT.sIx n n hi : Nat) : Int) ∧ (sliceBounds lo hi none n).2.2 = 1 := by
  refine ⟨?_, ?_, rfl⟩
  · cases lo with
    | none => simp [sliceBounds, HT.sIx]
    | some i =>
      simp only [sliceBounds, HT.sIx, Option.getD_none, show (1 : Int) > 0 by decide, if_true]
      by_cases h : i < 0
      · simp only [h, if_true] <;> omega
      · simp only [h, if_false] <;> omega
  · cases hi with
    | none => simp [sliceBounds, HT.sIx]
    | some i =>
      simp only [sliceBounds, HT.sIx, Option.getD_none, show (1 : Int) > 0 by decide, if_true]
      by_cases h : i < 0
      · simp only [h, if_true] <;> omega
      · simp only [h, if_false] <;> omega
theorem slicePick_cut (its : List Value) (lo hi : Option Int) : slicePick its.toArray lo hi none = ((its.drop (HT.sIx its.length 0 lo)).take (HT.sIx its.length its.length hi - HT.sIx its.length 0 lo)).toArray := by
  obtain ⟨h1, h2, h3⟩ := slice_bounds lo hi its.toArray.size
  unfold slicePick
  rw [h1, h2, h3]
  simp only [sliceRange_one, pick_run, List.size_toArray] <;> rfl
/-- xs[lo:hi] of a list: a new list -/
def rSlL (K : PySem.W.Frag) : V → Option Int → Option Int → Hp → VK → Prop := fun x lo hi H Q => ∃ a xs, x = .ref a ∧ SqL K H a xs ∧ ∀ p, H p = none → Q (.ref p) (upd H p (.lst (cutV xs lo hi)))
theorem sl_list : SlR X (rSlL X.K) := by
  intro pins s σ H x v vl vu lo hi sl Q I rx hs pl pu h
  obtain ⟨a, xs, rfl, hx, q⟩ := h
  cases rx
  obtain ⟨its, r, ht, hz⟩ := I.list hx
  have hlen := r.length
  refine ⟨"list", _, slot_list_getitem.lookup, ht.isList.typeIs, ?_⟩
  refine wpAny_getItem_list_slice ht.isList hs pl pu .none (by simp) ?_ (by rw [List.size_toArray] <;> omega)
  rw [slicePick_cut, ← hlen]
  refine ⟨.ref s.heap.objs.size, _, I.laid (t' := s.toks) (o := .lst (cutV xs lo hi)) (fun b ob q => Heap.get?_push_of_some _ q) (Nat.le_refl _) ?_, rfl, q _ (I.hok.fresh (Nat.le_refl _))⟩
  exact ⟨Nat.le_trans (cutV_length xs lo hi) hz, _, 0, (r.drop (HT.sIx xs.length 0 lo)).take (HT.sIx xs.length xs.length hi - HT.sIx xs.length 0 lo), Heap.get?_push_size _ rfl⟩

/-! ### in, not in: flat items -/
def flatV : V → Bool
  | .non => true
  | .bl _ => true
  | .int _ => true
  | .str _ => true
  | _ => false
/-- == of flat values -/
def eqV : V → V → Bool
  | .non, .non => true
  | .bl a, .bl b => a == b
  | .bl a, .int b => (if a then 1 else 0) == b
  | .int a, .bl b => a == (if b then 1 else 0)
  | .int a, .int b => a == b
  | .str a, .str b => a == b
  | _, _ => false
theorem eqAt_V {A : Around} {s : Shared} {y x : V} {u v : Value} (ry : RelV y u) (rx : RelV x v) (fy : flatV y = true) (fx : flatV x = true) : SeqAt.EqAt A s u v (eqV y x) := by
  cases y with
  | non =>
    cases ry
    cases x with
    | non => cases rx; exact SeqAt.EqAt.same _
    | bl b => cases rx; exact SeqAt.EqAt.none_bool b
    | int b => obtain ⟨t, rfl⟩ := rx; exact SeqAt.EqAt.none_int b t
    | str b => obtain ⟨t, rfl⟩ := rx; exact SeqAt.EqAt.none_str b t
    | _ => exact absurd (show false = true from fx) Bool.false_ne_true
  | bl a =>
    cases ry
    cases x with
    | non => cases rx; exact SeqAt.EqAt.bool_none a
    | bl b => cases rx; exact SeqAt.EqAt.bool_bool a b
    | int b => obtain ⟨t, rfl⟩ := rx; exact SeqAt.EqAt.bool_int a b t
    | str b => obtain ⟨t, rfl⟩ := rx; exact SeqAt.EqAt.bool_str a b t
    | _ => exact absurd (show false = true from fx) Bool.false_ne_true
  | int a =>
    obtain ⟨t', rfl⟩ := ry
    cases x with
    | non => cases rx; exact SeqAt.EqAt.int_none a t'
    | bl b => cases rx; exact SeqAt.EqAt.int_bool a t' b
    | int b => obtain ⟨t, rfl⟩ := rx; exact SeqAt.EqAt.int_int a t' b t
    | str b => obtain ⟨t, rfl⟩ := rx; exact SeqAt.EqAt.int_str a t' b t
    | _ => exact absurd (show false = true from fx) Bool.false_ne_true
  | str a =>
    obtain ⟨t', rfl⟩ := ry
    cases x with
    | non => cases rx; exact SeqAt.EqAt.str_none a t'
    | bl b => cases rx; exact SeqAt.EqAt.str_bool a t' b
    | int b => obtain ⟨t, rfl⟩ := rx; exact SeqAt.EqAt.str_int a t' b t
    | str b => obtain ⟨t, rfl⟩ := rx; exact SeqAt.EqAt.str_str a t' b t
    | _ => exact absurd (show false = true from fx) Bool.false_ne_true
  | _ => exact absurd (show false = true from fy) Bool.false_ne_true
/-- the items' answers, read off the values (a value's own answer does not lean on its token) -/
def eqU (x : V) (u : Value) : Bool := match u with
  | .none => eqV .non x
  | .bool b => eqV (.bl b) x
  | .int i _ => eqV (.int i) x
  | .str z _ => eqV (.str z) x
  | _ => false
theorem eqU_of {x y : V} {u : Value} (r : RelV y u) (f : flatV y = true) : eqU x u = eqV y x := by
  cases y with
  | non => cases r; rfl
  | bl b => cases r; rfl
  | int i => obtain ⟨t, rfl⟩ := r; rfl
  | str z => obtain ⟨t, rfl⟩ := r; rfl
  | _ => exact absurd (show false = true from f) Bool.false_ne_true
theorem any_eqU {x : V} : ∀ {xs : List V} {us : List Value}, Vals xs us → xs.all flatV = true → us.any (eqU x) = xs.any fun y => eqV y x
  | _, _, .nil, _ => rfl
  | y :: xs, u :: us, .cons r t, f => by
    rw [List.all_cons, Bool.and_eq_true] at f
    rw [List.any_cons, List.any_cons, eqU_of r f.1, any_eqU t f.2]
theorem mem_eqAt {A : Around} {s : Shared} {x : V} {v : Value} (rx : RelV x v) (fx : flatV x = true) : ∀ {xs : List V} {us : List Value}, Vals xs us → xs.all flatV = true → ∀ u ∈ us, SeqAt.EqAt A s u v (eqU x u)
  | _, _, .nil, _ => fun u hu => by cases hu
  | y :: xs, u :: us, .cons r t, f => fun u' hu => by
    rw [List.all_cons, Bool.and_eq_true] at f
    rcases List.mem_cons.mp hu with rfl | hu
    · rw [eqU_of r f.1]; exact eqAt_V r rx f.1 fx
    · exact mem_eqAt rx fx t f.2 u' hu
def inV (x : V) (xs : List V) : Bool := xs.any fun y => eqV y x
/-- x in a list or tuple of flat items -/
def rIn (K : PySem.W.Frag) (neg : Bool) : R2 := fun x y H Q => ∃ p xs, y = .ref p ∧ (SqL K H p xs ∨ SqT K H p xs) ∧ flatV x = true ∧ xs.all flatV = true ∧ Q (.bl (if neg then !inV x xs else inV x xs)) H
theorem op_in_seq : OpR X (compareOp .In) (rIn X.K false) := by
  intro pins s σ H x y v u Q I rx ry h
  obtain ⟨p, xs, rfl, hq, fx, fs, q⟩ := h
  cases ry
  rcases hq with hq | hq
  · obtain ⟨its, r, pl, hz⟩ := I.list hq
    refine SeqAt.in_listAt (eqU x) pl.isList (fun w hw => mem_eqAt rx fx r fs w (by simpa using hw)) ⟨.bl _, H, I, rfl, ?_⟩
    rw [show its.toArray.any (eqU x) = its.any (eqU x) by simp, any_eqU r fs]
    exact q
  · obtain ⟨its, r, pl, hz⟩ := I.tuple hq
    refine SeqAt.in_tupleAt (eqU x) pl (fun w hw => mem_eqAt rx fx r fs w (by simpa using hw)) ⟨.bl _, H, I, rfl, ?_⟩
    rw [show its.toArray.any (eqU x) = its.any (eqU x) by simp, any_eqU r fs]
    exact q
theorem op_notIn_seq : OpR X (compareOp .NotIn) (rIn X.K true) := by
  intro pins s σ H x y v u Q I rx ry h
  obtain ⟨p, xs, rfl, hq, fx, fs, q⟩ := h
  cases ry
  rcases hq with hq | hq
  · obtain ⟨its, r, pl, hz⟩ := I.list hq
    refine SeqAt.notIn_listAt (eqU x) pl.isList (fun w hw => mem_eqAt rx fx r fs w (by simpa using hw)) ⟨.bl _, H, I, rfl, ?_⟩
    rw [show its.toArray.any (eqU x) = its.any (eqU x) by simp, any_eqU r fs]
    exact q
  · obtain ⟨its, r, pl, hz⟩ := I.tuple hq
    refine SeqAt.notIn_tupleAt (eqU x) pl (fun w hw => mem_eqAt rx fx r fs w (by simpa using hw)) ⟨.bl _, H, I, rfl, ?_⟩
    rw [show its.toArray.any (eqU x) = its.any (eqU x) by simp, any_eqU r fs]
    exact q
theorem op_notIn_str : OpR X (compareOp .NotIn) (fun x y H Q => ∃ i j, x = .str i ∧ y = .str j ∧ Q (.bl (!(!(Builtin.Str.occurrences j i 0 j.length 1).isEmpty))) H) := by
  intro pins s σ H x y v u Q I rx ry h
  obtain ⟨i, j, rfl, rfl, q⟩ := h
  obtain ⟨t, rfl⟩ := rx
  obtain ⟨t', rfl⟩ := ry
  exact notIn_str ⟨.bl _, H, I, rfl, q⟩

/-! ### len, list(x), tuple(x) of any list or tuple that is read -/
theorem call_len_seq : CallR X (.builtin "len") (fun xs H Q => ∃ p ys, xs = [.ref p] ∧ (SqL X.K H p ys ∨ SqT X.K H p ys) ∧ Q (.int ys.length) H) := by
  intro pins s σ H xs us Q I r h
  obtain ⟨p, ys, rfl, hq, q⟩ := h
  obtain ⟨u, rfl, rx⟩ := vals1 r
  cases rx
  have hn := line63
  rcases hq with hq | hq
  · obtain ⟨its, r', pl, hz⟩ := I.list hq
    have hlen := r'.length
    exact Calls.call_len_list pl.isList (by simp only [List.size_toArray] <;> omega) ⟨.int ys.length, H, I.tok _, ⟨s.toks + 1, by rw [List.size_toArray, hlen]⟩, q⟩
  · obtain ⟨its, r', pl, hz⟩ := I.tuple hq
    have hlen := r'.length
    exact len_tuple pl (by simp only [List.size_toArray] <;> omega) ⟨.int ys.length, H, I.tok _, ⟨s.toks + 1, by rw [List.size_toArray, hlen]⟩, q⟩
theorem call_len_str : CallR X (.builtin "len") (fun xs H Q => ∃ z, xs = [.str z] ∧ z.length ≤ sizeLine ∧ Q (.int z.length) H) := by
  intro pins s σ H xs us Q I r h
  obtain ⟨z, rfl, hz, q⟩ := h
  obtain ⟨u, rfl, t, rfl⟩ := vals1 r
  have hn := line63
  exact len_str (by omega) ⟨.int z.length, H, I.tok _, ⟨_, rfl⟩, q⟩
theorem CallR.or {f : Value} {r r' : List V → Hp → VK → Prop} (h : CallR X f r) (h' : CallR X f r') : CallR X f (fun xs H Q => r xs H Q ∨ r' xs H Q) := by
  intro pins s σ H xs us Q I rs q
  rcases q with q | q
  · exact h pins s σ H xs us Q I rs q
  · exact h' pins s σ H xs us Q I rs q
theorem call_list_of : CallR X (.type "list") (fun xs H Q => ∃ p ys, xs = [.ref p] ∧ (SqL X.K H p ys ∨ SqT X.K H p ys) ∧ ∀ l, H l = none → Q (.ref l) (upd H l (.lst ys))) := by
  intro pins s σ H xs us Q I r h
  obtain ⟨p, ys, rfl, hq, q⟩ := h
  obtain ⟨u, rfl, rx⟩ := vals1 r
  cases rx
  have fin : ∀ (its : List Value), Vals ys its → ys.length ≤ sizeLine → ∀ (h' : Heap) (c' : Nat), (∀ b o', s.heap.get? b = some o' → h'.get? b = some o') →
      h'.get? s.heap.objs.size = some { cls := .type "list", dict := none, data := .seq its.toArray c', slots := #[] } → EP X pins σ Q (.ref s.heap.objs.size) { s with heap := h' } := fun its r' hz h' c' kp e =>
    ⟨.ref s.heap.objs.size, _, I.laid (t' := s.toks) kp (Nat.le_refl _) (show ObjOk X.prog X.w _ h' _ (.lst ys) from ⟨hz, its, c', r', e⟩), rfl, q _ (I.hok.fresh (Nat.le_refl _))⟩
  rcases hq with hq | hq
  · obtain ⟨its, r', pl, hz⟩ := I.list hq
    have hlen := r'.length
    obtain ⟨o, ho, hc, n, hd⟩ := pl.isList
    exact call_list_seq p (.inl rfl) ho hc hd (fun h' c' kp e => fin its r' hz h' c' kp e) (by simp only [List.size_toArray] <;> omega)
  · obtain ⟨its, r', pl, hz⟩ := I.tuple hq
    have hlen := r'.length
    obtain ⟨o, ho, hc, n, hd⟩ := pl
    exact call_list_seq p (.inr rfl) ho hc hd (fun h' c' kp e => fin its r' hz h' c' kp e) (by simp only [List.size_toArray] <;> omega)
theorem call_tuple_of : CallR X (.type "tuple") (fun xs H Q => ∃ p ys, xs = [.ref p] ∧ ((SqL X.K H p ys ∧ ∀ l, H l = none → Q (.ref l) (upd H l (.tup ys))) ∨ (SqT X.K H p ys ∧ Q (.ref p) H))) := by
  intro pins s σ H xs us Q I r h
  obtain ⟨p, ys, rfl, h⟩ := h
  obtain ⟨u, rfl, rx⟩ := vals1 r
  cases rx
  rcases h with ⟨hq, q⟩ | ⟨hq, q⟩
  · obtain ⟨its, r', pl, hz⟩ := I.list hq
    have hlen := r'.length
    refine call_tuple_list pl.isList (fun h' kp => ?_) (by simp only [List.size_toArray] <;> omega)
    have I1 : Inv X pins σ H { s with heap := h' } := I.kept (t' := s.toks) kp
    have I2 : Inv X pins σ (upd H h'.objs.size (.tup ys)) { s with heap := h'.push { cls := .type "tuple", data := .seq its.toArray } } :=
      I1.laid (t' := s.toks) (fun b o e => Heap.get?_push_of_some _ e) (Nat.le_refl _) (show ObjOk X.prog X.w _ _ _ (.tup ys) from ⟨hz, its, r', IsTup.new _ _⟩)
    exact ⟨.ref h'.objs.size, _, I2, rfl, q _ (I1.hok.fresh (Nat.le_refl _))⟩
  · obtain ⟨its, r', pl, hz⟩ := I.tuple hq
    exact call_tuple_same pl ⟨.ref p, H, I, rfl, q⟩

/-! ### the call of a builtin's method: o.m(..) -/
/-- the value is of that builtin type -/
def tyV (K : PySem.W.Frag) (T : String) (x : V) (H : Hp) : Prop := match x with
  | .str _ => T = "str"
  | .int _ => T = "int"
  | .ref p => (T = "list" ∧ ∃ xs, SqL K H p xs) ∨ (T = "tuple" ∧ ∃ o, K.lookup p = some o ∧ o.cls = .type "tuple" ∧ o.dict = none) ∨
      (T = "dict" ∧ ((∃ kvs, H p = some (.dK kvs)) ∨ ∃ kvs, H p = some (.dT kvs))) ∨ (T = "set" ∧ ∃ S n, H p = some (.set S n))
  | _ => False
theorem tyV_is {pins : List (Addr × Obj)} {σ : St} {H : Hp} {s : Shared} {T : String} {x : V} {v : Value} (I : Inv X pins σ H s) (r : RelV x v) (ty : tyV X.K T x H) :
    s.TypeIs v T ∧ ∀ a, v = .ref a → ∃ ob, s.heap.get? a = some ob ∧ ob.dict = none := by
  cases x with
  | str z =>
    obtain ⟨t, rfl⟩ := r
    cases (show T = "str" from ty)
    exact ⟨typeIs_str s z t, fun _ e => nomatch e⟩
  | int i =>
    obtain ⟨t, rfl⟩ := r
    cases (show T = "int" from ty)
    exact ⟨typeIs_int s i t, fun _ e => nomatch e⟩
  | ref p =>
    cases r
    rcases ty with ⟨rfl, xs, hq⟩ | ⟨rfl, o, hk, hc, hd⟩ | ⟨rfl, hk⟩ | ⟨rfl, S, n, hk⟩
    · obtain ⟨its, _, pl, _⟩ := I.list hq
      refine ⟨pl.isList.typeIs, fun a e => ?_⟩
      cases e
      obtain ⟨o, n, e, c, hd, _⟩ := pl
      exact ⟨o, e, hd⟩
    · refine ⟨⟨o, I.kIn p o hk, hc⟩, fun a e => ?_⟩
      cases e
      exact ⟨o, I.kIn _ o hk, hd⟩
    · have z : ∃ o, s.heap.get? p = some o ∧ o.ExactDict := by
        rcases hk with ⟨kvs, hk⟩ | ⟨kvs, hk⟩
        · obtain ⟨_, _, _, _, o, _, _, e, ex, _⟩ := I.hok p _ hk
          exact ⟨o, e, ex⟩
        · obtain ⟨_, _, _, _, o, _, _, e, ex, _⟩ := I.hok p _ hk
          exact ⟨o, e, ex⟩
      obtain ⟨o, e, ex⟩ := z
      refine ⟨⟨o, e, ex.1⟩, fun a e2 => ?_⟩
      cases e2
      exact ⟨o, e, ex.2.1⟩
    · obtain ⟨o, _, _, _, e, ex, _⟩ := I.hok p _ hk
      refine ⟨⟨o, e, ex.1⟩, fun a e2 => ?_⟩
      cases e2
      exact ⟨o, e, ex.2.1⟩
  | _ => exact False.elim ty
def tBM0 (K : PySem.W.Frag) (T : String) (r : V → List V → Hp → VK → Prop) (to : TE) : TE := fun σ H Q => to σ H fun x H1 => tyV K T x H1 ∧ r x [] H1 Q
def tBM (K : PySem.W.Frag) (T : String) (r : V → List V → Hp → VK → Prop) (to : TE) (t : TA) : TE := fun σ H Q => to σ H fun x H1 => tyV K T x H1 ∧ t σ H1 fun xs H2 => r x xs H2 Q
variable {o e : Expr} {es : List Expr} {to : TE} {t : TA} {name : Str} {apos cpos : Pos} {T id : String} {r : V → List V → Hp → VK → Prop}
theorem pe_bm0 (pa : PlainAttrs T) (slot : Slot T name id) (hty : typeOf (.builtin id) = pure (.type "method_descriptor")) (hm : MtR X id r) (ho : PE X o to)
    (hbase : attributeBase o name X.env (eval o X.env) = eval o X.env := by rfl) (hline : (apos.endLine == cpos.line) = true := by rfl) : PE X (.Call (.Attribute o name apos) [] [] cpos) (tBM0 X.K T r to) := by
  intro pins s σ H Q I h
  refine wpAny_Call_method0_late hbase hline (thn (ho pins s σ H _ I h) fun v s1 ⟨x, H1, I1, r1, ty, q1⟩ => ?_)
  obtain ⟨h1, h2⟩ := tyV_is I1 r1 ty
  exact ⟨T, id, pa, slot, hty, h1, h2, Calls.callWith_builtin rfl (PySem.evalArgs_none (hm pins s1 σ H1 x [] v [] Q I1 r1 .nil q1))⟩
theorem pe_bm (pa : PlainAttrs T) (slot : Slot T name id) (hty : typeOf (.builtin id) = pure (.type "method_descriptor")) (hm : MtR X id r) (ho : PE X o to) (ha : PA X (e :: es) t)
    (hbase : attributeBase o name X.env (eval o X.env) = eval o X.env := by rfl)
    (hfew : ((backTo cpos (starEach (e :: es) X.env)).all (fun x => !x.1) && (backToKw cpos (keywordEach [] X.env)).all (fun x => x.1.isSome)
      && decide ((e :: es).length + ([] : List Keyword).length + (if ([] : List Keyword).isEmpty then 0 else 1) < 30)) = true := by rfl)
    (hline : (apos.endLine == cpos.line) = true := by rfl) (hs : starEach (e :: es) X.env = (false, eval e X.env) :: starEach es X.env := by rfl) (hplain : (backTo cpos (starEach es X.env)).any (·.1) = false := by rfl) :
    PE X (.Call (.Attribute o name apos) (e :: es) [] cpos) (tBM X.K T r to t) := by
  intro pins s σ H Q I h
  refine wpAny_Call_method_late hbase hfew hline rfl (thn (ho pins s σ H _ I h) fun v s1 ⟨x, H1, I1, r1, ty, q1⟩ => ?_)
  obtain ⟨h1, h2⟩ := tyV_is I1 r1 ty
  refine ⟨T, id, pa, slot, hty, h1, h2, ?_⟩
  have hA := ha cpos pins s1 σ H1 _ I1 q1
  rw [hs] at hA ⊢
  refine Calls.callWith_builtin (by show (false || (backTo cpos (starEach es X.env)).any (·.1)) = false; rw [hplain] <;> rfl) (Calls.evalArgs_plain ?_)
  exact thn hA fun us s2 ⟨vs, H2, I2, r2, q2⟩ => hm pins s2 σ H2 x vs v us Q I2 r1 r2 q2
/- xs.append(e), list.index on a module's tuple .. are MtR facts of 06m -/
end
end L2

namespace L2
open PySem PySem.Spec PyProof.Rows

def MtM (X : Cx) (id : String) (r : V → List V → Hp → VK → Prop) : Prop :=
  ∀ (pins : List (Addr × Obj)) (s : Shared) (σ : St) (H : Hp) (x : V) (xs : List V) (v : Value) (us : List Value) (Q : VK), Inv X pins σ H s → RelV x v → Vals xs us → r x xs H Q →
    wpAny (model X.prog X.w) X.A (call (.builtin id) (v :: us)) (EP X pins σ Q) X.xe s

/-! ### lists of values -/
theorem Vals.one : ∀ {x : V} {us : List Value}, Vals [x] us → ∃ u, us = [u] ∧ RelV x u
  | _, _, .cons r .nil => ⟨_, rfl, r⟩
theorem Vals.two : ∀ {x y : V} {us : List Value}, Vals [x, y] us → ∃ u v, us = [u, v] ∧ RelV x u ∧ RelV y v
  | _, _, _, .cons r (.cons q .nil) => ⟨_, _, rfl, r, q⟩
theorem Vals.zero : ∀ {us : List Value}, Vals [] us → us = []
  | _, .nil => rfl
theorem Vals.dropLast {xs : List V} {us : List Value} (h : Vals xs us) : Vals xs.dropLast us.dropLast := by
  induction h with
  | nil => exact .nil
  | cons r t ih =>
    cases t with
    | nil => exact .nil
    | cons q t' => exact .cons r ih
theorem Vals.eraseIdx : ∀ {xs : List V} {us : List Value} (i : Nat), Vals xs us → Vals (xs.eraseIdx i) (us.eraseIdx i)
  | _, _, _, .nil => .nil
  | _, _, 0, .cons _ t => t
  | _, _, i + 1, .cons r t => .cons r (Vals.eraseIdx i t)
theorem Vals.reverse {xs : List V} {us : List Value} (h : Vals xs us) : Vals xs.reverse us.reverse := by
  induction h with
  | nil => exact .nil
  | cons r t ih => rw [List.reverse_cons, List.reverse_cons]; exact Vals.append ih (.cons r .nil)
theorem Vals.rep {xs : List V} {us : List Value} (h : Vals xs us) : ∀ k : Nat, Vals (List.replicate k xs).flatten (List.replicate k us).flatten
  | 0 => .nil
  | k + 1 => by
    rw [List.replicate_succ, List.replicate_succ, List.flatten_cons, List.flatten_cons]
    exact Vals.append h (Vals.rep h k)
theorem erase_last {α : Type} (l : List α) : l.eraseIdx (l.length - 1) = l.dropLast := by
  induction l with
  | nil => rfl
  | cons a r ih =>
    cases r with
    | nil => rfl
    | cons b r =>
      have e : (a :: b :: r).length - 1 = ((b :: r).length - 1) + 1 := by
        have h1 : (a :: b :: r).length = r.length + 2 := rfl
        have h2 : (b :: r).length = r.length + 1 := rfl
        omega
      rw [e, List.eraseIdx_cons_succ, ih]
      all_goals rfl
theorem len_erase {α : Type} : ∀ (l : List α) (i : Nat), (l.eraseIdx i).length ≤ l.length
  | [], _ => Nat.le_refl _
  | _ :: _, 0 => Nat.le_succ _
  | _ :: r, i + 1 => Nat.succ_le_succ (len_erase r i)
theorem foldl_rep (its : List Value) : ∀ (k : Nat) (acc : List Value),
    List.foldl (fun x1 x2 => x1 ++ x2) acc.toArray (List.replicate k its.toArray) = (acc ++ (List.replicate k its).flatten).toArray
  | 0, acc => by simp
  | k + 1, acc => by
    have e : acc.toArray ++ its.toArray = (acc ++ its).toArray := by simp
    have e2 : (acc ++ its) ++ (List.replicate k its).flatten = acc ++ (List.replicate (k + 1) its).flatten := by
      rw [List.replicate_succ, List.flatten_cons, List.append_assoc]
    rw [← e2, ← foldl_rep its k (acc ++ its), ← e, List.replicate_succ, List.foldl_cons]

section
variable {X : Cx} {pins : List (Addr × Obj)} {σ : St} {H : Hp} {s : Shared} {l b : Addr} {xs ys zs : List V}

/-! ### the two steps: a tracked list is rewritten, a new list is laid -/
theorem Inv.lset {its its' : List Value} {n : Nat} {f : Array Value → Array Value} {t' : Nat} (I : Inv X pins σ H s) (hH : H l = some (.lst xs))
    (e : s.heap.get? l = some { cls := .type "list", data := .seq its.toArray n }) (hf : f its.toArray = its'.toArray) (hv : Vals ys its') (hz : ys.length ≤ sizeLine) :
    Inv X pins σ (upd H l (.lst ys)) { s with heap := s.heap.update l (Obj.mapSeq f), toks := t' } := by
  have q := PySem.IsL.update e f
  rw [hf] at q
  refine I.write (x := l) (e := l) (by rw [hH]; exact trivial) (.inl rfl) (fun b' u hb hu => (Heap.get?_update_other s.heap (Obj.mapSeq f) (Ne.symm hb)).trans hu) ⟨_, q⟩ ?_
  exact ⟨hz, its', _, hv, q⟩
theorem Inv.lnew {its : List Value} {t' : Nat} (I : Inv X pins σ H s) (hv : Vals ys its) (hz : ys.length ≤ sizeLine) :
    Inv X pins σ (upd H s.heap.objs.size (.lst ys)) { s with heap := s.heap.push { cls := .type "list", data := .seq its.toArray }, toks := t' } :=
  I.laid (fun _ _ q => Heap.get?_push_of_some _ q) (Nat.le_refl _) ⟨hz, its, 0, hv, Heap.get?_push_size _ rfl⟩
theorem Inv.fresh (I : Inv X pins σ H s) : H s.heap.objs.size = none := I.hok.fresh (Nat.le_refl _)
theorem Inv.lstM (I : Inv X pins σ H s) (hH : H l = some (.lst xs)) : xs.length ≤ sizeLine ∧ ∃ (its : List Value) (n : Nat), Vals xs its ∧ xs.length = its.length ∧ s.heap.get? l = some { cls := .type "list", data := .seq its.toArray n } := by
  obtain ⟨z, its, n, r, e⟩ := I.hok l _ hH
  exact ⟨z, its, n, r, r.length, e⟩

theorem notLongL {n : Nat} (h : n ≤ sizeLine) : Builtin.List.listTooLong n = false := by
  unfold Builtin.List.listTooLong
  exact decide_eq_false (by omega)
end

section
variable {X : Cx}

/-! ### methods -/
def rAppend : V → List V → Hp → VK → Prop := fun x vs H Q => ∃ l xs y, x = .ref l ∧ vs = [y] ∧ H l = some (.lst xs) ∧ xs.length < sizeLine ∧ Q .non (upd H l (.lst (xs ++ [y])))
theorem mt_append : MtM X "list.append" rAppend := by
  intro pins s σ H x vs v us Q I rx rv h
  obtain ⟨l, xs, y, rfl, rfl, hH, hz, q⟩ := h
  cases rx
  obtain ⟨u, rfl, ru⟩ := rv.one
  obtain ⟨z, its, n, r, hl, e⟩ := I.lstM hH
  refine call_meets F.slot_list_append ⟨_, e, rfl⟩ F.entry_list_append (F.args_list_append_2 _ _) (PySem.list_append l its.toArray n u (by rw [List.size_toArray]; omega)) ⟨e, ?_⟩
  refine ⟨.non, _, I.lset (its' := its ++ [u]) hH e (by simp) (r.append (.cons ru .nil)) ?_, rfl, q⟩
  rw [List.length_append, List.length_singleton]
  omega

def rExtend : V → List V → Hp → VK → Prop := fun x vs H Q => ∃ l b xs zs, x = .ref l ∧ vs = [.ref b] ∧ H l = some (.lst xs) ∧ H b = some (.lst zs) ∧ xs.length + zs.length ≤ sizeLine ∧ Q .non (upd H l (.lst (xs ++ zs)))
theorem mt_extend : MtM X "list.extend" rExtend := by
  intro pins s σ H x vs v us Q I rx rv h
  obtain ⟨l, b, xs, zs, rfl, rfl, hH, hB, hz, q⟩ := h
  cases rx
  obtain ⟨u, rfl, ru⟩ := rv.one
  cases ru
  obtain ⟨z, its, n, r, hl, e⟩ := I.lstM hH
  obtain ⟨z2, its2, n2, r2, hl2, e2⟩ := I.lstM hB
  have hsz : its.toArray.size + its2.toArray.size ≤ sizeLine := by rw [List.size_toArray, List.size_toArray]; omega
  have hlong : ¬ (!its.toArray.isEmpty && Builtin.List.listTooLong (its.toArray.size + its2.toArray.size)) = true := by
    rw [notLongL hsz, Bool.and_false]
    exact Bool.false_ne_true
  refine call_meets F.slot_list_extend ⟨_, e, rfl⟩ F.entry_list_extend (F.args_list_extend_2 _ _)
    (AutoSeq1.list_extend_list_list_0 l its.toArray n b its2.toArray n2 hlong (by rw [List.size_toArray]; omega) (by omega)) ⟨e, e2, ?_⟩
  refine ⟨.non, _, I.lset (its' := its ++ its2) hH e (by simp) (r.append r2) ?_, rfl, q⟩
  rw [List.length_append]
  omega

def rPop : V → List V → Hp → VK → Prop := fun x vs H Q => ∃ l xs y, x = .ref l ∧ vs = [] ∧ H l = some (.lst xs) ∧ xs[xs.length - 1]? = some y ∧ Q y (upd H l (.lst xs.dropLast))
theorem mt_pop : MtM X "list.pop" rPop := by
  intro pins s σ H x vs v us Q I rx rv h
  obtain ⟨l, xs, y, rfl, rfl, hH, hy, q⟩ := h
  cases rx
  have hus := rv.zero
  subst hus
  obtain ⟨z, its, n, r, hl, e⟩ := I.lstM hH
  obtain ⟨u, hu, ru⟩ := r.get hy
  have hy' : its.toArray[its.toArray.size - 1]? = some u := by
    show its.toArray[its.length - 1]? = some u
    rw [← Array.getElem?_toList, ← hl]
    exact hu
  refine call_meets F.slot_list_pop ⟨_, e, rfl⟩ F.entry_list_pop (F.args_list_pop_1 _) (MeetsSeq.list_pop_last l its.toArray n u hy' (by rw [List.size_toArray]; omega)) ⟨e, ?_⟩
  refine ⟨y, _, I.lset (its' := its.dropLast) hH e ?_ r.dropLast ?_, ru, q⟩
  · show its.toArray.eraseIdxIfInBounds (its.toArray.size - 1) = its.dropLast.toArray
    rw [List.size_toArray, List.eraseIdxIfInBounds_toArray, erase_last]
  · rw [List.length_dropLast]
    omega

def rPopAt : V → List V → Hp → VK → Prop := fun x vs H Q => ∃ l xs i k y, x = .ref l ∧ vs = [.int i] ∧ H l = some (.lst xs) ∧ -(2 ^ 63) ≤ i ∧ i < 2 ^ 63 ∧ seqIndex? i xs.length = some k ∧ xs[k]? = some y ∧ Q y (upd H l (.lst (xs.eraseIdx k)))
theorem mt_popAt : MtM X "list.pop" rPopAt := by
  intro pins s σ H x vs v us Q I rx rv h
  obtain ⟨l, xs, i, k, y, rfl, rfl, hH, h1, h2, hk, hy, q⟩ := h
  cases rx
  obtain ⟨u, rfl, ru⟩ := rv.one
  obtain ⟨t, rfl⟩ := ru
  obtain ⟨z, its, n, r, hl, e⟩ := I.lstM hH
  obtain ⟨w, hw, rw'⟩ := r.get hy
  refine call_meets F.slot_list_pop ⟨_, e, rfl⟩ F.entry_list_pop (F.args_list_pop_2 _ _)
    (MeetsSeq.list_pop_at l its.toArray n i t k w (fitsIndex_both h1 h2) (by rw [List.size_toArray, ← hl]; exact hk) (by rw [← Array.getElem?_toList]; exact hw) (by rw [List.size_toArray]; omega)) ⟨e, ?_⟩
  refine ⟨y, _, I.lset (its' := its.eraseIdx k) hH e ?_ (r.eraseIdx k) ?_, rw', q⟩
  · show its.toArray.eraseIdxIfInBounds k = (its.eraseIdx k).toArray
    rw [List.eraseIdxIfInBounds_toArray]
  · have := len_erase xs k
    omega

def rReverse : V → List V → Hp → VK → Prop := fun x vs H Q => ∃ l xs, x = .ref l ∧ vs = [] ∧ H l = some (.lst xs) ∧ Q .non (upd H l (.lst xs.reverse))
theorem mt_reverse : MtM X "list.reverse" rReverse := by
  intro pins s σ H x vs v us Q I rx rv h
  obtain ⟨l, xs, rfl, rfl, hH, q⟩ := h
  cases rx
  have hus := rv.zero
  subst hus
  obtain ⟨z, its, n, r, hl, e⟩ := I.lstM hH
  refine call_meets F.slot_list_reverse ⟨_, e, rfl⟩ F.entry_list_reverse (F.args_list_reverse_1 _) (AutoSeq1.list_reverse_list_0 l its.toArray n (by rw [List.size_toArray]; omega)) ⟨e, ?_⟩
  refine ⟨.non, _, I.lset (its' := its.reverse) hH e (by simp) r.reverse ?_, rfl, q⟩
  rw [List.length_reverse]
  omega

def rClear : V → List V → Hp → VK → Prop := fun x vs H Q => ∃ l xs, x = .ref l ∧ vs = [] ∧ H l = some (.lst xs) ∧ Q .non (upd H l (.lst []))
theorem mt_clear : MtM X "list.clear" rClear := by
  intro pins s σ H x vs v us Q I rx rv h
  obtain ⟨l, xs, rfl, rfl, hH, q⟩ := h
  cases rx
  have hus := rv.zero
  subst hus
  obtain ⟨z, its, n, r, hl, e⟩ := I.lstM hH
  refine call_meets F.slot_list_clear ⟨_, e, rfl⟩ F.entry_list_clear (F.args_list_clear_1 _) (AutoSeq1.list_clear_list_0 l its.toArray n (by rw [List.size_toArray]; omega)) ⟨e, ?_⟩
  exact ⟨.non, _, I.lset (its' := []) (ys := []) hH e rfl .nil (Nat.zero_le _), rfl, q⟩

/-! ### list + list, list += list, list * int -/
def rCat : R2 := fun x y H Q => ∃ l b xs zs, x = .ref l ∧ y = .ref b ∧ H l = some (.lst xs) ∧ H b = some (.lst zs) ∧ xs.length + zs.length ≤ sizeLine ∧ ∀ p, H p = none → Q (.ref p) (upd H p (.lst (xs ++ zs)))
theorem op_cat : OpR X (binaryOp .Add) rCat := by
  intro pins s σ H x y v u Q I rx ry h
  obtain ⟨l, b, xs, zs, rfl, rfl, hH, hB, hz, q⟩ := h
  cases rx
  cases ry
  obtain ⟨z, its, n, r, hl, e⟩ := I.lstM hH
  obtain ⟨z2, its2, n2, r2, hl2, e2⟩ := I.lstM hB
  refine PySem.P.add_list e e2 ?_ (by rw [List.size_toArray, List.size_toArray]; omega)
  have ea : its.toArray ++ its2.toArray = (its ++ its2).toArray := by simp
  rw [ea]
  exact ⟨.ref _, _, I.lnew (t' := s.toks) (r.append r2) (by rw [List.length_append]; omega), rfl, q _ I.fresh⟩
/-- a list times an int (a negative one is nothing) -/
def rRep : R2 := fun x y H Q => ∃ l k xs, x = .ref l ∧ y = .int k ∧ H l = some (.lst xs) ∧ -(2 ^ 63) ≤ k ∧ k < 2 ^ 63 ∧ xs.length * k.toNat ≤ sizeLine ∧
  ∀ p, H p = none → Q (.ref p) (upd H p (.lst (List.replicate k.toNat xs).flatten))
theorem len_rep {α : Type} (xs : List α) (k : Nat) : (List.replicate k xs).flatten.length = k * xs.length := by
  induction k with
  | zero => simp
  | succ k ih => rw [List.replicate_succ, List.flatten_cons, List.length_append, ih, Nat.succ_mul, Nat.add_comm]
theorem op_rep : OpR X (binaryOp .Mult) rRep := by
  intro pins s σ H x y v u Q I rx ry h
  obtain ⟨l, k, xs, rfl, rfl, hH, h1, h2, hz, q⟩ := h
  cases rx
  obtain ⟨t, rfl⟩ := ry
  obtain ⟨z, its, n, r, hl, e⟩ := I.lstM hH
  have hlen : its.toArray.size * k.toNat ≤ sizeLine := by rw [List.size_toArray, ← hl]; exact hz
  have hcap : ¬ its.toArray.size * k.toNat > (2 ^ 63 - 1) / 8 := by
    have : (sizeLine : Nat) ≤ (2 ^ 63 - 1) / 8 := by decide
    omega
  have hfit : ¬ (!Builtin.List.listFitsIndex k) = true := by
    rw [fitsIndex_both h1 h2]
    exact Bool.false_ne_true
  have hlong : ¬ Builtin.List.listTooLong (its.toArray.size * k.toNat) = true := by
    rw [notLongL hlen]
    exact Bool.false_ne_true
  have hnew : List.foldl (fun x1 x2 => x1 ++ x2) #[] (List.replicate (if its.toArray.isEmpty = true then 0 else k.toNat) its.toArray) = (List.replicate k.toNat its).flatten.toArray := by
    have f0 : ∀ m : Nat, List.foldl (fun x1 x2 => x1 ++ x2) #[] (List.replicate m its.toArray) = (List.replicate m its).flatten.toArray := fun m => by
      have := foldl_rep its m []
      rw [List.nil_append] at this
      exact this
    rw [f0]
    cases its with
    | nil => simp
    | cons a r' => rw [if_neg (by simp)]
  refine wpAny_binaryOp_repeat_ref (T := "list") (U := "int") (by decide) ⟨_, e, rfl⟩ (fun s' => typeIs_int s' k t) noFill_list_mul F.fills_int_mul F.slot_int_rmul repeat_list F.slot_int_index.lookup
    (call_meets F.slot_int_rmul (typeIs_int s k t) F.entry_int_rmul (F.args_int_rmul_2 _ _) (int___rmul___int_list k t l its.toArray n)
      ⟨e, rfl, ⟨_, e, rfl⟩, call_meets F.slot_list_mul ⟨_, e, rfl⟩ F.entry_list_mul (F.args_list_mul_2 _ _) (AutoListH.list___mul___list_int_3 l its.toArray n k t hfit hcap hlong) ⟨e, ?_⟩⟩)
  rw [hnew]
  exact ⟨.ref _, _, I.lnew (t' := s.toks) (r.rep k.toNat) (by rw [len_rep, Nat.mul_comm]; exact hz), rfl, q _ I.fresh⟩

/-! ### del xs[i] -/
theorem del_list {pins : List (Addr × Obj)} {s : Shared} {σ : St} {H : Hp} {l : Addr} {xs : List V} {i : Int} {t : Tok} {k : Nat} {Q : Unit → Shared → Prop} (I : Inv X pins σ H s) (hH : H l = some (.lst xs))
    (h1 : -(2 ^ 63) ≤ i) (h2 : i < 2 ^ 63) (hk : seqIndex? i xs.length = some k) (h : ∀ s', Inv X pins σ (upd H l (.lst (xs.eraseIdx k))) s' → Q () s') :
    wpAny (model X.prog X.w) X.A (delItem (.ref l) (.int i t)) Q X.xe s := by
  obtain ⟨z, its, n, r, hl, e⟩ := I.lstM hH
  refine PySem.P.delItem_list (k := k) e (fitsIndex_both h1 h2) (by rw [List.size_toArray, ← hl]; exact hk) (h _ ?_) (by rw [List.size_toArray]; omega)
  refine I.lset (its' := its.eraseIdx k) (t' := s.toks) hH e ?_ (r.eraseIdx k) ?_
  · show its.toArray.eraseIdxIfInBounds k = (its.eraseIdx k).toArray
    rw [List.eraseIdxIfInBounds_toArray]
  · have := len_erase xs k
    omega
end

/-! ### xs[a:b] = ys -/
section
variable {prog : Program} {w : World} {A : Around} {E : Value → Shared → Prop} {s : Shared}
theorem splice_eq (its its2 : List Value) (a c : Nat) : its.toArray.extract 0 a ++ its2.toArray ++ its.toArray.extract c its.toArray.size = (its.take a ++ its2 ++ its.drop c).toArray := by
  apply Array.toList_inj.mp
  first
    | (simp
       exact List.take_of_length_le (by simp))
    | simp [List.take_of_length_le]
    | simp
theorem bounds_run {a c n : Nat} (hac : a ≤ c) (hc : c ≤ n) : sliceBounds (some (a : Int)) (some (c : Int)) none n = ((a : Int), (c : Int), 1) := by
  simp only [sliceBounds, Option.getD_none]
  have h1 : ¬ ((a : Int) < 0) := by omega
  have h2 : ¬ ((c : Int) < 0) := by omega
  simp only [h1, h2, if_false, show (1 : Int) > 0 by decide, if_true]
  congr 1
  · omega
  · congr 1; omega
set_option maxRecDepth 100000 in
/-- list.__setitem__ with a slice of step one and another list -/
theorem setItem_slice {l b sl : Addr} {items new : Array Value} {n n2 : Nat} {vl vu : Value} {a c : Nat} {Q : Unit → Shared → Prop}
    (e : s.heap.get? l = some { cls := .type "list", data := .seq items n }) (e2 : s.heap.get? b = some { cls := .type "list", data := .seq new n2 }) (hne : l ≠ b)
    (hs : s.heap.IsSliceOf sl vl vu .none) (pl : IsPart vl (some (a : Int))) (pu : IsPart vu (some (c : Int))) (hac : a ≤ c) (hc : c ≤ items.size)
    (hsz : items.size + new.size ≤ sizeLine) (h : Q () { s with heap := s.heap.update l (Obj.mapSeq fun xs => xs.extract 0 a ++ new ++ xs.extract c xs.size) }) :
    wpAny (model prog w) A (setItem (.ref l) (.ref sl) (.ref b)) Q E s := by
  have hl : s.heap.IsList l items := PySem.IsL.isList e
  have hb : s.heap.IsList b new := PySem.IsL.isList e2
  obtain ⟨os, hos, hcs, hds⟩ := id hs
  have hTs : s.TypeIs (.ref sl) "slice" := ⟨os, hos, hcs⟩
  have hstep : ¬ ((rawPart none == rawInt 0) = true) := Bool.false_ne_true
  have hsame : Builtin.List.listSameRef (.ref l) (.ref b) = false := by
    unfold Builtin.List.listSameRef
    exact beq_eq_false_iff_ne.mpr hne
  have hmax : (max (a : Int) (c : Int)).toNat = c := by omega
  have hz' : ((fun xs : Array Value => xs.extract 0 a ++ new ++ xs.extract c xs.size) items).size ≤ sizeLine + 1 := by
    simp only [Array.size_append, Array.size_extract]
    omega
  unfold setItem
  try with_reducible refine wpAny_holding ?_
  first | refine wpAny_bind (wpAny_pure ?_) | skip
  refine wpAny_bind (wpAny_sequenceKey hl.typeIs (by decide) ?_)
  refine wpAny_bind (wpAny_callSpecial?_slot (name := Str.ofString "__setitem__") hl.typeIs slot_list_setitem
    (wpAny_call_entry slot_list_setitem hl.typeIs entry_list_setitem ?_ (args_list_setitem _ _ _)))
  show wpAny _ _ (Builtin.List.listSubscript? (.ref sl) >>= _) _ _ s
  refine wpAny_bind ?_
  unfold Builtin.List.listSubscript?
  refine wpAny_bind (wpAny_specialOf hTs slice_no_index ?_)
  simp only [Option.isNone_none, if_true]
  refine wpAny_pure ?_
  show wpAny _ _ (typeOf (.ref sl) >>= _) _ _ s
  refine wpAny_bind (wpAny_typeOf hTs ?_)
  first
    | rw [if_neg (by decide)]
    | refine PySem.W.KFB.if_not (by decide) ?_
  rw [listSliceParts_eq]
  refine wpAny_bind (wpAny_bind (wpAny_field hos hds (x := .none) rfl (wpAny_bind (wpAny_listPart .none ?_))))
  rw [if_neg hstep]
  refine wpAny_bind (wpAny_field hos hds (x := vl) rfl (wpAny_bind (wpAny_listPart pl ?_)))
  refine wpAny_bind (wpAny_field hos hds (x := vu) rfl (wpAny_bind (wpAny_listPart pu (wpAny_pure ?_))))
  first
    | simp only [hsame, Bool.false_eq_true, if_false]
    | refine PySem.W.KFB.if_not hsame ?_
    | (dsimp only
       rw [if_neg (by rw [hsame]; exact Bool.false_ne_true)])
  refine wpAny_bind (m := Builtin.List.listAllItems (.ref b) "must assign iterable to extended slice") ?_
  unfold Builtin.List.listAllItems
  refine wpAny_bind (wpAny_typeOf hb.typeIs ?_)
  first
    | refine PySem.W.KFB.if_so (by decide) ?_
    | rw [if_pos (by decide)]
    | simp only [beq_self_eq_true, Bool.true_or, if_true]
  unfold Builtin.List.listItems
  refine wpAny_bind (wpAny_seqItems e2 rfl (wpAny_pure ?_))
  refine wpAny_bind (wpAny_bind (wpAny_seqItems e rfl (wpAny_pure ?_)))
  refine wpAny_bind (wpAny_of_eq ((sliceIndices_raw (some (a : Int)) (some (c : Int)) none items.size (by simp)).trans (congrArg (pure : Int × Int × Int → Sem (Int × Int × Int)) (bounds_run hac hc))) ?_)
  show wpAny _ _ (if ((1 : Int) == 1) = true then _ else _) _ _ s
  rw [if_pos (by decide)]
  refine wpAny_bind (wpAny_rule ?_)
  first
    | simp only [notLongL hsz, Bool.false_eq_true, if_false]
    | refine PySem.W.KFB.if_not (notLongL hsz) ?_
  first | refine wpAny_bind (wpAny_pure ?_) | skip
  show wpAny _ _ (updateSeq l (fun xs => xs.extract 0 ((a : Int)).toNat ++ new ++ xs.extract (max (a : Int) (c : Int)).toNat xs.size) >>= _) _ _ s
  rw [hmax, Int.toNat_natCast]
  refine wpAny_bind (wpAny_updateSeq (hz := Nat.le_trans (Nat.le_add_right _ _) hsz) (_hz' := hz') e rfl ?_)
  refine wpAny_bind (wpAny_letGo ?_)
  first
    | exact wpAny_bind (wpAny_pure (wpAny_pure ⟨.none, rfl, wpAny_pure h⟩))
    | exact wpAny_pure ⟨.none, rfl, wpAny_pure h⟩
end

section
variable {X : Cx}
/-- xs[a:c] = ys of another list, at the value level: sl is the slice object that was just made -/
theorem set_slice {pins : List (Addr × Obj)} {s : Shared} {σ : St} {H : Hp} {l b sl : Addr} {xs ys : List V} {a c : Int} {vl vu : Value} {Q : Unit → Shared → Prop} (I : Inv X pins σ H s)
    (hH : H l = some (.lst xs)) (hB : H b = some (.lst ys)) (hne : l ≠ b) (hs : s.heap.IsSliceOf sl vl vu .none) (ra : RelV (.int a) vl) (rc : RelV (.int c) vu) (h0 : 0 ≤ a) (hac : a ≤ c) (hc : c ≤ xs.length)
    (hz : xs.length + ys.length ≤ sizeLine) (h : ∀ s', Inv X pins σ (upd H l (.lst (xs.take a.toNat ++ ys ++ xs.drop c.toNat))) s' → Q () s') :
    wpAny (model X.prog X.w) X.A (setItem (.ref l) (.ref sl) (.ref b)) Q X.xe s := by
  obtain ⟨ta, rfl⟩ := ra
  obtain ⟨tc, rfl⟩ := rc
  obtain ⟨z, its, n, r, hl, e⟩ := I.lstM hH
  obtain ⟨z2, its2, n2, r2, hl2, e2⟩ := I.lstM hB
  obtain ⟨a', rfl⟩ := Int.eq_ofNat_of_zero_le h0
  obtain ⟨c', rfl⟩ := Int.eq_ofNat_of_zero_le (Int.le_trans h0 hac)
  simp only [Int.toNat_natCast] at h
  refine setItem_slice (a := a') (c := c') e e2 hne hs (.int _ _) (.int _ _) (by omega) (by rw [List.size_toArray]; omega) (by rw [List.size_toArray, List.size_toArray]; omega) (h _ ?_)
  refine I.lset (its' := its.take a' ++ its2 ++ its.drop c') (t' := s.toks) hH e ?_ (Vals.append (Vals.append (r.take _) r2) (r.drop _)) ?_
  · exact splice_eq its its2 a' c'
  · rw [List.length_append, List.length_append, List.length_take, List.length_drop]
    omega
end
end L2

namespace Att
open PySem PySem.W PySem.Calls PyProof.Rows

/-! ### the script -/
theorem ints_of_wellAll {P : Params} {h : Heap} : ∀ (ns : List Int) (vs : List Value), WellAll P h vs (ns.map WData.int) → IntsAre vs ns := by
  intro ns
  induction ns with
  | nil =>
    intro vs w
    rw [List.map_nil] at w
    cases w
    exact .nil
  | cons n ns ih =>
    intro vs w
    rw [List.map_cons] at w
    cases w with
    | cons a b =>
      cases a
      exact .cons _ _ (ih _ b)

theorem script_of {l : OpenLaw} {n : Nat} (hn : l.most = some n) {P : Params} {h : Heap} {args : List WData} {vals : List Value}
    (hpre : l.row.toRowW.claim.pre args = true) (hwl : WellAll P h vals args) :
    ∃ a vs ns, vals = [Value.ref a] ∧ args = [WData.list (ns.map WData.int)] ∧ h.get? a = some { cls := .type "list", data := .seq vs.toArray } ∧ IntsAre vs ns ∧ ns.length ≤ n := by
  have hsh : WShape.hasAll [] args [.list .int] = true := (pre_splitW hpre).1
  have hc : l.pre.holds [] { args := args } = true := (pre_splitW hpre).2
  obtain ⟨d, r, rfl, h1, h2⟩ := hasAllW_cons hsh
  obtain rfl := hasAllW_nil h2
  obtain ⟨xs, rfl, h3⟩ := hasW_list h1
  obtain ⟨ns, rfl⟩ := items_int h3
  have hlen : ns.length ≤ n := by
    unfold OpenLaw.pre at hc
    have h4 : (WTm.not (.lt (.lit (.int (n : Int))) (.len (.arg 0)))).holds [] { args := [.list (ns.map .int)] } = true := by
      have h4 := (holds_andW hc).1
      rw [hn] at h4
      exact h4
    have h5 := condW_of h4 (w_not (w_lt w_lit (w_len_list (w_arg rfl))))
    rw [List.length_map] at h5
    refine Nat.le_of_not_lt fun q => ?_
    have q' : (n : Int) < ((ns.length : Nat) : Int) := by omega
    first
      | (rw [decide_eq_true q'] at h5; exact absurd h5 (by decide))
      | (simp at h5; omega)
  cases hwl with
  | cons w1 w2 =>
    cases w2
    cases w1 with
    | list ho hall => exact ⟨_, _, ns, rfl, rfl, ho, ints_of_wellAll ns _ hall, hlen⟩

theorem post_true (l : OpenLaw) (args : List WData) : l.row.toRowW.claim.post args (.bool true) args = true :=
  postW_of (r := l.row.toRowW) (X := (true == true))
    (show WShape.has [] (.bool true) .bool = true by first | rfl | decide | simp [WShape.has, WShape.arms, WShape.armsAll])
    (show (WTm.eq .res (.lit (.bool true))).value [] { args := args, res := some (.bool true), after := args } = some (.bool (true == true)) from w_eq_bool (w_res rfl) w_lit) rfl

/-! ### the attachment: holds_open's last premise (the goal 'hc' behind k_head) from a wpAny of the law's body -/
theorem attach {l : OpenLaw} {n : Nat} {q : Program} {loose : List Str} {XP : (Str → Option Value) → Heap → Prop} {YP : World → Heap → Prop} {d : DefRec} {x : Str}
    (hn : l.most = some n) (hdf : d.params.defaults = [])
    (hbind : ∀ pm cd doc v : Value, bindArgs (docDef d.name d.params d.body d.scope pm cd doc) ⟨[v], []⟩ = pure [(x, v)])
    (hx : d.scope.names.lookup x = some .local ∨ d.scope.names.lookup x = some .cell)
    (hk : d.scope.kind = .function) (hco : d.scope.isCoroutine = false) (hgen : d.scope.isGenerator = false)
    (body : ∀ (w : World) (s₀ s₁ s : Shared) (mg mb : Str → Option Value) (fa : Addr) (o : Obj) (pm cd doc : Value) (a : Addr) (vs : List Value) (ns : List Int),
      Ground q loose [] XP w s₀ mg mb s₁.heap → YP w s₁.heap →
      s₁.heap.get? fa = some o → o.data = .func (docDef d.name d.params d.body d.scope pm cd doc) → s₁.heap.CodeRec cd d.name → mg d.name = some (.ref fa) →
      s₁.heap.get? a = some { cls := .type "list", data := .seq vs.toArray } → IntsAre vs ns → ns.length ≤ n →
      s.gens = #[] → s.os = s₁.os →
      Fr s₁.heap s₁.heap.objs.size s.heap (bindL (envOfC d.name d.scope s₁.heap.objs.size fa cd).kindOf [(x, .ref a)] fun _ => none) →
      Cl s₁.heap.objs.size (cellsFrom (s₁.heap.objs.size + 1) d.scope.names []) s.heap (bindC (envOfC d.name d.scope s₁.heap.objs.size fa cd).kindOf [(x, .ref a)] fun _ => none) →
      wpAny (model l.prog w) (callerA.deeper (envOfC d.name d.scope s₁.heap.objs.size fa cd)) (execs d.body (envOfC d.name d.scope s₁.heap.objs.size fa cd))
        (fun f s' => f = .ret (.bool true) ∧ OldK s₁.heap s'.heap ∧ s'.os = s₁.os ∧ AllBare s'.gens) (fun _ _ => False) s) :
    WalkO q loose XP YP l.row.toRowW d [] (fun f vs => PySem.call f vs) := by
  intro w s₀ s₁ mg mb G Y fa o pm cd doc dV kV ho hd hcd hD hmg hg args vals as hpre hlay hrd hwl hlo
  obtain rfl : dV = .none := Dflts.none hD hdf
  obtain rfl : kV = .none := Dflts.noKw hD
  obtain ⟨a, vs, ns, rfl, rfl, hobj, hints, hlen⟩ := script_of hn hpre hwl
  refine enter_call ?_
  refine call_cells_ret (o := o) (by rw [depth_caller]; decide) ho (fd_plain hd) G.T.nolimit hcd (hbind pm cd doc (.ref a)) (fun y hy => ?_) (fun h₁ tk F X => ?_) hco hgen hk
  · obtain rfl : y = (x, Value.ref a) := List.mem_singleton.mp hy
    rcases hx with e | e
    · exact .inl e
    · exact .inr ⟨e, cellsFrom_some _ _ _ (.inl e)⟩
  · refine wpAny_mono (body w s₀ s₁ { s₁ with heap := h₁, toks := tk } mg mb fa o pm cd doc a vs ns G Y ho (fd_plain hd) hcd hmg hobj hints hlen hg rfl F X) (fun f s' hq => ?_) (fun _ _ hq => hq)
    obtain ⟨rfl, h2, h3, h4⟩ := hq
    exact ⟨.inl ⟨.bool true, .bool true, [], rfl, fun _ => rfl, .bool true, post_true l _, fun _ => ⟨List.Pairwise.nil, fun _ hm => (nomatch hm)⟩⟩, h2, h3, h4⟩

/-- the same from a codeAny of the CALL (for a layer whose function contracts speak of calls) -/
theorem attach_call {l : OpenLaw} {n : Nat} {q : Program} {loose : List Str} {XP : (Str → Option Value) → Heap → Prop} {YP : World → Heap → Prop} {d : DefRec}
    (hn : l.most = some n) (hdf : d.params.defaults = [])
    (call : ∀ (w : World) (s₀ s₁ : Shared) (mg mb : Str → Option Value) (fa : Addr) (o : Obj) (pm cd doc : Value) (a : Addr) (vs : List Value) (ns : List Int),
      Ground q loose [] XP w s₀ mg mb s₁.heap → YP w s₁.heap →
      s₁.heap.get? fa = some o → o.data = .func (docDef d.name d.params d.body d.scope pm cd doc) → s₁.heap.CodeRec cd d.name → mg d.name = some (.ref fa) →
      s₁.heap.get? a = some { cls := .type "list", data := .seq vs.toArray } → IntsAre vs ns → ns.length ≤ n → s₁.gens = #[] →
      codeAny (model l.prog w) callerA (.call (.ref fa) ⟨[.ref a], []⟩) (fun r s' => r = .ok (.ret (.bool true)) ∧ OldK s₁.heap s'.heap ∧ s'.os = s₁.os ∧ AllBare s'.gens) s₁) :
    WalkO q loose XP YP l.row.toRowW d [] (fun f vs => PySem.call f vs) := by
  intro w s₀ s₁ mg mb G Y fa o pm cd doc dV kV ho hd hcd hD hmg hg args vals as hpre hlay hrd hwl hlo
  obtain rfl : dV = .none := Dflts.none hD hdf
  obtain rfl : kV = .none := Dflts.noKw hD
  obtain ⟨a, vs, ns, rfl, rfl, hobj, hints, hlen⟩ := script_of hn hpre hwl
  refine enter_call (codeAny_mono (call w s₀ s₁ mg mb fa o pm cd doc a vs ns G Y ho (fd_plain hd) hcd hmg hobj hints hlen hg) fun r s' hq => ?_)
  obtain ⟨rfl, h2, h3, h4⟩ := hq
  exact ⟨.inl ⟨.bool true, .bool true, [], rfl, fun _ => rfl, .bool true, post_true l _, fun _ => ⟨List.Pairwise.nil, fun _ hm => (nomatch hm)⟩⟩, h2, h3, h4⟩

/-- the same where the top left finished generators (o_head chose holds_openN): nothing may have changed at all and no generator may be left -/
theorem attachN {l : OpenLaw} {n : Nat} {q : Program} {loose : List Str} {XP : (Str → Option Value) → Heap → Prop} {YP : World → Heap → Prop} {d : DefRec} {x : Str}
    (hn : l.most = some n) (hdf : d.params.defaults = [])
    (hbind : ∀ pm cd doc v : Value, bindArgs (docDef d.name d.params d.body d.scope pm cd doc) ⟨[v], []⟩ = pure [(x, v)])
    (hx : d.scope.names.lookup x = some .local ∨ d.scope.names.lookup x = some .cell)
    (hk : d.scope.kind = .function) (hco : d.scope.isCoroutine = false) (hgen : d.scope.isGenerator = false)
    (body : ∀ (w : World) (s₀ s₁ s : Shared) (mg mb : Str → Option Value) (fa : Addr) (o : Obj) (pm cd doc : Value) (a : Addr) (vs : List Value) (ns : List Int),
      Ground q loose [] XP w s₀ mg mb s₁.heap → YP w s₁.heap →
      s₁.heap.get? fa = some o → o.data = .func (docDef d.name d.params d.body d.scope pm cd doc) → s₁.heap.CodeRec cd d.name → mg d.name = some (.ref fa) →
      s₁.heap.get? a = some { cls := .type "list", data := .seq vs.toArray } → IntsAre vs ns → ns.length ≤ n →
      s.gens = #[] → s.os = s₁.os →
      Fr s₁.heap s₁.heap.objs.size s.heap (bindL (envOfC d.name d.scope s₁.heap.objs.size fa cd).kindOf [(x, .ref a)] fun _ => none) →
      Cl s₁.heap.objs.size (cellsFrom (s₁.heap.objs.size + 1) d.scope.names []) s.heap (bindC (envOfC d.name d.scope s₁.heap.objs.size fa cd).kindOf [(x, .ref a)] fun _ => none) →
      wpAny (model l.prog w) (callerA.deeper (envOfC d.name d.scope s₁.heap.objs.size fa cd)) (execs d.body (envOfC d.name d.scope s₁.heap.objs.size fa cd))
        (fun f s' => f = .ret (.bool true) ∧ (∀ b o, s₁.heap.get? b = some o → s'.heap.get? b = some o) ∧ s'.os = s₁.os ∧ s'.gens = #[]) (fun _ _ => False) s) :
    WalkN q loose XP YP l.row.toRowW d [] (fun f vs => PySem.call f vs) := by
  intro w s₀ s₁ mg mb G Y fa o pm cd doc dV kV ho hd hcd hD hmg hg args vals as hpre hlay hrd hwl hlo
  obtain rfl : dV = .none := Dflts.none hD hdf
  obtain rfl : kV = .none := Dflts.noKw hD
  obtain ⟨a, vs, ns, rfl, rfl, hobj, hints, hlen⟩ := script_of hn hpre hwl
  refine enter_callW ?_
  refine call_cells_ret (o := o) (by rw [depth_caller]; decide) ho (fd_plain hd) G.T.nolimit hcd (hbind pm cd doc (.ref a)) (fun y hy => ?_) (fun h₁ tk F X => ?_) hco hgen hk
  · obtain rfl : y = (x, Value.ref a) := List.mem_singleton.mp hy
    rcases hx with e | e
    · exact .inl e
    · exact .inr ⟨e, cellsFrom_some _ _ _ (.inl e)⟩
  · refine wpAny_mono (body w s₀ s₁ { s₁ with heap := h₁, toks := tk } mg mb fa o pm cd doc a vs ns G Y ho (fd_plain hd) hcd hmg hobj hints hlen hg rfl F X) (fun f s' hq => ?_) (fun _ _ hq => hq)
    obtain ⟨rfl, h2, h3, h4⟩ := hq
    exact ⟨.inl ⟨.bool true, .bool true, [], rfl, fun _ => rfl, .bool true, post_true l _, fun _ => ⟨List.Pairwise.nil, fun _ hm => (nomatch hm)⟩⟩, h2, h3, h4⟩

/-! ### rules over ANY heap (no ledger) from facts about the written part K: the library's own take a ledger (News) for what they write -/
section
variable {prog : Program} {w : World} {A : Around} {E : Value → Shared → Prop} {s : Shared} {K : Frag}

/-- a def of the module, or a method (qual 'C.m'), entered: the frame is the next address; cells behind it -/
theorem call_fn {R : Result → Shared → Prop} {name qual : Str} {params : Arguments} {body : List Stmt} {scope : Scope} {dV kV doc pm cdv ct oc : Value} {an od : Option Addr} {osl : Array (Option Value)} {f : Addr} {args : Args} {binds : List (Str × Value)}
    (X : K.In s.heap) (hlim : s.heap.NoLimit) (ho : K.lookup f = some ⟨oc, od, .func (fnOf name qual params body scope dV kV doc pm an cdv ct), osl⟩) (hcd : codeIn K cdv qual = true) (hroom : A.depth < recursionLimit)
    (hbind : BindsTo s (fnOf name qual params body scope dV kV doc pm an cdv ct) args binds)
    (hkind : (binds.all fun y => scope.names.lookup y.1 == some .local || scope.names.lookup y.1 == some .cell) = true)
    (h : ∀ s₁, InCallC s s.heap.objs.size (bindL (envOfC qual scope s.heap.objs.size f cdv).kindOf binds fun _ => none) (cellsFrom (s.heap.objs.size + 1) scope.names [])
        (bindC (envOfC qual scope s.heap.objs.size f cdv).kindOf binds fun _ => none) s₁ →
      wpAny (model prog w) (A.deeper (envOfC qual scope s.heap.objs.size f cdv)) (execs body (envOfC qual scope s.heap.objs.size f cdv))
        (fun fl s' => R (.ok (.ret (match fl with | .ret v => v | _ => .none))) s')
        (fun e s' => wpAny (model prog w) (A.deeper (envOfC qual scope s.heap.objs.size f cdv)) (leaving (envOfC qual scope s.heap.objs.size f cdv) e) (fun _ s'' => R (.error e) s'') (fun e' s'' => R (.error e') s'') s') s₁)
    (hco : scope.isCoroutine = false) (hgen : scope.isGenerator = false) (hk : scope.kind = .function) : codeAny (model prog w) A (.call (.ref f) args) R s := by
  refine codeAny_call_function hroom (X _ _ ho) rfl hco hgen rfl (codeRec_of X hcd) (hbind _ _ _ _ ?_)
  refine wpAny_newFunctionEnv_cells hk (kindsX hkind _) fun env he s₁ x => ?_
  subst he
  exact ⟨hlim.keeps x.toInCall.keep, codeAny_func (h s₁ x)⟩

/-- C(..): dict at size, instance at size + 1, then __init__ -/
theorem make_obj {R : Result → Shared → Prop} {C fI : Addr} {rest : List Value} {kw : List (Str × Value)}
    (X : K.In s.heap) (hm : makesIn K C = true) (hi : findIn K (.ref C) "__init__" = some (some (.ref fI))) (hf : isFn K (.ref fI) = true)
    (h : codeAny (model prog w) (A.under (.builtin "type.__call__" ⟨.ref C :: rest, kw⟩)) (.call (.ref fI) ⟨.ref (s.heap.objs.size + 1) :: rest, kw⟩) (InitBack (s.heap.objs.size + 1) R)
      { s with heap := (s.heap.push emptyDict).push (instObj C s.heap.objs.size) }) : codeAny (model prog w) A (.call (.ref C) ⟨rest, kw⟩) R s := by
  obtain ⟨hh, g, d, t, os⟩ := s
  exact make_core (makes_of X hm) (looks_findIn X hi) (fun self => bind_fn X self (beq_iff_eq.mp hf)) (.inl rfl) h

/-- x.name where the instance's dict holds the name and the class does not -/
theorem get_field {x C : Addr} {ox : Obj} {es : List DictEntry} {n : Nat} {name : Str} {expr : Bool} {v : Value} {Q : Value → Shared → Prop}
    (X : K.In s.heap) (I : PySem.W.InstAt s.heap x ox C (some (dictOf es n))) (hg : plainGet K C name = true) (hh : hasDictIn K C = true) (ha : findIn K (.ref C) name = some none)
    (hl : getL name es = some (some v)) (hv : handedIn v = true) (h : Q v { s with toks := s.toks + 1 }) : wpAny (model prog w) A (getAttr (.ref x) name expr) Q E s :=
  get_value X I (plainGet_of hg).1 (findObj_own hh ha rfl hl) hv h

/-- x.m(..): the method found in the class -/
theorem get_method {x C f : Addr} {ox : Obj} {es : List DictEntry} {n : Nat} {name : Str} {pl : Sem Bool} {Q : Value × List Value → Shared → Prop}
    (X : K.In s.heap) (I : PySem.W.InstAt s.heap x ox C (some (dictOf es n))) (hg : plainGet K C name = true) (hf : findIn K (.ref C) name = some (some (.ref f))) (ht : isFn K (.ref f) = true)
    (hl : getL name es = some none) (h : Q (.ref f, [.ref x]) s) : wpAny (model prog w) A (getMethod (.ref x) name pl) Q E s :=
  method_fn X I (plainGet_of hg).1 (plainGet_of hg).2 hf (beq_iff_eq.mp ht) (by show (lookIn name (dictOf es n)).map _ = _; rw [lookIn_dict, hl]; rfl) h

/-! the whole heap as the ledger: makes every rule that writes through a ledger a rule over any heap -/
def noObjs (h : Heap) : Heap := { h with objs := #[] }
theorem noObjs_get (h : Heap) (b : Addr) : (noObjs h).get? b = none := by
  cases e : (noObjs h).get? b with
  | none => rfl
  | some o => exact absurd (Heap.lt_size e) (Nat.not_lt_zero _)
def ledger (h : Heap) (L d : Addr) : List (Addr × Obj) := (List.range h.objs.size).filterMap fun a => if a = L ∨ a = d then none else (h.get? a).map fun o => (a, o)
theorem mem_ledger {h : Heap} {L d a : Addr} {o : Obj} : (a, o) ∈ ledger h L d ↔ a ≠ L ∧ a ≠ d ∧ h.get? a = some o := by
  unfold ledger
  rw [List.mem_filterMap]
  constructor
  · rintro ⟨b, _, e⟩
    split at e
    · cases e
    · rename_i hb
      obtain ⟨o', ho, e'⟩ := Option.map_eq_some_iff.mp e
      cases e'
      exact ⟨fun q => hb (.inl q), fun q => hb (.inr q), ho⟩
  · rintro ⟨n1, n2, ho⟩
    refine ⟨a, List.mem_range.mpr (Heap.lt_size ho), ?_⟩
    rw [if_neg (show ¬ (a = L ∨ a = d) from fun q => q.elim n1 n2), ho] <;> rfl
theorem news_ledger {h : Heap} {L d : Addr} {od : Obj} (hne : d ≠ L) (ho : h.get? d = some od) : News (noObjs h) L h ([] ++ (d, od) :: ledger h L d) := by
  rintro ⟨a, o⟩ hp
  rcases List.mem_cons.mp hp with e | hp
  · cases e
    exact ⟨ho, hne, noObjs_get _ _⟩
  · obtain ⟨n1, n2, e⟩ := mem_ledger.mp hp
    exact ⟨e, n1, noObjs_get _ _⟩
theorem fr_all {h : Heap} {L : Addr} {m : Str → Option Value} (n : h.Ns L m) : Fr (noObjs h) L h m :=
  ⟨n, fun b o e => (by rw [noObjs_get] at e; cases e), Nat.zero_le _⟩
/-- Upd of the head entry (for append_K, setItem_K ..) -/
theorem upd_ledger {h : Heap} {L d : Addr} {o o' : Obj} : Upd d o o' ((d, o) :: ledger h L d) ((d, o') :: ledger h L d) :=
  .head fun ⟨_, _⟩ hp => (mem_ledger.mp hp).2.1

/-- x.name = v over any heap: L is any namespace of the heap (the frame's, say): its map stays, its object is not told; all else but the dict stays -/
theorem set_field {x C dx L : Addr} {ox : Obj} {m : Str → Option Value} {es es' : List DictEntry} {n n' : Nat} {name : Str} {v : Value} {Q : Unit → Shared → Prop}
    (X : K.In s.heap) (I : PySem.W.InstAt s.heap x ox C (some (dictOf es n))) (hd : ox.dict = some dx) (hL : s.heap.Ns L m) (hne : dx ≠ L)
    (hs : findIn K (.ref C) "__setattr__" = some (some (.builtin "object.__setattr__"))) (hp : plainOver K C = true) (ht : takerIn K C name = some none) (hh : hasDictIn K C = true) (hl : (getL name es).isSome = true)
    (e : (putL name (PyData.keyHash w.params name) (.str name (s.toks + 1)) v es, putN name es n) = (es', n')) (hz : es'.length ≤ 1000)
    (h : ∀ h' : Heap, h'.Ns L m → h'.get? dx = some (dictOf es' n') → (∀ b o, b ≠ dx → b ≠ L → s.heap.get? b = some o → h'.get? b = some o) → Q () { s with heap := h', toks := s.toks + 2 }) :
    wpAny (model prog w) A (setAttr (.ref x) name v) Q E s := by
  obtain ⟨e1, e2⟩ := Prod.mk.inj e
  have hdx : s.heap.get? dx = some (dictOf es n) := by
    have := I.dict
    rw [hd] at this
    exact this
  refine set_plain X I hs (osa_dict (s := { s with toks := s.toks + 1 }) (h₀ := noObjs s.heap) (L := L) (m := m) (od := dictOf es n) (od' := dictOf es' n') (es := es') (n := n') (pre := []) (post := ledger s.heap L dx)
    (fr_all hL) (news_ledger hne hdx) X I hd hp ht hh hl (fun _ q => nomatch q) (fun ⟨_, _⟩ q => (mem_ledger.mp q).2.1) (by rw [putName_dict, e1, e2]) rfl hz fun h' F' N' => ?_)
  exact h h' F'.ns (N'.get (List.Mem.head _)) fun b o n1 n2 ho => N'.get (List.Mem.tail _ (mem_ledger.mpr ⟨n2, n1, ho⟩))
end
end Att

namespace L2
open PySem PySem.Spec PyProof.Rows

theorem vals_ints : ∀ {vs : List Value} {ns : List Int}, IntsAre vs ns → Vals (ns.map V.int) vs
  | _, _, .nil => .nil
  | _, _, .cons n t h => .cons ⟨t, rfl⟩ (vals_ints h)

/-- nothing is tracked but the script, known to the object (or it is an object of the module) -/
def Only (H : Hp) : Prop := ∀ b, H b = none ∨ ∃ o xs, H b = some (.frz o (.lst xs))

/-- THE HEAD: the law's promise, at the heap behind the top. F, the promise of the law's def, may use that base is part of the heap (so K.In base, base.Ns mainGlobals mg stand in Mod) -/
theorem law_call {P : Program} {w : World} {K : PySem.W.Frag} {mg mb : Str → Option Value} {CX : CXT} {k : Nat} {fa a : Addr} {fd : FuncData} {x : Str} {sp : Sp} {s₁ : Shared} {vs : List Value} {ns : List Int}
    (KX : K.In s₁.heap) (hns : s₁.heap.Ns mainGlobals mg) (hb : s₁.heap.Ns builtinsNs mb) (hbb : ∀ x : Str, x ≠ "__name__" → mb x = bootBuiltins x) (hlim : s₁.heap.NoLimit) (hg : s₁.gens = #[])
    (ha : s₁.heap.get? a = some { cls := .type "list", data := .seq vs.toArray }) (hi : IntsAre vs ns) (hl : ns.length ≤ sizeLine) (hr : Room k callerA)
    (F : ∀ base : Heap, K.In base → base.Ns mainGlobals mg → FnOk P w K mg base CX k fa fd [x] sp) (hbind : ∀ (s : Shared) (u : Value), BindsTo s fd ⟨[u], []⟩ [(x, u)])
    (hsp : ∀ H : Hp, Only H → SqL K H a (ns.map V.int) → sp [.ref a] H (fun v _ => v = .bl true) fun _ _ _ => False)
    (hCX : ∀ H e s', CX [] H s₁ (fun _ _ _ => False) e s' → False) :
    codeAny (model P w) callerA (.call (.ref fa) ⟨[.ref a], []⟩) (fun r s' => r = .ok (.ret (.bool true)) ∧ OldK s₁.heap s'.heap ∧ s'.os = s₁.os ∧ AllBare s'.gens) s₁ := by
  have rv := vals_ints hi
  have lenV := hi.length
  -- from an abstract heap in which nothing but the script may be tracked
  have core : ∀ H : Hp, Only H → SqL K H a (ns.map V.int) → HOk P w H s₁.heap → (∀ b, H b ≠ none → b = a) → (H a ≠ none → K.lookup a = none) →
      codeAny (model P w) callerA (.call (.ref fa) ⟨[.ref a], []⟩) (fun r s' => r = .ok (.ret (.bool true)) ∧ OldK s₁.heap s'.heap ∧ s'.os = s₁.os ∧ AllBare s'.gens) s₁ := by
    intro H hO hS hok hA hK
    have base_of : ∀ {b : Addr} {o : Obj}, s₁.heap.get? b = some o → H b = none → (hidT s₁.heap H).get? b = some o := fun e n => hidT_get e n
    have noA : ∀ {b : Addr} {o : Obj} {es : Array DictEntry} {ep : Nat}, s₁.heap.get? b = some o → o.data = .dict es ep → H b = none := fun {b o es ep} e d => by
      cases q : H b with
      | none => rfl
      | some u =>
        have e' : b = a := hA b (by rw [q]; simp)
        subst e'
        rw [ha] at e; cases e
        have d' : Data.seq vs.toArray _ = Data.dict es ep := d
        cases d'
    have nsK : ∀ {b : Addr} {m : Str → Option Value}, s₁.heap.Ns b m → (hidT s₁.heap H).Ns b m := fun {b m} ⟨o, es, ep, e, d, r⟩ => ⟨o, es, ep, base_of e (noA e d), d, r⟩
    have hKb : K.In (hidT s₁.heap H) := fun b o e => base_of (KX b o e) (by
      cases q : H b with
      | none => rfl
      | some u =>
        have e' : b = a := hA b (by rw [q]; simp)
        subst e'
        rw [hK (by rw [q]; simp)] at e; cases e)
    have hM : Mod K mg (hidT s₁.heap H) := ⟨hKb, nsK hns, ⟨mb, nsK hb, hbb⟩, let ⟨mc, h1, h2⟩ := hlim; ⟨mc, nsK h1, h2⟩⟩
    have e0 : Env0 P w K mg (hidT s₁.heap H) callerA [] s₁ H := ⟨rfl, hM, fun b o e => of_hidT e, Nat.le_of_eq (hidT_size _ _), trivial, fun b hb => absurd (show b ∈ ([] : List Addr) from hb) (by simp), hok, .of_eq hg⟩
    refine codeAny_mono ((F _ hKb (nsK hns)).run callerA [] s₁ H ⟨[.ref a], []⟩ [.ref a] [.ref a] _ _ hr e0 (hbind s₁ (.ref a)) (.cons rfl .nil) (hsp H hO hS)) fun r s' h => ?_
    cases r with
    | error e => exact (hCX H e s' h).elim
    | ok fl =>
      cases fl with
      | next => exact False.elim h
      | brk => exact False.elim h
      | cont => exact False.elim h
      | ret u =>
        obtain ⟨v, H', os, bare, un, hok', r', q⟩ := h
        have q' : v = .bl true := q
        subst q'
        obtain rfl : u = Value.bool true := r'
        refine ⟨rfl, OldK.of_keep fun b o e => ?_, os, bare⟩
        cases q : H b with
        | none => exact un.keep b o e q (by intro z; exact absurd (show b ∈ ([] : List Addr) from z) (by simp)) (by simp)
        | some u =>
          rcases hO b with z | ⟨ob, xs, z⟩
          · rw [q] at z; cases z
          · have z2 := un.frzs b ob _ z
            obtain ⟨e1, _⟩ := hok b _ z
            obtain ⟨e2, _⟩ := hok' b _ z2
            rw [e] at e1; cases e1
            exact e2
  cases hk : K.lookup a with
  | some o =>
    -- the script is one of the module's own objects
    have e := KX a o hk
    rw [ha] at e
    cases e
    refine core (fun _ => none) (fun _ => .inl rfl) (.inr ⟨_, vs.toArray, _, hk, rfl, rfl, rfl, by rw [List.size_toArray, lenV]; exact hl, by simpa using rv⟩) (fun b u z => by have z' : (none : Option HO) = some u := z; cases z') (fun b z => absurd rfl z) fun z => absurd rfl z
  | none =>
    refine core (fun b => if b = a then some (.frz { cls := .type "list", data := .seq vs.toArray } (.lst (ns.map V.int))) else none) (fun b => ?_) (.inl (.inr ⟨{ cls := .type "list", data := .seq vs.toArray }, if_pos rfl⟩)) (fun b u z => ?_) (fun b z => ?_) fun _ => hk
    · by_cases hb : b = a
      · exact .inr ⟨_, _, if_pos hb⟩
      · exact .inl (if_neg hb)
    · by_cases hb : b = a
      · have z' := (if_pos hb).symm.trans z
        cases z'
        subst hb
        exact ⟨ha, by rw [List.length_map]; exact hl, vs, _, rv, ha⟩
      · have z' := (if_neg hb).symm.trans z
        cases z'
    · by_cases hb : b = a
      · exact hb
      · exact absurd (if_neg hb) z
end L2

namespace L2
open PySem PySem.Spec PyProof.Rows

abbrev KOf {K : PySem.W.Frag} {h : Heap} (_ : K.In h) : PySem.W.Frag := K

/-- the goal that k_head leaves (case hc), from the law's promise. F gives the function object fd (K's own) once, then the promise over every base -/
theorem walk_of {l : PySem.W.OpenLaw} {n k : Nat} {q : Program} {loose : List Str} {XP : (Str → Option Value) → Heap → Prop} {YP : World → Heap → Prop} {d : DefRec} {K : Params → PySem.W.Frag} {CX : World → CXT} {sp : World → Sp} {x : Str}
    (hn : l.most = some n) (hn2 : n ≤ sizeLine) (hdf : d.params.defaults = []) (hr : Room k callerA)
    (hY : ∀ (w : World) (h : Heap), YP w h → (K w.params).In h)
    (F : ∀ (w : World) (mg : Str → Option Value) (fa : Addr) (h : Heap), (K w.params).In h → h.Ns mainGlobals mg → mg d.name = some (.ref fa) →
      ∃ fd : FuncData, (∀ (s : Shared) (u : Value), BindsTo s fd ⟨[u], []⟩ [(x, u)]) ∧
        ∀ base : Heap, (K w.params).In base → base.Ns mainGlobals mg → FnOk l.prog w (K w.params) mg base (CX w) k fa fd [x] (sp w))
    (hsp : ∀ (w : World) (H : Hp) (a : Addr) (ns : List Int), ns.length ≤ n → Only H → SqL (K w.params) H a (ns.map V.int) → sp w [.ref a] H (fun v _ => v = .bl true) fun _ _ _ => False)
    (hCX : ∀ (w : World) (H : Hp) (s : Shared) (e : Value) (s' : Shared), CX w [] H s (fun _ _ _ => False) e s' → False) :
    PySem.W.WalkO q loose XP YP l.row.toRowW d [] (fun f vs => PySem.call f vs) := by
  refine Att.attach_call hn hdf fun w s₀ s₁ mg mb fa o pm cd doc a vs ns G Y ho hd hcd hmg hobj hints hlen hg => ?_
  have KX := hY w _ Y
  obtain ⟨fd, hb, hF⟩ := F w mg fa _ KX G.T.g hmg
  exact law_call KX G.T.g G.T.b G.T.builtins G.T.nolimit hg hobj hints (Nat.le_trans hlen hn2) hr hF hb (fun H hO hS => hsp w H a ns hlen hO hS) fun H e s' => hCX w H s₁ e s'
/-- the same where the promise hangs on the written part alone: (sp := My.sp_law), no hole under a binder -/
theorem walk_ofK {l : PySem.W.OpenLaw} {n k : Nat} {q : Program} {loose : List Str} {XP : (Str → Option Value) → Heap → Prop} {YP : World → Heap → Prop} {d : DefRec} {K : Params → PySem.W.Frag} {CX : CXT} {sp : PySem.W.Frag → Sp} {x : Str}
    (hn : l.most = some n) (hn2 : n ≤ sizeLine) (hdf : d.params.defaults = []) (hr : Room k callerA)
    (hY : ∀ (w : World) (h : Heap), YP w h → (K w.params).In h)
    (F : ∀ (w : World) (mg : Str → Option Value) (fa : Addr) (h : Heap), (K w.params).In h → h.Ns mainGlobals mg → mg d.name = some (.ref fa) →
      ∃ fd : FuncData, (∀ (s : Shared) (u : Value), BindsTo s fd ⟨[u], []⟩ [(x, u)]) ∧
        ∀ base : Heap, (K w.params).In base → base.Ns mainGlobals mg → FnOk l.prog w (K w.params) mg base CX k fa fd [x] (sp (K w.params)))
    (hsp : ∀ (K : PySem.W.Frag) (H : Hp) (a : Addr) (ns : List Int), ns.length ≤ n → Only H → SqL K H a (ns.map V.int) → sp K [.ref a] H (fun v _ => v = .bl true) fun _ _ _ => False)
    (hCX : ∀ (H : Hp) (s : Shared) (e : Value) (s' : Shared), CX [] H s (fun _ _ _ => False) e s' → False) :
    PySem.W.WalkO q loose XP YP l.row.toRowW d [] (fun f vs => PySem.call f vs) :=
  walk_of (K := K) (CX := fun _ => CX) (sp := fun w => sp (K w.params)) hn hn2 hdf hr hY F (fun w H a ns h1 h2 h3 => hsp (K w.params) H a ns h1 h2 h3) fun _ H s e s' => hCX H s e s'
end L2

/- THE LAST THEOREM (shape; LID, My.* are yours):
   My.Adr: a structure of the addresses that your layer names (classes, functions); My.Txt K t: a structure (Prop) of the equations over K;
   My.txt_mk : {K} {implicit addresses ..} (e1 : nsIn K mainGlobals "law" = some (some (.ref f))) (e2 : K.lookup f = some ⟨oc, od, .func (fnOf "law" "law" params body scope dV kV doc pm an cdv ct), sl⟩) (e3 : codeIn K cdv "law" = true) .. : ∃ t, My.Txt K t

set_option maxRecDepth 100000 in
set_option maxHeartbeats 0 in
theorem PySem.Challenge.cw_LID_holds : PySem.Challenge.rw_LID.Holds := by
  w_on; o_law; k_head; (case hw => w_witness2)
  k_fill
  refine L2.walk_of (l := PySem.Challenge.rw_LID) (n := 63) (k := 40) (x := "script") (CX := fun w => ..) (sp := fun _ => My.sp_law) rfl (by decide) rfl ⟨rfl, by decide, by decide⟩ (fun w h Y => PySem.W.kIn_of Y) ?F ?S ?C
  case F =>
    intro w mg fa h KX G hmg
    have T : ∃ t, My.Txt (L2.KOf KX) t := by
      dsimp only [L2.KOf]                          -- K must stand as «<heap const> w.params» for k_is
      refine' My.txt_mk ?e1 ?e2 ?e3 ..
      (case e1 => PySem.W.k_is)                    -- in the order: a name -> its address -> its object -> its parts
      (case e2 => PySem.W.k_is)
      ..
    obtain ⟨t, T⟩ := T
    have e0 := hmg.symm.trans (PySem.W.mg_of KX G T.law)
    cases e0                                       -- fa is the law's own address
    exact ⟨_, fun s u => .of_eq rfl, fun base kb nb => My.law_fn T kb nb⟩     -- if «.of_eq rfl» comes too early: refine' ⟨_, ?b, fun base kb nb => My.law_fn T kb nb⟩; exact fun s u => .of_eq rfl
  case S => exact fun w H a ns hl hO hS => ..
  case C => exact ..
(the tactic k_is has no namespace: write k_is) -/

/-! SHORT WORDS over the layer: a def of the text, its body, what a loop and a test want. -/
namespace L2
open PySem PySem.Spec PyProof.Rows

/-! ### the text by places -/
/-- the j-th statement of a class's body -/
def inClass (s : Stmt) (j : Nat) : Stmt := match s with
  | .ClassDef _ _ _ body _ _ _ _ _ _ _ => body.getD j (.Pass ⟨0, 0, 0, 0⟩)
  | _ => .Pass ⟨0, 0, 0, 0⟩
def defArgs (s : Stmt) : Arguments := match s with
  | .FunctionDef _ a _ _ _ _ _ _ _ _ => a
  | _ => { posonlyargs := [], args := [], vararg := none, kwonlyargs := [], kw_defaults := [], kwarg := none, defaults := [] }
def defBody (s : Stmt) : List Stmt := match s with
  | .FunctionDef _ _ b _ _ _ _ _ _ _ => b
  | _ => []
def defScope (s : Stmt) : Scope := match s with
  | .FunctionDef _ _ _ _ _ _ sc _ _ _ => sc
  | _ => { kind := .function, names := [], isGenerator := false, isCoroutine := false }

/-! ### no exception leaves a def -/
abbrev CX0 : CXT := fun _ _ _ _ _ _ => False
abbrev E0 : XK := fun _ _ _ => False
theorem pass0 {X : Cx} : Passes CX0 X E0 := fun _ _ _ _ _ _ _ h => h.elim

/-! ### a def (or method) of the text as it stands behind the top -/
structure Fun (K : PySem.W.Frag) (x qual : Str) (st : Stmt) (f : Addr) (fd : FuncData) : Prop where
  ex : ∃ (oc : Value) (od : Option Addr) (kV doc pm : Value) (an : Option Addr) (cdv ct : Value) (osl : Array (Option Value)),
    fd = PySem.W.fnOf x qual (defArgs st) (defBody st) (defScope st) .none kV doc pm an cdv ct ∧ K.lookup f = some ⟨oc, od, .func fd, osl⟩ ∧ PySem.W.codeIn K cdv qual = true
  kp : PySem.W.keepIn K (.ref f) = true
section
variable {P : Program} {w : World} {K : PySem.W.Frag} {mg : Str → Option Value} {base : Heap}
/-- THE RULE for a def: its body as a term of rules, and the reading of that term -/
theorem Fun.ok {x qual : Str} {st : Stmt} {f : Addr} {fd : FuncData} {N ps : List Str} {k : Nat} {sp : Sp} (F : Fun K x qual st f fd) (S : FnScope N ps (defScope st)) (len : ∀ vs H Q E, sp vs H Q E → vs.length = ps.length)
    (hbody : ∀ (cdv : Value) (A : Around) (outer : List Env) (s : Shared) (H : Hp) (vs : List V) (Q : VK) (E : XK), Room k (A.deeper (envOfC qual (defScope st) s.heap.objs.size f cdv)) → sp vs H Q E →
      ∃ t, PSs (cxOf CX0 P w K mg base N qual (defScope st) f cdv A outer s H E).nox (defBody st) t ∧ t { nx := fun _ H' => Q .non H', rt := Q } (start N vs) H) : FnOk P w K mg base CX0 (k + 1) f fd ps sp := by
  obtain ⟨oc, od, kV, doc, pm, an, cdv, ct, osl, rfl, lk, hcd⟩ := F.ex
  refine fn_of lk hcd S len fun A outer s H vs Q E hr hsp => ?_
  obtain ⟨t, h, q⟩ := hbody cdv A outer s H vs Q E hr hsp
  exact ⟨t, h.nox, q⟩
/-- how its arguments bind (no defaults): h is «fun _ _ _ _ _ _ us hl => match us, hl with | [_, _], _ => rfl», one _ a parameter -/
theorem Fun.binds {x qual : Str} {st : Stmt} {f : Addr} {fd : FuncData} {ps : List Str} (F : Fun K x qual st f fd)
    (h : ∀ (kV doc pm : Value) (an : Option Addr) (cdv ct : Value) (us : List Value), us.length = ps.length → bindArgs (PySem.W.fnOf x qual (defArgs st) (defBody st) (defScope st) .none kV doc pm an cdv ct) ⟨us, []⟩ = pure (ps.zip us)) : Binds K fd ps [] := by
  obtain ⟨oc, od, kV, doc, pm, an, cdv, ct, osl, rfl, lk, hcd⟩ := F.ex
  exact .all (h kV doc pm an cdv ct)
theorem fun_mk {x qual : Str} {st : Stmt} {f : Addr} {oc : Value} {od an : Option Addr} {osl : Array (Option Value)} {kV doc pm cdv ct : Value} (l : K.lookup f = some ⟨oc, od, .func (PySem.W.fnOf x qual (defArgs st) (defBody st) (defScope st) .none kV doc pm an cdv ct), osl⟩)
    (c : PySem.W.codeIn K cdv qual = true) (k : PySem.W.keepIn K (.ref f) = true) : Fun K x qual st f (PySem.W.fnOf x qual (defArgs st) (defBody st) (defScope st) .none kV doc pm an cdv ct) := ⟨⟨oc, od, kV, doc, pm, an, cdv, ct, osl, rfl, l, c⟩, k⟩
end
theorem hu_of {A : Around} {k : Nat} (hr : Room k A) : A.units + 1 < cLine := Nat.lt_of_le_of_lt (Nat.add_le_add_left (by decide : 1 ≤ 64) _) hr.units
theorem small1000 {n : Nat} (h : n ≤ 1000) : n < sizeLine := Nat.lt_of_le_of_lt h (by decide)

/-! ### expressions in short: the name that stands in the i-th slot -/
section
variable {X : Cx}
theorem pv (i : Nat) {x : Str} {pos : Pos} (hN : X.N[i]? = some x := by rfl) (hv : Vis X.env.scope x := by first | exact Or.inl rfl | exact Or.inr (Or.inl rfl) | exact Or.inr (Or.inr rfl)) (hd : (x == ("__debug__" : Str)) = false := by decide)
    (hcd : (x == ("__classdict__" : Str)) = false := by decide) : PE X (.Name x pos) (tVar i) := pe_var hN hv hd hcd
end

/-! ### tests -/
theorem iteF {A B : Prop} (h : B) : if false = true then A else B := by
  rw [if_neg Bool.false_ne_true]
  exact h
theorem iteT {A B : Prop} (h : A) : if true = true then A else B := by
  rw [if_pos rfl]
  exact h
theorem ite2 {c A B : Prop} [Decidable c] (h1 : c → A) (h2 : ¬ c → B) : if c then A else B := by
  by_cases h : c
  · rw [if_pos h]
    exact h1 h
  · rw [if_neg h]
    exact h2 h
theorem iteNS {c A B : Prop} [Decidable c] (hc : c) (h : B) : if (!decide c) = true then A else B := by
  rw [decide_eq_true hc]
  exact iteF h

/-! ### heaps -/
/-- all that was tracked is as it was -/
def Same (H H' : Hp) : Prop := ∀ b o, H b = some o → H' b = some o
theorem Same.refl (H : Hp) : Same H H := fun _ _ h => h
theorem Same.trans {H H1 H2 : Hp} (a : Same H H1) (b : Same H1 H2) : Same H H2 := fun c o h => b c o (a c o h)
theorem Same.free {H H' : Hp} (e : Same H H') {l : Addr} (h : H' l = Option.none) : H l = Option.none := by
  cases q : H l with
  | none => rfl
  | some o =>
    rw [e l o q] at h
    cases h
theorem Same.seq {K : PySem.W.Frag} {H H' : Hp} {a : Addr} {xs : List V} (e : Same H H') (h : SqL K H a xs) : SqL K H' a xs := by
  rcases h with (h | ⟨o, h⟩) | h
  · exact .inl (.inl (e _ _ h))
  · exact .inl (.inr ⟨o, e _ _ h⟩)
  · exact .inr h

end L2
set_option maxHeartbeats 4000000
/-! The mathematics of fractions: whole numbers, divisors, lowest terms. -/
namespace Sw
/-- the divisor of two whole numbers -/
def dv (a b : Int) : Int := (Int.gcd a b : Nat)
theorem dv_nn (a b : Int) : 0 ≤ dv a b := Int.natCast_nonneg _
theorem dv_l (a b : Int) : dv a b ∣ a := Int.gcd_dvd_left a b
theorem dv_r (a b : Int) : dv a b ∣ b := Int.gcd_dvd_right a b
theorem dv_comm (a b : Int) : dv a b = dv b a := by unfold dv; rw [Int.gcd_comm]
theorem dv_negl (a b : Int) : dv (-a) b = dv a b := by unfold dv; rw [Int.neg_gcd]
theorem dv_negr (a b : Int) : dv a (-b) = dv a b := by unfold dv; rw [Int.gcd_neg]
theorem dv_zero (a : Int) (h : 0 ≤ a) : dv a 0 = a := by
  unfold dv; rw [Int.gcd_zero_right]; omega
theorem dv_eq0 {a b : Int} (h : dv a b = 0) : a = 0 ∧ b = 0 := by
  unfold dv at h
  exact Int.gcd_eq_zero_iff.mp (by omega)
theorem dv_pos {a b : Int} (h : b ≠ 0) : 0 < dv a b := by
  have := dv_nn a b
  rcases Int.lt_or_eq_of_le this with q | q
  · exact q
  · exact absurd (dv_eq0 q.symm).2 h
theorem dv_dvd {a b c : Int} (h1 : c ∣ a) (h2 : c ∣ b) : c ∣ dv a b := Int.dvd_coe_gcd h1 h2
theorem dv_ext {a b c d : Int} (h : ∀ x : Int, (x ∣ a ∧ x ∣ b) ↔ (x ∣ c ∧ x ∣ d)) : dv a b = dv c d := by
  have h1 : dv a b ∣ dv c d := dv_dvd ((h _).mp ⟨dv_l a b, dv_r a b⟩).1 ((h _).mp ⟨dv_l a b, dv_r a b⟩).2
  have h2 : dv c d ∣ dv a b := dv_dvd ((h _).mpr ⟨dv_l c d, dv_r c d⟩).1 ((h _).mpr ⟨dv_l c d, dv_r c d⟩).2
  exact Int.dvd_antisymm (dv_nn _ _) (dv_nn _ _) h1 h2
/-- a turn of the divisor's loop -/
theorem dv_step (a b : Int) : dv b (a % b) = dv a b := by
  refine dv_ext fun x => ⟨fun ⟨h1, h2⟩ => ⟨?_, h1⟩, fun ⟨h1, h2⟩ => ⟨h2, ?_⟩⟩
  · have e := Int.mul_ediv_add_emod a b
    rw [← e]
    exact Int.dvd_add (Int.dvd_trans h1 (Int.dvd_mul_right b _)) h2
  · rw [Int.emod_def]
    exact Int.dvd_sub h1 (Int.dvd_trans h2 (Int.dvd_mul_right b _))
theorem dv_abs (a b : Int) : dv (if a < 0 then -a else a) (if b < 0 then -b else b) = dv a b := by
  split <;> split <;> simp only [dv_negl, dv_negr]
theorem dv_sub0 (a b : Int) : dv (0 - a) b = dv a b := by rw [Int.zero_sub, dv_negl]
theorem dv_sub0r (a b : Int) : dv a (0 - b) = dv a b := by rw [Int.zero_sub, dv_negr]
theorem dv_scale (g a b : Int) (h : 0 ≤ g) : dv (g * a) (g * b) = g * dv a b := by
  unfold dv; rw [Int.gcd_mul_left]
  have : ((g.natAbs * a.gcd b : Nat) : Int) = (g.natAbs : Int) * (a.gcd b : Nat) := by simp
  rw [this]; congr 1; omega
/-- what two come to by their divisor has none -/
theorem dv_quot {a b : Int} (h : dv a b ≠ 0) : dv (a / dv a b) (b / dv a b) = 1 := by
  have hp : 0 < dv a b := by have := dv_nn a b; omega
  have e1 : a = dv a b * (a / dv a b) := (Int.mul_ediv_cancel' (dv_l a b)).symm
  have e2 : b = dv a b * (b / dv a b) := (Int.mul_ediv_cancel' (dv_r a b)).symm
  have e : dv a b = dv a b * dv (a / dv a b) (b / dv a b) := by
    have := dv_scale (dv a b) (a / dv a b) (b / dv a b) (Int.le_of_lt hp)
    rw [← e1, ← e2] at this
    exact this
  have e' : dv a b * 1 = dv a b * dv (a / dv a b) (b / dv a b) := by rw [Int.mul_one]; exact e
  exact (Int.eq_of_mul_eq_mul_left (by omega) e').symm
theorem mod_of_dvd {a b : Int} (h : b ∣ a) : a % b = 0 := Int.emod_eq_zero_of_dvd h

/-- a fraction in lowest terms -/
structure Fr (n d : Int) : Prop where
  pos : 0 < d
  low : dv n d = 1
/-- coprime n | n*x.. -/
theorem cop_dvd {n d x : Int} (h : dv n d = 1) (q : d ∣ n * x) : d ∣ x := by
  have h' : Nat.Coprime d.natAbs n.natAbs := by
    unfold dv at h
    have : Int.gcd n d = 1 := by omega
    unfold Nat.Coprime
    rw [Nat.gcd_comm]; exact this
  have q' : d.natAbs ∣ n.natAbs * x.natAbs := by rw [← Int.natAbs_mul]; exact Int.natAbs_dvd_natAbs.mpr q
  exact Int.natAbs_dvd_natAbs.mp (h'.dvd_of_dvd_mul_left q')
/-- two fractions that stand alike are one -/
theorem Fr.uniq {n d m e : Int} (h : Fr n d) (k : Fr m e) (q : n * e = m * d) : n = m ∧ d = e := by
  have h1 : d ∣ e := cop_dvd h.low ⟨m, by rw [q, Int.mul_comm]⟩
  have h2 : e ∣ d := cop_dvd k.low ⟨n, by rw [← q, Int.mul_comm]⟩
  have e1 : d = e := Int.dvd_antisymm (Int.le_of_lt h.pos) (Int.le_of_lt k.pos) h1 h2
  subst e1
  have := h.pos
  exact ⟨Int.eq_of_mul_eq_mul_right (by omega) q, rfl⟩

/-- the fraction of two whole numbers -/
def rN (t b : Int) : Int := if b < 0 then t / (-(dv t b)) else t / dv t b
def rD (t b : Int) : Int := if b < 0 then b / (-(dv t b)) else b / dv t b
theorem rN_mul {t b : Int} : rN t b * (if b < 0 then -(dv t b) else dv t b) = t := by
  unfold rN
  split
  · exact Int.ediv_mul_cancel (Int.neg_dvd.mpr (dv_l t b))
  · exact Int.ediv_mul_cancel (dv_l t b)
theorem rD_mul {t b : Int} : rD t b * (if b < 0 then -(dv t b) else dv t b) = b := by
  unfold rD
  split
  · exact Int.ediv_mul_cancel (Int.neg_dvd.mpr (dv_r t b))
  · exact Int.ediv_mul_cancel (dv_r t b)
theorem rat_cross {t b : Int} (h : b ≠ 0) : rN t b * b = rD t b * t := by
  have e1 := rN_mul (t := t) (b := b)
  have e2 := rD_mul (t := t) (b := b)
  generalize (if b < 0 then -(dv t b) else dv t b) = c at e1 e2
  calc rN t b * b = rN t b * (rD t b * c) := by rw [e2]
    _ = rD t b * (rN t b * c) := by rw [← Int.mul_assoc, ← Int.mul_assoc, Int.mul_comm (rN t b)]
    _ = rD t b * t := by rw [e1]
theorem rat_fr {t b : Int} (h : b ≠ 0) : Fr (rN t b) (rD t b) := by
  have hp := dv_pos (a := t) h
  refine ⟨?_, ?_⟩
  · unfold rD
    by_cases hb : b < 0
    · rw [if_pos hb, Int.ediv_neg]
      obtain ⟨k, hk⟩ := dv_r t b
      have : b / dv t b = k := Int.ediv_eq_of_eq_mul_right (by omega) hk
      rw [this]
      rcases Int.lt_or_le k 0 with q | q
      · omega
      · have := Int.mul_nonneg (Int.le_of_lt hp) q; omega
    · rw [if_neg hb]
      obtain ⟨k, hk⟩ := dv_r t b
      have : b / dv t b = k := Int.ediv_eq_of_eq_mul_right (by omega) hk
      rw [this]
      rcases Int.lt_or_le 0 k with q | q
      · exact q
      · have := Int.mul_nonneg_of_nonpos_of_nonpos (a := -(dv t b)) (b := k) (by omega) q
        rw [Int.neg_mul] at this
        omega
  · have q := dv_quot (a := t) (b := b) (by omega)
    unfold rN rD
    by_cases hb : b < 0
    · rw [if_pos hb, if_pos hb, Int.ediv_neg, Int.ediv_neg, dv_negl, dv_negr]; exact q
    · rw [if_neg hb, if_neg hb]; exact q
theorem rat_uniq {t b n d : Int} (h : b ≠ 0) (f : Fr n d) (q : n * b = d * t) : rN t b = n ∧ rD t b = d := by
  refine Fr.uniq (rat_fr h) f ?_
  have e := rat_cross (t := t) h
  have hb : b ≠ 0 := h
  refine Int.eq_of_mul_eq_mul_right hb ?_
  calc rN t b * d * b = (rN t b * b) * d := by rw [Int.mul_assoc, Int.mul_comm d b, ← Int.mul_assoc]
    _ = rD t b * t * d := by rw [e]
    _ = rD t b * (d * t) := by rw [Int.mul_assoc, Int.mul_comm t d]
    _ = rD t b * (n * b) := by rw [q]
    _ = n * rD t b * b := by rw [← Int.mul_assoc, Int.mul_comm (rD t b) n]

/-! sizes: a whole number below 2 ^ n -/
def Sz (n : Nat) (x : Int) : Prop := x.natAbs < 2 ^ n
theorem Sz.mono {m n : Nat} {x : Int} (h : Sz m x) (hm : m ≤ n) : Sz n x := Nat.lt_of_lt_of_le h (Nat.pow_le_pow_right (by decide) hm)
theorem Sz.mul {m n : Nat} {x y : Int} (h : Sz m x) (k : Sz n y) : Sz (m + n) (x * y) := by
  unfold Sz at *
  rw [Int.natAbs_mul, Nat.pow_add]
  by_cases hy : y.natAbs = 0
  · rw [hy, Nat.mul_zero]; exact Nat.mul_pos (Nat.two_pow_pos m) (Nat.two_pow_pos n)
  · exact Nat.mul_lt_mul_of_lt_of_lt h k
theorem Sz.add {n : Nat} {x y : Int} (h : Sz n x) (k : Sz n y) : Sz (n + 1) (x + y) := by
  unfold Sz at *
  rw [Nat.pow_succ]; omega
theorem Sz.sub {n : Nat} {x y : Int} (h : Sz n x) (k : Sz n y) : Sz (n + 1) (x - y) := by
  unfold Sz at *
  rw [Nat.pow_succ]; omega
theorem Sz.neg {n : Nat} {x : Int} (h : Sz n x) : Sz n (-x) := by unfold Sz at *; omega
theorem Sz.le {n : Nat} {x y : Int} (h : Sz n y) (k : x.natAbs ≤ y.natAbs) : Sz n x := Nat.lt_of_le_of_lt k h
theorem Sz.zero (n : Nat) : Sz n 0 := Nat.two_pow_pos n
theorem Sz.of {n : Nat} {x : Int} (h1 : -(2 ^ n : Nat) < x) (h2 : x < (2 ^ n : Nat)) : Sz n x := by unfold Sz; omega
theorem Sz.div {n : Nat} {x y : Int} (h : Sz n x) : Sz n (x / y) := by
  unfold Sz at *
  rcases Int.le_total 0 x with q | q
  · have := Int.natAbs_ediv_le_natAbs x y
    omega
  · have := Int.natAbs_ediv_le_natAbs x y
    omega
theorem Sz.dvd {n : Nat} {x y : Int} (h : Sz n y) (d : x ∣ y) (hy : y ≠ 0) : Sz n x := by
  refine h.le ?_
  exact Nat.le_of_dvd (by omega) (Int.natAbs_dvd_natAbs.mpr d)
end Sw
namespace Sw
theorem Sz.lit {x : Int} (h : x.natAbs < 1606938044258990275541962092341162602522202993782792835301376) : Sz 5000 x := by
  have e : (2 : Nat) ^ 200 = 1606938044258990275541962092341162602522202993782792835301376 := by decide
  exact Nat.lt_of_lt_of_le (by rw [e]; exact h) (Nat.pow_le_pow_right (by decide) (by decide : 200 ≤ 5000))
end Sw
namespace Sw
theorem Sz.r60 {x : Int} (h1 : -1000000000000000000000000000000000000000000000000000000000000 < x) (h2 : x < 1000000000000000000000000000000000000000000000000000000000000) : Sz 200 x := by
  have e : (2 : Nat) ^ 200 = 1606938044258990275541962092341162602522202993782792835301376 := by decide
  unfold Sz; rw [e]; omega
theorem floor_lo {n m : Int} (h : 0 < m) : n / m * m ≤ n := Int.ediv_mul_le n (by omega)
theorem floor_hi {n m : Int} (h : 0 < m) : n < (n / m + 1) * m := Int.lt_ediv_add_one_mul_self n h
theorem ceil_lo {n m : Int} (h : 0 < m) : (-((-n) / m) - 1) * m < n := by
  have q := floor_hi (n := -n) h
  have e : (-(-n / m) - 1) * m = -((-n / m + 1) * m) := by rw [← Int.neg_mul]; congr 1; omega
  omega
theorem ceil_hi {n m : Int} (h : 0 < m) : n ≤ -((-n) / m) * m := by
  have q := floor_lo (n := -n) h
  rw [Int.neg_mul]; omega
end Sw
namespace Sw
theorem Sz.r18 {x : Int} (h1 : -100000000000000000000 < x) (h2 : x < 100000000000000000000) : Sz 70 x := by
  have e : (2 : Nat) ^ 70 = 1180591620717411303424 := by decide
  unfold Sz; rw [e]; omega
theorem Sz.one (n : Nat) : Sz (n + 1) 1 := by
  unfold Sz
  exact Nat.lt_of_lt_of_le (by decide : Int.natAbs 1 < 2 ^ 1) (Nat.pow_le_pow_right (by decide) (by omega))
end Sw
namespace L2
open PySem PySem.Spec PyProof.Rows
/-! ### rules of our own over the layer -/
theorem bits_of_sz {n : Nat} {x : Int} (h : Sw.Sz n x) : Builtin.Int.intBits x ≤ n := by
  unfold Builtin.Int.intBits
  split
  · exact Nat.zero_le _
  · rename_i hx
    have hx' : x ≠ 0 := by simpa using hx
    have : x.natAbs.log2 < n := (Nat.log2_lt (by omega)).mpr h
    omega
def CMulL (i j : Int) : Prop := Sw.Sz 5000 i ∧ Sw.Sz 5000 j
def CDivL (i j : Int) : Prop := 0 < j ∧ Sw.Sz 5000 j
def CDivS (i j : Int) : Prop := j ≠ 0 ∧ Sw.Sz 5000 j
theorem pylong_of {i j : Int} (h0 : j ≠ 0) (h : Sw.Sz 5000 j) : Builtin.divisionGoesByPylong i j = false := by
  refine PyProof.noPylong_of_log2 ?_
  have : j.natAbs.log2 < 5000 := (Nat.log2_lt (by omega)).mpr h
  omega
section
variable {X : Cx}
theorem op_mulL : OpR X (binaryOp .Mult) (rI CMulL fun i j => .int (i * j)) := opI fun _ _ _ _ _ _ _ hc q =>
  mul_int q (IntMulOk.of_bits (Nat.le_trans (bits_of_sz hc.1) (by decide)) (Nat.le_trans (bits_of_sz hc.2) (by decide)))
/-- // by a positive divisor of at most 5000 bits -/
theorem op_fdivL : OpR X (binaryOp .FloorDiv) (rI CDivL fun i j => .int (i / j)) := opI fun i j _ _ _ _ _ hc q => by
  have h1 : (0 : Int) < j := hc.1
  exact floordiv_int (by omega) (by rw [Int.fdiv_eq_ediv_of_nonneg i (by omega)]; exact q) (.inl (pylong_of (by omega) hc.2))
/-- // by a divisor of either sign -/
theorem op_fdivS : OpR X (binaryOp .FloorDiv) (rI CDivS fun i j => .int (i.fdiv j)) := opI fun _ _ _ _ _ _ _ hc q => floordiv_int hc.1 q (.inl (pylong_of hc.1 hc.2))
/-! isinstance -/
def clsV : V → Option Value
  | .ty n => some (.type n)
  | .ref a => some (.ref a)
  | _ => none
theorem call_isinst : CallR X (.builtin "isinstance") (fun xs H Q => ∃ x c t cv b, xs = [x, c] ∧ clsV c = some cv ∧ TyOf X.K H x t ∧ PySem.W.kitOne X.K t cv = some b ∧ Q (.bl b) H) := by
  intro pins s σ H xs us Q I r h
  obtain ⟨x, c, t, cv, b, rfl, hc, ty, e, q⟩ := h
  obtain ⟨u, v, rfl, rx, rc⟩ := Vals.two r
  have ec : v = cv := by
    cases c with
    | ty n => cases (show v = Value.type n from rc); exact Option.some.inj hc
    | ref a => cases (show v = Value.ref a from rc); exact Option.some.inj hc
    | _ => cases hc
  subst ec
  exact isinst_ok I rx ty e fun tk => ⟨.bl b, H, I.tok _, rfl, q⟩
/-! a def of the text with its promise, as a caller takes it -/
structure Def (P : Program) (w : World) (K : PySem.W.Frag) (mg : Str → Option Value) (base : Heap) (CX : CXT) (k : Nat) (x : Str) (ps : List Str) (sp : Sp) : Prop where
  ex : ∃ (f : Addr) (fd : FuncData), FnOk P w K mg base CX k f fd ps sp ∧ Binds K fd ps [] ∧ PySem.W.keepIn K (.ref f) = true ∧ mg x = some (.ref f)
theorem pe_callD {CX : CXT} {k : Nat} {x : Str} {ps : List Str} {sp : Sp} {E : XK} {p pos : Pos} {e : Expr} {es : List Expr} {t : TA} (D : Def X.prog X.w X.K X.mg X.base CX k x ps sp) (hr : Room k X.A) (hg : Gl X x) (hx : Passes CX X E) (ha : PA X (e :: es) t)
    (hdb : (x == ("__debug__" : Str)) = false := by decide) (he : starEach (e :: es) X.env = (false, eval e X.env) :: starEach es X.env := by rfl) (hpl : (backTo pos (starEach es X.env)).any (·.1) = false := by rfl) :
    PE X (.Call (.Name x p) (e :: es) [] pos) (tCall sp [] E t) := by
  obtain ⟨f, fd, F, hb, hk, hm⟩ := D.ex
  exact pe_call F hr hg hm hk hb .nil hx ha hdb he hpl
/-- a def as it stands behind the top: what is to be shown of it -/
structure Src (K : PySem.W.Frag) (mg : Str → Option Value) (x : Str) (st : Stmt) (ps : List Str) : Prop where
  ex : ∃ (f : Addr) (fd : FuncData), Fun K x x st f fd ∧ Binds K fd ps [] ∧ mg x = some (.ref f)
theorem Src.ok {P : Program} {w : World} {K : PySem.W.Frag} {mg : Str → Option Value} {base : Heap} {x : Str} {st : Stmt} {N ps : List Str} {k : Nat} {sp : Sp} (F : Src K mg x st ps) (S : FnScope N ps (defScope st)) (len : ∀ vs H Q E, sp vs H Q E → vs.length = ps.length)
    (hbody : ∀ (f : Addr) (cdv : Value) (A : Around) (outer : List Env) (s : Shared) (H : Hp) (vs : List V) (Q : VK) (E : XK), Room k (A.deeper (envOfC x (defScope st) s.heap.objs.size f cdv)) → sp vs H Q E →
      ∃ t, PSs (cxOf CX0 P w K mg base N x (defScope st) f cdv A outer s H E).nox (defBody st) t ∧ t { nx := fun _ H' => Q .non H', rt := Q } (start N vs) H) : Def P w K mg base CX0 (k + 1) x ps sp := by
  obtain ⟨f, fd, F, b, m⟩ := F.ex
  exact ⟨f, fd, F.ok S len (hbody f), b, F.kp, m⟩
end
end L2
namespace L2
/-- a while whose test is told beforehand and changes nothing -/
theorem while_det {c : TT} {tb : TS} {D : Ends} {σ : St} {H : Hp} (Pv : St → Hp → Prop) (μ : St → Hp → Nat) (h0 : Pv σ H)
    (hs : ∀ σ H, Pv σ H → ∃ b : Bool, (∀ Q : Bool → Hp → Prop, Q b H → c σ H Q) ∧ (b = true → tb { D with nx := fun σ' H' => Pv σ' H' ∧ μ σ' H' < μ σ H, ct := fun σ' H' => Pv σ' H' ∧ μ σ' H' < μ σ H, bk := D.nx } σ H) ∧ (b = false → D.nx σ H)) : tWhile c tb D σ H := by
  refine ⟨fun m σ H => m = μ σ H ∧ Pv σ H, ⟨_, rfl, h0⟩, ?_⟩
  rintro m σ H ⟨rfl, p⟩
  obtain ⟨b, hc, h1, h2⟩ := hs σ H p
  refine hc _ ?_
  cases b with
  | true => exact ⟨_, fun σ' H' ⟨p', l⟩ => ⟨_, l, rfl, p'⟩, h1 rfl⟩
  | false => exact h2 rfl
end L2
namespace L2
open PySem PySem.Spec PyProof.Rows
/-- a whole number of the module -/
theorem pe_globI {X : Cx} {x : Str} {n : Int} {pos : Pos} (hg : Gl X x) (hm : ∃ t, X.mg x = some (.int n t)) (hd : (x == ("__debug__" : Str)) = false := by decide) : PE X (.Name x pos) (tC (.int n)) := by
  obtain ⟨t, hm⟩ := hm
  exact pe_glob hg hm ⟨t, rfl⟩ hd
/-- law's promise: a list of at most 63 whole numbers is handed in, True comes out -/
def spLaw (K : PySem.W.Frag) : Sp := fun vs H Q _ => ∃ (a : Addr) (ns : List Int), vs = [.ref a] ∧ SqL K H a (ns.map V.int) ∧ ns.length ≤ 63 ∧ ∀ H', Q (.bl true) H'
end L2
namespace L2
open PySem PySem.Spec PyProof.Rows
/-! ### promises that come again and again -/
def spInt1 (g : Int → Int) : Sp := fun vs H Q _ => ∃ a, vs = [.int a] ∧ Q (.int (g a)) H
def spInt2 (g : Int → Int → Int) : Sp := fun vs H Q _ => ∃ a b, vs = [.int a, .int b] ∧ Q (.int (g a b)) H
/-- the cell at a place, 0 beyond the script -/
def cellI (ns : List Int) (k : Int) : Int := (ns[k.toNat]?).getD 0
def spCell (K : PySem.W.Frag) : Sp := fun vs H Q _ => ∃ a ns k, vs = [.ref a, .int k] ∧ SqL K H a (ns.map V.int) ∧ 0 ≤ k ∧ Q (.int (cellI ns k)) H
theorem cellAt_get {ns : List Int} {k : Int} (h0 : 0 ≤ k) (h : k < ns.length) : atI (ns.map V.int) k = some (V.int (cellI ns k)) := by
  have e : ((k.toNat : Nat) : Int) = k := by omega
  have hl : k.toNat < ns.length := by omega
  have q : (ns.map V.int)[k.toNat]? = some (V.int (cellI ns k)) := by
    rw [List.getElem?_map]
    unfold cellI
    rw [List.getElem?_eq_getElem hl]
    rfl
  have := atI_nat q
  rw [e] at this
  exact this
theorem cellAt_none {ns : List Int} {k : Int} (h0 : 0 ≤ k) (h : ¬ k < ns.length) : cellI ns k = 0 := by
  unfold cellI
  rw [List.getElem?_eq_none (by omega)]
  rfl
/-- a whole number is one -/
def spWhole : Sp := fun vs H Q _ => ∃ n, vs = [.int n] ∧ Q (.bl true) H
theorem kit_int_int {K : PySem.W.Frag} : PySem.W.kitOne K (.type "int") (.type "int") = some true := by rfl
theorem kit_int_bool {K : PySem.W.Frag} : PySem.W.kitOne K (.type "int") (.type "bool") = some false := by first | rfl | decide
end L2
namespace L2
/-- a statement, then the rest: the rest as one word -/
theorem seq_step {t u : TS} {D : Ends} {σ : St} {H : Hp} (h : ∀ R : St → Hp → Prop, (∀ σ H, u D σ H → R σ H) → t { D with nx := R } σ H) : tSeq t u D σ H := h (u D) fun _ _ x => x
end L2
namespace L2
open PySem PySem.Spec PyProof.Rows
theorem spCell_of {K : PySem.W.Frag} {H : Hp} {a : Addr} {ns : List Int} {k : Int} {Q : VK} {E : XK} (hS : SqL K H a (ns.map V.int)) (h0 : 0 ≤ k) (q : Q (.int (cellI ns k)) H) : spCell K [.ref a, .int k] H Q E := ⟨a, ns, k, rfl, hS, h0, q⟩
theorem sz_bool {P Q : Prop} (h : P ∧ Q) : P ∧ Q := h
end L2
namespace L2
theorem cmulL_lit {a b : Int} (h1 : a.natAbs < 1606938044258990275541962092341162602522202993782792835301376) (h2 : b.natAbs < 1606938044258990275541962092341162602522202993782792835301376) : CMulL a b := ⟨Sw.Sz.lit h1, Sw.Sz.lit h2⟩
theorem cdivL_lit {a b : Int} (h0 : 0 < b) (h2 : b.natAbs < 1606938044258990275541962092341162602522202993782792835301376) : CDivL a b := ⟨h0, Sw.Sz.lit h2⟩
end L2
namespace L2
open PySem
theorem line_lit {n : Nat} (h : n ≤ 1000) : n ≤ sizeLine := Nat.le_trans h (by decide)
theorem line_lt {n : Nat} (h : n < 1000) : n < sizeLine := Nat.lt_of_lt_of_le h (by decide)
end L2
namespace L2
open PySem
/-- t[i] -/
theorem ixT_at {K : PySem.W.Frag} {H : Hp} {p : Addr} {xs : List V} {i : Int} {v : V} {Q : VK} (hT : SqT K H p xs) (h : atI xs i = some v) (q : Q v H) : rIxT K (.ref p) (.int i) H Q := ⟨p, xs, i, v, rfl, rfl, hT, h, q⟩
theorem ixL_at {K : PySem.W.Frag} {H : Hp} {p : Addr} {xs : List V} {i : Int} {v : V} {Q : VK} (hT : SqL K H p xs) (h : atI xs i = some v) (q : Q v H) : rIxL K (.ref p) (.int i) H Q := ⟨p, xs, i, v, rfl, rfl, hT, h, q⟩
end L2
namespace L2
open PySem PySem.Spec PyProof.Rows
theorem kit_tuple {K : PySem.W.Frag} : PySem.W.kitOne K (.type "tuple") (.type "tuple") = some true := by rfl
theorem kit_list {K : PySem.W.Frag} : PySem.W.kitOne K (.type "list") (.type "list") = some true := by rfl
theorem kit_bool {K : PySem.W.Frag} : PySem.W.kitOne K (.type "bool") (.type "bool") = some true := by rfl
end L2
namespace L2
theorem iteP {c A B : Prop} [Decidable c] (hc : c) (h : A) : if c then A else B := by rw [if_pos hc]; exact h
theorem iteN {c A B : Prop} [Decidable c] (hc : ¬ c) (h : B) : if c then A else B := by rw [if_neg hc]; exact h
end L2
namespace L2
/-- [x, y][c % 2] -/
theorem pick2 {x y : V} {c : Int} : atI [x, y] (c % 2) = some (if c % 2 = 0 then x else y) := by
  rcases (by omega : c % 2 = 0 ∨ c % 2 = 1) with h | h
  · rw [h]; rfl
  · rw [h]; rfl
theorem pick2i {x y c : Int} : atI [V.int x, V.int y] (c % 2) = some (.int (if c % 2 = 0 then x else y)) := by
  rw [pick2]; split <;> rfl
end L2
namespace L2
open PySem PySem.Spec PyProof.Rows
/-! ### == and != of data -/
mutual
inductive Deep (K : PySem.W.Frag) (H : Hp) : V → PyData → Prop
  | non : Deep K H .non .none
  | bl (b : Bool) : Deep K H (.bl b) (.bool b)
  | int (i : Int) : Deep K H (.int i) (.int i)
  | str (x : Str) : Deep K H (.str x) (.str x)
  | tup {a : Addr} {xs : List V} {ds : List PyData} : SqT K H a xs → DeepAll K H xs ds → Deep K H (.ref a) (.tuple ds)
  | lst {a : Addr} {xs : List V} {ds : List PyData} : SqL K H a xs → DeepAll K H xs ds → Deep K H (.ref a) (.list ds)
inductive DeepAll (K : PySem.W.Frag) (H : Hp) : List V → List PyData → Prop
  | nil : DeepAll K H [] []
  | cons {x : V} {d : PyData} {xs : List V} {ds : List PyData} : Deep K H x d → DeepAll K H xs ds → DeepAll K H (x :: xs) (d :: ds)
end
section
variable {X : Cx} {pins : List (Addr × Obj)} {σ : St} {H : Hp} {s : Shared}
mutual
theorem deep_reads (I : Inv X pins σ H s) : ∀ {x : V} {d : PyData} {u : Value}, Deep X.K H x d → RelV x u → ∃ as, Reads s.heap u d as
  | _, _, u, .non, r => by cases (show u = Value.none from r); exact ⟨_, .none⟩
  | _, _, u, .bl b, r => by cases (show u = Value.bool b from r); exact ⟨_, .bool b⟩
  | _, _, u, .int i, r => by obtain ⟨t, rfl⟩ := (show ∃ t, u = Value.int i t from r); exact ⟨_, .int i t⟩
  | _, _, u, .str x, r => by obtain ⟨t, rfl⟩ := (show ∃ t, u = Value.str x t from r); exact ⟨_, .str x t⟩
  | _, _, u, .tup (a := a) q h, r => by
    cases (show u = Value.ref a from r)
    obtain ⟨its, rv, ⟨o, e, c, n, d⟩, hz⟩ := I.tuple q
    obtain ⟨as, ra⟩ := deep_readsAll I h rv
    exact ⟨as, reads_tuple_at e c d (by simpa using ra)⟩
  | _, _, u, .lst (a := a) q h, r => by
    cases (show u = Value.ref a from r)
    obtain ⟨its, rv, ⟨o, n, e, c, _, d⟩, hz⟩ := I.list q
    obtain ⟨as, ra⟩ := deep_readsAll I h rv
    exact ⟨_, reads_list_at e c d (by simpa using ra)⟩
theorem deep_readsAll (I : Inv X pins σ H s) : ∀ {xs : List V} {ds : List PyData} {us : List Value}, DeepAll X.K H xs ds → Vals xs us → ∃ as, ReadsAll s.heap us ds as
  | _, _, _, .nil, .nil => ⟨_, .nil⟩
  | _, _, _, .cons d h, .cons r t => by
    obtain ⟨as, q⟩ := deep_reads I d r
    obtain ⟨bs, p⟩ := deep_readsAll I h t
    exact ⟨_, .cons q p⟩
end
end
section
variable {X : Cx}
def rEqD (K : PySem.W.Frag) : R2 := fun x y H Q => ∃ d e, Deep K H x d ∧ Deep K H y e ∧ PySem.SeqAt.shaped d = true ∧ PySem.SeqAt.shaped e = true ∧ Q (.bl (PyData.eqv d e)) H
def rNeD (K : PySem.W.Frag) : R2 := fun x y H Q => ∃ d e, Deep K H x d ∧ Deep K H y e ∧ PySem.SeqAt.shaped d = true ∧ PySem.SeqAt.shaped e = true ∧ Q (.bl (!PyData.eqv d e)) H
theorem op_eqD (hu : X.A.units + 64 < cLine) : OpR X (compareOp .Eq) (rEqD X.K) := by
  intro pins s σ H x y v u Q I rx ry h
  obtain ⟨d, e, hd, he, sd, se, q⟩ := h
  obtain ⟨as, ra⟩ := deep_reads I hd rx
  obtain ⟨bs, rb⟩ := deep_reads I he ry
  exact eq_dataH ra rb sd se hu ⟨.bl _, H, I, rfl, q⟩
theorem op_neD (hu : X.A.units + 64 < cLine) : OpR X (compareOp .NotEq) (rNeD X.K) := by
  intro pins s σ H x y v u Q I rx ry h
  obtain ⟨d, e, hd, he, sd, se, q⟩ := h
  obtain ⟨as, ra⟩ := deep_reads I hd rx
  obtain ⟨bs, rb⟩ := deep_reads I he ry
  exact ne_dataH ra rb sd se hu ⟨.bl _, H, I, rfl, q⟩
end
/-! data that is kept where the heap keeps what it tracks -/
theorem Same.seqT {K : PySem.W.Frag} {H H' : Hp} {a : Addr} {xs : List V} (e : Same H H') (h : SqT K H a xs) : SqT K H' a xs := by
  rcases h with h | h
  · refine .inl ?_
    rcases h with h | ⟨o, h⟩
    · exact .inl (e _ _ h)
    · exact .inr ⟨o, e _ _ h⟩
  · exact .inr h
mutual
theorem Deep.same {K : PySem.W.Frag} {H H' : Hp} (e : Same H H') : ∀ {x : V} {d : PyData}, Deep K H x d → Deep K H' x d
  | _, _, .non => .non
  | _, _, .bl b => .bl b
  | _, _, .int i => .int i
  | _, _, .str x => .str x
  | _, _, .tup q h => .tup (e.seqT q) (DeepAll.same e h)
  | _, _, .lst q h => .lst (e.seq q) (DeepAll.same e h)
theorem DeepAll.same {K : PySem.W.Frag} {H H' : Hp} (e : Same H H') : ∀ {xs : List V} {ds : List PyData}, DeepAll K H xs ds → DeepAll K H' xs ds
  | _, _, .nil => .nil
  | _, _, .cons d h => .cons (Deep.same e d) (DeepAll.same e h)
end
theorem DeepAll.ints {K : PySem.W.Frag} {H : Hp} : ∀ ns : List Int, DeepAll K H (ns.map V.int) (ns.map PyData.int)
  | [] => .nil
  | n :: r => .cons (.int n) (DeepAll.ints r)
theorem same_new {H : Hp} {a : Addr} {o : HO} (h : H a = none) : Same H (upd H a o) := fun b u e => by rw [upd_ne (ne_of_none e h)]; exact e
end L2
namespace L2
open PySem PySem.Spec PyProof.Rows
/-! ### enumerate over a list -/
def Ite (K : PySem.W.Frag) (a : Addr) : It :=
  ⟨fun i H => ∃ xs x, SqL K H a xs ∧ xs[i]? = some x,
   fun i H y H' => ∃ p x, y = .ref p ∧ H p = none ∧ (∀ xs, SqL K H a xs → xs[i]? = some x) ∧ H' = upd H p (.tup [.int i, x]),
   fun i H => ∃ xs, SqL K H a xs ∧ xs.length ≤ i⟩
theorem turn_enum {P : Program} {w : World} {K : PySem.W.Frag} {elts : List Expr} {x1} {pos : Pos} (a e it : Addr) (hei : e ≠ it) :
    Turn P w K (.Tuple elts x1 pos) (Ite K a) [e, it] e (fun i h => (∃ old, IsEnum h e it ((i : Nat) : Int) old) ∧ h.IsListIter it a i) where
  mem := by simp
  obj := fun i h st b hb => by
    obtain ⟨⟨old, he⟩, hit⟩ := st
    rcases List.mem_cons.mp hb with rfl | hb
    · exact ⟨_, he, fun v z => by cases z⟩
    · have e : b = it := by simpa using hb
      subst e
      obtain ⟨o, e, c, d⟩ := hit
      exact ⟨o, e, fun v z => by rw [d] at z; cases z⟩
  keep := fun i h h' st k => by
    obtain ⟨⟨old, he⟩, hit⟩ := st
    exact ⟨⟨old, k e (by simp) _ he⟩, hit.at fun o q => k it (by simp) o q⟩
  item := by
    intro X hP hw hK hc i pins s σ H E I hf st hg
    subst hP hw hK
    obtain ⟨⟨old, he⟩, hit⟩ := st
    obtain ⟨xs, x, hq, hx⟩ := hg
    obtain ⟨its, rv, p, hz⟩ := I.list hq
    obtain ⟨u, hu, ru⟩ := rv.get hx
    obtain ⟨f0, f1, f2, f3, f4, f5⟩ := hf e (by simp)
    obtain ⟨g0, g1, g2, g3, g4, g5⟩ := hf it (by simp)
    have hes : e < s.heap.objs.size := Heap.lt_size he
    have his : it < s.heap.objs.size := by obtain ⟨o, q, _⟩ := id hit; exact Heap.lt_size q
    refine wpAny_pyNext_enum_item he hit p.isList (x := u) (by simpa using hu) hei fun h1 heo hit1 ht1 hz1 hk1 => ?_
    refine ⟨.ref s.heap.objs.size, rfl, wpAny_letOwnedTupleGo_enum heo fun h2 he2 hs2 => ?_⟩
    have hs2' : Heap.SameBut e h1 h2 := hs2
    have hit2 : h2.IsListIter it a (i + 1) := hit1.at fun o q => (hs2'.2 it (Ne.symm hei)).trans q
    have fresh : H s.heap.objs.size = none := I.hok.fresh (Nat.le_refl _)
    have htup : h2.get? s.heap.objs.size = some { cls := .type "tuple", data := .seq #[.int i s.toks, u] } := (hs2'.2 _ (Nat.ne_of_gt hes)).trans ht1
    have nit : ∀ b v, H b = some v → b ≠ e ∧ b ≠ it := fun b v q => ⟨fun z => (by rw [z, f0] at q; cases q), fun z => (by rw [z, g0] at q; cases q)⟩
    have k2 : ∀ b o, b ≠ e → b ≠ it → s.heap.get? b = some o → h2.get? b = some o := fun b o n1 n2 q => (hs2'.2 b n1).trans (hk1 b o n1 n2 q)
    have up : ∀ b o, H b = some o → (upd H s.heap.objs.size (.tup [.int i, x])) b = some o := fun b o q => by rw [upd_ne (ne_of_none q fresh)]; exact q
    have I2 : Inv X pins σ (upd H s.heap.objs.size (.tup [.int i, x])) { s with heap := h2, toks := s.toks + 1 } := by
      refine I.step (g' := s.gens) (d' := s.drawn) (ch := [e, it]) (fun b hb => ?_) (fun b o _ _ hc q _ => k2 b o (fun z => hc (by simp [z])) (fun z => hc (by simp [z])) q)
        (fun b o _ _ hc q _ => ⟨o.slots, k2 b o (fun z => hc (by simp [z])) (fun z => hc (by simp [z])) q⟩) (fun b o _ q n => by rw [upd_ne (Nat.ne_of_lt (Heap.lt_size q))]; exact n)
        (fun b o hc q => ?_) (fun b ys q => up b _ q) (fun b ob v q => up b _ q) (fun b ps q => ⟨#[], by rw [up b _ q]; simp⟩) (fun m hm => ?_) (fun b v q => ?_) I.bare
      · rcases List.mem_cons.mp hb with rfl | hb
        · exact ⟨f3, f1, f4, f5⟩
        · have z : b = it := by simpa using hb
          subst z
          exact ⟨g3, g1, g4, g5⟩
      · exact ⟨o, k2 b o (fun z => hc (by simp [z])) (fun z => hc (by simp [z])) q⟩
      · obtain ⟨o, es, ep, ho, r⟩ := hm
        exact ⟨o, es, ep, k2 _ o (Ne.symm f1) (Ne.symm g1) ho, r⟩
      · by_cases hb : b = s.heap.objs.size
        · subst hb
          rw [upd_same] at q
          cases q
          exact ⟨by show 2 ≤ sizeLine; decide, [.int i s.toks, u], .cons ⟨_, rfl⟩ (.cons ru .nil), _, htup, rfl, _, rfl⟩
        · rw [upd_ne hb] at q
          refine (I.hok b v q).stay (fun c v' hc q' => ?_) (fun c z => up c _ z) fun c ys z => up c _ z
          have hcn : c ≠ e ∧ c ≠ it := by
            rcases hc with z | z
            · rw [z]; exact nit b v q
            · exact nit c _ z
          exact k2 c v' hcn.1 hcn.2 q'
    refine ⟨.ref s.heap.objs.size, _, I2, rfl, ⟨s.heap.objs.size, x, rfl, fresh, fun ys hy => by rw [I.list_inj hy hq]; exact hx, rfl⟩, ⟨⟨u, by simpa using he2⟩, hit2⟩, fun b hb => ?_⟩
    rw [upd_ne]
    · exact (hf b hb).1
    · intro z
      rcases List.mem_cons.mp hb with y | y
      · rw [y] at z; exact absurd z (Nat.ne_of_lt hes)
      · have y : b = it := by simpa using y
        rw [y] at z; exact absurd z (Nat.ne_of_lt his)
  done := by
    intro X hP hw hK hc i pins s σ H E I hf st hg
    subst hP hw hK
    obtain ⟨⟨old, he⟩, hit⟩ := st
    obtain ⟨xs, hq, hx⟩ := hg
    obtain ⟨its, rv, p, hz⟩ := I.list hq
    obtain ⟨g0, g1, g2, g3, g4, g5⟩ := hf it (by simp)
    have hl := rv.length
    exact wpAny_pyNext_enum_end (I.ok.hd hc) he hit p.isList (by simp; omega) fun h' eb => ⟨rfl, I.turned (t' := s.toks) (fun b o hb q => eb b o hb q) g0 g1 g3 g4 g5⟩
  self := fun _ _ _ _ _ st h => by
    obtain ⟨⟨old, he⟩, _⟩ := st
    exact wpAny_pyIter_enum he h
section
variable {X : Cx}
def iEnum (K : PySem.W.Frag) (ta : TA) : TI := fun σ H R => ta σ H fun vs H1 => ∃ a, vs = [.ref a] ∧ (∃ xs, SqL K H1 a xs) ∧ R (Ite K a) H1
theorem pi_enum {l : Expr} {ta : TA} {p pos tpos : Pos} {elts : List Expr} {x1} (hg : Gl X "enumerate") (hm : X.mg "enumerate" = none) (ha : PA X [l] ta) (hs : starEach [l] X.env = [(false, eval l X.env)] := by rfl) :
    PI X (.Tuple elts x1 tpos) (.Call (.Name "enumerate" p) [l] [] pos) (iEnum X.K ta) := by
  intro pins s σ H R I h
  refine Call_ (ld_blt I hg hm boot_enumerate (PyProof.Rows.callWith_type1 (thn (ha pos pins s σ H _ I h) fun us s1 ⟨vs, H1, I1, r1, q1⟩ => ?_) hs rfl))
  obtain ⟨a, rfl, ⟨xs, hq⟩, q⟩ := q1
  obtain ⟨u, rfl, r⟩ := Vals.one r1
  cases r
  obtain ⟨its, rv, p, hz⟩ := I1.list hq
  refine call_enumerate_list p.isList fun h' he hit hsz hk => ?_
  refine wpAny_pyIter_enum he ?_
  refine ⟨s1.heap.objs.size + 1, [s1.heap.objs.size + 1, s1.heap.objs.size], _, _, H1, rfl, I1.kept (t' := s1.toks) hk, turn_enum a _ _ (Nat.succ_ne_self _), ⟨⟨_, he⟩, hit⟩, fun b hb => ?_, q⟩
  rcases List.mem_cons.mp hb with e | e
  · subst e; exact I1.fpOk (Nat.le_succ _) (I1.hok.fresh (Nat.le_succ _))
  · have e : b = s1.heap.objs.size := by simpa using e
    subst e
    exact I1.fpOk (Nat.le_refl _) (I1.hok.fresh (Nat.le_refl _))
end
/-- over an enumerated list that the body leaves as it is -/
theorem for_enum {K : PySem.W.Frag} {a : Addr} {xs : List V} {g : TG} {tb : TS} {D : Ends} {σ : St} {H : Hp} (Pv : Nat → St → Hp → Prop) (h0 : Pv 0 σ H) (hl : ∀ i σ H, i ≤ xs.length → Pv i σ H → SqL K H a xs)
    (hs : ∀ i x σ H p, xs[i]? = some x → Pv i σ H → H p = none → g (.ref p) σ (upd H p (.tup [.int i, x])) fun σ2 H2 => tb { D with nx := Pv (i + 1), ct := Pv (i + 1), bk := D.nx } σ2 H2) (hd : ∀ σ H, Pv xs.length σ H → D.nx σ H) :
    ∃ W : Nat → Nat → St → Hp → Prop, (∃ m, W 0 m σ H) ∧ ∀ i m σ H, W i m σ H →
      ((Ite K a).stop i H ∧ D.nx σ H) ∨ ((Ite K a).go i H ∧ ∃ N : St → Hp → Prop, (∀ σ' H', N σ' H' → ∃ m', m' < m ∧ W (i + 1) m' σ' H') ∧ ∀ x H', (Ite K a).yld i H x H' → g x σ H' fun σ2 H2 => tb { D with nx := N, ct := N, bk := D.nx } σ2 H2) := by
  refine ⟨fun i m σ H => m = xs.length - i ∧ i ≤ xs.length ∧ Pv i σ H, ⟨xs.length, by simp, Nat.zero_le _, h0⟩, ?_⟩
  rintro i m σ H ⟨rfl, hi, p⟩
  have q := hl i σ H hi p
  by_cases hlt : i < xs.length
  · refine .inr ⟨⟨xs, xs[i], q, by simp [hlt]⟩, Pv (i + 1), fun σ' H' p' => ⟨xs.length - (i + 1), by omega, rfl, hlt, p'⟩, fun y H' z => ?_⟩
    obtain ⟨b, x, rfl, hb, hx, rfl⟩ := z
    exact hs i x σ H b (hx xs q) p hb
  · have e : i = xs.length := by omega
    subst e
    exact .inl ⟨⟨xs, q, Nat.le_refl _⟩, hd σ H p⟩

/-! ### comprehensions -/
section
variable {prog : Program} {w : World} {A : Around} {R : Result → Shared → Prop} {s : Shared}
theorem codeAny_compLoop_go {elt target iter : Expr} {ifs : List Expr} {scope : Scope} {pos : Pos} {it acc : Value} {env : Env} (I : Nat → Shared → Prop)
    (turn : ∀ n s, I n s → wpAny (model prog w) A (pyNext it) (fun r s₁ => match r with
      | none => R (.ok .next) s₁
      | some v => wpAny (model prog w) A (letOwnedTupleGo target it v) (fun _ s₁' => wpAny (model prog w) A (assign target env v) (fun _ s₂ =>
          wpAny (model prog w) A (forIn ifs true fun c r => if r = true then do let ok ← isTrue c env (eval c env); pure (ForInStep.yield ok) else pure (ForInStep.yield r)) (fun ok s₃ =>
            if ok = true then wpAny (model prog w) A (eval elt env) (fun x s₄ =>
              wpAny (model prog w) A (call (.builtin "list.append") [acc, x]) (fun _ s₅ => ∃ m, m < n ∧ I m s₅) (notedBy (model prog w) A env fun e s' => R (.error e) s') s₄) (notedBy (model prog w) A env fun e s' => R (.error e) s') s₃
            else ∃ m, m < n ∧ I m s₃) (notedBy (model prog w) A env fun e s' => R (.error e) s') s₂) (notedBy (model prog w) A env fun e s' => R (.error e) s') s₁') (notedBy (model prog w) A env fun e s' => R (.error e) s') s₁) (notedBy (model prog w) A env fun e s' => R (.error e) s') s)
    (n : Nat) (h : I n s) :
    codeAny (model prog w) A (.compLoop (.ListComp elt [⟨target, iter, ifs, 0⟩] scope pos) 0 it acc env) R s := by
  refine codeAny_loop rfl I (fun n s hI => ?_) n h
  show wpAny _ A ((compTurn (.ListComp elt [⟨target, iter, ifs, 0⟩] scope pos) 0 it acc env).onRaise (fun x => do noteFrame x env; theTreesLotGoes x)) _ _ s
  refine wpAny_noted ?_
  rw [compTurn_list]
  refine wpAny_bind (wpAny_standAt (wpAny_bind (wpAny_mono (turn n s hI) (fun r s₁ h₁ => ?_) fun _ _ h' => h')))
  cases r with
  | none => exact wpAny_pure h₁
  | some v =>
    refine wpAny_bind (wpAny_mono h₁ (fun _ s₁' h₁' => ?_) fun _ _ h' => h')
    refine wpAny_bind (wpAny_mono h₁' (fun _ s₂ h₂ => wpAny_bind (wpAny_mono h₂ (fun ok s₃ h₃ => ?_) fun _ _ h' => h')) fun _ _ h' => h')
    cases ok with
    | false => exact wpAny_pure ⟨rfl, h₃⟩
    | true =>
      exact wpAny_bind (wpAny_bind (wpAny_mono h₃ (fun x s₄ h₄ => wpAny_bind (wpAny_mono h₄ (fun _ s₅ h₅ => wpAny_pure (wpAny_pure ⟨rfl, h₅⟩)) fun _ _ h' => h')) fun _ _ h' => h'))
end
/-- the context of a comprehension's block; s, H: with the new list, ahead of the block's own frame -/
def cxComp (X : Cx) (scope : Scope) (cl : List (Str × Addr)) (N : List Str) (fp : List Addr) (s : Shared) (H : Hp) : Cx :=
  { X with N := N, s₀ := s, H₀ := H, env := compEnvC scope cl s.heap.objs.size X.env, outer := X.stack, stack := X.stack, ex := fp, fn := fun _ => false, pn := [], xe := fun _ _ => False }
/-- the names of the def's own that the block reads: (name, its slot) -/
def FrOk (X : Cx) (sc : Scope) : List (Str × Nat) → Prop
  | [] => True
  | p :: r => (X.N[p.2]? = some p.1 ∧ sc.names.lookup p.1 = some .cell ∧ X.env.kindOf p.1 = some .cell) ∧ FrOk X sc r
theorem FrOk.mem {X : Cx} {sc : Scope} : ∀ {l : List (Str × Nat)}, FrOk X sc l → ∀ p ∈ l, X.N[p.2]? = some p.1 ∧ sc.names.lookup p.1 = some .cell ∧ X.env.kindOf p.1 = some .cell
  | [], _, p, hp => nomatch hp
  | q :: r, h, p, hp => by
    rcases List.mem_cons.mp hp with e | hp
    · rw [e]; exact h.1
    · exact FrOk.mem h.2 p hp
/-- the tests of the one clause: none, or one -/
def PIfs (X : Cx) (ifs : List Expr) (t : TT) : Prop :=
  ∀ (pins : List (Addr × Obj)) (s : Shared) (σ : St) (H : Hp) (Q : Bool → Hp → Prop), Inv X pins σ H s → t σ H Q →
    wpAny (model X.prog X.w) X.A (forIn ifs true fun c r => if r = true then do let ok ← isTrue c X.env (eval c X.env); pure (ForInStep.yield ok) else pure (ForInStep.yield r)) (TP X pins σ Q) X.xe s
def tYes : TT := fun _ H Q => Q true H
theorem pifs_nil {X : Cx} : PIfs X [] tYes := fun _ _ _ H _ I h => wpAny_tests_nil ⟨H, I, h⟩
theorem pifs_one {X : Cx} {c : Expr} {t : TT} (hc : PT X c t) : PIfs X [c] t := fun pins s σ H Q I h => wpAny_tests_one (hc pins s σ H Q I h)
def tComp (nt : Nat) (fr : List (Str × Nat)) (wi : TI) (g : TG) (tc : TT) (te : TE) : TE := fun σ H Q => wi σ H fun J H1 => ∀ D, H1 D = none → ∃ W : Nat → Nat → St → Hp → Prop,
  (∃ m, W 0 m (List.replicate nt none ++ fr.map fun p => (σ[p.2]?).join) (upd H1 D (.lst []))) ∧ ∀ i m τ H', W i m τ H' →
    (J.stop i H' ∧ Q (.ref D) H') ∨ (J.go i H' ∧ ∃ N : St → Hp → Prop, (∀ τ' H'', N τ' H'' → ∃ m', m' < m ∧ W (i + 1) m' τ' H'') ∧
      ∀ x H2, J.yld i H' x H2 → g x τ H2 fun τ2 H3 => tc τ2 H3 fun b H4 => if b = true then te τ2 H4 fun y H5 => ∃ ys, H5 D = some (.lst ys) ∧ ys.length < sizeLine ∧ N τ2 (upd H5 D (.lst (ys ++ [y]))) else N τ2 H4)
section
variable {X : Cx}
theorem cx_start {scope : Scope} {cl : List (Str × Addr)} {ts : List Str} {fr : List (Str × Nat)} {fp : List Addr} {pins : List (Addr × Obj)} {σ : St} {H : Hp} {s : Shared} {h' : Heap} {m : Str → Option Value} {t' : Nat} (I : Inv X pins σ H s)
    (hkind : scope.kind = .function) (hcl : ∀ x c, cl.lookup x = some c → X.env.cells.lookup x = some c)
    (hhas : ∀ x, ((relabel scope X.env).names.lookup x = some .cell ∨ (relabel scope X.env).names.lookup x = some .free) → ∃ c, cl.lookup x = some c) (hfr : FrOk X (relabel scope X.env) fr)
    (hfp : ∀ b ∈ fp, FpOk X pins H b ∧ b < s.heap.objs.size) (hn : h'.Ns s.heap.objs.size m) (hk : ∀ b o, s.heap.get? b = some o → h'.get? b = some o) :
    Inv (cxComp X scope cl (ts ++ fr.map (·.1)) fp s H) [] (List.replicate ts.length none ++ fr.map fun p => (σ[p.2]?).join) H { s with heap := h', toks := t' } := by
  have cellK : ∀ c v, s.heap.IsCell c v → h'.IsCell c v := fun c v ⟨o, ho, hd⟩ => ⟨o, hk c o ho, hd⟩
  refine ⟨⟨I.ok.mod, hkind, I.ok.glob, I.ok.blt, Nat.le_refl _, fun x y c h1 h2 => I.ok.inj x y c (hcl x c h1) (hcl y c h2), hhas, fun x c h => (by cases h), I.ok.hd, I.ok.frames, .inl rfl, fun b hb => ?_, I.bs, Nat.le_trans I.ok.bsz I.sz, fun b o e hb => ?_, fun b hb z => ?_, I.stack, I.stkFree⟩,
    rfl, I.bare, Un.kept hk, ⟨m, hn, fun i x v e1 e2 e3 => ?_⟩, fun x c e => ?_, I.hok.fresh (Nat.le_refl _), fun x c e => I.freeC x c (hcl x c e), fun p hp => absurd (show p ∈ ([] : List (Addr × Obj)) from hp) (by simp), I.hok.kept hk, ?_⟩
  · obtain ⟨f, lt⟩ := hfp b hb
    exact ⟨Nat.ne_of_lt lt, fun x c e => f.2.2.2.2.1 x c (hcl x c e)⟩
  · obtain ⟨f, lt⟩ := hfp b hb
    rcases f.2.2.2.1 with z | z
    · exact I.ok.noex b o e z
    · exact absurd (Nat.lt_of_lt_of_le (Heap.lt_size e) (Nat.le_trans I.ok.bsz z)) (Nat.lt_irrefl _)
  · obtain ⟨f, lt⟩ := hfp b hb
    rcases List.mem_cons.mp (I.stkSub b z) with y | y
    · exact f.2.1 y
    · exact f.2.2.1 y
  · have hlen : (List.replicate ts.length (none : Option V)).length = ts.length := by simp
    by_cases hi : i < ts.length
    · rw [List.getElem?_append_left (by rw [hlen]; exact hi), List.getElem?_replicate, if_pos hi] at e2
      cases e2
    · rw [List.getElem?_append_right (by rw [hlen]; omega), hlen, List.getElem?_map] at e2
      have e1' : (ts ++ fr.map (·.1))[i]? = some x := e1
      rw [List.getElem?_append_right (by omega), List.getElem?_map] at e1'
      cases ep : fr[i - ts.length]? with
      | none => rw [ep] at e2; cases e2
      | some p =>
        rw [ep] at e1' e2
        have ex : p.1 = x := Option.some.inj e1'
        have ev : (σ[p.2]?).join = some v := Option.some.inj e2
        obtain ⟨a1, a2, a3⟩ := hfr.mem p (List.mem_of_getElem? ep)
        have ev' : σ[p.2]? = some (some v) := by
          cases q : σ[p.2]? with
          | none => rw [q] at ev; cases ev
          | some o => rw [q] at ev; cases o with
            | none => cases ev
            | some v' => cases ev; rfl
        obtain ⟨m', hn', hl'⟩ := I.loc
        obtain ⟨u, ru, lk⟩ := hl' p.2 p.1 v a1 ev' (.inr (.inl a3))
        subst ex
        refine ⟨u, ru, ?_⟩
        rcases lk with ⟨z, _⟩ | ⟨_, c, ec, z⟩
        · rw [z] at a3; cases a3
        · obtain ⟨c', ec'⟩ := hhas p.1 (.inl a2)
          have ecc : c' = c := Option.some.inj ((hcl _ _ ec').symm.trans ec)
          exact .inr ⟨.inl a2, c', ec', (by rw [ecc]; exact cellK _ _ z)⟩
  · obtain ⟨v, z⟩ := I.cell x c (hcl x c e)
    exact ⟨v, cellK _ _ z⟩
  · show _ = (ts ++ fr.map (·.1)).length
    simp
theorem pe_comp {elt target iter : Expr} {ifs : List Expr} {scope : Scope} {pos : Pos} {cl : List (Str × Addr)} {ts : List Str} {fr : List (Str × Nat)} {wi : TI} {g : TG} {tc : TT} {te : TE} (hcalm : X.calm = true)
    (hclos : closureFor scope X.env = pure cl) (hcell : ∀ y ∈ scope.names, y.2 ≠ .cell) (hkind : scope.kind = .function) (hnames : ∀ y ∈ scope.names, y.2 = .local → scope.names.lookup y.1 = some .local)
    (hcl : ∀ x c, cl.lookup x = some c → X.env.cells.lookup x = some c)
    (hhas : ∀ x, ((relabel scope X.env).names.lookup x = some .cell ∨ (relabel scope X.env).names.lookup x = some .free) → ∃ c, cl.lookup x = some c) (hfr : FrOk X (relabel scope X.env) fr)
    (hi : PI X target iter wi) (hg : ∀ fp s H, PG (cxComp X scope cl (ts ++ fr.map (·.1)) fp s H) target g) (hc : ∀ fp s H, PIfs (cxComp X scope cl (ts ++ fr.map (·.1)) fp s H) ifs tc)
    (he : ∀ fp s H, PE (cxComp X scope cl (ts ++ fr.map (·.1)) fp s H) elt te) (hs : ∀ x, foldedSetIterable iter X.env x = pure x := by intro _; rfl) :
    PE X (.ListComp elt [⟨target, iter, ifs, 0⟩] scope pos) (tComp ts.length fr wi g tc te) := by
  intro pins s σ H Q I h
  rw [eval_ListComp]
  refine wpAny_comprehension_free (use := none) rfl hs hclos hkind hnames (thn (hi pins s σ H _ I h) fun xv s1 h1 => thn h1 fun itv s2 h2 => ?_)
  obtain ⟨it, fp, tn, J, H2, rfl, I2, T, st2, f2, hR⟩ := h2
  have D0 : H2 s2.heap.objs.size = none := I2.hok.fresh (Nat.le_refl _)
  obtain ⟨W, ⟨m0, w0⟩, turn⟩ := hR s2.heap.objs.size D0
  refine wpAny_newObj_type (wpAny_newFunctionEnv hcell (by intro y hy; simp at hy) (fun h₁ hns₁ hsb₁ => ?_) hkind)
  dsimp only at hns₁ hsb₁ ⊢
  have I3 : Inv X pins σ (upd H2 s2.heap.objs.size (.lst [])) { s2 with heap := s2.heap.push { cls := .type "list", dict := none, data := .seq ([] : List Value).toArray } } :=
    I2.laid (t' := s2.toks) (fun _ _ q => Heap.get?_push_of_some _ q) (Nat.le_refl _) ⟨Nat.zero_le _, [], 0, .nil, Heap.get?_push_size _ rfl⟩
  have kp3 : ∀ b o, s2.heap.get? b = some o → (s2.heap.push { cls := .type "list", dict := none, data := .seq ([] : List Value).toArray }).get? b = some o := fun b o q => Heap.get?_push_of_some _ q
  have sz3 : (s2.heap.push { cls := .type "list", dict := none, data := .seq ([] : List Value).toArray }).objs.size = s2.heap.objs.size + 1 := Heap.size_push ..
  generalize s2.heap.push { cls := .type "list", dict := none, data := .seq ([] : List Value).toArray } = hp3 at hns₁ hsb₁ I3 kp3 sz3 ⊢
  have kp : ∀ b o, hp3.get? b = some o → h₁.get? b = some o := fun b o e => hsb₁.extBut b o (Nat.ne_of_lt (Heap.lt_size e)) (Heap.get?_push_of_some _ e)
  have flt : ∀ b ∈ fp, b < s2.heap.objs.size := fun b hb => by
    obtain ⟨o, e, _⟩ := T.obj _ _ st2 b hb
    exact Heap.lt_size e
  have fr3 : ∀ b ∈ fp, (upd H2 s2.heap.objs.size (.lst [])) b = none := fun b hb => by rw [upd_ne (Nat.ne_of_lt (flt b hb))]; exact (f2 b hb).1
  have f3 : ∀ b ∈ fp, FpOk X pins (upd H2 s2.heap.objs.size (.lst [])) b ∧ b < hp3.objs.size := fun b hb => ⟨⟨fr3 b hb, (f2 b hb).2⟩, by rw [sz3]; exact Nat.lt_succ_of_lt (flt b hb)⟩
  have I4 := cx_start (ts := ts) (t' := s2.toks + ([] : List (Str × Value)).length) I3 hkind hcl hhas hfr f3 hns₁ kp
  have st4 : tn 0 h₁ := T.keep _ _ _ st2 fun b hb o e => kp b o (kp3 b o e)
  have loop : codeAny (model X.prog X.w) X.A (.compLoop (.ListComp elt [⟨target, iter, ifs, 0⟩] scope pos) 0 (.ref it) (.ref s2.heap.objs.size) (compEnvC scope cl hp3.objs.size X.env))
      (compPost (model X.prog X.w) X.A X.xe none (EP X pins σ Q) (.ref s2.heap.objs.size) hp3.objs.size) { s2 with heap := h₁, toks := s2.toks + ([] : List (Str × Value)).length } := by
    refine codeAny_compLoop_go (fun n s' => ∃ i τ H', Inv (cxComp X scope cl (ts ++ fr.map (·.1)) fp { s2 with heap := hp3 } (upd H2 s2.heap.objs.size (.lst []))) [] τ H' s' ∧ tn i s'.heap ∧ (∀ b ∈ fp, H' b = none) ∧ W i n τ H') ?_ m0 ⟨0, _, _, I4, st4, fr3, w0⟩
    rintro n s5 ⟨i, τ, H5, I5, st5, fr5, w5⟩
    have stat : ∀ {H' : Hp}, (∀ b ∈ fp, H' b = none) → ∀ b ∈ fp, FpOk (cxComp X scope cl (ts ++ fr.map (·.1)) fp { s2 with heap := hp3 } (upd H2 s2.heap.objs.size (.lst []))) [] H' b :=
      fun hn b hb => ⟨hn b hb, (I5.ok.exf b hb).1, I5.ok.exfs b hb, .inl hb, (I5.ok.exf b hb).2, fun p hp => absurd (show p ∈ ([] : List (Addr × Obj)) from hp) (by simp)⟩
    rcases turn i n τ H5 w5 with ⟨stop, qn⟩ | ⟨go, Nn, hN, step⟩
    · refine thn (T.done (cxComp X scope cl (ts ++ fr.map (·.1)) fp { s2 with heap := hp3 } (upd H2 s2.heap.objs.size (.lst []))) rfl rfl rfl hcalm i [] s5 τ H5 _ I5 (stat fr5) st5 stop) fun r s6 ⟨hr, I6⟩ => ?_
      subst hr
      obtain ⟨m, hn, _⟩ := I6.loc
      refine ⟨m, hn, fun h' hs' => ⟨.ref s2.heap.objs.size, H5, ?_, rfl, qn⟩⟩
      have neC : ∀ b o, hp3.get? b = some o → b ≠ hp3.objs.size := fun b o e => Nat.ne_of_lt (Heap.lt_size e)
      have hs'' : Heap.SameBut hp3.objs.size s6.heap h' := hs'
      refine I3.call' (s' := { s6 with heap := h' }) (ch := fp) I6.os ⟨fun b o e n hb hx => ?_, fun b o e n hb hx => ?_, I6.base.free, fun b o e hx => ?_, I6.base.tups, I6.base.frzs, I6.base.tbls⟩ (fun b ob e => ?_) I6.bare (fun b hb => ?_)
      · exact (hs''.2 b (neC b o e)).trans (I6.base.keep b o e n hb hx)
      · obtain ⟨sl, q⟩ := I6.base.slot b o e n hb hx
        exact ⟨sl, (hs''.2 b (neC b o e)).trans q⟩
      · obtain ⟨o', q⟩ := I6.base.there b o e hx
        exact ⟨o', (hs''.2 b (neC b o e)).trans q⟩
      · refine (I6.hok b ob e).stay (fun c v hc q => (hs''.2 c ?_).trans q) (fun _ q => q) fun _ _ q => q
        intro z
        have fz : H5 hp3.objs.size = none := I6.free
        rcases hc with y | y
        · rw [← y, z, fz] at e; cases e
        · rw [z, fz] at y; cases y
      · exact ⟨(f2 b hb).2.2.2.1, (f2 b hb).2.1, (f2 b hb).2.2.2.2.1, (f2 b hb).2.2.2.2.2⟩
    · refine thn (T.item (cxComp X scope cl (ts ++ fr.map (·.1)) fp { s2 with heap := hp3 } (upd H2 s2.heap.objs.size (.lst []))) rfl rfl rfl hcalm i [] s5 τ H5 _ I5 (stat fr5) st5 go) fun r s6 ⟨u, hr, h6⟩ => ?_
      subst hr
      refine thn h6 fun _ s7 ⟨x, H7, I7, r7, y7, st7, fr7⟩ => ?_
      have I7' := I7.pinned (stat fr7) (T.obj _ _ st7)
      refine wpAny_mono (hg fp _ _ _ s7 τ H7 x u _ I7' r7 (step x H7 y7)) (fun _ s8 ⟨τ8, H8, I8, q8⟩ => ?_) fun _ _ z => False.elim z
      have again : ∀ {τ9 : St} {H9 : Hp} {s9 : Shared}, Inv (cxComp X scope cl (ts ++ fr.map (·.1)) fp { s2 with heap := hp3 } (upd H2 s2.heap.objs.size (.lst []))) ([] ++ pinsAt fp s7.heap) τ9 H9 s9 → Nn τ9 H9 →
          ∃ m, m < n ∧ ∃ i τ H', Inv (cxComp X scope cl (ts ++ fr.map (·.1)) fp { s2 with heap := hp3 } (upd H2 s2.heap.objs.size (.lst []))) [] τ H' s9 ∧ tn i s9.heap ∧ (∀ b ∈ fp, H' b = none) ∧ W i m τ H' := fun {τ9 H9 s9} I9 n9 => by
        obtain ⟨m', hm, w9⟩ := hN τ9 H9 n9
        refine ⟨m', hm, i + 1, τ9, H9, I9.unpinned, T.keep _ _ _ st7 fun b hb o e => (I9.pin (b, o) (List.mem_append_right _ (List.mem_append_right _ (mem_pinsAt hb e)))).1, fun b hb => ?_, w9⟩
        obtain ⟨o, e, d⟩ := T.obj _ _ st7 b hb
        exact (I9.pin (b, o) (List.mem_append_right _ (List.mem_append_right _ (mem_pinsAt hb e)))).2.1
      refine wpAny_mono (hc fp _ _ _ s8 τ8 H8 _ I8 q8) (fun ok s9 ⟨H9, I9, q9⟩ => ?_) fun _ _ z => False.elim z
      cases ok with
      | false => exact again I9 q9
      | true =>
        refine wpAny_mono (he fp _ _ _ s9 τ8 H9 _ I9 q9) (fun y s10 ⟨v, H10, I10, rv, ys, hD, hl, qN⟩ => ?_) fun _ _ z => False.elim z
        refine wpAny_mono (mt_append (X := cxComp X scope cl (ts ++ fr.map (·.1)) fp { s2 with heap := hp3 } (upd H2 s2.heap.objs.size (.lst []))) _ s10 τ8 H10 (.ref s2.heap.objs.size) [v] (.ref s2.heap.objs.size) [y] (fun _ H => Nn τ8 H) I10 rfl (.cons rv .nil) ⟨_, ys, v, rfl, rfl, hD, hl, qN⟩) (fun _ s11 ⟨_, H11, I11, _, q11⟩ => again I11 q11) fun _ _ z => False.elim z
  exact codeAny_compStart_list loop (T.self X.A 0 _ _ _ st4 loop)
end
end L2
namespace L2
open PySem PySem.Spec PyProof.Rows
/-! ### the same rules with the fragment as a letter -/
section
variable {X : Cx} {tg : Expr}
theorem ix_listK (K : PySem.W.Frag) (h : X.K = K) : IxR X (rIxL K) := h ▸ ix_list
theorem ix_tupK (K : PySem.W.Frag) (h : X.K = K) : IxR X (rIxT K) := h ▸ ix_tup
theorem sl_listK (K : PySem.W.Frag) (h : X.K = K) : SlR X (rSlL K) := h ▸ sl_list
theorem sl_tupK (K : PySem.W.Frag) (h : X.K = K) : SlR X (rSlT K) := h ▸ sl_tup
def rLen (K : PySem.W.Frag) : List V → Hp → VK → Prop := fun xs H Q => ∃ p ys, xs = [.ref p] ∧ (SqL K H p ys ∨ SqT K H p ys) ∧ Q (.int ys.length) H
theorem call_lenK (K : PySem.W.Frag) (h : X.K = K) : CallR X (.builtin "len") (rLen K) := h ▸ call_len_seq
def rLst (K : PySem.W.Frag) : List V → Hp → VK → Prop := fun xs H Q => ∃ p ys, xs = [.ref p] ∧ (SqL K H p ys ∨ SqT K H p ys) ∧ ∀ l, H l = none → Q (.ref l) (upd H l (.lst ys))
theorem call_listK (K : PySem.W.Frag) (h : X.K = K) : CallR X (.type "list") (rLst K) := h ▸ call_list_of
def rInst (K : PySem.W.Frag) : List V → Hp → VK → Prop := fun xs H Q => ∃ x c t cv b, xs = [x, c] ∧ clsV c = some cv ∧ TyOf K H x t ∧ PySem.W.kitOne K t cv = some b ∧ Q (.bl b) H
theorem call_isinstK (K : PySem.W.Frag) (h : X.K = K) : CallR X (.builtin "isinstance") (rInst K) := h ▸ call_isinst
theorem pg_tupK (K : PySem.W.Frag) (h : X.K = K) {es : List Expr} {k : Nat} {pos : Pos} {t : TGs} {n : Nat} (hc : X.calm = true) (hq : PGs X es t)
    (hn : (assignEach es X.env).length = n := by rfl) (hst : (assignEach es X.env).findIdx? (·.1) = none := by rfl) : PG X (.Tuple es k pos) (gTup K n t) := h ▸ pg_tup hc hq hn hst
theorem pi_listK (K : PySem.W.Frag) (h : X.K = K) {l : Expr} {tl : TE} (hl : PE X l tl) : PI X tg l (iList K tl) := h ▸ pi_list hl
theorem pi_tupK (K : PySem.W.Frag) (h : X.K = K) {l : Expr} {tl : TE} (hl : PE X l tl) : PI X tg l (iTup K tl) := h ▸ pi_tup hl
theorem pi_enumK (K : PySem.W.Frag) (h : X.K = K) {l : Expr} {ta : TA} {p pos tpos : Pos} {elts : List Expr} {x1} (hg : Gl X "enumerate") (hm : X.mg "enumerate" = none) (ha : PA X [l] ta) (hs : starEach [l] X.env = [(false, eval l X.env)] := by rfl) :
    PI X (.Tuple elts x1 tpos) (.Call (.Name "enumerate" p) [l] [] pos) (iEnum K ta) := h ▸ pi_enum hg hm ha hs
end
/-! ### comprehensions, their closures by a list -/
def ClOk (env : Env) : List (Str × Addr) → Prop
  | [] => True
  | p :: r => env.cells.lookup p.1 = some p.2 ∧ ClOk env r
theorem ClOk.get {env : Env} : ∀ {cl : List (Str × Addr)}, ClOk env cl → ∀ x c, cl.lookup x = some c → env.cells.lookup x = some c
  | [], _, x, c, e => by cases e
  | p :: r, h, x, c, e => by
    obtain ⟨k, a⟩ := p
    rw [List.lookup_cons] at e
    by_cases q : x = k
    · subst q
      rw [beq_self_eq_true] at e
      cases e
      exact h.1
    · rw [beq_eq_false_iff_ne.mpr q] at e
      exact ClOk.get h.2 x c e
def clAll (ns : List (Str × NameKind)) (cl : List (Str × Addr)) : Bool := ns.all fun y => match y.2 with
  | .cell => (cl.lookup y.1).isSome
  | .free => (cl.lookup y.1).isSome
  | _ => true
theorem clAll_get {ns : List (Str × NameKind)} {cl : List (Str × Addr)} (h : clAll ns cl = true) (x : Str) (q : ns.lookup x = some .cell ∨ ns.lookup x = some .free) : ∃ c, cl.lookup x = some c := by
  unfold clAll at h
  rw [List.all_eq_true] at h
  rcases q with q | q
  · have := h _ (PySem.mem_of_lookup q)
    exact Option.isSome_iff_exists.mp this
  · have := h _ (PySem.mem_of_lookup q)
    exact Option.isSome_iff_exists.mp this
theorem pe_lc {X : Cx} {elt target iter : Expr} {ifs : List Expr} {scope : Scope} {pos : Pos} {cl : List (Str × Addr)} (ts : List Str) (fr : List (Str × Nat)) {wi : TI} {g : TG} {tc : TT} {te : TE} (hcalm : X.calm = true)
    (hclos : closureFor scope X.env = pure cl) (hcell : ∀ y ∈ scope.names, y.2 ≠ .cell) (hkind : scope.kind = .function) (hnames : ∀ y ∈ scope.names, y.2 = .local → scope.names.lookup y.1 = some .local)
    (hcl : ClOk X.env cl) (hhas : clAll (relabel scope X.env).names cl = true) (hfr : FrOk X (relabel scope X.env) fr)
    (hi : PI X target iter wi) (hg : ∀ fp s H, PG (cxComp X scope cl (ts ++ fr.map (·.1)) fp s H) target g) (hc : ∀ fp s H, PIfs (cxComp X scope cl (ts ++ fr.map (·.1)) fp s H) ifs tc)
    (he : ∀ fp s H, PE (cxComp X scope cl (ts ++ fr.map (·.1)) fp s H) elt te) (hs : ∀ x, foldedSetIterable iter X.env x = pure x := by intro _; rfl) :
    PE X (.ListComp elt [⟨target, iter, ifs, 0⟩] scope pos) (tComp ts.length fr wi g tc te) :=
  pe_comp hcalm hclos hcell hkind hnames hcl.get (fun x q => clAll_get hhas x q) hfr hi hg hc he hs
end L2
namespace L2
open PySem PySem.Spec PyProof.Rows
/-! ### sum, all, any of a list -/
def rSum (K : PySem.W.Frag) : List V → Hp → VK → Prop := fun xs H Q => ∃ (p : Addr) (ns : List Int), xs = [.ref p] ∧ SqL K H p (ns.map V.int) ∧ Q (.int ns.sum) H
def rAll (K : PySem.W.Frag) : List V → Hp → VK → Prop := fun xs H Q => ∃ (p : Addr) (bs : List Bool), xs = [.ref p] ∧ SqL K H p (bs.map V.bl) ∧ Q (.bl (bs.all id)) H
def rAny (K : PySem.W.Frag) : List V → Hp → VK → Prop := fun xs H Q => ∃ (p : Addr) (bs : List Bool), xs = [.ref p] ∧ SqL K H p (bs.map V.bl) ∧ Q (.bl (bs.any id)) H
theorem bools_of {bs : List Bool} : ∀ {us : List Value}, Vals (bs.map V.bl) us → us = bs.map Value.bool := by
  induction bs with
  | nil => intro us r; cases r; rfl
  | cons b r ih =>
    intro us h
    cases h with
    | cons h1 h2 => rw [show _ = Value.bool b from h1, ih h2]; rfl
theorem range_all {bs : List Bool} (f : Nat → Bool) (h : ∀ i, i < bs.length → f i = bs.getD i false) : (List.range bs.length).all f = bs.all id := by
  rw [Bool.eq_iff_iff, List.all_eq_true, List.all_eq_true]
  constructor
  · intro q b hb
    obtain ⟨i, hi, e⟩ := List.getElem_of_mem hb
    have := q i (List.mem_range.mpr hi)
    rw [h i hi] at this
    rw [← e]
    simpa [List.getD_eq_getElem?_getD, hi] using this
  · intro q i hi
    have hi := List.mem_range.mp hi
    rw [h i hi]
    have := q bs[i] (List.getElem_mem hi)
    simpa [List.getD_eq_getElem?_getD, hi] using this
theorem range_any {bs : List Bool} (f : Nat → Bool) (h : ∀ i, i < bs.length → f i = bs.getD i false) : (List.range bs.length).any f = bs.any id := by
  rw [Bool.eq_iff_iff, List.any_eq_true, List.any_eq_true]
  constructor
  · rintro ⟨i, hi, q⟩
    have hi := List.mem_range.mp hi
    rw [h i hi] at q
    exact ⟨bs[i], List.getElem_mem hi, by simpa [List.getD_eq_getElem?_getD, hi] using q⟩
  · rintro ⟨b, hb, q⟩
    obtain ⟨i, hi, e⟩ := List.getElem_of_mem hb
    refine ⟨i, List.mem_range.mpr hi, ?_⟩
    rw [h i hi]
    rw [← e] at q
    simpa [List.getD_eq_getElem?_getD, hi] using q
section
variable {X : Cx}
theorem call_sumK (K : PySem.W.Frag) (h : X.K = K) (hc : X.calm = true) : CallR X (.builtin "sum") (rSum K) := by
  subst h
  intro pins s σ H xs us Q I r h
  obtain ⟨p, ns, rfl, hq, q⟩ := h
  obtain ⟨u, rfl, ru⟩ := vals1 r
  cases (show u = Value.ref p from ru)
  obtain ⟨its, rv, hp, hz⟩ := I.list hq
  have hi := intsAre_of rv
  obtain ⟨zs, e⟩ := hi.allInts.items
  have hl := hp.isList
  rw [e] at hl
  refine sum_intListG (I.ok.hd hc) hl fun h' tk t' hk => ⟨.int ns.sum, H, I.kept (t' := tk) hk, ⟨t', ?_⟩, q⟩
  rw [preSum_eq, List.take_of_length_le (by simp)]
  have := hi.numsOf
  rw [show its = its.toArray.toList from rfl, e, nums_intItems] at this
  rw [← this]
/-- a plain list of bools is walked -/
theorem walk_bools {pins : List (Addr × Obj)} {s : Shared} {σ : St} {H : Hp} {p : Addr} {bs : List Bool} {Q : Value → Shared → Prop} (I : Inv X pins σ H s) (hc : X.calm = true) (hq : SqL X.K H p (bs.map V.bl))
    (h : ∀ s₂ : Shared, (∀ (h' : Heap) (tk : Nat), (∀ b o, b ∉ [s.heap.objs.size] → s₂.heap.get? b = some o → h'.get? b = some o) → Inv X pins σ H { s₂ with heap := h', toks := tk }) →
      (s₂.heap.IsListIter s.heap.objs.size p 0 ∧ s₂.heap.IsList p (bs.map Value.bool).toArray) → p ≠ s.heap.objs.size → Q (.ref s.heap.objs.size) s₂) (E : Value → Shared → Prop) :
    wpAny (model X.prog X.w) X.A.in1 (pyIter (.ref p)) Q E s := by
  obtain ⟨its, rv, hp, hz⟩ := I.list hq
  rw [bools_of rv] at hp
  have hl := hp.isList
  have hlt : p < s.heap.objs.size := by obtain ⟨_, e, _⟩ := id hl; exact Heap.lt_size e
  refine wpAny_pyIter_list hl (h _ (fun h' tk hk => I.kept (t' := tk) fun b o e => ?_) ⟨⟨_, Heap.get?_push_size _ rfl, rfl, rfl⟩, hl.push _⟩ (Nat.ne_of_lt hlt))
  exact hk b o (by simp [Nat.ne_of_lt (Heap.lt_size e)]) (Heap.get?_push_of_some _ e)
theorem truth_bools {A : Around} {bs : List Bool} : TruthOf X.prog X.w A (fun i v => (bs.map Value.bool).toArray[i]? = some v) (fun i => bs.getD i false) := by
  intro i v s Q E hP hQ
  have e : bs[i]?.map Value.bool = some v := by simpa using hP
  cases q : bs[i]? with
  | none => rw [q] at e; cases e
  | some b =>
    rw [q] at e
    cases e
    dsimp only at hQ
    rw [List.getD_eq_getElem?_getD, q] at hQ
    exact wpAny_truthy_bool hQ
theorem call_allK (K : PySem.W.Frag) (h : X.K = K) (hc : X.calm = true) : CallR X (.builtin "all") (rAll K) := by
  subst h
  intro pins s σ H xs us Q I r h
  obtain ⟨p, bs, rfl, hq, q⟩ := h
  obtain ⟨u, rfl, ru⟩ := vals1 r
  cases (show u = Value.ref p from ru)
  refine call_all_walk (walk_bools I hc hq (fun s₂ J st hne => ⟨_, _, _, _, _, _, _, rfl, Walks.list (A := X.A.in1) (I.ok.hd hc) _ p hne _, st, truth_bools, fun h' tk hk => ⟨.bl _, H, J h' tk hk, ?_, q⟩⟩) _)
  show Value.bool _ = Value.bool _
  congr 1
  rw [List.size_toArray, List.length_map]
  exact range_all _ fun i hi => rfl
theorem call_anyK (K : PySem.W.Frag) (h : X.K = K) (hc : X.calm = true) : CallR X (.builtin "any") (rAny K) := by
  subst h
  intro pins s σ H xs us Q I r h
  obtain ⟨p, bs, rfl, hq, q⟩ := h
  obtain ⟨u, rfl, ru⟩ := vals1 r
  cases (show u = Value.ref p from ru)
  refine call_any_walk (walk_bools I hc hq (fun s₂ J st hne => ⟨_, _, _, _, _, _, _, rfl, Walks.list (A := X.A.in1) (I.ok.hd hc) _ p hne _, st, truth_bools, fun h' tk hk => ⟨.bl _, H, J h' tk hk, ?_, q⟩⟩) _)
  show Value.bool _ = Value.bool _
  congr 1
  rw [List.size_toArray, List.length_map]
  exact range_any _ fun i hi => rfl
end
end L2
namespace L2
open PySem PySem.Spec PyProof.Rows
/-! ### a comprehension, walked -/
/-- a comprehension's loop: D the new list, τ the block's slots -/
def CompG (J : It) (g : TG) (tc : TT) (te : TE) (D : Addr) (τ : St) (H : Hp) (Q : VK) : Prop :=
  ∃ W : Nat → Nat → St → Hp → Prop, (∃ m, W 0 m τ H) ∧ ∀ i m τ H', W i m τ H' →
    (J.stop i H' ∧ Q (.ref D) H') ∨ (J.go i H' ∧ ∃ N : St → Hp → Prop, (∀ τ' H'', N τ' H'' → ∃ m', m' < m ∧ W (i + 1) m' τ' H'') ∧
      ∀ x H2, J.yld i H' x H2 → g x τ H2 fun τ2 H3 => tc τ2 H3 fun b H4 => if b = true then te τ2 H4 fun y H5 => ∃ ys, H5 D = some (.lst ys) ∧ ys.length < sizeLine ∧ N τ2 (upd H5 D (.lst (ys ++ [y]))) else N τ2 H4)
theorem tComp_eq {nt : Nat} {fr : List (Str × Nat)} {wi : TI} {g : TG} {tc : TT} {te : TE} {σ : St} {H : Hp} {Q : VK} :
    tComp nt fr wi g tc te σ H Q = wi σ H fun J H1 => ∀ D, H1 D = none → CompG J g tc te D (List.replicate nt none ++ fr.map fun p => (σ[p.2]?).join) (upd H1 D (.lst [])) Q := rfl
theorem comp_walk {K : PySem.W.Frag} {a : Addr} {xs : List V} {g : TG} {tc : TT} {te : TE} {D : Addr} {τ : St} {H : Hp} {Q : VK} (Pv : Nat → St → Hp → Prop) (h0 : Pv 0 τ H) (hl : ∀ i τ H, i ≤ xs.length → Pv i τ H → SqL K H a xs)
    (hs : ∀ i x τ H, xs[i]? = some x → Pv i τ H → g x τ H fun τ2 H3 => tc τ2 H3 fun b H4 => if b = true then te τ2 H4 fun y H5 => ∃ ys, H5 D = some (.lst ys) ∧ ys.length < sizeLine ∧ Pv (i + 1) τ2 (upd H5 D (.lst (ys ++ [y]))) else Pv (i + 1) τ2 H4)
    (hd : ∀ τ H, Pv xs.length τ H → Q (.ref D) H) :
    CompG (Itl K a) g tc te D τ H Q := by
  refine ⟨fun i m τ H => m = xs.length - i ∧ i ≤ xs.length ∧ Pv i τ H, ⟨xs.length, by simp, Nat.zero_le _, h0⟩, ?_⟩
  rintro i m τ H ⟨rfl, hi, p⟩
  have q := hl i τ H hi p
  by_cases hlt : i < xs.length
  · refine .inr ⟨⟨xs, xs[i], q, by simp [hlt]⟩, Pv (i + 1), fun τ' H' p' => ⟨xs.length - (i + 1), by omega, rfl, hlt, p'⟩, fun x H2 z => ?_⟩
    obtain ⟨rfl, hx⟩ := z
    exact hs i x τ H2 (hx xs q) p
  · have e : i = xs.length := by omega
    subst e
    exact .inl ⟨⟨xs, q, Nat.le_refl _⟩, hd τ H p⟩
theorem comp_enum {K : PySem.W.Frag} {a : Addr} {xs : List V} {g : TG} {tc : TT} {te : TE} {D : Addr} {τ : St} {H : Hp} {Q : VK} (Pv : Nat → St → Hp → Prop) (h0 : Pv 0 τ H) (hl : ∀ i τ H, i ≤ xs.length → Pv i τ H → SqL K H a xs)
    (hs : ∀ i x τ H p, xs[i]? = some x → Pv i τ H → H p = none → g (.ref p) τ (upd H p (.tup [.int i, x])) fun τ2 H3 => tc τ2 H3 fun b H4 => if b = true then te τ2 H4 fun y H5 => ∃ ys, H5 D = some (.lst ys) ∧ ys.length < sizeLine ∧ Pv (i + 1) τ2 (upd H5 D (.lst (ys ++ [y]))) else Pv (i + 1) τ2 H4)
    (hd : ∀ τ H, Pv xs.length τ H → Q (.ref D) H) :
    CompG (Ite K a) g tc te D τ H Q := by
  refine ⟨fun i m τ H => m = xs.length - i ∧ i ≤ xs.length ∧ Pv i τ H, ⟨xs.length, by simp, Nat.zero_le _, h0⟩, ?_⟩
  rintro i m τ H ⟨rfl, hi, p⟩
  have q := hl i τ H hi p
  by_cases hlt : i < xs.length
  · refine .inr ⟨⟨xs, xs[i], q, by simp [hlt]⟩, Pv (i + 1), fun τ' H' p' => ⟨xs.length - (i + 1), by omega, rfl, hlt, p'⟩, fun y H2 z => ?_⟩
    obtain ⟨b, x, rfl, hb, hx, rfl⟩ := z
    exact hs i x τ H b (hx xs q) p hb
  · have e : i = xs.length := by omega
    subst e
    exact .inl ⟨⟨xs, q, Nat.le_refl _⟩, hd τ H p⟩
theorem take_snoc {α : Type} {xs : List α} {i : Nat} {x : α} (h : xs[i]? = some x) : xs.take (i + 1) = xs.take i ++ [x] := by
  rw [List.take_add_one, h]; rfl
/-- [E for x in the list at a if T]: the turn makes nothing new; what it keeps of x is F x -/
theorem comp_pure {K : PySem.W.Frag} {a : Addr} {xs : List V} {g : TG} {tc : TT} {te : TE} {D : Addr} {v0 : Option V} {caps : St} {H : Hp} {Q : VK} (F : V → Option V) (hD : H D = none) (hS : SqL K H a xs) (hlen : xs.length ≤ 1000)
    (hs : ∀ x ∈ xs, ∀ (v : Option V) (H' : Hp) (C : V → St → Hp → Prop) (N : St → Hp → Prop), Same H H' → (∀ y, F x = some y → C y (some x :: caps) H') → (F x = none → N (some x :: caps) H') →
      g x (v :: caps) H' fun τ2 H3 => tc τ2 H3 fun b H4 => if b = true then te τ2 H4 fun y H5 => C y τ2 H5 else N τ2 H4)
    (hd : Q (.ref D) (upd H D (.lst (xs.filterMap F)))) :
    CompG (Itl K a) g tc te D (v0 :: caps) (upd H D (.lst [])) Q := by
  refine comp_walk (xs := xs) (fun i τ H' => (∃ v, τ = v :: caps) ∧ H' = upd H D (.lst ((xs.take i).filterMap F))) ⟨⟨_, rfl⟩, by simp⟩ (fun i τ H' _ ⟨_, e⟩ => by rw [e]; exact (same_new hD).seq hS) ?_ ?_
  · rintro i x τ H' hx ⟨⟨v, rfl⟩, rfl⟩
    have hi : i < xs.length := (List.getElem?_eq_some_iff.mp hx).1
    refine hs x (List.mem_of_getElem? hx) v _ (fun y τ2 H5 => ∃ ys, H5 D = some (.lst ys) ∧ ys.length < sizeLine ∧ (∃ v, τ2 = v :: caps) ∧ upd H5 D (.lst (ys ++ [y])) = upd H D (.lst ((xs.take (i + 1)).filterMap F)))
      (fun τ2 H4 => (∃ v, τ2 = v :: caps) ∧ H4 = upd H D (.lst ((xs.take (i + 1)).filterMap F))) (same_new hD) (fun y e => ?_) fun e => ?_
    · refine ⟨_, upd_same, line_lt ?_, ⟨_, rfl⟩, ?_⟩
      · have := List.length_filterMap_le F (xs.take i)
        rw [List.length_take] at this
        omega
      · rw [upd_upd, take_snoc hx, List.filterMap_append]; simp [e]
    · refine ⟨⟨_, rfl⟩, ?_⟩
      rw [take_snoc hx, List.filterMap_append]; simp [e]
  · rintro τ H' ⟨_, rfl⟩
    rw [List.take_length]; exact hd
/-! ### tuples of whole numbers, rows of them -/
abbrev Q4 := Int × Int × Int × Int
def q4 (q : Q4) : List V := [.int q.1, .int q.2.1, .int q.2.2.1, .int q.2.2.2]
def q4D (q : Q4) : PyData := .tuple [.int q.1, .int q.2.1, .int q.2.2.1, .int q.2.2.2]
abbrev Tups (H : Hp) : List Addr → List Q4 → Prop := Paired fun p q => H p = some (.tup (q4 q))
theorem Tups.len {H : Hp} {ps : List Addr} {qs : List Q4} (h : Tups H ps qs) : ps.length = qs.length := Paired.length h
theorem Tups.nil {H : Hp} : Tups H [] [] := Paired.nil
theorem Tups.same {H H' : Hp} {ps : List Addr} {qs : List Q4} (h : Tups H ps qs) (e : Same H H') : Tups H' ps qs := Paired.mapP h fun _ _ q => e _ _ q
theorem Tups.keep {H H' : Hp} {ps : List Addr} {qs : List Q4} (h : Tups H ps qs) (e : ∀ p xs, H p = some (.tup xs) → H' p = some (.tup xs)) : Tups H' ps qs := Paired.mapP h fun _ _ q => e _ _ q
theorem Tups.snoc {H : Hp} {t : Addr} {q : Q4} (ht : H t = some (.tup (q4 q))) : ∀ {ps : List Addr} {qs : List Q4}, Tups H ps qs → Tups H (ps ++ [t]) (qs ++ [q])
  | _, _, Paired.nil => .cons ht .nil
  | _, _, Paired.cons a b => .cons a (Tups.snoc ht b)
theorem Tups.take {H : Hp} : ∀ {ps : List Addr} {qs : List Q4} (n : Nat), Tups H ps qs → Tups H (ps.take n) (qs.take n)
  | _, _, 0, _ => .nil
  | _, _, _ + 1, Paired.nil => .nil
  | _, _, n + 1, Paired.cons a b => .cons a (Tups.take n b)
theorem Tups.get {H : Hp} : ∀ {ps : List Addr} {qs : List Q4} {i : Nat} {p : Addr}, Tups H ps qs → ps[i]? = some p → ∃ q, qs[i]? = some q ∧ H p = some (.tup (q4 q))
  | _, _, _, _, Paired.nil, e => by simp at e
  | _, _, 0, _, Paired.cons a _, e => by simp at e; subst e; exact ⟨_, rfl, a⟩
  | _, _, i + 1, _, Paired.cons _ b, e => by
    obtain ⟨q, h1, h2⟩ := Tups.get (i := i) b (by simpa using e)
    exact ⟨q, by simpa using h1, h2⟩
theorem Tups.deep {K : PySem.W.Frag} {H : Hp} : ∀ {ps : List Addr} {qs : List Q4}, Tups H ps qs → DeepAll K H (ps.map V.ref) (qs.map q4D)
  | _, _, Paired.nil => .nil
  | _, _, Paired.cons a b => .cons (.tup (.of a) (.cons (.int _) (.cons (.int _) (.cons (.int _) (.cons (.int _) .nil))))) (Tups.deep b)
/-- the row at l -/
structure Row (H : Hp) (l : Addr) (ps : List Addr) (qs : List Q4) : Prop where
  hl : H l = some (.lst (ps.map V.ref))
  r : Tups H ps qs
theorem Row.same {H H' : Hp} {l : Addr} {ps : List Addr} {qs : List Q4} (R : Row H l ps qs) (e : Same H H') : Row H' l ps qs := ⟨e _ _ R.hl, R.r.same e⟩
theorem Row.deep {K : PySem.W.Frag} {H : Hp} {l : Addr} {ps : List Addr} {qs : List Q4} (R : Row H l ps qs) : Deep K H (.ref l) (.list (qs.map q4D)) := .lst (.of R.hl) R.r.deep
/-- a row that grows: the script's cut at p, the row at l, all else as it was -/
structure RowI (H₀ H : Hp) (p : Addr) (ms : List V) (l : Addr) (ps : List Addr) (qs : List Q4) : Prop where
  sm : Same H₀ H
  hp : H p = some (.lst ms)
  hl : H l = some (.lst (ps.map V.ref))
  r : Tups H ps qs
theorem RowI.same {H₀ H H' : Hp} {p : Addr} {ms : List V} {l : Addr} {ps : List Addr} {qs : List Q4} (I : RowI H₀ H p ms l ps qs) (e : Same H H') : RowI H₀ H' p ms l ps qs := ⟨I.sm.trans e, e _ _ I.hp, e _ _ I.hl, I.r.same e⟩
theorem RowI.snoc {H₀ H : Hp} {p : Addr} {ms : List V} {l t : Addr} {ps : List Addr} {qs : List Q4} {q : Q4} (I : RowI H₀ H p ms l ps qs) (h0 : H₀ l = none) (hpl : p ≠ l) (ht : H t = some (.tup (q4 q))) :
    RowI H₀ (upd H l (.lst (ps.map V.ref ++ [.ref t]))) p ms l (ps ++ [t]) (qs ++ [q]) := by
  have kt : ∀ b xs, H b = some (.tup xs) → upd H l (.lst (ps.map V.ref ++ [.ref t])) b = some (.tup xs) := fun b xs e => by
    rw [upd_ne (ne_of e I.hl (by intro z; cases z))]; exact e
  refine ⟨fun b o e => ?_, by rw [upd_ne hpl]; exact I.hp, by rw [upd_same]; simp, Tups.snoc (kt _ _ ht) (I.r.keep kt)⟩
  rw [upd_ne (ne_of_none e h0)]; exact I.sm _ _ e
theorem cutV_ints (ns : List Int) (lo hi : Option Int) : ∃ ms : List Int, cutV (ns.map V.int) lo hi = ms.map V.int ∧ ms.length ≤ ns.length := by
  refine ⟨(ns.drop (HT.sIx (ns.map V.int).length 0 lo)).take (HT.sIx (ns.map V.int).length (ns.map V.int).length hi - HT.sIx (ns.map V.int).length 0 lo), ?_, ?_⟩
  · unfold cutV; rw [List.map_take, List.map_drop]
  · rw [List.length_take, List.length_drop]; omega
def spMix : Sp := fun vs H Q _ => ∃ c i, vs = [.int c, .int i] ∧ 0 ≤ i ∧ i < 1000 ∧ ∀ m, 0 ≤ m → m < 2147483647 → Q (.int m) H
def spRow (K : PySem.W.Frag) : Sp := fun vs H Q _ => ∃ (a : Addr) (ns : List Int) (few : Int), vs = [.ref a, .int few] ∧ SqL K H a (ns.map V.int) ∧ 0 < few ∧ ns.length ≤ 63 ∧
  ∀ H' l ps qs, Same H H' → H l = none → H' l = some (.lst (ps.map V.ref)) → Tups H' ps qs → qs.length ≤ 63 → Q (.ref l) H'
/-! ### data: its shape, its likeness -/
mutual
theorem eqv_refl : ∀ d : PyData, d.canLay0 = true → PyData.eqv d d = true
  | .none, _ => rfl
  | .bool b, _ => by simp [PyData.eqv]
  | .int i, _ => by simp [PyData.eqv]
  | .str x, _ => by simp [PyData.eqv]
  | .list xs, h => by
    have h : PyData.canLayAll0 xs = true := by simpa only [PyData.canLay0] using h
    simpa only [PyData.eqv] using eqvAll_refl xs h
  | .tuple xs, h => by
    have h : PyData.canLayAll0 xs = true := by simpa only [PyData.canLay0] using h
    simpa only [PyData.eqv] using eqvAll_refl xs h
  | .dict _, h => by simp [PyData.canLay0] at h
theorem eqvAll_refl : ∀ ds : List PyData, PyData.canLayAll0 ds = true → PyData.eqvAll ds ds = true
  | [], _ => rfl
  | d :: r, h => by
    simp only [PyData.canLayAll0, Bool.and_eq_true] at h
    simp only [PyData.eqvAll, Bool.and_eq_true]
    exact ⟨eqv_refl d h.1, eqvAll_refl r h.2⟩
end
theorem canLay_all {α : Type} {f : α → PyData} (h : ∀ a, (f a).canLay0 = true) : ∀ l : List α, PyData.canLayAll0 (l.map f) = true
  | [] => rfl
  | a :: r => by simp only [List.map_cons, PyData.canLayAll0, h a, canLay_all h r, Bool.and_self]
theorem depth_all {α : Type} {f : α → PyData} {n : Nat} (h : ∀ a, (f a).depth ≤ n) : ∀ l : List α, PyData.depthAll (l.map f) ≤ n
  | [] => Nat.zero_le _
  | a :: r => by
    have h1 := h a
    have h2 := depth_all h r
    simp only [List.map_cons, PyData.depthAll]
    omega
theorem shaped_list {α : Type} {f : α → PyData} {n : Nat} (h : ∀ a, (f a).canLay0 = true) (hd : ∀ a, (f a).depth ≤ n) (hn : n < 64) (l : List α) : PySem.SeqAt.shaped (.list (l.map f)) = true := by
  unfold PySem.SeqAt.shaped
  rw [Bool.and_eq_true, decide_eq_true_eq]
  refine ⟨by simpa only [PyData.canLay0] using canLay_all h l, ?_⟩
  have := depth_all hd l
  simp only [PyData.depth]
  omega
theorem q4D_lay (q : Q4) : (q4D q).canLay0 = true := rfl
theorem q4D_depth (q : Q4) : (q4D q).depth ≤ 1 := by simp [q4D, PyData.depth, PyData.depthAll]
theorem shaped_row (qs : List Q4) : PySem.SeqAt.shaped (.list (qs.map q4D)) = true := shaped_list q4D_lay q4D_depth (by decide) qs
theorem eqv_row (qs : List Q4) : PyData.eqv (.list (qs.map q4D)) (.list (qs.map q4D)) = true := eqv_refl _ (PySem.SeqAt.canLay_of_shaped (shaped_row qs))
end L2
namespace L2
open PySem PySem.Spec PyProof.Rows
/-- what a comprehension makes of the rows' pieces -/
def onQ {α : Type} (H : Hp) (F : Q4 → Option α) : V → Option α
  | .ref p => match H p with
    | some (.tup [.int a, .int b, .int c, .int d]) => F (a, b, c, d)
    | _ => none
  | _ => none
theorem onQ_of {α : Type} {H : Hp} {F : Q4 → Option α} {p : Addr} {q : Q4} (h : H p = some (.tup (q4 q))) : onQ H F (.ref p) = F q := by
  unfold onQ
  simp only [h, q4]
theorem Tups.onQ {α : Type} {H : Hp} {F : Q4 → Option α} : ∀ {ps : List Addr} {qs : List Q4}, Tups H ps qs → (ps.map V.ref).filterMap (L2.onQ H F) = qs.filterMap F
  | _, _, Paired.nil => rfl
  | _, _, Paired.cons a b => by
    rw [List.map_cons, List.filterMap_cons, List.filterMap_cons, onQ_of a, Tups.onQ b]
theorem Tups.mem {H : Hp} : ∀ {ps : List Addr} {qs : List Q4}, Tups H ps qs → ∀ x ∈ ps.map V.ref, ∃ p q, x = V.ref p ∧ q ∈ qs ∧ H p = some (.tup (q4 q))
  | _, _, Paired.nil, x, hx => by simp at hx
  | _, _, Paired.cons (b := q) a b, x, hx => by
    rw [List.map_cons] at hx
    rcases List.mem_cons.mp hx with e | hx
    · exact ⟨_, q, e, by simp, a⟩
    · obtain ⟨p, q, h1, h2, h3⟩ := Tups.mem b x hx
      exact ⟨p, q, h1, List.mem_cons_of_mem _ h2, h3⟩
theorem comp_row {K : PySem.W.Frag} {a : Addr} {ps : List Addr} {qs : List Q4} {g : TG} {tc : TT} {te : TE} {D : Addr} {v0 : Option V} {caps : St} {H : Hp} {Q : VK} (F : Q4 → Option V) (hD : H D = none) (R : Row H a ps qs) (hlen : qs.length ≤ 1000)
    (hs : ∀ p q, q ∈ qs → H p = some (.tup (q4 q)) → ∀ (v : Option V) (H' : Hp) (C : V → St → Hp → Prop) (N : St → Hp → Prop), Same H H' → (∀ y, F q = some y → C y (some (.ref p) :: caps) H') → (F q = none → N (some (.ref p) :: caps) H') →
      g (.ref p) (v :: caps) H' fun τ2 H3 => tc τ2 H3 fun b H4 => if b = true then te τ2 H4 fun y H5 => C y τ2 H5 else N τ2 H4)
    (hd : Q (.ref D) (upd H D (.lst (qs.filterMap F)))) :
    CompG (Itl K a) g tc te D (v0 :: caps) (upd H D (.lst [])) Q := by
  refine comp_pure (onQ H F) hD (.of R.hl) (by rw [List.length_map, R.r.len]; exact hlen) (fun x hx v H' C N sm h1 h2 => ?_) (by rw [R.r.onQ]; exact hd)
  obtain ⟨p, q, rfl, hq, hp⟩ := R.r.mem x hx
  rw [onQ_of hp] at h1 h2
  exact hs p q hq hp v H' C N sm h1 h2
end L2
namespace L2
open PySem PySem.Spec PyProof.Rows
section
variable {X : Cx}
theorem op_eqDK (K : PySem.W.Frag) (h : X.K = K) (hu : X.A.units + 64 < cLine) : OpR X (compareOp .Eq) (rEqD K) := h ▸ op_eqD hu
theorem op_neDK (K : PySem.W.Frag) (h : X.K = K) (hu : X.A.units + 64 < cLine) : OpR X (compareOp .NotEq) (rNeD K) := h ▸ op_neD hu
end
theorem eq_at {K : PySem.W.Frag} {H : Hp} {x y : V} {d e : PyData} {Q : VK} (hx : Deep K H x d) (hy : Deep K H y e) (sd : PySem.SeqAt.shaped d = true) (se : PySem.SeqAt.shaped e = true) (q : Q (.bl (PyData.eqv d e)) H) : rEqD K x y H Q := ⟨d, e, hx, hy, sd, se, q⟩
theorem ne_at {K : PySem.W.Frag} {H : Hp} {x y : V} {d e : PyData} {Q : VK} (hx : Deep K H x d) (hy : Deep K H y e) (sd : PySem.SeqAt.shaped d = true) (se : PySem.SeqAt.shaped e = true) (q : Q (.bl (!PyData.eqv d e)) H) : rNeD K x y H Q := ⟨d, e, hx, hy, sd, se, q⟩
/-- the same data: != is False -/
theorem ne_same {K : PySem.W.Frag} {H : Hp} {x y : V} {d : PyData} {Q : VK} (hx : Deep K H x d) (hy : Deep K H y d) (sd : PySem.SeqAt.shaped d = true) (q : Q (.bl false) H) : rNeD K x y H Q := by
  refine ne_at hx hy sd sd ?_
  rw [eqv_refl d (PySem.SeqAt.canLay_of_shaped sd)]; exact q
theorem eq_same {K : PySem.W.Frag} {H : Hp} {x y : V} {d : PyData} {Q : VK} (hx : Deep K H x d) (hy : Deep K H y d) (sd : PySem.SeqAt.shaped d = true) (q : Q (.bl true) H) : rEqD K x y H Q := by
  refine eq_at hx hy sd sd ?_
  rw [eqv_refl d (PySem.SeqAt.canLay_of_shaped sd)]; exact q
theorem shaped_nil : PySem.SeqAt.shaped (.list []) = true := by decide
theorem eqv_nil {α : Type} {f : α → PyData} (l : List α) : PyData.eqv (.list (l.map f)) (.list []) = l.isEmpty := by
  cases l with
  | nil => rfl
  | cons a r => simp [PyData.eqv, PyData.eqvAll]
/-- list(xs) -/
theorem lst_at {K : PySem.W.Frag} {H : Hp} {p : Addr} {ys : List V} {Q : VK} (h : SqL K H p ys) (q : ∀ l, H l = none → Q (.ref l) (upd H l (.lst ys))) : rLst K [.ref p] H Q := ⟨p, ys, rfl, .inl h, q⟩
theorem len_at {K : PySem.W.Frag} {H : Hp} {p : Addr} {ys : List V} {Q : VK} (h : SqL K H p ys) (q : Q (.int ys.length) H) : rLen K [.ref p] H Q := ⟨p, ys, rfl, .inl h, q⟩
theorem lenT_at {K : PySem.W.Frag} {H : Hp} {p : Addr} {ys : List V} {Q : VK} (h : SqT K H p ys) (q : Q (.int ys.length) H) : rLen K [.ref p] H Q := ⟨p, ys, rfl, .inr h, q⟩
theorem slL_at {K : PySem.W.Frag} {H : Hp} {p : Addr} {xs : List V} {lo hi : Option Int} {Q : VK} (h : SqL K H p xs) (q : ∀ l, H l = none → Q (.ref l) (upd H l (.lst (cutV xs lo hi)))) : rSlL K (.ref p) lo hi H Q := ⟨p, xs, rfl, h, q⟩
/-- the row again, as a new list -/
theorem Row.copy {H : Hp} {l l' : Addr} {ps : List Addr} {qs : List Q4} (R : Row H l ps qs) (h : H l' = none) : Row (upd H l' (.lst (ps.map V.ref))) l' ps qs := ⟨upd_same, R.r.same (same_new h)⟩
theorem cut_take (xs : List V) (n : Nat) (h : n ≤ xs.length) : cutV xs none (some (n : Int)) = xs.take n := by
  unfold cutV
  rw [HT.sIx_none, HT.sIx_nat]
  simp [Nat.min_eq_left h]
end L2
namespace L2
open PySem PySem.Spec PyProof.Rows
/-! ### an exception on its way: its object at e, of the class cls, with its own dict at dct; B: all that stays as it is; fl: none ahead of the first entry, else where its newest entry flies -/
def XTr (B : Heap) (e : Addr) (h : Heap) (vs : Array Value) : Option Value → Prop
  | none => vs[1]? = some Value.none
  | some f => ∃ T oT ts, vs[1]? = some (.ref T) ∧ B.get? T = none ∧ T ≠ e ∧ h.get? T = some oT ∧ oT.data = .fields ts ∧ ts[3]? = some f
structure XAt (B : Heap) (e : Addr) (cls : Value) (dct : Option Addr) (fl : Option Value) (h : Heap) : Prop where
  stay : B.StaysIn h
  new : B.get? e = none
  ex : ∃ oe vs, h.get? e = some oe ∧ oe.cls = cls ∧ oe.dict = dct ∧ oe.data = .fields vs ∧ 1 < vs.size ∧ XTr B e h vs fl
/-- frames change in their slots alone, all else of h that is no record of fields stays -/
structure UpS (h h' : Heap) : Prop where
  sl : ∀ b o, h.get? b = some o → (∀ vs, o.data ≠ .fields vs) → ∃ sl, h'.get? b = some { o with slots := sl }
  th : ∀ b o, h.get? b = some o → ∃ o', h'.get? b = some o'
theorem UpS.refl (h : Heap) : UpS h h := ⟨fun _ o e _ => ⟨o.slots, e⟩, fun _ o e => ⟨o, e⟩⟩
theorem UpS.trans {h h1 h2 : Heap} (a : UpS h h1) (b : UpS h1 h2) : UpS h h2 := by
  refine ⟨fun c o e n => ?_, fun c o e => ?_⟩
  · obtain ⟨s1, e1⟩ := a.sl c o e n
    obtain ⟨s2, e2⟩ := b.sl c _ e1 n
    exact ⟨s2, e2⟩
  · obtain ⟨o1, e1⟩ := a.th c o e
    exact b.th c o1 e1
theorem UpS.funs {h h' B : Heap} {l : List Env} (u : UpS h h') (f : h.FunFrames B l) : h'.FunFrames B l := f.of_keeps fun b o e n => by
  obtain ⟨sl, q⟩ := u.sl b o e n
  exact ⟨_, q, rfl⟩
section
variable {M : Model} {A : Around} {E : Value → Shared → Prop} {s : Shared} {B : Heap} {env : Env} {outer : List Env} {L e : Addr} {cls : Value} {dct : Option Addr}
/-- a new entry for the frame of env -/
theorem entry_at {fl : Option Value} {head : Value} {b1 : Bool} {Q : Unit → Shared → Prop} (fr : A.frames = some (env :: outer)) (ff : s.heap.FunFrames B (env :: outer)) (hf : env.frame = some L) (x : XAt B e cls dct fl s.heap)
    (h : ∀ h', XAt B e cls dct (some (rawInt L)) h' → UpS s.heap h' → Q () { s with heap := h' }) :
    wpAny M A (do let a ← frameOf env; let pl ← entryPlaceOf L b1; let b ← EntryCells.newEntry head a .none (rawInt L) .none pl; setField (.ref e) 1 b) Q E s := by
  obtain ⟨stay, new, oe, vs, oe1, oe2, oe3, oe4, oe5, _⟩ := x
  have nf : e ∉ (env :: outer).filterMap (·.frame) := fun z => by
    obtain ⟨_, o, q, n⟩ := ff.mem z
    rw [oe1] at q
    cases q
    exact n vs oe4
  refine wpAny_bind (wpAny_frameOf_fun fr ff hf fun h1 sl => wpAny_bind (wpAny_entryPlaceOf fun pl ip => ?_))
  have e1 : h1.get? e = some oe := (sl.2.1 e nf).trans oe1
  have st1 : B.StaysIn h1 := fun b o q => (sl.2.1 b fun z => by rw [(ff.mem z).1] at q; cases q).trans (stay b o q)
  unfold EntryCells.newEntry newFields
  refine wpAny_bind (wpAny_newObj_type ?_ (ip.sizeOk5 _ _ _ _ _))
  generalize hT : ({ cls := .type "traceback", dict := none, data := .fields ([head, .ref L, .none, rawInt L, .none] ++ (if pl.isEmpty then List.replicate 6 Value.none else pl)).toArray } : Obj) = oT
  have e2 : (h1.push oT).get? e = some oe := Heap.get?_push_of_some _ e1
  have ne : h1.objs.size ≠ e := Nat.ne_of_gt (Heap.lt_size e1)
  refine wpAny_setField e2 oe4 oe5 (h _ ⟨fun b o q => ?_, new, _, _, Heap.get?_update_self _ e2 (Obj.isFreed_of_fields (Obj.data_mapFields oe4 _)), (Obj.cls_mapFields _ _).trans oe2, ?_, Obj.data_mapFields oe4 _, by simpa using oe5, h1.objs.size, oT, _, by simp [oe5], st1.fresh, ne, ?_, by rw [← hT], ?_⟩ ⟨fun b o q n => ?_, fun b o q => ?_⟩)
  · rw [Heap.get?_update_other _ _ fun z => by rw [← z, new] at q; cases q]
    exact Heap.get?_push_of_some _ (st1 b o q)
  · rw [← oe3]; cases oe with | mk c d da sl => cases da <;> rfl
  · rw [Heap.get?_update_other _ _ (Ne.symm ne)]
    exact Heap.get?_push_size _ (by rw [← hT]; rfl)
  · rcases ip with rfl | ⟨_, _, _, _, _, _, _, rfl⟩ <;> simp
  · obtain ⟨s1, q1⟩ := sl.2.2 b o q
    refine ⟨s1, ?_⟩
    rw [Heap.get?_update_other _ _ fun z => by rw [← z, oe1] at q; cases q; exact n vs oe4]
    exact Heap.get?_push_of_some _ q1
  · by_cases z : b = e
    · rw [z]; exact ⟨_, Heap.get?_update_self _ e2 (Obj.isFreed_of_fields (Obj.data_mapFields oe4 _))⟩
    · obtain ⟨s1, q1⟩ := sl.2.2 b o q
      exact ⟨_, (Heap.get?_update_other _ _ (Ne.symm z)).trans (Heap.get?_push_of_some _ q1)⟩
theorem land_at {f : Value} {Q : Unit → Shared → Prop} (x : XAt B e cls dct (some f) s.heap) (h : ∀ h', XAt B e cls dct (some .none) h' → UpS s.heap h' → Q () { s with heap := h' }) : wpAny M A (setFlight (.ref e) none) Q E s := by
  obtain ⟨stay, new, oe, vs, oe1, oe2, oe3, oe4, oe5, T, oT, ts, t1, t2, t3, t4, t5, t6⟩ := x
  unfold setFlight
  refine wpAny_bind (wpAny_field oe1 oe4 t1 ?_)
  rw [if_pos (show (Value.ref T != Value.none) = true by simp)]
  have h3 : 3 < ts.size := (Array.getElem?_eq_some_iff.mp t6).1
  have oth : ∀ (g : Obj → Obj) b, b ≠ T → (s.heap.update T g).get? b = s.heap.get? b := fun g b z => Heap.get?_update_other _ _ (Ne.symm z)
  refine wpAny_setField t4 t5 h3 (h _ ⟨fun b o q => ?_, new, oe, vs, by rw [oth _ _ (Ne.symm t3)]; exact oe1, oe2, oe3, oe4, oe5, T, _, _, t1, t2, t3, Heap.get?_update_self _ t4 (Obj.isFreed_of_fields (Obj.data_mapFields t5 _)), Obj.data_mapFields t5 _, by simp [h3]⟩ ⟨fun b o q n => ⟨o.slots, ?_⟩, fun b o q => ?_⟩)
  · rw [oth _ _ fun z => by rw [z, t2] at q; cases q]
    exact stay b o q
  · rw [oth _ _ fun z => by rw [z, t4] at q; cases q; exact n ts t5]
    exact q
  · by_cases z : b = T
    · rw [z]; exact ⟨_, Heap.get?_update_self _ t4 (Obj.isFreed_of_fields (Obj.data_mapFields t5 _))⟩
    · exact ⟨o, (oth _ _ z).trans q⟩
theorem note_at {fl : Option Value} {Q : Unit → Shared → Prop} (fr : A.frames = some (env :: outer)) (ff : s.heap.FunFrames B (env :: outer)) (hf : env.frame = some L) (x : XAt B e cls dct fl s.heap) (hfl : fl = none ∨ fl = some .none)
    (h : ∀ h', XAt B e cls dct (some (rawInt L)) h' → UpS s.heap h' → Q () { s with heap := h' }) : wpAny M A (noteFrame (.ref e) env) Q E s := by
  have x0 := x
  obtain ⟨stay, new, oe, vs, oe1, oe2, oe3, oe4, oe5, tr⟩ := x
  unfold noteFrame
  simp only [hf]
  rcases hfl with rfl | rfl
  · refine wpAny_bind (wpAny_field oe1 oe4 tr ?_)
    rw [if_neg (by decide)]
    exact entry_at fr ff hf x0 h
  · obtain ⟨T, oT, ts, t1, t2, t3, t4, t5, t6⟩ := tr
    refine wpAny_bind (wpAny_field oe1 oe4 t1 ?_)
    rw [if_pos (show (Value.ref T != Value.none) = true by simp)]
    refine wpAny_bind (wpAny_field t4 t5 t6 ?_)
    rw [if_neg (show ¬ ((Value.none == rawInt L) = true) by simp [rawInt])]
    have h3 : 3 < ts.size := (Array.getElem?_eq_some_iff.mp t6).1
    have oth : ∀ (g : Obj → Obj) b, b ≠ T → (s.heap.update T g).get? b = s.heap.get? b := fun g b z => Heap.get?_update_other _ _ (Ne.symm z)
    have up : ∀ g, UpS s.heap (s.heap.update T (Obj.mapFields g)) := fun g => ⟨fun b o q n => ⟨o.slots, by
      rw [oth _ _ fun z => by rw [z, t4] at q; cases q; exact n ts t5]; exact q⟩, fun b o q => by
      by_cases z : b = T
      · rw [z]; exact ⟨_, Heap.get?_update_self _ t4 (Obj.isFreed_of_fields (Obj.data_mapFields t5 _))⟩
      · exact ⟨o, (oth _ _ z).trans q⟩⟩
    refine wpAny_bind (wpAny_setField t4 t5 h3 ?_)
    refine entry_at (fl := some .none) fr ((up _).funs ff) hf ⟨fun b o q => ?_, new, oe, vs, by rw [oth _ _ (Ne.symm t3)]; exact oe1, oe2, oe3, oe4, oe5, T, _, _, t1, t2, t3, Heap.get?_update_self _ t4 (Obj.isFreed_of_fields (Obj.data_mapFields t5 _)), Obj.data_mapFields t5 _, by simp [h3]⟩ fun h' a b => h h' a ((up _).trans b)
    rw [oth _ _ fun z => by rw [z, t2] at q; cases q]
    exact stay b o q
theorem leave_at {fl : Option Value} {Q : Unit → Shared → Prop} (fr : A.frames = some (env :: outer)) (ff : s.heap.FunFrames B (env :: outer)) (hf : env.frame = some L) (x : XAt B e cls dct fl s.heap) (hfl : fl = none ∨ fl = some .none)
    (h : ∀ h', XAt B e cls dct (some .none) h' → UpS s.heap h' → Q () { s with heap := h' }) : wpAny M A (leaving env (.ref e)) Q E s := by
  unfold leaving
  exact wpAny_bind (note_at fr ff hf x hfl fun h1 x1 u1 => land_at (s := { s with heap := h1 }) x1 fun h2 x2 u2 => h h2 x2 (u1.trans u2))
end
end L2
namespace L2
open PySem PySem.Spec PyProof.Rows
/-! ### exceptions as objects -/
abbrev bmV : List Value := [.type "ValueError", .type "Exception", .type "BaseException", .type "object"]
/-- an exception class of the text: what is asked of it as a class of instances -/
structure XC (K : PySem.W.Frag) (C : Addr) : Prop where
  hd : PySem.W.hasDictIn K C = true
  ga : PySem.W.findIn K (.ref C) "__getattribute__" = some (some (.builtin "BaseException.__getattribute__"))
  gn : PySem.W.findIn K (.ref C) "__getattr__" = some none
  sa : PySem.W.findIn K (.ref C) "__setattr__" = some (some (.builtin "object.__setattr__"))
  cl : PySem.W.findIn K (.ref C) "__class__" = some (some (.builtin "object.__class__"))
  kg : PySem.W.specialIn K (.builtin "object.__class__") "__get__" = some (some (.builtin "getset_descriptor.__get__"))
  kt : PySem.W.takesIn K (.builtin "object.__class__") = some true
  be : PySem.W.mroIn K C (.type "BaseException") = some true
  ob : PySem.W.mroIn K C (.type "object") = some true
  /-- its object and its line of classes -/
  ex : ∃ nm q N bs bm hdct sn sub ab col dd k0 k1 k2 k3 k5, K.lookup C = some (excClassObj nm q C N bs bm hdct sn sub ab col dd k0 k1 k2 k3 k5 "ValueError.__new__") ∧ PySem.W.tailIn K bmV bm = true
/-- .. that is made without an __init__ of its own -/
theorem XC.plain {K : PySem.W.Frag} {C : Addr} (q : PySem.W.excIn K C bmV "ValueError.__new__" = true) :
    ∃ nm q N bs bm hdct sn sub ab col dd k0 k1 k2 k3 k5, K.lookup C = some (excClassObj nm q C N bs bm hdct sn sub ab col dd k0 k1 k2 k3 k5 "ValueError.__new__") ∧ PySem.W.tailIn K bmV bm = true ∧ PySem.W.nsOkIn K N = true ∧ PySem.W.nsIn K N "__init__" = some none := by
  unfold PySem.W.excIn at q
  split at q
  · rename_i dd cd sl ho
    split at q
    · rename_i C' bm k0 k1 k2 k3 n k5 hm hs
      simp only [Bool.and_eq_true, beq_iff_eq, Bool.not_eq_true'] at q
      obtain ⟨⟨⟨⟨⟨rfl, rfl⟩, d1⟩, ht⟩, hok⟩, hni⟩ := q
      obtain ⟨nm, bs, mro, ns, qn, hd, sn, sub, ab, col, del⟩ := cd
      dsimp only at hm d1 hok hni
      subst hm d1
      obtain ⟨l⟩ := sl
      simp only at hs
      subst hs
      exact ⟨nm, qn, ns, bs, bm, hd, sn, sub, ab, col, dd, k0, k1, k2, k3, k5, ho, ht, hok, hni⟩
    · cases q
  · cases q
/-- the line of a class that stands straight under one of the text's own -/
theorem tail_one {K : PySem.W.Frag} {W : Addr} (q : PySem.W.excIn K W bmV "ValueError.__new__" = true) : PySem.W.tailIn K bmV (.ref W :: bmV) = true := by
  obtain ⟨nm, q, N, bs, bm, hdct, sn, sub, ab, col, dd, k0, k1, k2, k3, k5, l, _, h1, h2⟩ := XC.plain q
  unfold PySem.W.tailIn
  simp only [l, h1, h2]
  rfl
section
variable {prog : Program} {w : World} {A : Around} {E : Value → Shared → Prop} {s : Shared} {K : PySem.W.Frag} {x C : Addr} {ox : Obj} {od : Option Obj}
open PySem.W in
theorem xget_open {name : Str} {expr : Bool} {Q : Value → Shared → Prop} (X : K.In s.heap) (c : XC K C) (I : PySem.W.InstAt s.heap x ox C od)
    (h : wpAny (model prog w) A.in1 (Builtin.«object.__getattribute__» ⟨[.ref x, .str name s.toks], []⟩) (fun fin s' => match fin with | .done (.ret v) => wpAny (model prog w) A (handedOut v) Q E s' | _ => False) (fun _ _ => False) { s with toks := s.toks + 1 }) :
    wpAny (model prog w) A (getAttr (.ref x) name expr) Q E s := by
  obtain ⟨hh, g, d, t, os⟩ := s
  have L0 := I.type (M := model prog w)
  have L1 := looks_findIn (M := model prog w) X c.ga
  have L2' := looks_findIn (M := model prog w) X c.gn
  have sub : Looks (model prog w) hh (isInstance (.ref x) (.type "BaseException")) true := I.type.andThen (looks_mroIn X c.be)
  unfold getAttr getAttrBy
  refine wpAny_bind (wpAny_mkText (wpAny_holding (wpAny_bind (L0.at (wpAny_bind (L1.at ?_))))))
  have hx : (Value.builtin "BaseException.__getattribute__" == Value.builtin "object.__getattribute__") = false := by decide +kernel
  have hx1 : ¬ ((onTheHeap (Value.ref C) && Value.builtin "BaseException.__getattribute__" == Value.builtin "object.__getattribute__") = true) := by rw [hx, Bool.and_false]; exact Bool.false_ne_true
  show wpAny _ _ (if (onTheHeap (Value.ref C) && Value.builtin "BaseException.__getattribute__" == Value.builtin "object.__getattribute__") = true then _ else _) _ _ _
  rw [if_neg hx1]
  unfold getAttrByItsOwn hookBefore
  rw [if_pos (show onTheHeap (Value.ref C) = true from rfl)]
  refine wpAny_bind (L2'.at ?_)
  have e0 : callGetattribute (.ref x) (.str name t) (.builtin "BaseException.__getattribute__") expr = boundAndCalled (.builtin "BaseException.__getattribute__") (.ref x) (.str name t) := by
    unfold callGetattribute
    cases expr <;> rfl
  rw [e0]
  refine wpAny_bind (wpAny_attempt (wpAny_holding ?_))
  unfold boundAndCalled
  refine wpAny_bind (wpAny_of_eq (PySem.F.attr_ValueError.ga.bind (.ref x)) ?_)
  show wpAny _ _ (call (.builtin "BaseException.__getattribute__") [.ref x, .str name t]) _ _ _
  have hk : builtinKind "BaseException.__getattribute__" = some .slot := by decide +kernel
  have hs : splitId "BaseException.__getattribute__" = some ("BaseException", "__getattribute__") := by decide +kernel
  refine wpAny_call (codeAny_call_builtin PySem.F.attr_ValueError.ga.plain PySem.F.entry_bexc_ga ?_)
  refine @check_slot (model prog w) _ _ _ "BaseException.__getattribute__" "BaseException" "__getattribute__" (.ref x) [.str name t] [] _ hk hs sub (PySem.F.args_bexc_ga _ _) ?_
  refine wpAny_mono h (fun fin s' z => ?_) fun _ _ z => z.elim
  rcases fin with (v | _ | _ | _) | _ <;> first | exact z | exact z.elim
open PySem.W in
/-- an attribute out of the exception's own dict -/
theorem xget_value {name : Str} {expr : Bool} {v : Value} {Q : Value → Shared → Prop} (X : K.In s.heap) (c : XC K C) (I : PySem.W.InstAt s.heap x ox C od) (hf : findObj K C od name = some (.value v)) (hv : handedIn v = true) (h : Q v { s with toks := s.toks + 1 }) :
    wpAny (model prog w) A (getAttr (.ref x) name expr) Q E s := by
  refine xget_open X c I ?_
  obtain ⟨hh, g, d, t, os⟩ := s
  have L0 := I.type (M := model prog w)
  have L1 := looks_find (M := model prog w) X I hf
  refine wpAny_bind (wpAny_pure (wpAny_bind (wpAny_pure (wpAny_bind (L0.at (wpAny_bind (L1.at (wpAny_pure ?_))))))))
  show wpAny _ _ (handedOut v) _ _ _
  rw [handedOut_of hv]
  exact wpAny_pure h
open PySem.W in
/-- the class of an exception, by isinstance -/
theorem xget_class {Q : Option Value → Shared → Prop} (X : K.In s.heap) (c : XC K C) (I : PySem.W.InstAt s.heap x ox C od) (h : Q (some (.ref C)) { s with toks := s.toks + 1 }) : wpAny (model prog w) A (getAttr? (.ref x) "__class__") Q E s := by
  have hf : findObj K C od "__class__" = some (.bind (.builtin "getset_descriptor.__get__") (.builtin "object.__class__")) := by
    obtain ⟨cd, hc, _⟩ := any_some c.hd
    unfold findObj
    rw [hc, Option.bind_some, c.cl, Option.bind_some]
    dsimp only
    rw [c.kg, Option.bind_some]
    dsimp only
    rw [c.kt, Option.bind_some]
  obtain ⟨hh, g, d, t, os⟩ := s
  have L0 := I.type (M := model prog w)
  have L1 := looks_findIn (M := model prog w) X c.ga
  have L2' := looks_findIn (M := model prog w) X c.gn
  have L3 := looks_find (M := model prog w) X I hf
  have sub : Looks (model prog w) hh (isInstance (.ref x) (.type "BaseException")) true := I.type.andThen (looks_mroIn X c.be)
  have hx : (Value.builtin "BaseException.__getattribute__" == Value.builtin "object.__getattribute__") = false := by decide +kernel
  have hx1 : ¬ ((onTheHeap (Value.ref C) && Value.builtin "BaseException.__getattribute__" == Value.builtin "object.__getattribute__") = true) := by rw [hx, Bool.and_false]; exact Bool.false_ne_true
  unfold getAttr? getAttrBy? getAttrBy
  refine wpAny_bind (wpAny_mkText (wpAny_bind (wpAny_attempt (wpAny_holding (wpAny_bind (L0.at (wpAny_bind (L1.at ?_))))))))
  show wpAny _ _ (if (onTheHeap (Value.ref C) && Value.builtin "BaseException.__getattribute__" == Value.builtin "object.__getattribute__") = true then _ else _) _ _ _
  rw [if_neg hx1]
  unfold getAttrByItsOwn hookBefore
  rw [if_pos (show onTheHeap (Value.ref C) = true from rfl)]
  refine wpAny_bind (L2'.at ?_)
  refine wpAny_bind (wpAny_attempt (wpAny_holding ?_))
  show wpAny _ _ (boundAndCalled (.builtin "BaseException.__getattribute__") (.ref x) (.str "__class__" t)) _ _ _
  unfold boundAndCalled
  refine wpAny_bind (wpAny_of_eq (PySem.F.attr_ValueError.ga.bind (.ref x)) ?_)
  show wpAny _ _ (call (.builtin "BaseException.__getattribute__") [.ref x, .str "__class__" t]) _ _ _
  have hk : builtinKind "BaseException.__getattribute__" = some .slot := by decide +kernel
  have hs : splitId "BaseException.__getattribute__" = some ("BaseException", "__getattribute__") := by decide +kernel
  refine wpAny_call (codeAny_call_builtin PySem.F.attr_ValueError.ga.plain PySem.F.entry_bexc_ga ?_)
  refine @check_slot (model prog w) _ _ _ "BaseException.__getattribute__" "BaseException" "__getattribute__" (.ref x) [.str "__class__" t] [] _ hk hs sub (PySem.F.args_bexc_ga _ _) ?_
  refine wpAny_bind (wpAny_pure (wpAny_bind (wpAny_pure (wpAny_bind (L0.at (wpAny_bind (L3.at ?_)))))))
  show wpAny _ _ (holding [Value.builtin "object.__class__"] (call (.builtin "getset_descriptor.__get__") [.builtin "object.__class__", .ref x, .ref C]) >>= ret) _ _ _
  refine wpAny_bind (wpAny_holding (wpAny_call (class_get (s := { heap := hh, gens := g, drawn := d, toks := t + 1, os := os }) X I c.ob (wpAny_pure ?_))))
  show wpAny _ _ (handedOut (.ref C)) _ _ _
  exact wpAny_pure (wpAny_pure h)
open PySem.W in
theorem kitx_exc (c : XC K C) : KitX K (.ref x) (.ref C) (fun h => ∃ ox od, PySem.W.InstAt h x ox C od) where
  ty := fun _ _ _ ⟨_, _, I⟩ => I.type
  it := fun _ _ X _ => by
    obtain ⟨cd, hc, _⟩ := any_some c.hd
    unfold clsIn at hc
    split at hc
    · rename_i ho
      intro A' Q' E' s' k q
      unfold isType loadHead
      exact wpAny_bind (wpAny_loadPart (k _ _ (X _ _ ho)) (wpAny_pure q))
    · cases hc
  ne := fun h tp dd its n sl X htp => by
    obtain ⟨cd, hc, _⟩ := any_some c.hd
    refine Bool.eq_false_iff.mpr fun q => ?_
    have e : C = tp := Value.ref.inj (beq_iff_eq.mp q)
    subst e
    unfold clsIn at hc
    split at hc
    · rename_i ho
      have z := (X _ _ ho).symm.trans htp
      cases z
    · cases hc
  ca := fun X ⟨_, _, I⟩ k => xget_class X c I k
theorem refuse_tail (self : Value) : ∀ {l : List Value}, PySem.W.tailIn K bmV l = true → refuseLoop self "__setattr__" l = pure ()
  | [], e => by cases e
  | v :: r, e => by
    unfold PySem.W.tailIn at e
    rcases Bool.or_eq_true_iff.mp e with q | q
    · rw [beq_iff_eq.mp q]; exact PySem.F.store_ValueError.passes self
    · split at q
      · split at q
        · simp only [Bool.and_eq_true] at q
          rw [refuseLoop_ref]
          exact refuse_tail self q.2
        · cases q
      · cases q
open PySem.W Builtin.ObjectAttr in
/-- object.__setattr__ of an exception, up to its own dict -/
theorem xosa {name : Str} {tk : Tok} {v : Value} {R : Result → Shared → Prop} (X : K.In s.heap) (c : XC K C) (I : PySem.W.InstAt s.heap x ox C od) (ht : takerIn K C name = some none)
    (h : ∀ b, wpAny (model prog w) A.in1 (storeInOwnDict (.ref x) (.ref C) (.str name tk) name v b) (fun fin s' => match fin with | .done f => R (.ok f) s' | .again c' => c'.quiet = true ∧ codeAny (model prog w) A c' R s') (fun e s' => R (.error e) s') s) :
    codeAny (model prog w) A (.call (.builtin "object.__setattr__") ⟨[.ref x, .str name tk, v], []⟩) R s := by
  have SF := PySem.F.store_object
  obtain ⟨nm, q, N, bs, bm, hdct, sn, sub, ab, col, dd, k0, k1, k2, k3, k5, lk, tl⟩ := c.ex
  obtain ⟨cd, hc, em⟩ : ∃ cd, clsIn K C = some cd ∧ cd.mro = .ref C :: bm := by unfold clsIn; rw [lk]; exact ⟨_, rfl, rfl⟩
  have isi : Looks (model prog w) s.heap (isInstance (.ref x) (.type "object")) true := I.type.andThen (looks_mroIn X c.ob)
  refine codeAny_call_builtin SF.slot.plain SF.entry (@check_slot (model prog w) _ _ s "object.__setattr__" "object" "__setattr__" (.ref x) [.str name tk, v] [] _ SF.kind SF.split isi (SF.args (.ref x) (.str name tk) v) ?_)
  obtain ⟨attr, ha, hr⟩ := Option.bind_eq_some_iff.mp ht
  have L3 : Looks (model prog w) s.heap (storeTaker? attr) none := by
    cases attr with
    | none => exact .now
    | some a =>
      obtain ⟨b, hb, e⟩ := Option.map_eq_some_iff.mp hr
      refine (looks_takesIn X hb).andThen ?_
      cases b with
      | true => cases e
      | false => exact .now
  have hm : Looks (model prog w) s.heap (mroOf (.ref C)) cd.mro := (looks_clsIn X hc).andThen .now
  rw [osa_eq, refuse_eq]
  refine wpAny_bind (wpAny_bind (I.type.here (wpAny_bind (hm.here ?_))))
  rw [em, refuseLoop_ref, refuse_tail _ tl]
  refine wpAny_pure (wpAny_bind (I.type.here (wpAny_bind ((looks_findIn X ha).here (wpAny_bind (L3.here (h _)))))))
open PySem.W Builtin.ObjectAttr in
/-- e.name = v -/
theorem xset {name : Str} {v : Value} {vs : Array Value} {mA : Str → Option Value} {ns : List Str} {Q : Unit → Shared → Prop} (X : K.In s.heap) (c : XC K C) (hx : s.heap.get? x = some ox) (hcl : ox.cls = .ref C) (hf : ox.data = .fields vs) (ht : takerIn K C name = some none)
    (hd : (ox.dict = none ∧ ∀ y, mA y = none) ∨ ∃ d, ox.dict = some d ∧ d ≠ x ∧ s.heap.Ns1 d mA) (hw : Within mA ns) (hsz : ns.length ≤ 1000)
    (h : ∀ h' d, h'.Ns1 d (fun y => if y = name then some v else mA y) → h'.get? x = some { ox with dict := some d } → d ≠ x → (ox.dict = none → s.heap.objs.size ≤ d) → (∀ d0, ox.dict = some d0 → d = d0) →
      (∀ b o, b ≠ x → b ≠ d → s.heap.get? b = some o → h'.get? b = some o) → ∀ tk, Q () { s with heap := h', toks := tk }) :
    wpAny (model prog w) A (setAttr (.ref x) name v) Q E s := by
  have nc : notCls ox = true := by unfold notCls; rw [hf]
  obtain ⟨cd, hc, hcd⟩ := any_some c.hd
  have szl : (1001 : Nat) ≤ sizeLine := by rw [sizeLine_eq]; decide
  obtain ⟨hp0, g0, dr0, tk0, os0⟩ := s
  rcases hd with ⟨hdn, hmA⟩ | ⟨d, hdn, hne, hns⟩
  · have I : PySem.W.InstAt hp0 x ox C none := ⟨hx, hcl, nc, by rw [hdn]; trivial⟩
    refine set_plain X I c.sa (xosa (s := ⟨hp0, g0, dr0, tk0 + 1, os0⟩) X c I ht fun b => ?_)
    obtain ⟨oc, odi, oda, osl⟩ := ox
    dsimp only at hcl hdn hf
    subst hcl hdn hf
    have hxs : x ≠ hp0.objs.size := Nat.ne_of_lt (Heap.lt_size hx)
    refine wpAny_bind (wpAny_pure (wpAny_bind (wpAny_bind (wpAny_loadPart hx (wpAny_bind (Looks.here (s := ⟨hp0, g0, dr0, tk0 + 1, os0⟩) (looks_clsIn X hc) ?_))))))
    rw [hcd]
    have hx1 : (hp0.push { cls := .type "dict", data := .dict #[] }).get? x = some ⟨.ref C, none, .fields vs, osl⟩ := Heap.get?_push_of_some _ hx
    refine wpAny_bind (wpAny_alloc' (wpAny_bind (wpAny_update' hx1 (wpAny_pure ?_))))
    generalize hh2 : (hp0.push { cls := .type "dict", data := .dict #[] }).update x (fun o => { o with dict := some hp0.objs.size }) = h2
    have gx : h2.get? x = some ⟨.ref C, some hp0.objs.size, .fields vs, osl⟩ := by rw [← hh2]; exact Heap.get?_update_self _ hx1 rfl
    have gd : h2.get? hp0.objs.size = some { cls := .type "dict", data := .dict #[] } := by rw [← hh2, Heap.get?_update_ne _ _ _ _ hxs.symm]; exact Heap.get?_push_at rfl rfl
    have gk : ∀ b o, b ≠ x → hp0.get? b = some o → h2.get? b = some o := fun b o z q => by rw [← hh2, Heap.get?_update_ne _ _ _ _ z]; exact Heap.get?_push_of_some _ q
    have nd : h2.Ns hp0.objs.size (fun _ => none) := ⟨_, #[], _, gd, rfl, fun e he => absurd he (by simp), fun _ => rfl⟩
    show wpAny _ _ (storeInDict hp0.objs.size (.str name tk0) name v) _ _ _
    unfold storeInDict newKeyGuard
    refine wpAny_bind (wpAny_pure (wpAny_bind (wpAny_nsSet1 (s := ⟨h2, g0, dr0, tk0 + 1, os0⟩) (Heap.Ns1.of_empty nd) fun h' hn' hs => ?_)))
    obtain ⟨oD, esD, epD, hoD, hdD, hcD⟩ := hn'.count (Within.cons name v Within.nil)
    refine wpAny_bind (wpAny_lookBehind hoD (by rw [hdD]; exact pastItsLine_dict (Nat.le_trans hcD (by rw [List.length_cons, List.length_nil]; omega))) (wpAny_pure ?_))
    refine h h' hp0.objs.size ?_ ((hs.2 x hxs).trans gx) hxs.symm (fun _ => Nat.le_refl _) (fun d0 z => by cases z) (fun b o z1 z2 q => (hs.2 b z2).trans (gk b o z1 q)) _
    obtain ⟨o', es, ep, e1, e2, e3, eu, e4⟩ := hn'
    exact ⟨o', es, ep, e1, e2, e3, eu, fun y => by rw [e4 y]; by_cases hy : y = name <;> simp [hy, hmA]⟩
  · obtain ⟨o0, es0, ep0, ho0, _⟩ := id hns
    have I : PySem.W.InstAt hp0 x ox C (some o0) := ⟨hx, hcl, nc, by rw [hdn]; exact ho0⟩
    refine set_plain X I c.sa (xosa (s := ⟨hp0, g0, dr0, tk0 + 1, os0⟩) X c I ht fun b => ?_)
    obtain ⟨oc, odi, oda, osl⟩ := ox
    dsimp only at hcl hdn hf
    subst hcl hdn hf
    refine wpAny_bind (wpAny_pure (wpAny_bind (wpAny_bind (wpAny_loadPart hx (wpAny_bind (Looks.here (s := ⟨hp0, g0, dr0, tk0 + 1, os0⟩) (looks_clsIn X hc) ?_))))))
    rw [hcd]
    refine wpAny_pure (a := some d) ?_
    show wpAny _ _ (storeInDict d (.str name tk0) name v) _ _ _
    unfold storeInDict newKeyGuard
    refine wpAny_bind (wpAny_pure (wpAny_bind (wpAny_nsSet1 (s := ⟨hp0, g0, dr0, tk0 + 1, os0⟩) hns fun h' hn' hs => ?_)))
    obtain ⟨oD, esD, epD, hoD, hdD, hcD⟩ := hn'.count (Within.cons name v hw)
    refine wpAny_bind (wpAny_lookBehind hoD (by rw [hdD]; exact pastItsLine_dict (Nat.le_trans hcD (by rw [List.length_cons]; omega))) (wpAny_pure ?_))
    exact h h' d hn' ((hs.2 x hne.symm).trans hx) hne (fun z => by cases z) (fun d0 z => by cases z; rfl) (fun b o z1 z2 q => (hs.2 b z2).trans q) _
/-- C(..) of an exception class that has no __init__ of its own -/
theorem xmake0 {us : List Value} {Q : Value → Shared → Prop} (X : K.In s.heap) (q : PySem.W.excIn K C bmV "ValueError.__new__" = true) (hl : us.length ≤ sizeLine)
    (h : ∀ h' e, Heap.MadeExcOf s.heap h' e (.ref C) us → Q (.ref e) { s with heap := h' }) : wpAny (model prog w) A (call (.ref C) us) Q E s := by
  obtain ⟨nm, qn, N, bs, bm, hdct, sn, sub, ab, col, dd, k0, k1, k2, k3, k5, lk, tl, nk, ni⟩ := XC.plain q
  obtain ⟨hp, g, d, t, os⟩ := s
  exact wpAny_call_exc_subU PySem.F.excBase_ValueError rfl PySem.F.excBase_ValueError (PySem.W.tail_of_in X tl) (X _ _ lk) (.of_isNs (PySem.W.isNs_of_in X nk)) (PySem.W.nsMap_none_of_in X nk ni) (fun h' e m => h h' e m) hl
theorem xcall1 {hp : Heap} {g : Array GenState} {d : Drawn} {t : Nat} {os : OsState} {us : List Value} {fI : Addr} {Q : Fin → Shared → Prop} (X : K.In hp) (c : XC K C) (hi : PySem.W.findIn K (.ref C) "__init__" = some (some (.ref fI)))
    (hf : PySem.W.typeIn K (.ref fI) = some (.type "function")) (hl : us.length ≤ sizeLine)
    (h : ∀ h' e, Heap.MadeExcOf hp h' e (.ref C) us → h'.objs.size = hp.objs.size + 2 → e = hp.objs.size + 1 → wpAny (model prog w) A (call (.ref fI) (.ref e :: us)) (fun r s' => r = .none ∧ Q (.done (.ret (.ref e))) s') E ⟨h', g, d, t, os⟩) :
    wpAny (model prog w) A (Builtin.«type.__call__» ⟨.ref C :: us, []⟩) Q E ⟨hp, g, d, t, os⟩ := by
  obtain ⟨nm, qn, N, bs, bm, hdct, sn, sub, ab, col, dd, k0, k1, k2, k3, k5, lk, tl⟩ := c.ex
  have cl := X _ _ lk
  have TT := PySem.W.tail_of_in X tl
  repeat (first | with_reducible refine wpAny_madeBy_exc cl ?_ | with_reducible refine wpAny_loadPart_at cl ?_ | wp_step)
  refine codeAny_call_builtin_code (Code.quiet_builtin _ PySem.F.excBase_ValueError.quiet) (wpAny_check_new_subU PySem.F.excBase_ValueError rfl TT cl ?_)
  refine codeAny_exc_new_subU PySem.F.excBase_ValueError rfl PySem.F.excBase_ValueError TT cl ?_ hl
  show wpAny _ _ _ _ _ _
  have kp : ∀ b o, hp.get? b = some o → ((hp.push { cls := .type "tuple", data := .seq us.toArray }).push { cls := .ref C, data := .fields #[.ref hp.objs.size, .none, .none, .none, .bool false, .none] }).get? b = some o := fun b o e => Heap.get?_push_of_some _ (Heap.get?_push_of_some _ e)
  have ge : ((hp.push { cls := .type "tuple", data := .seq us.toArray }).push { cls := .ref C, data := .fields #[.ref hp.objs.size, .none, .none, .none, .bool false, .none] }).get? (hp.objs.size + 1) = some { cls := .ref C, data := .fields #[.ref hp.objs.size, .none, .none, .none, .bool false, .none] } := by heap_get
  have gt : ((hp.push { cls := .type "tuple", data := .seq us.toArray }).push { cls := .ref C, data := .fields #[.ref hp.objs.size, .none, .none, .none, .bool false, .none] }).get? hp.objs.size = some { cls := .type "tuple", data := .seq us.toArray } := Heap.get?_push_of_some _ (Heap.get?_push_at rfl rfl)
  have sz : ((hp.push { cls := .type "tuple", data := .seq us.toArray }).push { cls := .ref C, data := .fields #[.ref hp.objs.size, .none, .none, .none, .bool false, .none] }).objs.size = hp.objs.size + 2 := by simp
  generalize (hp.push { cls := .type "tuple", data := .seq us.toArray }).push { cls := .ref C, data := .fields #[.ref hp.objs.size, .none, .none, .none, .bool false, .none] } = h1 at kp ge gt sz ⊢
  have cl1 := kp _ _ cl
  have hcC : (Value.ref C :: bm).contains (.ref C) = true := by simp
  have X1 : K.In h1 := X.keeps kp
  have LI := PySem.W.looks_findIn (M := model prog w) X1 hi
  have LB := PySem.W.bind_fn (M := model prog w) X1 (.ref (hp.objs.size + 1)) hf
  unfold isInstance
  repeat (first | (with_reducible refine wpAny_isSubtype_exc cl1 ?_; rw [hcC]) | with_reducible refine wpAny_loadPart_at ge ?_ | wp_step)
  show wpAny _ _ (typeLookup (.ref C) _) _ _ _
  refine LI.at (wpAny_holding (wpAny_bind (LB.at ?_)))
  refine wpAny_bind (wpAny_mono (h h1 (hp.objs.size + 1) ⟨kp, Heap.get?_none_of_le (Nat.le_succ _), hp.objs.size, ge, Heap.get?_none_of_le (Nat.le_refl _), gt⟩ sz rfl) (fun r s' z => ?_) fun _ _ z => z)
  obtain ⟨rfl, z⟩ := z
  wp_walk
  exact z
/-- C(..) where C has its own __init__: the new object, then __init__ -/
theorem xmake1 {us : List Value} {fI : Addr} {Q : Value → Shared → Prop} (X : K.In s.heap) (c : XC K C) (hi : PySem.W.findIn K (.ref C) "__init__" = some (some (.ref fI))) (hf : PySem.W.typeIn K (.ref fI) = some (.type "function")) (hl : us.length ≤ sizeLine)
    (h : ∀ h' e, Heap.MadeExcOf s.heap h' e (.ref C) us → h'.objs.size = s.heap.objs.size + 2 → e = s.heap.objs.size + 1 → wpAny (model prog w) (A.under (.builtin "type.__call__" ⟨.ref C :: us, []⟩)) (call (.ref fI) (.ref e :: us)) (fun r s' => r = .none ∧ Q (.ref e) s') E { s with heap := h' }) :
    wpAny (model prog w) A (call (.ref C) us) Q E s := by
  obtain ⟨nm, qn, N, bs, bm, hdct, sn, sub, ab, col, dd, k0, k1, k2, k3, k5, lk, tl⟩ := c.ex
  obtain ⟨hp, g, d, t, os⟩ := s
  have cl := X _ _ lk
  have f1 := tc_lookup
  have f2 := tc_bind (.ref C)
  have tyC : (⟨hp, g, d, t, os⟩ : Shared).TypeIs (.ref C) "type" := ⟨_, cl, rfl⟩
  refine wpAny_call (codeAny_of_tree ?_)
  show wpAny _ _ (callAny (.ref C) _) _ _ _
  repeat (any_goals (first | assumption | with_reducible refine wpAny_loadPart_at cl ?_ | wp_step))
  refine ⟨rfl, ?_⟩
  exact codeAny_call_builtin_at (Code.quiet_builtin _ (by decide +kernel)) entry_typeCall (wpAny_check_type_call_sub cl (xcall1 X c hi hf hl fun h' e m z1 z2 => h h' e m z1 z2))
/-- raise e, e a new exception -/
theorem xraise {env : Env} {y : Sem Value} {Q : Flow → Shared → Prop} (hh : A.handled = none)
    (h : wpAny (model prog w) A y (fun v s1 => ∃ C e oe vs, XC K C ∧ v = .ref e ∧ K.In s1.heap ∧ s1.heap.get? e = some oe ∧ oe.cls = .ref C ∧ oe.data = .fields vs ∧ vs[1]? = some Value.none ∧ E (.ref e) s1) E s) :
    wpAny (model prog w) A (raiseStmt env (some y) none) Q E s := by
  unfold raiseStmt
  refine wpAny_bind (wpAny_mono h (fun v s1 z => ?_) fun _ _ z => z)
  obtain ⟨C, e, oe, vs, c, rfl, X, e1, e2, e3, e4, fin⟩ := z
  obtain ⟨nm, qn, N, bs, bm, hdct, sn, sub, ab, col, dd, k0, k1, k2, k3, k5, lk, tl⟩ := c.ex
  obtain ⟨hp, g, d, t, os⟩ := s1
  have cl := X _ _ lk
  have hcB : (Value.ref C :: bm).contains (.type "BaseException") = true := by rw [List.contains_cons, (PySem.W.tail_of_in X tl).hasType (show bmV.contains (.type "BaseException") = true from rfl), Bool.or_true]
  obtain ⟨oc, od, oda, osl⟩ := oe
  dsimp only at e2 e3
  subst e2 e3
  have fl : ∀ {α : Type} {QQ : Value → Shared → Prop}, QQ .none ⟨hp, g, d, t, os⟩ → wpAny (model prog w) A (field (.ref e) 1) QQ E ⟨hp, g, d, t, os⟩ := fun {_ _} z => wpAny_field e1 rfl e4 z
  repeat (first | (with_reducible refine wpAny_isSubtype_exc cl ?_; rw [hcB]) | with_reducible refine wpAny_loadPart_at e1 ?_ | with_reducible refine wpAny_loadPart_at cl ?_ | with_reducible refine wpAny_field e1 rfl e4 ?_ | wp_step)
  exact wpAny_raiseNew_none hh fin
end
end L2
namespace L2
open PySem PySem.Spec PyProof.Rows
/-! ### exceptions in the abstract heap -/
def XOb (e C : Addr) (dct : Option Addr) (fr : Bool) (h : Heap) : Prop := ∃ oe vs, h.get? e = some oe ∧ oe.cls = .ref C ∧ oe.dict = dct ∧ oe.data = .fields vs ∧ 1 < vs.size ∧ (fr = true → vs[1]? = some Value.none)
/-- an exception of the class at C, its own dict at dct; fr: not raised yet -/
def excO (e C : Addr) (dct : Option Addr) (fr : Bool) : HO := .ext (XOb e C dct fr)
def XDt (d : Addr) (fs : List (Str × V)) (h : Heap) : Prop := ∃ mA, h.Ns1 d mA ∧ ∀ f, RelO (fs.lookup f) (mA f)
/-- the own dict of an exception -/
def xdO (d : Addr) (fs : List (Str × V)) : HO := .ext (XDt d fs)
section
variable {P : Program} {w : World} {H : Hp} {h : Heap}
theorem excO_ok {e C : Addr} {dct : Option Addr} {fr : Bool} (x : XOb e C dct fr h) : ObjOk P w H h e (excO e C dct fr) := by
  refine ⟨x, ?_, fun h1 h2 y k => ?_⟩
  · obtain ⟨oe, vs, e1, _⟩ := x
    exact ⟨oe, e1⟩
  · obtain ⟨oe, vs, e1, r⟩ := y
    exact ⟨oe, vs, k _ e1, r⟩
theorem xdO_ok {d : Addr} {fs : List (Str × V)} (x : XDt d fs h) : ObjOk P w H h d (xdO d fs) := by
  refine ⟨x, ?_, fun h1 h2 y k => ?_⟩
  · obtain ⟨mA, ⟨o, es, ep, e1, _⟩, _⟩ := x
    exact ⟨o, e1⟩
  · obtain ⟨mA, ⟨o, es, ep, e1, r⟩, q⟩ := y
    exact ⟨mA, ⟨o, es, ep, k _ e1, r⟩, q⟩
theorem ObjOk.there {a : Addr} {o : HO} (x : ObjOk P w H h a o) : ∃ ob, h.get? a = some ob := by
  cases o with
  | lst xs => obtain ⟨_, _, _, _, e⟩ := x; exact ⟨_, e⟩
  | tup xs => obtain ⟨_, _, _, _, e, _⟩ := x; exact ⟨_, e⟩
  | dK kvs => obtain ⟨_, _, _, _, o, _, _, e, _⟩ := x; exact ⟨_, e⟩
  | dT kvs => obtain ⟨_, _, _, _, o, _, _, e, _⟩ := x; exact ⟨_, e⟩
  | set S n => obtain ⟨o, _, _, _, e, _⟩ := x; exact ⟨_, e⟩
  | ins C dx fs => obtain ⟨_, _, _, e, _⟩ := x; exact ⟨_, e⟩
  | own y => exact x
  | xd fs => obtain ⟨_, ⟨_, _, _, e, _⟩, _⟩ := x; exact ⟨_, e⟩
  | rng lo hi => obtain ⟨_, _, _, e⟩ := x; exact ⟨_, e⟩
  | frz ob u => obtain ⟨e, _⟩ := x; exact ⟨_, e⟩
  | tbl ps => exact ⟨_, show h.get? a = some _ from x⟩
  | met f y => exact ⟨_, show h.get? a = some _ from x⟩
  | ext φ => exact x.2.1
theorem HOk.exc (x : HOk P w H h) {e C : Addr} {dct : Option Addr} {fr : Bool} (q : H e = some (excO e C dct fr)) : XOb e C dct fr h := (show ObjOk P w H h e (excO e C dct fr) from x e _ q).1
theorem HOk.xd (x : HOk P w H h) {d : Addr} {fs : List (Str × V)} (q : H d = some (xdO d fs)) : XDt d fs h := (show ObjOk P w H h d (xdO d fs) from x d _ q).1
end
/-- an exception flies through the frames l -/
structure Fly (P : Program) (w : World) (B : Heap) (l : List Env) (e C : Addr) (dct : Option Addr) (H : Hp) (h : Heap) : Prop where
  at_ : ∃ fl, (fl = none ∨ fl = some Value.none) ∧ XAt B e (.ref C) dct fl h
  ff : h.FunFrames B l
  hok : HOk P w H h
  he : H e = some (excO e C dct false)
  cov : ∀ a o, H a = some o → a ≠ e → ∃ ob, B.get? a = some ob
/-- how an exception lies behind a call -/
def CXX (P : Program) (w : World) : CXT := fun outer H s E e s' => ∃ B ea C dct H', e = .ref ea ∧ s'.os = s.os ∧ AllBare s'.gens ∧ Fly P w B outer ea C dct H' s'.heap ∧ Un (frs outer) [] H H' s.heap s'.heap ∧
  (∀ b o, s.heap.get? b = some o → H b = none → b ∉ frs outer → B.get? b = some o) ∧ E (.ref ea) dct H'
theorem hok_step {P : Program} {w : World} {B : Heap} {e C : Addr} {dct : Option Addr} {fl : Option Value} {H : Hp} {h h' : Heap} (x : HOk P w H h) (he : H e = some (excO e C dct false)) (cov : ∀ a o, H a = some o → a ≠ e → ∃ ob, B.get? a = some ob) (st : B.StaysIn h)
    (y : XAt B e (.ref C) dct fl h') : HOk P w H h' := fun a o q => by
  by_cases z : a = e
  · subst z
    rw [he] at q
    cases q
    obtain ⟨oe, vs, e1, e2, e3, e4, e5, _⟩ := y.ex
    exact excO_ok ⟨oe, vs, e1, e2, e3, e4, e5, fun z => by cases z⟩
  · refine (x a o q).stay (fun b u hb g => ?_) (fun _ q => q) fun _ _ q => q
    have hbe : ∃ o', H b = some o' ∧ b ≠ e := by
      rcases hb with rfl | hb
      · exact ⟨_, q, z⟩
      · refine ⟨_, hb, fun y => ?_⟩
        rw [y, he] at hb
        cases hb
    obtain ⟨o', h1, h2⟩ := hbe
    obtain ⟨ob, h3⟩ := cov b o' h1 h2
    have h4 := st b ob h3
    rw [g] at h4
    cases h4
    exact y.stay b _ h3
section
variable {X : Cx} {pins : List (Addr × Obj)} {σ : St} {H H' : Hp} {s : Shared} {h' : Heap}
/-- the own frame is younger than the entry: what holds up to its slots holds of the call -/
theorem Inv.out (I : Inv X pins σ H s) (hex : X.ex = []) (u : Un (frs X.stack) [] H H' s.heap h') : Un X.fs [] X.H₀ H' X.s₀.heap h' := by
  have nl : ∀ b o, X.s₀.heap.get? b = some o → b ≠ X.env.locals := fun b o q z => absurd (Nat.lt_of_lt_of_le (Heap.lt_size q) (by rw [z]; exact I.ok.above)) (Nat.lt_irrefl _)
  have nx : ∀ b : Addr, b ∉ X.ex := fun b => by rw [hex]; simp
  have ns : ∀ b o, X.s₀.heap.get? b = some o → b ∉ X.fs → b ∉ frs X.stack := fun b o q n z => by
    rcases List.mem_cons.mp (I.stkSub b z) with y | y
    · exact nl b o q y
    · exact n y
  refine ⟨fun b o q n hb _ => u.keep b o (I.base.keep b o q n hb (nx b)) (I.base.free b o q n (nx b)) (ns b o q hb) (by simp), fun b o q n hb _ => ?_, fun b o q n _ => ?_, fun b o q _ => ?_, fun b xs q => u.tups b xs (I.base.tups b xs q), fun b o v q => u.frzs b o v (I.base.frzs b o v q), fun b ps q => ?_⟩
  · obtain ⟨sl, e⟩ := I.base.slot b o q n hb (nx b)
    have fr := I.base.free b o q n (nx b)
    by_cases hs : b ∈ frs X.stack
    · obtain ⟨sl2, e2⟩ := u.slot b _ e fr hs (by simp)
      exact ⟨sl2, e2⟩
    · exact ⟨sl, u.keep b _ e fr hs (by simp)⟩
  · obtain ⟨o1, e⟩ := I.base.there b o q (nx b)
    exact u.free b o1 e (I.base.free b o q n (nx b)) (by simp)
  · obtain ⟨o1, e⟩ := I.base.there b o q (nx b)
    exact u.there b o1 e (by simp)
  · obtain ⟨m1, e1⟩ := I.base.tbls b ps q
    obtain ⟨m2, e2⟩ := u.tbls b _ e1
    exact ⟨m1 ++ m2, by rw [e2, Array.append_assoc]⟩
/-- the whole but the frames and the exception -/
def bOf (X : Cx) (e : Addr) (h : Heap) : Heap := PySem.W.hideAll h (e :: frs X.stack)
theorem Inv.flyB (I : Inv X pins σ H s) {e C : Addr} {dct : Option Addr} (he : H e = some (excO e C dct true)) :
    XAt (bOf X e s.heap) e (.ref C) dct none s.heap ∧ s.heap.FunFrames (bOf X e s.heap) X.stack ∧ (∀ b o, s.heap.get? b = some o → b ≠ e → b ∉ frs X.stack → (bOf X e s.heap).get? b = some o) := by
  obtain ⟨oe, vs, e1, e2, e3, e4, e5, e6⟩ := I.hok.exc he
  refine ⟨⟨fun b o q => PySem.W.of_hideAll _ q, PySem.W.hideAll_none _ (.head _), oe, vs, e1, e2, e3, e4, e5, e6 rfl⟩, PySem.W.funFrames_hide I.stack fun env hm a ha => .tail _ (List.mem_filterMap.mpr ⟨env, hm, ha⟩), fun b o q n1 n2 => PySem.W.hideAll_get _ q fun z => ?_⟩
  rcases List.mem_cons.mp z with y | y
  · exact n1 y
  · exact n2 y
/-- behind a station: all but the frames' slots is as it was, the exception is no longer new -/
theorem Inv.flyUn (I : Inv X pins σ H s) {e C : Addr} {dct : Option Addr} {fl : Option Value} (he : H e = some (excO e C dct true)) (x : XAt (bOf X e s.heap) e (.ref C) dct fl h') (u : UpS s.heap h') :
    Un (frs X.stack) [] H (upd H e (excO e C dct false)) s.heap h' ∧ HOk X.prog X.w (upd H e (excO e C dct false)) h' ∧ ∀ a o, upd H e (excO e C dct false) a = some o → a ≠ e → ∃ ob, (bOf X e s.heap).get? a = some ob := by
  obtain ⟨x0, ff, big⟩ := I.flyB he
  have cov : ∀ a o, upd H e (excO e C dct false) a = some o → a ≠ e → ∃ ob, (bOf X e s.heap).get? a = some ob := fun a o q n => by
    rw [upd_ne n] at q
    obtain ⟨ob, g⟩ := (I.hok a o q).there
    exact ⟨ob, big a ob g n fun z => by rw [I.stkFree a z] at q; cases q⟩
  have ne : ∀ b, H b = none → b ≠ e := fun b n z => by rw [z, he] at n; cases n
  refine ⟨⟨fun b o q n hb _ => x.stay b o (big b o q (ne b n) hb), fun b o q n hb _ => ?_, fun b o q n _ => by rw [upd_ne (ne b n)]; exact n, fun b o q _ => u.th b o q, fun b xs q => ?_, fun b o v q => ?_, fun b ps q => ⟨#[], ?_⟩⟩, ?_, cov⟩
  · obtain ⟨_, o1, g, nf⟩ := ff.mem (show b ∈ X.stack.filterMap (·.frame) from hb)
    rw [q] at g
    cases g
    exact u.sl b o q nf
  · rw [upd_ne fun z => by rw [z, he] at q; cases q]; exact q
  · rw [upd_ne fun z => by rw [z, he] at q; cases q]; exact q
  · rw [upd_ne fun z => by rw [z, he] at q; cases q]; simpa using q
  · have h0 : HOk X.prog X.w (upd H e (excO e C dct false)) s.heap := fun a o q => by
      by_cases z : a = e
      · subst z
        rw [upd_same] at q
        cases q
        obtain ⟨oe, vs, e1, e2, e3, e4, e5, _⟩ := I.hok.exc he
        exact excO_ok ⟨oe, vs, e1, e2, e3, e4, e5, fun z => by cases z⟩
      · rw [upd_ne z] at q
        refine (I.hok a o q).stay (fun _ _ _ g => g) (fun b g => ?_) fun b xs g => ?_
        · rw [upd_ne fun z => by rw [z, he] at g; cases g]; exact g
        · rw [upd_ne fun z => by rw [z, he] at g; cases g]; exact g
    exact hok_step h0 upd_same cov x0.stay x
end
end L2
namespace L2
open PySem PySem.Spec PyProof.Rows
/-! ### raising and passing on -/
/-- what is wanted of an exception: itself, its own dict, the slots where it left the body, the heap -/
abbrev XH := Value → Option Addr → St → Hp → Prop
def PassesX (CX : CXT) (X : Cx) (Ek : XH) : Prop := ∀ (pins : List (Addr × Obj)) (σ : St) (H : Hp) (s : Shared) (e : Value) (s' : Shared), Inv X pins σ H s → CX X.stack H s (fun v d H' => Ek v d σ H') e s' → X.xe e s'
def RaisesX (X : Cx) (Ek : XH) : Prop := ∀ (pins : List (Addr × Obj)) (σ : St) (H : Hp) (s : Shared) (e C : Addr) (dct : Option Addr), Inv X pins σ H s → H e = some (excO e C dct true) → Ek (.ref e) dct σ (upd H e (excO e C dct false)) → X.xe (.ref e) s
abbrev EX0 : XH := fun _ _ _ _ => False
theorem passN {P : Program} {w : World} {X : Cx} : PassesX (CXX P w) X EX0 := fun _ _ _ _ _ _ _ ⟨_, _, _, _, _, _, _, _, _, _, _, h⟩ => h.elim
theorem passN0 {X : Cx} : PassesX CX0 X EX0 := fun _ _ _ _ _ _ _ h => h.elim
section
variable {X : Cx} {pins : List (Addr × Obj)} {σ : St} {H H' : Hp} {s s' : Shared} {B h' : Heap} {e C : Addr} {dct : Option Addr} {fl : Option Value}
/-- from a call's start to a station behind its exception -/
theorem fly_un (F : Fly X.prog X.w B X.stack e C dct H' s'.heap) (un : Un (frs X.stack) [] H H' s.heap s'.heap) (cv : ∀ b o, s.heap.get? b = some o → H b = none → b ∉ frs X.stack → B.get? b = some o)
    (x : XAt B e (.ref C) dct fl h') (u : UpS s'.heap h') : Un (frs X.stack) [] H H' s.heap h' ∧ HOk X.prog X.w H' h' := by
  obtain ⟨fl0, _, x0⟩ := F.at_
  refine ⟨⟨fun b o q n hb _ => x.stay b o (cv b o q n hb), fun b o q n hb _ => ?_, un.free, fun b o q hx => ?_, un.tups, un.frzs, un.tbls⟩, hok_step F.hok F.he F.cov x0.stay x⟩
  · obtain ⟨sl, e1⟩ := un.slot b o q n hb (by simp)
    obtain ⟨_, o1, g, nf⟩ := F.ff.mem (show b ∈ X.stack.filterMap (·.frame) from hb)
    rw [e1] at g
    cases g
    obtain ⟨sl2, e2⟩ := u.sl b _ e1 nf
    exact ⟨sl2, e2⟩
  · obtain ⟨o1, e1⟩ := un.there b o q hx
    exact u.th b o1 e1
theorem fly_inv (I : Inv X pins σ H s) (F : Fly X.prog X.w B X.stack e C dct H' s'.heap) (hos : s'.os = s.os) (hb : AllBare s'.gens) (un : Un (frs X.stack) [] H H' s.heap s'.heap)
    (cv : ∀ b o, s.heap.get? b = some o → H b = none → b ∉ frs X.stack → B.get? b = some o) (x : XAt B e (.ref C) dct fl h') (u : UpS s'.heap h') : Inv X pins σ H' { s' with heap := h' } := by
  obtain ⟨u2, ok⟩ := fly_un F un cv x u
  exact I.call' (s' := { s' with heap := h' }) (ch := []) hos u2 ok hb (fun b z => absurd z (by simp))
end
section
variable {P : Program} {w : World} {K : PySem.W.Frag} {mg : Str → Option Value} {base : Heap} {N : List Str} {qual : Str} {sc : Scope} {f : Addr} {cd : Value} {A : Around} {outer : List Env} {s₀ : Shared} {H₀ : Hp} {E : XK}
theorem raiseF : RaisesX (cxOf (CXX P w) P w K mg base N qual sc f cd A outer s₀ H₀ E) (fun v d _ H => E v d H) := by
  intro pins σ H s e C dct I he hE
  obtain ⟨x, ff, big⟩ := I.flyB he
  refine leave_at (outer := outer) (L := s₀.heap.objs.size) I.ok.frames ff rfl x (.inl rfl) fun h' x' u => ?_
  obtain ⟨un, ok, cov⟩ := I.flyUn he x' u
  refine ⟨_, e, C, dct, _, rfl, I.os, I.bare, ⟨⟨_, .inr rfl, x'⟩, (u.funs ff).2.2, ok, upd_same, cov⟩, I.out rfl un, fun b o q n hb => ?_, hE⟩
  have fr := I.base.free b o q n (by show b ∉ ([] : List Addr); simp)
  refine big b o (I.base.keep b o q n hb (by show b ∉ ([] : List Addr); simp)) (fun z => by rw [z, he] at fr; cases fr) fun z => ?_
  rcases List.mem_cons.mp (I.stkSub b z) with y | y
  · exact absurd (Nat.lt_of_lt_of_le (Heap.lt_size q) (by rw [y]; exact I.ok.above)) (Nat.lt_irrefl _)
  · exact hb y
theorem passF : PassesX (CXX P w) (cxOf (CXX P w) P w K mg base N qual sc f cd A outer s₀ H₀ E) (fun v d _ H => E v d H) := by
  intro pins σ H s e s' I q
  obtain ⟨B, ea, C, dct, H', rfl, hos, hb, F, un, cv, hE⟩ := q
  obtain ⟨fl0, hfl, x0⟩ := F.at_
  refine leave_at (outer := outer) (L := s₀.heap.objs.size) I.ok.frames F.ff rfl x0 hfl fun h' x' u => ?_
  obtain ⟨u2, ok⟩ := fly_un (X := cxOf (CXX P w) P w K mg base N qual sc f cd A outer s₀ H₀ E) F un cv x' u
  refine ⟨B, ea, C, dct, H', rfl, hos.trans I.os, hb, ⟨⟨_, .inr rfl, x'⟩, (u.funs F.ff).2.2, ok, F.he, F.cov⟩, I.out rfl u2, fun b o q n hb => ?_, hE⟩
  refine cv b o (I.base.keep b o q n hb (by show b ∉ ([] : List Addr); simp)) (I.base.free b o q n (by show b ∉ ([] : List Addr); simp)) fun z => ?_
  rcases List.mem_cons.mp (I.stkSub b z) with y | y
  · exact absurd (Nat.lt_of_lt_of_le (Heap.lt_size q) (by rw [y]; exact I.ok.above)) (Nat.lt_irrefl _)
  · exact hb y
end
/-! ### the body of a try -/
def tryCx (P : Program) (w : World) (X : Cx) (pins : List (Addr × Obj)) (Hk : XH) : Cx :=
  { X with pn := X.pn ++ pins, xe := fun e s' => ∃ σ H s, Inv X pins σ H s ∧ CXX P w X.stack H s (fun v d H' => Hk v d σ H') e s' }
section
variable {P : Program} {w : World} {X : Cx} {pins pins' : List (Addr × Obj)} {Hk : XH} {σ : St} {H : Hp} {s : Shared}
theorem unTry (I : Inv (tryCx P w X pins Hk) pins' σ H s) : Inv X pins σ H s := by
  have o := I.ok
  exact ⟨⟨o.mod, o.kind, o.glob, o.blt, o.above, o.inj, o.has, o.cab, o.hd, o.frames, o.stk, o.exf, o.bs, o.bsz, o.noex, o.exfs, o.funs, o.frf⟩, I.os, I.bare, I.base, I.loc, I.cell, I.free, I.freeC, fun p hp => I.pin p (List.mem_append_left _ hp), I.hok, I.len⟩
theorem inTry (I : Inv X pins σ H s) : Inv (tryCx P w X pins Hk) [] σ H s := by
  have o := I.ok
  exact ⟨⟨o.mod, o.kind, o.glob, o.blt, o.above, o.inj, o.has, o.cab, o.hd, o.frames, o.stk, o.exf, o.bs, o.bsz, o.noex, o.exfs, o.funs, o.frf⟩, I.os, I.bare, I.base, I.loc, I.cell, I.free, I.freeC, fun p hp => I.pin p (by simpa [tryCx] using hp), I.hok, I.len⟩
theorem passT : PassesX (CXX P w) (tryCx P w X pins Hk) Hk := fun _ σ H s _ _ I q => ⟨σ, H, s, unTry I, q⟩
end
/-- the suite of an except: e is handled there, nothing is raised in it -/
def sufCx (X : Cx) (e : Addr) : Cx := { X with A := X.A.mark (some (.ref e)), calm := false, xe := fun _ _ => False }
section
variable {X : Cx} {pins : List (Addr × Obj)} {σ : St} {H : Hp} {s : Shared} {e : Addr}
theorem inSuf (I : Inv X pins σ H s) : Inv (sufCx X e) pins σ H s := by
  have o := I.ok
  exact ⟨⟨o.mod, o.kind, o.glob, o.blt, o.above, o.inj, o.has, o.cab, (fun z => by cases z), o.frames, o.stk, o.exf, o.bs, o.bsz, o.noex, o.exfs, o.funs, o.frf⟩, I.os, I.bare, I.base, I.loc, I.cell, I.free, I.freeC, I.pin, I.hok, I.len⟩
theorem unSuf (o : X.Ok) (I : Inv (sufCx X e) pins σ H s) : Inv X pins σ H s :=
  ⟨o, I.os, I.bare, I.base, I.loc, I.cell, I.free, I.freeC, I.pin, I.hok, I.len⟩
end
/-! ### the rules -/
def tCallX (sp : Sp) (Ek : XH) (t : TA) : TE := fun σ H Q => t σ H fun vs H1 => sp vs H1 Q (fun v d H' => Ek v d σ H')
section
variable {X : Cx} {CX : CXT} {k : Nat} {x : Str} {ps : List Str} {sp : Sp} {Ek : XH} {p pos : Pos} {e : Expr} {es : List Expr} {t : TA}
theorem pe_callX (D : Def X.prog X.w X.K X.mg X.base CX k x ps sp) (hr : Room k X.A) (hg : Gl X x) (hx : PassesX CX X Ek) (ha : PA X (e :: es) t)
    (hdb : (x == ("__debug__" : Str)) = false := by decide) (he : starEach (e :: es) X.env = (false, eval e X.env) :: starEach es X.env := by rfl) (hpl : (backTo pos (starEach es X.env)).any (·.1) = false := by rfl) :
    PE X (.Call (.Name x p) (e :: es) [] pos) (tCallX sp Ek t) := by
  obtain ⟨f, fd, F, hb, hk, hm⟩ := D.ex
  intro pins s σ H Q I h
  refine wpAny_Call_Name_kw (ld_glob I hg hm ?_ hdb)
  refine PySem.W.callWith_K (h₀ := X.base) I.ok.mod.kin hk (thn (ha pos pins s σ H _ I h) fun us s1 ⟨vs, H1, I1, r, q⟩ => ⟨I1.kIn, ?_⟩) he hpl
  have hl : (us ++ []).length = ps.length := by rw [List.append_nil, ← r.length]; exact F.len _ _ _ _ q
  have hbb := hb s1 us I1.kIn hl
  rw [List.append_nil] at hbb
  refine wpAny_call (codeAny_mono (F.run X.A X.stack s1 H1 ⟨us, []⟩ us vs Q _ hr I1.env0 hbb r q) fun r s' hq => ?_)
  cases r with
  | error e => exact hx pins σ H1 s1 e s' I1 hq
  | ok fl =>
    cases fl with
    | ret u => exact I1.after hq
    | next => exact False.elim hq
    | brk => exact False.elim hq
    | cont => exact False.elim hq
end
/-- a def whose body raises nothing, whatever its calls' way with exceptions is -/
theorem Src.okN {P : Program} {w : World} {K : PySem.W.Frag} {mg : Str → Option Value} {base : Heap} {CX : CXT} {x : Str} {st : Stmt} {N ps : List Str} {k : Nat} {sp : Sp} (F : Src K mg x st ps) (S : FnScope N ps (defScope st)) (len : ∀ vs H Q E, sp vs H Q E → vs.length = ps.length)
    (hbody : ∀ (f : Addr) (cdv : Value) (A : Around) (outer : List Env) (s : Shared) (H : Hp) (vs : List V) (Q : VK) (E : XK), Room k (A.deeper (envOfC x (defScope st) s.heap.objs.size f cdv)) → sp vs H Q E →
      ∃ t, PSs (cxOf CX P w K mg base N x (defScope st) f cdv A outer s H E).nox (defBody st) t ∧ t { nx := fun _ H' => Q .non H', rt := Q } (start N vs) H) : Def P w K mg base CX (k + 1) x ps sp := by
  obtain ⟨f, fd, F, b, m⟩ := F.ex
  obtain ⟨oc, od, kV, doc, pm, an, cdv, ct, osl, rfl, lk, hcd⟩ := F.ex
  exact ⟨f, _, fn_of lk hcd S len fun A outer s H vs Q E hr hsp => by
    obtain ⟨t, h, q⟩ := hbody f cdv A outer s H vs Q E hr hsp
    exact ⟨t, h.nox, q⟩, b, F.kp, m⟩
/-- a def that may raise -/
theorem Src.okX {P : Program} {w : World} {K : PySem.W.Frag} {mg : Str → Option Value} {base : Heap} {x : Str} {st : Stmt} {N ps : List Str} {k : Nat} {sp : Sp} (F : Src K mg x st ps) (S : FnScope N ps (defScope st)) (len : ∀ vs H Q E, sp vs H Q E → vs.length = ps.length)
    (hbody : ∀ (f : Addr) (cdv : Value) (A : Around) (outer : List Env) (s : Shared) (H : Hp) (vs : List V) (Q : VK) (E : XK), Room k (A.deeper (envOfC x (defScope st) s.heap.objs.size f cdv)) → sp vs H Q E →
      ∃ t, PSs (cxOf (CXX P w) P w K mg base N x (defScope st) f cdv A outer s H E) (defBody st) t ∧ t { nx := fun _ H' => Q .non H', rt := Q } (start N vs) H) : Def P w K mg base (CXX P w) (k + 1) x ps sp := by
  obtain ⟨f, fd, F, b, m⟩ := F.ex
  obtain ⟨oc, od, kV, doc, pm, an, cdv, ct, osl, rfl, lk, hcd⟩ := F.ex
  exact ⟨f, _, fn_of lk hcd S len fun A outer s H vs Q E hr hsp => hbody f cdv A outer s H vs Q E hr hsp, b, F.kp, m⟩
theorem free_of {P : Program} {w : World} {H : Hp} {h : Heap} {a : Addr} (x : HOk P w H h) (e : h.get? a = none) : H a = none := by
  cases q : H a with
  | none => rfl
  | some o =>
    obtain ⟨ob, g⟩ := (x a o q).there
    rw [e] at g
    cases g
/-- a new object at a place where there was none -/
theorem Inv.laidN {X : Cx} {pins : List (Addr × Obj)} {σ : St} {H : Hp} {s : Shared} {h' : Heap} {a : Addr} {o : HO} {t' : Nat} (I : Inv X pins σ H s) (k : ∀ b u, s.heap.get? b = some u → h'.get? b = some u) (hn : s.heap.get? a = none) (new : ObjOk X.prog X.w (upd H a o) h' a o) :
    Inv X pins σ (upd H a o) { s with heap := h', toks := t' } := by
  have fr := free_of I.hok hn
  refine I.un (t' := t') ⟨fun b ob q _ _ _ => k b ob q, fun b ob q _ _ _ => ⟨ob.slots, k b ob q⟩, fun b ob q n _ => ?_, fun b ob q _ => ⟨ob, k b ob q⟩, fun b xs q => ?_, fun b ob v q => ?_, fun b ps q => ⟨#[], ?_⟩⟩ fun b ob q => ?_
  · rw [upd_ne fun z => by rw [z, hn] at q; cases q]; exact n
  · rw [upd_ne (ne_of_none q fr)]; exact q
  · rw [upd_ne (ne_of_none q fr)]; exact q
  · rw [upd_ne (ne_of_none q fr)]; simpa using q
  · by_cases z : b = a
    · subst z
      rw [upd_same] at q
      cases q
      exact new
    · rw [upd_ne z] at q
      exact (I.hok b ob q).stay (fun c u _ g => k c u g) (fun c g => by rw [upd_ne (ne_of_none g fr)]; exact g) fun c xs g => by rw [upd_ne (ne_of_none g fr)]; exact g
/-- C(..) of an exception class without an __init__ of its own -/
def tXmk (C : Addr) (t : TA) : TE := fun σ H Q => t σ H fun vs H1 => vs.length ≤ 1000 ∧ ∀ e, H1 e = none → Q (.ref e) (upd H1 e (excO e C none true))
/-- raise e -/
def tRaise (K : PySem.W.Frag) (Ek : XH) (te : TE) : TS := fun _ σ H => te σ H fun v H1 => ∃ e C dct, v = .ref e ∧ H1 e = some (excO e C dct true) ∧ XC K C ∧ Ek (.ref e) dct σ (upd H1 e (excO e C dct false))
section
variable {X : Cx} {C : Addr} {x : Str} {p pos : Pos} {e : Expr} {es : List Expr} {t : TA}
theorem pe_xmk (q : PySem.W.excIn X.K C bmV "ValueError.__new__" = true) (kp : PySem.W.keepIn X.K (.ref C) = true) (hg : Gl X x) (hm : X.mg x = some (.ref C)) (ha : PA X (e :: es) t)
    (hdb : (x == ("__debug__" : Str)) = false := by decide) (he : starEach (e :: es) X.env = (false, eval e X.env) :: starEach es X.env := by rfl) (hpl : (backTo pos (starEach es X.env)).any (·.1) = false := by rfl) :
    PE X (.Call (.Name x p) (e :: es) [] pos) (tXmk C t) := by
  intro pins s σ H Q I h
  refine wpAny_Call_Name_kw (ld_glob I hg hm ?_ hdb)
  refine PySem.W.callWith_K (h₀ := X.base) I.ok.mod.kin kp (thn (ha pos pins s σ H _ I h) fun us s1 ⟨vs, H1, I1, r, hl, q1⟩ => ⟨I1.kIn, ?_⟩) he hpl
  refine xmake0 I1.kIn q (by rw [List.nil_append, ← r.length]; exact line_lit hl) fun h' ea m => ?_
  obtain ⟨tt, g1, g2, g3⟩ := m.there
  exact ⟨.ref ea, _, I1.laidN (t' := s1.toks) m.keeps m.new (excO_ok ⟨_, _, g1, rfl, rfl, rfl, Nat.lt_of_lt_of_le (by decide) (Nat.le_refl 6), fun _ => rfl⟩), rfl, q1 ea (free_of I1.hok m.new)⟩
theorem ps_raise {Ek : XH} {te : TE} (K : PySem.W.Frag) (hK : X.K = K) (hc : X.calm = true) (hx : RaisesX X Ek) (he : PE X e te) : PS X (.Raise (some e) none pos) (tRaise K Ek te) := by
  subst hK
  intro pins s σ H D I h
  rw [arm_exec_Raise]
  refine wpAny_bind (wpAny_standAt ?_)
  show wpAny _ _ (raiseStmt X.env (some (do let v ← eval e X.env; standAt pos; pure v)) none) _ _ _
  refine xraise (K := X.K) (I.ok.hd hc) (wpAny_bind (thn (he pins s σ H _ I h) fun u s1 ⟨v, H1, I1, r, ea, C, dct, hv, hh, c, q⟩ => wpAny_bind (wpAny_standAt (wpAny_pure ?_))))
  subst hv
  cases (show u = Value.ref ea from r)
  obtain ⟨oe, vs, e1, e2, e3, e4, e5, e6⟩ := I1.hok.exc hh
  exact ⟨C, ea, oe, vs, c, rfl, I1.kIn, e1, e2, e4, e6 rfl, hx pins σ H1 s1 ea C dct I1 hh q⟩
end
/-! ### try .. except C [as e] -/
section
variable {prog : Program} {w : World} {A : Around} {E : Value → Shared → Prop} {s : Shared} {K : PySem.W.Frag} {e C C' : Addr}
theorem xmatch {oe : Obj} {b : Bool} {Q : Bool → Shared → Prop} (X : K.In s.heap) (c : XC K C') (he : s.heap.get? e = some oe) (hc : oe.cls = .ref C) (hs : PySem.W.subIn K (.ref C) (.ref C') = some b) (h : Q b s) : wpAny (model prog w) A (excMatches (.ref e) (.ref C')) Q E s := by
  obtain ⟨nm, qn, N, bs, bm, hdct, sn, sub, ab, col, dd, k0, k1, k2, k3, k5, lk, tl⟩ := c.ex
  obtain ⟨hp, g, d, t, os⟩ := s
  have cl := X _ _ lk
  have hcB : (Value.ref C' :: bm).contains (.type "BaseException") = true := by rw [List.contains_cons, (PySem.W.tail_of_in X tl).hasType (show bmV.contains (.type "BaseException") = true from rfl), Bool.or_true]
  have LS := PySem.W.looks_subIn (M := model prog w) X hs
  have f := tc_notTuple
  unfold excMatches
  repeat (first | (with_reducible refine wpAny_loadPart_at he ?_; rw [hc]) | with_reducible refine wpAny_loadPart_at cl ?_ | (with_reducible refine wpAny_isSubtype_exc cl ?_; rw [hcB]) | (with_reducible refine LS.at ?_) | wp_step)
  cases b with
  | true => wp_walk; exact h
  | false => wp_walk; exact h
end
/-- what a matching handler wants -/
def hkOf (K : PySem.W.Frag) (C' : Addr) (th : Addr → TS) (D : Ends) : XH := fun v d σ H => ∃ e C, v = .ref e ∧ H e = some (excO e C d false) ∧ PySem.W.subIn K (.ref C) (.ref C') = some true ∧ th e D σ H
def tTry (K : PySem.W.Frag) (C' : Addr) (tb : XH → TS) (th : TS) : TS := fun D σ H => tb (hkOf K C' (fun _ => th) D) D σ H
def tTryAs (K : PySem.W.Frag) (C' : Addr) (i : Nat) (tb : XH → TS) (th : TS) : TS := fun D σ H =>
  tb (hkOf K C' (fun e D σ H => th { nx := fun σ H => D.nx (σ.set i none) H, rt := D.rt, bk := fun σ H => D.bk (σ.set i none) H, ct := fun σ H => D.ct (σ.set i none) H } (σ.set i (some (.ref e))) H) D) D σ H
section
variable {P : Program} {w : World} {X : Cx} {C' : Addr} {x : Str} {np hpos pos : Pos} {body suite : List Stmt} {b0 : Stmt} {tb : XH → TS} {th : TS}
theorem SP.unTry {pins : List (Addr × Obj)} {Hk : XH} {D : Ends} {f : Flow} {s' : Shared} (h : SP (tryCx P w X pins Hk) [] D f s') : SP X pins D f s' := by
  cases f with
  | next => obtain ⟨σ, H, I, q⟩ := h; exact ⟨σ, H, L2.unTry I, q⟩
  | brk => obtain ⟨σ, H, I, q⟩ := h; exact ⟨σ, H, L2.unTry I, q⟩
  | cont => obtain ⟨σ, H, I, q⟩ := h; exact ⟨σ, H, L2.unTry I, q⟩
  | ret u => obtain ⟨v, σ, H, I, r, q⟩ := h; exact ⟨v, σ, H, L2.unTry I, r, q⟩
theorem SP.unSuf {pins : List (Addr × Obj)} {e : Addr} {D : Ends} {f : Flow} {s' : Shared} (o : X.Ok) (h : SP (sufCx X e) pins D f s') : SP X pins D f s' := by
  cases f with
  | next => obtain ⟨σ, H, I, q⟩ := h; exact ⟨σ, H, L2.unSuf o I, q⟩
  | brk => obtain ⟨σ, H, I, q⟩ := h; exact ⟨σ, H, L2.unSuf o I, q⟩
  | cont => obtain ⟨σ, H, I, q⟩ := h; exact ⟨σ, H, L2.unSuf o I, q⟩
  | ret u => obtain ⟨v, σ, H, I, r, q⟩ := h; exact ⟨v, σ, H, L2.unSuf o I, r, q⟩
theorem ps_try (hP : X.prog = P) (hw : X.w = w) (K : PySem.W.Frag) (hK : X.K = K) (hst : X.stack = X.env :: X.outer) (hf : X.env.frame = some X.env.locals) (c : XC K C') (hg : Gl X x) (hm : X.mg x = some (.ref C'))
    (hb : ∀ pins Hk, PSs (tryCx P w X pins Hk) body (tb Hk)) (hs : ∀ e, PSs (sufCx X e) (b0 :: suite) th) (hdb : (x == ("__debug__" : Str)) = false := by decide) :
    PS X (.Try body [.ExceptHandler (some (.Name x np)) none (b0 :: suite) hpos] [] [] pos) (tTry K C' tb th) := by
  subst hP hw hK
  intro pins s σ H D I h
  refine wpAny_Try_except (wpAny_mono (hb pins _ [] s σ H D (inTry I) h) (fun f s1 z => ?_) fun ev s1 z => ?_)
  · have z := SP.unTry z
    cases f with
    | next => obtain ⟨σ1, H1, I1, q⟩ := z; exact wpAny_execs_nil ⟨σ1, H1, I1, q⟩
    | brk => exact z
    | cont => exact z
    | ret u => exact z
  · obtain ⟨σ1, H1, s2, J, B, ea, C, dct, H', rfl, hos, hbr, F, un, cv, e2, C2, hv, he2, hsub, q⟩ := z
    cases hv
    have eC : C2 = C ∧ True := by
      obtain ⟨oe, vs, g1, g2, _⟩ := F.hok.exc he2
      obtain ⟨oe', vs', g1', g2', _⟩ := F.hok.exc F.he
      rw [g1] at g1'
      cases g1'
      rw [g2] at g2'
      exact ⟨Value.ref.inj g2', trivial⟩
    obtain ⟨rfl, _⟩ := eC
    obtain ⟨fl0, hfl, x0⟩ := F.at_
    refine note_at (outer := X.outer) (by rw [← hst]; exact J.ok.frames) (by rw [← hst]; exact F.ff) hf x0 hfl fun h1 x1 u1 => ?_
    refine land_at (s := { s1 with heap := h1 }) x1 fun h2 x2 u2 => ?_
    have J2 := fly_inv J F hos hbr un cv x2 (u1.trans u2)
    refine wpAny_handleBy_cons (codeAny_handlers_test (ld_glob (X := sufCx X ea) (inSuf J2) hg hm ?_ hdb)) (by intro z; cases z)
    obtain ⟨oe, vs, g1, g2, _⟩ := x2.ex
    refine xmatch J2.kIn c g1 g2 hsub (codeAny_handlers_suite ?_)
    refine land_at (s := { s1 with heap := h2 }) x2 fun h3 x3 u3 => ?_
    have J3 := fly_inv J F hos hbr un cv x3 ((u1.trans u2).trans u3)
    exact wpAny_mono (hs ea pins _ σ1 H' D (inSuf J3) q) (fun f s4 z => SP.unSuf J3.ok z) fun _ _ z => False.elim z
/-- the name goes -/
theorem drop_ok {M : Model} {A : Around} {E : Value → Shared → Prop} {pins : List (Addr × Obj)} {σ : St} {H : Hp} {s : Shared} {i : Nat} {n : Str} {pos : Pos} {Q : Unit → Shared → Prop} (I : Inv X pins σ H s) (hN : X.N.Nodup) (hi : X.N[i]? = some n) (hl : X.env.scope.names.lookup n = some .local)
    (h : ∀ s', Inv X pins (σ.set i none) H s' → Q () s') : wpAny M A (do bindName X.env n .none; unbindBehindTheSuite X.env n pos) Q E s := by
  have hcls : (X.env.scope.kind == .class || (X.env.scope.kind == .module && X.env.locals != X.env.globals)) = false := by rw [I.ok.kind]; rfl
  refine wpAny_bind (wpAny_bindName (store_ok (v := V.non) I hN hi (.inl hl) rfl (fun s1 I1 => ?_) (.inr hl)))
  unfold unbindBehindTheSuite
  refine wpAny_onRaise ?_
  obtain ⟨m, hn, hlk⟩ := id I1.loc
  have hil : i < σ.length := by rw [I.len]; exact (List.getElem?_eq_some_iff.mp hi).1
  obtain ⟨u, ru, lk⟩ := hlk i n .non hi (by rw [List.getElem?_set_self hil]) (.inl hl)
  have mv : m n = some u := by
    rcases lk with ⟨_, z⟩ | ⟨z, _⟩
    · exact z
    · rcases z with z | z
      · rw [show X.env.kindOf n = some .local from hl] at z; cases z
      · rw [show X.env.kindOf n = some .local from hl] at z; cases z
  refine wpAny_unbindName_local (show X.env.kindOf n = some .local from hl) hn mv hcls fun h' u' hn' hs => h _ ?_
  have cne := I1.cne
  refine ⟨I1.ok, I1.os, I1.bare, ⟨fun b o e n hb hx => ?_, fun b o e n hb hx => ?_, I1.base.free, fun b o e hx => ?_, I1.base.tups, I1.base.frzs, I1.base.tbls⟩, ⟨_, hn', fun j y v' e1 e2 e3 => ?_⟩, fun y c e => ?_, I1.free, I1.freeC, fun p hp => ?_, fun b ob e => ?_, ?_⟩
  · exact (hs.2 b (Nat.ne_of_lt (Nat.lt_of_lt_of_le (Heap.lt_size e) I1.ok.above))).trans (I1.base.keep b o e n hb hx)
  · obtain ⟨sl, e1⟩ := I1.base.slot b o e n hb hx
    exact ⟨sl, (hs.2 b (Nat.ne_of_lt (Nat.lt_of_lt_of_le (Heap.lt_size e) I1.ok.above))).trans e1⟩
  · obtain ⟨o', e1⟩ := I1.base.there b o e hx
    exact ⟨o', (hs.2 b (Nat.ne_of_lt (Nat.lt_of_lt_of_le (Heap.lt_size e) I1.ok.above))).trans e1⟩
  · by_cases hj : j = i
    · subst hj
      rw [List.getElem?_set_self hil] at e2
      cases e2
    · have e2' : (σ.set i (some V.non))[j]? = some (some v') := by
        rw [List.getElem?_set_ne (Ne.symm hj)] at e2 ⊢; exact e2
      obtain ⟨u1, r1, q⟩ := hlk j y v' e1 e2' e3
      refine ⟨u1, r1, ?_⟩
      rcases q with ⟨k, e⟩ | ⟨k, c, e, z⟩
      · refine .inl ⟨k, ?_⟩
        have : y ≠ n := fun e => hj (nodup_ix hN e1 (e ▸ hi))
        simp [this, e]
      · exact .inr ⟨k, c, e, z.sameBut hs (cne y c e)⟩
  · obtain ⟨w', z⟩ := I1.cell y c e
    exact ⟨w', z.sameBut hs (cne y c e)⟩
  · obtain ⟨e, n, ne, nf, d⟩ := I1.pin p hp
    exact ⟨(hs.2 p.1 ne).trans e, n, ne, nf, d⟩
  · refine (I1.hok b ob e).stay (fun c w' hc q => (hs.2 c ?_).trans q) (fun _ q => q) fun _ _ q => q
    rintro rfl
    have fr : H X.env.locals = none := I1.free
    rcases hc with z | hc
    · rw [← z, fr] at e; cases e
    · rw [fr] at hc; cases hc
  · have := I1.len
    rw [List.length_set] at this ⊢
    exact this
theorem ps_tryAs {i : Nat} {n : Str} (hP : X.prog = P) (hw : X.w = w) (K : PySem.W.Frag) (hK : X.K = K) (hst : X.stack = X.env :: X.outer) (hf : X.env.frame = some X.env.locals) (c : XC K C') (hg : Gl X x) (hm : X.mg x = some (.ref C'))
    (hN : X.N.Nodup) (hi : X.N[i]? = some n) (hl : X.env.scope.names.lookup n = some .local)
    (hb : ∀ pins Hk, PSs (tryCx P w X pins Hk) body (tb Hk)) (hs : ∀ e, PSs (sufCx X e) (b0 :: suite) th) (hdb : (x == ("__debug__" : Str)) = false := by decide) :
    PS X (.Try body [.ExceptHandler (some (.Name x np)) (some n) (b0 :: suite) hpos] [] [] pos) (tTryAs K C' i tb th) := by
  subst hP hw hK
  intro pins s σ H D I h
  refine wpAny_Try_except (wpAny_mono (hb pins _ [] s σ H D (inTry I) h) (fun f s1 z => ?_) fun ev s1 z => ?_)
  · have z := SP.unTry z
    cases f with
    | next => obtain ⟨σ1, H1, I1, q⟩ := z; exact wpAny_execs_nil ⟨σ1, H1, I1, q⟩
    | brk => exact z
    | cont => exact z
    | ret u => exact z
  · obtain ⟨σ1, H1, s2, J, B, ea, C, dct, H', rfl, hos, hbr, F, un, cv, e2, C2, hv, he2, hsub, q⟩ := z
    cases hv
    have eC : C2 = C ∧ True := by
      obtain ⟨oe, vs, g1, g2, _⟩ := F.hok.exc he2
      obtain ⟨oe', vs', g1', g2', _⟩ := F.hok.exc F.he
      rw [g1] at g1'
      cases g1'
      rw [g2] at g2'
      exact ⟨Value.ref.inj g2', trivial⟩
    obtain ⟨rfl, _⟩ := eC
    obtain ⟨fl0, hfl, x0⟩ := F.at_
    refine note_at (outer := X.outer) (by rw [← hst]; exact J.ok.frames) (by rw [← hst]; exact F.ff) hf x0 hfl fun h1 x1 u1 => ?_
    refine land_at (s := { s1 with heap := h1 }) x1 fun h2 x2 u2 => ?_
    have J2 := fly_inv J F hos hbr un cv x2 (u1.trans u2)
    refine wpAny_handleBy_cons (codeAny_handlers_test (ld_glob (X := sufCx X ea) (inSuf J2) hg hm ?_ hdb)) (by intro z; cases z)
    obtain ⟨oe, vs, g1, g2, _⟩ := x2.ex
    refine xmatch J2.kIn c g1 g2 hsub (codeAny_handlers_suite_as ?_)
    refine land_at (s := { s1 with heap := h2 }) x2 fun h3 x3 u3 => ?_
    have J3 := fly_inv J F hos hbr un cv x3 ((u1.trans u2).trans u3)
    refine store_ok (X := sufCx X ea) (v := V.ref ea) (inSuf J3) hN hi (.inl hl) rfl (fun s4 J4 => ?_) (.inr hl)
    refine wpAny_mono (hs ea pins s4 _ H' _ J4 q) (fun f s5 z => ?_) fun _ _ z => False.elim z
    have o : X.Ok := J3.ok
    show wpAny _ _ _ (fun _ s6 => SP X pins D f s6) _ _
    cases f with
    | next => obtain ⟨σ5, H5, J5, q5⟩ := z; exact drop_ok (unSuf o J5) hN hi hl fun s6 J6 => ⟨_, _, J6, q5⟩
    | brk => obtain ⟨σ5, H5, J5, q5⟩ := z; exact drop_ok (unSuf o J5) hN hi hl fun s6 J6 => ⟨_, _, J6, q5⟩
    | cont => obtain ⟨σ5, H5, J5, q5⟩ := z; exact drop_ok (unSuf o J5) hN hi hl fun s6 J6 => ⟨_, _, J6, q5⟩
    | ret u => obtain ⟨v, σ5, H5, J5, r5, q5⟩ := z; exact drop_ok (unSuf o J5) hN hi hl fun s6 J6 => ⟨v, _, _, J6, r5, q5⟩
end
end L2
namespace L2
open PySem PySem.Spec PyProof.Rows
/-! ### exceptions read: isinstance, fields -/
/-- its own dict, where it has one, is tracked -/
def XFull (H : Hp) (dct : Option Addr) : Prop := dct = none ∨ ∃ d fs, dct = some d ∧ H d = some (xdO d fs)
theorem xd_obj {d : Addr} {fs : List (Str × V)} {h : Heap} (x : XDt d fs h) : ∃ o, h.get? d = some o := by
  obtain ⟨mA, ⟨o, es, ep, e1, _⟩, _⟩ := x
  exact ⟨o, e1⟩
theorem exc_inst {P : Program} {w : World} {H : Hp} {h : Heap} {e C : Addr} {dct : Option Addr} {fr : Bool} (x : HOk P w H h) (he : H e = some (excO e C dct fr)) (hf : XFull H dct) : ∃ ox od, PySem.W.InstAt h e ox C od := by
  obtain ⟨oe, vs, e1, e2, e3, e4, _⟩ := x.exc he
  have no : PySem.W.notCls oe = true := by unfold PySem.W.notCls; rw [e4]
  rcases hf with rfl | ⟨d, fs, rfl, hd⟩
  · exact ⟨oe, none, e1, e2, no, by rw [e3]; trivial⟩
  · obtain ⟨o, g⟩ := xd_obj (x.xd hd)
    exact ⟨oe, some o, e1, e2, no, by rw [e3]; exact g⟩
def rInstX (K : PySem.W.Frag) : List V → Hp → VK → Prop := fun xs H Q => ∃ e C dct fr c cv b, xs = [.ref e, c] ∧ H e = some (excO e C dct fr) ∧ XFull H dct ∧ XC K C ∧ clsV c = some cv ∧ PySem.W.kitOne K (.ref C) cv = some b ∧ Q (.bl b) H
/-- e.f of an exception -/
def tXfld (K : PySem.W.Frag) (ta : TE) (f : Str) : TE := fun σ H Q => ta σ H fun x H1 => ∃ e C d fr fs v, x = .ref e ∧ H1 e = some (excO e C (some d) fr) ∧ H1 d = some (xdO d fs) ∧ XC K C ∧ PySem.W.findIn K (.ref C) f = some none ∧ fs.lookup f = some v ∧ Q v H1
/-- self.f = v of an exception -/
def sXfld (K : PySem.W.Frag) (ta tv : TE) (f : Str) : TS := fun D σ H => tv σ H fun y H1 => ta σ H1 fun x H2 => ∃ e C dct fr, x = .ref e ∧ H2 e = some (excO e C dct fr) ∧ XC K C ∧ PySem.W.takerIn K C f = some none ∧
  ((dct = none ∧ ∀ d, H2 d = none → d ≠ e → D.nx σ (upd (upd H2 e (excO e C (some d) fr)) d (xdO d [(f, y)]))) ∨ ∃ d fs, dct = some d ∧ H2 d = some (xdO d fs) ∧ fs.length ≤ 100 ∧ D.nx σ (upd H2 d (xdO d (putF f y fs))))
theorem ns1_look {h : Heap} {d : Addr} {mA : Str → Option Value} (n : h.Ns1 d mA) {o : Obj} (ho : h.get? d = some o) (name : Str) : PySem.W.lookIn name o = some (mA name) := by
  obtain ⟨od, h1, h2⟩ := lookIn_ns n
  rw [ho] at h1
  cases h1
  exact h2 name
section
variable {X : Cx}
theorem call_isinstX (K : PySem.W.Frag) (hK : X.K = K) : CallR X (.builtin "isinstance") (rInstX K) := by
  subst hK
  intro pins s σ H xs us Q I r h
  obtain ⟨e, C, dct, fr, c, cv, b, rfl, he, hf, xc, hc, k, q⟩ := h
  obtain ⟨u, v, rfl, rx, rc⟩ := Vals.two r
  cases (show u = Value.ref e from rx)
  have ec : v = cv := by
    cases c with
    | ty n => cases (show v = Value.type n from rc); exact Option.some.inj hc
    | ref a => cases (show v = Value.ref a from rc); exact Option.some.inj hc
    | _ => cases hc
  subst ec
  exact PySem.W.kia_one (kitx_exc xc) I.kIn (exc_inst I.hok he hf) k (fun z => nomatch z) fun tk => ⟨.bl b, H, I.tok _, rfl, q⟩
theorem pe_xfld {o : Expr} {f : Str} {pos : Pos} {ta : TE} (K : PySem.W.Frag) (hK : X.K = K) (ho : PE X o ta) (hb : attributeBase o f X.env (eval o X.env) = eval o X.env) : PE X (.Attribute o f pos) (tXfld K ta f) := by
  subst hK
  intro pins s σ H Q I h
  refine attr_of hb (thn (ho pins s σ H _ I h) fun u s1 ⟨v, H1, I1, r, e, C, d, fr, fs, y, ev, he, hd, xc, hn, hl, q⟩ => ?_)
  subst ev
  cases (show u = Value.ref e from r)
  obtain ⟨oe, vs, e1, e2, e3, e4, _⟩ := I1.hok.exc he
  obtain ⟨mA, ns, rel⟩ := I1.hok.xd hd
  obtain ⟨od, g⟩ := xd_obj (I1.hok.xd hd)
  have no : PySem.W.notCls oe = true := by unfold PySem.W.notCls; rw [e4]
  have rl := rel f
  rw [hl] at rl
  obtain ⟨u, hu, ru⟩ := RelO.some_of rl
  obtain ⟨cd, hc, hcd⟩ := PySem.W.any_some xc.hd
  have hf : PySem.W.findObj X.K C (some od) f = some (.value u) := by
    unfold PySem.W.findObj PySem.W.ownOf
    rw [hc, Option.bind_some, hn, Option.bind_some]
    dsimp only
    rw [Option.bind_some, Option.bind_some]
    dsimp only
    rw [if_pos hcd, ns1_look ns g f, hu, Option.bind_some]
  exact xget_value I1.kIn xc ⟨e1, e2, no, by rw [e3]; exact g⟩ hf (handed_of ru) ⟨y, H1, I1.tok _, ru, q⟩
end
end L2
namespace L2
open PySem PySem.Spec PyProof.Rows
section
variable {K : PySem.W.Frag} {C C' : Addr}
theorem xc_plain (q : PySem.W.excIn K C bmV "ValueError.__new__" = true) : ∃ nm q N bs bm hdct sn sub ab col dd k0 k1 k2 k3 k5, K.lookup C = some (excClassObj nm q C N bs bm hdct sn sub ab col dd k0 k1 k2 k3 k5 "ValueError.__new__") ∧ PySem.W.tailIn K bmV bm = true := by
  obtain ⟨nm, q, N, bs, bm, hdct, sn, sub, ab, col, dd, k0, k1, k2, k3, k5, l, t, _⟩ := XC.plain q
  exact ⟨nm, q, N, bs, bm, hdct, sn, sub, ab, col, dd, k0, k1, k2, k3, k5, l, t⟩
theorem kit_self : PySem.W.kitOne K (.ref C) (.ref C) = some true := by
  unfold PySem.W.kitOne
  rw [if_pos (by simp)]
theorem kit_of {cd : ClassData} {b : Bool} (n : (Value.ref C == Value.ref C') = false) (hc : PySem.W.clsIn K C' = some cd) (ht : PySem.W.typeIn K (.ref C') = some (.type "type")) (hs : PySem.W.subIn K (.ref C) (.ref C') = some b) : PySem.W.kitOne K (.ref C) (.ref C') = some b := by
  unfold PySem.W.kitOne
  rw [if_neg (by rw [n]; decide)]
  unfold PySem.W.kitCls
  dsimp only
  rw [if_pos (by rw [hc, ht]; rfl)]
  exact hs
theorem kit_ve {b : Bool} (hs : PySem.W.subIn K (.ref C) (.type "ValueError") = some b) : PySem.W.kitOne K (.ref C) (.type "ValueError") = some b := by
  unfold PySem.W.kitOne
  rw [if_neg (by simp)]
  unfold PySem.W.kitCls
  dsimp only
  rw [if_pos (by decide +kernel)]
  exact hs
end
end L2
namespace L2
open PySem PySem.Spec PyProof.Rows
/-- xs[::-1] -/
def tRev (K : PySem.W.Frag) (te tk : TE) : TE := fun σ H Q => te σ H fun x H1 => tk σ H1 fun y H2 => ∃ a xs, x = .ref a ∧ y = .int (-1) ∧ SqL K H2 a xs ∧ ∀ p, H2 p = none → Q (.ref p) (upd H2 p (.lst xs.reverse))
theorem Vals.rev {xs : List V} {us : List Value} (r : Vals xs us) : Vals xs.reverse us.reverse := by
  induction r with
  | nil => exact .nil
  | cons a b ih => rw [List.reverse_cons, List.reverse_cons]; exact ih.append (.cons a .nil)
theorem pe_rev {X : Cx} (K : PySem.W.Frag) (hK : X.K = K) {e k : Expr} {te tk : TE} {p2 pos : Pos} (he : PE X e te) (hk : PE X k tk) : PE X (.Subscript e (.Slice none none (some k) p2) pos) (tRev K te tk) := by
  subst hK
  intro pins s σ H Q I h
  refine Subscript_ (thn (he pins s σ H _ I h) fun v s1 ⟨x, H1, I1, r1, q1⟩ => ?_)
  refine wpAny_Slice ?_
  rw [evalPart_none]
  refine wpAny_pure (wpAny_pure ?_)
  rw [evalPart_some]
  refine thn (hk pins s1 σ H1 _ I1 q1) fun y s2 ⟨yv, H2, I2, r2, q2⟩ => ?_
  obtain ⟨a, xs, rfl, rfl, hx, q⟩ := q2
  cases (show v = Value.ref a from r1)
  obtain ⟨t, rfl⟩ := (show ∃ t, y = Value.int (-1) t from r2)
  have I4 : Inv X pins σ H2 { s2 with heap := s2.heap.push { cls := .type "slice", data := .fields #[.none, .none, .int (-1) t] } } := I2.kept (t' := s2.toks) fun b ob q => Heap.get?_push_of_some _ q
  obtain ⟨its, r, ht, hz⟩ := I4.list hx
  show wpAny (model X.prog X.w) X.A (subscriptTail e (.Slice none none (some k) p2) (.ref a) (.ref s2.heap.objs.size)) (EP X pins σ Q) X.xe { s2 with heap := s2.heap.push { cls := .type "slice", data := .fields #[.none, .none, .int (-1) t] } }
  refine tail_any (ops := [.ref a, .ref s2.heap.objs.size]) ht.isList.typeIs slot_list_getitem.lookup ?_ (by with_unfolding_all rfl)
  refine wpAny_getItem_list_slice ht.isList (Heap.IsSliceOf.new ..) .none .none (.int (-1) t) (by simp) ?_ (by rw [List.size_toArray, ← r.length]; exact hz)
  rw [PySem.W.krv_pick]
  refine ⟨.ref _, _, I4.laid (t' := s2.toks) (o := .lst xs.reverse) (fun b ob q => Heap.get?_push_of_some _ q) (Nat.le_refl _) ?_, rfl, q _ (I4.hok.fresh (Nat.le_refl _))⟩
  exact ⟨by rw [List.length_reverse]; exact hz, _, 0, r.rev, Heap.get?_push_size _ rfl⟩
end L2
namespace L2
open PySem PySem.Spec PyProof.Rows
/-! ### tuples by an encoding, lists of them -/
abbrev TupsF {α : Type} (enc : α → List V) (H : Hp) : List Addr → List α → Prop := Paired fun p q => H p = some (.tup (enc q))
section
variable {α : Type} {enc : α → List V} {H H' : Hp} {ps : List Addr} {qs : List α}
theorem tupsF_len (h : TupsF enc H ps qs) : ps.length = qs.length := Paired.length h
theorem tupsF_same (h : TupsF enc H ps qs) (e : Same H H') : TupsF enc H' ps qs := Paired.mapP h fun _ _ q => e _ _ q
theorem tupsF_keep (h : TupsF enc H ps qs) (e : ∀ p xs, H p = some (.tup xs) → H' p = some (.tup xs)) : TupsF enc H' ps qs := Paired.mapP h fun _ _ q => e _ _ q
theorem tupsF_snoc {t : Addr} {q : α} (ht : H t = some (.tup (enc q))) : ∀ {ps : List Addr} {qs : List α}, TupsF enc H ps qs → TupsF enc H (ps ++ [t]) (qs ++ [q])
  | _, _, Paired.nil => .cons ht .nil
  | _, _, Paired.cons a b => .cons a (tupsF_snoc ht b)
theorem tupsF_app {ps' : List Addr} {qs' : List α} (h' : TupsF enc H ps' qs') : ∀ {ps : List Addr} {qs : List α}, TupsF enc H ps qs → TupsF enc H (ps ++ ps') (qs ++ qs')
  | _, _, Paired.nil => h'
  | _, _, Paired.cons a b => .cons a (tupsF_app h' b)
theorem tupsF_rev : ∀ {ps : List Addr} {qs : List α}, TupsF enc H ps qs → TupsF enc H ps.reverse qs.reverse
  | _, _, Paired.nil => .nil
  | _, _, Paired.cons a b => by rw [List.reverse_cons, List.reverse_cons]; exact tupsF_snoc a (tupsF_rev b)
theorem tupsF_take : ∀ {ps : List Addr} {qs : List α} (n : Nat), TupsF enc H ps qs → TupsF enc H (ps.take n) (qs.take n)
  | _, _, 0, _ => .nil
  | _, _, _ + 1, Paired.nil => .nil
  | _, _, n + 1, Paired.cons a b => .cons a (tupsF_take n b)
theorem tupsF_get : ∀ {ps : List Addr} {qs : List α} {i : Nat} {p : Addr}, TupsF enc H ps qs → ps[i]? = some p → ∃ q, qs[i]? = some q ∧ H p = some (.tup (enc q))
  | _, _, _, _, Paired.nil, e => by simp at e
  | _, _, 0, _, Paired.cons a _, e => by simp at e; subst e; exact ⟨_, rfl, a⟩
  | _, _, i + 1, _, Paired.cons _ b, e => by
    obtain ⟨q, h1, h2⟩ := tupsF_get (i := i) b (by simpa using e)
    exact ⟨q, by simpa using h1, h2⟩
/-- a list that grows: the script's cut at p, the list at l, all else as it was -/
structure Grow (enc : α → List V) (H₀ H : Hp) (p : Addr) (ms : List V) (l : Addr) (ps : List Addr) (qs : List α) : Prop where
  sm : Same H₀ H
  hp : H p = some (.lst ms)
  hl : H l = some (.lst (ps.map V.ref))
  r : TupsF enc H ps qs
theorem Grow.same {H₀ : Hp} {p : Addr} {ms : List V} {l : Addr} (I : Grow enc H₀ H p ms l ps qs) (e : Same H H') : Grow enc H₀ H' p ms l ps qs := ⟨I.sm.trans e, e _ _ I.hp, e _ _ I.hl, tupsF_same I.r e⟩
theorem Grow.snoc {H₀ : Hp} {p : Addr} {ms : List V} {l t : Addr} {q : α} (I : Grow enc H₀ H p ms l ps qs) (h0 : H₀ l = none) (hpl : p ≠ l) (ht : H t = some (.tup (enc q))) :
    Grow enc H₀ (upd H l (.lst (ps.map V.ref ++ [.ref t]))) p ms l (ps ++ [t]) (qs ++ [q]) := by
  have kt : ∀ b xs, H b = some (.tup xs) → upd H l (.lst (ps.map V.ref ++ [.ref t])) b = some (.tup xs) := fun b xs e => by
    rw [upd_ne (ne_of e I.hl (by intro z; cases z))]; exact e
  refine ⟨fun b o e => ?_, by rw [upd_ne hpl]; exact I.hp, by rw [upd_same]; simp, tupsF_snoc (kt _ _ ht) (tupsF_keep I.r kt)⟩
  rw [upd_ne (ne_of_none e h0)]; exact I.sm _ _ e
/-- the list at l -/
structure Lst (enc : α → List V) (H : Hp) (l : Addr) (ps : List Addr) (qs : List α) : Prop where
  hl : H l = some (.lst (ps.map V.ref))
  r : TupsF enc H ps qs
theorem Lst.same {l : Addr} (R : Lst enc H l ps qs) (e : Same H H') : Lst enc H' l ps qs := ⟨e _ _ R.hl, tupsF_same R.r e⟩
theorem Lst.copy {l l' : Addr} (R : Lst enc H l ps qs) (h : H l' = none) : Lst enc (upd H l' (.lst (ps.map V.ref))) l' ps qs := ⟨upd_same, tupsF_same R.r (same_new h)⟩
end
/-! ### fractions -/
abbrev F2 := Int × Int
def f2 (q : F2) : List V := [.int q.1, .int q.2]
def f2D (q : F2) : PyData := .tuple [.int q.1, .int q.2]
theorem f2_deep {K : PySem.W.Frag} {H : Hp} {p : Addr} {q : F2} (h : H p = some (.tup (f2 q))) : Deep K H (.ref p) (f2D q) := .tup (.of h) (.cons (.int _) (.cons (.int _) .nil))
theorem f2s_deep {K : PySem.W.Frag} {H : Hp} : ∀ {ps : List Addr} {qs : List F2}, TupsF f2 H ps qs → DeepAll K H (ps.map V.ref) (qs.map f2D)
  | _, _, Paired.nil => .nil
  | _, _, Paired.cons a b => .cons (f2_deep a) (f2s_deep b)
theorem f2l_deep {K : PySem.W.Frag} {H : Hp} {l : Addr} {ps : List Addr} {qs : List F2} (R : Lst f2 H l ps qs) : Deep K H (.ref l) (.list (qs.map f2D)) := .lst (.of R.hl) (f2s_deep R.r)
theorem shaped_f2 (q : F2) : PySem.SeqAt.shaped (f2D q) = true := by
  unfold PySem.SeqAt.shaped f2D
  rw [Bool.and_eq_true, decide_eq_true_eq]
  exact ⟨rfl, by simp [PyData.depth, PyData.depthAll]⟩
theorem shaped_f2s (qs : List F2) : PySem.SeqAt.shaped (.list (qs.map f2D)) = true := shaped_list (n := 1) (fun _ => rfl) (fun q => by simp [f2D, PyData.depth, PyData.depthAll]) (by decide) qs
theorem eqv_f2 (a b : F2) : PyData.eqv (f2D a) (f2D b) = decide (a = b) := by
  obtain ⟨a1, a2⟩ := a
  obtain ⟨b1, b2⟩ := b
  simp only [f2D, PyData.eqv, PyData.eqvAll, Bool.and_true, Prod.mk.injEq, Bool.decide_and]
  rfl
end L2
namespace Sw
open L2
/-- the lowest terms of a pair -/
def nrm (q : F2) : F2 := (rN q.1 q.2, rD q.1 q.2)
theorem nrm_fr {q : F2} (h : q.2 ≠ 0) : Fr (nrm q).1 (nrm q).2 := rat_fr h
theorem nrm_cross {q : F2} (h : q.2 ≠ 0) : (nrm q).1 * q.2 = (nrm q).2 * q.1 := rat_cross h
theorem nrm_uniq {q r : F2} (h : q.2 ≠ 0) (f : Fr r.1 r.2) (e : r.1 * q.2 = r.2 * q.1) : nrm q = r := by
  obtain ⟨h1, h2⟩ := rat_uniq h f e
  exact Prod.ext h1 h2
theorem nrm_eq {q r : F2} (hq : q.2 ≠ 0) (hr : r.2 ≠ 0) (e : q.1 * r.2 = r.1 * q.2) : nrm q = nrm r := by
  refine nrm_uniq hq (nrm_fr hr) ?_
  have c := nrm_cross hr
  refine Int.eq_of_mul_eq_mul_left hr ?_
  generalize (nrm r).1 = n at *
  generalize (nrm r).2 = d at *
  grind
theorem nrm_self {q : F2} (f : Fr q.1 q.2) : nrm q = q := nrm_uniq (by have := f.pos; omega) f (Int.mul_comm _ _)
/-- the sum of two pairs, as they stand -/
def addP (a b : F2) : F2 := (a.1 * b.2 + b.1 * a.2, a.2 * b.2)
theorem addP_comm (a b : F2) : addP a b = addP b a := by unfold addP; refine Prod.ext ?_ ?_ <;> dsimp only <;> grind
theorem addP_assoc (a b c : F2) : addP (addP a b) c = addP a (addP b c) := by unfold addP; refine Prod.ext ?_ ?_ <;> dsimp only <;> grind
def sumP (l : List F2) : F2 := l.foldl addP (0, 1)
theorem sumP_snoc (l : List F2) (q : F2) : sumP (l ++ [q]) = addP (sumP l) q := by unfold sumP; rw [List.foldl_append]; rfl
theorem fold_add (l : List F2) (a b : F2) : l.foldl addP (addP a b) = addP a (l.foldl addP b) := by
  induction l generalizing b with
  | nil => rfl
  | cons c r ih => rw [List.foldl_cons, List.foldl_cons, addP_assoc, ih]
theorem addP_zero (a : F2) : addP (0, 1) a = a := by unfold addP; refine Prod.ext ?_ ?_ <;> dsimp only <;> grind
theorem sumP_cons (q : F2) (l : List F2) : sumP (q :: l) = addP q (sumP l) := by
  unfold sumP
  rw [List.foldl_cons, addP_comm, fold_add]
theorem sumP_rev (l : List F2) : sumP l.reverse = sumP l := by
  induction l with
  | nil => rfl
  | cons q r ih => rw [List.reverse_cons, sumP_snoc, ih, sumP_cons, addP_comm]
theorem sumP_pos {l : List F2} (h : ∀ q ∈ l, 0 < q.2) : 0 < (sumP l).2 := by
  induction l with
  | nil => decide
  | cons q r ih =>
    rw [sumP_cons]
    exact Int.mul_pos (h q (by simp)) (ih fun x hx => h x (by simp [hx]))
/-- a fraction added in lowest terms -/
theorem nrm_add {s q : F2} (hs : s.2 ≠ 0) (hq : q.2 ≠ 0) : nrm (addP (nrm s) q) = nrm (addP s q) := by
  have f := nrm_fr hs
  have c := nrm_cross hs
  have hd : (nrm s).2 ≠ 0 := by have := f.pos; omega
  refine nrm_eq (Int.mul_ne_zero hd hq) (Int.mul_ne_zero hs hq) ?_
  unfold addP
  dsimp only
  generalize (nrm s).1 = n at *
  generalize (nrm s).2 = d at *
  grind
theorem Sz.rN {z : Nat} {t b : Int} (h : Sz z t) : Sz z (Sw.rN t b) := by unfold Sw.rN; split <;> exact h.div
theorem Sz.rD {z : Nat} {t b : Int} (h : Sz z b) : Sz z (Sw.rD t b) := by unfold Sw.rD; split <;> exact h.div
/-- the sizes of a sum -/
theorem sumP_sz {l : List F2} (h : ∀ q ∈ l, Sz 67 q.1 ∧ Sz 30 q.2) : Sz (31 * l.length + 68) (sumP l).1 ∧ Sz (30 * l.length + 1) (sumP l).2 := by
  induction l with
  | nil => exact ⟨Sz.zero _, Sz.one _⟩
  | cons q r ih =>
    obtain ⟨h1, h2⟩ := ih fun x hx => h x (by simp [hx])
    obtain ⟨q1, q2⟩ := h q (by simp)
    rw [sumP_cons, List.length_cons]
    unfold addP
    dsimp only
    refine ⟨?_, ((q2.mul h2).mono (by omega))⟩
    have a : Sz (31 * r.length + 98) (q.1 * (sumP r).2) := (q1.mul h2).mono (by omega)
    have b : Sz (31 * r.length + 98) ((sumP r).1 * q.2) := (h1.mul q2).mono (by omega)
    exact (a.add b).mono (by omega)
end Sw
namespace L2
open PySem PySem.Spec PyProof.Rows
theorem atI_end {α : Type} {xs : List α} {v : α} (h : xs[xs.length - 1]? = some v) (h0 : 0 < xs.length) : atI xs (-1) = some v := by
  unfold atI ixN
  rw [if_neg (by decide), if_pos (by omega)]
  show xs[(-1 + (xs.length : Int)).toNat]? = some v
  rw [show (-1 + (xs.length : Int)).toNat = xs.length - 1 by omega]
  exact h
theorem app_at {H : Hp} {l : Addr} {xs : List V} {y : V} {Q : VK} (h : H l = some (.lst xs)) (hz : xs.length < 1000) (q : Q .non (upd H l (.lst (xs ++ [y])))) : rAppend (.ref l) [y] H Q := ⟨l, xs, y, rfl, rfl, h, line_lt hz, q⟩
theorem tyL_at {K : PySem.W.Frag} {H : Hp} {l : Addr} {xs : List V} (h : H l = some (.lst xs)) : tyV K "list" (.ref l) H := .inl ⟨rfl, _, .of h⟩
theorem cut_last (xs : List V) : cutV xs none (some (-1)) = xs.take (xs.length - 1) := by
  unfold cutV
  rw [HT.sIx_none]
  cases xs with
  | nil => rfl
  | cons a r =>
    have : HT.sIx (a :: r).length (a :: r).length (some (-1)) = (a :: r).length - 1 := by
      unfold HT.sIx
      simp
      omega
    rw [this]; simp
theorem Lst.cut {α : Type} {enc : α → List V} {H : Hp} {l l' : Addr} {ps : List Addr} {qs : List α} (R : Lst enc H l ps qs) (h : H l' = none) : Lst enc (upd H l' (.lst (cutV (ps.map V.ref) none (some (-1))))) l' (ps.take (ps.length - 1)) (qs.take (ps.length - 1)) :=
  ⟨by rw [upd_same, cut_last, List.map_take, List.length_map], tupsF_same (tupsF_take _ R.r) (same_new h)⟩
theorem Lst.rev {α : Type} {enc : α → List V} {H : Hp} {l l' : Addr} {ps : List Addr} {qs : List α} (R : Lst enc H l ps qs) (h : H l' = none) : Lst enc (upd H l' (.lst (ps.map V.ref).reverse)) l' ps.reverse qs.reverse :=
  ⟨by rw [upd_same, List.map_reverse], tupsF_same (tupsF_rev R.r) (same_new h)⟩
end L2
namespace L2
open PySem PySem.Spec PyProof.Rows
/-! ### calls while an exception is handled -/
structure RoomN (k : Nat) (A : Around) : Prop where
  dp : A.depth + 3 * k + 5 < recursionLimit
  un : A.units + 16 * k + 200 < cLine
theorem Room.mark {j k : Nat} {A : Around} {h : Option Value} (r : Room k A) (hj : j ≤ k := by decide) : RoomN j (A.mark h) := ⟨by have := r.dp; show A.depth + 3 * j + 5 < _; omega, by have := r.un; show A.units + 16 * j + 200 < _; omega⟩
theorem RoomN.mono {j k : Nat} {A : Around} (r : RoomN k A) (h : j ≤ k) : RoomN j A := ⟨by have := r.dp; omega, by have := r.un; omega⟩
theorem RoomN.deeper {k : Nat} {A : Around} (r : RoomN (k + 1) A) (env : Env) : RoomN k (A.deeper env) := ⟨by have := r.dp; show A.depth + 1 + 3 * k + 5 < _; omega, by have := r.un; show A.units + 3 + 16 * k + 200 < _; omega⟩
theorem RoomN.units {k : Nat} {A : Around} (r : RoomN k A) : A.units + 64 < cLine := by have := r.un; omega
structure FnOkN (P : Program) (w : World) (K : PySem.W.Frag) (mg : Str → Option Value) (base : Heap) (CX : CXT) (k : Nat) (f : Addr) (fd : FuncData) (ps : List Str) (sp : Sp) : Prop where
  len : ∀ vs H Q E, sp vs H Q E → vs.length = ps.length
  run : ∀ (A : Around) (outer : List Env) (s : Shared) (H : Hp) (args : Args) (us : List Value) (vs : List V) (Q : VK) (E : XK), RoomN k A → Env0 P w K mg base A outer s H → BindsTo s fd args (ps.zip us) → Vals vs us → sp vs H Q E →
    codeAny (model P w) A (.call (.ref f) args) (CR CX outer P w H s Q E) s
structure DefN (P : Program) (w : World) (K : PySem.W.Frag) (mg : Str → Option Value) (base : Heap) (CX : CXT) (k : Nat) (x : Str) (ps : List Str) (sp : Sp) : Prop where
  ex : ∃ (f : Addr) (fd : FuncData), FnOkN P w K mg base CX k f fd ps sp ∧ Binds K fd ps [] ∧ PySem.W.keepIn K (.ref f) = true ∧ mg x = some (.ref f)
/-- a def's context, whatever is handled around it -/
def cxOfN (CX : CXT) (P : Program) (w : World) (K : PySem.W.Frag) (mg : Str → Option Value) (base : Heap) (N : List Str) (qual : Str) (scope : Scope) (f : Addr) (cd : Value) (A : Around) (outer : List Env) (s : Shared) (H : Hp) (E : XK) : Cx :=
  { cxOf CX P w K mg base N qual scope f cd A outer s H E with calm := false }
theorem inv_startN {CX : CXT} {P : Program} {w : World} {K : PySem.W.Frag} {mg : Str → Option Value} {base : Heap} {N ps : List Str} {qual : Str} {scope : Scope} {f : Addr} {cd : Value} {A : Around} {outer : List Env} {s s1 : Shared} {H : Hp} {E : XK} {us : List Value} {vs : List V}
    (S : FnScope N ps scope) (e0 : Env0 P w K mg base A outer s H) (hl : vs.length = ps.length) (r : Vals vs us)
    (x : InCallC s s.heap.objs.size (bindL (envOfC qual scope s.heap.objs.size f cd).kindOf (ps.zip us) fun _ => none) (cellsFrom (s.heap.objs.size + 1) scope.names []) (bindC (envOfC qual scope s.heap.objs.size f cd).kindOf (ps.zip us) fun _ => none) s1) :
    Inv (cxOfN CX P w K mg base N qual scope f cd A outer s H E) [] (start N vs) H s1 := by
  have e1 : Env0 P w K mg base { A with handled := none } outer s H := ⟨e0.frames, e0.mod, e0.bs, e0.bsz, e0.funs, e0.frf, e0.hok, e0.bare⟩
  have I := inv_start (CX := CX) (E := E) (A := { A with handled := none }) S rfl e1 hl r x
  have o := I.ok
  exact ⟨⟨o.mod, o.kind, o.glob, o.blt, o.above, o.inj, o.has, o.cab, (fun z => by cases z), Around.frames_deeper e0.frames, o.stk, o.exf, o.bs, o.bsz, o.noex, o.exfs, o.funs, o.frf⟩, I.os, I.bare, I.base, I.loc, I.cell, I.free, I.freeC, I.pin, I.hok, I.len⟩
theorem Src.okM {P : Program} {w : World} {K : PySem.W.Frag} {mg : Str → Option Value} {base : Heap} {CX : CXT} {x : Str} {st : Stmt} {N ps : List Str} {k : Nat} {sp : Sp} (F : Src K mg x st ps) (S : FnScope N ps (defScope st)) (len : ∀ vs H Q E, sp vs H Q E → vs.length = ps.length)
    (hbody : ∀ (f : Addr) (cdv : Value) (A : Around) (outer : List Env) (s : Shared) (H : Hp) (vs : List V) (Q : VK) (E : XK), RoomN k (A.deeper (envOfC x (defScope st) s.heap.objs.size f cdv)) → sp vs H Q E →
      ∃ t, PSs (cxOfN CX P w K mg base N x (defScope st) f cdv A outer s H E).nox (defBody st) t ∧ t { nx := fun _ H' => Q .non H', rt := Q } (start N vs) H) : DefN P w K mg base CX (k + 1) x ps sp := by
  obtain ⟨f, fd, F, b, m⟩ := F.ex
  obtain ⟨oc, od, kV, doc, pm, an, cdv, ct, osl, rfl, lk, hcd⟩ := F.ex
  refine ⟨f, _, ⟨len, fun A outer s H args us vs Q E hr e0 hb r hsp => ?_⟩, b, F.kp, m⟩
  have hl := len _ _ _ _ hsp
  have KX : K.In s.heap := e0.mod.kin.keeps fun b o e => (e0.bs b o e).1
  have lim : s.heap.NoLimit := e0.mod.nolimit.keeps fun b o e => (e0.bs b o e).1
  have hkind : ∀ y ∈ ps.zip us, (defScope st).names.lookup y.1 = some .local ∨ ((defScope st).names.lookup y.1 = some .cell ∧ ((cellsFrom (s.heap.objs.size + 1) (defScope st).names []).lookup y.1).isSome = true) := fun ⟨n, v⟩ hy => by
    rcases S.par n (List.of_mem_zip hy).1 with q | q
    · exact .inl q
    · exact .inr ⟨q, PySem.W.cellsFrom_some _ _ _ (.inl q)⟩
  refine codeAny_call_function (by have := hr.dp; omega) (KX _ _ lk) rfl S.co S.gen rfl (PySem.W.codeRec_of KX hcd) (hb _ _ _ _ ?_)
  refine wpAny_newFunctionEnv_cells S.kind hkind fun env he s1 ic => ?_
  subst he
  refine ⟨lim.keeps ic.toInCall.keep, codeAny_func ?_⟩
  obtain ⟨t, ht, hq⟩ := hbody f cdv A outer s H vs Q E (hr.deeper _) hsp
  have I := inv_startN (CX := CX) (E := E) (A := A) S e0 hl r ic
  refine wpAny_mono (ht.nox [] s1 (start N vs) H _ I hq) (fun fl s' hs => ?_) fun e s' hs => hs
  have fin : ∀ {σ' : St} {H' : Hp} {v : V} {u : Value}, Inv (cxOfN CX P w K mg base N x (defScope st) f cdv A outer s H E) [] σ' H' s' → RelV v u → Q v H' → CE outer P w H s Q u s' :=
    fun {σ' H' v u} J rv q => ⟨v, H', J.os, J.bare, J.base, J.hok, rv, q⟩
  cases fl with
  | ret u =>
    obtain ⟨v, σ', H', J, rv, q⟩ := hs
    exact fin J rv q
  | next =>
    obtain ⟨σ', H', J, q⟩ := hs
    exact fin (v := V.non) (u := Value.none) J rfl q
  | brk =>
    obtain ⟨_, _, _, q⟩ := hs
    exact False.elim q
  | cont =>
    obtain ⟨_, _, _, q⟩ := hs
    exact False.elim q
def tCallN (sp : Sp) (t : TA) : TE := fun σ H Q => t σ H fun vs H1 => sp vs H1 Q E0
section
variable {P : Program} {w : World} {X : Cx} {k : Nat} {x : Str} {ps : List Str} {sp : Sp} {p pos : Pos} {e : Expr} {es : List Expr} {t : TA}
theorem pe_callN (D : DefN X.prog X.w X.K X.mg X.base (CXX P w) k x ps sp) (hr : RoomN k X.A) (hg : Gl X x) (ha : PA X (e :: es) t)
    (hdb : (x == ("__debug__" : Str)) = false := by decide) (he : starEach (e :: es) X.env = (false, eval e X.env) :: starEach es X.env := by rfl) (hpl : (backTo pos (starEach es X.env)).any (·.1) = false := by rfl) :
    PE X (.Call (.Name x p) (e :: es) [] pos) (tCallN sp t) := by
  obtain ⟨f, fd, F, hb, hk, hm⟩ := D.ex
  intro pins s σ H Q I h
  refine wpAny_Call_Name_kw (ld_glob I hg hm ?_ hdb)
  refine PySem.W.callWith_K (h₀ := X.base) I.ok.mod.kin hk (thn (ha pos pins s σ H _ I h) fun us s1 ⟨vs, H1, I1, r, q⟩ => ⟨I1.kIn, ?_⟩) he hpl
  have hl : (us ++ []).length = ps.length := by rw [List.append_nil, ← r.length]; exact F.len _ _ _ _ q
  have hbb := hb s1 us I1.kIn hl
  rw [List.append_nil] at hbb
  refine wpAny_call (codeAny_mono (F.run X.A X.stack s1 H1 ⟨us, []⟩ us vs Q _ hr I1.env0 hbb r q) fun r s' hq => ?_)
  cases r with
  | error e => obtain ⟨_, _, _, _, _, _, _, _, _, _, _, z⟩ := hq; exact z.elim
  | ok fl =>
    cases fl with
    | ret u => exact I1.after hq
    | next => exact False.elim hq
    | brk => exact False.elim hq
    | cont => exact False.elim hq
end
end L2
namespace L2
open PySem PySem.Spec PyProof.Rows
theorem inst_at {K : PySem.W.Frag} {H : Hp} {e C : Addr} {dct : Option Addr} {fr : Bool} {c : V} {cv : Value} {b : Bool} {Q : VK} (he : H e = some (excO e C dct fr)) (hf : XFull H dct) (xc : XC K C) (hc : clsV c = some cv) (k : PySem.W.kitOne K (.ref C) cv = some b) (q : Q (.bl b) H) : rInstX K [.ref e, c] H Q :=
  ⟨e, C, dct, fr, c, cv, b, rfl, he, hf, xc, hc, k, q⟩
end L2
namespace L2
open PySem PySem.Spec PyProof.Rows
theorem xc_init {K : PySem.W.Frag} {C W N : Addr} {nm qn : Str} {bs : List Value} {hdct : Bool} {sn : List Str} {sub : List Value} {ab : Bool} {col : Option Bool} {dd : Option Addr} {k0 k1 k2 k3 k5 : Option Value} (q : PySem.W.excIn K W bmV "ValueError.__new__" = true)
    (lk : K.lookup C = some (excClassObj nm qn C N bs (.ref W :: bmV) hdct sn sub ab col dd k0 k1 k2 k3 k5 "ValueError.__new__")) :
    ∃ nm q N bs bm hdct sn sub ab col dd k0 k1 k2 k3 k5, K.lookup C = some (excClassObj nm q C N bs bm hdct sn sub ab col dd k0 k1 k2 k3 k5 "ValueError.__new__") ∧ PySem.W.tailIn K bmV bm = true :=
  ⟨nm, qn, N, bs, _, hdct, sn, sub, ab, col, dd, k0, k1, k2, k3, k5, lk, tail_one q⟩
end L2
namespace L2
open PySem PySem.Spec PyProof.Rows
/-! ### exceptions with fields: made, their fields stored -/
theorem xd_within {fs : List (Str × V)} {mA : Str → Option Value} (rel : ∀ f, RelO (fs.lookup f) (mA f)) : Within mA (fs.map (·.1)) := by
  intro x hx
  have r := rel x
  cases q : fs.lookup x with
  | none =>
    rw [q] at r
    exact absurd (RelO.none_of r) hx
  | some v => exact List.mem_map.mpr ⟨(x, v), PySem.mem_of_lookup q, rfl⟩
theorem ext_ne {P : Program} {w : World} {H : Hp} {h : Heap} {e C d : Addr} {dct : Option Addr} {fr : Bool} {fs : List (Str × V)} (x : HOk P w H h) (he : H e = some (excO e C dct fr)) (hd : H d = some (xdO d fs)) : d ≠ e := fun z => by
  obtain ⟨oe, vs, e1, e2, e3, e4, _⟩ := x.exc he
  obtain ⟨mA, ⟨o, es, ep, g1, g2, _⟩, _⟩ := x.xd hd
  rw [z, e1] at g1
  cases g1
  rw [e4] at g2
  cases g2
section
variable {X : Cx} {o value : Expr} {f : Str} {pos pos' : Pos} {ta tv : TE}
theorem ps_xfld (K : PySem.W.Frag) (hK : X.K = K) (ha : PE X o ta) (hv : PE X value tv) (hs : swapsWith value (some (.Attribute o f pos')) pos.line X.env = pure false) : PS X (.Assign [.Attribute o f pos'] value pos) (sXfld K ta tv f) := by
  subst hK
  intro pins s σ H D I h
  refine plainObj_wpAny_Assign_Attribute (thn (hv pins s σ H _ I h) fun u s1 ⟨y, H1, I1, ry, q⟩ => thn (ha pins s1 σ H1 _ I1 q) fun ov s2 ⟨x, H2, I2, rx, e, C, dct, fr, ex, he, xc, ht, alt⟩ => ?_) hs
  subst ex
  obtain rfl : ov = Value.ref e := rx
  obtain ⟨oe, vs, e1, e2, e3, e4, e5, e6⟩ := I2.hok.exc he
  rcases alt with ⟨rfl, k⟩ | ⟨d, fs, rfl, hd, hl, k⟩
  · refine xset (mA := fun _ => none) (ns := []) I2.kIn xc e1 e2 e4 ht (.inl ⟨e3, fun _ => rfl⟩) (fun x hx => absurd rfl hx) (by decide) fun h' d n1 n2 n3 n4 _ n6 tk => ?_
    have sz := n4 e3
    have fd : H2 d = none := I2.hok.fresh sz
    refine ⟨σ, _, ?_, k d fd n3⟩
    have old : ∀ b ob, s2.heap.get? b = some ob → b ≠ d := fun b ob q => Nat.ne_of_lt (Nat.lt_of_lt_of_le (Heap.lt_size q) sz)
    have nn : ∀ {b ob}, H2 b = some ob → (∀ φ, ob ≠ .ext φ) → upd (upd H2 e (excO e C (some d) fr)) d (xdO d [(f, y)]) b = some ob := fun {b ob} q z => by
      rw [upd_ne (ne_of_none q fd), upd_ne fun w => by rw [w, he] at q; cases q; exact z _ rfl]; exact q
    refine I2.un (t' := tk) ⟨fun b ob q n _ _ => n6 b ob (fun z => by rw [z, he] at n; cases n) (old b ob q) q, fun b ob q n _ _ => ⟨ob.slots, n6 b ob (fun z => by rw [z, he] at n; cases n) (old b ob q) q⟩, fun b ob q n _ => ?_, fun b ob q _ => ?_, fun b xs q => nn q (by intro φ z; cases z), fun b ob v q => nn q (by intro φ z; cases z), fun b ps q => ⟨#[], by rw [nn q (by intro φ z; cases z)]; simp⟩⟩ fun b ob q => ?_
    · rw [upd_ne (old b ob q), upd_ne fun z => by rw [z, he] at n; cases n]; exact n
    · by_cases z : b = e
      · rw [z]; exact ⟨_, n2⟩
      · exact ⟨ob, n6 b ob z (old b ob q) q⟩
    · by_cases z : b = d
      · subst z
        rw [upd_same] at q
        cases q
        refine xdO_ok ⟨_, n1, fun g => ?_⟩
        by_cases w : g = f
        · subst w
          simp only [List.lookup_cons, beq_self_eq_true, if_true]
          exact ry
        · simp only [List.lookup_cons, beq_eq_false_iff_ne.mpr w, if_neg w]
          trivial
      · rw [upd_ne z] at q
        by_cases w : b = e
        · subst w
          rw [upd_same] at q
          cases q
          exact excO_ok ⟨_, vs, n2, e2, rfl, e4, e5, e6⟩
        · rw [upd_ne w] at q
          refine (I2.hok b ob q).stay (fun c v hc g => ?_) (fun c g => nn g (by intro φ z; cases z)) fun c xs g => nn g (by intro φ z; cases z)
          refine n6 c v (fun z2 => ?_) (old c v g) g
          rcases hc with y | y
          · exact w (y ▸ z2)
          · rw [z2, he] at y; cases y
  · obtain ⟨mA, ns1, rel⟩ := I2.hok.xd hd
    have de := ext_ne I2.hok he hd
    refine xset (mA := mA) (ns := fs.map (·.1)) I2.kIn xc e1 e2 e4 ht (.inr ⟨d, e3, de, ns1⟩) (xd_within rel) (by rw [List.length_map]; omega) fun h' d' n1 n2 n3 _ n5 n6 tk => ?_
    obtain rfl := n5 d e3
    have n2' : h'.get? e = some oe := by rw [n2]; obtain ⟨a1, a2, a3, a4⟩ := oe; dsimp only at e3; subst e3; rfl
    refine ⟨σ, _, ?_, k⟩
    have nn : ∀ {b ob}, H2 b = some ob → (∀ φ, ob ≠ .ext φ) → upd H2 d' (xdO d' (putF f y fs)) b = some ob := fun {b ob} q z => by
      rw [upd_ne fun w => by rw [w, hd] at q; cases q; exact z _ rfl]; exact q
    have kp : ∀ b ob, b ≠ d' → s2.heap.get? b = some ob → h'.get? b = some ob := fun b ob z q => by
      by_cases w : b = e
      · subst w
        rw [e1] at q
        cases q
        exact n2'
      · exact n6 b ob w z q
    have nd : ∀ b, H2 b = none → b ≠ d' := fun b n z => by rw [z, hd] at n; cases n
    refine I2.un (t' := tk) ⟨fun b ob q n _ _ => kp b ob (nd b n) q, fun b ob q n _ _ => ⟨ob.slots, kp b ob (nd b n) q⟩, fun b ob q n _ => by rw [upd_ne (nd b n)]; exact n, fun b ob q _ => ?_, fun b xs q => nn q (by intro φ z; cases z), fun b ob v q => nn q (by intro φ z; cases z), fun b ps q => ⟨#[], by rw [nn q (by intro φ z; cases z)]; simp⟩⟩ fun b ob q => ?_
    · by_cases z : b = d'
      · subst z
        obtain ⟨o', es, ep, g1, _⟩ := n1
        exact ⟨_, g1⟩
      · exact ⟨ob, kp b ob z q⟩
    · by_cases z : b = d'
      · subst z
        rw [upd_same] at q
        cases q
        refine xdO_ok ⟨_, n1, fun g => ?_⟩
        rw [lookup_putF]
        by_cases w : g = f
        · rw [if_pos w, if_pos w]; exact ry
        · rw [if_neg w, if_neg w]; exact rel g
      · rw [upd_ne z] at q
        refine (I2.hok b ob q).stay (fun c v hc g => kp c v (fun z2 => ?_) g) (fun c g => nn g (by intro φ z; cases z)) fun c xs g => nn g (by intro φ z; cases z)
        rcases hc with y | y
        · exact z (y ▸ z2)
        · rw [z2, hd] at y; cases y
end
/-- an exception class with its own __init__, as a maker takes it -/
structure MkX (P : Program) (w : World) (K : PySem.W.Frag) (mg : Str → Option Value) (base : Heap) (CX : CXT) (k : Nat) (C : Addr) (ps : List Str) (sp : Sp) : Prop where
  ex : ∃ (f : Addr) (fd : FuncData), FnOk P w K mg base CX k f fd ps sp ∧ Binds K fd ps [] ∧ PySem.W.findIn K (.ref C) "__init__" = some (some (.ref f)) ∧ PySem.W.typeIn K (.ref f) = some (.type "function")
def tXmk1 (C : Addr) (sp : Sp) (t : TA) : TE := fun σ H Q => t σ H fun vs H1 => vs.length ≤ 1000 ∧ ∀ e, H1 e = none → sp (.ref e :: vs) (upd H1 e (excO e C none true)) (fun v H2 => v = .non ∧ Q (.ref e) H2) E0
theorem pe_xmk1 {X : Cx} {C : Addr} {x : Str} {p pos : Pos} {e : Expr} {es : List Expr} {t : TA} {CX : CXT} {k : Nat} {ps : List Str} {sp : Sp} (M : MkX X.prog X.w X.K X.mg X.base CX k C ps sp) (xc : XC X.K C) (kp : PySem.W.keepIn X.K (.ref C) = true) (hr : Room (k + 1) X.A) (hx : PassesX CX X EX0) (hg : Gl X x) (hm : X.mg x = some (.ref C)) (ha : PA X (e :: es) t)
    (hdb : (x == ("__debug__" : Str)) = false := by decide) (he : starEach (e :: es) X.env = (false, eval e X.env) :: starEach es X.env := by rfl) (hpl : (backTo pos (starEach es X.env)).any (·.1) = false := by rfl) :
    PE X (.Call (.Name x p) (e :: es) [] pos) (tXmk1 C sp t) := by
  obtain ⟨fI, fd, F, hb, hi, hf⟩ := M.ex
  intro pins s σ H Q I h
  refine wpAny_Call_Name_kw (ld_glob I hg hm ?_ hdb)
  refine PySem.W.callWith_K (h₀ := X.base) I.ok.mod.kin kp (thn (ha pos pins s σ H _ I h) fun us s1 ⟨vs, H1, I1, r, hl, q1⟩ => ⟨I1.kIn, ?_⟩) he hpl
  refine xmake1 I1.kIn xc hi hf (by rw [List.nil_append, ← r.length]; exact line_lit hl) fun h' ea m z1 z2 => ?_
  obtain ⟨tt, g1, g2, g3⟩ := m.there
  have I2 := I1.laidN (t' := s1.toks) m.keeps m.new (excO_ok (P := X.prog) (w := X.w) (H := upd H1 ea (excO ea C none true)) (e := ea) (C := C) (dct := none) (fr := true) ⟨_, _, g1, rfl, rfl, rfl, Nat.lt_of_lt_of_le (by decide) (Nat.le_refl 6), fun _ => rfl⟩)
  have q := q1 ea (free_of I1.hok m.new)
  have r2 : Vals (V.ref ea :: vs) (Value.ref ea :: us) := .cons rfl r
  have hl2 : (Value.ref ea :: us ++ []).length = ps.length := by rw [List.append_nil, ← r2.length]; exact F.len _ _ _ _ q
  have hbb := hb { s1 with heap := h' } (Value.ref ea :: us) I2.kIn hl2
  rw [List.append_nil] at hbb
  refine wpAny_call (codeAny_mono (F.run _ X.stack _ _ ⟨Value.ref ea :: us, []⟩ (Value.ref ea :: us) _ _ _ (hr.make C us []) (I2.env0.make C us []) hbb r2 q) fun r s' hq => ?_)
  cases r with
  | error ev => exact hx pins σ _ _ ev s' I2 hq
  | ok fl =>
    cases fl with
    | ret u =>
      obtain ⟨v, H', I3, rv, ev, q3⟩ := I2.after hq
      subst ev
      exact ⟨rv, ⟨V.ref ea, H', I3, rfl, q3⟩⟩
    | next => exact False.elim hq
    | brk => exact False.elim hq
    | cont => exact False.elim hq
end L2
namespace L2
open PySem PySem.Spec PyProof.Rows
/-! ### exceptions with fields: their __init__ as a text, what a maker hands on -/
structure SrcI (K : PySem.W.Frag) (C : Addr) (qual : Str) (st : Stmt) (ps : List Str) : Prop where
  ex : ∃ (f : Addr) (fd : FuncData), Fun K "__init__" qual st f fd ∧ Binds K fd ps [] ∧ PySem.W.findIn K (.ref C) "__init__" = some (some (.ref f)) ∧ PySem.W.typeIn K (.ref f) = some (.type "function")
theorem SrcI.ok {P : Program} {w : World} {K : PySem.W.Frag} {mg : Str → Option Value} {base : Heap} {CX : CXT} {C : Addr} {qual : Str} {st : Stmt} {N ps : List Str} {k : Nat} {sp : Sp} (F : SrcI K C qual st ps) (S : FnScope N ps (defScope st)) (len : ∀ vs H Q E, sp vs H Q E → vs.length = ps.length)
    (hbody : ∀ (f : Addr) (cdv : Value) (A : Around) (outer : List Env) (s : Shared) (H : Hp) (vs : List V) (Q : VK) (E : XK), Room k (A.deeper (envOfC qual (defScope st) s.heap.objs.size f cdv)) → sp vs H Q E →
      ∃ t, PSs (cxOf CX P w K mg base N qual (defScope st) f cdv A outer s H E).nox (defBody st) t ∧ t { nx := fun _ H' => Q .non H', rt := Q } (start N vs) H) : MkX P w K mg base CX (k + 1) C ps sp := by
  obtain ⟨f, fd, F, b, m, ty⟩ := F.ex
  obtain ⟨oc, od, kV, doc, pm, an, cdv, ct, osl, rfl, lk, hcd⟩ := F.ex
  exact ⟨f, _, fn_of lk hcd S len fun A outer s H vs Q E hr hsp => by
    obtain ⟨t, h, q⟩ := hbody f cdv A outer s H vs Q E hr hsp
    exact ⟨t, h.nox, q⟩, b, m, ty⟩
/-- e of class C, still without fields, has got them -/
structure XFill (H H' : Hp) (e C d : Addr) (fs : List (Str × V)) : Prop where
  out : ∀ b, b ≠ e → b ≠ d → H' b = H b
  fr : H d = none
  ne : d ≠ e
  he : H' e = some (excO e C (some d) true)
  hd : H' d = some (xdO d fs)
def spI1 (C : Addr) (f : Str) : Sp := fun vs H Q _ => ∃ e y, vs = [.ref e, y] ∧ H e = some (excO e C none true) ∧ ∀ d H', XFill H H' e C d [(f, y)] → Q .non H'
def spI2 (C : Addr) (f g : Str) : Sp := fun vs H Q _ => ∃ e y z, vs = [.ref e, y, z] ∧ H e = some (excO e C none true) ∧ ∀ d H', XFill H H' e C d [(f, y), (g, z)] → Q .non H'
theorem xfill1 {H : Hp} {e C d : Addr} {fs : List (Str × V)} (hd : H d = none) (ne : d ≠ e) : XFill H (upd (upd H e (excO e C (some d) true)) d (xdO d fs)) e C d fs :=
  ⟨fun b h1 h2 => by rw [upd_ne h2, upd_ne h1], hd, ne, by rw [upd_ne (Ne.symm ne)]; exact upd_same, upd_same⟩
theorem xfill2 {H H' : Hp} {e C d : Addr} {fs gs : List (Str × V)} (x : XFill H H' e C d fs) : XFill H (upd H' d (xdO d gs)) e C d gs :=
  ⟨fun b h1 h2 => by rw [upd_ne h2]; exact x.out b h1 h2, x.fr, x.ne, by rw [upd_ne (Ne.symm x.ne)]; exact x.he, upd_same⟩
theorem i1_at {K : PySem.W.Frag} {H : Hp} {e C : Addr} {f : Str} {y : V} {Q : VK} (he : H e = some (excO e C none true)) (xc : XC K C) (tk : PySem.W.takerIn K C f = some none) (k : ∀ d H', XFill H H' e C d [(f, y)] → Q .non H') :
    sXfld K (tVar 0) (tVar 1) f { nx := fun _ H' => Q .non H', rt := Q } [some (.ref e), some y] H :=
  ⟨_, rfl, _, rfl, e, C, none, true, rfl, he, xc, tk, .inl ⟨rfl, fun d hd ne => k _ _ (xfill1 hd ne)⟩⟩
theorem i2_at {K : PySem.W.Frag} {H : Hp} {e C : Addr} {f g : Str} {y z : V} {Q : VK} (he : H e = some (excO e C none true)) (xc : XC K C) (tf : PySem.W.takerIn K C f = some none) (tg : PySem.W.takerIn K C g = some none) (fg : f ≠ g) (k : ∀ d H', XFill H H' e C d [(f, y), (g, z)] → Q .non H') :
    tSeq (sXfld K (tVar 0) (tVar 1) f) (sXfld K (tVar 0) (tVar 2) g) { nx := fun _ H' => Q .non H', rt := Q } [some (.ref e), some y, some z] H := by
  refine ⟨_, rfl, _, rfl, e, C, none, true, rfl, he, xc, tf, .inl ⟨rfl, fun d hd ne => ?_⟩⟩
  have x := xfill1 (C := C) (fs := [(f, y)]) hd ne
  refine ⟨_, rfl, _, rfl, e, C, some d, true, rfl, x.he, xc, tg, .inr ⟨d, _, rfl, x.hd, by simp, ?_⟩⟩
  have e2 : putF g z [(f, y)] = [(f, y), (g, z)] := by
    unfold putF
    rw [if_neg fg]
    rfl
  rw [e2]
  exact k _ _ (xfill2 x)
/-- an exception just made, with its fields -/
structure XNew (H H' : Hp) (e C d : Addr) (fs : List (Str × V)) : Prop where
  sm : Same H H'
  he : H' e = some (excO e C (some d) true)
  hd : H' d = some (xdO d fs)
  fe : H e = none
  fd : H d = none
  ne : d ≠ e
theorem xnew {H H' : Hp} {e C d : Addr} {fs : List (Str × V)} (he : H e = none) (x : XFill (upd H e (excO e C none true)) H' e C d fs) : XNew H H' e C d fs := by
  have hd : H d = none := by have := x.fr; rwa [upd_ne x.ne] at this
  exact ⟨fun b o q => by rw [x.out b (ne_of_none q he) (ne_of_none q hd), upd_ne (ne_of_none q he)]; exact q, x.he, x.hd, he, hd, x.ne⟩
theorem mk1 {H : Hp} {C : Addr} {f : Str} {y : V} {Q : Addr → Hp → Prop} (k : ∀ e d H', XNew H H' e C d [(f, y)] → Q e H') : ∀ e, H e = none → spI1 C f [.ref e, y] (upd H e (excO e C none true)) (fun v H2 => v = .non ∧ Q e H2) E0 :=
  fun e he => ⟨e, y, rfl, upd_same, fun d H' x => ⟨rfl, k e d H' (xnew he x)⟩⟩
theorem mk2 {H : Hp} {C : Addr} {f g : Str} {y z : V} {Q : Addr → Hp → Prop} (k : ∀ e d H', XNew H H' e C d [(f, y), (g, z)] → Q e H') : ∀ e, H e = none → spI2 C f g [.ref e, y, z] (upd H e (excO e C none true)) (fun v H2 => v = .non ∧ Q e H2) E0 :=
  fun e he => ⟨e, y, z, rfl, upd_same, fun d H' x => ⟨rfl, k e d H' (xnew he x)⟩⟩
/-- an exception with its fields, standing -/
structure XHas (H : Hp) (e C : Addr) (fs : List (Str × V)) : Prop where
  ex : ∃ d fr, H e = some (excO e C (some d) fr) ∧ H d = some (xdO d fs)
theorem XNew.has {H H' : Hp} {e C d : Addr} {fs : List (Str × V)} (x : XNew H H' e C d fs) : XHas H' e C fs := ⟨d, true, x.he, x.hd⟩
theorem XHas.same {H H' : Hp} {e C : Addr} {fs : List (Str × V)} (x : XHas H e C fs) (s : Same H H') : XHas H' e C fs := by
  obtain ⟨d, fr, h1, h2⟩ := x.ex
  exact ⟨d, fr, s _ _ h1, s _ _ h2⟩
theorem instX_at {K : PySem.W.Frag} {H : Hp} {e C : Addr} {fs : List (Str × V)} {c : V} {cv : Value} {b : Bool} {Q : VK} (x : XHas H e C fs) (xc : XC K C) (hc : clsV c = some cv) (k : PySem.W.kitOne K (.ref C) cv = some b) (q : Q (.bl b) H) : rInstX K [.ref e, c] H Q := by
  obtain ⟨d, fr, h1, h2⟩ := x.ex
  exact inst_at h1 (.inr ⟨d, fs, rfl, h2⟩) xc hc k q
theorem fld_at {K : PySem.W.Frag} {H : Hp} {e C : Addr} {fs : List (Str × V)} {f : Str} {v : V} {Q : VK} (x : XHas H e C fs) (xc : XC K C) (hf : PySem.W.findIn K (.ref C) f = some none) (hv : fs.lookup f = some v) (q : Q v H) :
    ∃ e' C' d fr fs v, V.ref e = .ref e' ∧ H e' = some (excO e' C' (some d) fr) ∧ H d = some (xdO d fs) ∧ XC K C' ∧ PySem.W.findIn K (.ref C') f = some none ∧ fs.lookup f = some v ∧ Q v H := by
  obtain ⟨d, fr, h1, h2⟩ := x.ex
  exact ⟨e, C, d, fr, fs, v, rfl, h1, h2, xc, hf, hv, q⟩
theorem tXfld_at {K : PySem.W.Frag} {H : Hp} {σ : St} {i : Nat} {e C : Addr} {fs : List (Str × V)} {f : Str} {v : V} {Q : VK} (hi : σ[i]? = some (some (.ref e))) (x : XHas H e C fs) (xc : XC K C) (hf : PySem.W.findIn K (.ref C) f = some none) (hv : fs.lookup f = some v) (q : Q v H) : tXfld K (tVar i) f σ H Q :=
  ⟨_, hi, fld_at x xc hf hv q⟩
theorem atI_some {α : Type} (xs : List α) {i : Int} (h0 : 0 ≤ i) (h1 : i < xs.length) : ∃ c, atI xs i = some c := by
  refine ⟨xs[i.toNat]'(by omega), ?_⟩
  have := atI_nat (xs := xs) (j := i.toNat) (v := xs[i.toNat]'(by omega)) (by simp)
  rwa [Int.toNat_of_nonneg h0] at this
theorem str_snoc (s : Str) (c : Nat) : (s ++ (⟨#[c]⟩ : Str)).length = s.length + 1 := by
  show (s.cps ++ #[c]).size = s.cps.size + 1
  simp
end L2
namespace L2
open PySem PySem.Spec PyProof.Rows
/-! ### rows looked over -/
theorem comp_walkT {K : PySem.W.Frag} {a : Addr} {xs : List V} {g : TG} {tc : TT} {te : TE} {D : Addr} {τ : St} {H : Hp} {Q : VK} (Pv : Nat → St → Hp → Prop) (h0 : Pv 0 τ H) (hl : ∀ i τ H, i ≤ xs.length → Pv i τ H → SqT K H a xs)
    (hs : ∀ i x τ H, xs[i]? = some x → Pv i τ H → g x τ H fun τ2 H3 => tc τ2 H3 fun b H4 => if b = true then te τ2 H4 fun y H5 => ∃ ys, H5 D = some (.lst ys) ∧ ys.length < sizeLine ∧ Pv (i + 1) τ2 (upd H5 D (.lst (ys ++ [y]))) else Pv (i + 1) τ2 H4)
    (hd : ∀ τ H, Pv xs.length τ H → Q (.ref D) H) :
    CompG (Itt K a) g tc te D τ H Q := by
  refine ⟨fun i m τ H => m = xs.length - i ∧ i ≤ xs.length ∧ Pv i τ H, ⟨xs.length, by simp, Nat.zero_le _, h0⟩, ?_⟩
  rintro i m τ H ⟨rfl, hi, p⟩
  have q := hl i τ H hi p
  by_cases hlt : i < xs.length
  · refine .inr ⟨⟨xs, xs[i], q, by simp [hlt]⟩, Pv (i + 1), fun τ' H' p' => ⟨xs.length - (i + 1), by omega, rfl, hlt, p'⟩, fun x H2 z => ?_⟩
    obtain ⟨rfl, hx⟩ := z
    exact hs i x τ H2 (hx xs q) p
  · have e : i = xs.length := by omega
    subst e
    exact .inl ⟨⟨xs, q, Nat.le_refl _⟩, hd τ H p⟩
/-- isinstance(e, (A, B)) of an exception that is no A -/
def rInstXT (K : PySem.W.Frag) : List V → Hp → VK → Prop := fun xs H Q => ∃ e C dct fr tp c1 c2 b, xs = [.ref e, .ref tp] ∧ H e = some (excO e C dct fr) ∧ XFull H dct ∧ XC K C ∧ SqT K H tp [.ref c1, .ref c2] ∧
  PySem.W.kitOne K (.ref C) (.ref c1) = some false ∧ PySem.W.kitOne K (.ref C) (.ref c2) = some b ∧ Q (.bl b) H
section
variable {X : Cx}
theorem call_isinstXT (K : PySem.W.Frag) (hK : X.K = K) : CallR X (.builtin "isinstance") (rInstXT K) := by
  subst hK
  intro pins s σ H xs us Q I r h
  obtain ⟨e, C, dct, fr, tp, c1, c2, b, rfl, he, hf, xc, hT, k1, k2, q⟩ := h
  obtain ⟨u, v, rfl, rx, rc⟩ := Vals.two r
  cases (show u = Value.ref e from rx)
  cases (show v = Value.ref tp from rc)
  obtain ⟨its, rv, ⟨o, ho, hc, n, hd⟩, _⟩ := I.tuple hT
  obtain ⟨u1, u2, rfl, r1, r2⟩ := Vals.two rv
  cases (show u1 = Value.ref c1 from r1)
  cases (show u2 = Value.ref c2 from r2)
  obtain ⟨oc, od, dt, sl⟩ := o
  dsimp only at hc hd
  subst hc hd
  refine PySem.W.kia_tup (b := b) (kitx_exc xc) I.kIn (exc_inst I.hok he hf) ho ?_ (fun z => nomatch z) fun tk => ⟨.bl b, H, I.tok _, rfl, q⟩
  unfold PySem.W.kitAny
  rw [k1]
  dsimp only
  unfold PySem.W.kitAny
  rw [k2]
  cases b <;> rfl
end
theorem instXT_at {K : PySem.W.Frag} {H : Hp} {e C tp c1 c2 : Addr} {fs : List (Str × V)} {b : Bool} {Q : VK} (x : XHas H e C fs) (xc : XC K C) (hT : SqT K H tp [.ref c1, .ref c2]) (k1 : PySem.W.kitOne K (.ref C) (.ref c1) = some false) (k2 : PySem.W.kitOne K (.ref C) (.ref c2) = some b) (q : Q (.bl b) H) :
    rInstXT K [.ref e, .ref tp] H Q := by
  obtain ⟨d, fr, h1, h2⟩ := x.ex
  exact ⟨e, C, _, fr, tp, c1, c2, b, rfl, h1, .inr ⟨d, fs, rfl, h2⟩, xc, hT, k1, k2, q⟩
theorem ixInt (xs : List Int) {i : Int} (h0 : 0 ≤ i) (h1 : i < xs.length) : ∃ z, atI (xs.map V.int) i = some (.int z) := by
  refine ⟨xs[i.toNat]'(by omega), ?_⟩
  have := atI_nat (xs := xs.map V.int) (j := i.toNat) (v := V.int (xs[i.toNat]'(by omega))) (by simp)
  rwa [Int.toNat_of_nonneg h0] at this
/-- [a, b, ..][i], a list just made -/
theorem pickI {K : PySem.W.Frag} {H : Hp} {t : Addr} {i : Int} {Q : VK} (xs : List Int) (h0 : 0 ≤ i) (h1 : i < xs.length) (k : ∀ z : Int, Q (.int z) (upd H t (.lst (xs.map V.int)))) : rIxL K (.ref t) (.int i) (upd H t (.lst (xs.map V.int))) Q := by
  obtain ⟨z, hz⟩ := ixInt xs h0 h1
  exact ixL_at (.of upd_same) hz (k z)
theorem Row.upd {H : Hp} {l f : Addr} {ps : List Addr} {qs : List Q4} {xs ys : List V} (R : Row H l ps qs) (hf : H f = some (.lst xs)) (ne : l ≠ f) : Row (L2.upd H f (.lst ys)) l ps qs :=
  ⟨by rw [upd_ne ne]; exact R.hl, R.r.keep fun p z e => by rw [upd_ne (ne_of e hf (by intro w; cases w))]; exact e⟩
theorem Row.ne {H : Hp} {l m : Addr} {ps : List Addr} {qs : List Q4} (R : Row H l ps qs) (h : H m = none) : l ≠ m := ne_of_none R.hl h
theorem Tups.app {H : Hp} {rs : List Addr} {ss : List Q4} (h2 : Tups H rs ss) : ∀ {ps : List Addr} {qs : List Q4}, Tups H ps qs → Tups H (ps ++ rs) (qs ++ ss)
  | _, _, Paired.nil => h2
  | _, _, Paired.cons a b => .cons a (Tups.app h2 b)
theorem Tups.rep {H : Hp} {t : Addr} {q : Q4} (ht : H t = some (.tup (q4 q))) : ∀ n : Nat, Tups H (List.replicate n t) (List.replicate n q)
  | 0 => .nil
  | n + 1 => .cons ht (Tups.rep ht n)
end L2
namespace Sw
open L2
def Fine (i : Nat) (b : Int) (q : Q4) : Prop := i < 60 ∧ 0 ≤ q.1 ∧ q.1 ≤ 1000000000000 ∧ 0 ≤ q.2.1 ∧ q.2.1 ≤ 11 ∧ 1 ≤ q.2.2.1 ∧ q.2.2.1 ≤ 1000000 ∧ 1 ≤ q.2.2.2 ∧ q.2.2.2 ≤ 1000000 ∧ b ≤ q.1
instance (i : Nat) (b : Int) (q : Q4) : Decidable (Fine i b q) := by unfold Fine; infer_instance
/-- the first place that is bad -/
def badAt : List Q4 → Nat → Int → Option Nat
  | [], _, _ => none
  | q :: r, i, b => if Fine i b q then badAt r (i + 1) q.1 else some i
theorem badAt_nil (i : Nat) (b : Int) : badAt [] i b = none := rfl
theorem badAt_ok {q : Q4} {r : List Q4} {i : Nat} {b : Int} (h : Fine i b q) : badAt (q :: r) i b = badAt r (i + 1) q.1 := if_pos h
theorem badAt_no {q : Q4} {r : List Q4} {i : Nat} {b : Int} (h : ¬ Fine i b q) : badAt (q :: r) i b = some i := if_neg h
theorem badAt_cut : ∀ {l : List Q4} {i n : Nat} {b : Int}, badAt l i b = some n → i ≤ n ∧ n - i < l.length ∧ badAt (l.take (n - i)) i b = none
  | [], i, n, b, h => by cases h
  | q :: r, i, n, b, h => by
    by_cases f : Fine i b q
    · rw [badAt_ok f] at h
      obtain ⟨h1, h2, h3⟩ := badAt_cut h
      have e : n - i = (n - (i + 1)) + 1 := by omega
      refine ⟨by omega, by rw [List.length_cons]; omega, ?_⟩
      rw [e, List.take_succ_cons, badAt_ok f]
      exact h3
    · rw [badAt_no f] at h
      cases h
      exact ⟨Nat.le_refl _, by rw [List.length_cons]; omega, by rw [Nat.sub_self]; rfl⟩
theorem drop_get {α : Type} {xs : List α} {i : Nat} {x : α} (h : xs[i]? = some x) : xs.drop i = x :: xs.drop (i + 1) := by
  obtain ⟨h1, rfl⟩ := List.getElem?_eq_some_iff.mp h
  exact List.drop_eq_getElem_cons h1
end Sw
namespace L2
open PySem PySem.Spec PyProof.Rows
/-! ### own classes whose makers and methods may raise, and may leave parameters to their defaults -/
/-- the last parameters are filled up with dvs -/
def BindsV (K : PySem.W.Frag) (fd : FuncData) (ps : List Str) (dvs : List V) : Prop := ∃ ds, Vals dvs ds ∧ Binds K fd ps ds
theorem BindsV.nil {K : PySem.W.Frag} {fd : FuncData} {ps : List Str} (h : Binds K fd ps []) : BindsV K fd ps [] := ⟨[], .nil, h⟩
/-- a function with any defaults -/
structure FunE (K : PySem.W.Frag) (x qual : Str) (st : Stmt) (f : Addr) (fd : FuncData) : Prop where
  ex : ∃ (oc : Value) (od : Option Addr) (dV kV doc pm : Value) (an : Option Addr) (cdv ct : Value) (osl : Array (Option Value)),
    fd = PySem.W.fnOf x qual (defArgs st) (defBody st) (defScope st) dV kV doc pm an cdv ct ∧ K.lookup f = some ⟨oc, od, .func fd, osl⟩ ∧ PySem.W.codeIn K cdv qual = true
theorem funE_mk {K : PySem.W.Frag} {x qual : Str} {st : Stmt} {f : Addr} {oc : Value} {od an : Option Addr} {osl : Array (Option Value)} {dV kV doc pm cdv ct : Value} (l : K.lookup f = some ⟨oc, od, .func (PySem.W.fnOf x qual (defArgs st) (defBody st) (defScope st) dV kV doc pm an cdv ct), osl⟩)
    (c : PySem.W.codeIn K cdv qual = true) : FunE K x qual st f (PySem.W.fnOf x qual (defArgs st) (defBody st) (defScope st) dV kV doc pm an cdv ct) := ⟨⟨oc, od, dV, kV, doc, pm, an, cdv, ct, osl, rfl, l, c⟩⟩
/-- .. of which the last parameters stand in the tuple of defaults at T -/
theorem binds_dflt {K : PySem.W.Frag} {fd : FuncData} {ps : List Str} {ds : List Value} {T : Addr} {oc : Value} {od : Option Addr} {n : Nat} {osl : Array (Option Value)} {items : Array Value} (hd : fd.defaults = .ref T) (lk : K.lookup T = some ⟨oc, od, .seq items n, osl⟩)
    (h : ∀ us : List Value, (us ++ ds).length = ps.length → ∃ k : Option (Array Value) → Sem (List (Str × Value)), bindArgs fd ⟨us, []⟩ = seqItems? fd.defaults >>= k ∧ k (some items) = pure (ps.zip (us ++ ds))) : Binds K fd ps ds := fun s us kx hl => by
  obtain ⟨k, h1, h2⟩ := h us hl
  exact BindsTo.of_defaults hd (kx _ _ lk) rfl h1 h2
structure MethD (P : Program) (w : World) (K : PySem.W.Frag) (mg : Str → Option Value) (base : Heap) (CX : CXT) (k : Nat) (C : Addr) (m : Str) (ps : List Str) (dss : List (List V)) (sp : Sp) : Prop where
  ex : ∃ (f : Addr) (fd : FuncData), FnOk P w K mg base CX k f fd ps sp ∧ Meth K C m f ∧ ∀ dvs ∈ dss, BindsV K fd ps dvs
structure MkD (P : Program) (w : World) (K : PySem.W.Frag) (mg : Str → Option Value) (base : Heap) (CX : CXT) (k : Nat) (C : Addr) (ps : List Str) (dss : List (List V)) (sp : Sp) : Prop where
  ex : ∃ (f : Addr) (fd : FuncData), FnOk P w K mg base CX k f fd ps sp ∧ Mk K C f ∧ ∀ dvs ∈ dss, BindsV K fd ps dvs
/-- a method's text -/
structure SrcM (K : PySem.W.Frag) (C : Addr) (m qual : Str) (st : Stmt) (ps : List Str) (dss : List (List V)) : Prop where
  ex : ∃ (f : Addr) (fd : FuncData), FunE K m qual st f fd ∧ Meth K C m f ∧ ∀ dvs ∈ dss, BindsV K fd ps dvs
structure SrcK (K : PySem.W.Frag) (C : Addr) (qual : Str) (st : Stmt) (ps : List Str) (dss : List (List V)) : Prop where
  ex : ∃ (f : Addr) (fd : FuncData), FunE K "__init__" qual st f fd ∧ Mk K C f ∧ ∀ dvs ∈ dss, BindsV K fd ps dvs
section
variable {P : Program} {w : World} {K : PySem.W.Frag} {mg : Str → Option Value} {base : Heap} {CX : CXT} {C : Addr} {m qual : Str} {st : Stmt} {N ps : List Str} {dss : List (List V)} {k : Nat} {sp : Sp}
theorem SrcM.okN (F : SrcM K C m qual st ps dss) (S : FnScope N ps (defScope st)) (len : ∀ vs H Q E, sp vs H Q E → vs.length = ps.length)
    (hbody : ∀ (f : Addr) (cdv : Value) (A : Around) (outer : List Env) (s : Shared) (H : Hp) (vs : List V) (Q : VK) (E : XK), Room k (A.deeper (envOfC qual (defScope st) s.heap.objs.size f cdv)) → sp vs H Q E →
      ∃ t, PSs (cxOf CX P w K mg base N qual (defScope st) f cdv A outer s H E).nox (defBody st) t ∧ t { nx := fun _ H' => Q .non H', rt := Q } (start N vs) H) : MethD P w K mg base CX (k + 1) C m ps dss sp := by
  obtain ⟨f, fd, F, me, b⟩ := F.ex
  obtain ⟨oc, od, dV, kV, doc, pm, an, cdv, ct, osl, rfl, lk, hcd⟩ := F.ex
  exact ⟨f, _, fn_of lk hcd S len fun A outer s H vs Q E hr hsp => by
    obtain ⟨t, h, q⟩ := hbody f cdv A outer s H vs Q E hr hsp
    exact ⟨t, h.nox, q⟩, me, b⟩
theorem SrcM.okX (F : SrcM K C m qual st ps dss) (S : FnScope N ps (defScope st)) (len : ∀ vs H Q E, sp vs H Q E → vs.length = ps.length)
    (hbody : ∀ (f : Addr) (cdv : Value) (A : Around) (outer : List Env) (s : Shared) (H : Hp) (vs : List V) (Q : VK) (E : XK), Room k (A.deeper (envOfC qual (defScope st) s.heap.objs.size f cdv)) → sp vs H Q E →
      ∃ t, PSs (cxOf (CXX P w) P w K mg base N qual (defScope st) f cdv A outer s H E) (defBody st) t ∧ t { nx := fun _ H' => Q .non H', rt := Q } (start N vs) H) : MethD P w K mg base (CXX P w) (k + 1) C m ps dss sp := by
  obtain ⟨f, fd, F, me, b⟩ := F.ex
  obtain ⟨oc, od, dV, kV, doc, pm, an, cdv, ct, osl, rfl, lk, hcd⟩ := F.ex
  exact ⟨f, _, fn_of lk hcd S len fun A outer s H vs Q E hr hsp => hbody f cdv A outer s H vs Q E hr hsp, me, b⟩
theorem SrcK.okN (F : SrcK K C qual st ps dss) (S : FnScope N ps (defScope st)) (len : ∀ vs H Q E, sp vs H Q E → vs.length = ps.length)
    (hbody : ∀ (f : Addr) (cdv : Value) (A : Around) (outer : List Env) (s : Shared) (H : Hp) (vs : List V) (Q : VK) (E : XK), Room k (A.deeper (envOfC qual (defScope st) s.heap.objs.size f cdv)) → sp vs H Q E →
      ∃ t, PSs (cxOf CX P w K mg base N qual (defScope st) f cdv A outer s H E).nox (defBody st) t ∧ t { nx := fun _ H' => Q .non H', rt := Q } (start N vs) H) : MkD P w K mg base CX (k + 1) C ps dss sp := by
  obtain ⟨f, fd, F, me, b⟩ := F.ex
  obtain ⟨oc, od, dV, kV, doc, pm, an, cdv, ct, osl, rfl, lk, hcd⟩ := F.ex
  exact ⟨f, _, fn_of lk hcd S len fun A outer s H vs Q E hr hsp => by
    obtain ⟨t, h, q⟩ := hbody f cdv A outer s H vs Q E hr hsp
    exact ⟨t, h.nox, q⟩, me, b⟩
theorem SrcK.okX (F : SrcK K C qual st ps dss) (S : FnScope N ps (defScope st)) (len : ∀ vs H Q E, sp vs H Q E → vs.length = ps.length)
    (hbody : ∀ (f : Addr) (cdv : Value) (A : Around) (outer : List Env) (s : Shared) (H : Hp) (vs : List V) (Q : VK) (E : XK), Room k (A.deeper (envOfC qual (defScope st) s.heap.objs.size f cdv)) → sp vs H Q E →
      ∃ t, PSs (cxOf (CXX P w) P w K mg base N qual (defScope st) f cdv A outer s H E) (defBody st) t ∧ t { nx := fun _ H' => Q .non H', rt := Q } (start N vs) H) : MkD P w K mg base (CXX P w) (k + 1) C ps dss sp := by
  obtain ⟨f, fd, F, me, b⟩ := F.ex
  obtain ⟨oc, od, dV, kV, doc, pm, an, cdv, ct, osl, rfl, lk, hcd⟩ := F.ex
  exact ⟨f, _, fn_of lk hcd S len fun A outer s H vs Q E hr hsp => hbody f cdv A outer s H vs Q E hr hsp, me, b⟩
end
def tMethX (C : Addr) (m : Str) (sp : Sp) (dvs : List V) (Ek : XH) (ta : TE) (t : TA) : TE := fun σ H Q => ta σ H fun x H1 => ∃ a dx fs, x = .ref a ∧ H1 a = some (.ins C dx fs) ∧ fs.lookup m = none ∧
  t σ H1 fun vs H2 => sp (x :: (vs ++ dvs)) H2 Q (fun v d H' => Ek v d σ H')
def tMakeX (C : Addr) (sp : Sp) (dvs : List V) (Ek : XH) (t : TA) : TE := fun σ H Q => t σ H fun vs H1 => ∀ x dx, H1 x = none → H1 dx = none → dx ≠ x →
  sp (.ref x :: (vs ++ dvs)) (upd (upd H1 dx (.own x)) x (.ins C dx [])) (fun v H2 => v = .non ∧ Q (.ref x) H2) (fun v d H' => Ek v d σ H')
section
variable {X : Cx} {CX : CXT} {k : Nat} {f C : Addr} {fd : FuncData} {ps : List Str} {sp : Sp} {dvs : List V} {dss : List (List V)} {Ek : XH} {x m : Str} {p pos apos : Pos} {e o : Expr} {es : List Expr} {ta : TE} {t : TA}
theorem run_fnX {pins : List (Addr × Obj)} {σ : St} {H : Hp} {s : Shared} {Q : VK} {us : List Value} {vs : List V} (F : FnOk X.prog X.w X.K X.mg X.base CX k f fd ps sp) (hr : Room k X.A) (hb : BindsV X.K fd ps dvs) (hx : PassesX CX X Ek)
    (I : Inv X pins σ H s) (r : Vals vs us) (h : sp (vs ++ dvs) H Q (fun v d H' => Ek v d σ H')) : wpAny (model X.prog X.w) X.A (call (.ref f) us) (EP X pins σ Q) X.xe s := by
  obtain ⟨ds, hd, hb⟩ := hb
  have r2 : Vals (vs ++ dvs) (us ++ ds) := r.append hd
  have hl : (us ++ ds).length = ps.length := by rw [← r2.length]; exact F.len _ _ _ _ h
  refine wpAny_call (codeAny_mono (F.run X.A X.stack s H ⟨us, []⟩ (us ++ ds) (vs ++ dvs) Q _ hr I.env0 (hb s us I.kIn hl) r2 h) fun r s' hq => ?_)
  cases r with
  | error e => exact hx pins σ H s e s' I hq
  | ok fl =>
    cases fl with
    | ret u => exact I.after hq
    | next => exact False.elim hq
    | brk => exact False.elim hq
    | cont => exact False.elim hq
theorem pe_methX {pl : Sem Bool} (D : MethD X.prog X.w X.K X.mg X.base CX k C m ps dss sp) (hin : dvs ∈ dss) (c : Cls X.K C) (hr : Room k X.A) (hx : PassesX CX X Ek) (he : PE X o ta) (ha : PA X (e :: es) t)
    (hst : starEach (e :: es) X.env = (false, eval e X.env) :: starEach es X.env := by rfl) (hpl : (backTo pos (starEach es X.env)).any (·.1) = false := by rfl)
    (ht : eval (.Call (.Attribute o m apos) (e :: es) [] pos) X.env = (do
      let ov ← eval o X.env
      standAt apos.atName
      let (f, first) ← holding [ov] (getMethod ov m pl)
      callWith pos f first (backTo pos (starEach (e :: es) X.env)) (backToKw pos (keywordEach [] X.env))) := by rfl) :
    PE X (.Call (.Attribute o m apos) (e :: es) [] pos) (tMethX C m sp dvs Ek ta t) := by
  obtain ⟨f, fd, F, hm, hb⟩ := D.ex
  intro pins s σ H Q I h
  refine PySem.W.methodCall_KW (pl := pl) (thn (he pins s σ H _ I h) fun u s1 ⟨x, H1, I1, rx, a, dx, fs, ex, ea, l, q⟩ => ?_) ht
  subst ex
  obtain rfl : u = Value.ref a := rx
  refine getmeth_ok I1 ea c hm l ?_
  refine PySem.W.callWith_K (first := [.ref a]) (h₀ := X.base) I.ok.mod.kin hm.kp (thn (ha pos pins s1 σ H1 _ I1 q) fun us s2 ⟨vs, H2, I2, r, q2⟩ => ⟨I2.kIn, ?_⟩) hst hpl
  exact run_fnX (us := .ref a :: us) (vs := .ref a :: vs) F hr (hb _ hin) hx I2 (.cons rfl r) q2
theorem pe_methX0 {pl : Sem Bool} (D : MethD X.prog X.w X.K X.mg X.base CX k C m ps dss sp) (hin : dvs ∈ dss) (c : Cls X.K C) (hr : Room k X.A) (hx : PassesX CX X Ek) (he : PE X o ta)
    (ht : eval (.Call (.Attribute o m apos) [] [] pos) X.env = (do
      let ov ← eval o X.env
      standAt apos.atName
      let (f, first) ← holding [ov] (getMethod ov m pl)
      callWith pos f first (backTo pos (starEach [] X.env)) (backToKw pos (keywordEach [] X.env))) := by rfl) :
    PE X (.Call (.Attribute o m apos) [] [] pos) (tMethX C m sp dvs Ek ta tNil) := by
  obtain ⟨f, fd, F, hm, hb⟩ := D.ex
  intro pins s σ H Q I h
  refine PySem.W.methodCall_KW (pl := pl) (thn (he pins s σ H _ I h) fun u s1 ⟨x, H1, I1, rx, a, dx, fs, ex, ea, l, q⟩ => ?_) ht
  subst ex
  obtain rfl : u = Value.ref a := rx
  refine getmeth_ok I1 ea c hm l ?_
  exact PySem.W.callWith_K0 (first := [.ref a]) I1.kIn hm.kp (run_fnX (us := [.ref a]) (vs := [.ref a]) F hr (hb _ hin) hx I1 (.cons rfl .nil) q)
theorem run_makeX {pins : List (Addr × Obj)} {σ : St} {H : Hp} {s : Shared} {Q : VK} {us : List Value} {vs : List V} (M : Mk X.K C f) (F : FnOk X.prog X.w X.K X.mg X.base CX k f fd ps sp) (hr : Room (k + 1) X.A) (hb : BindsV X.K fd ps dvs)
    (hx : PassesX CX X Ek) (I : Inv X pins σ H s) (r : Vals vs us)
    (h : ∀ x dx, H x = none → H dx = none → dx ≠ x → sp (.ref x :: (vs ++ dvs)) (upd (upd H dx (.own x)) x (.ins C dx [])) (fun v H2 => v = .non ∧ Q (.ref x) H2) (fun v d H' => Ek v d σ H')) :
    wpAny (model X.prog X.w) X.A (call (.ref C) us) (EP X pins σ Q) X.xe s := by
  obtain ⟨ds, hd, hb⟩ := hb
  have hq := h (s.heap.objs.size + 1) s.heap.objs.size (I.hok.fresh (Nat.le_succ _)) (I.hok.fresh (Nat.le_refl _)) (Nat.ne_of_lt (Nat.lt_succ_self _))
  have I2 := Inv.made (C := C) I
  have r2 : Vals (V.ref (s.heap.objs.size + 1) :: (vs ++ dvs)) (Value.ref (s.heap.objs.size + 1) :: (us ++ ds)) := .cons rfl (r.append hd)
  have hl : (Value.ref (s.heap.objs.size + 1) :: us ++ ds).length = ps.length := by
    have e := r2.length
    rw [F.len _ _ _ _ hq] at e
    exact e.symm
  refine wpAny_call (make_map (f := f) I.kIn M.makes M.init (beq_iff_eq.mp M.fn) (codeAny_mono (F.run _ X.stack _ _ ⟨Value.ref (s.heap.objs.size + 1) :: us, []⟩ (Value.ref (s.heap.objs.size + 1) :: (us ++ ds)) _ _ _ (hr.make C us [])
    (I2.env0.make C us []) (hb _ (Value.ref (s.heap.objs.size + 1) :: us) I2.kIn hl) r2 hq) fun r s' hq' => ?_))
  cases r with
  | error e => exact hx pins σ _ _ e s' I2 hq'
  | ok fl =>
    cases fl with
    | ret u =>
      obtain ⟨v, H', I3, rv, ev, q3⟩ := I2.after hq'
      subst ev
      exact ⟨rv, ⟨V.ref (s.heap.objs.size + 1), H', I3, rfl, q3⟩⟩
    | next => exact False.elim hq'
    | brk => exact False.elim hq'
    | cont => exact False.elim hq'
theorem pe_makeX (D : MkD X.prog X.w X.K X.mg X.base CX k C ps dss sp) (hin : dvs ∈ dss) (hr : Room (k + 1) X.A) (hx : PassesX CX X Ek) (hg : Gl X x) (hm : X.mg x = some (.ref C))
    (ha : PA X (e :: es) t) (hdb : (x == ("__debug__" : Str)) = false := by decide) (he : starEach (e :: es) X.env = (false, eval e X.env) :: starEach es X.env := by rfl) (hpl : (backTo pos (starEach es X.env)).any (·.1) = false := by rfl) :
    PE X (.Call (.Name x p) (e :: es) [] pos) (tMakeX C sp dvs Ek t) := by
  obtain ⟨f, fd, F, M, hb⟩ := D.ex
  intro pins s σ H Q I h
  refine wpAny_Call_Name_kw (ld_glob I hg hm ?_ hdb)
  refine PySem.W.callWith_K (h₀ := X.base) I.ok.mod.kin M.kp (thn (ha pos pins s σ H _ I h) fun us s1 ⟨vs, H1, I1, r, q⟩ => ⟨I1.kIn, ?_⟩) he hpl
  exact run_makeX M F hr (hb _ hin) hx I1 r q
theorem pe_makeX0 (D : MkD X.prog X.w X.K X.mg X.base CX k C ps dss sp) (hin : dvs ∈ dss) (hr : Room (k + 1) X.A) (hx : PassesX CX X Ek) (hg : Gl X x) (hm : X.mg x = some (.ref C))
    (hdb : (x == ("__debug__" : Str)) = false := by decide) : PE X (.Call (.Name x p) [] [] pos) (tMakeX C sp dvs Ek tNil) := by
  obtain ⟨f, fd, F, M, hb⟩ := D.ex
  intro pins s σ H Q I h
  refine wpAny_Call_Name_kw (ld_glob I hg hm ?_ hdb)
  exact PySem.W.callWith_K0 I.kIn M.kp (run_makeX (us := []) M F hr (hb _ hin) hx I .nil h)
end
section
variable {X : Cx}
/-- is True, is False of a truth -/
theorem op_isB : OpR X (compareOp .Is) (fun x y H Q => ∃ b c, x = .bl b ∧ y = .bl c ∧ Q (.bl (b == c)) H) := by
  intro pins s σ H x y v u Q I rx ry h
  obtain ⟨b, c, rfl, rfl, q⟩ := h
  cases rx
  cases ry
  exact is_bool (fin_bl I q rfl)
theorem op_notB : OpR X (compareOp .IsNot) (fun x y H Q => ∃ b c, x = .bl b ∧ y = .bl c ∧ Q (.bl (!(b == c))) H) := by
  intro pins s σ H x y v u Q I rx ry h
  obtain ⟨b, c, rfl, rfl, q⟩ := h
  cases rx
  cases ry
  exact isnot_bool (fin_bl I q rfl)
end
end L2
namespace L2
open PySem PySem.Spec PyProof.Rows
/-! ### range(lo, hi, step) -/
/-- lo, lo + c, .. (n of them) -/
def Itrs (lo c : Int) (n : Nat) : It := ⟨fun i _ => i < n, fun i H x H' => H' = H ∧ x = .int (lo + i * c), fun i _ => n ≤ i⟩
theorem turn_ranges {P : Program} {w : World} {K : PySem.W.Frag} {tg : Expr} (it : Addr) (lo c : Int) (n : Nat) : Turn P w K tg (Itrs lo c n) [it] it (fun i h => IsRangeIter h it (lo + (i : Nat) * c) ((n : Int) - (i : Nat)) c) where
  mem := by simp
  obj := fun i h st b hb => by
    have e : b = it := by simpa using hb
    subst e
    exact ⟨_, st, fun v z => by
      have z' : Data.fields _ = Data.cell v := z
      cases z'⟩
  keep := fun i h h' st k => k it (by simp) _ st
  item := by
    intro X hP hw hK hc i pins s σ H E I hf st hg
    subst hP hw hK
    obtain ⟨f0, f1, f2, f3, f4, f5⟩ := hf it (by simp)
    have W := Walks.range (prog := X.prog) (w := X.w) (I.ok.hd hc) it lo c n
    refine W.item i s _ _ hg st fun v h' tk hv st' kk => ?_
    obtain ⟨t, rfl⟩ := hv
    have I1 : Inv X pins σ H { s with heap := h', toks := tk } := I.turned (fun b o hb e => kk b o (by simpa using hb) e) f0 f1 f3 f4 f5
    exact ⟨_, rfl, go_of (s := { s with heap := h', toks := tk }) (n := "range_iterator") st' rfl rfl (by decide) ⟨.int (lo + i * c), H, I1, ⟨t, rfl⟩, ⟨rfl, rfl⟩, st', fun b hb => (hf b hb).1⟩⟩
  done := by
    intro X hP hw hK hc i pins s σ H E I hf st hg
    subst hP hw hK
    obtain ⟨f0, f1, f2, f3, f4, f5⟩ := hf it (by simp)
    exact wpAny_pyNext_range_end (I.ok.hd hc) st (by have : n ≤ i := hg; omega) fun h' eb => ⟨rfl, I.turned (t' := s.toks) (fun b o hb e => eb b o hb e) f0 f1 f3 f4 f5⟩
  self := fun _ _ _ _ _ st h => wpAny_pyIter_rangeiter st h
/-- a range that is walked in n turns -/
structure RngOk (i j c : Int) (n : Nat) : Prop where
  nz : c ≠ 0
  np : Builtin.divisionGoesByPylong (j - i) c = false
  sm : Builtin.Range.small i j c = true
  eq : (n : Int) = Builtin.Range.rangeSize i j c
def iRng3 (ta : TA) : TI := fun σ H R => ta σ H fun vs H1 => ∃ i j c n, vs = [.int i, .int j, .int c] ∧ RngOk i j c n ∧ R (Itrs i c n) H1
section
variable {X : Cx} {tg : Expr}
theorem pi_range3 {a b c : Expr} {ta : TA} {p pos : Pos} (hg : Gl X "range") (hm : X.mg "range" = none) (ha : PA X [a, b, c] ta) (hs : starEach [a, b, c] X.env = [(false, eval a X.env), (false, eval b X.env), (false, eval c X.env)] := by rfl) (hs2 : starEach [b, c] X.env = [(false, eval b X.env), (false, eval c X.env)] := by rfl) :
    PI X tg (.Call (.Name "range" p) [a, b, c] [] pos) (iRng3 ta) := by
  intro pins s σ H R I h
  refine Call_ (ld_blt I hg hm boot_range (PyProof.Rows.callWith_type1 (thn (ha pos pins s σ H _ I h) fun us s1 ⟨vs, H1, I1, r1, q1⟩ => ?_) (by rw [hs, hs2]) (by rw [hs2]; rfl)))
  obtain ⟨i, j, c, n, e, ok, q⟩ := q1
  subst e
  obtain ⟨u1, us, rfl, r, rr⟩ : ∃ u1 us', us = u1 :: us' ∧ RelV (.int i) u1 ∧ Vals [.int j, .int c] us' := by cases r1 with | cons r rr => exact ⟨_, _, rfl, r, rr⟩
  obtain ⟨u2, u3, rfl, r', r''⟩ := Vals.two rr
  obtain ⟨t, rfl⟩ := r
  obtain ⟨t', rfl⟩ := r'
  obtain ⟨t'', rfl⟩ := r''
  refine call_range_3 ok.nz ?_ (.inl ok.np)
  refine wpAny_pyIter_range (IsRange.new ..) ok.sm ?_
  generalize hob : ({ cls := .type "range", data := .fields #[.int i t, .int j t', .int c t''] } : Obj) = ob
  have I2 : Inv X pins σ H1 { s1 with heap := s1.heap.push ob, toks := s1.toks } := I1.kept fun b o e => Heap.get?_push_of_some _ e
  refine ⟨(s1.heap.push ob).objs.size, [(s1.heap.push ob).objs.size], _, _, H1, rfl, I2.kept (t' := s1.toks) fun b o e => Heap.get?_push_of_some _ e, turn_ranges _ i c n, ?_, fun b hb => ?_, q⟩
  · have e1 : i + ((0 : Nat) : Int) * c = i := by simp
    have e2 : ((n : Nat) : Int) - ((0 : Nat) : Int) = Builtin.Range.rangeSize i j c := by rw [← ok.eq]; simp
    show IsRangeIter _ _ (i + ((0 : Nat) : Int) * c) (((n : Nat) : Int) - ((0 : Nat) : Int)) c
    rw [e1, e2]
    exact Heap.get?_push_size _ rfl
  · have e : b = (s1.heap.push ob).objs.size := by simpa using hb
    subst e
    exact I2.fpOk (Nat.le_refl _) (I2.hok.fresh (Nat.le_refl _))
end
theorem for_ranges {lo c : Int} {n : Nat} {g : TG} {tb : TS} {D : Ends} {σ : St} {H : Hp} (Pv : Nat → St → Hp → Prop) (h0 : Pv 0 σ H)
    (hs : ∀ i σ H, i < n → Pv i σ H → g (.int (lo + i * c)) σ H fun σ2 H2 => tb { D with nx := Pv (i + 1), ct := Pv (i + 1), bk := D.nx } σ2 H2) (hd : ∀ σ H, Pv n σ H → D.nx σ H) :
    ∃ W : Nat → Nat → St → Hp → Prop, (∃ m, W 0 m σ H) ∧ ∀ i m σ H, W i m σ H →
      ((Itrs lo c n).stop i H ∧ D.nx σ H) ∨ ((Itrs lo c n).go i H ∧ ∃ N : St → Hp → Prop, (∀ σ' H', N σ' H' → ∃ m', m' < m ∧ W (i + 1) m' σ' H') ∧ ∀ x H', (Itrs lo c n).yld i H x H' → g x σ H' fun σ2 H2 => tb { D with nx := N, ct := N, bk := D.nx } σ2 H2) := by
  refine ⟨fun i m σ H => m = n - i ∧ i ≤ n ∧ Pv i σ H, ⟨n, by simp, Nat.zero_le _, h0⟩, ?_⟩
  rintro i m σ H ⟨rfl, hi, p⟩
  by_cases hlt : i < n
  · refine .inr ⟨hlt, Pv (i + 1), fun σ' H' p' => ⟨n - (i + 1), by omega, rfl, hlt, p'⟩, fun x H' y => ?_⟩
    obtain ⟨e, y⟩ := y
    subst e y
    exact hs i σ _ hlt p
  · have e : i = n := by omega
    subst e
    exact .inl ⟨Nat.le_refl _, hd σ H p⟩
/-- a for: what it walks is reckoned first -/
theorem for_step {wi : TI} {g : TG} {tb : TS} {D : Ends} {σ : St} {H : Hp} (h : ∀ Z : It → Hp → Prop, (∀ J H1, (∃ W : Nat → Nat → St → Hp → Prop, (∃ m, W 0 m σ H1) ∧ ∀ i m σ H, W i m σ H →
  (J.stop i H ∧ D.nx σ H) ∨ (J.go i H ∧ ∃ N : St → Hp → Prop, (∀ σ' H', N σ' H' → ∃ m', m' < m ∧ W (i + 1) m' σ' H') ∧ ∀ x H', J.yld i H x H' → g x σ H' fun σ2 H2 => tb { D with nx := N, ct := N, bk := D.nx } σ2 H2)) → Z J H1) → wi σ H Z) : tFor wi g tb D σ H := h _ fun _ _ x => x
theorem nopy {a c : Int} (h0 : c ≠ 0) (h : c.natAbs < 100) : Builtin.divisionGoesByPylong a c = false :=
  pylong_of h0 (Sw.Sz.lit (by omega))
theorem rng_three {j : Int} (h0 : 0 ≤ j) (h1 : j ≤ 1000) : RngOk 0 j 3 ((j + 2) / 3).toNat := by
  have hs : Builtin.Range.rangeSize 0 j 3 = (j + 2) / 3 := by
    unfold Builtin.Range.rangeSize
    split
    · split <;> omega
    · omega
  refine ⟨by decide, nopy (by decide) (by decide), ?_, ?_⟩
  · unfold Builtin.Range.small
    rw [hs]
    unfold Builtin.Range.rangeFitsLong
    simp
    omega
  · rw [hs]; omega
theorem rng_down {i : Int} (h0 : -1 ≤ i) (h1 : i ≤ 1000) : RngOk i (-1) (-1) (i + 1).toNat := by
  have hs : Builtin.Range.rangeSize i (-1) (-1) = i + 1 := by
    unfold Builtin.Range.rangeSize
    split
    · omega
    · split
      · first | (simp; done) | (simp; omega)
      · omega
  refine ⟨by decide, nopy (by decide) (by decide), ?_, ?_⟩
  · unfold Builtin.Range.small
    rw [hs]
    unfold Builtin.Range.rangeFitsLong
    simp
    omega
  · rw [hs]; omega
theorem pickM {K : PySem.W.Frag} {H : Hp} {t : Addr} {i : Int} {Q : VK} (xs : List Int) (h0 : 0 ≤ i) (h1 : i < xs.length) (k : ∀ z : Int, z ∈ xs → Q (.int z) (upd H t (.lst (xs.map V.int)))) : rIxL K (.ref t) (.int i) (upd H t (.lst (xs.map V.int))) Q := by
  have := atI_nat (xs := xs.map V.int) (j := i.toNat) (v := V.int (xs[i.toNat]'(by omega))) (by simp)
  rw [Int.toNat_of_nonneg h0] at this
  exact ixL_at (.of upd_same) this (k _ (List.getElem_mem _))
/-! ### isinstance(e, (A, B, ..)) of an exception that is none of them -/
theorem vals_refs : ∀ {cs : List Addr} {us : List Value}, Vals (cs.map V.ref) us → us = cs.map Value.ref
  | [], _, .nil => rfl
  | c :: cs, _, .cons r rr => by
    rw [vals_refs rr]
    cases r
    rfl
theorem kitAny_no {K : PySem.W.Frag} {t : Value} : ∀ {cs : List Addr}, (∀ c ∈ cs, PySem.W.kitOne K t (.ref c) = some false) → PySem.W.kitAny K t (cs.map Value.ref) = some false
  | [], _ => rfl
  | c :: cs, h => by
    show PySem.W.kitAny K t (Value.ref c :: cs.map Value.ref) = _
    unfold PySem.W.kitAny
    rw [h c (by simp)]
    exact kitAny_no fun d hd => h d (by simp [hd])
def rInstXN (K : PySem.W.Frag) : List V → Hp → VK → Prop := fun xs H Q => ∃ (e C : Addr) (dct : Option Addr) (fr : Bool) (tp : Addr) (cs : List Addr), xs = [.ref e, .ref tp] ∧ H e = some (excO e C dct fr) ∧ XFull H dct ∧ XC K C ∧ SqT K H tp (cs.map V.ref) ∧
  (∀ c ∈ cs, PySem.W.kitOne K (.ref C) (.ref c) = some false) ∧ Q (.bl false) H
section
variable {X : Cx}
theorem call_isinstXN (K : PySem.W.Frag) (hK : X.K = K) : CallR X (.builtin "isinstance") (rInstXN K) := by
  subst hK
  intro pins s σ H xs us Q I r h
  obtain ⟨e, C, dct, fr, tp, cs, rfl, he, hf, xc, hT, kk, q⟩ := h
  obtain ⟨u, v, rfl, rx, rc⟩ := Vals.two r
  cases (show u = Value.ref e from rx)
  cases (show v = Value.ref tp from rc)
  obtain ⟨its, rv, ⟨o, ho, hc, n, hd⟩, _⟩ := I.tuple hT
  have := vals_refs rv
  subst this
  obtain ⟨oc, od, dt, sl⟩ := o
  dsimp only at hc hd
  subst hc hd
  exact PySem.W.kia_tup (b := false) (kitx_exc xc) I.kIn (exc_inst I.hok he hf) ho (by simpa using kitAny_no kk) (fun z => nomatch z) fun tk => ⟨.bl false, H, I.tok _, rfl, q⟩
end
end L2
namespace Sw
/-! ### fractions as rational numbers -/
theorem q_cast_ne {d : Int} (h : d ≠ 0) : (d : Rat) ≠ 0 := by
  intro z
  exact h (Rat.intCast_inj.mp (by rw [z]; rfl))
theorem q_cast_pos {d : Int} (h : 0 < d) : (0 : Rat) < (d : Rat) := by
  have : ((0 : Int) : Rat) < (d : Rat) := Rat.intCast_lt_intCast.mpr h
  exact this
theorem q_self (q : Rat) : (q.num : Rat) / ((q.den : Int) : Rat) = q := by
  rw [← Rat.divInt_eq_div]; exact Rat.num_divInt_den q
theorem q_den_pos (q : Rat) : 0 < (q.den : Int) := by
  have := q.den_nz
  omega
theorem q_den_ne (q : Rat) : (q.den : Int) ≠ 0 := by
  have := q.den_nz
  omega
theorem q_num (q : Rat) : (q.num : Rat) = q * ((q.den : Int) : Rat) := by
  have h := q_self q
  have d := q_cast_ne (q_den_ne q)
  grind
theorem q_low (q : Rat) : dv q.num q.den = 1 := by
  unfold dv
  have := q.reduced
  unfold Nat.Coprime at this
  show ((Nat.gcd q.num.natAbs (q.den : Int).natAbs : Nat) : Int) = 1
  rw [Int.natAbs_natCast, this]
  rfl
theorem q_fr (q : Rat) : Fr q.num q.den := ⟨q_den_pos q, q_low q⟩
theorem fr_q {n d : Int} (f : Fr n d) : ((n : Rat) / (d : Rat)).num = n ∧ ((((n : Rat) / (d : Rat)).den : Nat) : Int) = d := by
  have hd : d ≠ 0 := by have := f.pos; omega
  refine Fr.uniq (q_fr _) f ?_
  have h := q_num ((n : Rat) / (d : Rat))
  generalize hq : (n : Rat) / (d : Rat) = q at h ⊢
  have e : (n : Rat) = q * d := by have := q_cast_ne hd; grind
  have : ((q.num * d : Int) : Rat) = ((n * (q.den : Int) : Int) : Rat) := by
    rw [Rat.intCast_mul, Rat.intCast_mul]
    grind
  exact Rat.intCast_inj.mp this
theorem q_eq {q : Rat} {n d : Int} (hd : d ≠ 0) (h : q.num * d = (q.den : Int) * n) : q = (n : Rat) / (d : Rat) := by
  have e : ((q.num * d : Int) : Rat) = (((q.den : Int) * n : Int) : Rat) := by rw [h]
  rw [Rat.intCast_mul, Rat.intCast_mul, q_num] at e
  have h1 := q_cast_ne hd
  have h2 := q_cast_ne (q_den_ne q)
  grind
theorem q_cross {q : Rat} {n d : Int} (hd : d ≠ 0) (h : q = (n : Rat) / (d : Rat)) : q.num * d = (q.den : Int) * n := by
  have h1 := q_cast_ne hd
  have : ((q.num * d : Int) : Rat) = (((q.den : Int) * n : Int) : Rat) := by
    rw [Rat.intCast_mul, Rat.intCast_mul, q_num]
    grind
  exact Rat.intCast_inj.mp this
theorem q_lt {a b : Rat} : a.num * (b.den : Int) < b.num * (a.den : Int) ↔ a < b := (Rat.lt_iff a b).symm
/-! sizes -/
structure SzQ (z : Nat) (q : Rat) : Prop where
  n : Sz z q.num
  d : Sz z (q.den : Int)
theorem SzQ.mono {m n : Nat} {q : Rat} (h : SzQ m q) (k : m ≤ n) : SzQ n q := ⟨h.n.mono k, h.d.mono k⟩
theorem cop_dvd' {n d x : Int} (h : dv n d = 1) (q : n ∣ d * x) : n ∣ x := cop_dvd (by rw [dv_comm]; exact h) q
theorem SzQ.of {z : Nat} {q : Rat} {n d : Int} (hd : d ≠ 0) (h : q = (n : Rat) / (d : Rat)) (s1 : Sz z n) (s2 : Sz z d) : SzQ z q := by
  have c := q_cross hd h
  refine ⟨?_, ?_⟩
  · by_cases hn : n = 0
    · subst hn
      rw [Int.mul_zero] at c
      have : q.num = 0 := by
        rcases Int.mul_eq_zero.mp c with z | z
        · exact z
        · exact absurd z hd
      rw [this]; exact Sz.zero z
    · exact s1.dvd (cop_dvd' (q_low q) ⟨d, c.symm⟩) hn
  · exact s2.dvd (cop_dvd (q_low q) ⟨n, c⟩) hd
theorem SzQ.int {z : Nat} {n : Int} (h : Sz (z + 1) n) : SzQ (z + 1) (n : Rat) := ⟨by rw [Rat.num_intCast]; exact h, by rw [Rat.den_intCast]; exact Sz.one z⟩
theorem add_q (a b : Rat) : ((a.num * (b.den : Int) + b.num * (a.den : Int) : Int) : Rat) / (((a.den : Int) * (b.den : Int) : Int) : Rat) = a + b := by
  rw [Rat.intCast_add, Rat.intCast_mul, Rat.intCast_mul, Rat.intCast_mul, q_num a, q_num b]
  have h1 := q_cast_ne (q_den_ne a)
  have h2 := q_cast_ne (q_den_ne b)
  grind
theorem sub_q (a b : Rat) : ((a.num * (b.den : Int) - b.num * (a.den : Int) : Int) : Rat) / (((a.den : Int) * (b.den : Int) : Int) : Rat) = a - b := by
  rw [Rat.intCast_sub, Rat.intCast_mul, Rat.intCast_mul, Rat.intCast_mul, q_num a, q_num b]
  have h1 := q_cast_ne (q_den_ne a)
  have h2 := q_cast_ne (q_den_ne b)
  grind
theorem mul_q (a b : Rat) : ((a.num * b.num : Int) : Rat) / (((a.den : Int) * (b.den : Int) : Int) : Rat) = a * b := by
  rw [Rat.intCast_mul, Rat.intCast_mul, q_num a, q_num b]
  have h1 := q_cast_ne (q_den_ne a)
  have h2 := q_cast_ne (q_den_ne b)
  grind
theorem div_q (a b : Rat) (hb : b.num ≠ 0) : ((a.num * (b.den : Int) : Int) : Rat) / (((a.den : Int) * b.num : Int) : Rat) = a / b := by
  rw [Rat.intCast_mul, Rat.intCast_mul, q_num a, q_num b]
  have h1 := q_cast_ne (q_den_ne a)
  have h2 := q_cast_ne (q_den_ne b)
  have h3 := q_cast_ne hb
  rw [q_num b] at h3
  grind
theorem SzQ.add {m n : Nat} {a b : Rat} (h : SzQ m a) (k : SzQ n b) : SzQ (m + n + 1) (a + b) := by
  refine .of (Int.mul_ne_zero (q_den_ne a) (q_den_ne b)) (add_q a b).symm ?_ ((h.d.mul k.d).mono (by omega))
  exact (h.n.mul k.d).add ((k.n.mul h.d).mono (by omega))
theorem SzQ.sub {m n : Nat} {a b : Rat} (h : SzQ m a) (k : SzQ n b) : SzQ (m + n + 1) (a - b) := by
  refine .of (Int.mul_ne_zero (q_den_ne a) (q_den_ne b)) (sub_q a b).symm ?_ ((h.d.mul k.d).mono (by omega))
  exact (h.n.mul k.d).sub ((k.n.mul h.d).mono (by omega))
theorem SzQ.mul {m n : Nat} {a b : Rat} (h : SzQ m a) (k : SzQ n b) : SzQ (m + n) (a * b) :=
  .of (Int.mul_ne_zero (q_den_ne a) (q_den_ne b)) (mul_q a b).symm (h.n.mul k.n) (h.d.mul k.d)
theorem SzQ.div {m n : Nat} {a b : Rat} (hb : b.num ≠ 0) (h : SzQ m a) (k : SzQ n b) : SzQ (m + n) (a / b) :=
  .of (Int.mul_ne_zero (q_den_ne a) hb) (div_q a b hb).symm (h.n.mul k.d) (h.d.mul k.n)
theorem q_num_ne {q : Rat} (h : q ≠ 0) : q.num ≠ 0 := by
  intro z
  have := q_num q
  rw [z] at this
  have d := q_cast_ne (q_den_ne q)
  apply h
  have : (0 : Rat) = q * ((q.den : Int) : Rat) := this
  grind
end Sw
namespace L2
def fq (q : Rat) : List V := [.int q.num, .int (q.den : Int)]
theorem fq_nrm {t b : Int} (hb : b ≠ 0) : f2 (Sw.nrm (t, b)) = fq ((t : Rat) / (b : Rat)) := by
  have f := Sw.nrm_fr (q := (t, b)) hb
  have c := Sw.nrm_cross (q := (t, b)) hb
  have e : ((Sw.nrm (t, b)).1 : Rat) / ((Sw.nrm (t, b)).2 : Rat) = (t : Rat) / (b : Rat) := by
    have h1 := Sw.q_cast_ne hb
    have h2 : (((Sw.nrm (t, b)).2 : Int) : Rat) ≠ 0 := Sw.q_cast_ne (by have := f.pos; omega)
    have c' : (((Sw.nrm (t, b)).1 * b : Int) : Rat) = (((Sw.nrm (t, b)).2 * t : Int) : Rat) := by rw [c]
    rw [Rat.intCast_mul, Rat.intCast_mul] at c'
    grind
  have g := Sw.fr_q f
  rw [e] at g
  unfold f2 fq
  rw [g.1, g.2]
theorem fq_fr {n d : Int} (f : Sw.Fr n d) : [V.int n, V.int d] = fq ((n : Rat) / (d : Rat)) := by
  have g := Sw.fr_q f
  unfold fq
  rw [g.1, g.2]
theorem fq_int (n : Int) : [V.int n, V.int 1] = fq (n : Rat) := by
  unfold fq
  rw [Rat.num_intCast, Rat.den_intCast]
  rfl
theorem fq_inj {a b : Rat} (h : fq a = fq b) : a = b := by
  unfold fq at h
  injection h with h1 h2
  injection h2 with h2 _
  exact Rat.ext (V.int.inj h1) (by have := V.int.inj h2; omega)
end L2
namespace Sw
/-- what a sum of a bucket's level comes to -/
def lvl (d : Int) (r : Rat) (since : Int) (left : Rat) (at_ : Int) : Rat := min (left + r * ((at_ - since : Int) : Rat)) (d : Rat)
theorem SzQ.min {z : Nat} {a b : Rat} (ha : SzQ z a) (hb : SzQ z b) : SzQ z (min a b) := by
  rw [Rat.min_def]
  split
  · exact ha
  · exact hb
end Sw
namespace L2
open PySem PySem.Spec PyProof.Rows
/-- nothing but what stands at p has changed -/
def But (p : Addr) (H H' : Hp) : Prop := ∀ b o, b ≠ p → H b = some o → H' b = some o
theorem Same.but {p : Addr} {H H' : Hp} (h : Same H H') : But p H H' := fun b o _ e => h b o e
theorem But.trans {p : Addr} {H H1 H2 : Hp} (a : But p H H1) (b : But p H1 H2) : But p H H2 := fun c o n h => b c o n (a c o n h)
theorem but_upd {p : Addr} {H : Hp} {o : HO} : But p H (upd H p o) := fun b u n e => by rw [upd_ne n]; exact e
theorem But.seq {K : PySem.W.Frag} {p : Addr} {H H' : Hp} {a C dx : Addr} {fs : List (Str × V)} {xs : List V} (e : But p H H') (hp : H p = some (.ins C dx fs)) (h : SqL K H a xs) : SqL K H' a xs := by
  rcases h with (h | ⟨o, h⟩) | h
  · exact .inl (.inl (e _ _ (ne_of h hp (by intro w; cases w)) h))
  · exact .inl (.inr ⟨o, e _ _ (ne_of h hp (by intro w; cases w)) h⟩)
  · exact .inr h
theorem But.tup {p : Addr} {H H' : Hp} {a C dx : Addr} {fs : List (Str × V)} {xs : List V} (e : But p H H') (hp : H p = some (.ins C dx fs)) (h : H a = some (.tup xs)) : H' a = some (.tup xs) := e _ _ (ne_of h hp (by intro w; cases w)) h
theorem putF_len : ∀ {fs : List (Str × V)} {f : Str} {v w : V}, fs.lookup f = some w → (putF f v fs).length = fs.length
  | [], f, v, w, h => by cases h
  | (g, x) :: r, f, v, w, h => by
    unfold putF
    by_cases e : g = f
    · rw [if_pos e]; rfl
    · rw [if_neg e]
      have hb : (f == g) = false := beq_eq_false_iff_ne.mpr fun z => e z.symm
      simp only [List.lookup, hb] at h
      show (putF f v r).length + 1 = r.length + 1
      rw [putF_len h]
theorem putF_len' : ∀ {fs : List (Str × V)} {f : Str} {v : V}, (putF f v fs).length ≤ fs.length + 1
  | [], f, v => Nat.le_refl _
  | (g, x) :: r, f, v => by
    unfold putF
    by_cases e : g = f
    · rw [if_pos e]; exact Nat.le_succ _
    · rw [if_neg e]
      show (putF f v r).length + 1 ≤ r.length + 1 + 1
      have := putF_len' (fs := r) (f := f) (v := v)
      omega
/-! ### a Bucket -/
structure FB (fs : List (Str × V)) (d : Int) (pr : Addr) (s : Int) (pl : Addr) : Prop where
  dep : fs.lookup ("depth" : Str) = some (.int d)
  rat : fs.lookup ("rate" : Str) = some (.ref pr)
  sin : fs.lookup ("since" : Str) = some (.int s)
  lef : fs.lookup ("left" : Str) = some (.ref pl)
  no : ∀ m : Str, ¬ m = "depth" → ¬ m = "rate" → ¬ m = "since" → ¬ m = "left" → fs.lookup m = none
  len : fs.length < 900
theorem FB.mk0 (d : Int) (pr : Addr) (s : Int) (pl : Addr) : FB (putF "left" (.ref pl) (putF "since" (.int s) (putF "rate" (.ref pr) (putF "depth" (.int d) [])))) d pr s pl := by
  have n1 : ¬ (("depth" : Str) = "left") := by decide +kernel
  have n2 : ¬ (("depth" : Str) = "since") := by decide +kernel
  have n3 : ¬ (("depth" : Str) = "rate") := by decide +kernel
  have n4 : ¬ (("rate" : Str) = "left") := by decide +kernel
  have n5 : ¬ (("rate" : Str) = "since") := by decide +kernel
  have n6 : ¬ (("since" : Str) = "left") := by decide +kernel
  refine ⟨?_, ?_, ?_, ?_, fun m h1 h2 h3 h4 => ?_, ?_⟩
  · rw [lookup_putF, if_neg n1, lookup_putF, if_neg n2, lookup_putF, if_neg n3, lookup_putF, if_pos rfl]
  · rw [lookup_putF, if_neg n4, lookup_putF, if_neg n5, lookup_putF, if_pos rfl]
  · rw [lookup_putF, if_neg n6, lookup_putF, if_pos rfl]
  · rw [lookup_putF, if_pos rfl]
  · rw [lookup_putF, if_neg h4, lookup_putF, if_neg h3, lookup_putF, if_neg h2, lookup_putF, if_neg h1]; rfl
  · have a1 := putF_len' (fs := []) (f := "depth") (v := .int d)
    have a2 := putF_len' (fs := putF "depth" (.int d) []) (f := "rate") (v := .ref pr)
    have a3 := putF_len' (fs := putF "rate" (.ref pr) (putF "depth" (.int d) [])) (f := "since") (v := .int s)
    have a4 := putF_len' (fs := putF "since" (.int s) (putF "rate" (.ref pr) (putF "depth" (.int d) []))) (f := "left") (v := .ref pl)
    simp only [List.length_nil] at a1
    omega
theorem FB.pay {fs : List (Str × V)} {d s s' : Int} {pr pl pl' : Addr} (h : FB fs d pr s pl) : FB (putF "left" (.ref pl') (putF "since" (.int s') fs)) d pr s' pl' := by
  have n1 : ¬ (("depth" : Str) = "left") := by decide +kernel
  have n2 : ¬ (("depth" : Str) = "since") := by decide +kernel
  have n4 : ¬ (("rate" : Str) = "left") := by decide +kernel
  have n5 : ¬ (("rate" : Str) = "since") := by decide +kernel
  have n6 : ¬ (("since" : Str) = "left") := by decide +kernel
  have n7 : ¬ (("left" : Str) = "since") := by decide +kernel
  refine ⟨?_, ?_, ?_, ?_, fun m h1 h2 h3 h4 => ?_, ?_⟩
  · rw [lookup_putF, if_neg n1, lookup_putF, if_neg n2]; exact h.dep
  · rw [lookup_putF, if_neg n4, lookup_putF, if_neg n5]; exact h.rat
  · rw [lookup_putF, if_neg n6, lookup_putF, if_pos rfl]
  · rw [lookup_putF, if_pos rfl]
  · rw [lookup_putF, if_neg h4, lookup_putF, if_neg h3]; exact h.no m h1 h2 h3 h4
  · rw [putF_len (w := .ref pl) (by rw [lookup_putF, if_neg n7]; exact h.lef), putF_len h.sin]; exact h.len
/-- a Bucket stands at p -/
structure Bk (C : Addr) (H : Hp) (p : Addr) (d : Int) (r : Rat) (s : Int) (l : Rat) : Prop where
  ex : ∃ dx fs pr pl, H p = some (.ins C dx fs) ∧ FB fs d pr s pl ∧ H pr = some (.tup (fq r)) ∧ H pl = some (.tup (fq l))
theorem Bk.same {C : Addr} {H H' : Hp} {p : Addr} {d : Int} {r : Rat} {s : Int} {l : Rat} (b : Bk C H p d r s l) (h : Same H H') : Bk C H' p d r s l := by
  obtain ⟨dx, fs, pr, pl, h1, h2, h3, h4⟩ := b.ex
  exact ⟨dx, fs, pr, pl, h _ _ h1, h2, h _ _ h3, h _ _ h4⟩
theorem Bk.but {C C' : Addr} {H H' : Hp} {p q dx' : Addr} {fs' : List (Str × V)} {d : Int} {r : Rat} {s : Int} {l : Rat} (b : Bk C H p d r s l) (h : But q H H') (hq : H q = some (.ins C' dx' fs')) (n : p ≠ q) : Bk C H' p d r s l := by
  obtain ⟨dx, fs, pr, pl, h1, h2, h3, h4⟩ := b.ex
  exact ⟨dx, fs, pr, pl, h _ _ n h1, h2, h.tup hq h3, h.tup hq h4⟩
end L2
namespace L2
open PySem PySem.Spec PyProof.Rows
/-! ### fields and methods, read -/
def rFld (K : PySem.W.Frag) (f : Str) (x : V) (H : Hp) (Q : VK) : Prop := ∃ a C dx fs v, x = .ref a ∧ H a = some (.ins C dx fs) ∧ Cls K C ∧ NoAttr K C f ∧ fs.lookup f = some v ∧ Q v H
theorem tFld_eq {K : PySem.W.Frag} {ta : TE} {f : Str} {σ : St} {H : Hp} {Q : VK} : tFld K ta f σ H Q = ta σ H fun x H1 => rFld K f x H1 Q := rfl
theorem fldR_at {K : PySem.W.Frag} {f : Str} {a C dx : Addr} {fs : List (Str × V)} {v : V} {H : Hp} {Q : VK} (h : H a = some (.ins C dx fs)) (c : Cls K C) (n : NoAttr K C f) (l : fs.lookup f = some v) (q : Q v H) : rFld K f (.ref a) H Q := ⟨a, C, dx, fs, v, rfl, h, c, n, l, q⟩
def rSet (K : PySem.W.Frag) (f : Str) (y x : V) (H : Hp) (Z : Hp → Prop) : Prop := ∃ a C dx fs, x = .ref a ∧ H a = some (.ins C dx fs) ∧ Cls K C ∧ NoAttr K C f ∧ fs.length < 1000 ∧ Z (upd H a (.ins C dx (putF f y fs)))
theorem sFld_eq {K : PySem.W.Frag} {ta tv : TE} {f : Str} {D : Ends} {σ : St} {H : Hp} : sFld K ta tv f D σ H = tv σ H fun y H1 => ta σ H1 fun x H2 => rSet K f y x H2 (D.nx σ) := rfl
theorem set_at {K : PySem.W.Frag} {f : Str} {y : V} {a C dx : Addr} {fs : List (Str × V)} {H : Hp} {Z : Hp → Prop} (h : H a = some (.ins C dx fs)) (c : Cls K C) (n : NoAttr K C f) (l : fs.length < 1000) (q : Z (upd H a (.ins C dx (putF f y fs)))) : rSet K f y (.ref a) H Z := ⟨a, C, dx, fs, rfl, h, c, n, l, q⟩
def rMeth (C : Addr) (m : Str) (x : V) (H : Hp) (Z : Prop) : Prop := ∃ a dx fs, x = .ref a ∧ H a = some (.ins C dx fs) ∧ fs.lookup m = none ∧ Z
theorem tMethX_eq {C : Addr} {m : Str} {sp : Sp} {dvs : List V} {Ek : XH} {ta : TE} {t : TA} {σ : St} {H : Hp} {Q : VK} :
    tMethX C m sp dvs Ek ta t σ H Q = ta σ H fun x H1 => rMeth C m x H1 (t σ H1 fun vs H2 => sp (x :: (vs ++ dvs)) H2 Q (fun v d H' => Ek v d σ H')) := by
  unfold tMethX rMeth
  rfl
theorem meth_at {C : Addr} {m : Str} {a dx : Addr} {fs : List (Str × V)} {H : Hp} {Z : Prop} (h : H a = some (.ins C dx fs)) (l : fs.lookup m = none) (z : Z) : rMeth C m (.ref a) H Z := ⟨a, dx, fs, rfl, h, l, z⟩
/-- a new instance: what stood stands -/
theorem same_make {H : Hp} {x dx C : Addr} (h1 : H x = none) (h2 : H dx = none) : Same H (upd (upd H dx (.own x)) x (.ins C dx [])) := fun b o e => by
  rw [upd_ne (ne_of_none e h1), upd_ne (ne_of_none e h2)]
  exact e
/-- what a maker fills is new -/
theorem But.same {x : Addr} {H H1 H' : Hp} (b : But x H1 H') (s : Same H H1) (h : H x = none) : Same H H' := fun c o e => b c o (ne_of_none e h) (s c o e)
theorem at_int {H : Hp} {p : Addr} {n : Int} : upd H p (.tup [.int n, .int 1]) p = some (.tup (fq (n : Rat))) := by rw [upd_same, fq_int]
theorem szq_int {n : Int} (h : Sw.Sz 5000 n) : Sw.SzQ 5000 (n : Rat) := Sw.SzQ.int h
theorem fq_low {t b : Int} (hb : 0 < b) : [V.int (t / Sw.dv t b), V.int (b / Sw.dv t b)] = fq ((t : Rat) / (b : Rat)) := by
  rw [← fq_nrm (by omega)]
  unfold f2 Sw.nrm Sw.rN Sw.rD
  simp only [if_neg (show ¬ b < 0 by omega)]
end L2
namespace L2
open PySem PySem.Spec PyProof.Rows
/-- the last statement of a suite: what stands behind as one word -/
theorem nx_step {t : TS} {D : Ends} {σ : St} {H : Hp} (h : ∀ R : St → Hp → Prop, (∀ σ H, D.nx σ H → R σ H) → t { D with nx := R } σ H) : t D σ H := h D.nx fun _ _ x => x
/-! ### buckets by whole numbers over a rate's bottom -/
/-- sizes that a bucket keeps to -/
structure BZ (d : Int) (r : Rat) (l : Rat) : Prop where
  d : Sw.Sz 300 d
  r : Sw.SzQ 300 r
  l : Sw.SzQ 300 l
def spLevel (C : Addr) : Sp := fun vs H Q _ => ∃ p t d r s l, vs = [.ref p, .int t] ∧ Bk C H p d r s l ∧ BZ d r l ∧ Sw.Sz 300 (t - s) ∧ ∀ q H', Same H H' → H' q = some (.tup (fq (Sw.lvl d r s l t))) → Q (.ref q) H'
theorem lvl_sz {d : Int} {r : Rat} {s : Int} {l : Rat} {t : Int} (z : BZ d r l) (zt : Sw.Sz 300 (t - s)) : Sw.SzQ 1000 (Sw.lvl d r s l t) := by
  unfold Sw.lvl
  exact Sw.SzQ.min ((z.l.add (z.r.mul (.int zt))).mono (by decide)) ((Sw.SzQ.int z.d).mono (by decide))
def spIs : Sp := fun vs H Q _ => ∃ p a t b, vs = [.ref p, .int t, .int b] ∧ H p = some (.tup (fq a)) ∧ Sw.SzQ 5000 a ∧ Sw.Sz 5000 t ∧ Sw.Sz 5000 b ∧ b ≠ 0 ∧ a = (t : Rat) / (b : Rat) ∧ Q (.bl true) H
def spHolds (C : Addr) : Sp := fun vs H Q _ => ∃ p t n d r s l, vs = [.ref p, .int t, .int n] ∧ Bk C H p d r s l ∧ BZ d r l ∧ Sw.Sz 300 (t - s) ∧ Sw.Sz 300 n ∧ ∀ H', Same H H' → Q (.bl (!decide (Sw.lvl d r s l t < (n : Rat)))) H'
def spPay (cS C : Addr) : Sp := fun vs H Q E => ∃ p t n d r s l, vs = [.ref p, .int t, .int n] ∧ Bk C H p d r s l ∧ BZ d r l ∧ Sw.Sz 300 (t - s) ∧ Sw.Sz 300 n ∧
  ((n : Rat) ≤ Sw.lvl d r s l t → ∀ H', But p H H' → Bk C H' p d r t (Sw.lvl d r s l t - (n : Rat)) → Q .non H') ∧
  (Sw.lvl d r s l t < (n : Rat) → ∀ e x pm H', Same H H' → H' e = some (excO e cS (some x) false) → H' x = some (xdO x [("missing", .ref pm)]) → H' pm = some (.tup (fq ((n : Rat) - Sw.lvl d r s l t))) → E (.ref e) (some x) H')
/-- a bucket whose level at a time is a whole number over the rate's bottom -/
structure At (C : Addr) (H : Hp) (p : Addr) (d : Int) (r : Rat) (t level : Int) : Prop where
  ex : ∃ s n : Int, Bk C H p d r s ((n : Rat) / ((r.den : Int) : Rat)) ∧ 0 ≤ n ∧ n ≤ d * (r.den : Int) ∧ 0 ≤ s ∧ s ≤ t ∧ Sw.lvl d r s ((n : Rat) / ((r.den : Int) : Rat)) t = (level : Rat) / ((r.den : Int) : Rat)
/-- the bounds of a law's numbers -/
structure Bd (d : Int) (r : Rat) : Prop where
  d1 : 1 ≤ d
  d2 : d ≤ 1000000000000
  r0 : 0 ≤ r
  rz : Sw.SzQ 70 r
theorem Bd.bz {d : Int} {r : Rat} {n : Int} (b : Bd d r) (h0 : 0 ≤ n) (h1 : n ≤ d * (r.den : Int)) : BZ d r ((n : Rat) / ((r.den : Int) : Rat)) := by
  have d1 := b.d1
  have d2 := b.d2
  have sd : Sw.Sz 70 d := Sw.Sz.r18 (by omega) (by omega)
  have sn : Sw.Sz 140 n := (sd.mul b.rz.d).le (by omega)
  exact ⟨sd.mono (by decide), b.rz.mono (by decide), .of (Sw.q_den_ne r) rfl (sn.mono (by decide)) (b.rz.d.mono (by decide))⟩
theorem At.same {C : Addr} {H H' : Hp} {p : Addr} {d : Int} {r : Rat} {t level : Int} (a : At C H p d r t level) (h : Same H H') : At C H' p d r t level := by
  obtain ⟨s, n, B, x⟩ := a.ex
  exact ⟨s, n, B.same h, x⟩
theorem lt_den {a b : Int} {r : Rat} : (a : Rat) / ((r.den : Int) : Rat) < (b : Rat) ↔ a < b * (r.den : Int) := by
  rw [Rat.div_lt_iff (Sw.q_cast_pos (Sw.q_den_pos r)), ← Rat.intCast_mul, Rat.intCast_lt_intCast]
theorem At.lv {C : Addr} {H : Hp} {p : Addr} {d : Int} {r : Rat} {t level : Int} (a : At C H p d r t level) (b : Bd d r) : 0 ≤ level ∧ level ≤ d * (r.den : Int) := by
  obtain ⟨s, n, B, n0, n1, s0, s1, e⟩ := a.ex
  have dp := Sw.q_cast_pos (Sw.q_den_pos r)
  have h1 : (level : Rat) / ((r.den : Int) : Rat) ≤ (d : Rat) := by
    rw [← e]; unfold Sw.lvl; rw [Rat.min_def]; grind
  have x0 : (0 : Rat) ≤ (n : Rat) / ((r.den : Int) : Rat) := by
    have h : ¬ (n : Rat) / ((r.den : Int) : Rat) < ((0 : Int) : Rat) := by rw [lt_den]; omega
    have z : ((0 : Int) : Rat) = 0 := rfl
    grind
  have y0 : (0 : Rat) ≤ r * ((t - s : Int) : Rat) := by
    refine Rat.mul_nonneg b.r0 ?_
    have : ((0 : Int) : Rat) ≤ ((t - s : Int) : Rat) := Rat.intCast_le_intCast.mpr (by omega)
    exact this
  have w0 : (0 : Rat) ≤ (d : Rat) := by
    have : ((0 : Int) : Rat) ≤ (d : Rat) := Rat.intCast_le_intCast.mpr (by have := b.d1; omega)
    exact this
  have h0 : (0 : Rat) ≤ (level : Rat) / ((r.den : Int) : Rat) := by
    rw [← e]; unfold Sw.lvl; rw [Rat.min_def]; grind
  have g0 : ¬ level < 0 * (r.den : Int) := by
    rw [← lt_den]
    have z : ((0 : Int) : Rat) = 0 := rfl
    grind
  have g1 : ¬ (d * (r.den : Int) < level) := by
    intro h
    have : (d : Rat) * ((r.den : Int) : Rat) < (level : Rat) := by rw [← Rat.intCast_mul]; exact Rat.intCast_lt_intCast.mpr h
    rw [← Rat.lt_div_iff dp] at this
    grind
  omega
theorem At.lz {C : Addr} {H : Hp} {p : Addr} {d : Int} {r : Rat} {t level : Int} (a : At C H p d r t level) (b : Bd d r) : Sw.Sz 140 level := by
  have h := a.lv b
  have d1 := b.d1
  have d2 := b.d2
  have sd : Sw.Sz 70 d := Sw.Sz.r18 (by omega) (by omega)
  exact (sd.mul b.rz.d).le (by omega)
theorem At.paid {C : Addr} {H : Hp} {p : Addr} {d : Int} {r : Rat} {t level n : Int} (B : Bk C H p d r t ((level : Rat) / ((r.den : Int) : Rat) - (n : Rat))) (lv : level ≤ d * (r.den : Int)) (h : n * (r.den : Int) ≤ level) (n0 : 0 ≤ n) (t0 : 0 ≤ t) :
    At C H p d r t (level - n * (r.den : Int)) := by
  have dn := Sw.q_cast_ne (Sw.q_den_ne r)
  have dp := Sw.q_cast_pos (Sw.q_den_pos r)
  have e1 : (level : Rat) / ((r.den : Int) : Rat) - (n : Rat) = ((level - n * (r.den : Int) : Int) : Rat) / ((r.den : Int) : Rat) := by
    rw [Rat.intCast_sub, Rat.intCast_mul]
    grind
  rw [e1] at B
  have np : 0 ≤ n * (r.den : Int) := Int.mul_nonneg n0 (Int.le_of_lt (Sw.q_den_pos r))
  refine ⟨t, _, B, by omega, by omega, t0, Int.le_refl _, ?_⟩
  have e2 : ((t - t : Int) : Rat) = 0 := by rw [Int.sub_self]; rfl
  have h1 : ¬ (d : Rat) < ((level - n * (r.den : Int) : Int) : Rat) / ((r.den : Int) : Rat) := by
    rw [Rat.lt_div_iff dp, ← Rat.intCast_mul, Rat.intCast_lt_intCast]
    omega
  unfold Sw.lvl
  rw [e2, Rat.min_def]
  generalize ((level - n * (r.den : Int) : Int) : Rat) / ((r.den : Int) : Rat) = v at h1 ⊢
  grind
theorem At.later {C : Addr} {H : Hp} {p : Addr} {d : Int} {r : Rat} {t level g : Int} (a : At C H p d r t level) (bd : Bd d r) (g0 : 0 ≤ g) :
    At C H p d r (t + g) (if level + r.num * g < d * (r.den : Int) then level + r.num * g else d * (r.den : Int)) := by
  obtain ⟨s, n, B, n0, n1, s0, s1, e⟩ := a.ex
  refine ⟨s, n, B, n0, n1, s0, by omega, ?_⟩
  have dn := Sw.q_cast_ne (Sw.q_den_ne r)
  have dp := Sw.q_cast_pos (Sw.q_den_pos r)
  have rg : (0 : Rat) ≤ r * (g : Rat) := by
    refine Rat.mul_nonneg bd.r0 ?_
    have : ((0 : Int) : Rat) ≤ (g : Rat) := Rat.intCast_le_intCast.mpr g0
    exact this
  have e2 : ((t + g - s : Int) : Rat) = ((t - s : Int) : Rat) + (g : Rat) := by
    rw [show t + g - s = (t - s) + g by omega, Rat.intCast_add]
  have e3 : ((level + r.num * g : Int) : Rat) / ((r.den : Int) : Rat) = (level : Rat) / ((r.den : Int) : Rat) + r * (g : Rat) := by
    rw [Rat.intCast_add, Rat.intCast_mul, Sw.q_num r]
    grind
  have e4 : ((d * (r.den : Int) : Int) : Rat) / ((r.den : Int) : Rat) = (d : Rat) := by
    rw [Rat.intCast_mul]
    grind
  have e5 : level + r.num * g < d * (r.den : Int) ↔ (level : Rat) / ((r.den : Int) : Rat) + r * (g : Rat) < (d : Rat) := by
    rw [← e3, lt_den]
  unfold Sw.lvl at e ⊢
  rw [e2, Rat.mul_add]
  rw [Rat.min_def] at e ⊢
  generalize hx : (n : Rat) / ((r.den : Int) : Rat) + r * ((t - s : Int) : Rat) = x at e
  have hx2 : (n : Rat) / ((r.den : Int) : Rat) + (r * ((t - s : Int) : Rat) + r * (g : Rat)) = x + r * (g : Rat) := by grind
  rw [hx2]
  by_cases hc : level + r.num * g < d * (r.den : Int)
  · rw [if_pos hc, e3]
    rw [e5] at hc
    grind
  · rw [if_neg hc, e4]
    rw [e5] at hc
    grind
theorem level_of {C : Addr} {H : Hp} {p : Addr} {d : Int} {r : Rat} {t level : Int} {Q : VK} {E : XK} (a : At C H p d r t level) (bd : Bd d r) (t1 : t < 1000000000000000000) (k : ∀ q H', Same H H' → H' q = some (.tup (fq ((level : Rat) / ((r.den : Int) : Rat)))) → Q (.ref q) H') :
    rMeth C "level" (.ref p) H (spLevel C [.ref p, .int t] H Q E) := by
  obtain ⟨s, m, B, m0, m1, s0, s1, e⟩ := a.ex
  obtain ⟨dx, fs, pr, pl, hp, fb, hr', hl⟩ := id B.ex
  refine meth_at hp (fb.no _ (by decide +kernel) (by decide +kernel) (by decide +kernel) (by decide +kernel)) ?_
  refine ⟨p, t, d, r, s, _, rfl, B, bd.bz m0 m1, (Sw.Sz.r18 (by omega) (by omega)).mono (by decide), fun q H2 sm2 hq => ?_⟩
  rw [e] at hq
  exact k q H2 sm2 hq
theorem is_at {H : Hp} {p : Addr} {r : Rat} {level : Int} {Q : VK} {E : XK} (hq : H p = some (.tup (fq ((level : Rat) / ((r.den : Int) : Rat))))) (lz : Sw.Sz 300 level) (rz : Sw.SzQ 300 r) (k : Q (.bl true) H) : spIs [.ref p, .int level, .int (r.den : Int)] H Q E :=
  ⟨p, _, level, (r.den : Int), rfl, hq, .of (Sw.q_den_ne r) rfl (lz.mono (by decide)) (rz.d.mono (by decide)), lz.mono (by decide), rz.d.mono (by decide), Sw.q_den_ne r, rfl, k⟩
theorem At.init {C : Addr} {H : Hp} {p : Addr} {d : Int} {r : Rat} {s : Int} (B : Bk C H p d r s (d : Rat)) (bd : Bd d r) (s0 : 0 ≤ s) : At C H p d r s (d * (r.den : Int)) := by
  have dn := Sw.q_cast_ne (Sw.q_den_ne r)
  have e : (d : Rat) = ((d * (r.den : Int) : Int) : Rat) / ((r.den : Int) : Rat) := by
    rw [Rat.intCast_mul]
    grind
  rw [e] at B
  have d1 := bd.d1
  refine ⟨s, _, B, Int.mul_nonneg (by omega) (Int.le_of_lt (Sw.q_den_pos r)), Int.le_refl _, s0, Int.le_refl _, ?_⟩
  rw [← e]
  unfold Sw.lvl
  rw [Int.sub_self, Rat.min_def]
  have : ((0 : Int) : Rat) = 0 := rfl
  rw [this]
  grind
theorem lvl_full {d : Int} {r : Rat} {s t : Int} (bd : Bd d r) (h : s ≤ t) : Sw.lvl d r s (d : Rat) t = (d : Rat) := by
  have y0 : (0 : Rat) ≤ r * ((t - s : Int) : Rat) := by
    refine Rat.mul_nonneg bd.r0 ?_
    have : ((0 : Int) : Rat) ≤ ((t - s : Int) : Rat) := Rat.intCast_le_intCast.mpr (by omega)
    exact this
  unfold Sw.lvl
  rw [Rat.min_def]
  grind
theorem fq_deep {K : PySem.W.Frag} {H : Hp} {p : Addr} {q : Rat} (h : H p = some (.tup (fq q))) : Deep K H (.ref p) (.tuple [.int q.num, .int (q.den : Int)]) := .tup (.of h) (.cons (.int _) (.cons (.int _) .nil))
theorem At.ins {C : Addr} {H : Hp} {p : Addr} {d : Int} {r : Rat} {t level : Int} (a : At C H p d r t level) : ∃ dx fs pr s pl, H p = some (.ins C dx fs) ∧ FB fs d pr s pl ∧ H pr = some (.tup (fq r)) := by
  obtain ⟨s, n, B, _⟩ := a.ex
  obtain ⟨dx, fs, pr, pl, h1, h2, h3, h4⟩ := B.ex
  exact ⟨dx, fs, pr, s, pl, h1, h2, h3⟩
theorem holds_of {C : Addr} {H : Hp} {p : Addr} {d : Int} {r : Rat} {t level n : Int} {Q : VK} {E : XK} (a : At C H p d r t level) (bd : Bd d r) (t1 : t < 1000000000000000000) (n0 : 0 ≤ n) (n1 : n < 1000000000000000000) (k : ∀ H', Same H H' → Q (.bl (decide (n * (r.den : Int) ≤ level))) H') :
    rMeth C "holds" (.ref p) H (spHolds C [.ref p, .int t, .int n] H Q E) := by
  obtain ⟨s, m, B, m0, m1, s0, s1, e⟩ := a.ex
  obtain ⟨dx, fs, pr, pl, hp, fb, hr', hl⟩ := id B.ex
  refine meth_at hp (fb.no _ (by decide +kernel) (by decide +kernel) (by decide +kernel) (by decide +kernel)) ?_
  refine ⟨p, t, n, d, r, s, _, rfl, B, bd.bz m0 m1, (Sw.Sz.r18 (by omega) (by omega)).mono (by decide), (Sw.Sz.r18 (by omega) (by omega)).mono (by decide), fun H3 sm3 => ?_⟩
  rw [e]
  have eb : (!decide ((level : Rat) / ((r.den : Int) : Rat) < (n : Rat))) = decide (n * (r.den : Int) ≤ level) := by
    rw [decide_eq_decide.mpr lt_den, ← decide_not]
    exact decide_eq_decide.mpr (by omega)
  rw [eb]
  exact k H3 sm3
theorem pay_of {cS C : Addr} {H : Hp} {p : Addr} {d : Int} {r : Rat} {t level n : Int} {Q : VK} {E : XK} (a : At C H p d r t level) (bd : Bd d r) (t0 : 0 ≤ t) (t1 : t < 1000000000000000000) (n0 : 0 ≤ n) (n1 : n < 1000000000000000000)
    (k : n * (r.den : Int) ≤ level → ∀ H', But p H H' → At C H' p d r t (level - n * (r.den : Int)) → Q .non H')
    (kx : ¬ n * (r.den : Int) ≤ level → ∀ e x pm H', Same H H' → H' e = some (excO e cS (some x) false) → H' x = some (xdO x [("missing", .ref pm)]) → H' pm = some (.tup (fq (((n * (r.den : Int) - level : Int) : Rat) / ((r.den : Int) : Rat)))) → E (.ref e) (some x) H') :
    rMeth C "pay" (.ref p) H (spPay cS C [.ref p, .int t, .int n] H Q E) := by
  have lv := a.lv bd
  obtain ⟨s, m, B, m0, m1, s0, s1, e⟩ := a.ex
  obtain ⟨dx, fs, pr, pl, hp, fb, hr', hl⟩ := id B.ex
  refine meth_at hp (fb.no _ (by decide +kernel) (by decide +kernel) (by decide +kernel) (by decide +kernel)) ?_
  refine ⟨p, t, n, d, r, s, _, rfl, B, bd.bz m0 m1, (Sw.Sz.r18 (by omega) (by omega)).mono (by decide), (Sw.Sz.r18 (by omega) (by omega)).mono (by decide), ?_, ?_⟩
  · intro h H1 bt B1
    rw [e] at h B1
    have h' : n * (r.den : Int) ≤ level := by
      have : ¬ (level : Rat) / ((r.den : Int) : Rat) < (n : Rat) := by grind
      rw [lt_den] at this
      omega
    exact k h' H1 bt (At.paid B1 lv.2 h' n0 t0)
  · intro h e1 x pm H1 sm he hx hm
    rw [e] at h hm
    have e2 : (n : Rat) - (level : Rat) / ((r.den : Int) : Rat) = ((n * (r.den : Int) - level : Int) : Rat) / ((r.den : Int) : Rat) := by
      have dn := Sw.q_cast_ne (Sw.q_den_ne r)
      rw [Rat.intCast_sub, Rat.intCast_mul]
      grind
    rw [e2] at hm
    exact kx (by rw [lt_den] at h; omega) e1 x pm H1 sm he hx hm
end L2
namespace L2
open PySem PySem.Spec PyProof.Rows

/-! ### lists of pairs as tables -/
section
variable {κ : Type} [DecidableEq κ]
def valV (kvs : List (κ × V)) (k : κ) : Option V := (kvs.find? fun kv => decide (kv.1 = k)).map (·.2)
/-- in its place, or at the end -/
def putK (kvs : List (κ × V)) (k : κ) (v : V) : List (κ × V) :=
  if (kvs.any fun kv => decide (kv.1 = k)) = true then kvs.map (fun kv => if kv.1 = k then (kv.1, v) else kv) else kvs ++ [(k, v)]
def dropK (kvs : List (κ × V)) (k : κ) : List (κ × V) := kvs.filter fun kv => decide (kv.1 ≠ k)

theorem valV_nil {k : κ} : valV ([] : List (κ × V)) k = none := rfl
theorem valV_pos {p : κ × V} {r : List (κ × V)} {k : κ} (e : p.1 = k) : valV (p :: r) k = some p.2 := by simp [valV, List.find?_cons, e]
theorem valV_neg {p : κ × V} {r : List (κ × V)} {k : κ} (e : ¬ p.1 = k) : valV (p :: r) k = valV r k := by simp [valV, List.find?_cons, e]
theorem valV_any (k : κ) : ∀ kvs : List (κ × V), (kvs.any fun kv => decide (kv.1 = k)) = (valV kvs k).isSome
  | [] => rfl
  | p :: r => by
    rw [List.any_cons]
    by_cases e : p.1 = k
    · simp only [valV_pos e, decide_eq_true e, Bool.true_or, Option.isSome_some]
    · rw [valV_neg e, decide_eq_false e, Bool.false_or]; exact valV_any k r
theorem valV_map (k j : κ) (y : V) : ∀ kvs : List (κ × V), valV (kvs.map fun kv => if kv.1 = k then (kv.1, y) else kv) j = (valV kvs j).map fun x => if j = k then y else x
  | [] => rfl
  | p :: r => by
    have ih := valV_map k j y r
    rw [List.map_cons]
    by_cases h : p.1 = k
    · rw [if_pos h]
      by_cases e : p.1 = j
      · rw [valV_pos (p := (p.1, y)) e, valV_pos e, Option.map_some, if_pos (e.symm.trans h)]
      · rw [valV_neg (p := (p.1, y)) e, valV_neg e, ih]
    · rw [if_neg h]
      by_cases e : p.1 = j
      · rw [valV_pos (p := p) e, valV_pos e, Option.map_some, if_neg (fun z => h (e.trans z))]
      · rw [valV_neg (p := p) e, valV_neg e, ih]
theorem valV_snoc (k j : κ) (y : V) : ∀ kvs : List (κ × V), valV kvs k = none → valV (kvs ++ [(k, y)]) j = if j = k then some y else valV kvs j
  | [], _ => by
    by_cases e : k = j
    · rw [if_pos e.symm]; exact valV_pos (p := (k, y)) e
    · rw [if_neg (fun z => e z.symm)]; exact valV_neg (p := (k, y)) e
  | p :: r, hn => by
    rw [List.cons_append]
    have hk : ¬ p.1 = k := fun z => by rw [valV_pos z] at hn; cases hn
    rw [valV_neg hk] at hn
    have ih := valV_snoc k j y r hn
    by_cases e : p.1 = j
    · rw [valV_pos e, valV_pos e, if_neg (fun z => hk (e.trans z))]
    · rw [valV_neg e, valV_neg e, ih]
theorem valV_put (kvs : List (κ × V)) (k j : κ) (y : V) : valV (putK kvs k y) j = if j = k then some y else valV kvs j := by
  unfold putK
  by_cases a : (kvs.any fun kv => decide (kv.1 = k)) = true
  · rw [if_pos a, valV_map]
    rw [valV_any] at a
    by_cases e : j = k
    · obtain ⟨x, hx⟩ := Option.isSome_iff_exists.mp a
      rw [if_pos e, e, hx, Option.map_some, if_pos rfl]
    · rw [if_neg e]
      cases valV kvs j with
      | none => rfl
      | some x => rw [Option.map_some, if_neg e]
  · rw [if_neg a]
    refine valV_snoc k j y kvs ?_
    rw [valV_any] at a
    cases q : valV kvs k with
    | none => rfl
    | some x => rw [q] at a; exact (a rfl).elim
theorem length_putK (kvs : List (κ × V)) (k : κ) (v : V) : (putK kvs k v).length ≤ kvs.length + 1 := by
  unfold putK
  split
  · rw [List.length_map]; omega
  · rw [List.length_append, List.length_cons, List.length_nil]; omega
theorem putK_new {kvs : List (κ × V)} {k : κ} (v : V) (h : valV kvs k = none) : putK kvs k v = kvs ++ [(k, v)] := by
  unfold putK
  rw [valV_any, h]
  exact if_neg (by decide)

theorem RelO.isSome_eq {o : Option V} {u : Option Value} (r : RelO o u) : o.isSome = u.isSome := by
  cases o with
  | none => cases u with
    | none => rfl
    | some _ => exact (show False from r).elim
  | some _ => cases u with
    | none => exact (show False from r).elim
    | some _ => rfl
theorem RelO.getD {o : Option V} {u : Option Value} {d : V} {d' : Value} (r : RelO o u) (rd : RelV d d') : RelV (o.getD d) (u.getD d') := by
  cases o with
  | none => cases u with
    | none => exact rd
    | some _ => exact (show False from r).elim
  | some _ => cases u with
    | none => exact (show False from r).elim
    | some _ => exact r

/-- raw tables of the same keys -/
theorem KV.val {kvs : List (κ × V)} {vs : List (κ × Value)} (r : KV kvs vs) (k : κ) : RelO (valV kvs k) (valueAt vs k) := by
  unfold KV at r
  induction r with
  | nil => exact True.intro
  | @cons p q ps qs h t ih =>
    obtain ⟨h1, h2⟩ := h
    by_cases e : p.1 = k
    · have e' : q.1 = k := h1.symm.trans e
      have b : valueAt (q :: qs) k = some q.2 := by simp [valueAt, List.find?_cons, e']
      rw [valV_pos e, b]; exact h2
    · have e' : ¬ q.1 = k := fun z => e (h1.trans z)
      have b : valueAt (q :: qs) k = valueAt qs k := by simp [valueAt, List.find?_cons, e']
      rw [valV_neg e, b]; exact ih
theorem KV.any {kvs : List (κ × V)} {vs : List (κ × Value)} (r : KV kvs vs) (k : κ) : (kvs.any fun kv => decide (kv.1 = k)) = vs.any fun kv => decide (kv.1 = k) := by
  unfold KV at r
  induction r with
  | nil => rfl
  | cons h t ih => rw [List.any_cons, List.any_cons, ih, h.1]
theorem KV.repl {kvs : List (κ × V)} {vs : List (κ × Value)} (r : KV kvs vs) (k : κ) {y : V} {u : Value} (ry : RelV y u) :
    KV (kvs.map fun kv => if kv.1 = k then (kv.1, y) else kv) (vs.map fun kv => if kv.1 = k then (kv.1, u) else kv) := by
  unfold KV at r ⊢
  induction r with
  | nil => exact .nil
  | @cons p q ps qs h t ih =>
    rw [List.map_cons, List.map_cons]
    refine .cons ?_ ih
    obtain ⟨h1, h2⟩ := h
    by_cases e : p.1 = k
    · rw [if_pos e, if_pos (h1.symm.trans e)]; exact ⟨h1, ry⟩
    · rw [if_neg e, if_neg (fun z => e (h1.trans z))]; exact ⟨h1, h2⟩
theorem KV.put {kvs : List (κ × V)} {vs : List (κ × Value)} (r : KV kvs vs) (k : κ) {y : V} {u : Value} (ry : RelV y u) : KV (putK kvs k y) (stored vs k u) := by
  unfold putK stored
  rw [r.any k]
  by_cases e : (vs.any fun kv => decide (kv.1 = k)) = true
  · rw [if_pos e, if_pos e]; exact r.repl k ry
  · rw [if_neg e, if_neg e]; exact Paired.snoc r ⟨rfl, ry⟩
theorem KV.drop {kvs : List (κ × V)} {vs : List (κ × Value)} (r : KV kvs vs) (k : κ) : KV (dropK kvs k) (without vs k) := by
  unfold KV at r ⊢
  unfold dropK without
  induction r with
  | nil => exact .nil
  | @cons p q ps qs h t ih =>
    obtain ⟨h1, h2⟩ := h
    rw [List.filter_cons, List.filter_cons]
    by_cases e : p.1 = k
    · have a : ¬ decide (p.1 ≠ k) = true := by simp [e]
      have b : ¬ decide (q.1 ≠ k) = true := by simp [h1.symm.trans e]
      rw [if_neg a, if_neg b]; exact ih
    · have e' : ¬ q.1 = k := fun z => e (h1.trans z)
      have a : decide (p.1 ≠ k) = true := by simp [e]
      have b : decide (q.1 ≠ k) = true := by simp [e']
      rw [if_pos a, if_pos b]; exact .cons ⟨h1, h2⟩ ih
theorem KV.keys {kvs : List (κ × V)} {vs : List (κ × Value)} (r : KV kvs vs) : kvs.map (·.1) = vs.map (·.1) := by
  unfold KV at r
  induction r with
  | nil => rfl
  | cons h t ih => rw [List.map_cons, List.map_cons, ih, h.1]
theorem KV.length {kvs : List (κ × V)} {vs : List (κ × Value)} (r : KV kvs vs) : kvs.length = vs.length := Paired.length r
theorem dropK_le (kvs : List (κ × V)) (k : κ) : (dropK kvs k).length ≤ kvs.length := List.length_filter_le _ _
end


/-! ### a tracked dict, its keys ints and texts or tuples of these -/
theorem kV_is {P : Program} {w : World} {k : Key} {u : Value} (r : RelV (kV k) u) : (mixKind P w).is k u = true := by
  cases k with
  | inl i => obtain ⟨t, e⟩ := (show ∃ t, u = Value.int i t from r); subst e; exact mixKind_int P w i t
  | inr x => obtain ⟨t, e⟩ := (show ∃ t, u = Value.str x t from r); subst e; exact mixKind_str P w x t
theorem kV_inj {a b : Key} (e : kV a = kV b) : a = b := by
  cases a with
  | inl i => cases b with
    | inl j => have e' : V.int i = V.int j := e; injection e' with e'; rw [e']
    | inr y => exact nomatch (show V.int i = V.str y from e)
  | inr x => cases b with
    | inl j => exact nomatch (show V.str x = V.int j from e)
    | inr y => have e' : V.str x = V.str y := e; injection e' with e'; rw [e']
theorem kVs_inj : ∀ {a b : List Key}, a.map kV = b.map kV → a = b
  | [], [], _ => rfl
  | [], _ :: _, e => by simp at e
  | _ :: _, [], e => by simp at e
  | x :: xs, y :: ys, e => by
    rw [List.map_cons, List.map_cons] at e
    injection e with e1 e2
    rw [kV_inj e1, kVs_inj e2]
theorem items_are {P : Program} {w : World} : ∀ {ks : List Key} {us : List Value}, Vals (ks.map kV) us → ItemsAre (mixKind P w) ks us
  | [], _, r => by rw [List.map_nil] at r; cases r; exact .nil
  | k :: ks, _, r => by
    rw [List.map_cons] at r
    cases r with
    | cons h t => exact .cons (kV_is h) (items_are t)

/-- raw entries of a dict with tuple keys -/
abbrev KT (H : Hp) : List (List Key × V) → List (List Key × Addr × Value) → Prop := Paired fun p q => p.1 = q.1 ∧ H q.2.1 = some (.tup (p.1.map kV)) ∧ RelV p.2 q.2.2
theorem KT.val {H : Hp} {kvs : List (List Key × V)} {xs : List (List Key × Addr × Value)} (r : KT H kvs xs) (k : List Key) : RelO (valV kvs k) ((atKey xs k).map (·.2)) := by
  induction r with
  | nil => exact True.intro
  | @cons p q ps qs h t ih =>
    obtain ⟨h1, _, h2⟩ := h
    by_cases e : p.1 = k
    · have e' : q.1 = k := h1.symm.trans e
      have b : atKey (q :: qs) k = some q.2 := by simp [atKey, List.find?_cons, e']
      rw [valV_pos e, b]; exact h2
    · have e' : ¬ q.1 = k := fun z => e (h1.trans z)
      have b : atKey (q :: qs) k = atKey qs k := by simp [atKey, List.find?_cons, e']
      rw [valV_neg e, b]; exact ih
theorem KT.repl {H : Hp} {kvs : List (List Key × V)} {xs : List (List Key × Addr × Value)} (r : KT H kvs xs) (k : List Key) {y : V} {u : Value} (ry : RelV y u) :
    KT H (kvs.map fun kv => if kv.1 = k then (kv.1, y) else kv) (xs.map (putAt k u)) := by
  induction r with
  | nil => exact .nil
  | @cons p q ps qs h t ih =>
    rw [List.map_cons, List.map_cons]
    refine .cons ?_ ih
    obtain ⟨h1, h2, h3⟩ := h
    unfold putAt
    by_cases e : p.1 = k
    · rw [if_pos e, if_pos (h1.symm.trans e)]; exact ⟨h1, h2, ry⟩
    · rw [if_neg e, if_neg (fun z => e (h1.trans z))]; exact ⟨h1, h2, h3⟩
theorem KT.put {H : Hp} {kvs : List (List Key × V)} {xs : List (List Key × Addr × Value)} (r : KT H kvs xs) (k : List Key) {b : Addr} {y : V} {u : Value} (hb : H b = some (.tup (k.map kV))) (ry : RelV y u) :
    KT H (putK kvs k y) (storedH xs k b u) := by
  have e : (kvs.any fun kv => decide (kv.1 = k)) = (atKey xs k).isSome := by
    rw [valV_any, (r.val k).isSome_eq, Option.isSome_map]
  unfold putK storedH
  rw [e]
  by_cases q : (atKey xs k).isSome = true
  · rw [if_pos q, if_pos q]; exact r.repl k ry
  · rw [if_neg q, if_neg q]; exact Paired.snoc r ⟨rfl, hb, ry⟩
theorem KT.keeps {H H' : Hp} {kvs : List (List Key × V)} {xs : List (List Key × Addr × Value)} (r : KT H kvs xs) (ht : ∀ b ys, H b = some (.tup ys) → H' b = some (.tup ys)) : KT H' kvs xs :=
  Paired.mapP r fun _ _ z => ⟨z.1, ht _ _ z.2.1, z.2.2⟩

section
variable {P : Program} {w : World} {H : Hp} {h : Heap} {a : Addr}
theorem rd_of {u : HO} (ok : HOk P w H h) (e : Rd H a u) : ObjOk P w H h a u := e.ok ok
theorem dk_rd {kvs : List (Key × V)} (ok : HOk P w H h) (e : Rd H a (.dK kvs)) : kvs.length ≤ sizeLine ∧ (a == sysModules) = false ∧ ∃ vs, KV kvs vs ∧ h.DictOf (mixKind P w) a vs :=
  show ObjOk P w H h a (.dK kvs) from rd_of ok e
theorem dk_of {kvs : List (Key × V)} (ok : HOk P w H h) (e : H a = some (.dK kvs)) : kvs.length ≤ sizeLine ∧ (a == sysModules) = false ∧ ∃ vs, KV kvs vs ∧ h.DictOf (mixKind P w) a vs := dk_rd ok (.inl e)
/-- a tracked tuple of ints and texts is a key -/
theorem key_of {ks : List Key} (ok : HOk P w H h) (e : H a = some (.tup (ks.map kV))) : (tupleKind (mixKind P w)).is h ks a := by
  obtain ⟨_, its, r, o, h1, h2, n, h3⟩ := (show ObjOk P w H h a (.tup (ks.map kV)) from ok a _ e)
  exact ⟨o, its.toArray, n, h1, h2, h3, by simpa using items_are r⟩
theorem dt_rd {kvs : List (List Key × V)} (ok : HOk P w H h) (e : Rd H a (.dT kvs)) : kvs.length ≤ sizeLine ∧ (a == sysModules) = false ∧
    ∃ xs, KT H kvs xs ∧ h.DictOfH (tupleKind (mixKind P w)) a xs := by
  obtain ⟨z, y, xs, r, o, es, ep, h1, h2, h3, h4, h5⟩ := (show ObjOk P w H h a (.dT kvs) from rd_of ok e)
  refine ⟨z, y, xs, r, o, es, ep, h1, h2, h3, h4, fun x hx => ?_, h5⟩
  have all : ∀ {l : List (List Key × V)} {m : List (List Key × Addr × Value)}, KT H l m → ∀ x ∈ m, (tupleKind (mixKind P w)).is h x.1 x.2.1 := by
    intro l m q
    induction q with
    | nil => intro x hx; exact nomatch hx
    | @cons p q ps qs hq t ih =>
      intro x hx
      rcases List.mem_cons.mp hx with e | hx
      · subst e
        exact key_of ok (by rw [← hq.1]; exact hq.2.1)
      · exact ih x hx
  exact all r x hx
theorem dt_of {kvs : List (List Key × V)} (ok : HOk P w H h) (e : H a = some (.dT kvs)) : kvs.length ≤ sizeLine ∧ (a == sysModules) = false ∧
    ∃ xs, KT H kvs xs ∧ h.DictOfH (tupleKind (mixKind P w)) a xs := dt_rd ok (.inl e)
end

/-- what the dict at a holds at the key y -/
def DGet (H : Hp) (a : Addr) (y : V) (r : Option V) : Prop :=
  (∃ kvs k, Rd H a (.dK kvs) ∧ y = kV k ∧ r = valV kvs k) ∨ ∃ kvs k b, Rd H a (.dT kvs) ∧ y = .ref b ∧ H b = some (.tup (k.map kV)) ∧ r = valV kvs k
/-- the heap behind a[y] = v -/
def DPut (H : Hp) (a : Addr) (y v : V) (H' : Hp) : Prop :=
  (∃ kvs k, H a = some (.dK kvs) ∧ y = kV k ∧ kvs.length < sizeLine ∧ H' = upd H a (.dK (putK kvs k v))) ∨
  ∃ kvs k b, H a = some (.dT kvs) ∧ y = .ref b ∧ H b = some (.tup (k.map kV)) ∧ kvs.length < sizeLine ∧ H' = upd H a (.dT (putK kvs k v))
theorem DGet.k {H : Hp} {a : Addr} {kvs : List (Key × V)} {k : Key} (e : H a = some (.dK kvs)) : DGet H a (kV k) (valV kvs k) := .inl ⟨kvs, k, .inl e, rfl, rfl⟩
theorem DGet.t {H : Hp} {a b : Addr} {kvs : List (List Key × V)} {k : List Key} (e : H a = some (.dT kvs)) (eb : H b = some (.tup (k.map kV))) : DGet H a (.ref b) (valV kvs k) := .inr ⟨kvs, k, b, .inl e, rfl, eb, rfl⟩
theorem DPut.k {H : Hp} {a : Addr} {kvs : List (Key × V)} {k : Key} {v : V} (e : H a = some (.dK kvs)) (hl : kvs.length < sizeLine) : DPut H a (kV k) v (upd H a (.dK (putK kvs k v))) := .inl ⟨kvs, k, e, rfl, hl, rfl⟩
theorem DPut.t {H : Hp} {a b : Addr} {kvs : List (List Key × V)} {k : List Key} {v : V} (e : H a = some (.dT kvs)) (eb : H b = some (.tup (k.map kV))) (hl : kvs.length < sizeLine) :
    DPut H a (.ref b) v (upd H a (.dT (putK kvs k v))) := .inr ⟨kvs, k, b, e, rfl, eb, hl, rfl⟩


section
variable {X : Cx} {pins : List (Addr × Obj)} {σ : St} {H : Hp} {s : Shared} {a : Addr} {y v : V} {u r : Value} {o : Option V} {A : Around} {E : Value → Shared → Prop}

theorem Inv.big (I : Inv X pins σ H s) : sysModules < s.heap.objs.size := by
  have h : mainGlobals < s.heap.objs.size := (I.mod.glob.keeps I.bk).lt
  exact Nat.lt_trans (by decide) h

/-- d[y], there -/
theorem d_getItem {Q : Value → Shared → Prop} (hu : A.units + 1 < cLine) (I : Inv X pins σ H s) (g : DGet H a y (some v)) (ry : RelV y u) (h : ∀ w' s', Inv X pins σ H s' → RelV v w' → Q w' s') :
    wpAny (model X.prog X.w) A (getItem (.ref a) u) Q E s := by
  rcases g with ⟨kvs, k, e, ey, l⟩ | ⟨kvs, k, b, e, ey, eb, l⟩
  · subst ey
    obtain ⟨z, hd, vs, rel, dd⟩ := dk_rd I.hok e
    obtain ⟨w', hw, rw'⟩ := RelO.some_of (v := v) (o := valueAt vs k) (by rw [l]; exact rel.val k)
    exact wpAny_getItem_of (kV_is ry) dd.mapOf hw (h w' _ (I.tok _) rw')
  · subst ey
    cases (show u = Value.ref b from ry)
    obtain ⟨z, hd, xs, rel, dd⟩ := dt_rd I.hok e
    obtain ⟨w', hw, rw'⟩ := RelO.some_of (v := v) (o := (atKey xs k).map (·.2)) (by rw [l]; exact rel.val k)
    obtain ⟨p, hp, hp2⟩ := Option.map_eq_some_iff.mp hw
    refine wpAny_getItem_heap (tupleKind_room_in1 hu) (key_of I.hok eb) dd hp ?_
    rw [hp2]
    exact h w' _ (I.tok _) rw'
/-- y in d -/
theorem d_in {Q : Value → Shared → Prop} (hu : A.units + 1 < cLine) (I : Inv X pins σ H s) (g : DGet H a y o) (ry : RelV y u) (h : ∀ s', Inv X pins σ H s' → Q (.bool o.isSome) s') :
    wpAny (model X.prog X.w) A (compareOp .In u (.ref a)) Q E s := by
  rcases g with ⟨kvs, k, e, ey, l⟩ | ⟨kvs, k, b, e, ey, eb, l⟩
  · subst ey
    obtain ⟨z, hd, vs, rel, dd⟩ := dk_rd I.hok e
    refine wpAny_in_of (kV_is ry) hd dd.mapOf ?_
    rw [← (rel.val k).isSome_eq, ← l]
    exact h _ (I.tok _)
  · subst ey
    cases (show u = Value.ref b from ry)
    obtain ⟨z, hd, xs, rel, dd⟩ := dt_rd I.hok e
    refine wpAny_in_heap (tupleKind_room_in1 hu) (key_of I.hok eb) hd dd ?_
    have q := (rel.val k).isSome_eq
    rw [Option.isSome_map] at q
    rw [← q, ← l]
    exact h _ (I.tok _)
theorem d_notIn {Q : Value → Shared → Prop} (hu : A.units + 1 < cLine) (I : Inv X pins σ H s) (g : DGet H a y o) (ry : RelV y u) (h : ∀ s', Inv X pins σ H s' → Q (.bool (!o.isSome)) s') :
    wpAny (model X.prog X.w) A (compareOp .NotIn u (.ref a)) Q E s := by
  rcases g with ⟨kvs, k, e, ey, l⟩ | ⟨kvs, k, b, e, ey, eb, l⟩
  · subst ey
    obtain ⟨z, hd, vs, rel, dd⟩ := dk_rd I.hok e
    refine wpAny_notIn_of (kV_is ry) hd dd.mapOf ?_
    rw [← (rel.val k).isSome_eq, ← l]
    exact h _ (I.tok _)
  · subst ey
    cases (show u = Value.ref b from ry)
    obtain ⟨z, hd, xs, rel, dd⟩ := dt_rd I.hok e
    refine wpAny_notIn_heap (tupleKind_room_in1 hu) (key_of I.hok eb) hd dd ?_
    have q := (rel.val k).isSome_eq
    rw [Option.isSome_map] at q
    rw [← q, ← l]
    exact h _ (I.tok _)
/-- a dict's object is replaced -/
theorem d_write {h' : Heap} {t' : Nat} {ob : HO} (I : Inv X pins σ H s) (mu : Mut (H a)) (hs : Heap.SameBut a s.heap h') (he : ∃ q, h'.get? a = some q) (new : ObjOk X.prog X.w (upd H a ob) h' a ob) :
    Inv X pins σ (upd H a ob) { s with heap := h', toks := t' } :=
  I.write (x := a) (e := a) mu (.inl rfl) (fun b q hb z => (hs.2 b hb).trans z) he new
theorem dk_new {P : Program} {w : World} {H' : Hp} {h' : Heap} {kvs : List (Key × V)} {vs : List (Key × Value)} (z : kvs.length ≤ sizeLine) (hd : (a == sysModules) = false) (rel : KV kvs vs) (dd : h'.DictOf (mixKind P w) a vs) :
    ObjOk P w H' h' a (.dK kvs) := ⟨z, hd, vs, rel, dd⟩
/-- d[y] = v -/
theorem d_setItem {H' : Hp} {Q : Unit → Shared → Prop} (hu : A.units + 1 < cLine) (I : Inv X pins σ H s) (g : DPut H a y v H') (ry : RelV y u) (rv : RelV v r) (h : ∀ s', Inv X pins σ H' s' → Q () s') :
    wpAny (model X.prog X.w) A (setItem (.ref a) u r) Q E s := by
  rcases g with ⟨kvs, k, e, ey, l, eH⟩ | ⟨kvs, k, b, e, ey, eb, l, eH⟩
  · subst ey eH
    obtain ⟨z, hd, vs, rel, dd⟩ := dk_of I.hok e
    have hz : vs.length ≤ sizeLine := by rw [← rel.length]; exact z
    have hl : (putK kvs k v).length ≤ sizeLine := by have := length_putK kvs k v; omega
    refine wpAny_setItem_pairs (hsz := hz) (kV_is ry) dd fun h' dd' hs => h _ ?_
    have he : ∃ q, h'.get? a = some q := let ⟨q, _, _, hq, _⟩ := dd'; ⟨q, hq⟩
    exact d_write I (by rw [e]; exact True.intro) hs he (dk_new hl hd (rel.put k rv) dd')
  · subst ey eH
    cases (show u = Value.ref b from ry)
    obtain ⟨z, hd, xs, rel, dd⟩ := dt_of I.hok e
    have hz : xs.length ≤ sizeLine := by rw [← Paired.length rel]; exact z
    have hl : (putK kvs k v).length ≤ sizeLine := by have := length_putK kvs k v; omega
    refine wpAny_setItem_heap (hsz := hz) (tupleKind_room_in1 hu) (key_of I.hok eb) dd fun h' dd' hs => h _ ?_
    obtain ⟨q, es, ep, hq, h2, h3, h4, _, h5⟩ := dd'
    refine d_write I (by rw [e]; exact True.intro) hs ⟨q, hq⟩ ⟨hl, hd, _, (rel.put k eb rv).keeps fun c ys ec => ?_, q, es, ep, hq, h2, h3, h4, h5⟩
    rw [upd_ne (ne_of ec e (fun z => nomatch z))]
    exact ec
end

section
variable {X : Cx} {pins : List (Addr × Obj)} {σ : St} {H : Hp} {s : Shared} {a : Addr} {kvs : List (Key × V)} {k : Key} {u : Value} {A : Around} {E : Value → Shared → Prop}
/-- del d[k] -/
theorem d_delItem {Q : Unit → Shared → Prop} (I : Inv X pins σ H s) (e : H a = some (.dK kvs)) (ry : RelV (kV k) u) (l : (valV kvs k).isSome = true) (h : ∀ s', Inv X pins σ (upd H a (.dK (dropK kvs k))) s' → Q () s') :
    wpAny (model X.prog X.w) A (delItem (.ref a) u) Q E s := by
  obtain ⟨z, hd, vs, rel, dd⟩ := dk_of I.hok e
  refine wpAny_delItem_slot dd.typeIs (by decide) PySem.F.slot_dict_delitem
    (call_meetsIn PySem.F.slot_dict_delitem dd.typeIs PySem.F.entry_dict_delitem (PySem.F.args_dict_delitem_2 _ _) (meets_dict_delitem_pairs (mixKind X.prog X.w) a (kV_is ry)) ⟨vs, dd, by rw [← rel.length]; exact z, by rw [← (rel.val k).isSome_eq]; exact l, fun h' dd' hs => h _ ?_⟩)
  have he : ∃ q, h'.get? a = some q := let ⟨q, _, _, hq, _⟩ := dd'; ⟨q, hq⟩
  exact d_write I (by rw [e]; exact True.intro) hs he (dk_new (Nat.le_trans (dropK_le kvs k) z) hd (rel.drop k) dd')
/-- d.pop(k[, x]), there -/
theorem d_pop {v : V} {more : List Value} {Q : Value → Shared → Prop} (I : Inv X pins σ H s) (e : H a = some (.dK kvs)) (ry : RelV (kV k) u) (l : valV kvs k = some v) (hm : more = [] ∨ ∃ x, more = [x])
    (h : ∀ w' s', Inv X pins σ (upd H a (.dK (dropK kvs k))) s' → RelV v w' → Q w' s') : wpAny (model X.prog X.w) A (call (.builtin "dict.pop") (.ref a :: u :: more)) Q E s := by
  obtain ⟨z, hd, vs, rel, dd⟩ := dk_of I.hok e
  obtain ⟨w', hw, rw'⟩ := RelO.some_of (v := v) (o := valueAt vs k) (by rw [← l]; exact rel.val k)
  have hp : (keyPart u).isSome = true := by
    cases k with
    | inl i => obtain ⟨t, q⟩ := (show ∃ t, u = Value.int i t from ry); subst q; rfl
    | inr x => obtain ⟨t, q⟩ := (show ∃ t, u = Value.str x t from ry); subst q; rfl
  have ha : argsOk "dict.pop" ⟨.ref a :: u :: more, []⟩ := by
    rcases hm with q | ⟨x, q⟩
    · subst q; exact PySem.F.args_dict_pop_2 _ _
    · subst q; exact PySem.F.args_dict_pop_3 _ _ _
  refine call_meetsIn PySem.F.slot_dict_pop dd.typeIs PySem.F.entry_dict_pop ha (meets_dict_pop_there (mixKind X.prog X.w) a (kV_is ry) more hm hp)
    ⟨vs, w', dd, by rw [← rel.length]; exact z, hw, fun h' dd' hs => h w' _ ?_ rw'⟩
  have he : ∃ q, h'.get? a = some q := let ⟨q, _, _, hq, _⟩ := dd'; ⟨q, hq⟩
  exact d_write I (by rw [e]; exact True.intro) hs he (dk_new (Nat.le_trans (dropK_le kvs k) z) hd (rel.drop k) dd')
/-- d.pop(k, x), not there -/
theorem d_popD {r : Value} {Q : Value → Shared → Prop} (I : Inv X pins σ H s) (e : H a = some (.dK kvs)) (ry : RelV (kV k) u) (l : valV kvs k = none) (h : ∀ s', Inv X pins σ H s' → Q r s') :
    wpAny (model X.prog X.w) A (call (.builtin "dict.pop") [.ref a, u, r]) Q E s := by
  obtain ⟨z, hd, vs, rel, dd⟩ := dk_of I.hok e
  have hn : valueAt vs k = none := RelO.none_of (by rw [← l]; exact rel.val k)
  have hp : (keyPart u).isSome = true := by
    cases k with
    | inl i => obtain ⟨t, q⟩ := (show ∃ t, u = Value.int i t from ry); subst q; rfl
    | inr x => obtain ⟨t, q⟩ := (show ∃ t, u = Value.str x t from ry); subst q; rfl
  exact call_meetsIn PySem.F.slot_dict_pop dd.typeIs PySem.F.entry_dict_pop (PySem.F.args_dict_pop_3 _ _ _) (meets_dict_pop_default (mixKind X.prog X.w) a (kV_is ry) hd hp r) ⟨vs, dd, hn, h _ (I.tok _)⟩
/-- d.clear() -/
theorem d_clear {Q : Value → Shared → Prop} (I : Inv X pins σ H s) (e : H a = some (.dK kvs)) (h : ∀ s', Inv X pins σ (upd H a (.dK [])) s' → Q .none s') : wpAny (model X.prog X.w) A (call (.builtin "dict.clear") [.ref a]) Q E s := by
  obtain ⟨z, hd, vs, rel, dd⟩ := dk_of I.hok e
  refine call_meetsIn PySem.F.slot_dict_clear dd.typeIs PySem.F.entry_dict_clear (PySem.F.args_dict_clear_1 _) (meets_dict_clear (mixKind X.prog X.w) a) ⟨vs, dd, by rw [← rel.length]; exact z, fun h' dd' hs => h _ ?_⟩
  have he : ∃ q, h'.get? a = some q := let ⟨q, _, _, hq, _⟩ := dd'; ⟨q, hq⟩
  exact d_write (t' := s.toks) I (by rw [e]; exact True.intro) hs he (dk_new (Nat.zero_le _) hd .nil dd')
/-- len(d) -/
theorem d_len {Q : Value → Shared → Prop} (I : Inv X pins σ H s) (e : Rd H a (.dK kvs)) (h : ∀ t s', Inv X pins σ H s' → Q (.int kvs.length t) s') : wpAny (model X.prog X.w) A (call (.builtin "len") [.ref a]) Q E s := by
  obtain ⟨z, hd, vs, rel, dd⟩ := dk_rd I.hok e
  refine call_len_dict hd dd (by rw [← rel.length]; rw [sizeLine_eq] at z; omega) ?_
  rw [← rel.length]
  exact h _ _ (I.tok _)
/-- if d -/
theorem d_truth {Q : Bool → Shared → Prop} (I : Inv X pins σ H s) (e : Rd H a (.dK kvs)) (h : ∀ s', Inv X pins σ H s' → Q (!kvs.isEmpty) s') : wpAny (model X.prog X.w) A (truthy (.ref a)) Q E s := by
  obtain ⟨z, hd, vs, rel, dd⟩ := dk_rd I.hok e
  refine wpAny_truthy_dict hd dd (by rw [← rel.length]; rw [sizeLine_eq] at z; omega) ?_
  have q : kvs.isEmpty = vs.isEmpty := by cases rel <;> rfl
  rw [← q]
  exact h _ (I.tok _)
end


/-! ### readings and rules -/
/-- the element of a subscription, not a slice -/
def NoSl (i : Expr) : Prop := ∀ ov iv, subscripted i false ov iv = operate [ov, iv] (getItem ov iv)
theorem subD_of {prog : Program} {w : World} {A : Around} {E : Value → Shared → Prop} {s : Shared} {env : Env} {value slice : Expr} {pos : Pos} {T id : String} {Q : Value → Shared → Prop}
    (hl : typeLookup (.type T) "__getitem__" = pure (some (.builtin id))) (hs : NoSl slice)
    (h : wpAny (model prog w) A (eval value env) (fun o s₁ => wpAny (model prog w) A (eval slice env) (fun i s₂ => s₂.TypeIs o T ∧ wpAny (model prog w) A (getItem o i) Q E s₂) E s₁) E s) :
    wpAny (model prog w) A (eval (.Subscript value slice pos) env) Q E s := by
  refine Subscript_ (wpAny_mono h (fun o s₁ h₁ => wpAny_mono h₁ (fun i s₂ h₂ => ?_) fun _ _ x => x) fun _ _ x => x)
  obtain ⟨hT, h₂⟩ := h₂
  unfold subscriptTail
  refine wpAny_bind ?_
  rw [getitemInPython_of_ne hT.not_modules]
  refine wpAny_bind (wpAny_specialOf hT hl ?_)
  have fin : wpAny (model prog w) A (subscripted slice false o i) (fun r s₃ => wpAny (model prog w) A (letTemporaryGo value o r >>= fun _ => pure r) Q E s₃) E s₂ := by
    rw [hs o i]
    exact wpAny_operating (wpAny_mono h₂ (fun r s₃ h₃ => wpAny_bind (wpAny_letTemporaryGo (wpAny_pure h₃))) fun _ _ x => x)
  first
    | exact wpAny_pure (wpAny_bind fin)
    | exact wpAny_bind (wpAny_pure (wpAny_bind fin))
    | exact wpAny_bind fin

theorem dict_typeIs {X : Cx} {pins : List (Addr × Obj)} {σ : St} {H : Hp} {s : Shared} {a : Addr} {y : V} {o : Option V} (I : Inv X pins σ H s) (g : DGet H a y o) : s.TypeIs (.ref a) "dict" := by
  rcases g with ⟨kvs, k, e, _, _⟩ | ⟨kvs, k, b, e, _, _, _⟩
  · obtain ⟨_, _, vs, _, dd⟩ := dk_rd I.hok e
    exact dd.typeIs
  · obtain ⟨_, _, xs, _, dd⟩ := dt_rd I.hok e
    exact dd.typeIs
theorem dict_noDict {X : Cx} {pins : List (Addr × Obj)} {σ : St} {H : Hp} {s : Shared} {a : Addr} {y : V} {o : Option V} (I : Inv X pins σ H s) (g : DGet H a y o) :
    ∀ b, Value.ref a = .ref b → ∃ ob, s.heap.get? b = some ob ∧ ob.dict = none := fun b q => by
  cases q
  rcases g with ⟨kvs, k, e, _, _⟩ | ⟨kvs, k, b, e, _, _, _⟩
  · obtain ⟨_, _, vs, _, ob, _, _, h1, h2, _⟩ := dk_rd I.hok e
    exact ⟨ob, h1, h2.2.1⟩
  · obtain ⟨_, _, xs, _, ob, _, _, h1, h2, _⟩ := dt_rd I.hok e
    exact ⟨ob, h1, h2.2.1⟩

/-- d[y] -/
def tDGet (td ty : TE) : TE := fun σ H Q => td σ H fun x H1 => ty σ H1 fun y H2 => ∃ a v, x = .ref a ∧ DGet H2 a y (some v) ∧ Q v H2
/-- y in d, y not in d -/
def tDIn (ty td : TE) : TE := fun σ H Q => ty σ H fun y H1 => td σ H1 fun x H2 => ∃ a o, x = .ref a ∧ DGet H2 a y o ∧ Q (.bl o.isSome) H2
def tDNotIn (ty td : TE) : TE := fun σ H Q => ty σ H fun y H1 => td σ H1 fun x H2 => ∃ a o, x = .ref a ∧ DGet H2 a y o ∧ Q (.bl (!o.isSome)) H2
/-- d[y] = v -/
def sDPut (td ty tv : TE) : TS := fun D σ H => tv σ H fun v H1 => td σ H1 fun x H2 => ty σ H2 fun y H3 => ∃ a H4, x = .ref a ∧ DPut H3 a y v H4 ∧ D.nx σ H4
/-- d[y] op= v -/
def sDAug (td ty tv : TE) (rd : V → V → Hp → VK → Prop) : TS := fun D σ H => td σ H fun x H1 => ty σ H1 fun y H2 => ∃ a v, x = .ref a ∧ DGet H2 a y (some v) ∧
  tv σ H2 fun y2 H3 => rd v y2 H3 fun z H4 => ∃ H5, DPut H4 a y z H5 ∧ D.nx σ H5
/-- del d[y] -/
def sDDel (td ty : TE) : TS := fun D σ H => td σ H fun x H1 => ty σ H1 fun y H2 => ∃ a kvs k, x = .ref a ∧ H2 a = some (.dK kvs) ∧ y = kV k ∧ (valV kvs k).isSome = true ∧ D.nx σ (upd H2 a (.dK (dropK kvs k)))

section
variable {X : Cx} {o i e value : Expr} {pos pos' tpos : Pos} {td ty tv : TE}
theorem pe_dget (hu : X.A.units + 1 < cLine) (ho : PE X o td) (hi : PE X i ty) (hs : NoSl i) : PE X (.Subscript o i pos) (tDGet td ty) := by
  intro pins s σ H Q I h
  refine subD_of PySem.F.slot_dict_getitem.lookup hs (thn (ho pins s σ H _ I h) fun u s1 ⟨x, H1, I1, rx, q1⟩ => thn (hi pins s1 σ H1 _ I1 q1) fun iv s2 ⟨y, H2, I2, ry, a, v, ex, g, q2⟩ => ?_)
  subst ex
  obtain rfl : u = Value.ref a := rx
  exact ⟨dict_typeIs I2 g, d_getItem hu I2 g ry fun w' s3 I3 rw' => ⟨v, H2, I3, rw', q2⟩⟩
theorem pc_din (hu : X.A.units + 1 < cLine) (hi : PE X i ty) (ho : PE X o td) : PC X .In i o (tDIn ty td) := by
  intro pins s σ H Q I h
  refine thn (hi pins s σ H _ I h) fun iv s1 ⟨y, H1, I1, ry, q1⟩ => thn (ho pins s1 σ H1 _ I1 q1) fun u s2 ⟨x, H2, I2, rx, a, ov, ex, g, q2⟩ => ?_
  subst ex
  obtain rfl : u = Value.ref a := rx
  exact d_in hu I2 g ry fun s3 I3 => ⟨.bl ov.isSome, H2, I3, rfl, q2⟩
theorem pc_dnotin (hu : X.A.units + 1 < cLine) (hi : PE X i ty) (ho : PE X o td) : PC X .NotIn i o (tDNotIn ty td) := by
  intro pins s σ H Q I h
  refine thn (hi pins s σ H _ I h) fun iv s1 ⟨y, H1, I1, ry, q1⟩ => thn (ho pins s1 σ H1 _ I1 q1) fun u s2 ⟨x, H2, I2, rx, a, ov, ex, g, q2⟩ => ?_
  subst ex
  obtain rfl : u = Value.ref a := rx
  exact d_notIn hu I2 g ry fun s3 I3 => ⟨.bl (!ov.isSome), H2, I3, rfl, q2⟩
theorem ps_dput (hu : X.A.units + 1 < cLine) (ho : PE X o td) (hi : PE X i ty) (hv : PE X value tv) (hs : swapsWith value (some (.Subscript o i pos')) pos.line X.env = pure false) :
    PS X (.Assign [.Subscript o i pos'] value pos) (sDPut td ty tv) := by
  intro pins s σ H D I h
  refine wpAny_Assign_Subscript (thn (hv pins s σ H _ I h) fun r s1 ⟨v, H1, I1, rv, q1⟩ => thn (ho pins s1 σ H1 _ I1 q1) fun u s2 ⟨x, H2, I2, rx, q2⟩ => thn (hi pins s2 σ H2 _ I2 q2) fun iv s3 ⟨y, H3, I3, ry, a, H4, ex, g, q3⟩ => ?_) hs
  subst ex
  obtain rfl : u = Value.ref a := rx
  exact d_setItem hu I3 g ry rv fun s4 I4 => ⟨σ, H4, I4, q3⟩
theorem ps_daug {op : Operator} {rd : V → V → Hp → VK → Prop} (hu : X.A.units + 1 < cLine) (ho : PE X o td) (hi : PE X i ty) (hv : PE X value tv) (hop : InOp X op rd)
    (ha : ∀ ov iv new, augStore i ov iv new = (do holding [new, ov, iv] (setItem ov iv new); release [new, ov, iv] []; pure .next)) : PS X (.AugAssign (.Subscript o i tpos) op value pos) (sDAug td ty tv rd) := by
  intro pins s σ H D I h
  refine wpAny_AugAssign_SubscriptAny (thn (ho pins s σ H _ I h) fun u s1 ⟨x, H1, I1, rx, q1⟩ => thn (hi pins s1 σ H1 _ I1 q1) fun iv s2 ⟨y, H2, I2, ry, a, v, ex, g, q2⟩ => ?_) ha
  subst ex
  obtain rfl : u = Value.ref a := rx
  refine d_getItem hu I2 g ry fun w' s3 I3 rw' => thn (hv pins s3 σ H2 _ I3 q2) fun w2 s4 ⟨y2, H3, I4, ry2, q3⟩ => thn (hop pins s4 σ H3 v y2 w' w2 _ I4 rw' ry2 q3) fun w3 s5 ⟨z, H4, I5, rz, H5, g5, q4⟩ => ?_
  exact d_setItem hu I5 g5 ry rz fun s6 I6 => ⟨σ, H5, I6, q4⟩
theorem ps_ddel (ho : PE X o td) (hi : PE X i ty) : PS X (.Delete [.Subscript o i tpos] pos) (sDDel td ty) := by
  intro pins s σ H D I h
  refine wpAny_Delete (wpAny_deleteEach_cons (wpAny_delete_Subscript (thn (ho pins s σ H _ I h) fun u s1 ⟨x, H1, I1, rx, q1⟩ => thn (hi pins s1 σ H1 _ I1 q1) fun iv s2 ⟨y, H2, I2, ry, a, kvs, k, ex, e, ey, l, q2⟩ => ?_)))
  subst ex ey
  obtain rfl : u = Value.ref a := rx
  exact d_delItem I2 e ry l fun s3 I3 => wpAny_deleteEach_nil ⟨σ, _, I3, q2⟩
end


/-! ### displays -/
theorem dk_empty {P : Program} {w : World} {H : Hp} (h : Heap) (hb : sysModules < h.objs.size) : ObjOk P w H (h.push { cls := .type "dict", data := .dict #[] }) h.objs.size (.dK []) :=
  ⟨Nat.zero_le _, beq_eq_false_iff_ne.mpr (Ne.symm (Nat.ne_of_lt hb)), [], .nil, Heap.DictOf.new h⟩
theorem dt_empty {P : Program} {w : World} {H : Hp} (h : Heap) (hb : sysModules < h.objs.size) : ObjOk P w H (h.push { cls := .type "dict", data := .dict #[] }) h.objs.size (.dT []) :=
  ⟨Nat.zero_le _, beq_eq_false_iff_ne.mpr (Ne.symm (Nat.ne_of_lt hb)), [], .nil, _, #[], 0, Heap.get?_push_size _ rfl, ⟨rfl, rfl, rfl⟩, rfl, rfl, List.nodup_nil⟩
/-- {}, to be a dict of the kind that is wanted -/
def tDNewK : TE := fun _ H Q => ∀ p, H p = none → Q (.ref p) (upd H p (.dK []))
def tDNewT : TE := fun _ H Q => ∀ p, H p = none → Q (.ref p) (upd H p (.dT []))
section
variable {X : Cx} {pos : Pos}
theorem pe_dnewK : PE X (.Dict [] [] pos) tDNewK := fun pins s σ H Q I h =>
  wpAny_Dict_empty ⟨.ref s.heap.objs.size, _, I.laid (a := s.heap.objs.size) (o := .dK []) (t' := s.toks) (fun _ _ q => Heap.get?_push_of_some _ q) (Nat.le_refl _) (dk_empty s.heap I.big), rfl, h _ (I.hok.fresh (Nat.le_refl _))⟩
theorem pe_dnewT : PE X (.Dict [] [] pos) tDNewT := fun pins s σ H Q I h =>
  wpAny_Dict_empty ⟨.ref s.heap.objs.size, _, I.laid (a := s.heap.objs.size) (o := .dT []) (t' := s.toks) (fun _ _ q => Heap.get?_push_of_some _ q) (Nat.le_refl _) (dt_empty s.heap I.big), rfl, h _ (I.hok.fresh (Nat.le_refl _))⟩
end

/-- the pairs of a display, from the left -/
def tPairs : List (TE × TE) → St → Hp → (List (V × V) → Hp → Prop) → Prop
  | [], _, H, Q => Q [] H
  | (tk, tv) :: r, σ, H, Q => tk σ H fun x H1 => tv σ H1 fun y H2 => tPairs r σ H2 fun ps H3 => Q ((x, y) :: ps) H3
abbrev VV : List (V × V) → List (Value × Value) → Prop := Paired fun p q => RelV p.1 q.1 ∧ RelV p.2 q.2
def PPs (X : Cx) (pos : Pos) (keys : List (Option Expr)) (values : List Expr) (trs : List (TE × TE)) : Prop :=
  ∀ (pins : List (Addr × Obj)) (s : Shared) (σ : St) (H : Hp) (Q : List (V × V) → Hp → Prop), Inv X pins σ H s → tPairs trs σ H Q →
    wpAny (model X.prog X.w) X.A (evalPairs (pairTrees keys values X.env pos)) (fun vs s' => ∃ ps H', Inv X pins σ H' s' ∧ VV ps vs ∧ Q ps H') X.xe s
theorem pps_nil {X : Cx} {pos : Pos} : PPs X pos [] [] [] := fun pins s σ H Q I h => pairTrees_nil_walk ⟨[], H, I, .nil, h⟩
theorem pps_cons {X : Cx} {pos : Pos} {k v : Expr} {ks : List (Option Expr)} {vs : List Expr} {tk tv : TE} {trs : List (TE × TE)} (hk : PE X k tk) (hv : PE X v tv) (hr : PPs X pos ks vs trs) :
    PPs X pos (some k :: ks) (v :: vs) ((tk, tv) :: trs) := fun pins s σ H Q I h =>
  pairTrees_cons_walk (thn (hk pins s σ H _ I h) fun u s1 ⟨x, H1, I1, rx, q1⟩ => thn (hv pins s1 σ H1 _ I1 q1) fun w2 s2 ⟨y, H2, I2, ry, q2⟩ =>
    thn (hr pins s2 σ H2 _ I2 q2) fun ws s3 ⟨ps, H3, I3, rel, q3⟩ => ⟨(x, y) :: ps, H3, I3, .cons ⟨rx, ry⟩ rel, q3⟩)

def mergeK (kvs more : List (Key × V)) : List (Key × V) := more.foldl (fun acc kv => putK acc kv.1 kv.2) kvs
theorem KV.merge : ∀ {more : List (Key × V)} {rs : List (Key × Value)} {kvs : List (Key × V)} {vs : List (Key × Value)}, KV more rs → KV kvs vs → KV (mergeK kvs more) (merged vs rs) := by
  intro more rs kvs vs r
  unfold KV at r
  induction r generalizing kvs vs with
  | nil => intro q; exact q
  | @cons p q ps qs h t ih =>
    intro r0
    have e : KV (putK kvs p.1 p.2) (stored vs q.1 q.2) := by
      have := r0.put p.1 h.2
      rw [← h.1]; exact this
    exact ih e
theorem length_mergeK : ∀ (more kvs : List (Key × V)), (mergeK kvs more).length ≤ kvs.length + more.length
  | [], kvs => by show kvs.length ≤ kvs.length + 0; omega
  | p :: r, kvs => by
    have h1 := length_mergeK r (putK kvs p.1 p.2)
    have h2 := length_putK kvs p.1 p.2
    show (mergeK (putK kvs p.1 p.2) r).length ≤ _
    rw [List.length_cons]; omega
theorem carries_of {P : Program} {w : World} : ∀ {kvs : List (Key × V)} {ws : List (Value × Value)}, VV (kvs.map fun kv => (kV kv.1, kv.2)) ws → ∃ rs, Carries (mixKind P w) ws rs ∧ KV kvs rs
  | [], _, r => by rw [List.map_nil] at r; cases r; exact ⟨[], True.intro, .nil⟩
  | p :: kvs, _, r => by
    rw [List.map_cons] at r
    cases r with
    | @cons a b as bs h t =>
      obtain ⟨rs, c, q⟩ := carries_of (P := P) (w := w) t
      obtain ⟨b1, b2⟩ := b
      exact ⟨(p.1, b2) :: rs, ⟨kV_is h.1, rfl, c⟩, .cons ⟨rfl, h.2⟩ q⟩
/-- {k: v, ..} with keys ints and texts; the new dict stands empty while the pairs are made -/
def tDisp (trs : List (TE × TE)) : TE := fun σ H Q => ∀ p, H p = none → tPairs trs σ (upd H p (.dK [])) fun ps H2 => H2 p = some (.dK []) ∧ ∃ kvs : List (Key × V), ps = kvs.map (fun kv => (kV kv.1, kv.2)) ∧ kvs.length ≤ 15 ∧ Q (.ref p) (upd H2 p (.dK (mergeK [] kvs)))
theorem pe_disp {X : Cx} {pos : Pos} {keys : List (Option Expr)} {values : List Expr} {trs : List (TE × TE)} (h : PPs X pos keys values trs) (hall : keys.all (·.isSome) = true) (hl : keys.length = values.length) (h0 : keys ≠ [])
    (h15 : keys.length ≤ 15) : PE X (.Dict keys values pos) (tDisp trs) := by
  intro pins s σ H Q I q
  have hn := I.hok.fresh (Nat.le_refl s.heap.objs.size)
  have I1 := I.laid (a := s.heap.objs.size) (o := .dK []) (h' := s.heap.push { cls := .type "dict", data := .dict #[] }) (t' := s.toks) (fun _ _ q => Heap.get?_push_of_some _ q) (Nat.le_refl _) (dk_empty s.heap I.big)
  refine wpAny_Dict_walk (knd := mixKind X.prog X.w) hall hl h0 h15 (thn (h pins _ σ _ _ I1 (q _ hn)) fun ws s2 ⟨ps, H2, I2, rel, e, kvs, ep, lk, q2⟩ => ?_)
  subst ep
  obtain ⟨rs, c, rk⟩ := carries_of (P := X.prog) (w := X.w) rel
  obtain ⟨z, hd, vs0, r0, dd⟩ := dk_of I2.hok e
  cases r0
  refine ⟨rs, c, dd, fun h' dd' hs => ⟨.ref s.heap.objs.size, _, ?_, rfl, q2⟩⟩
  have hz : (mergeK [] kvs).length ≤ sizeLine := by
    have h1 := length_mergeK kvs []
    rw [List.length_nil] at h1
    rw [sizeLine_eq]; omega
  have he : ∃ q, h'.get? s.heap.objs.size = some q := let ⟨q, _, _, hq, _⟩ := dd'; ⟨q, hq⟩
  exact d_write I2 (by rw [e]; exact True.intro) hs he (dk_new hz hd (rk.merge .nil) dd')


/-! ### methods -/
/-- a method call o.m(e) of a built-in, with one argument: what must be seen of the text -/
structure M1 (X : Cx) (o : Expr) (m : Str) (apos : Pos) (e : Expr) (cpos : Pos) : Prop where
  base : attributeBase o m X.env (eval o X.env) = eval o X.env
  few : ((backTo cpos (starEach [e] X.env)).all (fun x => !x.1) && (backToKw cpos (keywordEach [] X.env)).all (fun x => x.1.isSome)
    && decide (([e] : List Expr).length + ([] : List Keyword).length + (if ([] : List Keyword).isEmpty then 0 else 1) < 30)) = true
  line : (apos.endLine == cpos.line) = true
  trees : backTo cpos (starEach [e] X.env) = [(false, eval e X.env)]
structure M2 (X : Cx) (o : Expr) (m : Str) (apos : Pos) (e f : Expr) (cpos : Pos) : Prop where
  base : attributeBase o m X.env (eval o X.env) = eval o X.env
  few : ((backTo cpos (starEach [e, f] X.env)).all (fun x => !x.1) && (backToKw cpos (keywordEach [] X.env)).all (fun x => x.1.isSome)
    && decide (([e, f] : List Expr).length + ([] : List Keyword).length + (if ([] : List Keyword).isEmpty then 0 else 1) < 30)) = true
  line : (apos.endLine == cpos.line) = true
  trees : backTo cpos (starEach [e, f] X.env) = [(false, eval e X.env), (false, eval f X.env)]

/-- a is a dict, whatever its keys -/
def IsD (H : Hp) (a : Addr) : Prop := (∃ kvs, Rd H a (.dK kvs)) ∨ ∃ kvs, Rd H a (.dT kvs)
theorem isD_at {X : Cx} {pins : List (Addr × Obj)} {σ : St} {H : Hp} {s : Shared} {a : Addr} (I : Inv X pins σ H s) (d : IsD H a) :
    s.TypeIs (.ref a) "dict" ∧ (∀ b, Value.ref a = .ref b → ∃ ob, s.heap.get? b = some ob ∧ ob.dict = none) ∧ (a == sysModules) = false := by
  rcases d with ⟨kvs, e⟩ | ⟨kvs, e⟩
  · obtain ⟨_, hd, vs, _, dd⟩ := dk_rd I.hok e
    refine ⟨dd.typeIs, fun b q => ?_, hd⟩
    cases q
    obtain ⟨ob, _, _, h1, h2, _⟩ := dd
    exact ⟨ob, h1, h2.2.1⟩
  · obtain ⟨_, hd, xs, _, dd⟩ := dt_rd I.hok e
    refine ⟨dd.typeIs, fun b q => ?_, hd⟩
    cases q
    obtain ⟨ob, _, _, h1, h2, _⟩ := dd
    exact ⟨ob, h1, h2.2.1⟩

section
variable {X : Cx} {pins : List (Addr × Obj)} {σ : St} {H : Hp} {s : Shared} {a : Addr} {y d : V} {u r : Value} {o : Option V} {A : Around} {E : Value → Shared → Prop}
/-- d.get(y) -/
theorem d_get1 {Q : Value → Shared → Prop} (hu : A.units + 1 < cLine) (I : Inv X pins σ H s) (g : DGet H a y o) (ry : RelV y u) (h : ∀ w' s', Inv X pins σ H s' → RelV (o.getD .non) w' → Q w' s') :
    wpAny (model X.prog X.w) A (call (.builtin "dict.get") [.ref a, u]) Q E s := by
  rcases g with ⟨kvs, k, e, ey, l⟩ | ⟨kvs, k, b, e, ey, eb, l⟩
  · subst ey
    obtain ⟨z, hd, vs, rel, dd⟩ := dk_rd I.hok e
    refine call_meetsIn PySem.F.slot_dict_get dd.typeIs PySem.F.entry_dict_get (PySem.F.args_dict_get_2 _ _) (meets_dict_get (mixKind X.prog X.w) a (kV_is ry) hd) ⟨_, dd.mapOf, h _ _ (I.tok _) ?_⟩
    rw [l]
    exact (rel.val k).getD rfl
  · subst ey
    cases (show u = Value.ref b from ry)
    obtain ⟨z, hd, xs, rel, dd⟩ := dt_rd I.hok e
    refine call_meetsIn PySem.F.slot_dict_get dd.typeIs PySem.F.entry_dict_get (PySem.F.args_dict_get_2 _ _) (meetsH_dict_get (tupleKind (mixKind X.prog X.w)) a b hd) ⟨tupleKind_room_in1 hu, k, xs, key_of I.hok eb, dd, h _ _ (I.tok _) ?_⟩
    rw [l]
    exact (rel.val k).getD rfl
/-- d.get(y, x) -/
theorem d_get2 {Q : Value → Shared → Prop} (hu : A.units + 1 < cLine) (I : Inv X pins σ H s) (g : DGet H a y o) (ry : RelV y u) (rd : RelV d r) (h : ∀ w' s', Inv X pins σ H s' → RelV (o.getD d) w' → Q w' s') :
    wpAny (model X.prog X.w) A (call (.builtin "dict.get") [.ref a, u, r]) Q E s := by
  rcases g with ⟨kvs, k, e, ey, l⟩ | ⟨kvs, k, b, e, ey, eb, l⟩
  · subst ey
    obtain ⟨z, hd, vs, rel, dd⟩ := dk_rd I.hok e
    refine call_meetsIn PySem.F.slot_dict_get dd.typeIs PySem.F.entry_dict_get (PySem.F.args_dict_get_3 _ _ _) (meets_dict_get_default (mixKind X.prog X.w) a (kV_is ry) hd r) ⟨_, dd.mapOf, h _ _ (I.tok _) ?_⟩
    rw [l]
    exact (rel.val k).getD rd
  · subst ey
    cases (show u = Value.ref b from ry)
    obtain ⟨z, hd, xs, rel, dd⟩ := dt_rd I.hok e
    refine call_meetsIn PySem.F.slot_dict_get dd.typeIs PySem.F.entry_dict_get (PySem.F.args_dict_get_3 _ _ _) (meetsH_dict_get_default (tupleKind (mixKind X.prog X.w)) a b hd r) ⟨tupleKind_room_in1 hu, k, xs, key_of I.hok eb, dd, h _ _ (I.tok _) ?_⟩
    rw [l]
    exact (rel.val k).getD rd
end

def tDGet1 (td ty : TE) : TE := fun σ H Q => td σ H fun x H1 => ∃ a, x = .ref a ∧ IsD H1 a ∧ ty σ H1 fun y H2 => ∃ o, DGet H2 a y o ∧ Q (o.getD .non) H2
def tDGet2 (td ty tx : TE) : TE := fun σ H Q => td σ H fun x H1 => ∃ a, x = .ref a ∧ IsD H1 a ∧ ty σ H1 fun y H2 => tx σ H2 fun z H3 => ∃ o, DGet H3 a y o ∧ Q (o.getD z) H3
/-- d.pop(k): there; d.pop(k, x): there or not -/
def tDPop1 (td ty : TE) : TE := fun σ H Q => td σ H fun x H1 => ∃ a, x = .ref a ∧ IsD H1 a ∧ ty σ H1 fun y H2 => ∃ kvs k v, H2 a = some (.dK kvs) ∧ y = kV k ∧ valV kvs k = some v ∧ Q v (upd H2 a (.dK (dropK kvs k)))
def tDPop2 (td ty tx : TE) : TE := fun σ H Q => td σ H fun x H1 => ∃ a, x = .ref a ∧ IsD H1 a ∧ ty σ H1 fun y H2 => tx σ H2 fun z H3 => ∃ kvs k, H3 a = some (.dK kvs) ∧ y = kV k ∧
  (∀ v, valV kvs k = some v → Q v (upd H3 a (.dK (dropK kvs k)))) ∧ (valV kvs k = none → Q z H3)
section
variable {X : Cx} {o e f : Expr} {apos cpos : Pos} {td ty tx : TE}
theorem pe_dget1 (hu : X.A.units + 1 < cLine) (ho : PE X o td) (he : PE X e ty) (m : M1 X o "get" apos e cpos) : PE X (.Call (.Attribute o "get" apos) [e] [] cpos) (tDGet1 td ty) := by
  intro pins s σ H Q I h
  refine wpAny_Call_method m.base m.few m.line PySem.F.plainAttrs_dict PySem.F.slot_dict_get PySem.F.type_dict_get (thn (ho pins s σ H _ I h) fun u s1 ⟨x, H1, I1, rx, a, ex, d, q1⟩ => ?_)
  subst ex
  obtain rfl : u = Value.ref a := rx
  obtain ⟨t1, t2, _⟩ := isD_at I1 d
  refine ⟨t1, t2, ?_⟩
  rw [m.trees]
  refine Calls.callWith_builtin rfl (Calls.evalArgs_plain (Calls.spliced_cons (thn (he pins s1 σ H1 _ I1 q1) fun iv s2 ⟨y, H2, I2, ry, ov, g, q2⟩ => Calls.spliced_nil ?_)))
  exact d_get1 hu I2 g ry fun w' s3 I3 rw' => ⟨_, H2, I3, rw', q2⟩
theorem pe_dget2 (hu : X.A.units + 1 < cLine) (ho : PE X o td) (he : PE X e ty) (hf : PE X f tx) (m : M2 X o "get" apos e f cpos) : PE X (.Call (.Attribute o "get" apos) [e, f] [] cpos) (tDGet2 td ty tx) := by
  intro pins s σ H Q I h
  refine wpAny_Call_method m.base m.few m.line PySem.F.plainAttrs_dict PySem.F.slot_dict_get PySem.F.type_dict_get (thn (ho pins s σ H _ I h) fun u s1 ⟨x, H1, I1, rx, a, ex, d, q1⟩ => ?_)
  subst ex
  obtain rfl : u = Value.ref a := rx
  obtain ⟨t1, t2, _⟩ := isD_at I1 d
  refine ⟨t1, t2, ?_⟩
  rw [m.trees]
  refine Calls.callWith_builtin rfl (Calls.evalArgs_plain (Calls.spliced_cons (thn (he pins s1 σ H1 _ I1 q1) fun iv s2 ⟨y, H2, I2, ry, q2⟩ =>
    Calls.spliced_cons (thn (hf pins s2 σ H2 _ I2 q2) fun fv s3 ⟨z, H3, I3, rz, ov, g, q3⟩ => Calls.spliced_nil ?_))))
  exact d_get2 hu I3 g ry rz fun w' s4 I4 rw' => ⟨_, H3, I4, rw', q3⟩
theorem pe_dpop1 (ho : PE X o td) (he : PE X e ty) (m : M1 X o "pop" apos e cpos) : PE X (.Call (.Attribute o "pop" apos) [e] [] cpos) (tDPop1 td ty) := by
  intro pins s σ H Q I h
  refine wpAny_Call_method m.base m.few m.line PySem.F.plainAttrs_dict PySem.F.slot_dict_pop PySem.F.type_dict_pop (thn (ho pins s σ H _ I h) fun u s1 ⟨x, H1, I1, rx, a, ex, d, q1⟩ => ?_)
  subst ex
  obtain rfl : u = Value.ref a := rx
  obtain ⟨t1, t2, _⟩ := isD_at I1 d
  refine ⟨t1, t2, ?_⟩
  rw [m.trees]
  refine Calls.callWith_builtin rfl (Calls.evalArgs_plain (Calls.spliced_cons (thn (he pins s1 σ H1 _ I1 q1) fun iv s2 ⟨y, H2, I2, ry, kvs, k, v, ea, ey, l, q2⟩ => Calls.spliced_nil ?_)))
  subst ey
  exact d_pop I2 ea ry l (.inl rfl) fun w' s3 I3 rw' => ⟨v, _, I3, rw', q2⟩
theorem pe_dpop2 (ho : PE X o td) (he : PE X e ty) (hf : PE X f tx) (m : M2 X o "pop" apos e f cpos) : PE X (.Call (.Attribute o "pop" apos) [e, f] [] cpos) (tDPop2 td ty tx) := by
  intro pins s σ H Q I h
  refine wpAny_Call_method m.base m.few m.line PySem.F.plainAttrs_dict PySem.F.slot_dict_pop PySem.F.type_dict_pop (thn (ho pins s σ H _ I h) fun u s1 ⟨x, H1, I1, rx, a, ex, d, q1⟩ => ?_)
  subst ex
  obtain rfl : u = Value.ref a := rx
  obtain ⟨t1, t2, _⟩ := isD_at I1 d
  refine ⟨t1, t2, ?_⟩
  rw [m.trees]
  refine Calls.callWith_builtin rfl (Calls.evalArgs_plain (Calls.spliced_cons (thn (he pins s1 σ H1 _ I1 q1) fun iv s2 ⟨y, H2, I2, ry, q2⟩ =>
    Calls.spliced_cons (thn (hf pins s2 σ H2 _ I2 q2) fun fv s3 ⟨z, H3, I3, rz, kvs, k, ea, ey, q3, q4⟩ => Calls.spliced_nil ?_))))
  subst ey
  cases l : valV kvs k with
  | some v => exact d_pop I3 ea ry l (.inr ⟨fv, rfl⟩) fun w' s4 I4 rw' => ⟨v, _, I4, rw', q3 v l⟩
  | none => exact d_popD I3 ea ry l fun s4 I4 => ⟨z, H3, I4, rz, q4 l⟩
end

/-! ### dict(d): a copy -/
section
variable {X : Cx} {pins : List (Addr × Obj)} {σ : St} {H : Hp} {s : Shared} {a : Addr} {kvs : List (Key × V)} {A : Around} {E : Value → Shared → Prop}
theorem d_copyOf {Q : Value → Shared → Prop} (I : Inv X pins σ H s) (e : Rd H a (.dK kvs)) (h : ∀ p s', H p = none → Inv X pins σ (upd H p (.dK kvs)) s' → Q (.ref p) s') : wpAny (model X.prog X.w) A (call (.type "dict") [.ref a]) Q E s := by
  obtain ⟨z, hd, vs, rel, dd⟩ := dk_rd I.hok e
  refine kt_call_dict hd dd (by rw [← rel.length]; exact z) fun h' dd' hs => ?_
  refine h _ _ (I.hok.fresh (Nat.le_refl _)) (I.laid (a := s.heap.objs.size) (o := .dK kvs) (t' := s.toks) (fun b q hq => ?_) (Nat.le_refl _) (dk_new z (beq_eq_false_iff_ne.mpr (Ne.symm (Nat.ne_of_lt I.big))) rel dd'))
  exact (hs.2 b (Nat.ne_of_lt (Heap.lt_size hq))).trans (Heap.get?_push_of_some _ hq)
end


section
variable {X : Cx} {pins : List (Addr × Obj)} {σ : St} {H : Hp} {s : Shared} {a : Addr} {y : V} {u : Value} {A : Around} {E : Value → Shared → Prop}
/-- d[y], not there: a KeyError -/
theorem d_missing {Q : Value → Shared → Prop} (hu : A.units + 1 < cLine) (hh : A.handled = none) (I : Inv X pins σ H s) (g : DGet H a y none) (ry : RelV y u)
    (h : ∀ h' e t', Heap.NewExc s.heap h' e "KeyError" → E (.ref e) { s with heap := h', toks := t' }) : wpAny (model X.prog X.w) A (getItem (.ref a) u) Q E s := by
  rcases g with ⟨kvs, k, e, ey, l⟩ | ⟨kvs, k, b, e, ey, eb, l⟩
  · subst ey
    obtain ⟨z, hd, vs, rel, dd⟩ := dk_rd I.hok e
    have hn : valueAt vs k = none := RelO.none_of (by rw [l]; exact rel.val k)
    exact wpAny_getItem_missing_of (kV_is ry) hd hh dd.mapOf hn fun h' ex ne => h h' ex _ ne
  · subst ey
    cases (show u = Value.ref b from ry)
    obtain ⟨z, hd, xs, rel, dd⟩ := dt_rd I.hok e
    have hn : (atKey xs k).map (·.2) = none := RelO.none_of (by rw [l]; exact rel.val k)
    exact wpAny_getItem_missing_heap (tupleKind_room_in1 hu) (key_of I.hok eb) hd hh dd (Option.map_eq_none_iff.mp hn) fun h' ex ne => h h' ex _ ne
end
end L2
namespace L2
open PySem PySem.Spec PyProof.Rows
section
variable {X : Cx}
/-- len of a dict -/
theorem call_lenD : CallR X (.builtin "len") (fun xs H Q => ∃ a kvs, xs = [V.ref a] ∧ H a = some (.dK kvs) ∧ Q (.int kvs.length) H) := by
  intro pins s σ H xs us Q I r h
  obtain ⟨a, kvs, rfl, ha, q⟩ := h
  obtain ⟨u, rfl, ru⟩ := vals1 r
  cases ru
  exact d_len I (.inl ha) fun t s' I' => ⟨.int kvs.length, H, I', ⟨t, rfl⟩, q⟩
end
/-! ### a dict's pairs: keys that differ -/
section
variable {κ : Type} [DecidableEq κ]
theorem valV_not {kvs : List (κ × V)} {k : κ} (h : valV kvs k = none) : ¬ k ∈ kvs.map (·.1) := by
  intro m
  obtain ⟨p, hp, e⟩ := List.mem_map.mp m
  have q : (kvs.any fun kv => decide (kv.1 = k)) = true := List.any_eq_true.mpr ⟨p, hp, decide_eq_true e⟩
  rw [valV_any, h] at q
  exact absurd q (by simp)
theorem valV_in {kvs : List (κ × V)} {k : κ} {v : V} (h : valV kvs k = some v) : k ∈ kvs.map (·.1) := by
  have q : (kvs.any fun kv => decide (kv.1 = k)) = true := by
    rw [valV_any, h]
    all_goals rfl
  obtain ⟨p, hp, e⟩ := List.any_eq_true.mp q
  exact List.mem_map.mpr ⟨p, hp, of_decide_eq_true e⟩
theorem nd_snoc : ∀ {l : List κ} {k : κ}, l.Nodup → ¬ k ∈ l → (l ++ [k]).Nodup
  | [], k, _, _ => by simp
  | a :: r, k, h, hk => by
    obtain ⟨h1, h2⟩ := List.nodup_cons.mp h
    show (a :: (r ++ [k])).Nodup
    refine List.nodup_cons.mpr ⟨fun m => ?_, nd_snoc h2 fun m => hk (List.mem_cons.mpr (Or.inr m))⟩
    rcases List.mem_append.mp m with q | q
    · exact h1 q
    · exact hk (List.mem_cons.mpr (Or.inl (List.mem_singleton.mp q).symm))
theorem nd_putK {kvs : List (κ × V)} {k : κ} (v : V) (hn : (kvs.map (·.1)).Nodup) (h : valV kvs k = none) : ((putK kvs k v).map (·.1)).Nodup := by
  rw [putK_new v h, List.map_append]
  exact nd_snoc hn (valV_not h)
theorem dropK_pos {p : κ × V} {r : List (κ × V)} {k : κ} (e : p.1 = k) : dropK (p :: r) k = dropK r k := by
  unfold dropK
  rw [List.filter_cons, if_neg (by simp [e])]
theorem dropK_neg {p : κ × V} {r : List (κ × V)} {k : κ} (e : ¬ p.1 = k) : dropK (p :: r) k = p :: dropK r k := by
  unfold dropK
  rw [List.filter_cons, if_pos (by simp [e])]
theorem dropK_no : ∀ {kvs : List (κ × V)} {k : κ}, ¬ k ∈ kvs.map (·.1) → dropK kvs k = kvs
  | [], _, _ => rfl
  | p :: r, k, h => by
    have h' : ¬ k ∈ r.map (·.1) := fun m => by
      obtain ⟨q, hq, e⟩ := List.mem_map.mp m
      exact h (List.mem_map.mpr ⟨q, List.mem_cons.mpr (Or.inr hq), e⟩)
    rw [dropK_neg fun e => h (List.mem_map.mpr ⟨p, List.mem_cons.mpr (Or.inl rfl), e⟩), dropK_no h']
theorem dropK_mem {kvs : List (κ × V)} {k : κ} {p : κ × V} (h : p ∈ dropK kvs k) : p ∈ kvs := (List.mem_filter.mp h).1
theorem nd_dropK : ∀ {kvs : List (κ × V)} {k : κ}, (kvs.map (·.1)).Nodup → ((dropK kvs k).map (·.1)).Nodup
  | [], _, _ => List.nodup_nil
  | p :: r, k, h => by
    have h : (p.1 :: r.map (·.1)).Nodup := h
    obtain ⟨h1, h2⟩ := List.nodup_cons.mp h
    by_cases e : p.1 = k
    · rw [dropK_pos e]
      exact nd_dropK h2
    · rw [dropK_neg e]
      show (p.1 :: (dropK r k).map (·.1)).Nodup
      refine List.nodup_cons.mpr ⟨fun m => h1 ?_, nd_dropK h2⟩
      obtain ⟨q, hq, eq⟩ := List.mem_map.mp m
      exact List.mem_map.mpr ⟨q, dropK_mem hq, eq⟩
theorem dropK_len : ∀ {kvs : List (κ × V)} {k : κ}, (kvs.map (·.1)).Nodup → k ∈ kvs.map (·.1) → (dropK kvs k).length + 1 = kvs.length
  | [], _, _, m => by simp at m
  | p :: r, k, h, m => by
    have h : (p.1 :: r.map (·.1)).Nodup := h
    have m : k = p.1 ∨ k ∈ r.map (·.1) := List.mem_cons.mp m
    obtain ⟨h1, h2⟩ := List.nodup_cons.mp h
    by_cases e : p.1 = k
    · subst e
      rw [dropK_pos rfl, dropK_no h1]
      all_goals rfl
    · have m' : k ∈ r.map (·.1) := m.resolve_left fun z => e z.symm
      have q := dropK_len h2 m'
      rw [dropK_neg e, List.length_cons, List.length_cons]
      omega
end
end L2
namespace L2
open PySem PySem.Spec PyProof.Rows
def tTru (K : PySem.W.Frag) (ta : TE) : TT := fun σ H Q => ta σ H fun x H1 => ∃ k, TruV K x H1 k ∧ Q k H1
theorem pt_truthK {X : Cx} (K : PySem.W.Frag) (h : X.K = K) {a : Expr} {ta : TE} (ha : PE X a ta) (he : ∀ whole, isTrue a X.env whole = (do let v ← whole; standAt a.pos; holding [v] (truthy v)) := by intro _; rfl) : PT X a (tTru K ta) := h ▸ pt_truth ha he
theorem truL {K : PySem.W.Frag} {H : Hp} {p : Addr} {xs : List V} (h : SqL K H p xs) : TruV K (.ref p) H (!xs.isEmpty) := .inl ⟨xs, h, rfl⟩
end L2
namespace Sw
/-! ### tags, heads, the mark -/
abbrev T3 := Rat × Rat × Int
def isHd (m : Rat) (u : T3) : Bool := !decide (m < u.1) && decide (m < u.2.1)
def hds (us : List T3) (m : Rat) : List T3 := us.filter (isHd m)
def sumS (hs : List T3) : Int := (hs.map fun u => u.2.2).sum
def minL : List Rat → Rat
  | [] => 0
  | q :: r => (q :: r).foldl min q
def fstE (hs : List T3) : Rat := minL (hs.map fun u => u.2.1)
theorem foldl_min_mem : ∀ (l : List Rat) (d : Rat), l.foldl min d = d ∨ l.foldl min d ∈ l
  | [], d => .inl rfl
  | q :: r, d => by
    rcases foldl_min_mem r (min d q) with h | h
    · rw [List.foldl_cons, h, Rat.min_def]
      split
      · exact .inl rfl
      · exact .inr (by simp)
    · exact .inr (by rw [List.foldl_cons]; exact List.mem_cons_of_mem _ h)
theorem minL_mem {l : List Rat} (h : l ≠ []) : minL l ∈ l := by
  cases l with
  | nil => exact absurd rfl h
  | cons q r =>
    show (q :: r).foldl min q ∈ q :: r
    rcases foldl_min_mem (q :: r) q with e | e
    · rw [e]; simp
    · exact e
theorem fstE_mem {hs : List T3} (h : hs ≠ []) : ∃ u ∈ hs, fstE hs = u.2.1 := by
  have := minL_mem (l := hs.map fun u => u.2.1) (by simpa using h)
  obtain ⟨u, hu, e⟩ := List.mem_map.mp this
  exact ⟨u, hu, e.symm⟩
theorem hds_mem {us : List T3} {m : Rat} {u : T3} (h : u ∈ hds us m) : u ∈ us ∧ m < u.2.1 := by
  obtain ⟨h1, h2⟩ := List.mem_filter.mp h
  unfold isHd at h2
  simp only [Bool.and_eq_true, Bool.not_eq_true', decide_eq_true_eq] at h2
  exact ⟨h1, h2.2⟩
theorem fstE_gt {us : List T3} {m : Rat} (h : hds us m ≠ []) : m < fstE (hds us m) := by
  obtain ⟨u, hu, e⟩ := fstE_mem h
  rw [e]; exact (hds_mem hu).2
/-- those whose end is still ahead -/
def ahead (us : List T3) (m : Rat) : Nat := (us.filter fun u => decide (m < u.2.1)).length
theorem filter_len_lt {α : Type} {p q : α → Bool} : ∀ {l : List α}, (∀ x ∈ l, q x = true → p x = true) → (∃ x ∈ l, p x = true ∧ q x = false) → (l.filter q).length < (l.filter p).length
  | [], _, ⟨x, hx, _⟩ => absurd hx (by simp)
  | y :: r, h, ⟨x, hx, h1, h2⟩ => by
    have le : ∀ {l : List α}, (∀ x ∈ l, q x = true → p x = true) → (l.filter q).length ≤ (l.filter p).length := fun {l} => by
      induction l with
      | nil => intro _; exact Nat.le_refl _
      | cons z t ih =>
        intro hh
        have ih := ih fun x hx => hh x (List.mem_cons_of_mem _ hx)
        have hz := hh z (by simp)
        rw [List.filter_cons, List.filter_cons]
        cases e1 : q z <;> cases e2 : p z <;> simp_all <;> omega
    rcases List.mem_cons.mp hx with e | e
    · subst e
      have := le (l := r) fun x hx => h x (List.mem_cons_of_mem _ hx)
      rw [List.filter_cons, List.filter_cons, h1, h2]
      simp; omega
    · have ih := filter_len_lt (l := r) (fun x hx => h x (List.mem_cons_of_mem _ hx)) ⟨x, e, h1, h2⟩
      have hy := h y (by simp)
      rw [List.filter_cons, List.filter_cons]
      cases e1 : q y <;> cases e2 : p y <;> simp_all <;> omega
theorem ahead_lt {us : List T3} {m : Rat} (h : hds us m ≠ []) : ahead us (fstE (hds us m)) < ahead us m := by
  have gt := fstE_gt h
  obtain ⟨u, hu, e⟩ := fstE_mem h
  obtain ⟨h1, h2⟩ := hds_mem hu
  refine filter_len_lt (fun x _ hx => ?_) ⟨u, h1, decide_eq_true h2, ?_⟩
  · simp only [decide_eq_true_eq] at hx ⊢
    grind
  · rw [e]; simp only [decide_eq_false_iff_not]; grind
/-- the mark at a time, from a moment with a mark on; n: turns at most -/
def markF (us : List T3) (t : Rat) : Nat → Rat → Rat → Rat
  | 0, _, re => re
  | n + 1, mo, re =>
    if hds us re = [] then re
    else if t < mo + (fstE (hds us re) - re) * (sumS (hds us re) : Rat) then re + (t - mo) / (sumS (hds us re) : Rat)
    else markF us t n (mo + (fstE (hds us re) - re) * (sumS (hds us re) : Rat)) (fstE (hds us re))
def markAt (us : List T3) (latest : Int) (reached : Rat) (t : Int) : Rat := markF us (t : Rat) (us.length + 1) (latest : Rat) reached
theorem ahead_le (us : List T3) (m : Rat) : ahead us m ≤ us.length := List.length_filter_le _ _
/-! fractions of one bottom -/
def Grd (D : Int) (q : Rat) : Prop := ∃ n : Int, q = (n : Rat) / (D : Rat)
theorem Grd.int {D : Int} (hD : D ≠ 0) (n : Int) : Grd D (n : Rat) := ⟨n * D, by have := q_cast_ne hD; rw [Rat.intCast_mul]; grind⟩
theorem Grd.add {D : Int} {a b : Rat} (h : Grd D a) (k : Grd D b) : Grd D (a + b) := by
  obtain ⟨n, rfl⟩ := h
  obtain ⟨m, rfl⟩ := k
  exact ⟨n + m, by rw [Rat.intCast_add]; grind⟩
theorem Grd.sub {D : Int} {a b : Rat} (h : Grd D a) (k : Grd D b) : Grd D (a - b) := by
  obtain ⟨n, rfl⟩ := h
  obtain ⟨m, rfl⟩ := k
  exact ⟨n - m, by rw [Rat.intCast_sub]; grind⟩
theorem Grd.muli {D : Int} {a : Rat} (h : Grd D a) (k : Int) : Grd D (a * (k : Rat)) := by
  obtain ⟨n, rfl⟩ := h
  exact ⟨n * k, by rw [Rat.intCast_mul]; grind⟩
theorem Grd.divi {D : Int} {a : Rat} (hD : D ≠ 0) (h : Grd D a) {k : Int} (hk : k ≠ 0) : Grd (D * k) (a / (k : Rat)) := by
  obtain ⟨n, rfl⟩ := h
  have h1 := q_cast_ne hD
  have h2 := q_cast_ne hk
  exact ⟨n, by rw [Rat.intCast_mul]; grind⟩
theorem Grd.more {D : Int} {a : Rat} (hD : D ≠ 0) (h : Grd D a) {k : Int} (hk : k ≠ 0) : Grd (D * k) a := by
  obtain ⟨n, rfl⟩ := h
  have h1 := q_cast_ne hD
  have h2 := q_cast_ne hk
  exact ⟨n * k, by rw [Rat.intCast_mul, Rat.intCast_mul]; grind⟩
theorem Grd.sz {D M : Int} {a b : Nat} {q : Rat} (h : Grd D q) (hD : 0 < D) (zD : Sz a D) (zM : Sz b M) (h1 : -(M : Rat) ≤ q) (h2 : q ≤ (M : Rat)) (hb : 1 ≤ b) : SzQ (a + b) q := by
  obtain ⟨n, rfl⟩ := h
  have dp := q_cast_pos hD
  have dn := q_cast_ne (show D ≠ 0 by omega)
  refine .of (by omega) rfl ((zD.mul zM).le ?_) (zD.mono (by omega))
  have e : (n : Rat) / (D : Rat) * (D : Rat) = (n : Rat) := by grind
  have u : (n : Rat) ≤ ((M * D : Int) : Rat) := by
    rw [← e, Rat.intCast_mul]
    exact Rat.mul_le_mul_of_nonneg_right h2 (by grind)
  have l : ((-(M * D) : Int) : Rat) ≤ (n : Rat) := by
    rw [← e, Rat.intCast_neg, Rat.intCast_mul, show -((M : Rat) * (D : Rat)) = -(M : Rat) * (D : Rat) by grind]
    exact Rat.mul_le_mul_of_nonneg_right h1 (by grind)
  have u' := Rat.intCast_le_intCast.mp u
  have l' := Rat.intCast_le_intCast.mp l
  rw [Int.mul_comm D M]
  omega
end Sw
namespace L2
open PySem PySem.Spec PyProof.Rows
theorem while_m {c : TT} {tb : TS} {D : Ends} {σ : St} {H : Hp} (W : Nat → St → Hp → Prop) {m0 : Nat} (h0 : W m0 σ H)
    (hs : ∀ m σ H, W m σ H → ∃ b : Bool, (∀ Q : Bool → Hp → Prop, Q b H → c σ H Q) ∧ (b = true → tb { D with nx := fun σ' H' => ∃ m', m' < m ∧ W m' σ' H', ct := fun σ' H' => ∃ m', m' < m ∧ W m' σ' H', bk := D.nx } σ H) ∧ (b = false → D.nx σ H)) : tWhile c tb D σ H := by
  refine ⟨W, ⟨_, h0⟩, fun m σ H p => ?_⟩
  obtain ⟨b, hc, h1, h2⟩ := hs m σ H p
  refine hc _ ?_
  cases b with
  | true => exact ⟨_, fun σ' H' z => z, h1 rfl⟩
  | false => exact h2 rfl
/-! ### tags in the heap -/
def TagAt (H : Hp) (p : Addr) (u : Sw.T3) : Prop := ∃ pb pe, H p = some (.tup [.ref pb, .ref pe, .int u.2.2]) ∧ H pb = some (.tup (fq u.1)) ∧ H pe = some (.tup (fq u.2.1))
abbrev TagsAt (H : Hp) (ps : List Addr) (us : List Sw.T3) : Prop := Paired (TagAt H) ps us
theorem TagAt.keep {H H' : Hp} {p : Addr} {u : Sw.T3} (h : TagAt H p u) (e : ∀ p xs, H p = some (.tup xs) → H' p = some (.tup xs)) : TagAt H' p u := by
  obtain ⟨pb, pe, h1, h2, h3⟩ := h
  exact ⟨pb, pe, e _ _ h1, e _ _ h2, e _ _ h3⟩
theorem tags_keep {H H' : Hp} {ps : List Addr} {us : List Sw.T3} (h : TagsAt H ps us) (e : ∀ p xs, H p = some (.tup xs) → H' p = some (.tup xs)) : TagsAt H' ps us := Paired.mapP h fun _ _ q => q.keep e
theorem tags_same {H H' : Hp} {ps : List Addr} {us : List Sw.T3} (h : TagsAt H ps us) (e : Same H H') : TagsAt H' ps us := tags_keep h fun _ _ q => e _ _ q
theorem tags_len {H : Hp} {ps : List Addr} {us : List Sw.T3} (h : TagsAt H ps us) : ps.length = us.length := Paired.length h
theorem paired_snoc {α β : Type} {F : α → β → Prop} {a : α} {b : β} (h : F a b) : ∀ {l₁ : List α} {l₂ : List β}, Paired F l₁ l₂ → Paired F (l₁ ++ [a]) (l₂ ++ [b])
  | _, _, Paired.nil => .cons h .nil
  | _, _, Paired.cons x y => .cons x (paired_snoc h y)
theorem paired_get {α β : Type} {F : α → β → Prop} : ∀ {l₁ : List α} {l₂ : List β} {i : Nat} {a : α}, Paired F l₁ l₂ → l₁[i]? = some a → ∃ b, l₂[i]? = some b ∧ F a b
  | _, _, _, _, Paired.nil, e => by simp at e
  | _, _, 0, _, Paired.cons x _, e => by simp at e; subst e; exact ⟨_, rfl, x⟩
  | _, _, i + 1, _, Paired.cons _ y, e => by
    obtain ⟨b, h1, h2⟩ := paired_get (i := i) y (by simpa using e)
    exact ⟨b, by simpa using h1, h2⟩
theorem take_succ_of {α : Type} {l : List α} {i : Nat} {x : α} (h : l[i]? = some x) : l.take (i + 1) = l.take i ++ [x] := by
  rw [List.take_add_one, h]; rfl
/-- the bounds of tags: fractions of the bottom D, from 0 to B, shares from 1 on -/
structure TagOk (D B : Int) (u : Sw.T3) : Prop where
  b : Sw.Grd D u.1
  e : Sw.Grd D u.2.1
  b0 : 0 ≤ u.1
  be : u.1 ≤ u.2.1
  eB : u.2.1 ≤ (B : Rat)
  s1 : 1 ≤ u.2.2
  s2 : u.2.2 ≤ 1000000
theorem sumS_ok {D B : Int} : ∀ {hs : List Sw.T3}, (∀ u ∈ hs, TagOk D B u) → hs ≠ [] → 1 ≤ Sw.sumS hs ∧ Sw.sumS hs ≤ hs.length * 1000000
  | [], _, h => absurd rfl h
  | [u], h, _ => by
    have t := h u (by simp)
    have a := t.s1
    have b := t.s2
    unfold Sw.sumS
    simp
    omega
  | u :: v :: r, h, _ => by
    have t := h u (by simp)
    have a := t.s1
    have b := t.s2
    have ih := sumS_ok (hs := v :: r) (fun x hx => h x (List.mem_cons_of_mem _ hx)) (by simp)
    have e : Sw.sumS (u :: v :: r) = u.2.2 + Sw.sumS (v :: r) := by unfold Sw.sumS; simp
    rw [e]
    simp only [List.length_cons] at ih ⊢
    omega
/-- a bottom and a bound, of so many signs -/
structure GB (D B : Int) : Prop where
  D0 : 0 < D
  Dz : Sw.Sz 1500 D
  B0 : 0 ≤ B
  B1 : B ≤ 10000000000
theorem GB.sz {D B M : Int} {q : Rat} (g : GB D B) (h : Sw.Grd D q) (h1 : -(M : Rat) ≤ q) (h2 : q ≤ (M : Rat)) (m1 : -100000000000000000000 < M) (m2 : M < 100000000000000000000) : Sw.SzQ 1570 q :=
  h.sz g.D0 g.Dz (Sw.Sz.r18 m1 m2) h1 h2 (by decide)
theorem GB.szB {D B : Int} {q : Rat} (g : GB D B) (h : Sw.Grd D q) (h1 : 0 ≤ q) (h2 : q ≤ (B : Rat)) : Sw.SzQ 1570 q := by
  have b0 := g.B0
  have b1 := g.B1
  have : (0 : Rat) ≤ (B : Rat) := by grind
  exact g.sz h (by grind) h2 (by omega) (by omega)
/-! ### a Tide -/
structure FT (fs : List (Str × V)) (lat : Int) (pr pu pe : Addr) : Prop where
  lat : fs.lookup ("latest" : Str) = some (.int lat)
  rch : fs.lookup ("reached" : Str) = some (.ref pr)
  unf : fs.lookup ("unflowed" : Str) = some (.ref pu)
  lst : fs.lookup ("last_ends" : Str) = some (.ref pe)
  no : ∀ m : Str, ¬ m = "latest" → ¬ m = "reached" → ¬ m = "unflowed" → ¬ m = "last_ends" → fs.lookup m = none
  len : fs.length < 900
/-- a Tide stands at p, as far as its mark goes -/
structure TdM (C : Addr) (H : Hp) (p : Addr) (lat : Int) (re : Rat) (us : List Sw.T3) : Prop where
  ex : ∃ dx fs pr pu pe ps, H p = some (.ins C dx fs) ∧ FT fs lat pr pu pe ∧ H pr = some (.tup (fq re)) ∧ H pu = some (.lst (ps.map V.ref)) ∧ TagsAt H ps us
theorem TdM.same {C : Addr} {H H' : Hp} {p : Addr} {lat : Int} {re : Rat} {us : List Sw.T3} (h : TdM C H p lat re us) (s : Same H H') : TdM C H' p lat re us := by
  obtain ⟨dx, fs, pr, pu, pe, ps, h1, h2, h3, h4, h5⟩ := h.ex
  exact ⟨dx, fs, pr, pu, pe, ps, s _ _ h1, h2, s _ _ h3, s _ _ h4, tags_same h5 s⟩
structure TideOk (D B lat : Int) (re : Rat) (us : List Sw.T3) : Prop where
  gb : GB D B
  gre : Sw.Grd D re
  re0 : 0 ≤ re
  reB : re ≤ (B : Rat)
  tus : ∀ u ∈ us, TagOk D B u
  len : us.length ≤ 100
  l0 : 0 ≤ lat
  l1 : lat < 1000000000000000
theorem TideOk.zr {D B lat : Int} {re : Rat} {us : List Sw.T3} (o : TideOk D B lat re us) : Sw.SzQ 1570 re := o.gb.szB o.gre o.re0 o.reB
theorem TideOk.zu {D B lat : Int} {re : Rat} {us : List Sw.T3} (o : TideOk D B lat re us) (u : Sw.T3) (h : u ∈ us) : Sw.SzQ 5000 u.1 ∧ Sw.SzQ 5000 u.2.1 := by
  have t := o.tus u h
  have be := t.be
  have b0 := t.b0
  have eB := t.eB
  exact ⟨(o.gb.szB t.b b0 (by grind)).mono (by decide), (o.gb.szB t.e (by grind) eB).mono (by decide)⟩
theorem TideOk.lat0 {D B lat : Int} {re : Rat} {us : List Sw.T3} (o : TideOk D B lat re us) : (0 : Rat) ≤ (lat : Rat) := by
  have : ((0 : Int) : Rat) ≤ (lat : Rat) := Rat.intCast_le_intCast.mpr o.l0
  exact this
end L2
namespace L2
open PySem PySem.Spec PyProof.Rows
/-! ### a Tide's fields stored -/
theorem n_latest_reached : ¬ (("latest" : Str) = "reached") := by decide +kernel
theorem n_latest_unflowed : ¬ (("latest" : Str) = "unflowed") := by decide +kernel
theorem n_latest_last_ends : ¬ (("latest" : Str) = "last_ends") := by decide +kernel
theorem n_reached_latest : ¬ (("reached" : Str) = "latest") := by decide +kernel
theorem n_reached_unflowed : ¬ (("reached" : Str) = "unflowed") := by decide +kernel
theorem n_reached_last_ends : ¬ (("reached" : Str) = "last_ends") := by decide +kernel
theorem n_unflowed_latest : ¬ (("unflowed" : Str) = "latest") := by decide +kernel
theorem n_unflowed_reached : ¬ (("unflowed" : Str) = "reached") := by decide +kernel
theorem n_unflowed_last_ends : ¬ (("unflowed" : Str) = "last_ends") := by decide +kernel
theorem n_last_ends_latest : ¬ (("last_ends" : Str) = "latest") := by decide +kernel
theorem n_last_ends_reached : ¬ (("last_ends" : Str) = "reached") := by decide +kernel
theorem n_last_ends_unflowed : ¬ (("last_ends" : Str) = "unflowed") := by decide +kernel
theorem FT.put_lat {fs : List (Str × V)} {lat : Int} {pr pu pe : Addr} {l' : Int} (h : FT fs lat pr pu pe) : FT (putF "latest" (.int l') fs) l' pr pu pe := by
  refine ⟨?_, ?_, ?_, ?_, fun m h1 h2 h3 h4 => ?_, ?_⟩
  · rw [lookup_putF, if_pos rfl]
  · rw [lookup_putF, if_neg n_reached_latest]; exact h.rch
  · rw [lookup_putF, if_neg n_unflowed_latest]; exact h.unf
  · rw [lookup_putF, if_neg n_last_ends_latest]; exact h.lst
  · rw [lookup_putF, if_neg h1]; exact h.no m h1 h2 h3 h4
  · rw [putF_len h.lat]; exact h.len
theorem FT.put_rch {fs : List (Str × V)} {lat : Int} {pr pu pe : Addr} {r' : Addr} (h : FT fs lat pr pu pe) : FT (putF "reached" (.ref r') fs) lat r' pu pe := by
  refine ⟨?_, ?_, ?_, ?_, fun m h1 h2 h3 h4 => ?_, ?_⟩
  · rw [lookup_putF, if_neg n_latest_reached]; exact h.lat
  · rw [lookup_putF, if_pos rfl]
  · rw [lookup_putF, if_neg n_unflowed_reached]; exact h.unf
  · rw [lookup_putF, if_neg n_last_ends_reached]; exact h.lst
  · rw [lookup_putF, if_neg h2]; exact h.no m h1 h2 h3 h4
  · rw [putF_len h.rch]; exact h.len
theorem FT.put_unf {fs : List (Str × V)} {lat : Int} {pr pu pe : Addr} {u' : Addr} (h : FT fs lat pr pu pe) : FT (putF "unflowed" (.ref u') fs) lat pr u' pe := by
  refine ⟨?_, ?_, ?_, ?_, fun m h1 h2 h3 h4 => ?_, ?_⟩
  · rw [lookup_putF, if_neg n_latest_unflowed]; exact h.lat
  · rw [lookup_putF, if_neg n_reached_unflowed]; exact h.rch
  · rw [lookup_putF, if_pos rfl]
  · rw [lookup_putF, if_neg n_last_ends_unflowed]; exact h.lst
  · rw [lookup_putF, if_neg h3]; exact h.no m h1 h2 h3 h4
  · rw [putF_len h.unf]; exact h.len
theorem FT.mk0 (pr pu pe : Addr) : FT (putF "last_ends" (.ref pe) (putF "unflowed" (.ref pu) (putF "reached" (.ref pr) (putF "latest" (.int 0) [])))) 0 pr pu pe := by
  refine ⟨?_, ?_, ?_, ?_, fun m h1 h2 h3 h4 => ?_, ?_⟩
  · rw [lookup_putF, if_neg n_latest_last_ends, lookup_putF, if_neg n_latest_unflowed, lookup_putF, if_neg n_latest_reached, lookup_putF, if_pos rfl]
  · rw [lookup_putF, if_neg n_reached_last_ends, lookup_putF, if_neg n_reached_unflowed, lookup_putF, if_pos rfl]
  · rw [lookup_putF, if_neg n_unflowed_last_ends, lookup_putF, if_pos rfl]
  · rw [lookup_putF, if_pos rfl]
  · rw [lookup_putF, if_neg h4, lookup_putF, if_neg h3, lookup_putF, if_neg h2, lookup_putF, if_neg h1]; rfl
  · have a1 := putF_len' (fs := []) (f := "latest") (v := .int 0)
    have a2 := putF_len' (fs := putF "latest" (.int 0) []) (f := "reached") (v := .ref pr)
    have a3 := putF_len' (fs := putF "reached" (.ref pr) (putF "latest" (.int 0) [])) (f := "unflowed") (v := .ref pu)
    have a4 := putF_len' (fs := putF "unflowed" (.ref pu) (putF "reached" (.ref pr) (putF "latest" (.int 0) []))) (f := "last_ends") (v := .ref pe)
    simp only [List.length_nil] at a1
    omega
/-- a dict of ends -/
def EnAt (H : Hp) (kvs : List (Key × V)) (en : Int → Option Rat) : Prop := ∀ w : Int, (en w = none ∧ valV kvs (Sum.inl w : Key) = none) ∨ ∃ e q, en w = some e ∧ valV kvs (Sum.inl w : Key) = some (.ref q) ∧ H q = some (.tup (fq e))
theorem EnAt.keep {H H' : Hp} {kvs : List (Key × V)} {en : Int → Option Rat} (h : EnAt H kvs en) (e : ∀ p xs, H p = some (.tup xs) → H' p = some (.tup xs)) : EnAt H' kvs en := fun w => by
  rcases h w with z | ⟨x, q, h1, h2, h3⟩
  · exact .inl z
  · exact .inr ⟨x, q, h1, h2, e _ _ h3⟩
def setE (en : Int → Option Rat) (w : Int) (e : Rat) : Int → Option Rat := fun v => if v = w then some e else en v
theorem EnAt.put {H : Hp} {kvs : List (Key × V)} {en : Int → Option Rat} {w : Int} {e : Rat} {q : Addr} (h : EnAt H kvs en) (hq : H q = some (.tup (fq e))) : EnAt H (putK kvs (Sum.inl w) (.ref q)) (setE en w e) := fun v => by
  rw [valV_put]
  unfold setE
  by_cases hv : v = w
  · subst hv
    rw [if_pos rfl, if_pos rfl]
    exact .inr ⟨e, q, rfl, rfl, hq⟩
  · rw [if_neg hv, if_neg (by intro z; exact hv (Sum.inl.inj z))]
    exact h v
/-- a Tide stands at p, its ends at pe -/
structure Td (C : Addr) (H : Hp) (p pe : Addr) (lat : Int) (re : Rat) (us : List Sw.T3) (en : Int → Option Rat) (m : Nat) : Prop where
  ex : ∃ dx fs pr pu ps kvs, H p = some (.ins C dx fs) ∧ FT fs lat pr pu pe ∧ H pr = some (.tup (fq re)) ∧ H pu = some (.lst (ps.map V.ref)) ∧ TagsAt H ps us ∧ H pe = some (.dK kvs) ∧ EnAt H kvs en ∧ kvs.length ≤ m ∧ us.length ≤ m
theorem Td.m {C : Addr} {H : Hp} {p pe : Addr} {lat : Int} {re : Rat} {us : List Sw.T3} {en : Int → Option Rat} {m : Nat} (h : Td C H p pe lat re us en m) : TdM C H p lat re us := by
  obtain ⟨dx, fs, pr, pu, ps, kvs, h1, h2, h3, h4, h5, _⟩ := h.ex
  exact ⟨dx, fs, pr, pu, pe, ps, h1, h2, h3, h4, h5⟩
theorem Td.same {C : Addr} {H H' : Hp} {p pe : Addr} {lat : Int} {re : Rat} {us : List Sw.T3} {en : Int → Option Rat} {m : Nat} (h : Td C H p pe lat re us en m) (s : Same H H') : Td C H' p pe lat re us en m := by
  obtain ⟨dx, fs, pr, pu, ps, kvs, h1, h2, h3, h4, h5, h6, h7, h8⟩ := h.ex
  exact ⟨dx, fs, pr, pu, ps, kvs, s _ _ h1, h2, s _ _ h3, s _ _ h4, tags_same h5 s, s _ _ h6, h7.keep fun _ _ q => s _ _ q, h8⟩
/-- all but p and d has stayed -/
def Kept (p d : Addr) (H H' : Hp) : Prop := ∀ b o, b ≠ p → b ≠ d → H b = some o → H' b = some o
theorem Same.kept {p d : Addr} {H H' : Hp} (h : Same H H') : Kept p d H H' := fun b o _ _ e => h b o e
theorem Kept.trans {p d : Addr} {H H1 H2 : Hp} (a : Kept p d H H1) (b : Kept p d H1 H2) : Kept p d H H2 := fun c o n1 n2 h => b c o n1 n2 (a c o n1 n2 h)
theorem Kept.other {C C' : Addr} {H H' : Hp} {p pe q qe dx' : Addr} {fs' : List (Str × V)} {kvs' : List (Key × V)} {lat : Int} {re : Rat} {us : List Sw.T3} {en : Int → Option Rat} {m : Nat} (h : Td C H p pe lat re us en m) (k : Kept q qe H H') (hq : H q = some (.ins C' dx' fs')) (hqe : H qe = some (.dK kvs')) (n1 : p ≠ q) (n2 : pe ≠ qe) : Td C H' p pe lat re us en m := by
  obtain ⟨dx, fs, pr, pu, ps, kvs, h1, h2, h3, h4, h5, h6, h7, h8⟩ := h.ex
  have kt : ∀ p xs, H p = some (.tup xs) → H' p = some (.tup xs) := fun p xs e => k _ _ (ne_of e hq (by intro z; cases z)) (ne_of e hqe (by intro z; cases z)) e
  exact ⟨dx, fs, pr, pu, ps, kvs, k _ _ n1 (ne_of h1 hqe (by intro z; cases z)) h1, h2, kt _ _ h3, k _ _ (ne_of h4 hq (by intro z; cases z)) (ne_of h4 hqe (by intro z; cases z)) h4, tags_keep h5 kt, k _ _ (ne_of h6 hq (by intro z; cases z)) n2 h6, h7.keep kt, h8⟩
end L2
namespace Sw
open L2
theorem markF_ok {us : List T3} {D B : Int} {t : Int} (gb : GB D B) (ok : ∀ u ∈ us, TagOk D B u) (lu : us.length ≤ 100) : ∀ (n : Nat) (mo re : Rat), Grd D mo → mo ≤ (t : Rat) → Grd D re → 0 ≤ re → re ≤ (B : Rat) →
    (∃ S : Int, 1 ≤ S ∧ S ≤ us.length * 1000000 + 1 ∧ Grd (D * S) (markF us (t : Rat) n mo re)) ∧ re ≤ markF us (t : Rat) n mo re ∧ markF us (t : Rat) n mo re ≤ (B : Rat)
  | 0, mo, re, gm, hm, gr, r0, r1 => ⟨⟨1, by decide, by omega, gr.more (by have := gb.D0; omega) (by decide)⟩, by unfold markF; grind, by unfold markF; exact r1⟩
  | n + 1, mo, re, gm, hm, gr, r0, r1 => by
    have D0 : D ≠ 0 := by have := gb.D0; omega
    unfold markF
    by_cases hn : hds us re = []
    · rw [if_pos hn]
      exact ⟨⟨1, by decide, by omega, gr.more D0 (by decide)⟩, by grind, r1⟩
    · rw [if_neg hn]
      have gt := fstE_gt hn
      have hok : ∀ u ∈ hds us re, TagOk D B u := fun u h => ok u (hds_mem h).1
      have hS := sumS_ok hok hn
      have hl : (hds us re).length ≤ us.length := List.length_filter_le _ _
      obtain ⟨uf, huf, ef⟩ := fstE_mem hn
      have gf : Grd D (fstE (hds us re)) := by rw [ef]; exact (hok uf huf).e
      have fB : fstE (hds us re) ≤ (B : Rat) := by rw [ef]; exact (hok uf huf).eB
      generalize fstE (hds us re) = fv at gt gf fB ⊢
      generalize sumS (hds us re) = S at hS ⊢
      have Sp : (0 : Rat) < (S : Rat) := q_cast_pos (by omega)
      by_cases hlt : (t : Rat) < mo + (fv - re) * (S : Rat)
      · rw [if_pos hlt]
        have x0 : 0 ≤ ((t : Rat) - mo) / (S : Rat) := by
          have : ¬ ((t : Rat) - mo) / (S : Rat) < 0 := by rw [Rat.div_lt_iff Sp]; grind
          grind
        have x1 : ((t : Rat) - mo) / (S : Rat) < fv - re := by rw [Rat.div_lt_iff Sp]; grind
        refine ⟨⟨S, hS.1, by omega, (gr.more D0 (by omega)).add (((Grd.int D0 t).sub gm).divi D0 (by omega))⟩, by grind, by grind⟩
      · rw [if_neg hlt]
        have ih := markF_ok (t := t) gb ok lu n (mo + (fv - re) * (S : Rat)) fv (gm.add ((gf.sub gr).muli S)) (by grind) gf (by grind) fB
        exact ⟨ih.1, by have := ih.2.1; grind, ih.2.2⟩
theorem markAt_ok {us : List T3} {D B lat : Int} {re : Rat} {t : Int} (o : TideOk D B lat re us) (h : lat ≤ t) :
    (∃ S : Int, 1 ≤ S ∧ S ≤ us.length * 1000000 + 1 ∧ Grd (D * S) (markAt us lat re t)) ∧ re ≤ markAt us lat re t ∧ markAt us lat re t ≤ (B : Rat) :=
  markF_ok o.gb o.tus o.len _ _ _ (Grd.int (by have := o.gb.D0; omega) lat) (Rat.intCast_le_intCast.mpr h) o.gre o.re0 o.reB
theorem markAt_self {us : List T3} {D B lat : Int} {re : Rat} (o : ∀ u ∈ us, TagOk D B u) : markAt us lat re lat = re := by
  unfold markAt markF
  by_cases hn : hds us re = []
  · rw [if_pos hn]
  · rw [if_neg hn]
    have gt := fstE_gt hn
    have hS := sumS_ok (D := D) (B := B) (fun u h => o u (hds_mem h).1) hn
    have Sp : (0 : Rat) < (sumS (hds us re) : Rat) := q_cast_pos (by omega)
    have := Rat.mul_pos (a := fstE (hds us re) - re) (by grind) Sp
    rw [if_pos (by grind)]
    have : ((lat : Rat) - (lat : Rat)) / (sumS (hds us re) : Rat) = 0 := by grind
    rw [this]; grind
/-- a piece's begin tag, and what flows on behind its coming -/
def begOn (en : Int → Option Rat) (rv : Rat) (w : Int) : Rat := max rv ((en w).getD rv)
def usOn (us : List T3) (rv b : Rat) (len sh : Int) : List T3 := (us.filter fun u => decide (rv < u.2.1)) ++ [(b, b + (len : Rat) / (sh : Rat), sh)]
end Sw
namespace L2
open PySem PySem.Spec PyProof.Rows
theorem tc_en (l : Value) (t : Tok) : checkTypeCall "enumerate" { pos := [l], kw := [("start", .int 1 t)] } = pure () := by
  with_unfolding_all rfl
theorem nc_en (l : Value) (t : Tok) : checkBuiltinCall "enumerate.__new__" { pos := [Value.type "enumerate", l], kw := [("start", .int 1 t)] } = pure () := by
  with_unfolding_all rfl
theorem call_enum1 {prog : Program} {w : World} {A : Around} {E : Value → Shared → Prop} {s : Shared} {l : Addr} {items : Array Value} {t : Tok} {Q : Value → Shared → Prop} (hl : s.heap.IsList l items)
    (h : ∀ h' : Heap, IsEnum h' (s.heap.objs.size + 1) s.heap.objs.size 1 Value.none → h'.IsListIter s.heap.objs.size l 0 → h'.objs.size = s.heap.objs.size + 2 → (∀ b o, s.heap.get? b = some o → h'.get? b = some o) → Q (.ref (s.heap.objs.size + 1)) { s with heap := h' }) :
    wpAny (model prog w) A (call (.type "enumerate") [.ref l] [("start", .int 1 t)]) Q E s := by
  refine wpAny_call (codeAny_of_tree ?_)
  show wpAny _ _ (callAny (.type "enumerate") _) _ _ _
  repeat (any_goals (first | assumption | wp_step))
  refine ⟨Code.quiet_builtin _ (by decide +kernel), codeAny_builtin entry_typeCall ?_⟩
  have TC := PySem.F.called_enumerate
  show wpAny _ _ (Builtin.«type.__call__» ⟨[.type "enumerate", .ref l], [("start", .int 1 t)]⟩) _ _ _
  unfold Builtin.«type.__call__»
  obtain ⟨c, tl, hm⟩ := TC.mro
  simp only [TC.notType, Bool.false_eq_true, if_false, TC.canCreate, tc_en, hm, TC.made]
  repeat (first | assumption | wp_step)
  refine codeAny_call_builtin TC.plain PySem.F.entry_enumerate_new ?_
  rw [nc_en]
  refine wpAny_pure ?_
  unfold Builtin.«enumerate.__new__»
  repeat (first | assumption | wp_step)
  rw [TC.sub]
  refine wpAny_pure ?_
  repeat (first | assumption | wp_step)
  refine wpAny_stack_any fun st => ?_
  refine wpAny_pure ?_
  have fin : ∀ (h2 : Heap), h2 = (s.heap.push { cls := Value.type "list_iterator", data := Data.fields #[Value.ref l, Value.int 0 0] }).push { cls := Value.type "enumerate", data := Data.fields #[Value.none, Value.bool false, Value.ref s.heap.objs.size, rawInt 1, Value.none, Value.none] } →
      IsEnum h2 (s.heap.objs.size + 1) s.heap.objs.size 1 Value.none ∧ Q (.ref (s.heap.objs.size + 1)) { s with heap := h2 } := fun h2 e => by
    subst e
    have e1 : IsEnum ((s.heap.push { cls := Value.type "list_iterator", data := Data.fields #[Value.ref l, Value.int 0 0] }).push { cls := Value.type "enumerate", data := Data.fields #[Value.none, Value.bool false, Value.ref s.heap.objs.size, rawInt 1, Value.none, Value.none] }) (s.heap.objs.size + 1) s.heap.objs.size 1 Value.none := by
      unfold IsEnum
      heap_get
    refine ⟨e1, h _ e1 ⟨_, Heap.get?_push_of_some _ (Heap.get?_push_at rfl rfl), rfl, rfl⟩ (by simp) fun b o e => Heap.get?_push_of_some _ (Heap.get?_push_of_some _ e)⟩
  show wpAny _ _ (if _ then _ else _) _ _ _
  split
  all_goals
    try split
  all_goals
    refine wpAny_bind ?_
    show wpAny _ _ (pure (Value.ref l, some (Value.int 1 t))) _ _ _
    refine wpAny_pure ?_
    repeat (first | assumption | with_reducible refine wpAny_pyIter_list hl ?_ | wp_step)
    show wpAny _ _ (isSubtype (Value.type "enumerate") (Value.type "enumerate")) _ _ _
    rw [TC.sub]
    refine wpAny_pure ?_
    have F := fin _ rfl
    have sz : (s.heap.push { cls := Value.type "list_iterator", data := Data.fields #[Value.ref l, Value.int 0 0] }).objs.size = s.heap.objs.size + 1 := by simp
    have e0 : (Builtin.SmallTypes.ownedTupleFields ++ [Value.ref s.heap.objs.size, rawInt 1, Value.none, Value.none]).toArray = #[Value.none, Value.bool false, Value.ref s.heap.objs.size, rawInt 1, Value.none, Value.none] := rfl
    rw [sz, e0]
    generalize (s.heap.push { cls := Value.type "list_iterator", data := Data.fields #[Value.ref l, Value.int 0 0] }).push { cls := Value.type "enumerate", data := Data.fields #[Value.none, Value.bool false, Value.ref s.heap.objs.size, rawInt 1, Value.none, Value.none] } = h2 at F ⊢
    have ty : ∀ (g : Array GenState) (d : Drawn) (tk : Nat) (os : OsState), (⟨h2, g, d, tk, os⟩ : Shared).TypeIs (.ref (s.heap.objs.size + 1)) "enumerate" := fun _ _ _ _ => ⟨_, F.1, rfl⟩
    refine wpAny_bind (wpAny_holding (wpAny_callSpecial?_slot (ty _ _ _ _) PySem.F.slot_enumerate_init ?_))
    refine wpAny_call_entry_kw PySem.F.slot_enumerate_init (ty _ _ _ _) PySem.F.entry_object_init ?_ ?_
    · unfold Builtin.«object.__init__»
      have tl := PySem.F.slot_enumerate_init.lookup
      repeat (first | assumption | with_reducible refine wpAny_loadPart_at F.1 ?_ | (show wpAny _ _ (Bind.madeBy (Value.type "enumerate")) _ _ _; rw [TC.made]; refine wpAny_pure ?_) | wp_step)
      refine ⟨_, rfl, ?_⟩
      repeat (first | assumption | wp_step)
      exact F.2
    · first | exact True.intro | rfl | (unfold argsOk; with_unfolding_all rfl)
end L2
namespace L2
open PySem PySem.Spec PyProof.Rows
/-- enumerate(xs, start = 1) walked -/
def Ite1 (K : PySem.W.Frag) (a : Addr) : It :=
  ⟨fun i H => ∃ xs x, SqL K H a xs ∧ xs[i]? = some x,
   fun i H y H' => ∃ p x, y = .ref p ∧ H p = none ∧ (∀ xs, SqL K H a xs → xs[i]? = some x) ∧ H' = upd H p (.tup [.int ((i + 1 : Nat) : Int), x]),
   fun i H => ∃ xs, SqL K H a xs ∧ xs.length = i⟩
theorem draws_shift {prog : Program} {w : World} {A : Around} (hh : A.handled = none) (it l : Addr) (hne : l ≠ it) (items : Array Value) :
    Draws prog w A it [it, l] (items.size + 1) (fun j v => items[j - 1]? = some v) (fun j h => 1 ≤ j ∧ h.IsListIter it l (j - 1) ∧ h.IsList l items) := by
  have D := Draws.list (prog := prog) (w := w) hh it l hne items
  exact ⟨fun j h st => D.live (j - 1) h st.2, fun j h h' st k => ⟨st.1, D.frame (j - 1) h h' st.2 k⟩,
    fun j s Q E hj st k => D.item (j - 1) s Q E (by have := st.1; omega) st.2 fun x h' tk p st' sb => k x h' tk p ⟨by omega, by rw [show j + 1 - 1 = (j - 1) + 1 by have := st.1; omega]; exact st'⟩ sb,
    fun s Q E st k => D.done s Q E (by simpa using st.2) k⟩
theorem turn_enum1 {P : Program} {w : World} {K : PySem.W.Frag} {elts : List Expr} {x1} {pos : Pos} (a e it : Addr) (hei : e ≠ it) :
    Turn P w K (.Tuple elts x1 pos) (Ite1 K a) [e, it] e (fun i h => (∃ old, IsEnum h e it ((i + 1 : Nat) : Int) old) ∧ h.IsListIter it a i) where
  mem := by simp
  obj := fun i h st b hb => by
    obtain ⟨⟨old, he⟩, hit⟩ := st
    rcases List.mem_cons.mp hb with rfl | hb
    · exact ⟨_, he, fun v z => by cases z⟩
    · have e : b = it := by simpa using hb
      subst e
      obtain ⟨o, e, c, d⟩ := hit
      exact ⟨o, e, fun v z => by rw [d] at z; cases z⟩
  keep := fun i h h' st k => by
    obtain ⟨⟨old, he⟩, hit⟩ := st
    exact ⟨⟨old, k e (by simp) _ he⟩, hit.at fun o q => k it (by simp) o q⟩
  item := by
    intro X hP hw hK hc i pins s σ H E I hf st hg
    subst hP hw hK
    obtain ⟨⟨old, he⟩, hit⟩ := st
    obtain ⟨xs, x, hq, hx⟩ := hg
    obtain ⟨its, rv, p, hz⟩ := I.list hq
    obtain ⟨u, hu, ru⟩ := rv.get hx
    obtain ⟨f0, f1, f2, f3, f4, f5⟩ := hf e (by simp)
    obtain ⟨g0, g1, g2, g3, g4, g5⟩ := hf it (by simp)
    have hes : e < s.heap.objs.size := Heap.lt_size he
    have his : it < s.heap.objs.size := by obtain ⟨o, q, _⟩ := id hit; exact Heap.lt_size q
    have hda : (X.A.in1).handled = none := I.ok.hd hc
    have nai : a ≠ it := fun z => by
      obtain ⟨oo, q1, q2, q3⟩ := id hit
      obtain ⟨o2, q4, q5, _⟩ := id p.isList
      rw [z] at q4
      rw [q1] at q4
      cases q4
      rw [q2] at q5
      injection q5 with z5
      exact absurd z5 (by decide)
    refine wpAny_pyNext_enum_itemD (draws_shift hda it a nai its.toArray) he ⟨by omega, hit, p.isList⟩ (by have := rv.length; have := (List.getElem?_eq_some_iff.mp hu).1; simp; omega) hei (by simp [hei]; intro z; rw [z] at he; obtain ⟨o2, q4, q5, _⟩ := id p.isList; rw [he] at q4; cases q4; injection q5 with z5; exact absurd z5 (by decide)) fun x' h1 tk hx' heo st1 ht1 hz1 hk1 => ?_
    have eu : x' = u := by
      have q : its.toArray[i + 1 - 1]? = some x' := hx'
      have q2 : its[i]? = some x' := by simpa using q
      rw [hu] at q2
      exact (Option.some.inj q2).symm
    subst eu
    have hit1 : h1.IsListIter it a (i + 1) := by have := st1.2.1; simpa using this
    refine ⟨.ref s.heap.objs.size, rfl, wpAny_letOwnedTupleGo_enum heo fun h2 he2 hs2 => ?_⟩
    have hs2' : Heap.SameBut e h1 h2 := hs2
    have hit2 : h2.IsListIter it a (i + 1) := hit1.at fun o q => (hs2'.2 it (Ne.symm hei)).trans q
    have fresh : H s.heap.objs.size = none := I.hok.fresh (Nat.le_refl _)
    have htup : h2.get? s.heap.objs.size = some { cls := .type "tuple", data := .seq #[.int ((i + 1 : Nat) : Int) tk, x'] } := (hs2'.2 _ (Nat.ne_of_gt hes)).trans ht1
    have nit : ∀ b v, H b = some v → b ≠ e ∧ b ≠ it := fun b v q => ⟨fun z => (by rw [z, f0] at q; cases q), fun z => (by rw [z, g0] at q; cases q)⟩
    have k2 : ∀ b o, b ≠ e → b ≠ it → s.heap.get? b = some o → h2.get? b = some o := fun b o n1 n2 q => (hs2'.2 b n1).trans (hk1 b o n1 n2 q)
    have up : ∀ b o, H b = some o → (upd H s.heap.objs.size (.tup [.int ((i + 1 : Nat) : Int), x])) b = some o := fun b o q => by rw [upd_ne (ne_of_none q fresh)]; exact q
    have I2 : Inv X pins σ (upd H s.heap.objs.size (.tup [.int ((i + 1 : Nat) : Int), x])) { s with heap := h2, toks := tk + 1 } := by
      refine I.step (g' := s.gens) (d' := s.drawn) (ch := [e, it]) (fun b hb => ?_) (fun b o _ _ hc q _ => k2 b o (fun z => hc (by simp [z])) (fun z => hc (by simp [z])) q)
        (fun b o _ _ hc q _ => ⟨o.slots, k2 b o (fun z => hc (by simp [z])) (fun z => hc (by simp [z])) q⟩) (fun b o _ q n => by rw [upd_ne (Nat.ne_of_lt (Heap.lt_size q))]; exact n)
        (fun b o hc q => ?_) (fun b ys q => up b _ q) (fun b ob v q => up b _ q) (fun b ps q => ⟨#[], by rw [up b _ q]; simp⟩) (fun m hm => ?_) (fun b v q => ?_) I.bare
      · rcases List.mem_cons.mp hb with rfl | hb
        · exact ⟨f3, f1, f4, f5⟩
        · have z : b = it := by simpa using hb
          subst z
          exact ⟨g3, g1, g4, g5⟩
      · exact ⟨o, k2 b o (fun z => hc (by simp [z])) (fun z => hc (by simp [z])) q⟩
      · obtain ⟨o, es, ep, ho, r⟩ := hm
        exact ⟨o, es, ep, k2 _ o (Ne.symm f1) (Ne.symm g1) ho, r⟩
      · by_cases hb : b = s.heap.objs.size
        · subst hb
          rw [upd_same] at q
          cases q
          exact ⟨by show 2 ≤ sizeLine; decide, [.int ((i + 1 : Nat) : Int) tk, x'], .cons ⟨_, rfl⟩ (.cons ru .nil), _, htup, rfl, _, rfl⟩
        · rw [upd_ne hb] at q
          refine (I.hok b v q).stay (fun c v' hc q' => ?_) (fun c z => up c _ z) fun c ys z => up c _ z
          have hcn : c ≠ e ∧ c ≠ it := by
            rcases hc with z | z
            · rw [z]; exact nit b v q
            · exact nit c _ z
          exact k2 c v' hcn.1 hcn.2 q'
    refine ⟨.ref s.heap.objs.size, _, I2, rfl, ⟨s.heap.objs.size, x, rfl, fresh, fun ys hy => by rw [I.list_inj hy hq]; exact hx, rfl⟩, ⟨⟨x', by simpa using he2⟩, hit2⟩, fun b hb => ?_⟩
    rw [upd_ne]
    · exact (hf b hb).1
    · intro z
      rcases List.mem_cons.mp hb with y | y
      · rw [y] at z; exact absurd z (Nat.ne_of_lt hes)
      · have y : b = it := by simpa using y
        rw [y] at z; exact absurd z (Nat.ne_of_lt his)
  done := by
    intro X hP hw hK hc i pins s σ H E I hf st hg
    subst hP hw hK
    obtain ⟨⟨old, he⟩, hit⟩ := st
    obtain ⟨xs, hq, hx⟩ := hg
    obtain ⟨its, rv, p, hz⟩ := I.list hq
    obtain ⟨g0, g1, g2, g3, g4, g5⟩ := hf it (by simp)
    have hl := rv.length
    have hda : (X.A.in1).handled = none := I.ok.hd hc
    have nai : a ≠ it := fun z => by
      obtain ⟨oo, q1, q2, q3⟩ := id hit
      obtain ⟨o2, q4, q5, _⟩ := id p.isList
      rw [z] at q4
      rw [q1] at q4
      cases q4
      rw [q2] at q5
      injection q5 with z5
      exact absurd z5 (by decide)
    have ei : its.toArray.size + 1 - 1 = i := by simp; omega
    exact wpAny_pyNext_enum_endD (draws_shift hda it a nai its.toArray) he ⟨by omega, by rw [ei]; exact hit, p.isList⟩ fun h' eb => ⟨rfl, I.turned (t' := s.toks) (fun b o hb q => eb b o hb q) g0 g1 g3 g4 g5⟩
  self := fun _ _ _ _ _ st h => by
    obtain ⟨⟨old, he⟩, _⟩ := st
    exact wpAny_pyIter_enum he h
section
variable {X : Cx}
def iEnum1 (K : PySem.W.Frag) (ta : TA) : TI := fun σ H R => ta σ H fun vs H1 => ∃ a, vs = [.ref a] ∧ (∃ xs, SqL K H1 a xs) ∧ R (Ite1 K a) H1
end
/-- over a list enumerated from 1 on that the body leaves as it is -/
theorem for_enum1 {K : PySem.W.Frag} {a : Addr} {xs : List V} {g : TG} {tb : TS} {D : Ends} {σ : St} {H : Hp} (Pv : Nat → St → Hp → Prop) (h0 : Pv 0 σ H) (hl : ∀ i σ H, i ≤ xs.length → Pv i σ H → SqL K H a xs)
    (hs : ∀ i x σ H p, xs[i]? = some x → Pv i σ H → H p = none → g (.ref p) σ (upd H p (.tup [.int ((i + 1 : Nat) : Int), x])) fun σ2 H2 => tb { D with nx := Pv (i + 1), ct := Pv (i + 1), bk := D.nx } σ2 H2) (hd : ∀ σ H, Pv xs.length σ H → D.nx σ H) :
    ∃ W : Nat → Nat → St → Hp → Prop, (∃ m, W 0 m σ H) ∧ ∀ i m σ H, W i m σ H →
      ((Ite1 K a).stop i H ∧ D.nx σ H) ∨ ((Ite1 K a).go i H ∧ ∃ N : St → Hp → Prop, (∀ σ' H', N σ' H' → ∃ m', m' < m ∧ W (i + 1) m' σ' H') ∧ ∀ x H', (Ite1 K a).yld i H x H' → g x σ H' fun σ2 H2 => tb { D with nx := N, ct := N, bk := D.nx } σ2 H2) := by
  refine ⟨fun i m σ H => m = xs.length - i ∧ i ≤ xs.length ∧ Pv i σ H, ⟨xs.length, by simp, Nat.zero_le _, h0⟩, ?_⟩
  rintro i m σ H ⟨rfl, hi, p⟩
  have q := hl i σ H hi p
  by_cases hlt : i < xs.length
  · refine .inr ⟨⟨xs, xs[i], q, by simp [hlt]⟩, Pv (i + 1), fun σ' H' p' => ⟨xs.length - (i + 1), by omega, rfl, hlt, p'⟩, fun y H' z => ?_⟩
    obtain ⟨b, x, rfl, hb, hx, rfl⟩ := z
    exact hs i x σ H b (hx xs q) p hb
  · have e : i = xs.length := by omega
    subst e
    exact .inl ⟨⟨xs, q, rfl⟩, hd σ H p⟩
end L2
namespace L2
open PySem PySem.Spec PyProof.Rows
theorem callWith_type_kw {M : Model} {A : Around} {E : Value → Shared → Prop} {s : Shared} {pos : Pos} {T : String} {first : List Value} {args : List (Bool × Sem Value)} {keywords : List (Option Str × Sem Value)} {Q : Value → Shared → Prop}
    (ha : (args.any fun x => x.fst) = false) (hk : (keywords.any fun x => x.fst.isNone) = false)
    (h : wpAny M A (evalArgs (Value.type T) true args keywords) (fun a s₁ => wpAny M A (call (Value.type T) (first ++ a.pos) a.kw) Q E s₁) E s) : wpAny M A (callWith pos (Value.type T) first args keywords) Q E s := by
  unfold callWith
  refine wpAny_bind (wpAny_holding (wpAny_mono h (fun a s1 h1 => ?_) fun _ _ z => z))
  rw [ha, hk]
  show wpAny M A _ Q E s1
  refine wpAny_bind (wpAny_standAt ?_)
  unfold keeperOf
  refine wpAny_bind (wpAny_pure ?_)
  show wpAny M A _ Q E s1
  refine wpAny_bind ?_
  exact wpAny_mono h1 (fun r s2 h2 => wpAny_bind (wpAny_holding (wpAny_point (wpAny_pure h2)))) fun _ _ z => z
section
variable {X : Cx}
theorem pi_enum1 (K : PySem.W.Frag) (hK : X.K = K) {l d : Expr} {ta : TA} {p pos kpos tpos : Pos} {elts : List Expr} {x1} (hg : Gl X "enumerate") (hm : X.mg "enumerate" = none) (ha : PA X [l] ta) (hd : PE X d (tC (.int 1)))
    (hs : starEach [l] X.env = [(false, eval l X.env)] := by rfl) :
    PI X (.Tuple elts x1 tpos) (.Call (.Name "enumerate" p) [l] [⟨some "start", d, kpos⟩] pos) (iEnum1 K ta) := by
  subst hK
  intro pins s σ H R I h
  refine wpAny_Call_Name_kw (ld_blt I hg hm boot_enumerate ?_)
  refine callWith_type_kw (by rw [hs]; rfl) rfl ?_
  refine evalArgs_kw2 rfl ?_ (by rw [hs]; rfl)
  refine thn (ha pos pins s σ H _ I h) fun us s1 ⟨vs, H1, I1, r1, q1⟩ => ?_
  refine kws_cons (thn (hd pins s1 σ H1 (fun v H' => v = .int 1 ∧ H' = H1) I1 ⟨rfl, rfl⟩) fun y s2 ⟨yv, H2, I2, r2, q2⟩ => kws_nil ?_)
  obtain ⟨rfl, rfl⟩ := q2
  obtain ⟨a, rfl, ⟨xs, hq⟩, q⟩ := q1
  obtain ⟨u, rfl, r⟩ := Vals.one r1
  cases r
  obtain ⟨t, rfl⟩ := (show ∃ t, y = Value.int 1 t from r2)
  obtain ⟨its, rv, p, hz⟩ := I2.list hq
  refine call_enum1 p.isList fun h' he hit hsz hk => ?_
  refine wpAny_pyIter_enum he ?_
  refine ⟨s2.heap.objs.size + 1, [s2.heap.objs.size + 1, s2.heap.objs.size], _, _, _, rfl, I2.kept (t' := s2.toks) hk, turn_enum1 a _ _ (Nat.succ_ne_self _), ⟨⟨_, he⟩, hit⟩, fun b hb => ?_, q⟩
  rcases List.mem_cons.mp hb with e | e
  · subst e; exact I2.fpOk (Nat.le_succ _) (I2.hok.fresh (Nat.le_succ _))
  · have e : b = s2.heap.objs.size := by simpa using e
    subst e
    exact I2.fpOk (Nat.le_refl _) (I2.hok.fresh (Nat.le_refl _))
/-! ### reversed(xs) walked -/
def Itv (K : PySem.W.Frag) (a : Addr) (xs : List V) : It :=
  ⟨fun i H => SqL K H a xs ∧ i < xs.length, fun i H x H' => H' = H ∧ xs.reverse[i]? = some x, fun i H => SqL K H a xs ∧ xs.length = i⟩
theorem turn_rev {P : Program} {w : World} {K : PySem.W.Frag} {tg : Expr} (a it : Addr) (xs : List V) (n : Nat) (hn : xs.length = n) : Turn P w K tg (Itv K a xs) [it] it (fun i h => h.IsRevIter it a ((n : Int) - 1 - (i : Nat))) where
  mem := by simp
  obj := fun i h st b hb => by
    have e : b = it := by simpa using hb
    subst e
    obtain ⟨o, h1, h2, h3⟩ := st
    exact ⟨o, h1, fun v z => by rw [h3] at z; cases z⟩
  keep := fun i h h' st k => by
    obtain ⟨o, h1, h2, h3⟩ := st
    exact ⟨o, k it (by simp) o h1, h2, h3⟩
  item := by
    intro X hP hw hK hc i pins s σ H E I hf st hg
    subst hP hw hK
    obtain ⟨f0, f1, f2, f3, f4, f5⟩ := hf it (by simp)
    obtain ⟨hq, hlt⟩ := hg
    obtain ⟨its, rv, p, hz⟩ := I.list hq
    have hl := rv.length
    have ej : ((n : Int) - 1 - (i : Nat)) = ((n - 1 - i : Nat) : Int) := by omega
    rw [ej] at st
    have hj : n - 1 - i < xs.length := by omega
    obtain ⟨u, hu, ru⟩ := rv.get (List.getElem?_eq_getElem hj)
    refine wpAny_pyNext_rev_item st p.isList (x := u) (by simpa using hu) fun h' st' sb => ?_
    have I1 : Inv X pins σ H { s with heap := h' } := I.turned (t' := s.toks) (fun b o hb e => sb.extBut b o hb e) f0 f1 f3 f4 f5
    have st2 : h'.IsRevIter it a ((n : Int) - 1 - ((i + 1 : Nat) : Int)) := by
      have : ((n : Int) - 1 - ((i + 1 : Nat) : Int)) = ((n - 1 - i : Nat) : Int) - 1 := by omega
      rw [this]; exact st'
    obtain ⟨o, o1, o2, o3⟩ := id st2
    refine ⟨u, rfl, go_of (s := { s with heap := h' }) o1 o2 o3 (by decide) ⟨xs[n - 1 - i], H, I1, ru, ⟨rfl, ?_⟩, st2, fun b hb => (hf b hb).1⟩⟩
    rw [List.getElem?_reverse (by omega), hn]
    exact List.getElem?_eq_getElem hj
  done := by
    intro X hP hw hK hc i pins s σ H E I hf st hg
    subst hP hw hK
    obtain ⟨f0, f1, f2, f3, f4, f5⟩ := hf it (by simp)
    obtain ⟨hq, he⟩ := hg
    have ej : ((n : Int) - 1 - (i : Nat)) = -1 := by omega
    rw [ej] at st
    exact wpAny_pyNext_rev_end (I.ok.hd hc) st fun h' eb => ⟨rfl, I.turned (t' := s.toks) (fun b o hb e => eb b o hb e) f0 f1 f3 f4 f5⟩
  self := fun _ _ _ _ _ st h => wpAny_pyIter_revIter st h
def iRev (K : PySem.W.Frag) (ta : TA) : TI := fun σ H R => ta σ H fun vs H1 => ∃ a xs, vs = [.ref a] ∧ SqL K H1 a xs ∧ R (Itv K a xs) H1
theorem pi_rev (K : PySem.W.Frag) (hK : X.K = K) {tg l : Expr} {ta : TA} {p pos : Pos} (hg : Gl X "reversed") (hm : X.mg "reversed" = none) (ha : PA X [l] ta) (hs : starEach [l] X.env = [(false, eval l X.env)] := by rfl) :
    PI X tg (.Call (.Name "reversed" p) [l] [] pos) (iRev K ta) := by
  subst hK
  intro pins s σ H R I h
  refine Call_ (ld_blt I hg hm boot_reversed (PyProof.Rows.callWith_type1 (thn (ha pos pins s σ H _ I h) fun us s1 ⟨vs, H1, I1, r1, q1⟩ => ?_) hs rfl))
  obtain ⟨a, xs, rfl, hq, q⟩ := q1
  obtain ⟨u, rfl, r⟩ := Vals.one r1
  cases r
  obtain ⟨its, rv, p, hz⟩ := I1.list hq
  refine call_reversed_list p.isList ?_
  have hit : (s1.heap.push (revObj a ((its.toArray.size : Int) - 1))).IsRevIter s1.heap.objs.size a ((its.toArray.size : Int) - 1) := ⟨_, Heap.get?_push_size _ rfl, rfl, rfl⟩
  refine wpAny_pyIter_revIter hit ?_
  have hl := rv.length
  refine ⟨s1.heap.objs.size, [s1.heap.objs.size], _, _, H1, rfl, I1.kept (t' := s1.toks) fun b o e => Heap.get?_push_of_some _ e, turn_rev a _ xs its.toArray.size (by simp; exact hl), ?_, fun b hb => ?_, q⟩
  · show Heap.IsRevIter _ _ _ ((its.toArray.size : Int) - 1 - ((0 : Nat) : Int))
    have : ((its.toArray.size : Int) - 1 - ((0 : Nat) : Int)) = (its.toArray.size : Int) - 1 := by omega
    rw [this]; exact hit
  · have e : b = s1.heap.objs.size := by simpa using hb
    subst e
    exact I1.fpOk (Nat.le_refl _) (I1.hok.fresh (Nat.le_refl _))
end
theorem for_rev {K : PySem.W.Frag} {a : Addr} {xs : List V} {g : TG} {tb : TS} {D : Ends} {σ : St} {H : Hp} (Pv : Nat → St → Hp → Prop) (h0 : Pv 0 σ H) (hl : ∀ i σ H, i ≤ xs.length → Pv i σ H → SqL K H a xs)
    (hs : ∀ i x σ H, xs.reverse[i]? = some x → Pv i σ H → g x σ H fun σ2 H2 => tb { D with nx := Pv (i + 1), ct := Pv (i + 1), bk := D.nx } σ2 H2) (hd : ∀ σ H, Pv xs.length σ H → D.nx σ H) :
    ∃ W : Nat → Nat → St → Hp → Prop, (∃ m, W 0 m σ H) ∧ ∀ i m σ H, W i m σ H →
      ((Itv K a xs).stop i H ∧ D.nx σ H) ∨ ((Itv K a xs).go i H ∧ ∃ N : St → Hp → Prop, (∀ σ' H', N σ' H' → ∃ m', m' < m ∧ W (i + 1) m' σ' H') ∧ ∀ x H', (Itv K a xs).yld i H x H' → g x σ H' fun σ2 H2 => tb { D with nx := N, ct := N, bk := D.nx } σ2 H2) := by
  refine ⟨fun i m σ H => m = xs.length - i ∧ i ≤ xs.length ∧ Pv i σ H, ⟨xs.length, by simp, Nat.zero_le _, h0⟩, ?_⟩
  rintro i m σ H ⟨rfl, hi, p⟩
  have q := hl i σ H hi p
  by_cases hlt : i < xs.length
  · refine .inr ⟨⟨q, hlt⟩, Pv (i + 1), fun σ' H' p' => ⟨xs.length - (i + 1), by omega, rfl, hlt, p'⟩, fun y H' z => ?_⟩
    obtain ⟨rfl, hx⟩ := z
    exact hs i y σ _ hx p
  · have e : i = xs.length := by omega
    subst e
    exact .inl ⟨⟨q, rfl⟩, hd σ H p⟩
end L2
namespace L2
open PySem PySem.Spec PyProof.Rows
/-! ### d.setdefault(k, v) -/
/-- what comes of it, and the heap behind -/
def DSd (H : Hp) (a : Addr) (y d : V) (v : V) (H' : Hp) : Prop := ∃ kvs k, H a = some (.dK kvs) ∧ y = kV k ∧ kvs.length < sizeLine ∧ ((valV kvs k = some v ∧ H' = H) ∨ (valV kvs k = none ∧ v = d ∧ H' = upd H a (.dK (putK kvs k d))))
section
variable {X : Cx} {pins : List (Addr × Obj)} {σ : St} {H H' : Hp} {s : Shared} {a : Addr} {y d v : V} {u r : Value} {A : Around} {E : Value → Shared → Prop}
theorem d_setdefault {Q : Value → Shared → Prop} (I : Inv X pins σ H s) (g : DSd H a y d v H') (ry : RelV y u) (rd : RelV d r) (h : ∀ w' s', Inv X pins σ H' s' → RelV v w' → Q w' s') :
    wpAny (model X.prog X.w) A (call (.builtin "dict.setdefault") [.ref a, u, r]) Q E s := by
  obtain ⟨kvs, k, e, ey, l, c⟩ := g
  subst ey
  obtain ⟨z, hd, vs, rel, dd⟩ := dk_of I.hok e
  have hz : vs.length ≤ sizeLine := by rw [← rel.length]; exact z
  refine call_meetsIn PySem.F.slot_dict_setdefault dd.typeIs PySem.F.entry_dict_setdefault (PySem.F.args_dict_setdefault_3 _ _ _) (kt_meets_setdefault (mixKind X.prog X.w) a (kV_is ry) hd r) ⟨vs, dd, hz, fun w' hw => ?_, fun hn h' dd' hs => ?_⟩
  · rcases c with ⟨hv, rfl⟩ | ⟨hv, _, _⟩
    · have := rel.val k
      rw [hv, hw] at this
      exact h _ _ (I.tok _) this
    · have := rel.val k
      rw [hv, hw] at this
      cases this
  · rcases c with ⟨hv, _⟩ | ⟨hv, rfl, rfl⟩
    · have := rel.val k
      rw [hv, hn] at this
      cases this
    · have hl : (putK kvs k v).length ≤ sizeLine := by have := length_putK kvs k v; omega
      have he : ∃ q, h'.get? a = some q := let ⟨q, _, _, hq, _⟩ := dd'; ⟨q, hq⟩
      exact h _ _ (d_write I (by rw [e]; exact True.intro) hs he (dk_new hl hd (rel.put k rd) dd')) rd
end
def tDSd (td ty tx : TE) : TE := fun σ H Q => td σ H fun x H1 => ∃ a, x = .ref a ∧ IsD H1 a ∧ ty σ H1 fun y H2 => tx σ H2 fun z H3 => ∃ v H4, DSd H3 a y z v H4 ∧ Q v H4
section
variable {X : Cx} {o e f : Expr} {td ty tx : TE} {apos cpos : Pos}
theorem pe_dsd (ho : PE X o td) (he : PE X e ty) (hf : PE X f tx) (m : M2 X o "setdefault" apos e f cpos) : PE X (.Call (.Attribute o "setdefault" apos) [e, f] [] cpos) (tDSd td ty tx) := by
  intro pins s σ H Q I h
  refine wpAny_Call_method m.base m.few m.line PySem.F.plainAttrs_dict PySem.F.slot_dict_setdefault PySem.F.type_dict_setdefault (thn (ho pins s σ H _ I h) fun u s1 ⟨x, H1, I1, rx, a, ex, d, q1⟩ => ?_)
  subst ex
  obtain rfl : u = Value.ref a := rx
  obtain ⟨t1, t2, _⟩ := isD_at I1 d
  refine ⟨t1, t2, ?_⟩
  rw [m.trees]
  refine Calls.callWith_builtin rfl (Calls.evalArgs_plain (Calls.spliced_cons (thn (he pins s1 σ H1 _ I1 q1) fun iv s2 ⟨y, H2, I2, ry, q2⟩ =>
    Calls.spliced_cons (thn (hf pins s2 σ H2 _ I2 q2) fun fv s3 ⟨z, H3, I3, rz, v, H4, g, q3⟩ => Calls.spliced_nil ?_))))
  exact d_setdefault I3 g ry rz fun w' s4 I4 rw' => ⟨_, H4, I4, rw', q3⟩
end
end L2
namespace Sw
open L2
/-! ### what flows while the mark goes on -/
/-- how much of a tag lies between two marks -/
def ov (low high : Rat) (u : T3) : Rat := if u.2.1 ≤ low then 0 else if high ≤ u.1 then 0 else (if u.2.1 ≤ high then u.2.1 else high) - (if low ≤ u.1 then u.1 else low)
def went (low high : Rat) : List T3 → Rat
  | [] => 0
  | u :: r => (u.2.2 : Rat) * ov low high u + went low high r
theorem ov_add {l m h : Rat} {u : T3} (h1 : l ≤ m) (h2 : m ≤ h) (hu : u.1 ≤ u.2.1) : ov l h u = ov l m u + ov m h u := by
  unfold ov
  grind
theorem went_add {l m h : Rat} (h1 : l ≤ m) (h2 : m ≤ h) : ∀ {us : List T3}, (∀ u ∈ us, u.1 ≤ u.2.1) → went l h us = went l m us + went m h us
  | [], _ => by unfold went; grind
  | u :: r, hu => by
    have e := ov_add (u := u) h1 h2 (hu u (by simp))
    have ih := went_add h1 h2 (us := r) fun x hx => hu x (List.mem_cons_of_mem _ hx)
    unfold went
    rw [e, ih, Rat.mul_add]
    grind
/-- a tag that begins above the mark begins where another one ends -/
def Chain (us : List T3) (m : Rat) : Prop := ∀ u ∈ us, u.1 ≤ m ∨ ∃ v ∈ us, v.2.1 = u.1 ∧ v.1 < v.2.1
theorem Chain.on {us : List T3} {m m' : Rat} (h : Chain us m) (le : m ≤ m') : Chain us m' := fun u hu => by
  rcases h u hu with q | q
  · exact .inl (by grind)
  · exact .inr q
theorem filter_lt_len {l : List T3} {a b : Rat} (h : a < b) (hw : ∃ v ∈ l, v.1 = a) : (l.filter fun u => decide (u.1 < a)).length < (l.filter fun u => decide (u.1 < b)).length := by
  obtain ⟨v, hv, e⟩ := hw
  refine filter_len_lt (fun x _ hx => ?_) ⟨v, hv, decide_eq_true (by rw [e]; exact h), by rw [e]; simp only [decide_eq_false_iff_not]; grind⟩
  simp only [decide_eq_true_eq] at hx ⊢
  grind
/-- above the mark no tag begins ahead of the first end of a head -/
theorem chain_first {us : List T3} {m : Rat} (c : Chain us m) : ∀ (n : Nat) (u : T3), u ∈ us → m < u.1 → (us.filter fun x => decide (x.1 < u.1)).length ≤ n → ∃ h ∈ hds us m, h.2.1 ≤ u.1
  | 0, u, hu, hm, hn => by
    rcases c u hu with q | ⟨v, hv, e1, e2⟩
    · grind
    · have : v ∈ us.filter fun x => decide (x.1 < u.1) := List.mem_filter.mpr ⟨hv, decide_eq_true (by grind)⟩
      have hz := List.length_eq_zero_iff.mp (Nat.le_zero.mp hn)
      rw [hz] at this
      cases this
  | n + 1, u, hu, hm, hn => by
    rcases c u hu with q | ⟨v, hv, e1, e2⟩
    · grind
    · by_cases hvm : v.1 ≤ m
      · refine ⟨v, List.mem_filter.mpr ⟨hv, ?_⟩, by grind⟩
        unfold isHd
        rw [decide_eq_false (by grind), decide_eq_true (by rw [e1]; exact hm)]
        rfl
      · have lt := filter_lt_len (l := us) (a := v.1) (b := u.1) (by grind) ⟨v, hv, rfl⟩
        obtain ⟨h, h1, h2⟩ := chain_first c n v hv (by grind) (by omega)
        exact ⟨h, h1, by grind⟩
theorem foldl_min_le : ∀ (l : List Rat) (d : Rat), l.foldl min d ≤ d ∧ ∀ x ∈ l, l.foldl min d ≤ x
  | [], d => ⟨by show d ≤ d; grind, fun x h => absurd h List.not_mem_nil⟩
  | q :: r, d => by
    obtain ⟨h1, h2⟩ := foldl_min_le r (min d q)
    have hm : min d q ≤ d ∧ min d q ≤ q := by rw [Rat.min_def]; split <;> constructor <;> grind
    refine ⟨by rw [List.foldl_cons]; grind, fun x hx => ?_⟩
    rw [List.foldl_cons]
    rcases List.mem_cons.mp hx with e | e
    · subst e; grind
    · exact h2 x e
theorem fstE_le {hs : List T3} {u : T3} (h : u ∈ hs) : fstE hs ≤ u.2.1 := by
  unfold fstE
  have hm : u.2.1 ∈ hs.map fun u => u.2.1 := List.mem_map.mpr ⟨u, h, rfl⟩
  generalize (hs.map fun u => u.2.1) = l at hm
  cases l with
  | nil => cases hm
  | cons q r => exact (foldl_min_le (q :: r) q).2 _ hm
theorem sumS_cons (u : T3) (r : List T3) : sumS (u :: r) = u.2.2 + sumS r := by unfold sumS; simp
/-- between the mark and the first end just the heads flow -/
theorem went_heads {m h : Rat} (le : m ≤ h) : ∀ {us : List T3}, (∀ u ∈ us, isHd m u = true → h ≤ u.2.1) → (∀ u ∈ us, m < u.1 → h ≤ u.1) → (∀ u ∈ us, u.1 ≤ u.2.1) → went m h us = (sumS (hds us m) : Rat) * (h - m)
  | [], _, _, _ => by
    have : sumS (hds [] m) = 0 := rfl
    rw [this]
    unfold went
    have z : ((0 : Int) : Rat) = 0 := rfl
    rw [z]; grind
  | u :: r, h1, h2, h3 => by
    have ih := went_heads le (us := r) (fun x hx => h1 x (List.mem_cons_of_mem _ hx)) (fun x hx => h2 x (List.mem_cons_of_mem _ hx)) fun x hx => h3 x (List.mem_cons_of_mem _ hx)
    have a1 := h1 u (by simp)
    have a2 := h2 u (by simp)
    have a3 := h3 u (by simp)
    have eh : hds (u :: r) m = (if isHd m u = true then u :: hds r m else hds r m) := by
      unfold hds
      rw [List.filter_cons]
    unfold went
    rw [ih, eh]
    cases e : isHd m u with
    | true =>
      rw [if_pos rfl, sumS_cons, Rat.intCast_add]
      have a1 := a1 e
      unfold isHd at e
      simp only [Bool.and_eq_true, Bool.not_eq_true', decide_eq_true_eq, decide_eq_false_iff_not] at e
      have eo : ov m h u = h - m := by
        unfold ov
        grind
      rw [eo, Rat.add_mul]
    | false =>
      rw [if_neg (by decide)]
      have eo : ov m h u = 0 := by
        unfold isHd at e
        unfold ov
        by_cases q : m < u.1
        · have := a2 q
          grind
        · rw [decide_eq_false q] at e
          have : ¬ m < u.2.1 := by simpa using e
          grind
      rw [eo]
      grind
/-- while tags end above the mark, what has flowed is the time; else no more than that -/
theorem mark_went {us : List T3} {D B : Int} {t : Rat} (ok : ∀ u ∈ us, TagOk D B u) : ∀ (n : Nat) (mo re : Rat), Chain us re → mo ≤ t → ahead us re < n →
    re ≤ markF us t n mo re ∧ (((∃ u ∈ us, markF us t n mo re < u.2.1) ∧ went re (markF us t n mo re) us = t - mo) ∨ ((∀ u ∈ us, u.2.1 ≤ markF us t n mo re) ∧ went re (markF us t n mo re) us ≤ t - mo))
  | 0, mo, re, _, _, h => absurd h (by omega)
  | n + 1, mo, re, ch, hm, ha => by
    have be : ∀ u ∈ us, u.1 ≤ u.2.1 := fun u h => (ok u h).be
    unfold markF
    by_cases hn : hds us re = []
    · rw [if_pos hn]
      have w0 : went re re us = 0 := by
        have := went_add (l := re) (m := re) (h := re) (by grind) (by grind) be
        grind
      refine ⟨by grind, .inr ⟨fun u hu => ?_, by rw [w0]; grind⟩⟩
      rcases Classical.em (u.2.1 ≤ re) with q | q
      · exact q
      · exfalso
        by_cases hb : u.1 ≤ re
        · have : u ∈ hds us re := List.mem_filter.mpr ⟨hu, by unfold isHd; rw [decide_eq_false (by grind), decide_eq_true (by grind)]; rfl⟩
          rw [hn] at this; cases this
        · obtain ⟨h, h1, _⟩ := chain_first ch _ u hu (by grind) (Nat.le_refl _)
          rw [hn] at h1; cases h1
    · rw [if_neg hn]
      have gt := fstE_gt hn
      have hok : ∀ u ∈ hds us re, TagOk D B u := fun u h => ok u (hds_mem h).1
      have hS := sumS_ok hok hn
      have Sp : (0 : Rat) < (sumS (hds us re) : Rat) := q_cast_pos (by omega)
      have seg : ∀ h, re ≤ h → h ≤ fstE (hds us re) → went re h us = (sumS (hds us re) : Rat) * (h - re) := fun h l1 l2 => went_heads l1 (fun u hu e => by
          have : fstE (hds us re) ≤ u.2.1 := fstE_le (List.mem_filter.mpr ⟨hu, e⟩)
          grind) (fun u hu q => by
          obtain ⟨v, v1, v2⟩ := chain_first ch _ u hu q (Nat.le_refl _)
          have := fstE_le v1
          grind) be
      have al := ahead_lt hn
      obtain ⟨uf, huf, ef⟩ := fstE_mem hn
      by_cases hlt : t < mo + (fstE (hds us re) - re) * (sumS (hds us re) : Rat)
      · rw [if_pos hlt]
        have x0 : 0 ≤ (t - mo) / (sumS (hds us re) : Rat) := by
          have : ¬ (t - mo) / (sumS (hds us re) : Rat) < 0 := by rw [Rat.div_lt_iff Sp]; grind
          grind
        have x1 : (t - mo) / (sumS (hds us re) : Rat) < fstE (hds us re) - re := by rw [Rat.div_lt_iff Sp]; grind
        refine ⟨by grind, .inl ⟨⟨uf, (hds_mem huf).1, by rw [← ef]; grind⟩, ?_⟩⟩
        rw [seg _ (by grind) (by grind)]
        have : (sumS (hds us re) : Rat) ≠ 0 := by grind
        grind
      · rw [if_neg hlt]
        have sg := seg (fstE (hds us re)) (by grind) (by grind)
        obtain ⟨i1, i2⟩ := mark_went (t := t) ok n (mo + (fstE (hds us re) - re) * (sumS (hds us re) : Rat)) (fstE (hds us re)) (ch.on (by grind)) (by grind) (by omega)
        have ad := went_add (l := re) (m := fstE (hds us re)) (h := markF us t n (mo + (fstE (hds us re) - re) * (sumS (hds us re) : Rat)) (fstE (hds us re))) (by grind) i1 be
        refine ⟨by grind, ?_⟩
        rcases i2 with ⟨j1, j2⟩ | ⟨j1, j2⟩
        · exact .inl ⟨j1, by rw [ad, sg, j2]; grind⟩
        · exact .inr ⟨j1, by rw [ad, sg]; grind⟩
end Sw
namespace Sw
open L2
theorem markF_ge {us : List T3} {D B : Int} {t : Rat} (ok : ∀ u ∈ us, TagOk D B u) : ∀ (n : Nat) (mo re : Rat), mo ≤ t → re ≤ markF us t n mo re
  | 0, mo, re, _ => by unfold markF; grind
  | n + 1, mo, re, hm => by
    unfold markF
    by_cases hn : hds us re = []
    · rw [if_pos hn]; grind
    · rw [if_neg hn]
      have gt := fstE_gt hn
      have hS := sumS_ok (fun u h => ok u (hds_mem h).1) hn
      have Sp : (0 : Rat) < (sumS (hds us re) : Rat) := q_cast_pos (by omega)
      by_cases hlt : t < mo + (fstE (hds us re) - re) * (sumS (hds us re) : Rat)
      · rw [if_pos hlt]
        have : ¬ (t - mo) / (sumS (hds us re) : Rat) < 0 := by rw [Rat.div_lt_iff Sp]; grind
        grind
      · rw [if_neg hlt]
        have := markF_ge (t := t) ok n (mo + (fstE (hds us re) - re) * (sumS (hds us re) : Rat)) (fstE (hds us re)) (by grind)
        grind
theorem markF_mono {us : List T3} {D B : Int} {t t' : Rat} (ok : ∀ u ∈ us, TagOk D B u) (h : t ≤ t') : ∀ (n : Nat) (mo re : Rat), mo ≤ t → markF us t n mo re ≤ markF us t' n mo re
  | 0, mo, re, _ => by unfold markF; grind
  | n + 1, mo, re, hm => by
    unfold markF
    by_cases hn : hds us re = []
    · rw [if_pos hn, if_pos hn]; grind
    · rw [if_neg hn, if_neg hn]
      have gt := fstE_gt hn
      have hS := sumS_ok (fun u h => ok u (hds_mem h).1) hn
      have Sp : (0 : Rat) < (sumS (hds us re) : Rat) := q_cast_pos (by omega)
      have Sn : (sumS (hds us re) : Rat) ≠ 0 := by grind
      by_cases h1 : t < mo + (fstE (hds us re) - re) * (sumS (hds us re) : Rat)
      · rw [if_pos h1]
        by_cases h2 : t' < mo + (fstE (hds us re) - re) * (sumS (hds us re) : Rat)
        · rw [if_pos h2]
          have : ¬ (t' - mo) / (sumS (hds us re) : Rat) < (t - mo) / (sumS (hds us re) : Rat) := by
            rw [Rat.div_lt_iff Sp, show (t - mo) / (sumS (hds us re) : Rat) * (sumS (hds us re) : Rat) = t - mo by grind]
            grind
          grind
        · rw [if_neg h2]
          have x1 : (t - mo) / (sumS (hds us re) : Rat) < fstE (hds us re) - re := by rw [Rat.div_lt_iff Sp]; grind
          have := markF_ge (t := t') ok n (mo + (fstE (hds us re) - re) * (sumS (hds us re) : Rat)) (fstE (hds us re)) (by grind)
          grind
      · rw [if_neg h1, if_neg (by grind)]
        exact markF_mono ok h n _ _ (by grind)
/-- where all tags end by the mark, the mark is such an end, or has not moved -/
theorem markF_end {us : List T3} {D B : Int} {t : Rat} (ok : ∀ u ∈ us, TagOk D B u) : ∀ (n : Nat) (mo re : Rat), ahead us re < n → (∀ u ∈ us, u.2.1 ≤ markF us t n mo re) → markF us t n mo re = re ∨ ∃ u ∈ us, u.2.1 = markF us t n mo re
  | 0, mo, re, h, _ => absurd h (by omega)
  | n + 1, mo, re, ha, hall => by
    unfold markF at hall ⊢
    by_cases hn : hds us re = []
    · rw [if_pos hn]; exact .inl rfl
    · rw [if_neg hn] at hall ⊢
      have al := ahead_lt hn
      obtain ⟨uf, huf, ef⟩ := fstE_mem hn
      by_cases hlt : t < mo + (fstE (hds us re) - re) * (sumS (hds us re) : Rat)
      · rw [if_pos hlt] at hall ⊢
        have hS := sumS_ok (fun u h => ok u (hds_mem h).1) hn
        have Sp : (0 : Rat) < (sumS (hds us re) : Rat) := q_cast_pos (by omega)
        have x1 : (t - mo) / (sumS (hds us re) : Rat) < fstE (hds us re) - re := by rw [Rat.div_lt_iff Sp]; grind
        have := hall uf (hds_mem huf).1
        rw [← ef] at this
        grind
      · rw [if_neg hlt] at hall ⊢
        rcases markF_end ok n _ _ (by omega) hall with h | h
        · exact .inr ⟨uf, (hds_mem huf).1, by rw [h, ef]⟩
        · exact .inr h
theorem chain_come {us : List T3} {en : Int → Option Rat} {re rv : Rat} {who len sh : Int} (h1 : re ≤ rv) (c : Chain us re) (he : ∀ w e, en w = some e → e ≤ re ∨ ∃ v ∈ us, v.2.1 = e ∧ v.1 < v.2.1) (lt : 0 < (len : Rat) / (sh : Rat)) :
    Chain (usOn us rv (begOn en rv who) len sh) rv ∧ ∀ w e, setE en who (begOn en rv who + (len : Rat) / (sh : Rat)) w = some e → e ≤ rv ∨ ∃ v ∈ usOn us rv (begOn en rv who) len sh, v.2.1 = e ∧ v.1 < v.2.1 := by
  have old : ∀ v ∈ us, rv < v.2.1 → v ∈ usOn us rv (begOn en rv who) len sh := fun v hv h => List.mem_append_left _ (List.mem_filter.mpr ⟨hv, decide_eq_true h⟩)
  have lift : ∀ e, (∃ v ∈ us, v.2.1 = e ∧ v.1 < v.2.1) → e ≤ rv ∨ ∃ v ∈ usOn us rv (begOn en rv who) len sh, v.2.1 = e ∧ v.1 < v.2.1 := fun e ⟨v, hv, e1, e2⟩ => by
    rcases Classical.em (e ≤ rv) with q | q
    · exact .inl q
    · exact .inr ⟨v, old v hv (by grind), e1, e2⟩
  refine ⟨fun u hu => ?_, fun w e hw => ?_⟩
  · rcases List.mem_append.mp hu with h | h
    · rcases c u (List.mem_filter.mp h).1 with q | q
      · exact .inl (by grind)
      · exact lift _ q
    · have : u = (begOn en rv who, begOn en rv who + (len : Rat) / (sh : Rat), sh) := by simpa using h
      subst this
      show begOn en rv who ≤ rv ∨ ∃ x ∈ usOn us rv (begOn en rv who) len sh, x.2.1 = begOn en rv who ∧ x.1 < x.2.1
      generalize hbo : usOn us rv (begOn en rv who) len sh = uu at lift
      unfold begOn
      cases e : en who with
      | none =>
        refine .inl ?_
        show max rv rv ≤ rv
        rw [Rat.max_def]; simp
      | some v =>
        show max rv v ≤ rv ∨ ∃ x ∈ uu, x.2.1 = max rv v ∧ x.1 < x.2.1
        rcases he who v e with q | q
        · refine .inl ?_
          rw [Rat.max_def]
          split <;> grind
        · rcases lift v q with q2 | ⟨x, x1, x2, x3⟩
          · refine .inl ?_
            rw [Rat.max_def]
            split <;> grind
          · by_cases hv : rv ≤ v
            · refine .inr ⟨x, x1, ?_, x3⟩
              show x.2.1 = max rv v
              rw [Rat.max_def, if_pos hv, x2]
            · refine .inl ?_
              rw [Rat.max_def, if_neg hv]
              grind
  · unfold setE at hw
    split at hw
    · cases hw
      exact .inr ⟨(begOn en rv who, begOn en rv who + (len : Rat) / (sh : Rat), sh), List.mem_append_right _ (by simp), rfl, by show begOn en rv who < begOn en rv who + (len : Rat) / (sh : Rat); grind⟩
    · rcases he w e hw with q | q
      · exact .inl (by grind)
      · exact lift e q
end Sw
namespace Sw
open L2
/-- all the tags that were told, against those of a Tide that have not flowed out -/
structure AllIn (all us : List T3) (re : Rat) : Prop where
  ch : Chain us re
  sub : ∀ u ∈ us, u ∈ all
  sup : ∀ u ∈ all, u.2.1 ≤ re ∨ u ∈ us
  eq : ∀ low high, re ≤ low → low ≤ high → went low high all = went low high us
  top : (all = [] ∧ re = 0) ∨ ∃ u ∈ all, re ≤ u.2.1
theorem went_past {low high : Rat} : ∀ {us : List T3}, (∀ u ∈ us, u.2.1 ≤ low) → went low high us = 0
  | [], _ => rfl
  | u :: r, h => by
    have h1 := h u (by simp)
    have ih := went_past (low := low) (high := high) (us := r) fun x hx => h x (List.mem_cons_of_mem _ hx)
    show (u.2.2 : Rat) * ov low high u + went low high r = 0
    rw [ih]
    unfold ov
    rw [if_pos h1]; grind
theorem went_keep {low high rv : Rat} (le : rv ≤ low) : ∀ {us : List T3}, went low high (us.filter fun u => decide (rv < u.2.1)) = went low high us
  | [] => rfl
  | u :: r => by
    have ih := went_keep (low := low) (high := high) le (us := r)
    rw [List.filter_cons]
    split
    · show (u.2.2 : Rat) * ov low high u + went low high _ = (u.2.2 : Rat) * ov low high u + went low high r
      rw [ih]
    · rename_i h
      have h : ¬ rv < u.2.1 := by simpa using h
      show went low high _ = (u.2.2 : Rat) * ov low high u + went low high r
      rw [ih]
      unfold ov
      rw [if_pos (by grind)]; grind
theorem went_cat {low high : Rat} {b : List T3} : ∀ {a : List T3}, went low high (a ++ b) = went low high a + went low high b
  | [] => by show went low high b = 0 + went low high b; grind
  | u :: r => by
    have ih := went_cat (low := low) (high := high) (b := b) (a := r)
    show (u.2.2 : Rat) * ov low high u + went low high (r ++ b) = ((u.2.2 : Rat) * ov low high u + went low high r) + went low high b
    rw [ih]; grind
theorem AllIn.come {all us : List T3} {re rv b : Rat} {len sh : Int} (a : AllIn all us re) (h : re ≤ rv) (ch : Chain (usOn us rv b len sh) rv) (hb : rv ≤ b + (len : Rat) / (sh : Rat)) :
    AllIn (all ++ [(b, b + (len : Rat) / (sh : Rat), sh)]) (usOn us rv b len sh) rv := by
  refine ⟨ch, fun u hu => ?_, fun u hu => ?_, fun low high h1 h2 => ?_, .inr ⟨(b, b + (len : Rat) / (sh : Rat), sh), List.mem_append_right _ (by simp), hb⟩⟩
  · rcases List.mem_append.mp hu with q | q
    · exact List.mem_append_left _ (a.sub u (List.mem_filter.mp q).1)
    · exact List.mem_append_right _ q
  · rcases List.mem_append.mp hu with q | q
    · rcases a.sup u q with z | z
      · exact .inl (by grind)
      · by_cases e : rv < u.2.1
        · exact .inr (List.mem_append_left _ (List.mem_filter.mpr ⟨z, decide_eq_true e⟩))
        · exact .inl (by grind)
    · exact .inr (List.mem_append_right _ q)
  · unfold usOn
    rw [went_cat, went_cat, went_keep h1, a.eq low high (by grind) h2]
theorem AllIn.went {all us : List T3} {re : Rat} {D B lat now t : Int} (a : AllIn all us re) (ok : ∀ u ∈ us, TagOk D B u) (h1 : lat ≤ now) (h2 : now ≤ t) :
    markAt us lat re now ≤ markAt us lat re t ∧ (((∃ u ∈ all, markAt us lat re t < u.2.1) ∧ went (markAt us lat re now) (markAt us lat re t) all = ((t - now : Int) : Rat)) ∨
      ((∀ u ∈ all, u.2.1 ≤ markAt us lat re t) ∧ went (markAt us lat re now) (markAt us lat re t) all ≤ ((t - now : Int) : Rat) ∧ ((all = [] ∧ markAt us lat re t = 0) ∨ ∃ u ∈ all, u.2.1 = markAt us lat re t))) := by
  have c1 : (lat : Rat) ≤ (now : Rat) := Rat.intCast_le_intCast.mpr h1
  have c2 : (now : Rat) ≤ (t : Rat) := Rat.intCast_le_intCast.mpr h2
  have len := ahead_le us re
  have mono := markF_mono ok c2 (us.length + 1) (lat : Rat) re c1
  have g1 := mark_went ok (us.length + 1) (lat : Rat) re a.ch c1 (by omega)
  have g2 := mark_went ok (us.length + 1) (lat : Rat) re a.ch (show (lat : Rat) ≤ (t : Rat) by grind) (by omega)
  have ge := markF_end (t := (t : Rat)) ok (us.length + 1) (lat : Rat) re (by omega)
  have be : ∀ u ∈ us, u.1 ≤ u.2.1 := fun u h => (ok u h).be
  rw [Rat.intCast_sub]
  unfold markAt
  generalize markF us (now : Rat) (us.length + 1) (lat : Rat) re = lo at *
  generalize markF us (t : Rat) (us.length + 1) (lat : Rat) re = hi at *
  refine ⟨mono, ?_⟩
  rw [a.eq lo hi g1.1 mono]
  have ad := went_add g1.1 mono be
  rcases g2.2 with ⟨⟨u, hu, q⟩, w2⟩ | ⟨q, w2⟩
  · refine .inl ⟨⟨u, a.sub u hu, q⟩, ?_⟩
    rcases g1.2 with ⟨_, w1⟩ | ⟨q1, _⟩
    · grind
    · have := q1 u hu
      grind
  · refine .inr ⟨fun u hu => ?_, ?_, ?_⟩
    · rcases a.sup u hu with z | z
      · have := g2.1
        grind
      · exact q u z
    · rcases g1.2 with ⟨_, w1⟩ | ⟨q1, _⟩
      · grind
      · rw [went_past q1]; grind
    · rcases ge q with e | ⟨u, hu, e⟩
      · rcases a.top with ⟨e1, e2⟩ | ⟨u, hu, e1⟩
        · exact .inl ⟨e1, by rw [e, e2]⟩
        · refine .inr ⟨u, hu, ?_⟩
          rcases a.sup u hu with z | z
          · grind
          · have := q u z
            grind
      · exact .inr ⟨u, a.sub u hu, e⟩
theorem AllIn.nil : AllIn [] [] 0 := ⟨fun u h => absurd h List.not_mem_nil, fun u h => absurd h List.not_mem_nil, fun u h => absurd h List.not_mem_nil, fun _ _ _ _ => rfl, .inl ⟨rfl, rfl⟩⟩
end Sw
local macro_rules | `(tactic| walk_at "rd") => `(tactic| try simp only [L2.tAsg, L2.tOp, L2.tUn, L2.gName, L2.tVar, L2.tC, L2.rI, L2.rI0, L2.rU, L2.rEq, L2.rNe, L2.scal, L2.tTest, L2.tIfS, L2.tRet, L2.tRetN, L2.tNext, L2.tDrop, L2.tCB, L2.tCons, L2.tNil, L2.tCall, L2.tAndV, L2.tOrV, L2.tNotV, L2.tAnd, L2.tOr, L2.tNot, L2.tB, L2.tIf, L2.tChain, L2.tTup, L2.tLst, L2.tBM, L2.tBM0, L2.tComp_eq, L2.tCallX, L2.tCallN, L2.tDGet, L2.tDGet1, L2.tDGet2, L2.sDPut, L2.tDIn, L2.tDNotIn, L2.tDSd, L2.tDNewK, L2.tTru, L2.tFld_eq, L2.sFld_eq, L2.tMethX_eq, L2.tMakeX, L2.tXmk, L2.tXmk1, L2.tRaise, L2.tTry, L2.tTryAs, L2.hkOf, L2.iList, L2.iTup, L2.iEnum, L2.iRng1, L2.iRng2, L2.iRng3, L2.iEnum1, L2.iRev, L2.tSl, L2.tPart, L2.tNoPart, L2.gTup, L2.gCons, L2.gNil, L2.spInt1, L2.spInt2, L2.spWhole,
  List.getElem?_cons_zero, List.getElem?_cons_succ, List.set_cons_zero, List.set_cons_succ, List.cons_append, List.nil_append, List.append_nil, Option.some.injEq, L2.V.int.injEq, L2.V.bl.injEq, L2.V.ref.injEq, L2.V.str.injEq, List.cons.injEq, exists_eq_left', exists_eq_left, exists_eq_right, exists_and_left, exists_and_right, and_true, true_and, and_self, exists_const, exists_eq, exists_eq', and_assoc, decide_eq_true_eq, Bool.not_eq_true', Bool.not_true, Bool.not_false, Bool.false_eq_true, Bool.true_eq_false, if_true, if_false, decide_eq_false_iff_not, ite_not, ↓reduceIte, Int.reduceLT, Int.reduceLE, Int.reducePow, Int.reduceMul, Int.reduceAdd, Int.reduceSub, Int.reduceNeg, Int.reduceToNat, Int.reduceEq, Int.reduceNe, L2.CPow, L2.cmulL_lit, L2.line_lit, L2.line_lt, List.length_cons, List.length_nil, Nat.reduceAdd, Nat.zero_add, L2.cdivL_lit, Int.natAbs_natCast, Int.natAbs_neg, Nat.reducePow, Nat.reduceLT, Nat.reduceLeDiff, Int.natAbs, L2.tPar, ne_eq, not_false_eq_true, not_true_eq_false])
local macro_rules | `(tactic| walk_at "rds") => `(tactic| try simp only [L2.tSeq, L2.tAsg, L2.tOp, L2.tUn, L2.gName, L2.tVar, L2.tC, L2.rI, L2.rI0, L2.rU, L2.rEq, L2.rNe, L2.scal, L2.tTest, L2.tIfS, L2.tRet, L2.tRetN, L2.tNext, L2.tDrop, L2.tCB, L2.tCons, L2.tNil, L2.tCall, L2.tAndV, L2.tOrV, L2.tNotV, L2.tAnd, L2.tOr, L2.tNot, L2.tB, L2.tIf, L2.tChain, L2.tTup, L2.tLst, L2.tBM, L2.tBM0, L2.tComp_eq, L2.tCallX, L2.tCallN, L2.tDGet, L2.tDGet1, L2.tDGet2, L2.sDPut, L2.tDIn, L2.tDNotIn, L2.tDSd, L2.tDNewK, L2.tTru, L2.tFld_eq, L2.sFld_eq, L2.tMethX_eq, L2.tMakeX, L2.tXmk, L2.tXmk1, L2.tRaise, L2.tTry, L2.tTryAs, L2.hkOf, L2.iList, L2.iTup, L2.iEnum, L2.iRng1, L2.iRng2, L2.iRng3, L2.iEnum1, L2.iRev, L2.tSl, L2.tPart, L2.tNoPart, L2.gTup, L2.gCons, L2.gNil, L2.spInt1, L2.spInt2, L2.spWhole,
  List.getElem?_cons_zero, List.getElem?_cons_succ, List.set_cons_zero, List.set_cons_succ, List.cons_append, List.nil_append, List.append_nil, Option.some.injEq, L2.V.int.injEq, L2.V.bl.injEq, L2.V.ref.injEq, L2.V.str.injEq, List.cons.injEq, exists_eq_left', exists_eq_left, exists_eq_right, exists_and_left, exists_and_right, and_true, true_and, and_self, exists_const, exists_eq, exists_eq', and_assoc, decide_eq_true_eq, Bool.not_eq_true', Bool.not_true, Bool.not_false, Bool.false_eq_true, Bool.true_eq_false, if_true, if_false, decide_eq_false_iff_not, ite_not, ↓reduceIte, Int.reduceLT, Int.reduceLE, Int.reducePow, Int.reduceMul, Int.reduceAdd, Int.reduceSub, Int.reduceNeg, Int.reduceToNat, Int.reduceEq, Int.reduceNe, L2.CPow, L2.cmulL_lit, L2.line_lit, L2.line_lt, List.length_cons, List.length_nil, Nat.reduceAdd, Nat.zero_add, L2.cdivL_lit, Int.natAbs_natCast, Int.natAbs_neg, Nat.reducePow, Nat.reduceLT, Nat.reduceLeDiff, Int.natAbs, L2.tPar, ne_eq, not_false_eq_true, not_true_eq_false])
namespace K22
open PySem L2 PyProof.Rows
def top (i : Nat) : Stmt := PySem.Challenge.pw_sharewheel_k22_the_mark_goes_as_the_road.main.body.getD i (.Pass ⟨0, 0, 0, 0⟩)
abbrev s_divisor : Stmt := top 4
abbrev s_ratio : Stmt := top 5
abbrev s_plus : Stmt := top 6
abbrev s_minus : Stmt := top 7
abbrev s_times : Stmt := top 8
abbrev s_over : Stmt := top 9
abbrev s_under : Stmt := top 10
abbrev s_lesser : Stmt := top 11
abbrev s_greater : Stmt := top 12
abbrev s_least : Stmt := top 13
abbrev s_heads_of : Stmt := top 15
abbrev s__law_cell_at : Stmt := top 18
abbrev s__law_mix : Stmt := top 19
abbrev s__law_row : Stmt := top 20
abbrev s__law_whole : Stmt := top 21
abbrev s__law_fraction : Stmt := top 22
abbrev s__law_under : Stmt := top 23
abbrev s__law_divisor : Stmt := top 24
abbrev s__law_plus : Stmt := top 25
abbrev s__law_went : Stmt := top 26
abbrev s__law_went_on : Stmt := top 27
abbrev s_law : Stmt := top 28
theorem sc_divisor : FnScope ["one", "other", "great", "small", "rest"] ["one", "other"] (defScope s_divisor) := ⟨rfl, rfl, rfl, by decide +kernel, rfl, by decide +kernel, by decide +kernel⟩
theorem sc_ratio : FnScope ["top", "bottom", "common"] ["top", "bottom"] (defScope s_ratio) := ⟨rfl, rfl, rfl, by decide +kernel, rfl, by decide +kernel, by decide +kernel⟩
theorem sc_plus : FnScope ["one", "other"] ["one", "other"] (defScope s_plus) := ⟨rfl, rfl, rfl, by decide +kernel, rfl, by decide +kernel, by decide +kernel⟩
theorem sc_minus : FnScope ["one", "other"] ["one", "other"] (defScope s_minus) := ⟨rfl, rfl, rfl, by decide +kernel, rfl, by decide +kernel, by decide +kernel⟩
theorem sc_times : FnScope ["one", "other"] ["one", "other"] (defScope s_times) := ⟨rfl, rfl, rfl, by decide +kernel, rfl, by decide +kernel, by decide +kernel⟩
theorem sc_over : FnScope ["one", "other"] ["one", "other"] (defScope s_over) := ⟨rfl, rfl, rfl, by decide +kernel, rfl, by decide +kernel, by decide +kernel⟩
theorem sc_under : FnScope ["one", "other"] ["one", "other"] (defScope s_under) := ⟨rfl, rfl, rfl, by decide +kernel, rfl, by decide +kernel, by decide +kernel⟩
theorem sc_lesser : FnScope ["one", "other", "least"] ["one", "other"] (defScope s_lesser) := ⟨rfl, rfl, rfl, by decide +kernel, rfl, by decide +kernel, by decide +kernel⟩
theorem sc_greater : FnScope ["one", "other", "most"] ["one", "other"] (defScope s_greater) := ⟨rfl, rfl, rfl, by decide +kernel, rfl, by decide +kernel, by decide +kernel⟩
theorem sc_least : FnScope ["some", "result", "one"] ["some"] (defScope s_least) := ⟨rfl, rfl, rfl, by decide +kernel, rfl, by decide +kernel, by decide +kernel⟩
theorem sc_heads_of : FnScope ["tagged", "mark"] ["tagged", "mark"] (defScope s_heads_of) := ⟨rfl, rfl, rfl, by decide +kernel, rfl, by decide +kernel, by decide +kernel⟩
theorem sc__law_cell_at : FnScope ["_law_script", "_law_k"] ["_law_script", "_law_k"] (defScope s__law_cell_at) := ⟨rfl, rfl, rfl, by decide +kernel, rfl, by decide +kernel, by decide +kernel⟩
theorem sc__law_mix : FnScope ["_law_cell", "_law_k", "_law_number"] ["_law_cell", "_law_k"] (defScope s__law_mix) := ⟨rfl, rfl, rfl, by decide +kernel, rfl, by decide +kernel, by decide +kernel⟩
theorem sc__law_row : FnScope ["_law_script", "_law_first", "_law_way", "_law_most", "_law_shares", "_law_gaps", "_law_few", "_law_at", "_law_row_here", "_law_cell", "_law_who"] ["_law_script"] (defScope s__law_row) := ⟨rfl, rfl, rfl, by decide +kernel, rfl, by decide +kernel, by decide +kernel⟩
theorem sc__law_whole : FnScope ["_law_found"] ["_law_found"] (defScope s__law_whole) := ⟨rfl, rfl, rfl, by decide +kernel, rfl, by decide +kernel, by decide +kernel⟩
theorem sc__law_fraction : FnScope ["_law_found"] ["_law_found"] (defScope s__law_fraction) := ⟨rfl, rfl, rfl, by decide +kernel, rfl, by decide +kernel, by decide +kernel⟩
theorem sc__law_under : FnScope ["_law_one", "_law_other"] ["_law_one", "_law_other"] (defScope s__law_under) := ⟨rfl, rfl, rfl, by decide +kernel, rfl, by decide +kernel, by decide +kernel⟩
theorem sc__law_divisor : FnScope ["_law_one", "_law_other"] ["_law_one", "_law_other"] (defScope s__law_divisor) := ⟨rfl, rfl, rfl, by decide +kernel, rfl, by decide +kernel, by decide +kernel⟩
theorem sc__law_plus : FnScope ["_law_many", "_law_share", "_law_start", "_law_stop", "_law_top", "_law_bottom", "_law_shared"] ["_law_many", "_law_share", "_law_start", "_law_stop"] (defScope s__law_plus) := ⟨rfl, rfl, rfl, by decide +kernel, rfl, by decide +kernel, by decide +kernel⟩
theorem sc__law_went : FnScope ["_law_low", "_law_high", "_law_tags", "_law_many", "_law_whole_here", "_law_begin", "_law_end", "_law_share", "_law_start", "_law_stop"] ["_law_low", "_law_high", "_law_tags"] (defScope s__law_went) := ⟨rfl, rfl, rfl, by decide +kernel, rfl, by decide +kernel, by decide +kernel⟩
theorem sc__law_went_on : FnScope ["_law_low", "_law_high", "_law_time", "_law_tags", "_law_many", "_law_begin", "_law_end", "_law_share"] ["_law_low", "_law_high", "_law_time", "_law_tags"] (defScope s__law_went_on) := ⟨rfl, rfl, rfl, by decide +kernel, rfl, by decide +kernel, by decide +kernel⟩
theorem sc_law : FnScope ["_law_script", "_law_told", "_law_silent", "_law_tags", "_law_mark", "_law_now", "_law_row_here", "_law_last", "_law_k", "_law_later", "_law_between", "_law_at", "_law_found", "_law_begin", "_law_end"] ["_law_script"] (defScope s_law) := ⟨rfl, rfl, rfl, by decide +kernel, rfl, by decide +kernel, by decide +kernel⟩
abbrev s_Tide_init : Stmt := inClass (top 16) 0
theorem sc_Tide_init : FnScope ["self"] ["self"] (defScope s_Tide_init) := ⟨rfl, rfl, rfl, by decide +kernel, rfl, by decide +kernel, by decide +kernel⟩
abbrev s_Tide_mark : Stmt := inClass (top 16) 1
theorem sc_Tide_mark : FnScope ["self", "at", "moment", "reached", "heads", "shares", "first_end", "after"] ["self", "at"] (defScope s_Tide_mark) := ⟨rfl, rfl, rfl, by decide +kernel, rfl, by decide +kernel, by decide +kernel⟩
abbrev s_Tide_come : Stmt := inClass (top 16) 2
theorem sc_Tide_come : FnScope ["self", "piece", "reached", "begin", "end"] ["self", "piece"] (defScope s_Tide_come) := ⟨rfl, rfl, rfl, by decide +kernel, rfl, by decide +kernel, by decide +kernel⟩
/-- what the top has written, as the proofs below ask it -/
structure Txt (K : PySem.W.Frag) (mg : Str → Option Value) (c_NoRatio : Addr) (c_Tide : Addr) : Prop where
  mg_NoRatio : mg "NoRatio" = some (.ref c_NoRatio)
  xc_NoRatio : XC K c_NoRatio
  kp_NoRatio : PySem.W.keepIn K (.ref c_NoRatio) = true
  ex_NoRatio : PySem.W.excIn K c_NoRatio bmV "ValueError.__new__" = true
  sub_NoRatio_NoRatio : PySem.W.subIn K (.ref c_NoRatio) (.ref c_NoRatio) = some true
  kit_NoRatio_NoRatio : PySem.W.kitOne K (.ref c_NoRatio) (.ref c_NoRatio) = some true
  kit_NoRatio_ValueError : PySem.W.kitOne K (.ref c_NoRatio) (.type "ValueError") = some true
  no_abs : mg "abs" = none
  no_len : mg "len" = none
  no_isinstance : mg "isinstance" = none
  no_bool : mg "bool" = none
  no_int : mg "int" = none
  no_tuple : mg "tuple" = none
  no_range : mg "range" = none
  no_sum : mg "sum" = none
  src_divisor : Src K mg "divisor" s_divisor ["one", "other"]
  src_ratio : Src K mg "ratio" s_ratio ["top", "bottom"]
  src_plus : Src K mg "plus" s_plus ["one", "other"]
  src_minus : Src K mg "minus" s_minus ["one", "other"]
  src_times : Src K mg "times" s_times ["one", "other"]
  src_over : Src K mg "over" s_over ["one", "other"]
  src_under : Src K mg "under" s_under ["one", "other"]
  src_lesser : Src K mg "lesser" s_lesser ["one", "other"]
  src_greater : Src K mg "greater" s_greater ["one", "other"]
  src_least : Src K mg "least" s_least ["some"]
  src_heads_of : Src K mg "heads_of" s_heads_of ["tagged", "mark"]
  src__law_cell_at : Src K mg "_law_cell_at" s__law_cell_at ["_law_script", "_law_k"]
  src__law_mix : Src K mg "_law_mix" s__law_mix ["_law_cell", "_law_k"]
  src__law_row : Src K mg "_law_row" s__law_row ["_law_script"]
  src__law_whole : Src K mg "_law_whole" s__law_whole ["_law_found"]
  src__law_fraction : Src K mg "_law_fraction" s__law_fraction ["_law_found"]
  src__law_under : Src K mg "_law_under" s__law_under ["_law_one", "_law_other"]
  src__law_divisor : Src K mg "_law_divisor" s__law_divisor ["_law_one", "_law_other"]
  src__law_plus : Src K mg "_law_plus" s__law_plus ["_law_many", "_law_share", "_law_start", "_law_stop"]
  src__law_went : Src K mg "_law_went" s__law_went ["_law_low", "_law_high", "_law_tags"]
  src__law_went_on : Src K mg "_law_went_on" s__law_went_on ["_law_low", "_law_high", "_law_time", "_law_tags"]
  mg_Tide : mg "Tide" = some (.ref c_Tide)
  cl_Tide : Cls K c_Tide
  na_Tide_latest : NoAttr K c_Tide "latest"
  na_Tide_reached : NoAttr K c_Tide "reached"
  na_Tide_unflowed : NoAttr K c_Tide "unflowed"
  na_Tide_last_ends : NoAttr K c_Tide "last_ends"
  in_Tide : SrcK K c_Tide "Tide.__init__" s_Tide_init ["self"] [[]]
  me_Tide_mark : SrcM K c_Tide "mark" "Tide.mark" s_Tide_mark ["self", "at"] [[]]
  me_Tide_come : SrcM K c_Tide "come" "Tide.come" s_Tide_come ["self", "piece"] [[]]
section
variable {P : Program} {w : World} {K : PySem.W.Frag} {mg : Str → Option Value} {base : Heap} {c_NoRatio c_Tide : Addr}
theorem d_divisor (T : Txt K mg c_NoRatio c_Tide) : Def P w K mg base (CXX P w) 1 "divisor" ["one", "other"] (spInt2 Sw.dv) := by
  refine T.src_divisor.okN (k := 0) sc_divisor (fun vs H Q E h => ?_) (fun f cdv A outer s H vs Q E hr h => ?_)
  · obtain ⟨a, b, rfl, _⟩ := h
    rfl
  · obtain ⟨a, b, rfl, k⟩ := h
    refine ⟨_, (pss_cons (ps_set (i := 2) sc_divisor.nd rfl (by first | exact Or.inl rfl | exact Or.inr rfl) (pe_callB call_abs rfl T.no_abs boot_abs (pa_cons (pv 0) pa_nil))) (pss_cons (ps_set (i := 3) sc_divisor.nd rfl (by first | exact Or.inl rfl | exact Or.inr rfl) (pe_callB call_abs rfl T.no_abs boot_abs (pa_cons (pv 1) pa_nil))) (pss_cons (ps_while PassesOwn.never (pt_cmpR op_ne (pv 3) pe_int (nomark _)) (pss_cons (ps_set (i := 4) sc_divisor.nd rfl (by first | exact Or.inl rfl | exact Or.inr rfl) (pe_op op_mod (pv 2) (pv 3))) (pss_cons (ps_set (i := 2) sc_divisor.nd rfl (by first | exact Or.inl rfl | exact Or.inr rfl) (pv 3)) (pss_one (ps_set (i := 3) sc_divisor.nd rfl (by first | exact Or.inl rfl | exact Or.inr rfl) (pv 4)))))) (pss_one (ps_ret (pv 2)))))), ?_⟩
    refine ⟨_, rfl, a, rfl, ?_⟩
    refine ⟨_, rfl, b, rfl, ?_⟩
    refine while_det (fun σ H' => H' = H ∧ ∃ g s r, σ = [some (.int a), some (.int b), some (.int g), some (.int s), r] ∧ 0 ≤ g ∧ 0 ≤ s ∧ Sw.dv g s = Sw.dv a b)
      (fun σ _ => match σ with | [_, _, _, some (.int s), _] => s.toNat | _ => 0) ⟨rfl, _, _, none, rfl, ?_, ?_, Sw.dv_abs a b⟩ ?_
    · split <;> omega
    · split <;> omega
    · rintro σ H' ⟨rfl, g, s, r, rfl, hg, hs, e⟩
      refine ⟨!decide (V.int s = V.int 0), fun Q hQ => ⟨_, rfl, rfl, _, rfl, hQ⟩, fun hb => ?_, fun hb => ?_⟩
      · have hs0 : s ≠ 0 := by intro z; subst z; simp at hb
        have hsp : 0 < s := by omega
        refine ⟨_, rfl, _, rfl, _, _, rfl, rfl, hsp, ?_⟩
        refine ⟨_, rfl, ?_⟩
        refine ⟨_, rfl, ?_⟩
        refine ⟨⟨rfl, s, g % s, _, rfl, hs, Int.emod_nonneg g hs0, by rw [Sw.dv_step]; exact e⟩, ?_⟩
        show (g % s).toNat < s.toNat
        have := Int.emod_lt_of_pos g hsp
        have := Int.emod_nonneg g hs0
        omega
      · have hs0 : s = 0 := by
          have : V.int s = V.int 0 := by simpa using hb
          exact V.int.inj this
        subst hs0
        rw [Sw.dv_zero g hg] at e
        refine ⟨_, rfl, ?_⟩
        show Q (.int g) H'
        rw [e]; exact k
theorem d__law_cell_at (T : Txt K mg c_NoRatio c_Tide) : Def P w K mg base (CXX P w) 1 "_law_cell_at" ["_law_script", "_law_k"] (spCell K) := by
  refine T.src__law_cell_at.okN (k := 0) sc__law_cell_at (fun vs H Q E h => ?_) (fun f cdv A outer s H vs Q E hr h => ?_)
  · obtain ⟨a, ns, i, rfl, _⟩ := h
    rfl
  · obtain ⟨a, ns, i, rfl, hS, hi, k⟩ := h
    refine ⟨_, (pss_cons (ps_if (pt_cmpR op_lt (pv 1) (pe_callB (call_lenK K rfl) rfl T.no_len boot_len (pa_cons (pv 0) pa_nil)) (nomark _)) (pss_one (ps_ret (pe_ix (ix_listK K rfl) (pv 0) (pv 1) (fun _ _ => rfl)))) pss_nil) (pss_one (ps_ret pe_int))), ?_⟩
    refine ⟨_, rfl, _, rfl, a, _, rfl, .inl hS, _, _, rfl, rfl, _, rfl, ?_⟩
    refine ite2 (fun h => ?_) (fun h => ?_)
    · have h' : i < (ns.map V.int).length := of_decide_eq_true h
      exact ⟨_, rfl, _, rfl, a, _, _, _, rfl, rfl, hS, cellAt_get hi (by simpa using h'), k⟩
    · have h' : ¬ i < (ns.map V.int).length := fun z => h (decide_eq_true z)
      show Q (.int 0) H
      rw [cellAt_none hi (by simpa using h')] at k
      exact k
theorem d__law_whole (T : Txt K mg c_NoRatio c_Tide) : Def P w K mg base (CXX P w) 1 "_law_whole" ["_law_found"] spWhole := by
  refine T.src__law_whole.okN (k := 0) sc__law_whole (fun vs H Q E h => ?_) (fun f cdv A outer s H vs Q E hr h => ?_)
  · obtain ⟨n, rfl, _⟩ := h
    rfl
  · obtain ⟨n, rfl, k⟩ := h
    refine ⟨_, (pss_one (ps_ret (pe_and (pe_callB (call_isinstK K rfl) rfl T.no_isinstance boot_isinstance (pa_cons (pv 0) (pa_cons (pe_bltn (v := .ty "int") rfl T.no_int boot_int rfl) pa_nil))) (pe_one (pe_not (pe_callB (call_isinstK K rfl) rfl T.no_isinstance boot_isinstance (pa_cons (pv 0) (pa_cons (pe_bltn (v := .ty "bool") rfl T.no_bool boot_bool rfl) pa_nil)))))))), ?_⟩
    refine ⟨_, rfl, _, _, _, _, true, rfl, rfl, .int n, kit_int_int, true, rfl, ?_⟩
    refine iteT ?_
    exact ⟨_, rfl, _, _, _, _, false, rfl, rfl, .int n, kit_int_bool, false, rfl, k⟩
/-- a fraction of two whole numbers; of bottom 0 it is refused -/
def spRat (cN : Addr) : Sp := fun vs H Q E => ∃ t b z, vs = [.int t, .int b] ∧ z ≤ 5000 ∧ Sw.Sz z b ∧ (b ≠ 0 → ∀ p, H p = none → Q (.ref p) (upd H p (.tup (fq ((t : Rat) / (b : Rat)))))) ∧
  (b = 0 → ∀ e, H e = none → E (.ref e) none (upd H e (excO e cN none false)))
theorem d_ratio (T : Txt K mg c_NoRatio c_Tide) : Def P w K mg base (CXX P w) 2 "ratio" ["top", "bottom"] (spRat c_NoRatio) := by
  have D_divisor := d_divisor (P := P) (w := w) (base := base) T
  refine T.src_ratio.okX (k := 1) sc_ratio (fun vs H Q E h => ?_) (fun f cdv A outer s H vs Q E hr h => ?_)
  · obtain ⟨t, b, z, rfl, _⟩ := h
    rfl
  · obtain ⟨t, b, z, rfl, z5, sb, k, kx⟩ := h
    refine ⟨_, (pss_cons (ps_if (pt_cmpR op_eq (pv 1) pe_int (nomark _)) (pss_one (ps_raise K rfl rfl raiseF (pe_xmk T.ex_NoRatio T.kp_NoRatio rfl T.mg_NoRatio (pa_cons pe_str pa_nil)))) pss_nil) (pss_cons (ps_set (i := 2) sc_ratio.nd rfl (by first | exact Or.inl rfl | exact Or.inr rfl) (pe_callX D_divisor (hr.mono (by decide)) rfl passF (pa_cons (pv 0) (pa_cons (pv 1) pa_nil)))) (pss_cons (ps_if (pt_cmpR op_lt (pv 1) pe_int (nomark _)) (pss_one (ps_set (i := 2) sc_ratio.nd rfl (by first | exact Or.inl rfl | exact Or.inr rfl) (pe_un un_neg (pv 2)))) pss_nil) (pss_one (ps_ret (pe_tup (pa_cons (pe_op op_fdivS (pv 0) (pv 2)) (pa_cons (pe_op op_fdivS (pv 1) (pv 2)) pa_nil)))))))), ?_⟩
    show tSeq _ _ _ [some (.int t), some (.int b), none] H
    refine seq_step fun R hR => ?_
    walk_at "rd"
    refine ite2 (fun h0 => ?_) fun hb => hR _ _ ?_
    · refine fun e he => ⟨c_NoRatio, none, upd_same, T.xc_NoRatio, ?_⟩
      rw [upd_upd]
      exact kx h0 e he
    have k := k hb
    rw [← fq_nrm hb] at k
    have hg : 0 < Sw.dv t b := Sw.dv_pos hb
    have hz : Sw.Sz 5000 (Sw.dv t b) := (sb.dvd (Sw.dv_r t b) hb).mono z5
    refine seq_step fun R hR => ?_
    walk_at "rd"
    refine hR _ _ ?_
    refine seq_step fun R hR => ?_
    have fin : ∀ c : Int, (c = Sw.dv t b ∧ ¬ b < 0) ∨ (c = -(Sw.dv t b) ∧ b < 0) → R [some (.int t), some (.int b), some (.int c)] H := fun c hc => by
      refine hR _ _ ?_
      walk_at "rd"
      have c0 : c ≠ 0 := by rcases hc with ⟨e, _⟩ | ⟨e, _⟩ <;> omega
      have cz : Sw.Sz 5000 c := by
        rcases hc with ⟨e, _⟩ | ⟨e, _⟩
        · rw [e]; exact hz
        · rw [e]; exact hz.neg
      have d1 : c ∣ t := by
        rcases hc with ⟨e, _⟩ | ⟨e, _⟩
        · rw [e]; exact Sw.dv_l t b
        · rw [e]; exact Int.neg_dvd.mpr (Sw.dv_l t b)
      have d2 : c ∣ b := by
        rcases hc with ⟨e, _⟩ | ⟨e, _⟩
        · rw [e]; exact Sw.dv_r t b
        · rw [e]; exact Int.neg_dvd.mpr (Sw.dv_r t b)
      have e1 : t.fdiv c = Sw.rN t b := by
        rw [Int.fdiv_eq_ediv_of_dvd d1]
        unfold Sw.rN
        rcases hc with ⟨e, q⟩ | ⟨e, q⟩
        · rw [if_neg q, e]
        · rw [if_pos q, e]
      have e2 : b.fdiv c = Sw.rD t b := by
        rw [Int.fdiv_eq_ediv_of_dvd d2]
        unfold Sw.rD
        rcases hc with ⟨e, q⟩ | ⟨e, q⟩
        · rw [if_neg q, e]
        · rw [if_pos q, e]
      rw [e1, e2]
      exact ⟨⟨c0, cz⟩, ⟨c0, cz⟩, k⟩
    walk_at "rds"
    exact ite2 (fun c => fin _ (.inr ⟨rfl, c⟩)) fun c => fin _ (.inl ⟨rfl, c⟩)
def spPlus : Sp := fun vs H Q _ => ∃ p q a b z, vs = [.ref p, .ref q] ∧ H p = some (.tup (fq a)) ∧ H q = some (.tup (fq b)) ∧ z ≤ 2400 ∧ Sw.SzQ z a ∧ Sw.SzQ z b ∧ ∀ r, H r = none → Q (.ref r) (upd H r (.tup (fq (a + b))))
theorem d_plus (T : Txt K mg c_NoRatio c_Tide) : Def P w K mg base (CXX P w) 3 "plus" ["one", "other"] spPlus := by
  have D_ratio := d_ratio (P := P) (w := w) (base := base) T
  refine T.src_plus.okN (k := 2) sc_plus (fun vs H Q E h => ?_) (fun f cdv A outer s H vs Q E hr h => ?_)
  · obtain ⟨p, q, a, b, z, rfl, _⟩ := h
    rfl
  · obtain ⟨p, q, a, b, z, rfl, hp, hq, hz, s1, s2, k⟩ := h
    refine ⟨_, (pss_one (ps_ret (pe_callX D_ratio (hr.mono (by decide)) rfl passN (pa_cons (pe_op op_add (pe_op op_mulL (pe_ix (ix_tupK K rfl) (pv 0) pe_int (fun _ _ => rfl)) (pe_ix (ix_tupK K rfl) (pv 1) pe_int (fun _ _ => rfl))) (pe_op op_mulL (pe_ix (ix_tupK K rfl) (pv 1) pe_int (fun _ _ => rfl)) (pe_ix (ix_tupK K rfl) (pv 0) pe_int (fun _ _ => rfl)))) (pa_cons (pe_op op_mulL (pe_ix (ix_tupK K rfl) (pv 0) pe_int (fun _ _ => rfl)) (pe_ix (ix_tupK K rfl) (pv 1) pe_int (fun _ _ => rfl))) pa_nil))))), ?_⟩
    show tRet _ _ [some (.ref p), some (.ref q)] H
    have hab := Int.mul_ne_zero (Sw.q_den_ne a) (Sw.q_den_ne b)
    walk_at "rd"
    refine ixT_at (.of hp) rfl (ixT_at (.of hq) rfl ?_)
    walk_at "rd"
    refine ⟨⟨s1.n.mono (by omega), s2.d.mono (by omega)⟩, ixT_at (.of hq) rfl (ixT_at (.of hp) rfl ?_)⟩
    walk_at "rd"
    refine ⟨⟨s2.n.mono (by omega), s1.d.mono (by omega)⟩, ixT_at (.of hp) rfl (ixT_at (.of hq) rfl ?_)⟩
    walk_at "rd"
    refine ⟨⟨s1.d.mono (by omega), s2.d.mono (by omega)⟩, _, _, z + z, rfl, by omega, s1.d.mul s2.d, fun _ => ?_, fun z => absurd z hab⟩
    rw [Sw.add_q]
    exact k
def spMinus : Sp := fun vs H Q _ => ∃ p q a b z, vs = [.ref p, .ref q] ∧ H p = some (.tup (fq a)) ∧ H q = some (.tup (fq b)) ∧ z ≤ 2400 ∧ Sw.SzQ z a ∧ Sw.SzQ z b ∧ ∀ r, H r = none → Q (.ref r) (upd H r (.tup (fq (a - b))))
theorem d_minus (T : Txt K mg c_NoRatio c_Tide) : Def P w K mg base (CXX P w) 3 "minus" ["one", "other"] spMinus := by
  have D_ratio := d_ratio (P := P) (w := w) (base := base) T
  refine T.src_minus.okN (k := 2) sc_minus (fun vs H Q E h => ?_) (fun f cdv A outer s H vs Q E hr h => ?_)
  · obtain ⟨p, q, a, b, z, rfl, _⟩ := h
    rfl
  · obtain ⟨p, q, a, b, z, rfl, hp, hq, hz, s1, s2, k⟩ := h
    refine ⟨_, (pss_one (ps_ret (pe_callX D_ratio (hr.mono (by decide)) rfl passN (pa_cons (pe_op op_sub (pe_op op_mulL (pe_ix (ix_tupK K rfl) (pv 0) pe_int (fun _ _ => rfl)) (pe_ix (ix_tupK K rfl) (pv 1) pe_int (fun _ _ => rfl))) (pe_op op_mulL (pe_ix (ix_tupK K rfl) (pv 1) pe_int (fun _ _ => rfl)) (pe_ix (ix_tupK K rfl) (pv 0) pe_int (fun _ _ => rfl)))) (pa_cons (pe_op op_mulL (pe_ix (ix_tupK K rfl) (pv 0) pe_int (fun _ _ => rfl)) (pe_ix (ix_tupK K rfl) (pv 1) pe_int (fun _ _ => rfl))) pa_nil))))), ?_⟩
    show tRet _ _ [some (.ref p), some (.ref q)] H
    have hab := Int.mul_ne_zero (Sw.q_den_ne a) (Sw.q_den_ne b)
    walk_at "rd"
    refine ixT_at (.of hp) rfl (ixT_at (.of hq) rfl ?_)
    walk_at "rd"
    refine ⟨⟨s1.n.mono (by omega), s2.d.mono (by omega)⟩, ixT_at (.of hq) rfl (ixT_at (.of hp) rfl ?_)⟩
    walk_at "rd"
    refine ⟨⟨s2.n.mono (by omega), s1.d.mono (by omega)⟩, ixT_at (.of hp) rfl (ixT_at (.of hq) rfl ?_)⟩
    walk_at "rd"
    refine ⟨⟨s1.d.mono (by omega), s2.d.mono (by omega)⟩, _, _, z + z, rfl, by omega, s1.d.mul s2.d, fun _ => ?_, fun z => absurd z hab⟩
    rw [Sw.sub_q]
    exact k
def spTimes : Sp := fun vs H Q _ => ∃ p q a b z, vs = [.ref p, .ref q] ∧ H p = some (.tup (fq a)) ∧ H q = some (.tup (fq b)) ∧ z ≤ 2400 ∧ Sw.SzQ z a ∧ Sw.SzQ z b ∧ ∀ r, H r = none → Q (.ref r) (upd H r (.tup (fq (a * b))))
theorem d_times (T : Txt K mg c_NoRatio c_Tide) : Def P w K mg base (CXX P w) 3 "times" ["one", "other"] spTimes := by
  have D_ratio := d_ratio (P := P) (w := w) (base := base) T
  refine T.src_times.okN (k := 2) sc_times (fun vs H Q E h => ?_) (fun f cdv A outer s H vs Q E hr h => ?_)
  · obtain ⟨p, q, a, b, z, rfl, _⟩ := h
    rfl
  · obtain ⟨p, q, a, b, z, rfl, hp, hq, hz, s1, s2, k⟩ := h
    refine ⟨_, (pss_one (ps_ret (pe_callX D_ratio (hr.mono (by decide)) rfl passN (pa_cons (pe_op op_mulL (pe_ix (ix_tupK K rfl) (pv 0) pe_int (fun _ _ => rfl)) (pe_ix (ix_tupK K rfl) (pv 1) pe_int (fun _ _ => rfl))) (pa_cons (pe_op op_mulL (pe_ix (ix_tupK K rfl) (pv 0) pe_int (fun _ _ => rfl)) (pe_ix (ix_tupK K rfl) (pv 1) pe_int (fun _ _ => rfl))) pa_nil))))), ?_⟩
    show tRet _ _ [some (.ref p), some (.ref q)] H
    have hab := Int.mul_ne_zero (Sw.q_den_ne a) (Sw.q_den_ne b)
    walk_at "rd"
    refine ixT_at (.of hp) rfl (ixT_at (.of hq) rfl ?_)
    walk_at "rd"
    refine ⟨⟨s1.n.mono (by omega), s2.n.mono (by omega)⟩, ixT_at (.of hp) rfl (ixT_at (.of hq) rfl ?_)⟩
    walk_at "rd"
    refine ⟨⟨s1.d.mono (by omega), s2.d.mono (by omega)⟩, _, _, z + z, rfl, by omega, s1.d.mul s2.d, fun _ => ?_, fun z => absurd z hab⟩
    rw [Sw.mul_q]
    exact k
def spOver : Sp := fun vs H Q _ => ∃ p q a b z, vs = [.ref p, .ref q] ∧ H p = some (.tup (fq a)) ∧ H q = some (.tup (fq b)) ∧ z ≤ 2400 ∧ Sw.SzQ z a ∧ Sw.SzQ z b ∧ b ≠ 0 ∧ ∀ r, H r = none → Q (.ref r) (upd H r (.tup (fq (a / b))))
theorem d_over (T : Txt K mg c_NoRatio c_Tide) : Def P w K mg base (CXX P w) 3 "over" ["one", "other"] spOver := by
  have D_ratio := d_ratio (P := P) (w := w) (base := base) T
  refine T.src_over.okN (k := 2) sc_over (fun vs H Q E h => ?_) (fun f cdv A outer s H vs Q E hr h => ?_)
  · obtain ⟨p, q, a, b, z, rfl, _⟩ := h
    rfl
  · obtain ⟨p, q, a, b, z, rfl, hp, hq, hz, s1, s2, hb, k⟩ := h
    refine ⟨_, (pss_one (ps_ret (pe_callX D_ratio (hr.mono (by decide)) rfl passN (pa_cons (pe_op op_mulL (pe_ix (ix_tupK K rfl) (pv 0) pe_int (fun _ _ => rfl)) (pe_ix (ix_tupK K rfl) (pv 1) pe_int (fun _ _ => rfl))) (pa_cons (pe_op op_mulL (pe_ix (ix_tupK K rfl) (pv 0) pe_int (fun _ _ => rfl)) (pe_ix (ix_tupK K rfl) (pv 1) pe_int (fun _ _ => rfl))) pa_nil))))), ?_⟩
    show tRet _ _ [some (.ref p), some (.ref q)] H
    have hn := Sw.q_num_ne hb
    have hab := Int.mul_ne_zero (Sw.q_den_ne a) hn
    walk_at "rd"
    refine ixT_at (.of hp) rfl (ixT_at (.of hq) rfl ?_)
    walk_at "rd"
    refine ⟨⟨s1.n.mono (by omega), s2.d.mono (by omega)⟩, ixT_at (.of hp) rfl (ixT_at (.of hq) rfl ?_)⟩
    walk_at "rd"
    refine ⟨⟨s1.d.mono (by omega), s2.n.mono (by omega)⟩, _, _, z + z, rfl, by omega, s1.d.mul s2.n, fun _ => ?_, fun z => absurd z hab⟩
    rw [Sw.div_q a b hn]
    exact k
def spUnder : Sp := fun vs H Q _ => ∃ p q a b, vs = [.ref p, .ref q] ∧ H p = some (.tup (fq a)) ∧ H q = some (.tup (fq b)) ∧ Sw.SzQ 5000 a ∧ Sw.SzQ 5000 b ∧ Q (.bl (decide (a < b))) H
theorem d_under (T : Txt K mg c_NoRatio c_Tide) : Def P w K mg base (CXX P w) 1 "under" ["one", "other"] spUnder := by
  refine T.src_under.okN (k := 0) sc_under (fun vs H Q E h => ?_) (fun f cdv A outer s H vs Q E hr h => ?_)
  · obtain ⟨p, q, a, b, rfl, _⟩ := h
    rfl
  · obtain ⟨p, q, a, b, rfl, hp, hq, s1, s2, k⟩ := h
    refine ⟨_, (pss_one (ps_ret (pe_cmpR op_lt (pe_op op_mulL (pe_ix (ix_tupK K rfl) (pv 0) pe_int (fun _ _ => rfl)) (pe_ix (ix_tupK K rfl) (pv 1) pe_int (fun _ _ => rfl))) (pe_op op_mulL (pe_ix (ix_tupK K rfl) (pv 1) pe_int (fun _ _ => rfl)) (pe_ix (ix_tupK K rfl) (pv 0) pe_int (fun _ _ => rfl))) (nomark _)))), ?_⟩
    show tRet _ _ [some (.ref p), some (.ref q)] H
    walk_at "rd"
    refine ixT_at (.of hp) rfl (ixT_at (.of hq) rfl ?_)
    walk_at "rd"
    refine ⟨⟨s1.n, s2.d⟩, ixT_at (.of hq) rfl (ixT_at (.of hp) rfl ?_)⟩
    walk_at "rd"
    refine ⟨⟨s2.n, s1.d⟩, ?_⟩
    rw [show decide (a.num * (b.den : Int) < b.num * (a.den : Int)) = decide (a < b) from decide_eq_decide.mpr Sw.q_lt]
    exact k
def spLesser : Sp := fun vs H Q _ => ∃ p q a b, vs = [.ref p, .ref q] ∧ H p = some (.tup (fq a)) ∧ H q = some (.tup (fq b)) ∧ Sw.SzQ 5000 a ∧ Sw.SzQ 5000 b ∧ ∀ r, H r = none → Q (.ref r) (upd H r (.tup (fq (min a b))))
theorem d_lesser (T : Txt K mg c_NoRatio c_Tide) : Def P w K mg base (CXX P w) 2 "lesser" ["one", "other"] spLesser := by
  have D_under := d_under (P := P) (w := w) (base := base) T
  refine T.src_lesser.okN (k := 1) sc_lesser (fun vs H Q E h => ?_) (fun f cdv A outer s H vs Q E hr h => ?_)
  · obtain ⟨p, q, a, b, rfl, _⟩ := h
    rfl
  · obtain ⟨p, q, a, b, rfl, hp, hq, s1, s2, k⟩ := h
    refine ⟨_, (pss_cons (ps_set (i := 2) sc_lesser.nd rfl (by first | exact Or.inl rfl | exact Or.inr rfl) (pe_ifExp (pt_val (pe_callX D_under (hr.mono (by decide)) rfl passN (pa_cons (pv 1) (pa_cons (pv 0) pa_nil)))) (pv 1) (pv 0))) (pss_one (ps_ret (pe_tup (pa_cons (pe_ix (ix_tupK K rfl) (pv 2) pe_int (fun _ _ => rfl)) (pa_cons (pe_ix (ix_tupK K rfl) (pv 2) pe_int (fun _ _ => rfl)) pa_nil)))))), ?_⟩
    show tSeq _ _ _ [some (.ref p), some (.ref q), none] H
    refine seq_step fun R hR => ?_
    have key : ∀ x c, H x = some (.tup (fq c)) → c = min a b → R [some (.ref p), some (.ref q), some (.ref x)] H := fun x c hx e => by
      refine hR _ _ ?_
      walk_at "rd"
      subst e
      exact ixT_at (.of hx) rfl (ixT_at (.of hx) rfl k)
    walk_at "rd"
    refine ⟨q, p, b, a, rfl, hq, hp, s2, s1, ?_⟩
    walk_at "rd"
    exact ite2 (fun h => key q b hq (by rw [Rat.min_def]; grind)) fun h => key p a hp (by rw [Rat.min_def]; grind)
def spGreater : Sp := fun vs H Q _ => ∃ p q a b, vs = [.ref p, .ref q] ∧ H p = some (.tup (fq a)) ∧ H q = some (.tup (fq b)) ∧ Sw.SzQ 5000 a ∧ Sw.SzQ 5000 b ∧ ∀ r, H r = none → Q (.ref r) (upd H r (.tup (fq (max a b))))
theorem d_greater (T : Txt K mg c_NoRatio c_Tide) : Def P w K mg base (CXX P w) 2 "greater" ["one", "other"] spGreater := by
  have D_under := d_under (P := P) (w := w) (base := base) T
  refine T.src_greater.okN (k := 1) sc_greater (fun vs H Q E h => ?_) (fun f cdv A outer s H vs Q E hr h => ?_)
  · obtain ⟨p, q, a, b, rfl, _⟩ := h
    rfl
  · obtain ⟨p, q, a, b, rfl, hp, hq, s1, s2, k⟩ := h
    refine ⟨_, (pss_cons (ps_set (i := 2) sc_greater.nd rfl (by first | exact Or.inl rfl | exact Or.inr rfl) (pe_ifExp (pt_val (pe_callX D_under (hr.mono (by decide)) rfl passN (pa_cons (pv 0) (pa_cons (pv 1) pa_nil)))) (pv 1) (pv 0))) (pss_one (ps_ret (pe_tup (pa_cons (pe_ix (ix_tupK K rfl) (pv 2) pe_int (fun _ _ => rfl)) (pa_cons (pe_ix (ix_tupK K rfl) (pv 2) pe_int (fun _ _ => rfl)) pa_nil)))))), ?_⟩
    show tSeq _ _ _ [some (.ref p), some (.ref q), none] H
    refine seq_step fun R hR => ?_
    have key : ∀ x c, H x = some (.tup (fq c)) → c = max a b → R [some (.ref p), some (.ref q), some (.ref x)] H := fun x c hx e => by
      refine hR _ _ ?_
      walk_at "rd"
      subst e
      exact ixT_at (.of hx) rfl (ixT_at (.of hx) rfl k)
    walk_at "rd"
    refine ⟨p, q, a, b, rfl, hp, hq, s1, s2, ?_⟩
    walk_at "rd"
    exact ite2 (fun h => key q b hq (by rw [Rat.max_def]; grind)) fun h => key p a hp (by rw [Rat.max_def]; grind)
def spLeast : Sp := fun vs H Q _ => ∃ l ps qs, vs = [.ref l] ∧ Lst fq H l ps qs ∧ qs ≠ [] ∧ (∀ q ∈ qs, Sw.SzQ 5000 q) ∧ ∀ r H', Same H H' → H' r = some (.tup (fq (Sw.minL qs))) → Q (.ref r) H'
theorem d_least (T : Txt K mg c_NoRatio c_Tide) : Def P w K mg base (CXX P w) 3 "least" ["some"] spLeast := by
  have D_lesser := d_lesser (P := P) (w := w) (base := base) T
  refine T.src_least.okN (k := 2) sc_least (fun vs H Q E h => ?_) (fun f cdv A outer s H vs Q E hr h => ?_)
  · obtain ⟨l, ps, qs, rfl, _⟩ := h
    rfl
  · obtain ⟨l, ps, qs, rfl, L, ne, sz, k⟩ := h
    refine ⟨_, (pss_cons (ps_set (i := 1) sc_least.nd rfl (by first | exact Or.inl rfl | exact Or.inr rfl) (pe_ix (ix_listK K rfl) (pv 0) pe_int (fun _ _ => rfl))) (pss_cons (ps_for PassesOwn.never rfl (pi_listK K rfl (pv 0)) (pg_name (i := 2) sc_least.nd rfl (by first | exact Or.inl rfl | exact Or.inr rfl)) (pss_one (ps_set (i := 1) sc_least.nd rfl (by first | exact Or.inl rfl | exact Or.inr rfl) (pe_callX D_lesser (hr.mono (by decide)) rfl passN (pa_cons (pv 1) (pa_cons (pv 2) pa_nil)))))) (pss_one (ps_ret (pv 1))))), ?_⟩
    show tSeq _ _ _ [some (.ref l), none, none] H
    cases qs with
    | nil => exact absurd rfl ne
    | cons q0 qr =>
      cases ps with
      | nil => cases L.r
      | cons p0 pr =>
        have h0 : H p0 = some (.tup (fq q0)) := by
          cases L.r with
          | cons a b => exact a
        refine seq_step fun R hR => ?_
        walk_at "rd"
        refine ixL_at (.of L.hl) (v := .ref p0) (atI_nat (xs := (p0 :: pr).map V.ref) (j := 0) rfl) (hR _ _ ?_)
        refine seq_step fun R hR => ?_
        refine for_step fun Z hZ => ?_
        walk_at "rd"
        refine ⟨⟨_, .of L.hl⟩, hZ _ _ ?_⟩
        refine for_list (K := K) (a := l) (xs := (p0 :: pr).map V.ref) (fun i σ H' => Same H H' ∧ ∃ x c v, σ = [some (.ref l), some (.ref x), v] ∧ H' x = some (.tup (fq c)) ∧ c = ((q0 :: qr).take i).foldl min q0 ∧ Sw.SzQ 5000 c) ⟨Same.refl _, p0, q0, none, rfl, h0, rfl, sz q0 (by simp)⟩ (fun i σ H' _ q => .of (q.1 _ _ L.hl)) ?_ ?_
        · rintro i v σ H1 hv ⟨sm, x, c, v2, rfl, hx, hc, zc⟩
          obtain ⟨p, hp, rfl⟩ : ∃ p, (p0 :: pr)[i]? = some p ∧ V.ref p = v := by
            rw [List.getElem?_map] at hv
            cases e : (p0 :: pr)[i]? with
            | none => rw [e] at hv; cases hv
            | some z => rw [e] at hv; exact ⟨z, rfl, Option.some.inj hv⟩
          obtain ⟨q, hq, hp2⟩ := tupsF_get L.r hp
          have zq := sz q (List.mem_of_getElem? hq)
          show tAsg _ _ _ [some (.ref l), some (.ref x), some (.ref p)] H1
          refine nx_step fun R' hR' => ?_
          walk_at "rd"
          refine ⟨x, p, c, q, rfl, hx, sm _ _ hp2, zc, zq, fun r hr' => hR' _ _ ?_⟩
          refine ⟨sm.trans (same_new hr'), r, min c q, _, rfl, upd_same, ?_, zc.min zq⟩
          rw [take_succ_of hq, List.foldl_append, ← hc]
          rfl
        · rintro σ H1 ⟨sm, x, c, v2, rfl, hx, hc, zc⟩
          refine hR _ _ ?_
          walk_at "rd"
          have ln := tupsF_len L.r
          rw [List.take_of_length_le (by rw [List.length_map, ln]; exact Nat.le_refl _)] at hc
          rw [hc] at hx
          exact k x H1 sm hx
def spHeads : Sp := fun vs H Q _ => ∃ l ps us pm m, vs = [.ref l, .ref pm] ∧ H l = some (.lst (ps.map V.ref)) ∧ TagsAt H ps us ∧ H pm = some (.tup (fq m)) ∧ Sw.SzQ 5000 m ∧ (∀ u ∈ us, Sw.SzQ 5000 u.1 ∧ Sw.SzQ 5000 u.2.1) ∧ us.length ≤ 200 ∧
  ∀ r rs H', Same H H' → H' r = some (.lst (rs.map V.ref)) → TagsAt H' rs (Sw.hds us m) → Q (.ref r) H'
theorem d_heads_of (T : Txt K mg c_NoRatio c_Tide) : Def P w K mg base (CXX P w) 2 "heads_of" ["tagged", "mark"] spHeads := by
  have D_under := d_under (P := P) (w := w) (base := base) T
  refine T.src_heads_of.okN (k := 1) sc_heads_of (fun vs H Q E h => ?_) (fun f cdv A outer s H vs Q E hr h => ?_)
  · obtain ⟨l, ps, us, pm, m, rfl, _⟩ := h
    rfl
  · obtain ⟨l, ps, us, pm, m, rfl, hl, tg, hm, zm, zu, lu, k⟩ := h
    refine ⟨_, (pss_one (ps_ret (pe_lc ["one"] [("mark", 1)] rfl (by with_unfolding_all rfl) (by decide +kernel) rfl (by decide +kernel) (by exact ⟨rfl, True.intro⟩) (by with_unfolding_all rfl) ⟨⟨rfl, rfl, rfl⟩, True.intro⟩ (pi_listK K rfl (pv 0)) (fun _ _ _ => (pg_name (i := 0) (show (["one", "mark"] : List Str).Nodup from by decide +kernel) rfl (by first | exact Or.inl rfl | exact Or.inr rfl))) (fun _ _ _ => (pifs_one (PW.pt (pw_and (pt_not (pt_val (pe_callX D_under (hr.mono (by decide)) rfl passN (pa_cons (pv 1) (pa_cons (pe_ix (ix_tupK K rfl) (pv 0) pe_int (fun _ _ => rfl)) pa_nil))))) (pw_and1 (pt_val (pe_callX D_under (hr.mono (by decide)) rfl passN (pa_cons (pv 1) (pa_cons (pe_ix (ix_tupK K rfl) (pv 0) pe_int (fun _ _ => rfl)) pa_nil))))))))) (fun _ _ _ => (pv 0))))), ?_⟩
    show tRet _ _ [some (.ref l), some (.ref pm)] H
    have len := tags_len tg
    walk_at "rd"
    refine ⟨⟨_, .of hl⟩, fun D hD => ?_⟩
    have lD : l ≠ D := ne_of_none hl hD
    show CompG _ _ _ _ D [none, some (.ref pm)] _ _
    refine comp_walk (xs := ps.map V.ref) (fun i τ H' => Same H H' ∧ ∃ v rs, τ = [v, some (.ref pm)] ∧ H' D = some (.lst (rs.map V.ref)) ∧ TagsAt H' rs (Sw.hds (us.take i) m) ∧ rs.length ≤ i) ⟨same_new hD, none, [], rfl, upd_same, .nil, Nat.le_refl _⟩ (fun i τ H' _ q => .of (q.1 _ _ hl)) ?_ ?_
    · rintro i x τ H1 hx ⟨sm, v, rs, rfl, hrs, tr, lr⟩
      obtain ⟨p, hp, rfl⟩ : ∃ p, ps[i]? = some p ∧ V.ref p = x := by
        rw [List.getElem?_map] at hx
        cases e : ps[i]? with
        | none => rw [e] at hx; cases hx
        | some z => rw [e] at hx; exact ⟨z, rfl, Option.some.inj hx⟩
      have hi : i < ps.length := (List.getElem?_eq_some_iff.mp hp).1
      obtain ⟨u, hu, tu⟩ := paired_get tg hp
      obtain ⟨zb, ze⟩ := zu u (List.mem_of_getElem? hu)
      have tu1 := tu.keep fun _ _ q => sm _ _ q
      obtain ⟨pb, pe, h1, h2, h3⟩ := id tu1
      have hm1 := sm _ _ hm
      have et : Sw.hds (us.take (i + 1)) m = Sw.hds (us.take i) m ++ (if Sw.isHd m u = true then [u] else []) := by
        rw [take_succ_of hu]
        unfold Sw.hds
        rw [List.filter_append]
        congr 1
        rw [List.filter_cons]
        rfl
      have kt : ∀ b xs, H1 b = some (.tup xs) → upd H1 D (.lst (rs.map V.ref ++ [.ref p])) b = some (.tup xs) := fun b xs e => by
        rw [upd_ne (ne_of e hrs (by intro z; cases z))]; exact e
      walk_at "rd"
      refine ixT_at (.of h1) rfl ⟨pm, pb, m, u.1, rfl, hm1, h2, zm, zb, ?_⟩
      walk_at "rd"
      have no : Sw.isHd m u = false → Same H H1 ∧ ∃ x, H1 D = some (HO.lst (List.map V.ref x)) ∧ TagsAt H1 x (Sw.hds (List.take (i + 1) us) m) ∧ x.length ≤ i + 1 := fun e => by
        refine ⟨sm, rs, hrs, ?_, by omega⟩
        rw [et, e, if_neg (by decide), List.append_nil]
        exact tr
      refine ite2 (fun h => no (by unfold Sw.isHd; rw [decide_eq_true h]; rfl)) fun h => ixT_at (.of h1) rfl ⟨pm, pe, m, u.2.1, rfl, hm1, h3, zm, ze, _, rfl, ?_⟩
      refine ite2 (fun h4 => ?_) fun h4 => no (by unfold Sw.isHd; rw [show decide (m < u.2.1) = false from eq_false_of_ne_true h4, Bool.and_false])
      refine ⟨_, hrs, line_lt (by rw [List.length_map]; omega), fun b o e => ?_, rs ++ [p], by rw [upd_same]; simp, ?_, by simp; omega⟩
      · rw [upd_ne (ne_of_none e hD)]; exact sm _ _ e
      · rw [et, if_pos (by unfold Sw.isHd; rw [decide_eq_false h, h4]; rfl)]
        exact paired_snoc (tu1.keep kt) (tags_keep tr kt)
    · rintro τ H1 ⟨sm, v, rs, rfl, hrs, tr, lr⟩
      rw [List.take_of_length_le (by rw [List.length_map, len]; exact Nat.le_refl _)] at tr
      exact k D rs H1 sm hrs tr
def spMark (C : Addr) : Sp := fun vs H Q _ => ∃ p t lat re us D B, vs = [.ref p, .int t] ∧ TdM C H p lat re us ∧ TideOk D B lat re us ∧ lat ≤ t ∧ t < 1000000000000000 ∧
  ∀ q H', Same H H' → H' q = some (.tup (fq (Sw.markAt us lat re t))) → Q (.ref q) H'
theorem m_Tide_mark (T : Txt K mg c_NoRatio c_Tide) : MethD P w K mg base (CXX P w) 4 c_Tide "mark" ["self", "at"] [[]] (spMark c_Tide) := by
  have D_plus := d_plus (P := P) (w := w) (base := base) T
  have D_minus := d_minus (P := P) (w := w) (base := base) T
  have D_times := d_times (P := P) (w := w) (base := base) T
  have D_over := d_over (P := P) (w := w) (base := base) T
  have D_under := d_under (P := P) (w := w) (base := base) T
  have D_least := d_least (P := P) (w := w) (base := base) T
  have D_heads_of := d_heads_of (P := P) (w := w) (base := base) T
  refine T.me_Tide_mark.okN (k := 3) sc_Tide_mark (fun vs H Q E h => ?_) (fun f cdv A outer s H vs Q E hr h => ?_)
  · obtain ⟨p, t, lat, re, us, D, B, rfl, _⟩ := h
    rfl
  · obtain ⟨p, t, lat, re, us, D, B, rfl, td, ok, hlt, t1, k⟩ := h
    refine ⟨_, (pss_cons (ps_set (i := 2) sc_Tide_mark.nd rfl (by first | exact Or.inl rfl | exact Or.inr rfl) (pe_tup (pa_cons (pe_fld (pv 0) rfl) (pa_cons pe_int pa_nil)))) (pss_cons (ps_set (i := 3) sc_Tide_mark.nd rfl (by first | exact Or.inl rfl | exact Or.inr rfl) (pe_fld (pv 0) rfl)) (pss_cons (ps_set (i := 4) sc_Tide_mark.nd rfl (by first | exact Or.inl rfl | exact Or.inr rfl) (pe_callX D_heads_of (hr.mono (by decide)) rfl passN (pa_cons (pe_fld (pv 0) rfl) (pa_cons (pv 3) pa_nil)))) (pss_cons (ps_while PassesOwn.never (pt_truthK K rfl (pv 4)) (pss_cons (ps_set (i := 5) sc_Tide_mark.nd rfl (by first | exact Or.inl rfl | exact Or.inr rfl) (pe_tup (pa_cons (pe_callB (call_sumK K rfl rfl) rfl T.no_sum boot_sum (pa_cons (pe_lc ["begin", "end", "share"] [] rfl (by with_unfolding_all rfl) (by decide +kernel) rfl (by decide +kernel) (by exact True.intro) (by with_unfolding_all rfl) True.intro (pi_listK K rfl (pv 4)) (fun _ _ _ => (pg_tupK (n := 3) K rfl rfl (pgs_cons (pg_name (i := 0) (show (["begin", "end", "share"] : List Str).Nodup from by decide +kernel) rfl (by first | exact Or.inl rfl | exact Or.inr rfl)) (pgs_cons (pg_name (i := 1) (show (["begin", "end", "share"] : List Str).Nodup from by decide +kernel) rfl (by first | exact Or.inl rfl | exact Or.inr rfl)) (pgs_cons (pg_name (i := 2) (show (["begin", "end", "share"] : List Str).Nodup from by decide +kernel) rfl (by first | exact Or.inl rfl | exact Or.inr rfl)) pgs_nil))))) (fun _ _ _ => pifs_nil) (fun _ _ _ => (pv 2))) pa_nil)) (pa_cons pe_int pa_nil)))) (pss_cons (ps_set (i := 6) sc_Tide_mark.nd rfl (by first | exact Or.inl rfl | exact Or.inr rfl) (pe_callX D_least (hr.mono (by decide)) rfl passN (pa_cons (pe_lc ["begin", "end", "share"] [] rfl (by with_unfolding_all rfl) (by decide +kernel) rfl (by decide +kernel) (by exact True.intro) (by with_unfolding_all rfl) True.intro (pi_listK K rfl (pv 4)) (fun _ _ _ => (pg_tupK (n := 3) K rfl rfl (pgs_cons (pg_name (i := 0) (show (["begin", "end", "share"] : List Str).Nodup from by decide +kernel) rfl (by first | exact Or.inl rfl | exact Or.inr rfl)) (pgs_cons (pg_name (i := 1) (show (["begin", "end", "share"] : List Str).Nodup from by decide +kernel) rfl (by first | exact Or.inl rfl | exact Or.inr rfl)) (pgs_cons (pg_name (i := 2) (show (["begin", "end", "share"] : List Str).Nodup from by decide +kernel) rfl (by first | exact Or.inl rfl | exact Or.inr rfl)) pgs_nil))))) (fun _ _ _ => pifs_nil) (fun _ _ _ => (pv 1))) pa_nil))) (pss_cons (ps_set (i := 7) sc_Tide_mark.nd rfl (by first | exact Or.inl rfl | exact Or.inr rfl) (pe_callX D_plus (hr.mono (by decide)) rfl passN (pa_cons (pv 2) (pa_cons (pe_callX D_times (hr.mono (by decide)) rfl passN (pa_cons (pe_callX D_minus (hr.mono (by decide)) rfl passN (pa_cons (pv 6) (pa_cons (pv 3) pa_nil))) (pa_cons (pv 5) pa_nil))) pa_nil)))) (pss_cons (ps_if (pt_val (pe_callX D_under (hr.mono (by decide)) rfl passN (pa_cons (pe_tup (pa_cons (pv 1) (pa_cons pe_int pa_nil))) (pa_cons (pv 7) pa_nil)))) (pss_one (ps_ret (pe_callX D_plus (hr.mono (by decide)) rfl passN (pa_cons (pv 3) (pa_cons (pe_callX D_over (hr.mono (by decide)) rfl passN (pa_cons (pe_callX D_minus (hr.mono (by decide)) rfl passN (pa_cons (pe_tup (pa_cons (pv 1) (pa_cons pe_int pa_nil))) (pa_cons (pv 2) pa_nil))) (pa_cons (pv 5) pa_nil))) pa_nil))))) pss_nil) (pss_cons (ps_set (i := 2) sc_Tide_mark.nd rfl (by first | exact Or.inl rfl | exact Or.inr rfl) (pv 7)) (pss_cons (ps_set (i := 3) sc_Tide_mark.nd rfl (by first | exact Or.inl rfl | exact Or.inr rfl) (pv 6)) (pss_one (ps_set (i := 4) sc_Tide_mark.nd rfl (by first | exact Or.inl rfl | exact Or.inr rfl) (pe_callX D_heads_of (hr.mono (by decide)) rfl passN (pa_cons (pe_fld (pv 0) rfl) (pa_cons (pv 3) pa_nil)))))))))))) (pss_one (ps_ret (pe_tup (pa_cons (pe_ix (ix_tupK K rfl) (pv 3) pe_int (fun _ _ => rfl)) (pa_cons (pe_ix (ix_tupK K rfl) (pv 3) pe_int (fun _ _ => rfl)) pa_nil))))))))), ?_⟩
    show tSeq _ _ _ [some (.ref p), some (.int t), none, none, none, none, none, none] H
    obtain ⟨dx, fs, pr, pu, pe, ps, hp, ft, hr', hu, tg⟩ := id td.ex
    refine seq_step fun R hR => ?_
    walk_at "rd"
    refine fldR_at hp T.cl_Tide T.na_Tide_latest ft.lat ?_
    walk_at "rd"
    intro x1 f1
    have s1 := same_new (o := .tup [.int lat, .int 1]) f1
    have h1 := at_int (H := H) (p := x1) (n := lat)
    have hp := s1 _ _ hp
    have hr' := s1 _ _ hr'
    have hu := s1 _ _ hu
    have tg := tags_same tg s1
    generalize upd H x1 (.tup [.int lat, .int 1]) = H1 at s1 h1 hp hr' hu tg ⊢
    refine hR _ _ ?_
    refine seq_step fun R hR => ?_
    walk_at "rd"
    refine fldR_at hp T.cl_Tide T.na_Tide_reached ft.rch (hR _ _ ?_)
    refine seq_step fun R hR => ?_
    walk_at "rd"
    refine fldR_at hp T.cl_Tide T.na_Tide_unflowed ft.unf ?_
    have zus : ∀ u ∈ us, Sw.SzQ 5000 u.1 ∧ Sw.SzQ 5000 u.2.1 := fun u h => ok.zu u h
    refine ⟨pu, ps, us, pr, re, rfl, hu, tg, hr', ok.zr.mono (by decide), zus, by have := ok.len; omega, fun hd rs H2 s2 hh th => hR _ _ ?_⟩
    refine seq_step fun R hR => ?_
    refine while_m (fun m σ H' => Same H H' ∧ ∃ mo rq n x y z rs v5 v6 v7, σ = [some (.ref p), some (.int t), some (.ref x), some (.ref y), some (.ref z), v5, v6, v7] ∧ H' x = some (.tup (fq mo)) ∧ H' y = some (.tup (fq rq)) ∧ H' z = some (.lst (rs.map V.ref)) ∧ TagsAt H' rs (Sw.hds us rq) ∧
      H' p = some (.ins c_Tide dx fs) ∧ H' pu = some (.lst (ps.map V.ref)) ∧ TagsAt H' ps us ∧ Sw.Grd D mo ∧ 0 ≤ mo ∧ mo ≤ (t : Rat) ∧ Sw.Grd D rq ∧ 0 ≤ rq ∧ rq ≤ (B : Rat) ∧
      Sw.markAt us lat re t = Sw.markF us (t : Rat) (n + 1) mo rq ∧ Sw.ahead us rq ≤ n ∧ m = Sw.ahead us rq) (m0 := Sw.ahead us re)
      ⟨s1.trans s2, lat, re, us.length, x1, pr, hd, rs, none, none, none, rfl, s2 _ _ h1, s2 _ _ hr', hh, th, s2 _ _ hp, s2 _ _ hu, tags_same tg s2, Sw.Grd.int (by have := ok.gb.D0; omega) lat, ok.lat0, Rat.intCast_le_intCast.mpr hlt, ok.gre, ok.re0, ok.reB, rfl, Sw.ahead_le _ _, rfl⟩ ?_
    rintro m σ H3 ⟨sm, mo, rq, n, x, y, z, rs, v5, v6, v7, rfl, hx, hy, hz, th, hp, hu, tg, gm, m0, m1, gr, r0, r1, em, an, rfl⟩
    refine ⟨!(rs.map V.ref).isEmpty, fun Q hQ => ⟨_, rfl, _, truL (.of hz), hQ⟩, fun hb => ?_, fun hb => ?_⟩
    · have hne : Sw.hds us rq ≠ [] := by
        intro z
        rw [z] at th
        cases th
        exact absurd hb (by decide)
      have gt := Sw.fstE_gt hne
      have lth := tags_len th
      have lhd : (Sw.hds us rq).length ≤ 100 := Nat.le_trans (List.length_filter_le _ _) ok.len
      have hok : ∀ u ∈ Sw.hds us rq, TagOk D B u := fun u h => ok.tus u (Sw.hds_mem h).1
      refine seq_step fun R' hR' => ?_
      walk_at "rd"
      refine ⟨⟨_, .of hz⟩, fun Dl hDl => ?_⟩
      show CompG _ _ _ _ Dl [none, none, none] _ _
      refine comp_walk (xs := rs.map V.ref) (fun i τ H' => Same H3 H' ∧ ∃ w1 w2 w3, τ = [w1, w2, w3] ∧ H' Dl = some (.lst ((((Sw.hds us rq).take i).map fun u => u.2.2).map V.int))) ⟨same_new hDl, none, none, none, rfl, upd_same⟩ (fun i τ H' _ q => .of (q.1 _ _ hz)) ?_ ?_
      · rintro i w τ H4 hw ⟨sm4, w1, w2, w3, rfl, hl4⟩
        obtain ⟨pp, hpp, rfl⟩ : ∃ p, rs[i]? = some p ∧ V.ref p = w := by
          rw [List.getElem?_map] at hw
          cases e : rs[i]? with
          | none => rw [e] at hw; cases hw
          | some z => rw [e] at hw; exact ⟨z, rfl, Option.some.inj hw⟩
        have hi : i < rs.length := (List.getElem?_eq_some_iff.mp hpp).1
        obtain ⟨u, hu', tu⟩ := paired_get th hpp
        obtain ⟨pb, pe', g1, g2, g3⟩ := tu.keep fun _ _ q => sm4 _ _ q
        walk_at "rd"
        refine ⟨_, .of g1, rfl, _, _, rfl, _, _, rfl, _, _, rfl, rfl, ?_⟩
        unfold tYes
        walk_at "rd"
        refine ⟨_, hl4, line_lt (by simp; omega), fun b o e => ?_, ?_⟩
        · rw [upd_ne (ne_of_none e hDl)]; exact sm4 _ _ e
        · rw [upd_same, take_succ_of hu', List.map_append, List.map_append]
          rfl
      · rintro τ H4 ⟨sm4, w1, w2, w3, rfl, hl4⟩
        rw [List.take_of_length_le (by rw [List.length_map, lth]; exact Nat.le_refl _)] at hl4
        refine ⟨Dl, _, rfl, .of hl4, ?_⟩
        walk_at "rd"
        intro q5 f5
        have eS : ((Sw.hds us rq).map fun u => u.2.2).sum = Sw.sumS (Sw.hds us rq) := rfl
        rw [eS]
        have hS := sumS_ok hok hne
        have hS2 : Sw.sumS (Sw.hds us rq) ≤ 100000000 := by have := hS.2; omega
        generalize hSv : Sw.sumS (Sw.hds us rq) = S at hS hS2
        have sm5 := sm4.trans (same_new (o := .tup [.int S, .int 1]) f5)
        have h5 := at_int (H := H4) (p := q5) (n := S)
        generalize upd H4 q5 (.tup [.int S, .int 1]) = H5 at sm5 h5 ⊢
        clear hl4 sm4 hDl f5 eS
        refine hR' _ _ ?_
        have hz := sm5 _ _ hz
        have th := tags_same th sm5
        have hx := sm5 _ _ hx
        have hy := sm5 _ _ hy
        have hp := sm5 _ _ hp
        have hu := sm5 _ _ hu
        have tg := tags_same tg sm5
        have sm := sm.trans sm5
        clear sm5
        refine seq_step fun R' hR' => ?_
        walk_at "rd"
        refine ⟨⟨_, .of hz⟩, fun Dl hDl => ?_⟩
        show CompG _ _ _ _ Dl [none, none, none] _ _
        refine comp_walk (xs := rs.map V.ref) (fun i τ H' => Same H5 H' ∧ ∃ w1 w2 w3 es, τ = [w1, w2, w3] ∧ Lst fq H' Dl es (((Sw.hds us rq).take i).map fun u => u.2.1) ∧ es.length ≤ i) ⟨same_new hDl, none, none, none, [], rfl, ⟨upd_same, .nil⟩, Nat.le_refl _⟩ (fun i τ H' _ q => .of (q.1 _ _ hz)) ?_ ?_
        · rintro i w τ H6 hw ⟨sm4, w1, w2, w3, es, rfl, L6, le6⟩
          obtain ⟨pp, hpp, rfl⟩ : ∃ p, rs[i]? = some p ∧ V.ref p = w := by
            rw [List.getElem?_map] at hw
            cases e : rs[i]? with
            | none => rw [e] at hw; cases hw
            | some z => rw [e] at hw; exact ⟨z, rfl, Option.some.inj hw⟩
          have hi : i < rs.length := (List.getElem?_eq_some_iff.mp hpp).1
          obtain ⟨u, hu', tu⟩ := paired_get th hpp
          obtain ⟨pb, pe', g1, g2, g3⟩ := tu.keep fun _ _ q => sm4 _ _ q
          have kt : ∀ b xs, H6 b = some (.tup xs) → upd H6 Dl (.lst (es.map V.ref ++ [.ref pe'])) b = some (.tup xs) := fun b xs e => by
            rw [upd_ne (ne_of e L6.hl (by intro z; cases z))]; exact e
          walk_at "rd"
          refine ⟨_, .of g1, rfl, _, _, rfl, _, _, rfl, _, _, rfl, rfl, ?_⟩
          unfold tYes
          walk_at "rd"
          refine ⟨_, L6.hl, line_lt (by simp; omega), fun b o e => ?_, es ++ [pe'], ⟨by rw [upd_same]; simp, ?_⟩, by simp; omega⟩
          · rw [upd_ne (ne_of_none e hDl)]; exact sm4 _ _ e
          · rw [take_succ_of hu', List.map_append]
            exact tupsF_snoc (kt _ _ g3) (tupsF_keep L6.r kt)
        · rintro τ H6 ⟨sm4, w1, w2, w3, es, rfl, L6, le6⟩
          rw [List.take_of_length_le (by rw [List.length_map, lth]; exact Nat.le_refl _)] at L6
          refine ⟨Dl, es, _, rfl, L6, by simpa using hne, fun q hq => ?_, fun fe H7 sm7 hfe => hR' _ _ ?_⟩
          · obtain ⟨u, hu', rfl⟩ := List.mem_map.mp hq
            exact (ok.zu u (Sw.hds_mem hu').1).2
          have eF : Sw.minL ((Sw.hds us rq).map fun u => u.2.1) = Sw.fstE (Sw.hds us rq) := rfl
          rw [eF] at hfe
          obtain ⟨uf, huf, ef⟩ := Sw.fstE_mem hne
          have tf := hok uf huf
          have gf : Sw.Grd D (Sw.fstE (Sw.hds us rq)) := by rw [ef]; exact tf.e
          have fB : Sw.fstE (Sw.hds us rq) ≤ (B : Rat) := by rw [ef]; exact tf.eB
          have an2 := Sw.ahead_lt hne
          have em2 : Sw.markF us (t : Rat) (n + 1) mo rq = (if (t : Rat) < mo + (Sw.fstE (Sw.hds us rq) - rq) * (S : Rat) then rq + ((t : Rat) - mo) / (S : Rat) else Sw.markF us (t : Rat) n (mo + (Sw.fstE (Sw.hds us rq) - rq) * (S : Rat)) (Sw.fstE (Sw.hds us rq))) := by
            show (if Sw.hds us rq = [] then _ else _) = _
            rw [if_neg hne, hSv]
          rw [em2] at em
          generalize Sw.fstE (Sw.hds us rq) = fv at hfe gf fB gt an2 em
          have sm5 := sm4.trans sm7
          have hx := sm5 _ _ hx
          have hy := sm5 _ _ hy
          have hp := sm5 _ _ hp
          have hu := sm5 _ _ hu
          have tg := tags_same tg sm5
          have h5 := sm5 _ _ h5
          have sm := sm.trans sm5
          clear sm5 sm4 sm7 L6 hDl hz
          have gb := ok.gb
          have B0 := gb.B0
          have B1 := gb.B1
          have Bq : (0 : Rat) ≤ (B : Rat) := by grind
          have S0 : (0 : Rat) ≤ (S : Rat) := by
            have : ((0 : Int) : Rat) ≤ (S : Rat) := Rat.intCast_le_intCast.mpr (by omega)
            exact this
          have d0 : 0 ≤ fv - rq := by grind
          have d1 : fv - rq ≤ (B : Rat) := by grind
          have gd := gf.sub gr
          have pd0 : 0 ≤ (fv - rq) * (S : Rat) := Rat.mul_nonneg d0 S0
          have pd1 : (fv - rq) * (S : Rat) ≤ ((B * S : Int) : Rat) := by
            rw [Rat.intCast_mul]; exact Rat.mul_le_mul_of_nonneg_right d1 S0
          have BS : B * S ≤ 10000000000 * 100000000 := Int.mul_le_mul B1 hS2 (by omega) (by decide)
          have BS0 : 0 ≤ B * S := Int.mul_nonneg B0 (by omega)
          have gp := gd.muli S
          have ga := gm.add gp
          have tq : (t : Rat) ≤ ((1000000000000000 : Int) : Rat) := Rat.intCast_le_intCast.mpr (by omega)
          have zd : Sw.SzQ 1570 (fv - rq) := gb.szB gd d0 d1
          have zp : Sw.SzQ 1570 ((fv - rq) * (S : Rat)) := gb.sz (M := B * S) gp (by rw [Rat.intCast_mul] at pd1; grind) pd1 (by omega) (by omega)
          have a0 : 0 ≤ mo + (fv - rq) * (S : Rat) := by grind
          have a1 : mo + (fv - rq) * (S : Rat) ≤ ((1000000000000000 + B * S : Int) : Rat) := by rw [Rat.intCast_add]; grind
          have za : Sw.SzQ 1570 (mo + (fv - rq) * (S : Rat)) := gb.sz (M := 1000000000000000 + B * S) ga (by have := Rat.neg_le_neg a1; grind) a1 (by omega) (by omega)
          have zS : Sw.SzQ 70 (S : Rat) := .int (Sw.Sz.r18 (by omega) (by omega))
          have zm : Sw.SzQ 1570 mo := gb.sz (M := 1000000000000000) gm (by grind) (by grind) (by decide) (by decide)
          have zrq : Sw.SzQ 1570 rq := gb.szB gr r0 r1
          have zf : Sw.SzQ 1570 fv := gb.szB gf (by grind) fB
          refine seq_step fun R' hR' => ?_
          walk_at "rd"
          refine ⟨fe, y, fv, rq, 1570, rfl, hfe, hy, by decide, zf, zrq, fun q1 f1 => ?_⟩
          have n1 := same_new (o := .tup (fq (fv - rq))) f1
          refine ⟨q1, q5, fv - rq, (S : Rat), 1570, rfl, upd_same, n1 _ _ h5, by decide, zd, zS.mono (by decide), fun q2 f2' => ?_⟩
          have n2 := same_new (o := .tup (fq ((fv - rq) * (S : Rat)))) f2'
          refine ⟨x, q2, mo, (fv - rq) * (S : Rat), 1570, rfl, n2 _ _ (n1 _ _ hx), upd_same, by decide, zm, zp, fun q3 f3 => hR' _ _ ?_⟩
          have n3 := same_new (o := .tup (fq (mo + (fv - rq) * (S : Rat)))) f3
          have nn := (n1.trans n2).trans n3
          have haf : upd (upd (upd H7 q1 (.tup (fq (fv - rq)))) q2 (.tup (fq ((fv - rq) * (S : Rat))))) q3 (.tup (fq (mo + (fv - rq) * (S : Rat)))) q3 = some (.tup (fq (mo + (fv - rq) * (S : Rat)))) := upd_same
          generalize upd (upd (upd H7 q1 (.tup (fq (fv - rq)))) q2 (.tup (fq ((fv - rq) * (S : Rat))))) q3 (.tup (fq (mo + (fv - rq) * (S : Rat)))) = H8 at nn haf ⊢
          have hx := nn _ _ hx
          have hy := nn _ _ hy
          have hp := nn _ _ hp
          have hu := nn _ _ hu
          have tg := tags_same tg nn
          have h5 := nn _ _ h5
          have hfe := nn _ _ hfe
          have sm := sm.trans nn
          clear nn n1 n2 n3 f1 f2' f3
          refine seq_step fun R' hR' => ?_
          walk_at "rd"
          intro q4 f4
          have n4 := same_new (o := .tup [.int t, .int 1]) f4
          have zt : Sw.SzQ 70 (t : Rat) := .int (Sw.Sz.r18 (by have := ok.l0; omega) (by omega))
          refine ⟨q4, q3, t, mo + (fv - rq) * (S : Rat), rfl, at_int, n4 _ _ haf, zt.mono (by decide), za.mono (by decide), ?_⟩
          have sm := sm.trans n4
          have hx := n4 _ _ hx
          have hy := n4 _ _ hy
          have hp := n4 _ _ hp
          have hu := n4 _ _ hu
          have tg := tags_same tg n4
          have h5 := n4 _ _ h5
          have hfe := n4 _ _ hfe
          have haf := n4 _ _ haf
          generalize upd H8 q4 (.tup [.int t, .int 1]) = H9 at sm hx hy hp hu tg h5 hfe haf ⊢
          clear n4 f4
          walk_at "rd"
          refine ite2 (fun hlt2 => ?_) fun hlt2 => hR' _ _ ?_
          · rw [if_pos hlt2] at em
            intro q6 f6
            have n6 := same_new (o := .tup [.int t, .int 1]) f6
            have td0 : 0 ≤ (t : Rat) - mo := by grind
            have zx : Sw.SzQ 1570 ((t : Rat) - mo) := gb.sz (M := 1000000000000000) ((Sw.Grd.int (by have := gb.D0; omega) t).sub gm) (by grind) (by grind) (by decide) (by decide)
            have Sn : (S : Rat) ≠ 0 := Sw.q_cast_ne (by omega)
            refine ⟨q6, x, t, mo, 1570, rfl, at_int, n6 _ _ hx, by decide, zt.mono (by decide), zm, fun q7 f7 => ?_⟩
            have n7 := same_new (o := .tup (fq ((t : Rat) - mo))) f7
            refine ⟨q7, q5, (t : Rat) - mo, S, 1570, rfl, upd_same, n7 _ _ (n6 _ _ h5), by decide, zx, zS.mono (by decide), Sn, fun q8 f8 => ?_⟩
            have n8 := same_new (o := .tup (fq (((t : Rat) - mo) / (S : Rat)))) f8
            refine ⟨y, q8, rq, ((t : Rat) - mo) / (S : Rat), 1640, rfl, n8 _ _ (n7 _ _ (n6 _ _ hy)), upd_same, by decide, zrq.mono (by decide), Sw.SzQ.div (Sw.q_num_ne Sn) zx zS, fun q9 f9 => ?_⟩
            refine k q9 _ ((((sm.trans n6).trans n7).trans n8).trans (same_new f9)) ?_
            rw [em, upd_same]
          · rw [if_neg hlt2] at em
            refine seq_step fun R' hR' => ?_
            walk_at "rd"
            refine hR' _ _ ?_
            refine seq_step fun R' hR' => ?_
            walk_at "rd"
            refine hR' _ _ ?_
            refine nx_step fun R' hR' => ?_
            walk_at "rd"
            refine fldR_at hp T.cl_Tide T.na_Tide_unflowed ft.unf ?_
            refine ⟨pu, ps, us, fe, fv, rfl, hu, tg, hfe, zf.mono (by decide), zus, by have := ok.len; omega, fun hd rs H10 s10 hh th => hR' _ _ ?_⟩
            have an3 : 0 < n := by omega
            obtain ⟨n', rfl⟩ : ∃ n', n = n' + 1 := ⟨n - 1, by omega⟩
            exact ⟨_, an2, sm.trans s10, mo + (fv - rq) * (S : Rat), fv, n', q3, fe, hd, rs, _, _, _, rfl, s10 _ _ haf, s10 _ _ hfe, hh, th, s10 _ _ hp, s10 _ _ hu, tags_same tg s10, ga, a0, by grind, gf, by grind, fB, em, by omega, rfl⟩
    · refine hR _ _ ?_
      have hn : Sw.hds us rq = [] := by
        have : rs = [] := by simpa using hb
        subst this
        exact List.length_eq_zero_iff.mp (tags_len th).symm
      walk_at "rd"
      refine ixT_at (.of hy) rfl (ixT_at (.of hy) rfl fun q hq => ?_)
      refine k q _ (sm.trans (same_new hq)) ?_
      rw [em]
      unfold Sw.markF
      rw [if_pos hn, upd_same]
      rfl
def spTI (C : Addr) : Sp := fun vs H Q _ => ∃ x dx, vs = [.ref x] ∧ H x = some (.ins C dx []) ∧ ∀ pe H', But x H H' → H pe = none → Td C H' x pe 0 0 [] (fun _ => none) 0 → Q .non H'
theorem k_Tide (T : Txt K mg c_NoRatio c_Tide) : MkD P w K mg base (CXX P w) 3 c_Tide ["self"] [[]] (spTI c_Tide) := by
  have D_ratio := d_ratio (P := P) (w := w) (base := base) T
  refine T.in_Tide.okN (k := 2) sc_Tide_init (fun vs H Q E h => ?_) (fun f cdv A outer s H vs Q E hr h => ?_)
  · obtain ⟨x, dx, rfl, _⟩ := h
    rfl
  · obtain ⟨x, dx, rfl, hx, k⟩ := h
    refine ⟨_, (pss_cons (ps_fld (pv 0) pe_int rfl) (pss_cons (ps_fld (pv 0) (pe_callX D_ratio (hr.mono (by decide)) rfl passN (pa_cons pe_int (pa_cons pe_int pa_nil))) rfl) (pss_cons (ps_fld (pv 0) (pe_lst pa_nil) rfl) (pss_one (ps_fld (pv 0) pe_dnewK rfl))))), ?_⟩
    show tSeq _ _ _ [some (.ref x)] H
    have l1 := putF_len' (fs := []) (f := "latest") (v := .int 0)
    simp only [List.length_nil] at l1
    refine seq_step fun R hR => ?_
    walk_at "rd"
    refine set_at hx T.cl_Tide T.na_Tide_latest (by simp) (hR _ _ ?_)
    refine seq_step fun R hR => ?_
    walk_at "rd"
    refine ⟨0, 1, 1, rfl, by decide, Sw.Sz.one _, fun _ pr hpr => ?_, fun z => absurd z (by decide)⟩
    have nx : x ≠ pr := by
      intro z
      rw [z, upd_same] at hpr
      cases hpr
    have npr : H pr = none := by rw [upd_ne (Ne.symm nx)] at hpr; exact hpr
    have l2 := putF_len' (fs := putF "latest" (.int 0) []) (f := "reached") (v := .ref pr)
    walk_at "rd"
    refine set_at (C := c_Tide) (dx := dx) (fs := putF "latest" (.int 0) []) (by rw [upd_ne nx, upd_same]) T.cl_Tide T.na_Tide_reached (by omega) (hR _ _ ?_)
    have e0 : ((0 : Int) : Rat) / ((1 : Int) : Rat) = 0 := by
      have z0 : ((0 : Int) : Rat) = 0 := rfl
      rw [z0]; grind
    rw [e0]
    have q1 : But x H (upd (upd (upd H x (.ins c_Tide dx (putF "latest" (.int 0) []))) pr (.tup (fq 0))) x (.ins c_Tide dx (putF "reached" (.ref pr) (putF "latest" (.int 0) [])))) := fun b o n e => by
      rw [upd_ne n, upd_ne (ne_of_none e npr), upd_ne n]; exact e
    have hx1 : upd (upd (upd H x (.ins c_Tide dx (putF "latest" (.int 0) []))) pr (.tup (fq 0))) x (.ins c_Tide dx (putF "reached" (.ref pr) (putF "latest" (.int 0) []))) x = some (.ins c_Tide dx (putF "reached" (.ref pr) (putF "latest" (.int 0) []))) := upd_same
    have hr1 : upd (upd (upd H x (.ins c_Tide dx (putF "latest" (.int 0) []))) pr (.tup (fq 0))) x (.ins c_Tide dx (putF "reached" (.ref pr) (putF "latest" (.int 0) []))) pr = some (.tup (fq 0)) := by rw [upd_ne (Ne.symm nx), upd_same]
    generalize upd (upd (upd H x (.ins c_Tide dx (putF "latest" (.int 0) []))) pr (.tup (fq 0))) x (.ins c_Tide dx (putF "reached" (.ref pr) (putF "latest" (.int 0) []))) = H1 at q1 hx1 hr1 ⊢
    refine seq_step fun R hR => ?_
    walk_at "rd"
    intro pu hpu
    have s1 := same_new (o := .lst []) hpu
    have l3 := putF_len' (fs := putF "reached" (.ref pr) (putF "latest" (.int 0) [])) (f := "unflowed") (v := .ref pu)
    have nxu : x ≠ pu := ne_of_none hx1 hpu
    refine set_at (s1 _ _ hx1) T.cl_Tide T.na_Tide_unflowed (by omega) (hR _ _ ?_)
    have npru : pr ≠ pu := ne_of_none hr1 hpu
    have q2 : But x H (upd (upd H1 pu (.lst [])) x (.ins c_Tide dx (putF "unflowed" (.ref pu) (putF "reached" (.ref pr) (putF "latest" (.int 0) []))))) := fun b o n e => by
      rw [upd_ne n]; exact s1 _ _ (q1 b o n e)
    have hx2 : upd (upd H1 pu (.lst [])) x (.ins c_Tide dx (putF "unflowed" (.ref pu) (putF "reached" (.ref pr) (putF "latest" (.int 0) [])))) x = some (.ins c_Tide dx (putF "unflowed" (.ref pu) (putF "reached" (.ref pr) (putF "latest" (.int 0) [])))) := upd_same
    have hr2 : upd (upd H1 pu (.lst [])) x (.ins c_Tide dx (putF "unflowed" (.ref pu) (putF "reached" (.ref pr) (putF "latest" (.int 0) [])))) pr = some (.tup (fq 0)) := by rw [upd_ne (Ne.symm nx)]; exact s1 _ _ hr1
    have hu2 : upd (upd H1 pu (.lst [])) x (.ins c_Tide dx (putF "unflowed" (.ref pu) (putF "reached" (.ref pr) (putF "latest" (.int 0) [])))) pu = some (.lst []) := by rw [upd_ne (Ne.symm nxu), upd_same]
    generalize upd (upd H1 pu (.lst [])) x (.ins c_Tide dx (putF "unflowed" (.ref pu) (putF "reached" (.ref pr) (putF "latest" (.int 0) [])))) = H2 at q2 hx2 hr2 hu2 ⊢
    walk_at "rd"
    intro pe hpe
    have s3 := same_new (o := .dK []) hpe
    have nxe : x ≠ pe := ne_of_none hx2 hpe
    have fe : H pe = none := by
      cases e : H pe with
      | none => rfl
      | some o => rw [q2 pe o (Ne.symm nxe) e] at hpe; cases hpe
    refine set_at (s3 _ _ hx2) T.cl_Tide T.na_Tide_last_ends (by omega) ?_
    refine k pe _ (fun b o n e => ?_) fe ⟨dx, _, pr, pu, [], [], upd_same, FT.mk0 pr pu pe, ?_, ?_, .nil, ?_, fun w => .inl ⟨rfl, rfl⟩, Nat.le_refl _, Nat.le_refl _⟩
    · rw [upd_ne n]; exact s3 _ _ (q2 b o n e)
    · rw [upd_ne (Ne.symm nx)]; exact s3 _ _ hr2
    · rw [upd_ne (Ne.symm nxu)]; exact s3 _ _ hu2
    · rw [upd_ne (Ne.symm nxe), upd_same]
/-- the list of what has not flowed is not at l -/
def NoU (C : Addr) (H : Hp) (p l : Addr) : Prop := ∀ dx fs pu, H p = some (.ins C dx fs) → fs.lookup ("unflowed" : Str) = some (.ref pu) → pu ≠ l
theorem NoU.on {C : Addr} {H H' : Hp} {p l dx : Addr} {fs : List (Str × V)} (h : NoU C H p l) (e : H p = some (.ins C dx fs)) (e' : H' p = some (.ins C dx fs)) : NoU C H' p l := fun dx' fs' pu h1 h2 => by
  rw [e'] at h1
  cases h1
  exact h _ _ _ e h2
theorem Td.list {C : Addr} {H : Hp} {p pe l : Addr} {lat : Int} {re : Rat} {us : List Sw.T3} {en : Int → Option Rat} {m : Nat} {xs ys : List V} (h : Td C H p pe lat re us en m) (n : NoU C H p l) (hl : H l = some (.lst xs)) : Td C (upd H l (.lst ys)) p pe lat re us en m := by
  obtain ⟨dx, fs, pr, pu, ps, kvs, h1, h2, h3, h4, h5, h6, h7, h8⟩ := h.ex
  have kt : ∀ b zs, H b = some (.tup zs) → upd H l (.lst ys) b = some (.tup zs) := fun b zs e => by rw [upd_ne (ne_of e hl (by intro z; cases z))]; exact e
  exact ⟨dx, fs, pr, pu, ps, kvs, by rw [upd_ne (ne_of h1 hl (by intro z; cases z))]; exact h1, h2, kt _ _ h3, by rw [upd_ne (n _ _ _ h1 h2.unf)]; exact h4, tags_keep h5 kt, by rw [upd_ne (ne_of h6 hl (by intro z; cases z))]; exact h6, h7.keep kt, h8⟩
def spCome (C : Addr) : Sp := fun vs H Q _ => ∃ p pc t who len sh pe lat re us en m D B, vs = [.ref p, .ref pc] ∧ H pc = some (.tup [.int t, .int who, .int len, .int sh]) ∧ Td C H p pe lat re us en m ∧ TideOk D B lat re us ∧ (∀ w e, en w = some e → Sw.Grd D e ∧ 0 ≤ e ∧ e ≤ (B : Rat)) ∧
  lat ≤ t ∧ t < 1000000000000000 ∧ 1 ≤ len ∧ len ≤ 1000000 ∧ 1 ≤ sh ∧ sh ≤ 1000000 ∧ m ≤ 99 ∧
  ∀ q qb qe H', Kept p pe H H' → Td C H' p pe t (Sw.markAt us lat re t) (Sw.usOn us (Sw.markAt us lat re t) (Sw.begOn en (Sw.markAt us lat re t) who) len sh) (setE en who (Sw.begOn en (Sw.markAt us lat re t) who + (len : Rat) / (sh : Rat))) (m + 1) →
    H' q = some (.tup [.ref qb, .ref qe]) → H' qb = some (.tup (fq (Sw.begOn en (Sw.markAt us lat re t) who))) → H' qe = some (.tup (fq (Sw.begOn en (Sw.markAt us lat re t) who + (len : Rat) / (sh : Rat)))) → (∀ l xs, H l = some (.lst xs) → NoU C H' p l) → Q (.ref q) H'
theorem m_Tide_come (T : Txt K mg c_NoRatio c_Tide) : MethD P w K mg base (CXX P w) 5 c_Tide "come" ["self", "piece"] [[]] (spCome c_Tide) := by
  have M_Tide_mark := m_Tide_mark (P := P) (w := w) (base := base) T
  have D_plus := d_plus (P := P) (w := w) (base := base) T
  have D_under := d_under (P := P) (w := w) (base := base) T
  have D_greater := d_greater (P := P) (w := w) (base := base) T
  have D_ratio := d_ratio (P := P) (w := w) (base := base) T
  refine T.me_Tide_come.okN (k := 4) sc_Tide_come (fun vs H Q E h => ?_) (fun f cdv A outer s H vs Q E hr h => ?_)
  · obtain ⟨p, pc, t, who, len, sh, pe, lat, re, us, en, m, D, B, rfl, _⟩ := h
    rfl
  · obtain ⟨p, pc, t, who, len, sh, pe, lat, re, us, en, m, D, B, rfl, hpc, td, ok, eok, hlt, t1, n1, n2, sh1, sh2, hm, k⟩ := h
    refine ⟨_, (pss_cons (ps_set (i := 2) sc_Tide_come.nd rfl (by first | exact Or.inl rfl | exact Or.inr rfl) (pe_methX (dvs := []) M_Tide_mark (by simp) T.cl_Tide (hr.mono (by decide)) passN (pv 0) (pa_cons (pe_ix (ix_tupK K rfl) (pv 1) pe_int (fun _ _ => rfl)) pa_nil))) (pss_cons (ps_fld (pv 0) (pe_ix (ix_tupK K rfl) (pv 1) pe_int (fun _ _ => rfl)) rfl) (pss_cons (ps_fld (pv 0) (pv 2) rfl) (pss_cons (ps_fld (pv 0) (pe_lc ["one"] [("reached", 2)] rfl (by with_unfolding_all rfl) (by decide +kernel) rfl (by decide +kernel) (by exact ⟨rfl, True.intro⟩) (by with_unfolding_all rfl) ⟨⟨rfl, rfl, rfl⟩, True.intro⟩ (pi_listK K rfl (pe_fld (pv 0) rfl)) (fun _ _ _ => (pg_name (i := 0) (show (["one", "reached"] : List Str).Nodup from by decide +kernel) rfl (by first | exact Or.inl rfl | exact Or.inr rfl))) (fun _ _ _ => (pifs_one (pt_val (pe_callX D_under (hr.mono (by decide)) rfl passN (pa_cons (pv 1) (pa_cons (pe_ix (ix_tupK K rfl) (pv 0) pe_int (fun _ _ => rfl)) pa_nil)))))) (fun _ _ _ => (pv 0))) rfl) (pss_cons (ps_set (i := 3) sc_Tide_come.nd rfl (by first | exact Or.inl rfl | exact Or.inr rfl) (pe_callX D_greater (hr.mono (by decide)) rfl passN (pa_cons (pv 2) (pa_cons (pe_dget2 (hu_of hr) (pe_fld (pv 0) rfl) (pe_ix (ix_tupK K rfl) (pv 1) pe_int (fun _ _ => rfl)) (pv 2) ⟨rfl, rfl, rfl, rfl⟩) pa_nil)))) (pss_cons (ps_set (i := 4) sc_Tide_come.nd rfl (by first | exact Or.inl rfl | exact Or.inr rfl) (pe_callX D_plus (hr.mono (by decide)) rfl passN (pa_cons (pv 3) (pa_cons (pe_callX D_ratio (hr.mono (by decide)) rfl passN (pa_cons (pe_ix (ix_tupK K rfl) (pv 1) pe_int (fun _ _ => rfl)) (pa_cons (pe_ix (ix_tupK K rfl) (pv 1) pe_int (fun _ _ => rfl)) pa_nil))) pa_nil)))) (pss_cons (ps_expr (pe_bm PySem.F.plainAttrs_list PySem.F.slot_list_append PySem.F.type_list_append mt_append (pe_fld (pv 0) rfl) (pa_cons (pe_tup (pa_cons (pv 3) (pa_cons (pv 4) (pa_cons (pe_ix (ix_tupK K rfl) (pv 1) pe_int (fun _ _ => rfl)) pa_nil)))) pa_nil))) (pss_cons (ps_dput (hu_of hr) (pe_fld (pv 0) rfl) (pe_ix (ix_tupK K rfl) (pv 1) pe_int (fun _ _ => rfl)) (pv 4) rfl) (pss_one (ps_ret (pe_tup (pa_cons (pv 3) (pa_cons (pv 4) pa_nil))))))))))))), ?_⟩
    show tSeq _ _ _ [some (.ref p), some (.ref pc), none, none, none] H
    have mk := Sw.markAt_ok ok hlt
    obtain ⟨dx, fs, pr, pu, ps, kvs, hp, ft, hr', hu, tg, he, ea, lk, lu⟩ := id td.ex
    have hp0 := hp
    have he0 := he
    refine seq_step fun R hR => ?_
    walk_at "rd"
    refine meth_at hp (ft.no _ (by decide +kernel) (by decide +kernel) (by decide +kernel) (by decide +kernel)) ?_
    refine ixT_at (.of hpc) rfl ?_
    walk_at "rd"
    refine ⟨p, t, lat, re, us, D, B, rfl, td.m, ok, hlt, t1, fun y H1 s1 hy => hR _ _ ?_⟩
    generalize Sw.markAt us lat re t = rv at mk hy k
    obtain ⟨⟨S, S1, S2, gS⟩, m1, m2⟩ := mk
    have hpc := s1 _ _ hpc
    have hp := s1 _ _ hp
    have hu := s1 _ _ hu
    have tg := tags_same tg s1
    have he := s1 _ _ he
    have ea := ea.keep fun _ _ q => s1 _ _ q
    have kp : Kept p pe H H1 := s1.kept
    clear s1 hr'
    refine seq_step fun R hR => ?_
    walk_at "rd"
    refine ixT_at (.of hpc) rfl (set_at hp T.cl_Tide T.na_Tide_latest (by have := ft.len; omega) (hR _ _ ?_))
    refine seq_step fun R hR => ?_
    walk_at "rd"
    have ft1 := ft.put_lat (l' := t)
    refine set_at upd_same T.cl_Tide T.na_Tide_reached (by have := ft1.len; omega) (hR _ _ ?_)
    rw [upd_upd]
    have ft2 := ft1.put_rch (r' := y)
    have nP : ∀ b xs, H1 b = some (.tup xs) → upd H1 p (.ins c_Tide dx (putF "reached" (.ref y) (putF "latest" (.int t) fs))) b = some (.tup xs) := fun b xs e => by
      rw [upd_ne (ne_of e hp (by intro z; cases z))]; exact e
    have hpc := nP _ _ hpc
    have hy := nP _ _ hy
    have tg := tags_keep tg nP
    have ea := ea.keep nP
    have npu : pu ≠ p := ne_of hu hp (by intro z; cases z)
    have npe : pe ≠ p := ne_of he hp (by intro z; cases z)
    have hu : upd H1 p (.ins c_Tide dx (putF "reached" (.ref y) (putF "latest" (.int t) fs))) pu = some (.lst (ps.map V.ref)) := by rw [upd_ne npu]; exact hu
    have he : upd H1 p (.ins c_Tide dx (putF "reached" (.ref y) (putF "latest" (.int t) fs))) pe = some (.dK kvs) := by rw [upd_ne npe]; exact he
    have kp : Kept p pe H (upd H1 p (.ins c_Tide dx (putF "reached" (.ref y) (putF "latest" (.int t) fs)))) := fun b o n1 n2 e => by rw [upd_ne n1]; exact kp b o n1 n2 e
    have hp : upd H1 p (.ins c_Tide dx (putF "reached" (.ref y) (putF "latest" (.int t) fs))) p = some (.ins c_Tide dx (putF "reached" (.ref y) (putF "latest" (.int t) fs))) := upd_same
    generalize upd H1 p (.ins c_Tide dx (putF "reached" (.ref y) (putF "latest" (.int t) fs))) = H2 at hpc hy tg ea hu he kp hp ⊢
    clear nP
    have gb := ok.gb
    have zrv : Sw.SzQ 1700 rv := by
      have B1 := gb.B1
      have B0 := gb.B0
      have re0 := ok.re0
      have lu' := ok.len
      exact (gS.sz (M := B) (a := 1570) (b := 70) (Int.mul_pos gb.D0 (by omega)) (gb.Dz.mul (Sw.Sz.r18 (by omega) (by omega))) (Sw.Sz.r18 (by omega) (by omega)) (by have : (0 : Rat) ≤ (B : Rat) := (by grind); grind) m2 (by decide)).mono (by decide)
    refine seq_step fun R hR => ?_
    walk_at "rd"
    refine fldR_at hp T.cl_Tide T.na_Tide_unflowed ft2.unf ?_
    walk_at "rd"
    refine ⟨⟨_, .of hu⟩, fun Dl hDl => ?_⟩
    show CompG _ _ _ _ Dl [none, some (.ref y)] _ _
    have len' := tags_len tg
    have nD0 : ∀ b o, H b = some o → b ≠ p → b ≠ pe → b ≠ Dl := fun b o e n1 n2 => ne_of_none (kp b o n1 n2 e) hDl
    refine comp_walk (xs := ps.map V.ref) (fun i τ H' => Same H2 H' ∧ ∃ v rs, τ = [v, some (.ref y)] ∧ H' Dl = some (.lst (rs.map V.ref)) ∧ TagsAt H' rs ((us.take i).filter fun u => decide (rv < u.2.1)) ∧ rs.length ≤ i) ⟨same_new hDl, none, [], rfl, upd_same, .nil, Nat.le_refl _⟩ (fun i τ H' _ q => .of (q.1 _ _ hu)) ?_ ?_
    · rintro i x τ H3 hx ⟨sm, v, rs, rfl, hrs, tr, lr⟩
      obtain ⟨pp, hpp, rfl⟩ : ∃ p, ps[i]? = some p ∧ V.ref p = x := by
        rw [List.getElem?_map] at hx
        cases e : ps[i]? with
        | none => rw [e] at hx; cases hx
        | some z => rw [e] at hx; exact ⟨z, rfl, Option.some.inj hx⟩
      have hi : i < ps.length := (List.getElem?_eq_some_iff.mp hpp).1
      obtain ⟨u, hu', tu⟩ := paired_get tg hpp
      obtain ⟨zb, ze⟩ := ok.zu u (List.mem_of_getElem? hu')
      have tu1 := tu.keep fun _ _ q => sm _ _ q
      obtain ⟨pb, pe', h1, h2, h3⟩ := id tu1
      have et : (us.take (i + 1)).filter (fun u => decide (rv < u.2.1)) = (us.take i).filter (fun u => decide (rv < u.2.1)) ++ (if decide (rv < u.2.1) = true then [u] else []) := by
        rw [take_succ_of hu', List.filter_append]
        congr 1
        rw [List.filter_cons]
        rfl
      have kt : ∀ b xs, H3 b = some (.tup xs) → upd H3 Dl (.lst (rs.map V.ref ++ [.ref pp])) b = some (.tup xs) := fun b xs e => by
        rw [upd_ne (ne_of e hrs (by intro z; cases z))]; exact e
      walk_at "rd"
      refine ixT_at (.of h1) rfl ⟨y, pe', rv, u.2.1, rfl, sm _ _ hy, h3, zrv.mono (by decide), ze, ?_⟩
      walk_at "rd"
      refine ite2 (fun h4 => ?_) fun h4 => ?_
      · refine ⟨_, hrs, line_lt (by rw [List.length_map]; have := ok.len; omega), fun b o e => ?_, rs ++ [pp], by rw [upd_same]; simp, ?_, by simp; omega⟩
        · rw [upd_ne (ne_of_none e hDl)]; exact sm _ _ e
        · rw [et, if_pos (decide_eq_true h4)]
          exact paired_snoc (tu1.keep kt) (tags_keep tr kt)
      · refine ⟨sm, rs, hrs, ?_, by omega⟩
        rw [et, if_neg (by simp [h4]), List.append_nil]
        exact tr
    · rintro τ H3 ⟨sm, v, rs, rfl, hrs, tr, lr⟩
      rw [List.take_of_length_le (by rw [List.length_map, len']; exact Nat.le_refl _)] at tr
      have hp := sm _ _ hp
      have hpc := sm _ _ hpc
      have hy := sm _ _ hy
      have he := sm _ _ he
      have ea := ea.keep fun _ _ q => sm _ _ q
      have kp := kp.trans sm.kept
      have nDp : Dl ≠ p := ne_of hrs hp (by intro z; cases z)
      have nDe : Dl ≠ pe := ne_of hrs he (by intro z; cases z)
      clear sm
      refine set_at hp T.cl_Tide T.na_Tide_unflowed (by have := ft2.len; omega) (hR _ _ ?_)
      have ft3 := ft2.put_unf (u' := Dl)
      have nP : ∀ b xs, H3 b = some (.tup xs) → upd H3 p (.ins c_Tide dx (putF "unflowed" (.ref Dl) (putF "reached" (.ref y) (putF "latest" (.int t) fs)))) b = some (.tup xs) := fun b xs e => by
        rw [upd_ne (ne_of e hp (by intro z; cases z))]; exact e
      have hpc := nP _ _ hpc
      have hy := nP _ _ hy
      have tr := tags_keep tr nP
      have ea := ea.keep nP
      have hrs : upd H3 p (.ins c_Tide dx (putF "unflowed" (.ref Dl) (putF "reached" (.ref y) (putF "latest" (.int t) fs)))) Dl = some (.lst (rs.map V.ref)) := by rw [upd_ne nDp]; exact hrs
      have he : upd H3 p (.ins c_Tide dx (putF "unflowed" (.ref Dl) (putF "reached" (.ref y) (putF "latest" (.int t) fs)))) pe = some (.dK kvs) := by rw [upd_ne npe]; exact he
      have kp : Kept p pe H (upd H3 p (.ins c_Tide dx (putF "unflowed" (.ref Dl) (putF "reached" (.ref y) (putF "latest" (.int t) fs))))) := fun b o n1 n2 e => by rw [upd_ne n1]; exact kp b o n1 n2 e
      have hp : upd H3 p (.ins c_Tide dx (putF "unflowed" (.ref Dl) (putF "reached" (.ref y) (putF "latest" (.int t) fs)))) p = some (.ins c_Tide dx (putF "unflowed" (.ref Dl) (putF "reached" (.ref y) (putF "latest" (.int t) fs)))) := upd_same
      generalize upd H3 p (.ins c_Tide dx (putF "unflowed" (.ref Dl) (putF "reached" (.ref y) (putF "latest" (.int t) fs)))) = H4 at hpc hy tr ea hrs he kp hp ⊢
      clear nP
      refine seq_step fun R hR => ?_
      walk_at "rd"
      refine fldR_at hp T.cl_Tide T.na_Tide_last_ends ft3.lst ?_
      walk_at "rd"
      refine ⟨.inl ⟨kvs, .inl he⟩, ixT_at (.of hpc) rfl ⟨_, DGet.k (k := Sum.inl who) he, ?_⟩⟩
      have D0 := gb.D0
      have dsn : D * S ≠ 0 := Int.mul_ne_zero (by omega) (by omega)
      have re0 := ok.re0
      obtain ⟨qe0, ev, hqe0, hev, gev, ev0, evB, zev⟩ : ∃ q e, (valV kvs (Sum.inl who : Key)).getD (.ref y) = .ref q ∧ H4 q = some (.tup (fq e)) ∧ Sw.Grd (D * S) e ∧ 0 ≤ e ∧ e ≤ (B : Rat) ∧ (en who).getD rv = e := by
        rcases ea who with ⟨h1, h2⟩ | ⟨e, q, h1, h2, h3⟩
        · rw [h1, h2]
          exact ⟨y, rv, rfl, hy, gS, by grind, m2, rfl⟩
        · rw [h1, h2]
          have eo := eok who e h1
          exact ⟨q, e, rfl, h3, eo.1.more (by omega) (by omega), eo.2.1, eo.2.2, rfl⟩
      rw [hqe0]
      have zz : ∀ q : Rat, Sw.Grd (D * S) q → 0 ≤ q → q ≤ (B : Rat) → Sw.SzQ 1700 q := fun q g q0 q1 => by
        have B1 := gb.B1
        have B0 := gb.B0
        have lu' := ok.len
        exact (g.sz (M := B) (a := 1570) (b := 70) (Int.mul_pos gb.D0 (by omega)) (gb.Dz.mul (Sw.Sz.r18 (by omega) (by omega))) (Sw.Sz.r18 (by omega) (by omega)) (by have : (0 : Rat) ≤ (B : Rat) := (by grind); grind) q1 (by decide)).mono (by decide)
      have zev' := zz ev gev ev0 evB
      have eb : Sw.begOn en rv who = max rv ev := by unfold Sw.begOn; rw [zev]
      rw [eb] at k
      refine ⟨y, qe0, rv, ev, rfl, hy, hev, zrv.mono (by decide), zev'.mono (by decide), fun qb hqb => hR _ _ ?_⟩
      have zb : Sw.SzQ 1700 (max rv ev) := by
        rw [Rat.max_def]; split
        · exact zev'
        · exact zrv
      generalize max rv ev = bv at zb k hqb ⊢
      have n1' := same_new (o := .tup (fq bv)) hqb
      have hb : upd H4 qb (.tup (fq bv)) qb = some (.tup (fq bv)) := upd_same
      have hpc := n1' _ _ hpc
      have hy := n1' _ _ hy
      have tr := tags_same tr n1'
      have ea := ea.keep fun _ _ q => n1' _ _ q
      have hrs := n1' _ _ hrs
      have he := n1' _ _ he
      have hp := n1' _ _ hp
      have kp := kp.trans n1'.kept
      generalize upd H4 qb (.tup (fq bv)) = H5 at hb hpc hy tr ea hrs he hp kp ⊢
      clear n1' hqb hev hqe0
      refine seq_step fun R hR => ?_
      walk_at "rd"
      refine ixT_at (.of hpc) rfl (ixT_at (.of hpc) rfl ?_)
      have zsh : Sw.Sz 70 sh := Sw.Sz.r18 (by omega) (by omega)
      have zlen : Sw.Sz 70 len := Sw.Sz.r18 (by omega) (by omega)
      refine ⟨len, sh, 70, rfl, by decide, zsh, fun _ q2 f2' => ?_, fun z => absurd z (by omega)⟩
      have n2' := same_new (o := .tup (fq ((len : Rat) / (sh : Rat)))) f2'
      refine ⟨qb, q2, bv, (len : Rat) / (sh : Rat), 1700, rfl, n2' _ _ hb, upd_same, by decide, zb, (Sw.SzQ.of (by omega) rfl zlen zsh).mono (by decide), fun qe hqe => hR _ _ ?_⟩
      have n3' := same_new (o := .tup (fq (bv + (len : Rat) / (sh : Rat)))) hqe
      have nn := n2'.trans n3'
      have hE : upd (upd H5 q2 (.tup (fq ((len : Rat) / (sh : Rat))))) qe (.tup (fq (bv + (len : Rat) / (sh : Rat)))) qe = some (.tup (fq (bv + (len : Rat) / (sh : Rat)))) := upd_same
      generalize upd (upd H5 q2 (.tup (fq ((len : Rat) / (sh : Rat))))) qe (.tup (fq (bv + (len : Rat) / (sh : Rat)))) = H6 at nn hE ⊢
      have hb := nn _ _ hb
      have hpc := nn _ _ hpc
      have hy := nn _ _ hy
      have tr := tags_same tr nn
      have ea := ea.keep fun _ _ q => nn _ _ q
      have hrs := nn _ _ hrs
      have he := nn _ _ he
      have hp := nn _ _ hp
      have kp := kp.trans nn.kept
      clear nn n2' n3' f2' hqe
      refine seq_step fun R hR => ?_
      walk_at "rd"
      refine fldR_at hp T.cl_Tide T.na_Tide_unflowed ft3.unf ?_
      refine ⟨.inl ⟨rfl, _, .of hrs⟩, ?_⟩
      walk_at "rd"
      refine ixT_at (.of hpc) rfl fun tp htp => ?_
      have n4' := same_new (o := .tup [.ref qb, .ref qe, .int sh]) htp
      have hT : TagAt (upd H6 tp (.tup [.ref qb, .ref qe, .int sh])) tp (bv, bv + (len : Rat) / (sh : Rat), sh) := ⟨qb, qe, upd_same, n4' _ _ hb, n4' _ _ hE⟩
      have hb := n4' _ _ hb
      have hE := n4' _ _ hE
      have hpc := n4' _ _ hpc
      have hy := n4' _ _ hy
      have tr := tags_same tr n4'
      have ea := ea.keep fun _ _ q => n4' _ _ q
      have hrs := n4' _ _ hrs
      have he := n4' _ _ he
      have hp := n4' _ _ hp
      have kp := kp.trans n4'.kept
      generalize upd H6 tp (.tup [.ref qb, .ref qe, .int sh]) = H7 at hT hb hE hpc hy tr ea hrs he hp kp ⊢
      clear n4' htp
      have lrs : rs.length ≤ 100 := by rw [List.length_map] at lr; have := ok.len; omega
      refine ⟨Dl, _, _, rfl, rfl, hrs, line_lt (by rw [List.length_map]; omega), hR _ _ ?_⟩
      have nT : ∀ b xs, H7 b = some (.tup xs) → upd H7 Dl (.lst (rs.map V.ref ++ [.ref tp])) b = some (.tup xs) := fun b xs e => by
        rw [upd_ne (ne_of e hrs (by intro z; cases z))]; exact e
      have hb := nT _ _ hb
      have hE := nT _ _ hE
      have hpc := nT _ _ hpc
      have hy := nT _ _ hy
      have tr : TagsAt (upd H7 Dl (.lst (rs.map V.ref ++ [.ref tp]))) (rs ++ [tp]) (Sw.usOn us rv bv len sh) := paired_snoc (hT.keep nT) (tags_keep tr nT)
      have ea := ea.keep nT
      have he : upd H7 Dl (.lst (rs.map V.ref ++ [.ref tp])) pe = some (.dK kvs) := by rw [upd_ne (Ne.symm nDe)]; exact he
      have hp : upd H7 Dl (.lst (rs.map V.ref ++ [.ref tp])) p = some (.ins c_Tide dx (putF "unflowed" (.ref Dl) (putF "reached" (.ref y) (putF "latest" (.int t) fs)))) := by rw [upd_ne (Ne.symm nDp)]; exact hp
      have kp : Kept p pe H (upd H7 Dl (.lst (rs.map V.ref ++ [.ref tp]))) := fun b o n1 n2 e => by rw [upd_ne (nD0 b o e n1 n2)]; exact kp b o n1 n2 e
      have hrs : upd H7 Dl (.lst (rs.map V.ref ++ [.ref tp])) Dl = some (.lst ((rs ++ [tp]).map V.ref)) := by rw [upd_same]; simp
      generalize upd H7 Dl (.lst (rs.map V.ref ++ [.ref tp])) = H8 at hb hE hpc hy tr ea hrs he hp kp ⊢
      clear nT hT
      refine seq_step fun R hR => ?_
      walk_at "rd"
      refine fldR_at hp T.cl_Tide T.na_Tide_last_ends ft3.lst (ixT_at (.of hpc) rfl ⟨pe, rfl, _, DPut.k (k := Sum.inl who) he (Nat.lt_of_le_of_lt lk (Nat.lt_of_le_of_lt hm (by decide))), hR _ _ ?_⟩)
      have nT : ∀ b xs, H8 b = some (.tup xs) → upd H8 pe (.dK (putK kvs (Sum.inl who) (.ref qe))) b = some (.tup xs) := fun b xs e => by
        rw [upd_ne (ne_of e he (by intro z; cases z))]; exact e
      have ea2 : EnAt (upd H8 pe (.dK (putK kvs (Sum.inl who) (.ref qe)))) (putK kvs (Sum.inl who) (.ref qe)) (setE en who (bv + (len : Rat) / (sh : Rat))) := (ea.put hE).keep nT
      have hb := nT _ _ hb
      have hE := nT _ _ hE
      have hy := nT _ _ hy
      have tr := tags_keep tr nT
      have hp : upd H8 pe (.dK (putK kvs (Sum.inl who) (.ref qe))) p = some (.ins c_Tide dx (putF "unflowed" (.ref Dl) (putF "reached" (.ref y) (putF "latest" (.int t) fs)))) := by rw [upd_ne (Ne.symm npe)]; exact hp
      have hrs : upd H8 pe (.dK (putK kvs (Sum.inl who) (.ref qe))) Dl = some (.lst ((rs ++ [tp]).map V.ref)) := by rw [upd_ne nDe]; exact hrs
      have kp : Kept p pe H (upd H8 pe (.dK (putK kvs (Sum.inl who) (.ref qe)))) := fun b o n1 n2 e => by rw [upd_ne n2]; exact kp b o n1 n2 e
      have he : upd H8 pe (.dK (putK kvs (Sum.inl who) (.ref qe))) pe = some (.dK (putK kvs (Sum.inl who) (.ref qe))) := upd_same
      generalize upd H8 pe (.dK (putK kvs (Sum.inl who) (.ref qe))) = H9 at ea2 hb hE hy tr hp hrs kp he ⊢
      walk_at "rd"
      intro q hq
      have n9 := same_new (o := .tup [.ref qb, .ref qe]) hq
      have lput := length_putK kvs (Sum.inl who : Key) (.ref qe)
      have lus : (Sw.usOn us rv bv len sh).length ≤ m + 1 := by
        unfold Sw.usOn
        have := List.length_filter_le (fun u : Sw.T3 => decide (rv < u.2.1)) us
        rw [List.length_append]
        simp only [List.length_cons, List.length_nil]
        omega
      exact k q qb qe _ (kp.trans n9.kept) ⟨dx, _, y, Dl, rs ++ [tp], _, n9 _ _ hp, ft3, n9 _ _ hy, n9 _ _ hrs, tags_same tr n9, n9 _ _ he, ea2.keep fun _ _ z => n9 _ _ z, by omega, lus⟩ upd_same (n9 _ _ hb) (n9 _ _ hE) fun l xs e dx' fs' pu' h1 h2 => by
        rw [n9 _ _ hp] at h1
        cases h1
        rw [ft3.unf] at h2
        cases h2
        exact Ne.symm (nD0 l _ e (ne_of e hp0 (by intro z; cases z)) (ne_of e he0 (by intro z; cases z)))
theorem d__law_mix (T : Txt K mg c_NoRatio c_Tide) : Def P w K mg base (CXX P w) 1 "_law_mix" ["_law_cell", "_law_k"] spMix := by
  refine T.src__law_mix.okN (k := 0) sc__law_mix (fun vs H Q E h => ?_) (fun f cdv A outer s H vs Q E hr h => ?_)
  · obtain ⟨c, i, rfl, _⟩ := h
    rfl
  · obtain ⟨c, i, rfl, h0, h1, k⟩ := h
    refine ⟨_, (pss_cons (ps_set (i := 2) sc__law_mix.nd rfl (by first | exact Or.inl rfl | exact Or.inr rfl) (pe_op op_add (pe_op op_add (pe_op op_mod (pv 0) pe_int) (pe_op op_mulL pe_int (pv 1))) pe_int)) (pss_cons (ps_set (i := 2) sc__law_mix.nd rfl (by first | exact Or.inl rfl | exact Or.inr rfl) (pe_op op_mod (pe_op op_add (pe_op op_add (pe_op op_mulL (pv 2) (pv 2)) (pe_op op_mulL pe_int (pv 2))) pe_int) pe_int)) (pss_one (ps_ret (pe_op op_mod (pe_op op_add (pe_op op_add (pe_op op_mulL (pv 2) (pv 2)) (pe_op op_mulL pe_int (pv 2))) (pv 1)) pe_int))))), ?_⟩
    show tSeq _ _ _ [some (.int c), some (.int i), none] H
    refine seq_step fun R hR => ?_
    walk_at "rd"
    refine ⟨⟨Sw.Sz.lit (by decide), (Sw.Sz.r18 (by omega) (by omega)).mono (by decide)⟩, hR _ _ ?_⟩
    have e1 := Int.emod_nonneg c (show (2147483647 : Int) ≠ 0 by decide)
    have e2 := Int.emod_lt_of_pos c (show (0 : Int) < 2147483647 by decide)
    have z1 : Sw.Sz 70 (c % 2147483647 + 7919 * i + 1) := Sw.Sz.r18 (by omega) (by omega)
    generalize c % 2147483647 + 7919 * i + 1 = x at z1 ⊢
    refine seq_step fun R hR => ?_
    walk_at "rd"
    refine ⟨⟨z1.mono (by decide), z1.mono (by decide)⟩, ⟨Sw.Sz.lit (by decide), z1.mono (by decide)⟩, hR _ _ ?_⟩
    generalize hy : (x * x + 48271 * x + 11) % 2147483647 = y
    have e3 : 0 ≤ y := by rw [← hy]; exact Int.emod_nonneg _ (by decide)
    have e4 : y < 2147483647 := by rw [← hy]; exact Int.emod_lt_of_pos _ (by decide)
    have z2 : Sw.Sz 70 y := Sw.Sz.r18 (by omega) (by omega)
    walk_at "rd"
    exact ⟨⟨z2.mono (by decide), z2.mono (by decide)⟩, ⟨Sw.Sz.lit (by decide), z2.mono (by decide)⟩, k _ (Int.emod_nonneg _ (by decide)) (Int.emod_lt_of_pos _ (by decide))⟩
def spDv : Sp := fun vs H Q _ => ∃ a b, vs = [.int a, .int b] ∧ 0 ≤ b ∧ Q (.int (Sw.dv a b)) H
theorem d__law_divisor (T : Txt K mg c_NoRatio c_Tide) : Def P w K mg base (CXX P w) 1 "_law_divisor" ["_law_one", "_law_other"] spDv := by
  refine T.src__law_divisor.okN (k := 0) sc__law_divisor (fun vs H Q E h => ?_) (fun f cdv A outer s H vs Q E hr h => ?_)
  · obtain ⟨a, b, rfl, _⟩ := h
    rfl
  · obtain ⟨a, b, rfl, h2, k⟩ := h
    refine ⟨_, (pss_cons (ps_while PassesOwn.never (pt_cmpR op_ne (pv 1) pe_int (nomark _)) (pss_one (ps_par (i := 0) (j := 1) rfl sc__law_divisor.nd rfl rfl (by decide) rfl rfl (pa_cons (pv 1) (pa_cons (pe_op op_mod (pv 0) (pv 1)) pa_nil)) (by with_unfolding_all rfl)))) (pss_one (ps_ret (pe_callB call_abs rfl T.no_abs boot_abs (pa_cons (pv 0) pa_nil))))), ?_⟩
    refine while_det (fun σ H' => H' = H ∧ ∃ g s, σ = [some (.int g), some (.int s)] ∧ 0 ≤ s ∧ Sw.dv g s = Sw.dv a b)
      (fun σ _ => match σ with | [_, some (.int s)] => s.toNat | _ => 0) ⟨rfl, _, _, rfl, h2, rfl⟩ ?_
    rintro σ H' ⟨rfl, g, s, rfl, hs, e⟩
    refine ⟨!decide (V.int s = V.int 0), fun Q hQ => ⟨_, rfl, rfl, _, rfl, hQ⟩, fun hb => ?_, fun hb => ?_⟩
    · have hs0 : s ≠ 0 := by intro z; subst z; simp at hb
      have hsp : 0 < s := by omega
      refine ⟨_, rfl, _, rfl, _, rfl, _, _, rfl, rfl, hsp, _, _, rfl, ?_⟩
      refine ⟨⟨rfl, s, g % s, rfl, Int.emod_nonneg g hs0, by rw [Sw.dv_step]; exact e⟩, ?_⟩
      show (g % s).toNat < s.toNat
      have := Int.emod_lt_of_pos g hsp
      have := Int.emod_nonneg g hs0
      omega
    · have hs0 : s = 0 := by
        have : V.int s = V.int 0 := by simpa using hb
        exact V.int.inj this
      subst hs0
      have e' : (if g < 0 then -g else g) = Sw.dv a b := by
        rw [← e]
        split
        · rw [← Sw.dv_negl, Sw.dv_zero _ (by omega)]
        · rw [Sw.dv_zero _ (by omega)]
      walk_at "rd"
      rw [e']
      exact k
def PieceOk (q : Q4) : Prop := 0 ≤ q.1 ∧ q.1 ≤ 100000000 ∧ 1 ≤ q.2.2.1 ∧ q.2.2.1 ≤ 1000000 ∧ 1 ≤ q.2.2.2 ∧ q.2.2.2 ≤ 1000000
def RowOk (qs : List Q4) : Prop := (∀ q ∈ qs, PieceOk q) ∧ qs.Pairwise (fun a b => a.1 ≤ b.1)
theorem cut_len (xs : List V) (lo hi : Nat) : (cutV xs (some (lo : Int)) (some (hi : Int))).length ≤ hi - lo := by
  unfold cutV
  rw [HT.sIx_nat, HT.sIx_nat, List.length_take]
  omega
def spRowT (K : PySem.W.Frag) : Sp := fun vs H Q _ => ∃ (a : Addr) (ns : List Int), vs = [.ref a] ∧ SqL K H a (ns.map V.int) ∧ ns.length ≤ 63 ∧ ∀ H' l ps qs, Same H H' → H l = none → Row H' l ps qs → qs.length ≤ 24 → RowOk qs → Q (.ref l) H'
theorem d__law_row (T : Txt K mg c_NoRatio c_Tide) : Def P w K mg base (CXX P w) 2 "_law_row" ["_law_script"] (spRowT K) := by
  have D__law_mix := d__law_mix (P := P) (w := w) (base := base) T
  have D__law_cell_at := d__law_cell_at (P := P) (w := w) (base := base) T
  refine T.src__law_row.okN (k := 1) sc__law_row (fun vs H Q E h => ?_) (fun f cdv A outer s H vs Q E hr h => ?_)
  · obtain ⟨a, ns, rfl, _⟩ := h
    rfl
  · obtain ⟨a, ns, rfl, hS, hlen, k⟩ := h
    refine ⟨_, (pss_cons (ps_set (i := 1) sc__law_row.nd rfl (by first | exact Or.inl rfl | exact Or.inr rfl) (pe_callX D__law_cell_at (hr.mono (by decide)) rfl passN (pa_cons (pv 0) (pa_cons pe_int pa_nil)))) (pss_cons (ps_set (i := 2) sc__law_row.nd rfl (by first | exact Or.inl rfl | exact Or.inr rfl) (pe_op op_mod (pv 1) pe_int)) (pss_cons (ps_set (i := 3) sc__law_row.nd rfl (by first | exact Or.inl rfl | exact Or.inr rfl) (pe_ix (ix_listK K rfl) (pe_lst (pa_cons pe_int (pa_cons pe_int (pa_cons (pe_op op_pow pe_int pe_int) (pa_cons pe_int pa_nil))))) (pv 2) (fun _ _ => rfl))) (pss_cons (ps_set (i := 4) sc__law_row.nd rfl (by first | exact Or.inl rfl | exact Or.inr rfl) (pe_ix (ix_listK K rfl) (pe_lst (pa_cons pe_int (pa_cons pe_int (pa_cons (pe_op op_pow pe_int pe_int) (pa_cons pe_int pa_nil))))) (pv 2) (fun _ _ => rfl))) (pss_cons (ps_set (i := 5) sc__law_row.nd rfl (by first | exact Or.inl rfl | exact Or.inr rfl) (pe_ix (ix_listK K rfl) (pe_lst (pa_cons pe_int (pa_cons pe_int (pa_cons (pe_op op_add (pv 3) pe_int) pa_nil)))) (pe_op op_mod (pe_op op_fdivL (pv 1) pe_int) pe_int) (fun _ _ => rfl))) (pss_cons (ps_set (i := 6) sc__law_row.nd rfl (by first | exact Or.inl rfl | exact Or.inr rfl) (pe_op op_add pe_int (pe_op op_mod (pe_op op_fdivL (pv 1) pe_int) (pe_ix (ix_listK K rfl) (pe_lst (pa_cons pe_int (pa_cons pe_int (pa_cons pe_int (pa_cons pe_int pa_nil))))) (pv 2) (fun _ _ => rfl))))) (pss_cons (ps_set (i := 7) sc__law_row.nd rfl (by first | exact Or.inl rfl | exact Or.inr rfl) pe_int) (pss_cons (ps_set (i := 8) sc__law_row.nd rfl (by first | exact Or.inl rfl | exact Or.inr rfl) (pe_lst pa_nil)) (pss_cons (ps_for PassesOwn.never rfl (pi_listK K rfl (pe_slice (sl_listK K rfl) (pv 0) (po_some pe_int) (po_some (pe_ix (ix_listK K rfl) (pe_lst (pa_cons pe_int (pa_cons pe_int (pa_cons pe_int (pa_cons pe_int pa_nil))))) (pv 2) (fun _ _ => rfl))))) (pg_name (i := 9) sc__law_row.nd rfl (by first | exact Or.inl rfl | exact Or.inr rfl)) (pss_cons (ps_set (i := 7) sc__law_row.nd rfl (by first | exact Or.inl rfl | exact Or.inr rfl) (pe_op op_add (pv 7) (pe_op op_mod (pe_callX D__law_mix (hr.mono (by decide)) rfl passN (pa_cons (pv 9) (pa_cons pe_int pa_nil))) (pv 5)))) (pss_cons (ps_set (i := 10) sc__law_row.nd rfl (by first | exact Or.inl rfl | exact Or.inr rfl) (pe_op op_mod (pe_op op_add (pe_op op_mulL (pe_op op_mod (pe_callX D__law_mix (hr.mono (by decide)) rfl passN (pa_cons (pv 9) (pa_cons pe_int pa_nil))) (pv 6)) pe_int) (pe_op op_fdivL (pv 1) pe_int)) pe_int)) (pss_one (ps_expr (pe_bm PySem.F.plainAttrs_list PySem.F.slot_list_append PySem.F.type_list_append mt_append (pv 8) (pa_cons (pe_tup (pa_cons (pv 7) (pa_cons (pv 10) (pa_cons (pe_op op_add pe_int (pe_op op_mod (pe_callX D__law_mix (hr.mono (by decide)) rfl passN (pa_cons (pv 9) (pa_cons pe_int pa_nil))) (pv 3))) (pa_cons (pe_op op_add pe_int (pe_op op_mod (pe_callX D__law_mix (hr.mono (by decide)) rfl passN (pa_cons (pv 9) (pa_cons pe_int pa_nil))) (pv 4))) pa_nil))))) pa_nil))))))) (pss_one (ps_ret (pv 8)))))))))))), ?_⟩
    show tSeq _ _ _ [some (.ref a), none, none, none, none, none, none, none, none, none, none] H
    refine seq_step fun R hR => ?_
    walk_at "rd"
    refine spCell_of hS (by decide) (hR _ _ ?_)
    generalize cellI ns 0 = first
    refine seq_step fun R hR => ?_
    walk_at "rd"
    refine hR _ _ ?_
    generalize hw : first % 4 = way
    have w0 : 0 ≤ way ∧ way < 4 := by omega
    clear hw
    refine seq_step fun R hR => ?_
    walk_at "rd"
    intro q1 f1
    refine pickM [9, 1000, 1000000, 9] w0.1 w0.2 fun most hm => hR _ _ ?_
    have b1 : 0 < most ∧ most ≤ 1000000 := by
      simp only [List.mem_cons, List.not_mem_nil, or_false] at hm
      omega
    have s1 := same_new (o := .lst (([9, 1000, 1000000, 9] : List Int).map V.int)) f1
    generalize upd H q1 (.lst (([9, 1000, 1000000, 9] : List Int).map V.int)) = H1 at s1 ⊢
    refine seq_step fun R hR => ?_
    walk_at "rd"
    intro q2 f2'
    refine pickM [9, 50, 1000000, 1] w0.1 w0.2 fun shares hm => hR _ _ ?_
    have b2 : 0 < shares ∧ shares ≤ 1000000 := by
      simp only [List.mem_cons, List.not_mem_nil, or_false] at hm
      omega
    have s2 := s1.trans (same_new (o := .lst (([9, 50, 1000000, 1] : List Int).map V.int)) f2')
    generalize upd H1 q2 (.lst (([9, 50, 1000000, 1] : List Int).map V.int)) = H2 at s2 ⊢
    refine seq_step fun R hR => ?_
    walk_at "rd"
    intro q3 f3
    refine pickM [3, 40, most + 1] (by omega) (by show first / 4 % 3 < 3; omega) fun gaps hm => hR _ _ ?_
    have b3 : 0 < gaps ∧ gaps ≤ 1000001 := by
      simp only [List.mem_cons, List.not_mem_nil, or_false] at hm
      omega
    have s3 := s2.trans (same_new (o := .lst (([3, 40, most + 1] : List Int).map V.int)) f3)
    generalize upd H2 q3 (.lst (([3, 40, most + 1] : List Int).map V.int)) = H3 at s3 ⊢
    refine seq_step fun R hR => ?_
    walk_at "rd"
    intro q4 f4
    refine pickM [6, 6, 6, 12] w0.1 w0.2 fun fw hm => ⟨fw, rfl, ?_, hR _ _ ?_⟩
    · simp only [List.mem_cons, List.not_mem_nil, or_false] at hm
      omega
    have b4 : 0 < fw ∧ fw ≤ 12 := by
      simp only [List.mem_cons, List.not_mem_nil, or_false] at hm
      omega
    have s4 := s3.trans (same_new (o := .lst (([6, 6, 6, 12] : List Int).map V.int)) f4)
    generalize upd H3 q4 (.lst (([6, 6, 6, 12] : List Int).map V.int)) = H4 at s4 ⊢
    have fw0 := Int.emod_nonneg (first / 12) (show fw ≠ 0 by omega)
    have fw1 := Int.emod_lt_of_pos (first / 12) b4.1
    generalize hfew : 1 + first / 12 % fw = few
    have b5 : 0 < few ∧ few ≤ 12 := by omega
    clear hfew fw0 fw1 s1 s2 s3 f1 f2' f3 f4 hm
    refine seq_step fun R hR => ?_
    walk_at "rd"
    refine hR _ _ ?_
    refine seq_step fun R hR => ?_
    walk_at "rd"
    intro l hl
    refine hR _ _ ?_
    refine seq_step fun R hR => ?_
    refine for_step fun Z hZ => ?_
    walk_at "rd"
    intro q5 f5
    refine pickM [17, 17, 9, 25] w0.1 w0.2 fun hi hm => ⟨hi, rfl, ?_⟩
    have b6 : 0 ≤ hi ∧ hi ≤ 25 := by
      simp only [List.mem_cons, List.not_mem_nil, or_false] at hm
      omega
    have s5 := same_new (o := .lst []) hl
    have s6 := same_new (o := .lst (([17, 17, 9, 25] : List Int).map V.int)) f5
    have hS5 := ((s4.trans s5).trans s6).seq hS
    obtain ⟨ms, em, hm2⟩ := cutV_ints ns (some 1) (some hi)
    have lms : ms.length ≤ 24 := by
      have e := cut_len (ns.map V.int) 1 hi.toNat
      have e1 : ((hi.toNat : Nat) : Int) = hi := by omega
      rw [e1] at e
      have e2 : cutV (ns.map V.int) (some ((1 : Nat) : Int)) (some hi) = ms.map V.int := em
      rw [e2, List.length_map] at e
      omega
    refine slL_at hS5 fun p hp => ⟨p, rfl, ⟨_, .of upd_same⟩, hZ _ _ ?_⟩
    have s7 := same_new (o := .lst (cutV (ns.map V.int) (some 1) (some hi))) hp
    have hpl : p ≠ l := fun z => by
      rw [z] at hp
      rw [s6 _ _ (upd_same (H := H4) (a := l) (o := .lst []))] at hp
      cases hp
    have hl0 : H l = none := s4.free hl
    have I0 : RowI H (upd (upd (upd H4 l (.lst [])) q5 (.lst (([17, 17, 9, 25] : List Int).map V.int))) p (.lst (cutV (ns.map V.int) (some 1) (some hi)))) p (ms.map V.int) l [] [] := ⟨((s4.trans s5).trans s6).trans s7, by rw [upd_same, em], s7 _ _ (s6 _ _ upd_same), .nil⟩
    generalize upd (upd (upd H4 l (.lst [])) q5 (.lst (([17, 17, 9, 25] : List Int).map V.int))) p (.lst (cutV (ns.map V.int) (some 1) (some hi))) = H5 at I0 ⊢
    clear s4 s5 s6 s7 f5 hp hl hS5 hm em
    refine for_list (xs := ms.map V.int) (fun i σ H' => ∃ at' ps qs v9 v10, RowI H H' p (ms.map V.int) l ps qs ∧ qs.length = i ∧ σ = [some (.ref a), some (.int first), some (.int way), some (.int most), some (.int shares), some (.int gaps), some (.int few), some (.int at'), some (.ref l), v9, v10] ∧ RowOk qs ∧ (∀ q ∈ qs, q.1 ≤ at') ∧ 0 ≤ at' ∧ at' ≤ i * 1000000)
      ⟨0, [], [], none, none, I0, rfl, rfl, ⟨fun q h => absurd h List.not_mem_nil, .nil⟩, fun q h => absurd h List.not_mem_nil, Int.le_refl _, by omega⟩ (fun i σ H' _ ⟨_, _, _, _, _, I, _⟩ => .of I.hp) ?_ ?_
    · rintro i x σ H6 hx ⟨at', ps, qs, v9, v10, I, hi', rfl, rok, rat, at0, at1⟩
      obtain ⟨c, rfl⟩ : ∃ c, x = V.int c := by
        rw [List.getElem?_map] at hx
        cases e : ms[i]? with
        | none => rw [e] at hx; cases hx
        | some c => rw [e] at hx; exact ⟨c, (Option.some.inj hx).symm⟩
      have hil : i < ms.length := by simpa using (List.getElem?_eq_some_iff.mp hx).1
      show tSeq _ _ _ [some (.ref a), some (.int first), some (.int way), some (.int most), some (.int shares), some (.int gaps), some (.int few), some (.int at'), some (.ref l), some (.int c), v10] H6
      refine seq_step fun R hR => ?_
      walk_at "rd"
      refine ⟨_, _, rfl, by decide, by decide, fun m1 _ _ => ⟨_, rfl, b3.1, hR _ _ ?_⟩⟩
      have g0 := Int.emod_nonneg m1 (show gaps ≠ 0 by omega)
      have g1 := Int.emod_lt_of_pos m1 b3.1
      generalize hat : at' + m1 % gaps = at2
      have at20 : at' ≤ at2 := by omega
      have at21 : at2 ≤ at' + 1000000 := by omega
      clear hat g0 g1
      refine seq_step fun R hR => ?_
      walk_at "rd"
      refine ⟨_, _, rfl, by decide, by decide, fun m2 _ _ => ?_⟩
      walk_at "rd"
      have h20 := Int.emod_nonneg m2 (show few ≠ 0 by omega)
      have h21 := Int.emod_lt_of_pos m2 b5.1
      refine ⟨b5.1, ⟨(Sw.Sz.r18 (by omega) (by omega)).mono (by decide), Sw.Sz.lit (by decide)⟩, hR _ _ ?_⟩
      refine nx_step fun R hR => ?_
      walk_at "rd"
      refine ⟨.inl ⟨rfl, _, .of I.hl⟩, _, _, rfl, by decide, by decide, fun m3 _ _ => ⟨_, rfl, b1.1, _, _, rfl, by decide, by decide, fun m4 _ _ => ⟨_, rfl, b2.1, fun t ht => ?_⟩⟩⟩
      have l0 := Int.emod_nonneg m3 (show most ≠ 0 by omega)
      have l1 := Int.emod_lt_of_pos m3 b1.1
      have sh0 := Int.emod_nonneg m4 (show shares ≠ 0 by omega)
      have sh1 := Int.emod_lt_of_pos m4 b2.1
      generalize ((m2 % few * 5 + first / 72) % 12) = who at ht ⊢
      generalize hle : 1 + m3 % most = le at ht ⊢
      generalize hsh : 1 + m4 % shares = sh at ht ⊢
      have I2 := I.same (same_new (o := .tup [.int at2, .int who, .int le, .int sh]) ht)
      have rl := I2.r.len
      refine ⟨l, _, _, rfl, rfl, I2.hl, by rw [List.length_map]; exact line_lt (by omega), hR _ _ ?_⟩
      have pok : PieceOk (at2, who, le, sh) := ⟨by show 0 ≤ at2; omega, by show at2 ≤ 100000000; omega, by show 1 ≤ le; omega, by show le ≤ 1000000; omega, by show 1 ≤ sh; omega, by show sh ≤ 1000000; omega⟩
      refine ⟨at2, ps ++ [t], qs ++ [(at2, who, le, sh)], _, _, I2.snoc (q := (at2, who, le, sh)) hl0 hpl upd_same, by simp [hi'], rfl, ⟨fun q h => ?_, ?_⟩, fun q h => ?_, by omega, by omega⟩
      · rcases List.mem_append.mp h with z | z
        · exact rok.1 q z
        · have : q = (at2, who, le, sh) := by simpa using z
          rw [this]; exact pok
      · refine List.pairwise_append.mpr ⟨rok.2, List.pairwise_singleton _ _, fun x hx y hy => ?_⟩
        have : y = (at2, who, le, sh) := by simpa using hy
        rw [this]
        have := rat x hx
        show x.1 ≤ at2
        omega
      · rcases List.mem_append.mp h with z | z
        · have := rat q z; omega
        · have : q = (at2, who, le, sh) := by simpa using z
          rw [this]; exact Int.le_refl _
    · rintro σ H6 ⟨at', ps, qs, v9, v10, I, hi', rfl, rok, rat, at0, at1⟩
      refine hR _ _ ?_
      walk_at "rd"
      rw [List.length_map] at hi'
      exact k _ l ps qs I.sm hl0 ⟨I.hl, I.r⟩ (by omega) rok
theorem come_ok {D B lat : Int} {re : Rat} {us : List Sw.T3} {en : Int → Option Rat} {t who len sh : Int} {z : Nat} (o : TideOk D B lat re us) (eok : ∀ w e, en w = some e → Sw.Grd D e ∧ 0 ≤ e ∧ e ≤ (B : Rat)) (hlt : lat ≤ t) (t1 : t < 1000000000000000)
    (n1 : 1 ≤ len) (n2 : len ≤ 1000000) (s1 : 1 ≤ sh) (s2 : sh ≤ 1000000) (hz : Sw.Sz z D) (hz2 : z + 70 ≤ 1500) (hB : B ≤ 1000000000) (lu : us.length ≤ 30) :
    ∃ D', Sw.Sz (z + 55) D' ∧ TideOk D' (B + 1000000) t (Sw.markAt us lat re t) (Sw.usOn us (Sw.markAt us lat re t) (Sw.begOn en (Sw.markAt us lat re t) who) len sh) ∧
      (∀ w e, setE en who (Sw.begOn en (Sw.markAt us lat re t) who + (len : Rat) / (sh : Rat)) w = some e → Sw.Grd D' e ∧ 0 ≤ e ∧ e ≤ ((B + 1000000 : Int) : Rat)) ∧
      0 ≤ Sw.begOn en (Sw.markAt us lat re t) who ∧ Sw.begOn en (Sw.markAt us lat re t) who ≤ (B : Rat) ∧ Sw.Grd D' (Sw.begOn en (Sw.markAt us lat re t) who) ∧ ∃ k : Int, k ≠ 0 ∧ D' = D * k := by
  obtain ⟨⟨S, S1, S2, gS⟩, m1, m2⟩ := Sw.markAt_ok o hlt
  generalize Sw.markAt us lat re t = rv at gS m1 m2 ⊢
  have D0 := o.gb.D0
  have B0 := o.gb.B0
  have re0 := o.re0
  have dn : D ≠ 0 := by omega
  have sn : S ≠ 0 := by omega
  have shn : sh ≠ 0 := by omega
  have dsn : D * S ≠ 0 := Int.mul_ne_zero dn sn
  have gb1 : Sw.Grd (D * S) (Sw.begOn en rv who) ∧ 0 ≤ Sw.begOn en rv who ∧ Sw.begOn en rv who ≤ (B : Rat) := by
    unfold Sw.begOn
    cases e : en who with
    | none =>
      show Sw.Grd (D * S) (max rv rv) ∧ 0 ≤ max rv rv ∧ max rv rv ≤ (B : Rat)
      rw [Rat.max_def]
      simp only [ite_self]
      exact ⟨gS, by grind, m2⟩
    | some v =>
      have ev := eok who v e
      show Sw.Grd (D * S) (max rv v) ∧ 0 ≤ max rv v ∧ max rv v ≤ (B : Rat)
      rw [Rat.max_def]
      split
      · exact ⟨ev.1.more dn sn, ev.2.1, ev.2.2⟩
      · exact ⟨gS, by grind, m2⟩
  generalize Sw.begOn en rv who = b at gb1 ⊢
  obtain ⟨gb, b0, bB⟩ := gb1
  have shp : (0 : Rat) < (sh : Rat) := Sw.q_cast_pos (by omega)
  have x0 : 0 ≤ (len : Rat) / (sh : Rat) := by
    have : ¬ (len : Rat) / (sh : Rat) < 0 := by
      rw [Rat.div_lt_iff shp, Rat.zero_mul]
      intro z
      have z' : (len : Rat) < ((0 : Int) : Rat) := z
      rw [Rat.intCast_lt_intCast] at z'
      omega
    grind
  have x1 : (len : Rat) / (sh : Rat) ≤ ((1000000 : Int) : Rat) := by
    have : ¬ ((1000000 : Int) : Rat) < (len : Rat) / (sh : Rat) := by
      rw [Rat.lt_div_iff shp, ← Rat.intCast_mul, Rat.intCast_lt_intCast]
      omega
    grind
  have eB : ((B + 1000000 : Int) : Rat) = (B : Rat) + ((1000000 : Int) : Rat) := by rw [Rat.intCast_add]
  have mil : (0 : Rat) ≤ ((1000000 : Int) : Rat) := by decide
  have zD : Sw.Sz (z + 55) (D * S * sh) := by
    have hS : Sw.Sz 30 S := by
      unfold Sw.Sz
      have : (2 : Nat) ^ 30 = 1073741824 := by decide
      rw [this]; omega
    have hsh : Sw.Sz 25 sh := by
      unfold Sw.Sz
      have : (2 : Nat) ^ 25 = 33554432 := by decide
      rw [this]; omega
    exact ((hz.mul hS).mul hsh).mono (by omega)
  have ge : Sw.Grd (D * S * sh) (b + (len : Rat) / (sh : Rat)) := (gb.more dsn shn).add ((Sw.Grd.int dsn len).divi dsn shn)
  refine ⟨D * S * sh, zD, ⟨⟨Int.mul_pos (Int.mul_pos D0 (by omega)) (by omega), zD.mono (by omega), by omega, by omega⟩, gS.more dsn shn, by grind, by rw [eB]; grind, fun u hu => ?_, ?_, by have := o.l0; omega, t1⟩, fun w e he => ?_, b0, bB, gb.more dsn shn, S * sh, Int.mul_ne_zero sn shn, Int.mul_assoc D S sh⟩
  · unfold Sw.usOn at hu
    rcases List.mem_append.mp hu with h | h
    · have t := o.tus u (List.mem_filter.mp h).1
      have te := t.eB
      exact ⟨(t.b.more dn sn).more dsn shn, (t.e.more dn sn).more dsn shn, t.b0, t.be, by rw [eB]; grind, t.s1, t.s2⟩
    · have : u = (b, b + (len : Rat) / (sh : Rat), sh) := by simpa using h
      subst this
      exact ⟨gb.more dsn shn, ge, b0, by show b ≤ b + (len : Rat) / (sh : Rat); grind, by show b + (len : Rat) / (sh : Rat) ≤ _; rw [eB]; grind, s1, s2⟩
  · unfold Sw.usOn
    have := List.length_filter_le (fun u : Sw.T3 => decide (rv < u.2.1)) us
    rw [List.length_append]
    simp only [List.length_cons, List.length_nil]
    omega
  · unfold setE at he
    split at he
    · cases he
      exact ⟨ge, by grind, by rw [eB]; grind⟩
    · have ev := eok w e he
      have e2 := ev.2.2
      exact ⟨(ev.1.more dn sn).more dsn shn, ev.2.1, by rw [eB]; grind⟩
theorem Row.kept {H H' : Hp} {l : Addr} {ps : List Addr} {qs : List Q4} {p d C dx : Addr} {fs : List (Str × V)} {kvs : List (Key × V)} (R : Row H l ps qs) (k : Kept p d H H') (hp : H p = some (.ins C dx fs)) (hd : H d = some (.dK kvs)) : Row H' l ps qs :=
  ⟨k _ _ (ne_of R.hl hp (by intro z; cases z)) (ne_of R.hl hd (by intro z; cases z)) R.hl, R.r.keep fun p z e => k _ _ (ne_of e hp (by intro w; cases w)) (ne_of e hd (by intro w; cases w)) e⟩
theorem Td.ob {C : Addr} {H : Hp} {p pe : Addr} {lat : Int} {re : Rat} {us : List Sw.T3} {en : Int → Option Rat} {m : Nat} (h : Td C H p pe lat re us en m) : ∃ dx fs kvs pr pu, H p = some (.ins C dx fs) ∧ H pe = some (.dK kvs) ∧ FT fs lat pr pu pe := by
  obtain ⟨dx, fs, pr, pu, ps, kvs, h1, h2, h3, h4, h5, h6, _⟩ := h.ex
  exact ⟨dx, fs, kvs, pr, pu, h1, h6, h2⟩
theorem mark_of {C : Addr} {H : Hp} {p pe : Addr} {lat : Int} {re : Rat} {us : List Sw.T3} {en : Int → Option Rat} {m : Nat} {D B t : Int} {Q : VK} {E : XK} (td : Td C H p pe lat re us en m) (ok : TideOk D B lat re us) (h : lat ≤ t) (t1 : t < 1000000000000000)
    (k : ∀ q H', Same H H' → H' q = some (.tup (fq (Sw.markAt us lat re t))) → Q (.ref q) H') : rMeth C "mark" (.ref p) H (spMark C [.ref p, .int t] H Q E) := by
  obtain ⟨dx, fs, kvs, pr, pu, h1, h2, ft⟩ := Td.ob td
  exact meth_at h1 (ft.no _ (by decide +kernel) (by decide +kernel) (by decide +kernel) (by decide +kernel)) ⟨p, t, lat, re, us, D, B, rfl, td.m, ok, h, t1, k⟩
theorem nil_ok : TideOk 1 0 0 0 [] := ⟨⟨by decide, Sw.Sz.one _, by decide, by decide⟩, ⟨0, by decide +kernel⟩, by decide, by decide, fun u h => absurd h List.not_mem_nil, by decide, by decide, by decide⟩
theorem mark_nil (t : Int) : Sw.markAt [] 0 0 t = 0 := by
  unfold Sw.markAt Sw.markF
  rw [if_pos (show Sw.hds [] 0 = [] from rfl)]
def spLUnder : Sp := fun vs H Q _ => ∃ p q a b, vs = [.ref p, .ref q] ∧ H p = some (.tup (fq a)) ∧ H q = some (.tup (fq b)) ∧ Sw.SzQ 5000 a ∧ Sw.SzQ 5000 b ∧ Q (.bl (decide (a < b))) H
theorem d__law_under (T : Txt K mg c_NoRatio c_Tide) : Def P w K mg base (CXX P w) 1 "_law_under" ["_law_one", "_law_other"] spLUnder := by
  refine T.src__law_under.okN (k := 0) sc__law_under (fun vs H Q E h => ?_) (fun f cdv A outer s H vs Q E hr h => ?_)
  · obtain ⟨p, q, a, b, rfl, _⟩ := h
    rfl
  · obtain ⟨p, q, a, b, rfl, hp, hq, s1, s2, k⟩ := h
    refine ⟨_, (pss_one (ps_ret (pe_cmpR op_lt (pe_op op_mulL (pe_ix (ix_tupK K rfl) (pv 0) pe_int (fun _ _ => rfl)) (pe_ix (ix_tupK K rfl) (pv 1) pe_int (fun _ _ => rfl))) (pe_op op_mulL (pe_ix (ix_tupK K rfl) (pv 1) pe_int (fun _ _ => rfl)) (pe_ix (ix_tupK K rfl) (pv 0) pe_int (fun _ _ => rfl))) (nomark _)))), ?_⟩
    show tRet _ _ [some (.ref p), some (.ref q)] H
    walk_at "rd"
    refine ixT_at (.of hp) rfl (ixT_at (.of hq) rfl ?_)
    walk_at "rd"
    refine ⟨⟨s1.n, s2.d⟩, ixT_at (.of hq) rfl (ixT_at (.of hp) rfl ?_)⟩
    walk_at "rd"
    refine ⟨⟨s2.n, s1.d⟩, ?_⟩
    rw [show decide (a.num * (b.den : Int) < b.num * (a.den : Int)) = decide (a < b) from decide_eq_decide.mpr Sw.q_lt]
    exact k
def spFraction : Sp := fun vs H Q _ => ∃ p a, vs = [.ref p] ∧ H p = some (.tup (fq a)) ∧ Q (.bl true) H
theorem d__law_fraction (T : Txt K mg c_NoRatio c_Tide) : Def P w K mg base (CXX P w) 2 "_law_fraction" ["_law_found"] spFraction := by
  have D__law_whole := d__law_whole (P := P) (w := w) (base := base) T
  refine T.src__law_fraction.okN (k := 1) sc__law_fraction (fun vs H Q E h => ?_) (fun f cdv A outer s H vs Q E hr h => ?_)
  · obtain ⟨p, a, rfl, _⟩ := h
    rfl
  · obtain ⟨p, a, rfl, hp, k⟩ := h
    refine ⟨_, (pss_cons (ps_if (PW.pt (pw_or (pt_not (pt_val (pe_callB (call_isinstK K rfl) rfl T.no_isinstance boot_isinstance (pa_cons (pv 0) (pa_cons (pe_bltn (v := .ty "tuple") rfl T.no_tuple boot_tuple rfl) pa_nil))))) (pw_or1 (pt_cmpR op_ne (pe_callB (call_lenK K rfl) rfl T.no_len boot_len (pa_cons (pv 0) pa_nil)) pe_int (nomark _))))) (pss_one (ps_ret pe_bl)) pss_nil) (pss_one (ps_ret (pe_and (pe_callX D__law_whole (hr.mono (by decide)) rfl passN (pa_cons (pe_ix (ix_tupK K rfl) (pv 0) pe_int (fun _ _ => rfl)) pa_nil)) (pe_and (pe_callX D__law_whole (hr.mono (by decide)) rfl passN (pa_cons (pe_ix (ix_tupK K rfl) (pv 0) pe_int (fun _ _ => rfl)) pa_nil)) (pe_one (pe_cmpR op_gt (pe_ix (ix_tupK K rfl) (pv 0) pe_int (fun _ _ => rfl)) pe_int (nomark _)))))))), ?_⟩
    show tSeq _ _ _ [some (.ref p)] H
    have hT : SqT K H p (fq a) := .of hp
    refine seq_step fun R hR => ?_
    walk_at "rd"
    refine ⟨_, _, _, _, true, rfl, rfl, .tup hp, kit_tuple, ?_⟩
    walk_at "rd"
    refine lenT_at hT ?_
    refine ⟨rfl, ?_⟩
    rw [if_pos (show (V.int ((fq a).length : Nat) : V) = V.int 2 from rfl)]
    refine hR _ _ ?_
    walk_at "rd"
    refine ixT_at hT rfl ?_
    walk_at "rd"
    refine ixT_at hT rfl ?_
    walk_at "rd"
    refine ixT_at hT rfl ?_
    walk_at "rd"
    rw [decide_eq_true (Sw.q_den_pos a)]
    exact k
theorem plus_q (m s t : Rat) (sh : Int) : ((m.num * ((s.den : Int) * (t.den : Int)) + sh * (t.num * (s.den : Int) - s.num * (t.den : Int)) * (m.den : Int) : Int) : Rat) / (((m.den : Int) * ((s.den : Int) * (t.den : Int)) : Int) : Rat) = m + (sh : Rat) * (t - s) := by
  rw [Rat.intCast_add, Rat.intCast_mul, Rat.intCast_mul, Rat.intCast_mul, Rat.intCast_mul, Rat.intCast_mul, Rat.intCast_sub, Rat.intCast_mul, Rat.intCast_mul, Rat.intCast_mul, Sw.q_num m, Sw.q_num s, Sw.q_num t]
  have h1 := Sw.q_cast_ne (Sw.q_den_ne m)
  have h2 := Sw.q_cast_ne (Sw.q_den_ne s)
  have h3 := Sw.q_cast_ne (Sw.q_den_ne t)
  grind
def spLPlus : Sp := fun vs H Q _ => ∃ pm ps pt m s t sh, vs = [.ref pm, .int sh, .ref ps, .ref pt] ∧ H pm = some (.tup (fq m)) ∧ H ps = some (.tup (fq s)) ∧ H pt = some (.tup (fq t)) ∧ Sw.SzQ 1600 m ∧ Sw.SzQ 1600 s ∧ Sw.SzQ 1600 t ∧ Sw.Sz 70 sh ∧ ∀ q, H q = none → Q (.ref q) (upd H q (.tup (fq (m + (sh : Rat) * (t - s)))))
theorem d__law_plus (T : Txt K mg c_NoRatio c_Tide) : Def P w K mg base (CXX P w) 2 "_law_plus" ["_law_many", "_law_share", "_law_start", "_law_stop"] spLPlus := by
  have D__law_divisor := d__law_divisor (P := P) (w := w) (base := base) T
  refine T.src__law_plus.okN (k := 1) sc__law_plus (fun vs H Q E h => ?_) (fun f cdv A outer s H vs Q E hr h => ?_)
  · obtain ⟨pm, ps, pt, m, s, t, sh, rfl, _⟩ := h
    rfl
  · obtain ⟨pm, ps, pt, m, s, t, sh, rfl, hm, hs, ht, zm, zs, zt, zh, k⟩ := h
    refine ⟨_, (pss_cons (ps_set (i := 4) sc__law_plus.nd rfl (by first | exact Or.inl rfl | exact Or.inr rfl) (pe_op op_mulL (pv 1) (pe_op op_sub (pe_op op_mulL (pe_ix (ix_tupK K rfl) (pv 3) pe_int (fun _ _ => rfl)) (pe_ix (ix_tupK K rfl) (pv 2) pe_int (fun _ _ => rfl))) (pe_op op_mulL (pe_ix (ix_tupK K rfl) (pv 2) pe_int (fun _ _ => rfl)) (pe_ix (ix_tupK K rfl) (pv 3) pe_int (fun _ _ => rfl)))))) (pss_cons (ps_set (i := 5) sc__law_plus.nd rfl (by first | exact Or.inl rfl | exact Or.inr rfl) (pe_op op_mulL (pe_ix (ix_tupK K rfl) (pv 2) pe_int (fun _ _ => rfl)) (pe_ix (ix_tupK K rfl) (pv 3) pe_int (fun _ _ => rfl)))) (pss_cons (ps_set (i := 4) sc__law_plus.nd rfl (by first | exact Or.inl rfl | exact Or.inr rfl) (pe_op op_add (pe_op op_mulL (pe_ix (ix_tupK K rfl) (pv 0) pe_int (fun _ _ => rfl)) (pv 5)) (pe_op op_mulL (pv 4) (pe_ix (ix_tupK K rfl) (pv 0) pe_int (fun _ _ => rfl))))) (pss_cons (ps_set (i := 5) sc__law_plus.nd rfl (by first | exact Or.inl rfl | exact Or.inr rfl) (pe_op op_mulL (pe_ix (ix_tupK K rfl) (pv 0) pe_int (fun _ _ => rfl)) (pv 5))) (pss_cons (ps_set (i := 6) sc__law_plus.nd rfl (by first | exact Or.inl rfl | exact Or.inr rfl) (pe_callX D__law_divisor (hr.mono (by decide)) rfl passN (pa_cons (pv 4) (pa_cons (pv 5) pa_nil)))) (pss_one (ps_ret (pe_tup (pa_cons (pe_op op_fdivL (pv 4) (pv 6)) (pa_cons (pe_op op_fdivL (pv 5) (pv 6)) pa_nil)))))))))), ?_⟩
    show tSeq _ _ _ [some (.ref pm), some (.int sh), some (.ref ps), some (.ref pt), none, none, none] H
    refine seq_step fun R hR => ?_
    walk_at "rd"
    refine ixT_at (.of ht) rfl (ixT_at (.of hs) rfl ?_)
    walk_at "rd"
    refine ⟨⟨zt.n.mono (by decide), zs.d.mono (by decide)⟩, ixT_at (.of hs) rfl (ixT_at (.of ht) rfl ?_)⟩
    walk_at "rd"
    have zx : Sw.Sz 3201 (t.num * (s.den : Int) - s.num * (t.den : Int)) := (zt.n.mul zs.d).sub (zs.n.mul zt.d)
    refine ⟨⟨zs.n.mono (by decide), zt.d.mono (by decide)⟩, ⟨zh.mono (by decide), zx.mono (by decide)⟩, hR _ _ ?_⟩
    refine seq_step fun R hR => ?_
    walk_at "rd"
    refine ixT_at (.of hs) rfl (ixT_at (.of ht) rfl ?_)
    walk_at "rd"
    refine ⟨⟨zs.d.mono (by decide), zt.d.mono (by decide)⟩, hR _ _ ?_⟩
    have zb : Sw.Sz 3200 ((s.den : Int) * (t.den : Int)) := zs.d.mul zt.d
    have zt2 : Sw.Sz 3271 (sh * (t.num * (s.den : Int) - s.num * (t.den : Int))) := (zh.mul zx).mono (by decide)
    refine seq_step fun R hR => ?_
    walk_at "rd"
    refine ixT_at (.of hm) rfl ?_
    walk_at "rd"
    refine ⟨⟨zm.n.mono (by decide), zb.mono (by decide)⟩, ixT_at (.of hm) rfl ?_⟩
    walk_at "rd"
    refine ⟨⟨zt2.mono (by decide), zm.d.mono (by decide)⟩, hR _ _ ?_⟩
    refine seq_step fun R hR => ?_
    walk_at "rd"
    refine ixT_at (.of hm) rfl ?_
    walk_at "rd"
    refine ⟨⟨zm.d.mono (by decide), zb.mono (by decide)⟩, hR _ _ ?_⟩
    have bp : 0 < (m.den : Int) * ((s.den : Int) * (t.den : Int)) := Int.mul_pos (Sw.q_den_pos m) (Int.mul_pos (Sw.q_den_pos s) (Sw.q_den_pos t))
    have zB : Sw.Sz 4800 ((m.den : Int) * ((s.den : Int) * (t.den : Int))) := zm.d.mul zb
    have eq := plus_q m s t sh
    generalize m.num * ((s.den : Int) * (t.den : Int)) + sh * (t.num * (s.den : Int) - s.num * (t.den : Int)) * (m.den : Int) = top at eq ⊢
    generalize (m.den : Int) * ((s.den : Int) * (t.den : Int)) = bot at eq bp zB ⊢
    refine seq_step fun R hR => ?_
    walk_at "rd"
    refine ⟨top, bot, rfl, by omega, hR _ _ ?_⟩
    have hg : 0 < Sw.dv top bot := Sw.dv_pos (by omega)
    have hz : Sw.Sz 5000 (Sw.dv top bot) := (zB.dvd (Sw.dv_r top bot) (by omega)).mono (by decide)
    walk_at "rd"
    refine ⟨⟨hg, hz⟩, ⟨hg, hz⟩, fun p hp => ?_⟩
    rw [fq_low bp, eq]
    exact k p hp
theorem eqv_fq (a b : Rat) : PyData.eqv (.tuple [.int a.num, .int (a.den : Int)]) (.tuple [.int b.num, .int (b.den : Int)]) = decide (a = b) := by
  refine (eqv_f2 (a.num, (a.den : Int)) (b.num, (b.den : Int))).trans (decide_eq_decide.mpr ?_)
  rw [Prod.mk.injEq]
  refine ⟨fun z => Rat.ext z.1 (by have := z.2; omega), fun z => by rw [z]; exact ⟨rfl, rfl⟩⟩
theorem eq_fq {H : Hp} {p q : Addr} {a b : Rat} {Q : VK} (hp : H p = some (.tup (fq a))) (hq : H q = some (.tup (fq b))) (k : Q (.bl (decide (a = b))) H) : rEqD K (.ref p) (.ref q) H Q :=
  eq_at (fq_deep hp) (fq_deep hq) rfl rfl (by rw [eqv_fq]; exact k)
theorem went_snoc {l h : Rat} {u : Sw.T3} : ∀ {us : List Sw.T3}, Sw.went l h (us ++ [u]) = Sw.went l h us + (u.2.2 : Rat) * Sw.ov l h u
  | [] => by unfold Sw.went; unfold Sw.went; grind
  | v :: r => by
    have ih := went_snoc (l := l) (h := h) (u := u) (us := r)
    show (v.2.2 : Rat) * Sw.ov l h v + Sw.went l h (r ++ [u]) = ((v.2.2 : Rat) * Sw.ov l h v + Sw.went l h r) + _
    rw [ih]; grind
def spWent : Sp := fun vs H Q _ => ∃ pl ph ptg low high ps us D B, vs = [.ref pl, .ref ph, .ref ptg] ∧ H pl = some (.tup (fq low)) ∧ H ph = some (.tup (fq high)) ∧ H ptg = some (.lst (ps.map V.ref)) ∧ TagsAt H ps us ∧ (∀ u ∈ us, TagOk D B u) ∧ GB D B ∧ B ≤ 100000000 ∧ us.length ≤ 60 ∧
  Sw.Grd D low ∧ Sw.Grd D high ∧ 0 ≤ low ∧ low ≤ high ∧ high ≤ (B : Rat) ∧ ∀ q H', Same H H' → H' q = some (.tup (fq (Sw.went low high us))) → Sw.SzQ 1600 (Sw.went low high us) → Q (.ref q) H'
theorem d__law_went (T : Txt K mg c_NoRatio c_Tide) : Def P w K mg base (CXX P w) 3 "_law_went" ["_law_low", "_law_high", "_law_tags"] spWent := by
  have D__law_under := d__law_under (P := P) (w := w) (base := base) T
  have D__law_plus := d__law_plus (P := P) (w := w) (base := base) T
  refine T.src__law_went.okN (k := 2) sc__law_went (fun vs H Q E h => ?_) (fun f cdv A outer s H vs Q E hr h => ?_)
  · obtain ⟨pl, ph, ptg, low, high, ps, us, D, B, rfl, _⟩ := h
    rfl
  · obtain ⟨pl, ph, ptg, low, high, ps, us, D, B, rfl, hl, hh, hg, tg, tok, gb, B1, lu, gl, gh, l0, lh, hB, k⟩ := h
    refine ⟨_, (pss_cons (ps_set (i := 3) sc__law_went.nd rfl (by first | exact Or.inl rfl | exact Or.inr rfl) (pe_tup (pa_cons pe_int (pa_cons pe_int pa_nil)))) (pss_cons (ps_set (i := 4) sc__law_went.nd rfl (by first | exact Or.inl rfl | exact Or.inr rfl) pe_int) (pss_cons (ps_for PassesOwn.never rfl (pi_listK K rfl (pv 2)) (pg_tupK (n := 3) K rfl rfl (pgs_cons (pg_name (i := 5) sc__law_went.nd rfl (by first | exact Or.inl rfl | exact Or.inr rfl)) (pgs_cons (pg_name (i := 6) sc__law_went.nd rfl (by first | exact Or.inl rfl | exact Or.inr rfl)) (pgs_cons (pg_name (i := 7) sc__law_went.nd rfl (by first | exact Or.inl rfl | exact Or.inr rfl)) pgs_nil)))) (pss_cons (ps_set (i := 8) sc__law_went.nd rfl (by first | exact Or.inl rfl | exact Or.inr rfl) (pv 5)) (pss_cons (ps_if (pt_val (pe_callX D__law_under (hr.mono (by decide)) rfl passN (pa_cons (pv 5) (pa_cons (pv 0) pa_nil)))) (pss_one (ps_set (i := 8) sc__law_went.nd rfl (by first | exact Or.inl rfl | exact Or.inr rfl) (pv 0))) pss_nil) (pss_cons (ps_set (i := 9) sc__law_went.nd rfl (by first | exact Or.inl rfl | exact Or.inr rfl) (pv 6)) (pss_cons (ps_if (pt_val (pe_callX D__law_under (hr.mono (by decide)) rfl passN (pa_cons (pv 1) (pa_cons (pv 6) pa_nil)))) (pss_one (ps_set (i := 9) sc__law_went.nd rfl (by first | exact Or.inl rfl | exact Or.inr rfl) (pv 1))) pss_nil) (pss_one (ps_if (PW.pt (pw_and (pt_cmpR (op_eqDK K rfl hr.units) (pv 8) (pv 0) (nomark _)) (pw_and1 (pt_cmpR (op_eqDK K rfl hr.units) (pv 9) (pv 1) (nomark _))))) (pss_one (ps_set (i := 4) sc__law_went.nd rfl (by first | exact Or.inl rfl | exact Or.inr rfl) (pe_op op_add (pv 4) (pv 7)))) (pss_one (ps_if (pt_val (pe_callX D__law_under (hr.mono (by decide)) rfl passN (pa_cons (pv 8) (pa_cons (pv 9) pa_nil)))) (pss_one (ps_set (i := 3) sc__law_went.nd rfl (by first | exact Or.inl rfl | exact Or.inr rfl) (pe_callX D__law_plus (hr.mono (by decide)) rfl passN (pa_cons (pv 3) (pa_cons (pv 7) (pa_cons (pv 8) (pa_cons (pv 9) pa_nil))))))) pss_nil))))))))) (pss_one (ps_ret (pe_callX D__law_plus (hr.mono (by decide)) rfl passN (pa_cons (pv 3) (pa_cons (pv 4) (pa_cons (pv 0) (pa_cons (pv 1) pa_nil)))))))))), ?_⟩
    show tSeq _ _ _ [some (.ref pl), some (.ref ph), some (.ref ptg), none, none, none, none, none, none, none] H
    have len := tags_len tg
    have B0 := gb.B0
    have zl : Sw.SzQ 1570 low := gb.szB gl l0 (by grind)
    have zh : Sw.SzQ 1570 high := gb.szB gh (by grind) hB
    refine seq_step fun R hR => ?_
    walk_at "rd"
    intro q0 f0
    have s0 := same_new (o := .tup [.int 0, .int 1]) f0
    have h0 := at_int (H := H) (p := q0) (n := 0)
    generalize upd H q0 (.tup [.int 0, .int 1]) = H1 at s0 h0 ⊢
    refine hR _ _ ?_
    refine seq_step fun R hR => ?_
    walk_at "rd"
    refine hR _ _ ?_
    refine seq_step fun R hR => ?_
    refine for_step fun Z hZ => ?_
    walk_at "rd"
    refine ⟨⟨_, .of (s0 _ _ hg)⟩, hZ _ _ ?_⟩
    have mB : (0 : Rat) ≤ ((1000000 * B : Int) : Rat) := by
      have : ((0 : Int) : Rat) ≤ ((1000000 * B : Int) : Rat) := Rat.intCast_le_intCast.mpr (by omega)
      exact this
    refine for_list (K := K) (a := ptg) (xs := ps.map V.ref) (fun i σ H' => Same H H' ∧ ∃ pm m wh v5 v6 v7 v8 v9, σ = [some (.ref pl), some (.ref ph), some (.ref ptg), some (.ref pm), some (.int wh), v5, v6, v7, v8, v9] ∧ H' pm = some (.tup (fq m)) ∧ Sw.Grd D m ∧ 0 ≤ m ∧ m ≤ ((i * (1000000 * B) : Int) : Rat) ∧ 0 ≤ wh ∧ wh ≤ i * 1000000 ∧ m + (wh : Rat) * (high - low) = Sw.went low high (us.take i))
      ⟨s0, q0, 0, 0, none, none, none, none, none, rfl, h0, Sw.Grd.int (by have := gb.D0; omega) 0, by decide, by simp, Int.le_refl _, by omega, by unfold Sw.went; simp; grind⟩ (fun i σ H' _ q => .of (q.1 _ _ hg)) ?_ ?_
    · rintro i x σ H2 hx ⟨sm, pm, m, wh, v5, v6, v7, v8, v9, rfl, hm, gm, m0, m1, w0, w1, es⟩
      obtain ⟨p, hp, rfl⟩ : ∃ p, ps[i]? = some p ∧ V.ref p = x := by
        rw [List.getElem?_map] at hx
        cases e : ps[i]? with
        | none => rw [e] at hx; cases hx
        | some z => rw [e] at hx; exact ⟨z, rfl, Option.some.inj hx⟩
      have hi : i < ps.length := (List.getElem?_eq_some_iff.mp hp).1
      obtain ⟨u, hu, tu⟩ := paired_get tg hp
      have ok := tok u (List.mem_of_getElem? hu)
      obtain ⟨pb, pe, g1, g2, g3⟩ := tu.keep fun _ _ q => sm _ _ q
      have hl := sm _ _ hl
      have hh := sm _ _ hh
      have zb : Sw.SzQ 1570 u.1 := gb.szB ok.b ok.b0 (by have := ok.be; have := ok.eB; grind)
      have ze : Sw.SzQ 1570 u.2.1 := gb.szB ok.e (by have := ok.be; have := ok.b0; grind) ok.eB
      have sn : Sw.went low high (us.take (i + 1)) = m + (wh : Rat) * (high - low) + (u.2.2 : Rat) * Sw.ov low high u := by rw [take_succ_of hu, went_snoc, es]
      have s1 := ok.s1
      have s2 := ok.s2
      have be := ok.be
      have b0 := ok.b0
      have eB := ok.eB
      walk_at "rd"
      refine ⟨_, .of g1, rfl, _, _, rfl, _, _, rfl, _, _, rfl, rfl, ?_⟩
      show tSeq _ _ _ [some (.ref pl), some (.ref ph), some (.ref ptg), some (.ref pm), some (.int wh), some (.ref pb), some (.ref pe), some (.int u.2.2), v8, v9] H2
      refine seq_step fun R hR => ?_
      walk_at "rd"
      refine hR _ _ ?_
      refine seq_step fun R hR => ?_
      have key : ∀ pst st, H2 pst = some (.tup (fq st)) → Sw.Grd D st → 0 ≤ st → st ≤ (B : Rat) → (st = if u.1 < low then low else u.1) → R [some (.ref pl), some (.ref ph), some (.ref ptg), some (.ref pm), some (.int wh), some (.ref pb), some (.ref pe), some (.int u.2.2), some (.ref pst), v9] H2 := fun pst st hst gst st0 stB est => by
        refine hR _ _ ?_
        refine seq_step fun R hR => ?_
        walk_at "rd"
        refine hR _ _ ?_
        refine seq_step fun R hR => ?_
        have key : ∀ psp sp, H2 psp = some (.tup (fq sp)) → Sw.Grd D sp → 0 ≤ sp → sp ≤ (B : Rat) → (sp = if high < u.2.1 then high else u.2.1) → R [some (.ref pl), some (.ref ph), some (.ref ptg), some (.ref pm), some (.int wh), some (.ref pb), some (.ref pe), some (.int u.2.2), some (.ref pst), some (.ref psp)] H2 := fun psp sp hsp gsp sp0 spB esp => by
          refine hR _ _ ?_
          have zst : Sw.SzQ 1570 st := gb.szB gst st0 stB
          have zsp : Sw.SzQ 1570 sp := gb.szB gsp sp0 spB
          have mm : ((((i + 1 : Nat) : Int) * (1000000 * B) : Int) : Rat) = ((i * (1000000 * B) : Int) : Rat) + ((1000000 * B : Int) : Rat) := by
            rw [← Rat.intCast_add]; congr 1; rw [show (((i + 1 : Nat) : Int)) = (i : Int) + 1 by omega, Int.add_mul]; omega
          refine nx_step fun R hR => ?_
          have other : ¬ (st = low ∧ sp = high) → spLUnder [.ref pst, .ref psp] H2 (fun v H3 => ∃ c, v = .bl c ∧ if c = true then spLPlus [.ref pm, .int u.2.2, .ref pst, .ref psp] H3 (fun x H4 => R [some (.ref pl), some (.ref ph), some (.ref ptg), some x, some (.int wh), some (.ref pb), some (.ref pe), some (.int u.2.2), some (.ref pst), some (.ref psp)] H4) (fun v d H' => EX0 v d [some (.ref pl), some (.ref ph), some (.ref ptg), some (.ref pm), some (.int wh), some (.ref pb), some (.ref pe), some (.int u.2.2), some (.ref pst), some (.ref psp)] H') else R [some (.ref pl), some (.ref ph), some (.ref ptg), some (.ref pm), some (.int wh), some (.ref pb), some (.ref pe), some (.int u.2.2), some (.ref pst), some (.ref psp)] H3) (fun v d H' => EX0 v d [some (.ref pl), some (.ref ph), some (.ref ptg), some (.ref pm), some (.int wh), some (.ref pb), some (.ref pe), some (.int u.2.2), some (.ref pst), some (.ref psp)] H') := fun hn => by
            refine ⟨pst, psp, st, sp, rfl, hst, hsp, zst.mono (by decide), zsp.mono (by decide), _, rfl, ?_⟩
            refine ite2 (fun h => ?_) fun h => hR _ _ ⟨sm, pm, m, wh, ⟨_, _, _, _, _, rfl⟩, hm, gm, m0, by rw [mm]; grind, w0, by omega, ?_⟩
            · have h : st < sp := of_decide_eq_true h
              have zm : Sw.SzQ 1570 m := by
                refine gb.sz (M := (i : Int) * (1000000 * B)) gm (by have := Rat.neg_le_neg m1; grind) m1 ?_ ?_
                · have := Int.mul_nonneg (show (0 : Int) ≤ i by omega) (show 0 ≤ 1000000 * B by omega); omega
                · have : (i : Int) * (1000000 * B) ≤ 60 * (1000000 * 100000000) := Int.mul_le_mul (by omega) (by omega) (by omega) (by decide)
                  omega
              refine ⟨pm, pst, psp, m, st, sp, u.2.2, rfl, hm, hst, hsp, zm.mono (by decide), zst.mono (by decide), zsp.mono (by decide), Sw.Sz.r18 (by omega) (by omega), fun q hq => hR _ _ ⟨sm.trans (same_new hq), q, _, wh, ⟨_, _, _, _, _, rfl⟩, upd_same, ?_, ?_, ?_, w0, by omega, ?_⟩⟩
              · rw [Rat.mul_comm]; exact gm.add ((gsp.sub gst).muli u.2.2)
              · have uq : (0 : Rat) ≤ (u.2.2 : Rat) := by
                  have : ((0 : Int) : Rat) ≤ (u.2.2 : Rat) := Rat.intCast_le_intCast.mpr (by omega)
                  exact this
                have := Rat.mul_nonneg uq (show 0 ≤ sp - st by grind)
                grind
              · have uq : (0 : Rat) ≤ (u.2.2 : Rat) := by
                  have : ((0 : Int) : Rat) ≤ (u.2.2 : Rat) := Rat.intCast_le_intCast.mpr (by omega)
                  exact this
                have um : (u.2.2 : Rat) ≤ ((1000000 : Int) : Rat) := Rat.intCast_le_intCast.mpr s2
                have Bq : (0 : Rat) ≤ (B : Rat) := by grind
                have a1 : (u.2.2 : Rat) * (sp - st) ≤ (u.2.2 : Rat) * (B : Rat) := Rat.mul_le_mul_of_nonneg_left (by grind) uq
                have a2 : (u.2.2 : Rat) * (B : Rat) ≤ ((1000000 : Int) : Rat) * (B : Rat) := Rat.mul_le_mul_of_nonneg_right um Bq
                rw [mm, Rat.intCast_mul 1000000 B]
                grind
              · rw [sn]
                have eo : Sw.ov low high u = sp - st := by
                  unfold Sw.ov
                  grind
                rw [eo]; grind
            · have h : ¬ st < sp := fun z => h (decide_eq_true z)
              rw [sn]
              have eo : Sw.ov low high u = 0 := by
                unfold Sw.ov
                grind
              rw [eo]; grind
          walk_at "rds"
          refine eq_fq hst hl ⟨_, rfl, ?_⟩
          refine ite2 (fun h1 => ?_) fun h1 => other fun z => h1 (decide_eq_true z.1)
          refine eq_fq hsp hh ⟨_, rfl, ?_⟩
          refine ite2 (fun h2 => ?_) fun h2 => other fun z => h2 (decide_eq_true z.2)
          have e1 : st = low := of_decide_eq_true h1
          have e2 : sp = high := of_decide_eq_true h2
          refine hR _ _ ⟨sm, pm, m, wh + u.2.2, ⟨_, _, _, _, _, rfl⟩, hm, gm, m0, by rw [mm]; grind, by omega, by omega, ?_⟩
          rw [sn, Rat.intCast_add]
          have eo : Sw.ov low high u = high - low := by
            unfold Sw.ov
            grind
          rw [eo]; grind
        walk_at "rds"
        refine ⟨ph, pe, high, u.2.1, rfl, hh, g3, zh.mono (by decide), ze.mono (by decide), ?_⟩
        walk_at "rds"
        exact ite2 (fun h => key ph high hh gh (by grind) hB (by rw [if_pos h])) fun h => key pe u.2.1 g3 ok.e (by grind) eB (by rw [if_neg h])
      walk_at "rds"
      refine ⟨pb, pl, u.1, low, rfl, g2, hl, zb.mono (by decide), zl.mono (by decide), ?_⟩
      walk_at "rds"
      exact ite2 (fun h => key pl low hl gl l0 (by grind) (by rw [if_pos h])) fun h => key pb u.1 g2 ok.b b0 (by grind) (by rw [if_neg h])
    · rintro σ H2 ⟨sm, pm, m, wh, v5, v6, v7, v8, v9, rfl, hm, gm, m0, m1, w0, w1, es⟩
      refine hR _ _ ?_
      walk_at "rd"
      rw [List.take_of_length_le (by rw [List.length_map, len]; exact Nat.le_refl _)] at es
      rw [List.length_map, len] at m1 w1
      have zm : Sw.SzQ 1570 m := by
        refine gb.sz (M := (us.length : Int) * (1000000 * B)) gm (by have := Rat.neg_le_neg m1; grind) m1 ?_ ?_
        · have := Int.mul_nonneg (show (0 : Int) ≤ us.length by omega) (show 0 ≤ 1000000 * B by omega); omega
        · have : (us.length : Int) * (1000000 * B) ≤ 60 * (1000000 * 100000000) := Int.mul_le_mul (by omega) (by omega) (by omega) (by decide)
          omega
      have zw : Sw.Sz 70 wh := Sw.Sz.r18 (by omega) (by omega)
      refine ⟨pm, pl, ph, m, low, high, wh, rfl, hm, sm _ _ hl, sm _ _ hh, zm.mono (by decide), zl.mono (by decide), zh.mono (by decide), zw, fun q hq => ?_⟩
      rw [es]
      refine k q _ (sm.trans (same_new hq)) upd_same ?_
      rw [← es]
      have d0 : 0 ≤ high - low := by grind
      have d1 : high - low ≤ (B : Rat) := by grind
      have gw : Sw.Grd D (m + (wh : Rat) * (high - low)) := by
        rw [Rat.mul_comm]; exact gm.add ((gh.sub gl).muli wh)
      have wq : (0 : Rat) ≤ (wh : Rat) := by
        have : ((0 : Int) : Rat) ≤ (wh : Rat) := Rat.intCast_le_intCast.mpr w0
        exact this
      have x0 : 0 ≤ (wh : Rat) * (high - low) := Rat.mul_nonneg wq d0
      have x1 : (wh : Rat) * (high - low) ≤ ((wh * B : Int) : Rat) := by rw [Rat.intCast_mul]; exact Rat.mul_le_mul_of_nonneg_left d1 wq
      have b1 : (us.length : Int) * (1000000 * B) ≤ 60 * (1000000 * 100000000) := Int.mul_le_mul (by omega) (by omega) (by omega) (by decide)
      have b2 : wh * B ≤ 60000000 * 100000000 := Int.mul_le_mul (by omega) (by omega) (by omega) (by decide)
      have b3 := Int.mul_nonneg w0 B0
      have b4 := Int.mul_nonneg (show (0 : Int) ≤ us.length by omega) (show 0 ≤ 1000000 * B by omega)
      have up : m + (wh : Rat) * (high - low) ≤ (((us.length : Int) * (1000000 * B) + wh * B : Int) : Rat) := by rw [Rat.intCast_add]; grind
      exact (gb.sz (M := (us.length : Int) * (1000000 * B) + wh * B) gw (by have := Rat.neg_le_neg up; grind) up (by omega) (by omega)).mono (by decide)
def spWentOn : Sp := fun vs H Q _ => ∃ (pl ph ptg : Addr) (low high : Rat) (time : Int) (ps : List Addr) (us : List Sw.T3) (D B : Int), vs = [.ref pl, .ref ph, .int time, .ref ptg] ∧ H pl = some (.tup (fq low)) ∧ H ph = some (.tup (fq high)) ∧ H ptg = some (.lst (ps.map V.ref)) ∧ TagsAt H ps us ∧ (∀ u ∈ us, TagOk D B u) ∧ GB D B ∧ B ≤ 100000000 ∧ us.length ≤ 60 ∧
  Sw.Grd D low ∧ Sw.Grd D high ∧ 0 ≤ low ∧ low ≤ high ∧ high ≤ (B : Rat) ∧ 0 ≤ time ∧ time < 1000000000000000 ∧
  (((∃ u ∈ us, high < u.2.1) ∧ Sw.went low high us = (time : Rat)) ∨ ((∀ u ∈ us, u.2.1 ≤ high) ∧ Sw.went low high us ≤ (time : Rat) ∧ ((us = [] ∧ high = 0) ∨ ∃ u ∈ us, u.2.1 = high))) ∧ ∀ H', Same H H' → Q (.bl true) H'
theorem d__law_went_on (T : Txt K mg c_NoRatio c_Tide) : Def P w K mg base (CXX P w) 4 "_law_went_on" ["_law_low", "_law_high", "_law_time", "_law_tags"] spWentOn := by
  have D__law_under := d__law_under (P := P) (w := w) (base := base) T
  have D__law_fraction := d__law_fraction (P := P) (w := w) (base := base) T
  have D__law_went := d__law_went (P := P) (w := w) (base := base) T
  refine T.src__law_went_on.okN (k := 3) sc__law_went_on (fun vs H Q E h => ?_) (fun f cdv A outer s H vs Q E hr h => ?_)
  · obtain ⟨pl, ph, ptg, low, high, time, ps, us, D, B, rfl, _⟩ := h
    rfl
  · obtain ⟨pl, ph, ptg, low, high, time, ps, us, D, B, rfl, hl, hh, hg, tg, tok, gb, B1, lu, gl, gh, l0, lh, hB, t0, t1, cs, k⟩ := h
    refine ⟨_, (pss_cons (ps_if (PW.pt (pw_or (pt_not (pt_val (pe_callX D__law_fraction (hr.mono (by decide)) rfl passN (pa_cons (pv 1) pa_nil)))) (pw_or1 (pt_val (pe_callX D__law_under (hr.mono (by decide)) rfl passN (pa_cons (pv 1) (pa_cons (pv 0) pa_nil))))))) (pss_one (ps_ret pe_bl)) pss_nil) (pss_cons (ps_set (i := 4) sc__law_went_on.nd rfl (by first | exact Or.inl rfl | exact Or.inr rfl) (pe_callX D__law_went (hr.mono (by decide)) rfl passN (pa_cons (pv 0) (pa_cons (pv 1) (pa_cons (pv 3) pa_nil))))) (pss_cons (ps_for PassesOwn.never rfl (pi_listK K rfl (pv 3)) (pg_tupK (n := 3) K rfl rfl (pgs_cons (pg_name (i := 5) sc__law_went_on.nd rfl (by first | exact Or.inl rfl | exact Or.inr rfl)) (pgs_cons (pg_name (i := 6) sc__law_went_on.nd rfl (by first | exact Or.inl rfl | exact Or.inr rfl)) (pgs_cons (pg_name (i := 7) sc__law_went_on.nd rfl (by first | exact Or.inl rfl | exact Or.inr rfl)) pgs_nil)))) (pss_one (ps_if (pt_val (pe_callX D__law_under (hr.mono (by decide)) rfl passN (pa_cons (pv 1) (pa_cons (pv 6) pa_nil)))) (pss_one (ps_ret (pe_cmpR (op_eqDK K rfl hr.units) (pv 4) (pe_tup (pa_cons (pv 2) (pa_cons pe_int pa_nil))) (nomark _)))) pss_nil))) (pss_cons (ps_for PassesOwn.never rfl (pi_listK K rfl (pv 3)) (pg_tupK (n := 3) K rfl rfl (pgs_cons (pg_name (i := 5) sc__law_went_on.nd rfl (by first | exact Or.inl rfl | exact Or.inr rfl)) (pgs_cons (pg_name (i := 6) sc__law_went_on.nd rfl (by first | exact Or.inl rfl | exact Or.inr rfl)) (pgs_cons (pg_name (i := 7) sc__law_went_on.nd rfl (by first | exact Or.inl rfl | exact Or.inr rfl)) pgs_nil)))) (pss_one (ps_if (pt_cmpR (op_eqDK K rfl hr.units) (pv 6) (pv 1) (nomark _)) (pss_one (ps_ret (pe_not (pe_callX D__law_under (hr.mono (by decide)) rfl passN (pa_cons (pe_tup (pa_cons (pv 2) (pa_cons pe_int pa_nil))) (pa_cons (pv 4) pa_nil)))))) pss_nil))) (pss_one (ps_ret (pe_and (pe_cmpR (op_eqDK K rfl hr.units) (pv 3) (pe_lst pa_nil) (nomark _)) (pe_one (pe_cmpR (op_eqDK K rfl hr.units) (pv 1) (pe_tup (pa_cons pe_int (pa_cons pe_int pa_nil))) (nomark _)))))))))), ?_⟩
    show tSeq _ _ _ [some (.ref pl), some (.ref ph), some (.int time), some (.ref ptg), none, none, none, none] H
    have len := tags_len tg
    have zl : Sw.SzQ 1570 low := gb.szB gl l0 (by grind)
    have zh : Sw.SzQ 1570 high := gb.szB gh (by grind) hB
    have zt : Sw.SzQ 70 (time : Rat) := .int (Sw.Sz.r18 (by omega) (by omega))
    have ze : ∀ u ∈ us, Sw.SzQ 5000 u.2.1 := fun u hu => (gb.szB (tok u hu).e (by have := (tok u hu).b0; have := (tok u hu).be; grind) (tok u hu).eB).mono (by decide)
    refine seq_step fun R hR => ?_
    walk_at "rd"
    refine ⟨ph, high, rfl, hh, ?_⟩
    walk_at "rd"
    refine ⟨ph, pl, high, low, rfl, hh, hl, zh.mono (by decide), zl.mono (by decide), ?_⟩
    walk_at "rd"
    refine iteN (by grind) (hR _ _ ?_)
    refine seq_step fun R hR => ?_
    walk_at "rd"
    refine ⟨pl, ph, ptg, low, high, ps, us, D, B, rfl, hl, hh, hg, tg, tok, gb, B1, lu, gl, gh, l0, lh, hB, fun pm H1 s1 hm zm => hR _ _ ?_⟩
    generalize Sw.went low high us = wv at hm zm cs
    have hl := s1 _ _ hl
    have hh := s1 _ _ hh
    have hg := s1 _ _ hg
    have tg := tags_same tg s1
    have item : ∀ (i : Nat) (x : V), (ps.map V.ref)[i]? = some x → ∃ (p : Addr) (u : Sw.T3) (pb pe : Addr), x = .ref p ∧ us[i]? = some u ∧ H1 p = some (.tup [.ref pb, .ref pe, .int u.2.2]) ∧ H1 pe = some (.tup (fq u.2.1)) := fun i x hx => by
      obtain ⟨p, hp, rfl⟩ : ∃ p, ps[i]? = some p ∧ V.ref p = x := by
        rw [List.getElem?_map] at hx
        cases e : ps[i]? with
        | none => rw [e] at hx; cases hx
        | some z => rw [e] at hx; exact ⟨z, by first | rfl | exact e, Option.some.inj hx⟩
      obtain ⟨u, hu, pb, pe, g1, g2, g3⟩ := paired_get tg hp
      exact ⟨p, u, pb, pe, rfl, hu, g1, g3⟩
    have all_of : ∀ (P : Sw.T3 → Prop), (∀ j u, j < (ps.map V.ref).length → us[j]? = some u → P u) → ∀ u ∈ us, P u := fun P h u hu => by
      obtain ⟨j, hj⟩ := List.getElem?_of_mem hu
      have := (List.getElem?_eq_some_iff.mp hj).1
      exact h j u (by rw [List.length_map]; omega) hj
    refine seq_step fun R hR => ?_
    refine for_step fun Z hZ => ?_
    walk_at "rd"
    refine ⟨⟨_, .of hg⟩, hZ _ _ ?_⟩
    refine for_list (K := K) (a := ptg) (xs := ps.map V.ref) (fun i σ H' => H' = H1 ∧ (∃ v5 v6 v7, σ = [some (.ref pl), some (.ref ph), some (.int time), some (.ref ptg), some (.ref pm), v5, v6, v7]) ∧ ∀ j u, j < i → us[j]? = some u → ¬ high < u.2.1) ⟨rfl, ⟨none, none, none, rfl⟩, fun j u h => absurd h (by omega)⟩ (fun i σ H' _ q => by rw [q.1]; exact .of hg) ?_ ?_
    · rintro i x σ H2 hx ⟨rfl, ⟨v5, v6, v7, rfl⟩, hj⟩
      obtain ⟨p, u, pb, pe, rfl, hu, g1, g3⟩ := item i x hx
      have hum := List.mem_of_getElem? hu
      walk_at "rd"
      refine ⟨_, .of g1, rfl, _, _, rfl, _, _, rfl, _, _, rfl, rfl, ?_⟩
      refine ⟨ph, pe, high, u.2.1, rfl, hh, g3, zh.mono (by decide), ze u hum, ?_⟩
      walk_at "rd"
      refine ite2 (fun h => ?_) fun h => ?_
      · intro q hq
        have n := same_new (o := .tup [.int time, .int 1]) hq
        refine eq_fq (n _ _ hm) at_int ?_
        rcases cs with ⟨_, e⟩ | ⟨c1, _⟩
        · rw [decide_eq_true e]
          exact k _ (s1.trans n)
        · exact absurd h (by have := c1 u hum; grind)
      · intro j u' h1 h2
        by_cases e : j = i
        · subst e
          rw [hu] at h2
          cases h2
          exact h
        · exact hj j u' (by omega) h2
    · rintro σ H2 ⟨rfl, ⟨v5, v6, v7, rfl⟩, hj⟩
      have no := all_of _ hj
      have cs : (∀ u ∈ us, u.2.1 ≤ high) ∧ wv ≤ (time : Rat) ∧ ((us = [] ∧ high = 0) ∨ ∃ u ∈ us, u.2.1 = high) := by
        rcases cs with ⟨⟨u, hu, h⟩, _⟩ | h
        · exact absurd h (no u hu)
        · exact h
      refine hR _ _ ?_
      refine seq_step fun R hR => ?_
      refine for_step fun Z hZ => ?_
      walk_at "rd"
      refine ⟨⟨_, .of hg⟩, hZ _ _ ?_⟩
      refine for_list (K := K) (a := ptg) (xs := ps.map V.ref) (fun i σ H' => H' = H2 ∧ (∃ v5 v6 v7, σ = [some (.ref pl), some (.ref ph), some (.int time), some (.ref ptg), some (.ref pm), v5, v6, v7]) ∧ ∀ j u, j < i → us[j]? = some u → ¬ u.2.1 = high) ⟨rfl, ⟨_, _, _, rfl⟩, fun j u h => absurd h (by omega)⟩ (fun i σ H' _ q => by rw [q.1]; exact .of hg) ?_ ?_
      · rintro i x σ H3 hx ⟨rfl, ⟨v5, v6, v7, rfl⟩, hj⟩
        obtain ⟨p, u, pb, pe, rfl, hu, g1, g3⟩ := item i x hx
        have hum := List.mem_of_getElem? hu
        walk_at "rd"
        refine ⟨_, .of g1, rfl, _, _, rfl, _, _, rfl, _, _, rfl, rfl, ?_⟩
        refine eq_fq g3 hh ?_
        walk_at "rd"
        refine ite2 (fun h => ?_) fun h => ?_
        · intro q hq
          have n := same_new (o := .tup [.int time, .int 1]) hq
          refine ⟨q, pm, time, wv, rfl, at_int, n _ _ hm, zt.mono (by decide), zm.mono (by decide), ?_⟩
          walk_at "rd"
          rw [decide_eq_false (by have := cs.2.1; grind)]
          exact k _ (s1.trans n)
        · intro j u' h1 h2
          by_cases e : j = i
          · subst e
            rw [hu] at h2
            cases h2
            exact h
          · exact hj j u' (by omega) h2
      · rintro σ H3 ⟨rfl, ⟨v5, v6, v7, rfl⟩, hj⟩
        have no := all_of _ hj
        obtain ⟨e1, e2⟩ : us = [] ∧ high = 0 := by
          rcases cs.2.2 with h | ⟨u, hu, h⟩
          · exact h
          · exact absurd h (no u hu)
        refine hR _ _ ?_
        walk_at "rd"
        subst e1
        have ep : ps = [] := List.length_eq_zero_iff.mp (by rw [len]; rfl)
        subst ep
        intro q hq
        have n := same_new (o := .lst []) hq
        refine eq_same (d := .list []) (.lst (.of (n _ _ hg)) .nil) (.lst (.of upd_same) .nil) rfl ?_
        walk_at "rd"
        intro q2 hq2
        have n2 := same_new (o := .tup [.int 0, .int 1]) hq2
        rw [e2] at hh
        exact eq_same (d := .tuple [.int 0, .int 1]) (fq_deep (n2 _ _ (n _ _ hh))) (.tup (.of upd_same) (.cons (.int _) (.cons (.int _) .nil))) rfl (k _ ((s1.trans n).trans n2))
--SPLIT
theorem _root_.L2.TagOk.times {D B : Int} {u : Sw.T3} (h : TagOk D B u) (dn : D ≠ 0) {k : Int} (kn : k ≠ 0) : TagOk (D * k) B u := ⟨h.b.more dn kn, h.e.more dn kn, h.b0, h.be, h.eB, h.s1, h.s2⟩
theorem goes_on {H : Hp} {pl ph ptg : Addr} {D B lat now t : Int} {re : Rat} {us all : List Sw.T3} {tg : List Addr} {z : Nat} {Q : VK} {E : XK} (o : TideOk D B lat re us) (a : Sw.AllIn all us re) (ok : ∀ u ∈ all, TagOk D B u) (h1 : lat ≤ now) (h2 : now ≤ t) (t1 : t < 1000000000000000) (hz : Sw.Sz z D) (hz2 : z + 60 ≤ 1500) (hB : B ≤ 100000000) (lu : us.length ≤ 60) (la : all.length ≤ 60)
    (hl : H pl = some (.tup (fq (Sw.markAt us lat re now)))) (hh : H ph = some (.tup (fq (Sw.markAt us lat re t)))) (hg : H ptg = some (.lst (tg.map V.ref))) (ta : TagsAt H tg all) (k : ∀ H', Same H H' → Q (.bl true) H') : spWentOn [.ref pl, .ref ph, .int (t - now), .ref ptg] H Q E := by
  obtain ⟨⟨S, S1, S2, gS⟩, m1, m2⟩ := Sw.markAt_ok o h1
  obtain ⟨⟨S', S1', S2', gS'⟩, m1', m2'⟩ := Sw.markAt_ok (t := t) o (by omega)
  have w := a.went o.tus h1 h2
  have D0 := o.gb.D0
  have re0 := o.re0
  have dn : D ≠ 0 := by omega
  have sn : S ≠ 0 := by omega
  have sn' : S' ≠ 0 := by omega
  have dsn : D * S ≠ 0 := Int.mul_ne_zero dn sn
  have z30 : ∀ S : Int, 1 ≤ S → S ≤ us.length * 1000000 + 1 → Sw.Sz 30 S := fun S h1 h2 => by
    unfold Sw.Sz
    have : (2 : Nat) ^ 30 = 1073741824 := by decide
    rw [this]; omega
  have l0 := o.l0
  refine ⟨pl, ph, ptg, _, _, t - now, tg, all, D * S * S', B, rfl, hl, hh, hg, ta, fun u hu => ((ok u hu).times dn sn).times dsn sn', ⟨Int.mul_pos (Int.mul_pos D0 (by omega)) (by omega), ((hz.mul (z30 S S1 S2)).mul (z30 S' S1' S2')).mono (by omega), o.gb.B0, o.gb.B1⟩, hB, la, gS.more dsn sn', ?_, by grind, w.1, m2', by omega, by omega, w.2, k⟩
  rw [show D * S * S' = D * S' * S from Int.mul_right_comm D S S']
  exact gS'.more (Int.mul_ne_zero dn sn') sn
/-- all that the law keeps -/
structure Kq (C : Addr) (H0 H : Hp) (told pt sil psl ptg l : Addr) (ps : List Addr) (qs : List Q4) (lat : Int) (re : Rat) (us : List Sw.T3) (en : Int → Option Rat) (m : Nat) (tg : List Addr) (all : List Sw.T3) : Prop where
  sm : Same H0 H
  tt : Td C H told pt lat re us en m
  ts : Td C H sil psl lat re us en m
  hg : H ptg = some (.lst (tg.map V.ref))
  ta : TagsAt H tg all
  rw : Row H l ps qs
  u1 : NoU C H told ptg
  u2 : NoU C H sil ptg
theorem Kq.same {C : Addr} {H0 H H' : Hp} {told pt sil psl ptg l : Addr} {ps : List Addr} {qs : List Q4} {lat : Int} {re : Rat} {us : List Sw.T3} {en : Int → Option Rat} {m : Nat} {tg : List Addr} {all : List Sw.T3} (h : Kq C H0 H told pt sil psl ptg l ps qs lat re us en m tg all) (s : Same H H') :
    Kq C H0 H' told pt sil psl ptg l ps qs lat re us en m tg all := by
  obtain ⟨_, _, _, _, _, a1, _⟩ := Td.ob h.tt
  obtain ⟨_, _, _, _, _, a2, _⟩ := Td.ob h.ts
  exact ⟨h.sm.trans s, h.tt.same s, h.ts.same s, s _ _ h.hg, tags_same h.ta s, h.rw.same s, h.u1.on a1 (s _ _ a1), h.u2.on a2 (s _ _ a2)⟩
theorem ok_law {f : Addr} {fd : FuncData} (F : Fun K "law" "law" s_law f fd) (T : Txt K mg c_NoRatio c_Tide) : FnOk P w K mg base CX0 6 f fd ["_law_script"] (spLaw K) := by
  have D__law_row := d__law_row (P := P) (w := w) (base := base) T
  have D__law_mix := d__law_mix (P := P) (w := w) (base := base) T
  have D__law_cell_at := d__law_cell_at (P := P) (w := w) (base := base) T
  have D__law_went_on := d__law_went_on (P := P) (w := w) (base := base) T
  have K_Tide := k_Tide (P := P) (w := w) (base := base) T
  have M_Tide_mark := m_Tide_mark (P := P) (w := w) (base := base) T
  have M_Tide_come := m_Tide_come (P := P) (w := w) (base := base) T
  refine F.ok sc_law (fun vs H Q E h => ?_) (fun cdv A outer s H vs Q E hr h => ?_)
  · obtain ⟨a, ns, rfl, _⟩ := h
    rfl
  · obtain ⟨a, ns, rfl, hS, hlen, k⟩ := h
    refine ⟨_, (pss_cons (ps_set (i := 1) sc_law.nd rfl (by first | exact Or.inl rfl | exact Or.inr rfl) (pe_makeX0 (dvs := []) K_Tide (by simp) (hr.mono (by decide)) passN rfl T.mg_Tide)) (pss_cons (ps_set (i := 2) sc_law.nd rfl (by first | exact Or.inl rfl | exact Or.inr rfl) (pe_makeX0 (dvs := []) K_Tide (by simp) (hr.mono (by decide)) passN rfl T.mg_Tide)) (pss_cons (ps_set (i := 3) sc_law.nd rfl (by first | exact Or.inl rfl | exact Or.inr rfl) (pe_lst pa_nil)) (pss_cons (ps_set (i := 4) sc_law.nd rfl (by first | exact Or.inl rfl | exact Or.inr rfl) (pe_methX (dvs := []) M_Tide_mark (by simp) T.cl_Tide (hr.mono (by decide)) passN (pv 1) (pa_cons pe_int pa_nil))) (pss_cons (ps_if (pt_not (pt_val (pe_callX D__law_went_on (hr.mono (by decide)) rfl passN (pa_cons (pe_tup (pa_cons pe_int (pa_cons pe_int pa_nil))) (pa_cons (pv 4) (pa_cons pe_int (pa_cons (pv 3) pa_nil))))))) (pss_one (ps_ret pe_bl)) pss_nil) (pss_cons (ps_set (i := 5) sc_law.nd rfl (by first | exact Or.inl rfl | exact Or.inr rfl) pe_int) (pss_cons (ps_set (i := 6) sc_law.nd rfl (by first | exact Or.inl rfl | exact Or.inr rfl) (pe_callX D__law_row (hr.mono (by decide)) rfl passN (pa_cons (pv 0) pa_nil))) (pss_cons (ps_set (i := 7) sc_law.nd rfl (by first | exact Or.inl rfl | exact Or.inr rfl) pe_int) (pss_cons (ps_if (pt_cmpR (op_neDK K rfl hr.units) (pv 6) (pe_lst pa_nil) (nomark _)) (pss_one (ps_set (i := 7) sc_law.nd rfl (by first | exact Or.inl rfl | exact Or.inr rfl) (pe_ix (ix_tupK K rfl) (pe_ix (ix_listK K rfl) (pv 6) (pe_un un_neg pe_int) (fun _ _ => rfl)) pe_int (fun _ _ => rfl)))) pss_nil) (pss_cons (ps_expr (pe_bm PySem.F.plainAttrs_list PySem.F.slot_list_append PySem.F.type_list_append mt_append (pv 6) (pa_cons (pe_tup (pa_cons (pe_op op_add (pv 7) (pe_op op_pow pe_int pe_int)) (pa_cons pe_int (pa_cons pe_int (pa_cons pe_int pa_nil))))) pa_nil))) (pss_cons (ps_for PassesOwn.never rfl (pi_range1 rfl T.no_range (pa_cons (pe_callB (call_lenK K rfl) rfl T.no_len boot_len (pa_cons (pv 6) pa_nil)) pa_nil)) (pg_name (i := 8) sc_law.nd rfl (by first | exact Or.inl rfl | exact Or.inr rfl)) (pss_cons (ps_set (i := 9) sc_law.nd rfl (by first | exact Or.inl rfl | exact Or.inr rfl) (pe_op op_add (pe_ix (ix_tupK K rfl) (pe_ix (ix_listK K rfl) (pv 6) (pv 8) (fun _ _ => rfl)) pe_int (fun _ _ => rfl)) (pe_op op_mod (pe_callX D__law_mix (hr.mono (by decide)) rfl passN (pa_cons (pe_callX D__law_cell_at (hr.mono (by decide)) rfl passN (pa_cons (pv 0) (pa_cons (pe_op op_add (pv 8) pe_int) pa_nil))) (pa_cons pe_int pa_nil))) (pe_op op_pow pe_int pe_int)))) (pss_cons (ps_if (pt_not (pt_val (pe_callX D__law_went_on (hr.mono (by decide)) rfl passN (pa_cons (pv 4) (pa_cons (pe_methX (dvs := []) M_Tide_mark (by simp) T.cl_Tide (hr.mono (by decide)) passN (pv 1) (pa_cons (pv 9) pa_nil)) (pa_cons (pe_op op_sub (pv 9) (pv 5)) (pa_cons (pv 3) pa_nil))))))) (pss_one (ps_ret pe_bl)) pss_nil) (pss_cons (ps_set (i := 10) sc_law.nd rfl (by first | exact Or.inl rfl | exact Or.inr rfl) (pe_op op_add (pv 5) (pe_op op_mod (pe_callX D__law_mix (hr.mono (by decide)) rfl passN (pa_cons (pe_callX D__law_cell_at (hr.mono (by decide)) rfl passN (pa_cons (pv 0) (pa_cons (pe_op op_add (pv 8) pe_int) pa_nil))) (pa_cons pe_int pa_nil))) (pe_op op_add (pe_op op_sub (pe_ix (ix_tupK K rfl) (pe_ix (ix_listK K rfl) (pv 6) (pv 8) (fun _ _ => rfl)) pe_int (fun _ _ => rfl)) (pv 5)) pe_int)))) (pss_cons (ps_for PassesOwn.never rfl (pi_listK K rfl (pe_lst (pa_cons (pv 10) (pa_cons (pe_ix (ix_tupK K rfl) (pe_ix (ix_listK K rfl) (pv 6) (pv 8) (fun _ _ => rfl)) pe_int (fun _ _ => rfl)) pa_nil)))) (pg_name (i := 11) sc_law.nd rfl (by first | exact Or.inl rfl | exact Or.inr rfl)) (pss_cons (ps_set (i := 12) sc_law.nd rfl (by first | exact Or.inl rfl | exact Or.inr rfl) (pe_methX (dvs := []) M_Tide_mark (by simp) T.cl_Tide (hr.mono (by decide)) passN (pv 1) (pa_cons (pv 11) pa_nil))) (pss_cons (ps_if (PW.pt (pw_or (pt_not (pt_val (pe_callX D__law_went_on (hr.mono (by decide)) rfl passN (pa_cons (pv 4) (pa_cons (pv 12) (pa_cons (pe_op op_sub (pv 11) (pv 5)) (pa_cons (pv 3) pa_nil))))))) (pw_or1 (pt_cmpR (op_neDK K rfl hr.units) (pe_methX (dvs := []) M_Tide_mark (by simp) T.cl_Tide (hr.mono (by decide)) passN (pv 1) (pa_cons (pv 11) pa_nil)) (pv 12) (nomark _))))) (pss_one (ps_ret pe_bl)) pss_nil) (pss_cons (ps_set (i := 4) sc_law.nd rfl (by first | exact Or.inl rfl | exact Or.inr rfl) (pv 12)) (pss_one (ps_set (i := 5) sc_law.nd rfl (by first | exact Or.inl rfl | exact Or.inr rfl) (pv 11))))))) (pss_cons (ps_asg (pe_methX (dvs := []) M_Tide_come (by simp) T.cl_Tide (hr.mono (by decide)) passN (pv 1) (pa_cons (pe_ix (ix_listK K rfl) (pv 6) (pv 8) (fun _ _ => rfl)) pa_nil)) (pg_tupK (n := 2) K rfl rfl (pgs_cons (pg_name (i := 13) sc_law.nd rfl (by first | exact Or.inl rfl | exact Or.inr rfl)) (pgs_cons (pg_name (i := 14) sc_law.nd rfl (by first | exact Or.inl rfl | exact Or.inr rfl)) pgs_nil)))) (pss_cons (ps_expr (pe_methX (dvs := []) M_Tide_come (by simp) T.cl_Tide (hr.mono (by decide)) passN (pv 2) (pa_cons (pe_ix (ix_listK K rfl) (pv 6) (pv 8) (fun _ _ => rfl)) pa_nil))) (pss_one (ps_expr (pe_bm PySem.F.plainAttrs_list PySem.F.slot_list_append PySem.F.type_list_append mt_append (pv 3) (pa_cons (pe_tup (pa_cons (pv 13) (pa_cons (pv 14) (pa_cons (pe_ix (ix_tupK K rfl) (pe_ix (ix_listK K rfl) (pv 6) (pv 8) (fun _ _ => rfl)) pe_int (fun _ _ => rfl)) pa_nil)))) pa_nil))))))))))) (pss_one (ps_ret (pe_cmpR (op_eqDK K rfl hr.units) (pe_methX (dvs := []) M_Tide_mark (by simp) T.cl_Tide (hr.mono (by decide)) passN (pv 2) (pa_cons (pv 5) pa_nil)) (pv 4) (nomark _))))))))))))))), ?_⟩
    show tSeq _ _ _ [some (.ref a), none, none, none, none, none, none, none, none, none, none, none, none, none, none] H
    have make : ∀ {H : Hp} {x dx pe : Addr} {H' : Hp}, H x = none → H dx = none → But x (upd (upd H dx (.own x)) x (.ins c_Tide dx [])) H' → (upd (upd H dx (.own x)) x (.ins c_Tide dx [])) pe = none → Same H H' ∧ H pe = none := fun hx hdx bt hpe => ⟨bt.same (same_make hx hdx) hx, (same_make hx hdx).free hpe⟩
    refine seq_step fun R hR => ?_
    walk_at "rd"
    intro told dx hx hdx _
    refine ⟨told, dx, rfl, upd_same, fun pt H1 bt hpe tt => ⟨rfl, hR _ _ ?_⟩⟩
    have s0 := (make hx hdx bt hpe).1
    have f1 := hx
    have f2 := (make hx hdx bt hpe).2
    clear hx hdx bt hpe
    refine seq_step fun R hR => ?_
    walk_at "rd"
    intro sil dx hx hdx _
    refine ⟨sil, dx, rfl, upd_same, fun psl H2 bt hpe ts => ⟨rfl, hR _ _ ?_⟩⟩
    obtain ⟨sm, fe⟩ := make hx hdx bt hpe
    have f3 := s0.free hx
    have f4 := s0.free fe
    have s0 := s0.trans sm
    obtain ⟨_, _, _, _, _, ot, oe, _⟩ := Td.ob tt
    have n1 : told ≠ sil := ne_of_none ot hx
    have e1 : pt ≠ psl := ne_of_none oe fe
    have tt := tt.same sm
    clear hx hdx bt hpe sm fe ot oe
    refine seq_step fun R hR => ?_
    walk_at "rd"
    intro ptg hptg
    have sm := same_new (o := .lst []) hptg
    have hg : upd H2 ptg (.lst []) ptg = some (.lst []) := upd_same
    have f5 := s0.free hptg
    have s0 := s0.trans sm
    have u1 : NoU c_Tide H2 told ptg := fun dx fs pu h1 h2 => by
      obtain ⟨dx', fs', pr, pu', ps, kvs, g1, g2, g3, g4, _⟩ := tt.ex
      rw [g1] at h1
      cases h1
      rw [g2.unf] at h2
      cases h2
      exact ne_of_none g4 hptg
    have u2 : NoU c_Tide H2 sil ptg := fun dx fs pu h1 h2 => by
      obtain ⟨dx', fs', pr, pu', ps, kvs, g1, g2, g3, g4, _⟩ := ts.ex
      rw [g1] at h1
      cases h1
      rw [g2.unf] at h2
      cases h2
      exact ne_of_none g4 hptg
    obtain ⟨_, _, _, _, _, a1, _⟩ := Td.ob tt
    obtain ⟨_, _, _, _, _, a2, _⟩ := Td.ob ts
    have u1 := u1.on a1 (sm _ _ a1)
    have u2 := u2.on a2 (sm _ _ a2)
    have a1 := sm _ _ a1
    have a2 := sm _ _ a2
    have tt := tt.same sm
    have ts := ts.same sm
    refine hR _ _ ?_
    generalize upd H2 ptg (.lst []) = H3 at s0 tt ts hg u1 u2 a1 a2 ⊢
    clear sm hptg
    refine seq_step fun R hR => ?_
    walk_at "rd"
    refine mark_of tt nil_ok (by omega) (by omega) fun pm H4 s4 hm => hR _ _ ?_
    rw [mark_nil] at hm
    have s0 := s0.trans s4
    have u1 := u1.on a1 (s4 _ _ a1)
    have u2 := u2.on a2 (s4 _ _ a2)
    have a1 := s4 _ _ a1
    have a2 := s4 _ _ a2
    have tt := tt.same s4
    have ts := ts.same s4
    have hg := s4 _ _ hg
    clear s4
    refine seq_step fun R hR => ?_
    walk_at "rd"
    intro pz hpz
    have sm := same_new (o := .tup [.int 0, .int 1]) hpz
    refine ⟨pz, pm, ptg, 0, 0, 0, [], [], 1, 0, rfl, upd_same, sm _ _ hm, sm _ _ hg, .nil, fun u h => absurd h List.not_mem_nil, nil_ok.gb, by decide, by decide, nil_ok.gre, nil_ok.gre, by decide, by decide, by decide, by decide, by decide, .inr ⟨fun u h => absurd h List.not_mem_nil, by decide, .inl ⟨rfl, rfl⟩⟩, fun H5 s5 => ⟨true, rfl, hR _ _ ?_⟩⟩
    have s5 := sm.trans s5
    have s0 := s0.trans s5
    have u1 := u1.on a1 (s5 _ _ a1)
    have u2 := u2.on a2 (s5 _ _ a2)
    have a1 := s5 _ _ a1
    have a2 := s5 _ _ a2
    have tt := tt.same s5
    have ts := ts.same s5
    have hg := s5 _ _ hg
    have hm := s5 _ _ hm
    clear s5 sm hpz
    refine seq_step fun R hR => ?_
    walk_at "rd"
    refine hR _ _ ?_
    refine seq_step fun R hR => ?_
    walk_at "rd"
    refine ⟨a, ns, rfl, s0.seq hS, hlen, fun H6 l ps qs sm hl0 rw lq rok => hR _ _ ?_⟩
    have h56 := sm
    clear sm
    refine seq_step fun R hR => ?_
    walk_at "rd"
    refine hR _ _ ?_
    refine seq_step fun R hR => ?_
    walk_at "rd"
    have post : ∀ (last : Int) (H7 : Hp), Same H6 H7 → 0 ≤ last → last ≤ 100000000 → (∀ q ∈ qs, q.1 ≤ last) → R [some (.ref a), some (.ref told), some (.ref sil), some (.ref ptg), some (.ref pm), some (.int 0), some (.ref l), some (.int last), none, none, none, none, none, none, none] H7 := by
      intro last H7 sm l0 l1 hla
      refine hR _ _ ?_
      have rw := rw.same sm
      have h57 := h56.trans sm
      have lps := rw.r.len
      clear sm hR
      refine seq_step fun R hR => ?_
      walk_at "rd"
      refine ⟨tyL_at rw.hl, fun pq hpq => ?_⟩
      have sn := same_new (o := .tup [.int (last + 1000000), .int 0, .int 1, .int 1]) hpq
      have rwn := rw.same sn
      refine app_at rwn.hl (by rw [List.length_map]; omega) (hR _ _ ?_)
      have h58 : Same H5 (upd (upd H7 pq (.tup [.int (last + 1000000), .int 0, .int 1, .int 1])) l (.lst (ps.map V.ref ++ [.ref pq]))) := fun b o hb => by
        have nb : b ≠ l := fun e => by rw [e, hl0] at hb; cases hb
        rw [upd_ne nb]
        exact (h57.trans sn) _ _ hb
      have rw9 : Row (upd (upd H7 pq (.tup [.int (last + 1000000), .int 0, .int 1, .int 1])) l (.lst (ps.map V.ref ++ [.ref pq]))) l (ps ++ [pq]) (qs ++ [(last + 1000000, 0, 1, 1)]) := by
        refine ⟨by rw [List.map_append]; exact upd_same, ?_⟩
        refine Tups.keep (Tups.snoc (q := (last + 1000000, 0, 1, 1)) upd_same rwn.r) fun p xs e => ?_
        have nb : p ≠ l := fun z => by rw [z] at e; have := rwn.hl.symm.trans e; cases this
        rw [upd_ne nb]; exact e
      generalize upd (upd H7 pq (.tup [.int (last + 1000000), .int 0, .int 1, .int 1])) l (.lst (ps.map V.ref ++ [.ref pq])) = H8 at h58 rw9 ⊢
      have gl := ne_of_none hg hl0
      have s0 := s0.trans h58
      have u1 := u1.on a1 (h58 _ _ a1)
      have u2 := u2.on a2 (h58 _ _ a2)
      have tt := tt.same h58
      have ts := ts.same h58
      have hg := h58 _ _ hg
      have hm := h58 _ _ hm
      clear h58 h57 h56 rwn rw sn hR
      have pk : ∀ q ∈ qs ++ [(last + 1000000, 0, 1, 1)], 0 ≤ q.1 ∧ q.1 ≤ 101000000 ∧ 1 ≤ q.2.2.1 ∧ q.2.2.1 ≤ 1000000 ∧ 1 ≤ q.2.2.2 ∧ q.2.2.2 ≤ 1000000 := fun q h => by
        rcases List.mem_append.mp h with z | z
        · obtain ⟨b1, b2, b3, b4, b5, b6⟩ := rok.1 q z
          exact ⟨b1, by omega, b3, b4, b5, b6⟩
        · have : q = (last + 1000000, 0, 1, 1) := by simpa using z
          subst this
          exact ⟨by show 0 ≤ last + 1000000; omega, by show last + 1000000 ≤ 101000000; omega, by show (1 : Int) ≤ 1; decide, by show (1 : Int) ≤ 1000000; decide, by show (1 : Int) ≤ 1; decide, by show (1 : Int) ≤ 1000000; decide⟩
      have pw : (qs ++ [(last + 1000000, 0, 1, 1)]).Pairwise (fun (a b : Q4) => a.1 ≤ b.1) := by
        refine List.pairwise_append.mpr ⟨rok.2, List.pairwise_singleton _ _, fun x hx y hy => ?_⟩
        have : y = (last + 1000000, 0, 1, 1) := by simpa using hy
        rw [this]
        have := hla x hx
        show x.1 ≤ last + 1000000
        omega
      have lz : (qs ++ [(last + 1000000, 0, 1, 1)]).length ≤ 25 := by rw [List.length_append]; simp only [List.length_cons, List.length_nil]; omega
      generalize qs ++ [(last + 1000000, 0, 1, 1)] = qz at pk pw lz rw9
      generalize ps ++ [pq] = pz at rw9
      have lpz := rw9.r.len
      refine seq_step fun R hR => ?_
      refine for_step fun Z hZ => ?_
      walk_at "rd"
      refine len_at (.of rw9.hl) ?_
      walk_at "rd"
      refine ⟨by omega, by rw [List.length_map]; omega, hZ _ _ ?_⟩
      rw [List.length_map, lpz, Int.toNat_natCast]
      refine for_range (fun i σ H' => ∃ lat re us en D B tg all pm v8 v9 v10 v11 v12 v13 v14, σ = [some (.ref a), some (.ref told), some (.ref sil), some (.ref ptg), some (.ref pm), some (.int lat), some (.ref l), some (.int last), v8, v9, v10, v11, v12, v13, v14] ∧ Kq c_Tide H H' told pt sil psl ptg l pz qz lat re us en i tg all ∧ H' pm = some (.tup (fq re)) ∧
        TideOk D B lat re us ∧ (∀ w e, en w = some e → Sw.Grd D e ∧ 0 ≤ e ∧ e ≤ (B : Rat)) ∧ Sw.Sz (55 * i + 1) D ∧ B = i * 1000000 ∧ (∀ q ∈ qz.drop i, lat ≤ q.1) ∧ Sw.AllIn all us re ∧ (∀ u ∈ all, TagOk D B u) ∧ all.length = i ∧ (∀ w e, en w = some e → e ≤ re ∨ ∃ v ∈ us, v.2.1 = e ∧ v.1 < v.2.1))
        ⟨0, 0, [], fun _ => none, 1, 0, [], [], pm, none, none, none, none, none, none, none, rfl, ⟨s0, tt, ts, hg, .nil, rw9, u1, u2⟩, hm, nil_ok, fun w e h => (by cases h), Sw.Sz.one 0, by decide, fun q h => (pk q (by simpa using h)).1, .nil, fun u h => absurd h List.not_mem_nil, rfl, fun w e h => (by cases h)⟩ ?_ ?_
      · rintro i σ H9 hi ⟨lat, re, us, en, D, B, tg, all, pm, v8, v9, v10, v11, v12, v13, v14, rfl, kq, hm, tok, eok, zD, eB, hq, ain, aok, la, ech⟩
        show tSeq _ _ _ [some (.ref a), some (.ref told), some (.ref sil), some (.ref ptg), some (.ref pm), some (.int lat), some (.ref l), some (.int last), some (.int (0 + (i : Int))), v9, v10, v11, v12, v13, v14] H9
        rw [show (0 : Int) + (i : Int) = (i : Int) by omega]
        obtain ⟨p, hp⟩ : ∃ p, pz[i]? = some p := ⟨pz[i]'(by omega), List.getElem?_eq_getElem _⟩
        obtain ⟨q, hq1, hq2⟩ := kq.rw.r.get hp
        have ixp : atI (pz.map V.ref) (i : Int) = some (.ref p) := atI_nat (by rw [List.getElem?_map, hp]; rfl)
        have pok := pk q (List.mem_of_getElem? hq1)
        have hdrop := Sw.drop_get hq1
        have hlt := hq q (by rw [hdrop]; simp)
        have hnext : ∀ q' ∈ qz.drop (i + 1), q.1 ≤ q'.1 := by
          have pw : (qz.drop i).Pairwise (fun a b => a.1 ≤ b.1) := List.Pairwise.sublist (List.drop_sublist _ _) pw
          rw [hdrop] at pw
          exact (List.pairwise_cons.mp pw).1
        obtain ⟨t, who, len, sh⟩ := q
        obtain ⟨t0, t1, m1, m2, s1, s2⟩ : 0 ≤ t ∧ t ≤ 101000000 ∧ 1 ≤ len ∧ len ≤ 1000000 ∧ 1 ≤ sh ∧ sh ≤ 1000000 := pok
        replace hlt : lat ≤ t := hlt
        replace hnext : ∀ q' ∈ qz.drop (i + 1), t ≤ q'.1 := hnext
        have lus : us.length ≤ i := by
          obtain ⟨_, _, _, _, _, _, _, _, _, _, _, _, _, _, h⟩ := kq.tt.ex
          exact h
        have l0 := tok.l0
        have z1 : 55 * i + 1 + 70 ≤ 1500 := by omega
        have hB : B ≤ 100000000 := by omega
        have hmk : fq re = fq (Sw.markAt us lat re lat) := by rw [Sw.markAt_self tok.tus]
        rw [hmk] at hm
        refine seq_step fun R hR => ?_
        walk_at "rd"
        refine ixL_at (.of kq.rw.hl) ixp ?_
        refine ixT_at (.of hq2) rfl ?_
        walk_at "rd"
        refine spCell_of (kq.sm.seq hS) (by omega) ?_
        walk_at "rd"
        refine ⟨_, _, rfl, by decide, by decide, fun m7 _ _ => ⟨_, rfl, hR _ _ ?_⟩⟩
        have g0 := Int.emod_nonneg m7 (show (10000 : Int) ≠ 0 by decide)
        have g1 := Int.emod_lt_of_pos m7 (show (0 : Int) < 10000 by decide)
        generalize hlater : t + m7 % 10000 = later
        have lt0 : t ≤ later := by omega
        have lt1 : later ≤ 200000000 := by omega
        clear hlater g0 g1
        refine seq_step fun R hR => ?_
        walk_at "rd"
        refine mark_of kq.tt tok (by omega) (by omega) fun ph H10 s10 hh => ?_
        have kq := kq.same s10
        have hm := s10 _ _ hm
        have hq2 := s10 _ _ hq2
        clear s10
        refine goes_on tok ain aok (Int.le_refl lat) (by omega) (by omega) zD (by omega) hB (by omega) (by omega) hm hh kq.hg kq.ta fun H11 s11 => ⟨true, rfl, hR _ _ ?_⟩
        have kq := kq.same s11
        have hm := s11 _ _ hm
        have hq2 := s11 _ _ hq2
        clear s11 hh
        refine seq_step fun R hR => ?_
        walk_at "rd"
        refine spCell_of (kq.sm.seq hS) (by omega) ?_
        walk_at "rd"
        refine ⟨_, _, rfl, by decide, by decide, fun m6 _ _ => ?_⟩
        walk_at "rd"
        refine ixL_at (.of kq.rw.hl) ixp ?_
        refine ixT_at (.of hq2) rfl ?_
        walk_at "rd"
        refine ⟨by show 0 < t - lat + 1; omega, hR _ _ ?_⟩
        have g0 := Int.emod_nonneg m6 (show t - lat + 1 ≠ 0 by omega)
        have g1 := Int.emod_lt_of_pos m6 (show 0 < t - lat + 1 by omega)
        generalize hbe : lat + m6 % (t - lat + 1) = betw
        have bt0 : lat ≤ betw := by omega
        have bt1 : betw ≤ t := by omega
        clear hbe g0 g1
        refine seq_step fun R hR => ?_
        refine for_step fun Z hZ => ?_
        walk_at "rd"
        refine ixL_at (.of kq.rw.hl) ixp ?_
        refine ixT_at (.of hq2) rfl ?_
        walk_at "rd"
        intro pl2 hpl2
        have s12 := same_new (o := .lst [.int betw, .int t]) hpl2
        have hpl3 : upd H11 pl2 (.lst [.int betw, .int t]) pl2 = some (.lst [.int betw, .int t]) := upd_same
        refine ⟨⟨_, .of hpl3⟩, hZ _ _ ?_⟩
        have kq := kq.same s12
        have hm := s12 _ _ hm
        have hq2 := s12 _ _ hq2
        generalize upd H11 pl2 (.lst [.int betw, .int t]) = H12 at kq hm hq2 hpl3 ⊢
        clear s12 hpl2
        refine for_list (K := K) (a := pl2) (xs := [.int betw, .int t]) (fun j σ H' => ∃ pm now v11 v12, σ = [some (.ref a), some (.ref told), some (.ref sil), some (.ref ptg), some (.ref pm), some (.int now), some (.ref l), some (.int last), some (.int (i : Int)), some (.int later), some (.int betw), v11, v12, v13, v14] ∧ Same H12 H' ∧ H' pm = some (.tup (fq (Sw.markAt us lat re now))) ∧ lat ≤ now ∧ ((j = 0 ∧ now ≤ betw) ∨ (j = 1 ∧ now ≤ t) ∨ (j = 2 ∧ now = t)))
          ⟨pm, lat, v11, v12, rfl, Same.refl _, hm, Int.le_refl _, .inl ⟨rfl, bt0⟩⟩ (fun j σ H' _ ⟨_, _, _, _, _, sm, _⟩ => .of (sm _ _ hpl3)) ?_ ?_
        · rintro j x σ H13 hx ⟨pm, now, w11, w12, rfl, sm, hm, ln, hj⟩
          obtain ⟨at', rfl, na, aj⟩ : ∃ at' : Int, x = .int at' ∧ now ≤ at' ∧ ((j = 0 ∧ at' = betw) ∨ (j = 1 ∧ at' = t)) := by
            rcases hj with ⟨rfl, h⟩ | ⟨rfl, h⟩ | ⟨rfl, h⟩
            · exact ⟨betw, by simpa using hx.symm, h, .inl ⟨rfl, rfl⟩⟩
            · exact ⟨t, by simpa using hx.symm, h, .inr ⟨rfl, rfl⟩⟩
            · simp at hx
          have al : at' ≤ t := by omega
          have kq := kq.same sm
          show tSeq _ _ _ [some (.ref a), some (.ref told), some (.ref sil), some (.ref ptg), some (.ref pm), some (.int now), some (.ref l), some (.int last), some (.int (i : Int)), some (.int later), some (.int betw), some (.int at'), w12, v13, v14] H13
          refine seq_step fun R hR => ?_
          walk_at "rd"
          refine mark_of kq.tt tok (by omega) (by omega) fun pf H14 s14 hf => hR _ _ ?_
          have kq := kq.same s14
          have hm := s14 _ _ hm
          refine seq_step fun R hR => ?_
          walk_at "rd"
          refine goes_on tok ain aok ln na (by omega) zD (by omega) hB (by omega) (by omega) hm hf kq.hg kq.ta fun H15 s15 => ?_
          have kq := kq.same s15
          have hf := s15 _ _ hf
          refine ⟨true, rfl, ?_⟩
          walk_at "rd"
          refine mark_of kq.tt tok (by omega) (by omega) fun pf2 H16 s16 hf2 => ?_
          have hf := s16 _ _ hf
          refine ne_same (fq_deep hf2) (fq_deep hf) rfl ?_
          walk_at "rd"
          refine hR _ _ ?_
          refine seq_step fun R hR => ?_
          walk_at "rd"
          refine hR _ _ ?_
          refine nx_step fun R hR => ?_
          walk_at "rd"
          refine hR _ _ ⟨pf, at', _, _, rfl, ((sm.trans s14).trans s15).trans s16, hf, by omega, ?_⟩
          rcases aj with ⟨rfl, rfl⟩ | ⟨rfl, rfl⟩
          · exact .inr (.inl ⟨rfl, bt1⟩)
          · exact .inr (.inr ⟨rfl, rfl⟩)
        · rintro σ H13 ⟨pm, now, w11, w12, rfl, sm, hm, ln, hj⟩
          have en : now = t := by
            rcases hj with ⟨h, _⟩ | ⟨h, _⟩ | ⟨_, h⟩
            · cases h
            · cases h
            · exact h
          subst en
          have kq := kq.same sm
          have hq2 := sm _ _ hq2
          refine hR _ _ ?_
          clear sm hj hpl3
          obtain ⟨D', zD', tok', eok', b0, bB, gbD, kk, kk0, ekk⟩ := come_ok (who := who) tok eok hlt (by omega) m1 m2 s1 s2 zD (by omega) (by omega) (by omega)
          have mk := Sw.markAt_ok tok hlt
          generalize hrv : Sw.markAt us lat re now = rv at *
          have shp : (0 : Rat) < (sh : Rat) := Sw.q_cast_pos (by omega)
          have lpos : 0 < (len : Rat) / (sh : Rat) := by
            rw [Rat.lt_div_iff shp, Rat.zero_mul]
            exact Sw.q_cast_pos (by omega)
          have cc := Sw.chain_come (who := who) (len := len) (sh := sh) mk.2.1 ain.ch ech lpos
          have bge : rv ≤ Sw.begOn en rv who := by
            unfold Sw.begOn
            rw [Rat.max_def]
            grind
          have ain' := ain.come mk.2.1 cc.1 (by grind)
          generalize hbv : Sw.begOn en rv who = bv at *
          refine seq_step fun R hR => ?_
          walk_at "rd"
          obtain ⟨dx, fs, ke, pr, pu, o1, o2, ft⟩ := Td.ob kq.tt
          refine meth_at o1 (ft.no _ (by decide +kernel) (by decide +kernel) (by decide +kernel) (by decide +kernel)) ?_
          refine ixL_at (.of kq.rw.hl) ixp ?_
          refine ⟨told, p, now, who, len, sh, pt, lat, re, us, en, i, D, B, rfl, hq2, kq.tt, tok, eok, hlt, by omega, m1, m2, s1, s2, by omega, fun fo qb qe H14 kd tt2 hfo hqb hqe nu => ?_⟩
          rw [hrv, hbv] at tt2 hqb hqe
          have kd2 : ∀ p xs, H13 p = some (.tup xs) → H14 p = some (.tup xs) := fun p xs e => kd _ _ (ne_of e o1 (by intro z; cases z)) (ne_of e o2 (by intro z; cases z)) e
          have ts2 := Kept.other kq.ts kd o1 o2 n1.symm e1.symm
          have rw2 := Row.kept kq.rw kd o1 o2
          have hg2 := kd _ _ (ne_of kq.hg o1 (by intro z; cases z)) (ne_of kq.hg o2 (by intro z; cases z)) kq.hg
          have ta2 := tags_keep kq.ta kd2
          have sm2 : Same H H14 := fun b o h => kd _ _ (ne_of_none h f1) (ne_of_none h f2) (kq.sm _ _ h)
          have hm2 := kd2 _ _ hm
          have hq3 := kd2 _ _ hq2
          have u1' := nu _ _ kq.hg
          obtain ⟨dy, gs, ke', pr', pu', o1s, o2s, fts⟩ := Td.ob kq.ts
          have u2' := kq.u2.on o1s (kd _ _ n1.symm (ne_of o1s o2 (by intro z; cases z)) o1s)
          walk_at "rd"
          refine ⟨_, .of hfo, rfl, _, _, rfl, _, _, rfl, rfl, hR _ _ ?_⟩
          clear kq kd kd2 o1 o2 o1s o2s fts ft hm hq2 nu
          refine seq_step fun R hR => ?_
          walk_at "rd"
          obtain ⟨dx, fs, ke, pr, pu, o1, o2, ft⟩ := Td.ob ts2
          refine meth_at o1 (ft.no _ (by decide +kernel) (by decide +kernel) (by decide +kernel) (by decide +kernel)) ?_
          refine ixL_at (.of rw2.hl) ixp ?_
          refine ⟨sil, p, now, who, len, sh, psl, lat, re, us, en, i, D, B, rfl, hq3, ts2, tok, eok, hlt, by omega, m1, m2, s1, s2, by omega, fun fo3 qb3 qe3 H15 kd ts3 _ _ _ nu => hR _ _ ?_⟩
          rw [hrv, hbv] at ts3
          have kd2 : ∀ p xs, H14 p = some (.tup xs) → H15 p = some (.tup xs) := fun p xs e => kd _ _ (ne_of e o1 (by intro z; cases z)) (ne_of e o2 (by intro z; cases z)) e
          have tt3 := Kept.other tt2 kd o1 o2 n1 e1
          have rw3 := Row.kept rw2 kd o1 o2
          have hg3 := kd _ _ (ne_of hg2 o1 (by intro z; cases z)) (ne_of hg2 o2 (by intro z; cases z)) hg2
          have ta3 := tags_keep ta2 kd2
          have sm3 : Same H H15 := fun b o h => kd _ _ (ne_of_none h f3) (ne_of_none h f4) (sm2 _ _ h)
          have hm3 := kd2 _ _ hm2
          have hq4 := kd2 _ _ hq3
          have hqb := kd2 _ _ hqb
          have hqe := kd2 _ _ hqe
          have u2'' := nu _ _ hg2
          obtain ⟨dy, gs, ke', pr', pu', o1t, o2t, ftt⟩ := Td.ob tt2
          have u1'' := u1'.on o1t (kd _ _ n1 (ne_of o1t o2 (by intro z; cases z)) o1t)
          clear kd kd2 o1 o2 o1t o2t ftt ft tt2 ts2 rw2 hg2 ta2 sm2 hm2 hq3 u1' u2' nu hfo
          refine nx_step fun R hR => ?_
          walk_at "rd"
          refine ⟨tyL_at hg3, ixL_at (.of rw3.hl) ixp (ixT_at (.of hq4) rfl fun pn hpn => ?_)⟩
          have sn := same_new (o := .tup [.ref qb, .ref qe, .int sh]) hpn
          have ltg := tags_len ta3
          refine app_at (sn _ _ hg3) (by rw [List.length_map]; omega) (hR _ _ ?_)
          obtain ⟨_, _, _, _, _, b1, _⟩ := Td.ob tt3
          obtain ⟨_, _, _, _, _, b2, _⟩ := Td.ob ts3
          have u1'' := u1''.on b1 (sn _ _ b1)
          have u2'' := u2''.on b2 (sn _ _ b2)
          have b1 := sn _ _ b1
          have b2 := sn _ _ b2
          have hgn := sn _ _ hg3
          have hT : TagAt (upd H15 pn (.tup [.ref qb, .ref qe, .int sh])) pn (bv, bv + (len : Rat) / (sh : Rat), sh) := ⟨qb, qe, upd_same, sn _ _ hqb, sn _ _ hqe⟩
          have kt : ∀ b xs, upd H15 pn (.tup [.ref qb, .ref qe, .int sh]) b = some (.tup xs) → upd (upd H15 pn (.tup [.ref qb, .ref qe, .int sh])) ptg (.lst (tg.map V.ref ++ [.ref pn])) b = some (.tup xs) := fun b xs e => by rw [upd_ne (ne_of e hgn (by intro z; cases z))]; exact e
          refine ⟨now, rv, _, _, D', B + 1000000, tg ++ [pn], all ++ [(bv, bv + (len : Rat) / (sh : Rat), sh)], pm, _, _, _, _, _, _, _, rfl, ⟨fun b o h => ?_, Td.list (tt3.same sn) u1'' hgn, Td.list (ts3.same sn) u2'' hgn, by rw [upd_same, List.map_append]; rfl, paired_snoc (hT.keep kt) (tags_keep (tags_same ta3 sn) kt), (rw3.same sn).upd hgn gl.symm, u1''.on b1 (by rw [upd_ne (ne_of b1 hgn (by intro z; cases z))]; exact b1), u2''.on b2 (by rw [upd_ne (ne_of b2 hgn (by intro z; cases z))]; exact b2)⟩, kt _ _ (sn _ _ hm3), tok', eok', zD'.mono (by omega), by omega, hnext, ain', fun u hu => ?_, by simp [la], cc.2⟩
          · rw [upd_ne (ne_of_none h f5)]; exact sn _ _ (sm3 _ _ h)
          · rcases List.mem_append.mp hu with z | z
            · have o := aok u z
              have D0 := tok.gb.D0
              have dn : D ≠ 0 := by omega
              rw [ekk]
              have eBr : ((B + 1000000 : Int) : Rat) = (B : Rat) + ((1000000 : Int) : Rat) := by rw [Rat.intCast_add]
              have mil : (0 : Rat) ≤ ((1000000 : Int) : Rat) := by decide
              have oe := o.eB
              exact ⟨o.b.more dn kk0, o.e.more dn kk0, o.b0, o.be, by rw [eBr]; grind, o.s1, o.s2⟩
            · have : u = (bv, bv + (len : Rat) / (sh : Rat), sh) := by simpa using z
              subst this
              exact tok'.tus _ (List.mem_append_right _ (by simp))
      · rintro σ H9 ⟨lat, re, us, en, D, B, tg, all, pm, v8, v9, v10, v11, v12, v13, v14, rfl, kq, hm, tok, eok, zD, eB, hq, ain, aok, la, ech⟩
        refine hR _ _ ?_
        walk_at "rd"
        have l0 := tok.l0
        refine mark_of kq.ts tok (Int.le_refl _) (by have := tok.l1; omega) fun q1 H10 s10 h1 => ?_
        rw [Sw.markAt_self tok.tus] at h1
        exact eq_same (fq_deep h1) (fq_deep (s10 _ _ hm)) rfl (k _)
    intro pn hpn
    have sm := same_new (o := .lst []) hpn
    have rwd := rw.deep (K := K)
    cases qs with
    | nil =>
      refine ne_same (d := .list []) (rwd.same sm) (.lst (.of upd_same) .nil) rfl ?_
      exact ⟨false, rfl, post 0 _ sm (by decide) (by decide) fun q h => absurd h List.not_mem_nil⟩
    | cons q0 qr =>
      refine ne_at (rwd.same sm) (.lst (.of upd_same) .nil) (shaped_row _) rfl ⟨true, rfl, ?_⟩
      rw [if_pos rfl]
      have rws := rw.same sm
      have len := rws.r.len
      obtain ⟨p, hp⟩ : ∃ p, ps[ps.length - 1]? = some p := ⟨ps[ps.length - 1]'(by rw [len]; simp), List.getElem?_eq_getElem _⟩
      obtain ⟨q, hq1, hq2⟩ := rws.r.get hp
      have pok := rok.1 q (List.mem_of_getElem? hq1)
      refine ixL_at (.of rws.hl) (v := .ref p) (atI_end (by rw [List.length_map, List.getElem?_map, hp]; rfl) (by rw [List.length_map, len]; simp)) ?_
      refine ixT_at (.of hq2) (v := .int q.1) rfl ?_
      refine post q.1 _ sm pok.1 pok.2.1 fun q' h' => ?_
      obtain ⟨j, hj, e⟩ := List.getElem_of_mem h'
      have pw := List.pairwise_iff_getElem.mp rok.2
      have hl : (q0 :: qr).length - 1 < (q0 :: qr).length := by simp
      have eq : (q0 :: qr)[(q0 :: qr).length - 1]'hl = q := by
        rw [len] at hq1
        rw [List.getElem?_eq_getElem hl] at hq1
        exact Option.some.inj hq1
      by_cases ej : j = (q0 :: qr).length - 1
      · subst ej
        rw [← e, eq]
        exact Int.le_refl _
      · have := pw j _ hj hl (by omega)
        rw [e, eq] at this
        exact this
end
theorem all_mk {l : PySem.W.OpenLaw} {w : World} {K : PySem.W.Frag} {h : Heap} {mg : Str → Option Value} {fa f1 f2 f3 f4 f5 f6 f7 f8 f9 f10 f11 f12 f13 f14 f15 f16 f17 f18 f19 f20 f21 f22 : Addr} (X : K.In h) (G : h.Ns mainGlobals mg) (hfa : mg "law" = some (.ref fa))
    {od1 an1 od2 an2 od3 an3 od4 an4 od5 an5 od6 an6 od7 an7 od8 an8 od9 an9 od10 an10 od11 an11 od12 an12 od13 an13 od14 an14 od15 an15 od16 an16 od17 an17 od18 an18 od19 an19 od20 an20 od21 an21 od22 an22 : Option Addr} {sl1 sl2 sl3 sl4 sl5 sl6 sl7 sl8 sl9 sl10 sl11 sl12 sl13 sl14 sl15 sl16 sl17 sl18 sl19 sl20 sl21 sl22 : Array (Option Value)} {oc1 kV1 dc1 pm1 cd1 ct1 oc2 kV2 dc2 pm2 cd2 ct2 oc3 kV3 dc3 pm3 cd3 ct3 oc4 kV4 dc4 pm4 cd4 ct4 oc5 kV5 dc5 pm5 cd5 ct5 oc6 kV6 dc6 pm6 cd6 ct6 oc7 kV7 dc7 pm7 cd7 ct7 oc8 kV8 dc8 pm8 cd8 ct8 oc9 kV9 dc9 pm9 cd9 ct9 oc10 kV10 dc10 pm10 cd10 ct10 oc11 kV11 dc11 pm11 cd11 ct11 oc12 kV12 dc12 pm12 cd12 ct12 oc13 kV13 dc13 pm13 cd13 ct13 oc14 kV14 dc14 pm14 cd14 ct14 oc15 kV15 dc15 pm15 cd15 ct15 oc16 kV16 dc16 pm16 cd16 ct16 oc17 kV17 dc17 pm17 cd17 ct17 oc18 kV18 dc18 pm18 cd18 ct18 oc19 kV19 dc19 pm19 cd19 ct19 oc20 kV20 dc20 pm20 cd20 ct20 oc21 kV21 dc21 pm21 cd21 ct21 oc22 kV22 dc22 pm22 cd22 ct22 : Value}
    {c_NoRatio : Addr}
    {cd_NoRatio : ClassData}
    (b_NoRatio : PySem.W.nsIn K mainGlobals "NoRatio" = some (some (.ref c_NoRatio)))
    (hd_NoRatio : PySem.W.hasDictIn K c_NoRatio = true)
    (ga_NoRatio : PySem.W.findIn K (.ref c_NoRatio) "__getattribute__" = some (some (.builtin "BaseException.__getattribute__")))
    (gn_NoRatio : PySem.W.findIn K (.ref c_NoRatio) "__getattr__" = some none)
    (sa_NoRatio : PySem.W.findIn K (.ref c_NoRatio) "__setattr__" = some (some (.builtin "object.__setattr__")))
    (cl_NoRatio : PySem.W.findIn K (.ref c_NoRatio) "__class__" = some (some (.builtin "object.__class__")))
    (be_NoRatio : PySem.W.mroIn K c_NoRatio (.type "BaseException") = some true)
    (ob_NoRatio : PySem.W.mroIn K c_NoRatio (.type "object") = some true)
    (kp_NoRatio : PySem.W.keepIn K (.ref c_NoRatio) = true)
    (ci_NoRatio : PySem.W.clsIn K c_NoRatio = some cd_NoRatio)
    (ti_NoRatio : PySem.W.typeIn K (.ref c_NoRatio) = some (.type "type"))
    (ex_NoRatio : PySem.W.excIn K c_NoRatio bmV "ValueError.__new__" = true)
    (kg : PySem.W.specialIn K (.builtin "object.__class__") "__get__" = some (some (.builtin "getset_descriptor.__get__")))
    (kt : PySem.W.takesIn K (.builtin "object.__class__") = some true)
    (s_NoRatio_NoRatio : PySem.W.subIn K (.ref c_NoRatio) (.ref c_NoRatio) = some true)
    (v_NoRatio_VE : PySem.W.subIn K (.ref c_NoRatio) (.type "ValueError") = some true)
    (a1 : PySem.W.nsIn K mainGlobals "divisor" = some (some (.ref f1))) (l1 : K.lookup f1 = some ⟨oc1, od1, .func (PySem.W.fnOf "divisor" "divisor" (defArgs s_divisor) (defBody s_divisor) (defScope s_divisor) .none kV1 dc1 pm1 an1 cd1 ct1), sl1⟩) (c1 : PySem.W.codeIn K cd1 "divisor" = true) (k1 : PySem.W.keepIn K (.ref f1) = true)
    (a2 : PySem.W.nsIn K mainGlobals "ratio" = some (some (.ref f2))) (l2 : K.lookup f2 = some ⟨oc2, od2, .func (PySem.W.fnOf "ratio" "ratio" (defArgs s_ratio) (defBody s_ratio) (defScope s_ratio) .none kV2 dc2 pm2 an2 cd2 ct2), sl2⟩) (c2 : PySem.W.codeIn K cd2 "ratio" = true) (k2 : PySem.W.keepIn K (.ref f2) = true)
    (a3 : PySem.W.nsIn K mainGlobals "plus" = some (some (.ref f3))) (l3 : K.lookup f3 = some ⟨oc3, od3, .func (PySem.W.fnOf "plus" "plus" (defArgs s_plus) (defBody s_plus) (defScope s_plus) .none kV3 dc3 pm3 an3 cd3 ct3), sl3⟩) (c3 : PySem.W.codeIn K cd3 "plus" = true) (k3 : PySem.W.keepIn K (.ref f3) = true)
    (a4 : PySem.W.nsIn K mainGlobals "minus" = some (some (.ref f4))) (l4 : K.lookup f4 = some ⟨oc4, od4, .func (PySem.W.fnOf "minus" "minus" (defArgs s_minus) (defBody s_minus) (defScope s_minus) .none kV4 dc4 pm4 an4 cd4 ct4), sl4⟩) (c4 : PySem.W.codeIn K cd4 "minus" = true) (k4 : PySem.W.keepIn K (.ref f4) = true)
    (a5 : PySem.W.nsIn K mainGlobals "times" = some (some (.ref f5))) (l5 : K.lookup f5 = some ⟨oc5, od5, .func (PySem.W.fnOf "times" "times" (defArgs s_times) (defBody s_times) (defScope s_times) .none kV5 dc5 pm5 an5 cd5 ct5), sl5⟩) (c5 : PySem.W.codeIn K cd5 "times" = true) (k5 : PySem.W.keepIn K (.ref f5) = true)
    (a6 : PySem.W.nsIn K mainGlobals "over" = some (some (.ref f6))) (l6 : K.lookup f6 = some ⟨oc6, od6, .func (PySem.W.fnOf "over" "over" (defArgs s_over) (defBody s_over) (defScope s_over) .none kV6 dc6 pm6 an6 cd6 ct6), sl6⟩) (c6 : PySem.W.codeIn K cd6 "over" = true) (k6 : PySem.W.keepIn K (.ref f6) = true)
    (a7 : PySem.W.nsIn K mainGlobals "under" = some (some (.ref f7))) (l7 : K.lookup f7 = some ⟨oc7, od7, .func (PySem.W.fnOf "under" "under" (defArgs s_under) (defBody s_under) (defScope s_under) .none kV7 dc7 pm7 an7 cd7 ct7), sl7⟩) (c7 : PySem.W.codeIn K cd7 "under" = true) (k7 : PySem.W.keepIn K (.ref f7) = true)
    (a8 : PySem.W.nsIn K mainGlobals "lesser" = some (some (.ref f8))) (l8 : K.lookup f8 = some ⟨oc8, od8, .func (PySem.W.fnOf "lesser" "lesser" (defArgs s_lesser) (defBody s_lesser) (defScope s_lesser) .none kV8 dc8 pm8 an8 cd8 ct8), sl8⟩) (c8 : PySem.W.codeIn K cd8 "lesser" = true) (k8 : PySem.W.keepIn K (.ref f8) = true)
    (a9 : PySem.W.nsIn K mainGlobals "greater" = some (some (.ref f9))) (l9 : K.lookup f9 = some ⟨oc9, od9, .func (PySem.W.fnOf "greater" "greater" (defArgs s_greater) (defBody s_greater) (defScope s_greater) .none kV9 dc9 pm9 an9 cd9 ct9), sl9⟩) (c9 : PySem.W.codeIn K cd9 "greater" = true) (k9 : PySem.W.keepIn K (.ref f9) = true)
    (a10 : PySem.W.nsIn K mainGlobals "least" = some (some (.ref f10))) (l10 : K.lookup f10 = some ⟨oc10, od10, .func (PySem.W.fnOf "least" "least" (defArgs s_least) (defBody s_least) (defScope s_least) .none kV10 dc10 pm10 an10 cd10 ct10), sl10⟩) (c10 : PySem.W.codeIn K cd10 "least" = true) (k10 : PySem.W.keepIn K (.ref f10) = true)
    (a11 : PySem.W.nsIn K mainGlobals "heads_of" = some (some (.ref f11))) (l11 : K.lookup f11 = some ⟨oc11, od11, .func (PySem.W.fnOf "heads_of" "heads_of" (defArgs s_heads_of) (defBody s_heads_of) (defScope s_heads_of) .none kV11 dc11 pm11 an11 cd11 ct11), sl11⟩) (c11 : PySem.W.codeIn K cd11 "heads_of" = true) (k11 : PySem.W.keepIn K (.ref f11) = true)
    (a12 : PySem.W.nsIn K mainGlobals "_law_cell_at" = some (some (.ref f12))) (l12 : K.lookup f12 = some ⟨oc12, od12, .func (PySem.W.fnOf "_law_cell_at" "_law_cell_at" (defArgs s__law_cell_at) (defBody s__law_cell_at) (defScope s__law_cell_at) .none kV12 dc12 pm12 an12 cd12 ct12), sl12⟩) (c12 : PySem.W.codeIn K cd12 "_law_cell_at" = true) (k12 : PySem.W.keepIn K (.ref f12) = true)
    (a13 : PySem.W.nsIn K mainGlobals "_law_mix" = some (some (.ref f13))) (l13 : K.lookup f13 = some ⟨oc13, od13, .func (PySem.W.fnOf "_law_mix" "_law_mix" (defArgs s__law_mix) (defBody s__law_mix) (defScope s__law_mix) .none kV13 dc13 pm13 an13 cd13 ct13), sl13⟩) (c13 : PySem.W.codeIn K cd13 "_law_mix" = true) (k13 : PySem.W.keepIn K (.ref f13) = true)
    (a14 : PySem.W.nsIn K mainGlobals "_law_row" = some (some (.ref f14))) (l14 : K.lookup f14 = some ⟨oc14, od14, .func (PySem.W.fnOf "_law_row" "_law_row" (defArgs s__law_row) (defBody s__law_row) (defScope s__law_row) .none kV14 dc14 pm14 an14 cd14 ct14), sl14⟩) (c14 : PySem.W.codeIn K cd14 "_law_row" = true) (k14 : PySem.W.keepIn K (.ref f14) = true)
    (a15 : PySem.W.nsIn K mainGlobals "_law_whole" = some (some (.ref f15))) (l15 : K.lookup f15 = some ⟨oc15, od15, .func (PySem.W.fnOf "_law_whole" "_law_whole" (defArgs s__law_whole) (defBody s__law_whole) (defScope s__law_whole) .none kV15 dc15 pm15 an15 cd15 ct15), sl15⟩) (c15 : PySem.W.codeIn K cd15 "_law_whole" = true) (k15 : PySem.W.keepIn K (.ref f15) = true)
    (a16 : PySem.W.nsIn K mainGlobals "_law_fraction" = some (some (.ref f16))) (l16 : K.lookup f16 = some ⟨oc16, od16, .func (PySem.W.fnOf "_law_fraction" "_law_fraction" (defArgs s__law_fraction) (defBody s__law_fraction) (defScope s__law_fraction) .none kV16 dc16 pm16 an16 cd16 ct16), sl16⟩) (c16 : PySem.W.codeIn K cd16 "_law_fraction" = true) (k16 : PySem.W.keepIn K (.ref f16) = true)
    (a17 : PySem.W.nsIn K mainGlobals "_law_under" = some (some (.ref f17))) (l17 : K.lookup f17 = some ⟨oc17, od17, .func (PySem.W.fnOf "_law_under" "_law_under" (defArgs s__law_under) (defBody s__law_under) (defScope s__law_under) .none kV17 dc17 pm17 an17 cd17 ct17), sl17⟩) (c17 : PySem.W.codeIn K cd17 "_law_under" = true) (k17 : PySem.W.keepIn K (.ref f17) = true)
    (a18 : PySem.W.nsIn K mainGlobals "_law_divisor" = some (some (.ref f18))) (l18 : K.lookup f18 = some ⟨oc18, od18, .func (PySem.W.fnOf "_law_divisor" "_law_divisor" (defArgs s__law_divisor) (defBody s__law_divisor) (defScope s__law_divisor) .none kV18 dc18 pm18 an18 cd18 ct18), sl18⟩) (c18 : PySem.W.codeIn K cd18 "_law_divisor" = true) (k18 : PySem.W.keepIn K (.ref f18) = true)
    (a19 : PySem.W.nsIn K mainGlobals "_law_plus" = some (some (.ref f19))) (l19 : K.lookup f19 = some ⟨oc19, od19, .func (PySem.W.fnOf "_law_plus" "_law_plus" (defArgs s__law_plus) (defBody s__law_plus) (defScope s__law_plus) .none kV19 dc19 pm19 an19 cd19 ct19), sl19⟩) (c19 : PySem.W.codeIn K cd19 "_law_plus" = true) (k19 : PySem.W.keepIn K (.ref f19) = true)
    (a20 : PySem.W.nsIn K mainGlobals "_law_went" = some (some (.ref f20))) (l20 : K.lookup f20 = some ⟨oc20, od20, .func (PySem.W.fnOf "_law_went" "_law_went" (defArgs s__law_went) (defBody s__law_went) (defScope s__law_went) .none kV20 dc20 pm20 an20 cd20 ct20), sl20⟩) (c20 : PySem.W.codeIn K cd20 "_law_went" = true) (k20 : PySem.W.keepIn K (.ref f20) = true)
    (a21 : PySem.W.nsIn K mainGlobals "_law_went_on" = some (some (.ref f21))) (l21 : K.lookup f21 = some ⟨oc21, od21, .func (PySem.W.fnOf "_law_went_on" "_law_went_on" (defArgs s__law_went_on) (defBody s__law_went_on) (defScope s__law_went_on) .none kV21 dc21 pm21 an21 cd21 ct21), sl21⟩) (c21 : PySem.W.codeIn K cd21 "_law_went_on" = true) (k21 : PySem.W.keepIn K (.ref f21) = true)
    (a22 : PySem.W.nsIn K mainGlobals "law" = some (some (.ref f22))) (l22 : K.lookup f22 = some ⟨oc22, od22, .func (PySem.W.fnOf "law" "law" (defArgs s_law) (defBody s_law) (defScope s_law) .none kV22 dc22 pm22 an22 cd22 ct22), sl22⟩) (c22 : PySem.W.codeIn K cd22 "law" = true) (k22 : PySem.W.keepIn K (.ref f22) = true)
    (z1 : PySem.W.nsIn K mainGlobals "abs" = some none)
    (z2 : PySem.W.nsIn K mainGlobals "len" = some none)
    (z3 : PySem.W.nsIn K mainGlobals "isinstance" = some none)
    (z4 : PySem.W.nsIn K mainGlobals "bool" = some none)
    (z5 : PySem.W.nsIn K mainGlobals "int" = some none)
    (z6 : PySem.W.nsIn K mainGlobals "tuple" = some none)
    (z7 : PySem.W.nsIn K mainGlobals "range" = some none)
    (z8 : PySem.W.nsIn K mainGlobals "sum" = some none)
    {c_Tide : Addr}
    (b_Tide : PySem.W.nsIn K mainGlobals "Tide" = some (some (.ref c_Tide)))
    (pg_Tide : PySem.W.plainGet K c_Tide Str.empty = true)
    (hd_Tide : PySem.W.hasDictIn K c_Tide = true)
    (po_Tide : PySem.W.plainOver K c_Tide = true)
    (sa_Tide : PySem.W.findIn K (.ref c_Tide) "__setattr__" = some (some (.builtin "object.__setattr__")))
    (mk_Tide : PySem.W.makesIn K c_Tide = true)
    (kc_Tide : PySem.W.keepIn K (.ref c_Tide) = true)
    (na_Tide_latest : PySem.W.findIn K (.ref c_Tide) "latest" = some none)
    (na_Tide_reached : PySem.W.findIn K (.ref c_Tide) "reached" = some none)
    (na_Tide_unflowed : PySem.W.findIn K (.ref c_Tide) "unflowed" = some none)
    (na_Tide_last_ends : PySem.W.findIn K (.ref c_Tide) "last_ends" = some none)
    {i_Tide_init : Addr} {od_Tide_init an_Tide_init : Option Addr} {sl_Tide_init : Array (Option Value)} {oc_Tide_init kV_Tide_init dc_Tide_init pm_Tide_init co_Tide_init ct_Tide_init : Value}
    (a_Tide_init : PySem.W.findIn K (.ref c_Tide) "__init__" = some (some (.ref i_Tide_init)))
    (i_Tide_init_fn : PySem.W.isFn K (.ref i_Tide_init) = true)
    (l_Tide_init : K.lookup i_Tide_init = some ⟨oc_Tide_init, od_Tide_init, .func (PySem.W.fnOf "__init__" "Tide.__init__" (defArgs s_Tide_init) (defBody s_Tide_init) (defScope s_Tide_init) .none kV_Tide_init dc_Tide_init pm_Tide_init an_Tide_init co_Tide_init ct_Tide_init), sl_Tide_init⟩)
    (c_Tide_init_cd : PySem.W.codeIn K co_Tide_init "Tide.__init__" = true)
    (k_Tide_init : PySem.W.keepIn K (.ref i_Tide_init) = true)
    {i_Tide_mark : Addr} {od_Tide_mark an_Tide_mark : Option Addr} {sl_Tide_mark : Array (Option Value)} {oc_Tide_mark kV_Tide_mark dc_Tide_mark pm_Tide_mark co_Tide_mark ct_Tide_mark : Value}
    (a_Tide_mark : PySem.W.findIn K (.ref c_Tide) "mark" = some (some (.ref i_Tide_mark)))
    (i_Tide_mark_fn : PySem.W.isFn K (.ref i_Tide_mark) = true)
    (l_Tide_mark : K.lookup i_Tide_mark = some ⟨oc_Tide_mark, od_Tide_mark, .func (PySem.W.fnOf "mark" "Tide.mark" (defArgs s_Tide_mark) (defBody s_Tide_mark) (defScope s_Tide_mark) .none kV_Tide_mark dc_Tide_mark pm_Tide_mark an_Tide_mark co_Tide_mark ct_Tide_mark), sl_Tide_mark⟩)
    (c_Tide_mark_cd : PySem.W.codeIn K co_Tide_mark "Tide.mark" = true)
    (k_Tide_mark : PySem.W.keepIn K (.ref i_Tide_mark) = true)
    {i_Tide_come : Addr} {od_Tide_come an_Tide_come : Option Addr} {sl_Tide_come : Array (Option Value)} {oc_Tide_come kV_Tide_come dc_Tide_come pm_Tide_come co_Tide_come ct_Tide_come : Value}
    (a_Tide_come : PySem.W.findIn K (.ref c_Tide) "come" = some (some (.ref i_Tide_come)))
    (i_Tide_come_fn : PySem.W.isFn K (.ref i_Tide_come) = true)
    (l_Tide_come : K.lookup i_Tide_come = some ⟨oc_Tide_come, od_Tide_come, .func (PySem.W.fnOf "come" "Tide.come" (defArgs s_Tide_come) (defBody s_Tide_come) (defScope s_Tide_come) .none kV_Tide_come dc_Tide_come pm_Tide_come an_Tide_come co_Tide_come ct_Tide_come), sl_Tide_come⟩)
    (c_Tide_come_cd : PySem.W.codeIn K co_Tide_come "Tide.come" = true)
    (k_Tide_come : PySem.W.keepIn K (.ref i_Tide_come) = true)
    : ∃ fd : FuncData, (∀ (s : Shared) (v : Value), BindsTo s fd ⟨[v], []⟩ [("_law_script", v)]) ∧ ∀ base : Heap, K.In base → base.Ns mainGlobals mg → FnOk l.prog w K mg base CX0 6 fa fd ["_law_script"] (spLaw K) := by
  have e := hfa.symm.trans (PySem.W.mg_of X G a22)
  cases e
  have xc_NoRatio : XC K c_NoRatio := ⟨hd_NoRatio, ga_NoRatio, gn_NoRatio, sa_NoRatio, cl_NoRatio, kg, kt, be_NoRatio, ob_NoRatio, xc_plain ex_NoRatio⟩
  have F1 := fun_mk (st := s_divisor) l1 c1 k1
  have F2 := fun_mk (st := s_ratio) l2 c2 k2
  have F3 := fun_mk (st := s_plus) l3 c3 k3
  have F4 := fun_mk (st := s_minus) l4 c4 k4
  have F5 := fun_mk (st := s_times) l5 c5 k5
  have F6 := fun_mk (st := s_over) l6 c6 k6
  have F7 := fun_mk (st := s_under) l7 c7 k7
  have F8 := fun_mk (st := s_lesser) l8 c8 k8
  have F9 := fun_mk (st := s_greater) l9 c9 k9
  have F10 := fun_mk (st := s_least) l10 c10 k10
  have F11 := fun_mk (st := s_heads_of) l11 c11 k11
  have F12 := fun_mk (st := s__law_cell_at) l12 c12 k12
  have F13 := fun_mk (st := s__law_mix) l13 c13 k13
  have F14 := fun_mk (st := s__law_row) l14 c14 k14
  have F15 := fun_mk (st := s__law_whole) l15 c15 k15
  have F16 := fun_mk (st := s__law_fraction) l16 c16 k16
  have F17 := fun_mk (st := s__law_under) l17 c17 k17
  have F18 := fun_mk (st := s__law_divisor) l18 c18 k18
  have F19 := fun_mk (st := s__law_plus) l19 c19 k19
  have F20 := fun_mk (st := s__law_went) l20 c20 k20
  have F21 := fun_mk (st := s__law_went_on) l21 c21 k21
  have F_Tide_init := funE_mk (st := s_Tide_init) l_Tide_init c_Tide_init_cd
  have B_Tide_init := (fun_mk (st := s_Tide_init) l_Tide_init c_Tide_init_cd k_Tide_init).binds (ps := ["self"]) (fun _ _ _ _ _ _ us hl => match us, hl with | [_], _ => rfl)
  have F_Tide_mark := funE_mk (st := s_Tide_mark) l_Tide_mark c_Tide_mark_cd
  have B_Tide_mark := (fun_mk (st := s_Tide_mark) l_Tide_mark c_Tide_mark_cd k_Tide_mark).binds (ps := ["self", "at"]) (fun _ _ _ _ _ _ us hl => match us, hl with | [_, _], _ => rfl)
  have F_Tide_come := funE_mk (st := s_Tide_come) l_Tide_come c_Tide_come_cd
  have B_Tide_come := (fun_mk (st := s_Tide_come) l_Tide_come c_Tide_come_cd k_Tide_come).binds (ps := ["self", "piece"]) (fun _ _ _ _ _ _ us hl => match us, hl with | [_, _], _ => rfl)
  have T : Txt K mg c_NoRatio c_Tide := ⟨PySem.W.mg_of X G b_NoRatio, xc_NoRatio, kp_NoRatio, ex_NoRatio, s_NoRatio_NoRatio, kit_self, kit_ve v_NoRatio_VE, PySem.W.mg_none_of X G z1, PySem.W.mg_none_of X G z2, PySem.W.mg_none_of X G z3, PySem.W.mg_none_of X G z4, PySem.W.mg_none_of X G z5, PySem.W.mg_none_of X G z6, PySem.W.mg_none_of X G z7, PySem.W.mg_none_of X G z8, ⟨_, _, F1, F1.binds (ps := ["one", "other"]) (fun _ _ _ _ _ _ us hl => match us, hl with | [_, _], _ => rfl), PySem.W.mg_of X G a1⟩, ⟨_, _, F2, F2.binds (ps := ["top", "bottom"]) (fun _ _ _ _ _ _ us hl => match us, hl with | [_, _], _ => rfl), PySem.W.mg_of X G a2⟩, ⟨_, _, F3, F3.binds (ps := ["one", "other"]) (fun _ _ _ _ _ _ us hl => match us, hl with | [_, _], _ => rfl), PySem.W.mg_of X G a3⟩, ⟨_, _, F4, F4.binds (ps := ["one", "other"]) (fun _ _ _ _ _ _ us hl => match us, hl with | [_, _], _ => rfl), PySem.W.mg_of X G a4⟩, ⟨_, _, F5, F5.binds (ps := ["one", "other"]) (fun _ _ _ _ _ _ us hl => match us, hl with | [_, _], _ => rfl), PySem.W.mg_of X G a5⟩, ⟨_, _, F6, F6.binds (ps := ["one", "other"]) (fun _ _ _ _ _ _ us hl => match us, hl with | [_, _], _ => rfl), PySem.W.mg_of X G a6⟩, ⟨_, _, F7, F7.binds (ps := ["one", "other"]) (fun _ _ _ _ _ _ us hl => match us, hl with | [_, _], _ => rfl), PySem.W.mg_of X G a7⟩, ⟨_, _, F8, F8.binds (ps := ["one", "other"]) (fun _ _ _ _ _ _ us hl => match us, hl with | [_, _], _ => rfl), PySem.W.mg_of X G a8⟩, ⟨_, _, F9, F9.binds (ps := ["one", "other"]) (fun _ _ _ _ _ _ us hl => match us, hl with | [_, _], _ => rfl), PySem.W.mg_of X G a9⟩, ⟨_, _, F10, F10.binds (ps := ["some"]) (fun _ _ _ _ _ _ us hl => match us, hl with | [_], _ => rfl), PySem.W.mg_of X G a10⟩, ⟨_, _, F11, F11.binds (ps := ["tagged", "mark"]) (fun _ _ _ _ _ _ us hl => match us, hl with | [_, _], _ => rfl), PySem.W.mg_of X G a11⟩, ⟨_, _, F12, F12.binds (ps := ["_law_script", "_law_k"]) (fun _ _ _ _ _ _ us hl => match us, hl with | [_, _], _ => rfl), PySem.W.mg_of X G a12⟩, ⟨_, _, F13, F13.binds (ps := ["_law_cell", "_law_k"]) (fun _ _ _ _ _ _ us hl => match us, hl with | [_, _], _ => rfl), PySem.W.mg_of X G a13⟩, ⟨_, _, F14, F14.binds (ps := ["_law_script"]) (fun _ _ _ _ _ _ us hl => match us, hl with | [_], _ => rfl), PySem.W.mg_of X G a14⟩, ⟨_, _, F15, F15.binds (ps := ["_law_found"]) (fun _ _ _ _ _ _ us hl => match us, hl with | [_], _ => rfl), PySem.W.mg_of X G a15⟩, ⟨_, _, F16, F16.binds (ps := ["_law_found"]) (fun _ _ _ _ _ _ us hl => match us, hl with | [_], _ => rfl), PySem.W.mg_of X G a16⟩, ⟨_, _, F17, F17.binds (ps := ["_law_one", "_law_other"]) (fun _ _ _ _ _ _ us hl => match us, hl with | [_, _], _ => rfl), PySem.W.mg_of X G a17⟩, ⟨_, _, F18, F18.binds (ps := ["_law_one", "_law_other"]) (fun _ _ _ _ _ _ us hl => match us, hl with | [_, _], _ => rfl), PySem.W.mg_of X G a18⟩, ⟨_, _, F19, F19.binds (ps := ["_law_many", "_law_share", "_law_start", "_law_stop"]) (fun _ _ _ _ _ _ us hl => match us, hl with | [_, _, _, _], _ => rfl), PySem.W.mg_of X G a19⟩, ⟨_, _, F20, F20.binds (ps := ["_law_low", "_law_high", "_law_tags"]) (fun _ _ _ _ _ _ us hl => match us, hl with | [_, _, _], _ => rfl), PySem.W.mg_of X G a20⟩, ⟨_, _, F21, F21.binds (ps := ["_law_low", "_law_high", "_law_time", "_law_tags"]) (fun _ _ _ _ _ _ us hl => match us, hl with | [_, _, _, _], _ => rfl), PySem.W.mg_of X G a21⟩, PySem.W.mg_of X G b_Tide, ⟨pg_Tide, hd_Tide, po_Tide, sa_Tide⟩, na_Tide_latest, na_Tide_reached, na_Tide_unflowed, na_Tide_last_ends, ⟨⟨_, _, F_Tide_init, ⟨mk_Tide, a_Tide_init, i_Tide_init_fn, kc_Tide⟩, (fun dvs h => by simp only [List.mem_cons, List.not_mem_nil, or_false] at h; subst h; exact BindsV.nil B_Tide_init)⟩⟩, ⟨⟨_, _, F_Tide_mark, ⟨a_Tide_mark, i_Tide_mark_fn, k_Tide_mark⟩, (fun dvs h => by simp only [List.mem_cons, List.not_mem_nil, or_false] at h; subst h; exact BindsV.nil B_Tide_mark)⟩⟩, ⟨⟨_, _, F_Tide_come, ⟨a_Tide_come, i_Tide_come_fn, k_Tide_come⟩, (fun dvs h => by simp only [List.mem_cons, List.not_mem_nil, or_false] at h; subst h; exact BindsV.nil B_Tide_come)⟩⟩⟩
  exact ⟨PySem.W.fnOf "law" "law" (defArgs s_law) (defBody s_law) (defScope s_law) .none kV22 dc22 pm22 an22 cd22 ct22, fun s v => .of_eq rfl, fun base _ _ => ok_law (fun_mk (st := s_law) l22 c22 k22) T⟩
theorem walk {l : PySem.W.OpenLaw} {q : Program} {loose : List Str} {XP : (Str → Option Value) → Heap → Prop} {YP : World → Heap → Prop} {d : DefRec} {K : Params → PySem.W.Frag} (hn : l.most = some 63) (hdf : d.params.defaults = [])
    (hY : ∀ (w : World) (h : Heap), YP w h → (K w.params).In h)
    (F : ∀ (w : World) (mg : Str → Option Value) (fa : Addr) (h : Heap), (K w.params).In h → h.Ns mainGlobals mg → mg d.name = some (.ref fa) →
      ∃ fd : FuncData, (∀ (s : Shared) (u : Value), BindsTo s fd ⟨[u], []⟩ [("_law_script", u)]) ∧ ∀ base : Heap, (K w.params).In base → base.Ns mainGlobals mg → FnOk l.prog w (K w.params) mg base CX0 6 fa fd ["_law_script"] (spLaw (K w.params))) :
    PySem.W.WalkO q loose XP YP l.row.toRowW d [] (fun f vs => PySem.call f vs) :=
  L2.walk_of (n := 63) (k := 6) (x := "_law_script") (CX := fun _ => CX0) (sp := fun w => spLaw (K w.params)) hn (by decide) hdf ⟨rfl, by decide, by decide⟩ hY F (fun _ _ a ns hl _ hS => ⟨a, ns, rfl, hS, hl, fun _ => rfl⟩) fun _ _ _ _ _ z => z
end K22
open PySem PySem.W PyProof.Rows
set_option maxRecDepth 100000 in
set_option maxHeartbeats 0 in
theorem PySem.Challenge.cw_sharewheel_k22_the_mark_goes_as_the_road_holds : PySem.Challenge.rw_sharewheel_k22_the_mark_goes_as_the_road.Holds := by
  w_on; o_law; k_head; (case hw => w_witness2)
  k_fill
  refine K22.walk (l := PySem.Challenge.rw_sharewheel_k22_the_mark_goes_as_the_road) rfl rfl (fun w h Y => PySem.W.kIn_of Y) ?F
  case F =>
    intro w mg fa h KX G hmg
    refine' K22.all_mk KX G hmg ?b_NoRatio ?hd_NoRatio ?ga_NoRatio ?gn_NoRatio ?sa_NoRatio ?cl_NoRatio ?be_NoRatio ?ob_NoRatio ?kp_NoRatio ?ci_NoRatio ?ti_NoRatio ?ex_NoRatio ?kg ?kt ?s_NoRatio_NoRatio ?v_NoRatio_VE ?a1 ?l1 ?c1 ?k1 ?a2 ?l2 ?c2 ?k2 ?a3 ?l3 ?c3 ?k3 ?a4 ?l4 ?c4 ?k4 ?a5 ?l5 ?c5 ?k5 ?a6 ?l6 ?c6 ?k6 ?a7 ?l7 ?c7 ?k7 ?a8 ?l8 ?c8 ?k8 ?a9 ?l9 ?c9 ?k9 ?a10 ?l10 ?c10 ?k10 ?a11 ?l11 ?c11 ?k11 ?a12 ?l12 ?c12 ?k12 ?a13 ?l13 ?c13 ?k13 ?a14 ?l14 ?c14 ?k14 ?a15 ?l15 ?c15 ?k15 ?a16 ?l16 ?c16 ?k16 ?a17 ?l17 ?c17 ?k17 ?a18 ?l18 ?c18 ?k18 ?a19 ?l19 ?c19 ?k19 ?a20 ?l20 ?c20 ?k20 ?a21 ?l21 ?c21 ?k21 ?a22 ?l22 ?c22 ?k22 ?z1 ?z2 ?z3 ?z4 ?z5 ?z6 ?z7 ?z8 ?b_Tide ?pg_Tide ?hd_Tide ?po_Tide ?sa_Tide ?mk_Tide ?kc_Tide ?na_Tide_latest ?na_Tide_reached ?na_Tide_unflowed ?na_Tide_last_ends ?a_Tide_init ?i_Tide_init_fn ?l_Tide_init ?c_Tide_init_cd ?k_Tide_init ?a_Tide_mark ?i_Tide_mark_fn ?l_Tide_mark ?c_Tide_mark_cd ?k_Tide_mark ?a_Tide_come ?i_Tide_come_fn ?l_Tide_come ?c_Tide_come_cd ?k_Tide_come
    (case b_NoRatio => k_is)
    (case hd_NoRatio => k_is)
    (case ga_NoRatio => k_is)
    (case gn_NoRatio => k_is)
    (case sa_NoRatio => k_is)
    (case cl_NoRatio => k_is)
    (case be_NoRatio => k_is)
    (case ob_NoRatio => k_is)
    (case kp_NoRatio => k_is)
    (case ci_NoRatio => k_is)
    (case ti_NoRatio => k_is)
    (case ex_NoRatio => k_exc)
    (case kg => k_is)
    (case kt => k_is)
    (case s_NoRatio_NoRatio => k_is)
    (case v_NoRatio_VE => k_is)
    (case a1 => k_is)
    (case l1 => k_is)
    (case c1 => k_is)
    (case k1 => k_is)
    (case a2 => k_is)
    (case l2 => k_is)
    (case c2 => k_is)
    (case k2 => k_is)
    (case a3 => k_is)
    (case l3 => k_is)
    (case c3 => k_is)
    (case k3 => k_is)
    (case a4 => k_is)
    (case l4 => k_is)
    (case c4 => k_is)
    (case k4 => k_is)
    (case a5 => k_is)
    (case l5 => k_is)
    (case c5 => k_is)
    (case k5 => k_is)
    (case a6 => k_is)
    (case l6 => k_is)
    (case c6 => k_is)
    (case k6 => k_is)
    (case a7 => k_is)
    (case l7 => k_is)
    (case c7 => k_is)
    (case k7 => k_is)
    (case a8 => k_is)
    (case l8 => k_is)
    (case c8 => k_is)
    (case k8 => k_is)
    (case a9 => k_is)
    (case l9 => k_is)
    (case c9 => k_is)
    (case k9 => k_is)
    (case a10 => k_is)
    (case l10 => k_is)
    (case c10 => k_is)
    (case k10 => k_is)
    (case a11 => k_is)
    (case l11 => k_is)
    (case c11 => k_is)
    (case k11 => k_is)
    (case a12 => k_is)
    (case l12 => k_is)
    (case c12 => k_is)
    (case k12 => k_is)
    (case a13 => k_is)
    (case l13 => k_is)
    (case c13 => k_is)
    (case k13 => k_is)
    (case a14 => k_is)
    (case l14 => k_is)
    (case c14 => k_is)
    (case k14 => k_is)
    (case a15 => k_is)
    (case l15 => k_is)
    (case c15 => k_is)
    (case k15 => k_is)
    (case a16 => k_is)
    (case l16 => k_is)
    (case c16 => k_is)
    (case k16 => k_is)
    (case a17 => k_is)
    (case l17 => k_is)
    (case c17 => k_is)
    (case k17 => k_is)
    (case a18 => k_is)
    (case l18 => k_is)
    (case c18 => k_is)
    (case k18 => k_is)
    (case a19 => k_is)
    (case l19 => k_is)
    (case c19 => k_is)
    (case k19 => k_is)
    (case a20 => k_is)
    (case l20 => k_is)
    (case c20 => k_is)
    (case k20 => k_is)
    (case a21 => k_is)
    (case l21 => k_is)
    (case c21 => k_is)
    (case k21 => k_is)
    (case a22 => k_is)
    (case l22 => k_is)
    (case c22 => k_is)
    (case k22 => k_is)
    (case z1 => k_is)
    (case z2 => k_is)
    (case z3 => k_is)
    (case z4 => k_is)
    (case z5 => k_is)
    (case z6 => k_is)
    (case z7 => k_is)
    (case z8 => k_is)
    (case b_Tide => k_is)
    (case pg_Tide => k_is)
    (case hd_Tide => k_is)
    (case po_Tide => k_is)
    (case sa_Tide => k_is)
    (case mk_Tide => k_is)
    (case kc_Tide => k_is)
    (case na_Tide_latest => k_is)
    (case na_Tide_reached => k_is)
    (case na_Tide_unflowed => k_is)
    (case na_Tide_last_ends => k_is)
    (case a_Tide_init => k_is)
    (case i_Tide_init_fn => k_is)
    (case l_Tide_init => k_is)
    (case c_Tide_init_cd => k_is)
    (case k_Tide_init => k_is)
    (case a_Tide_mark => k_is)
    (case i_Tide_mark_fn => k_is)
    (case l_Tide_mark => k_is)
    (case c_Tide_mark_cd => k_is)
    (case k_Tide_mark => k_is)
    (case a_Tide_come => k_is)
    (case i_Tide_come_fn => k_is)
    (case l_Tide_come => k_is)
    (case c_Tide_come_cd => k_is)
    (case k_Tide_come => k_is)
