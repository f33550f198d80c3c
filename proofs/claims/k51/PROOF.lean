import PyProof.Rows.All
import Wide.All
import OpenK.AllK
import Wide.FinOn
import Lean
import PyProof.EqAt
import PyProof.EqKinds
import PyProof.TupleCall
import PySem.Challenge.RW_sharewheel_k51_children
set_option Elab.async false
set_option linter.all false
set_option maxRecDepth 100000
namespace L2
open PySem PySem.Spec PyProof.Rows
abbrev Key := Sum Int Str
def keyIs : Key → Value → Bool
  | .inl k, v => Value.isInt k v
  | .inr x, v => Value.isStrOf x v
def keyH (w : World) : Key → Int
  | .inl k => hashInt k
  | .inr x => hashStr w x
theorem keyIs_shape : ∀ {k : Key} {v : Value}, keyIs k v = true → (∃ i t, k = Sum.inl i ∧ v = Value.int i t) ∨ (∃ x t, k = Sum.inr x ∧ v = Value.str x t)
  | .inl i, v, h => by
    obtain ⟨t, e⟩ := Value.isInt_shape (k := i) (v := v) h
    exact .inl ⟨i, t, rfl, e⟩
  | .inr x, v, h => by
    obtain ⟨t, e⟩ := Value.isStrOf_shape (x := x) (v := v) h
    exact .inr ⟨x, t, rfl, e⟩
theorem keyIs_int (i : Int) (t : Tok) : keyIs (.inl i) (.int i t) = true := by simp [keyIs, Value.isInt]
theorem keyIs_str (x : Str) (t : Tok) : keyIs (.inr x) (.str x t) = true := by simp [keyIs, Value.isStrOf]
theorem key_ll (a b : Int) : decide ((Sum.inl a : Key) = Sum.inl b) = (a == b) := by
  by_cases e : a = b
  · subst e; simp
  · have h : ¬ (Sum.inl a : Key) = Sum.inl b := fun q => e (Sum.inl.inj q)
    rw [decide_eq_false h]
    exact (beq_eq_false_iff_ne.mpr e).symm
theorem key_rr (a b : Str) : decide ((Sum.inr a : Key) = Sum.inr b) = decide (a = b) := by
  by_cases e : a = b
  · subst e; simp
  · have h : ¬ (Sum.inr a : Key) = Sum.inr b := fun q => e (Sum.inr.inj q)
    rw [decide_eq_false h, decide_eq_false e]
theorem key_lr (a : Int) (b : Str) : decide ((Sum.inl a : Key) = Sum.inr b) = false := decide_eq_false (fun q => nomatch q)
theorem key_rl (a : Str) (b : Int) : decide ((Sum.inr a : Key) = Sum.inl b) = false := decide_eq_false (fun q => nomatch q)
def mixKind (prog : Program) (w : World) : PySem.KeyKind prog w Key where
  is := keyIs
  hash := keyH w
  inj := fun v a b ha hb => by
    rcases keyIs_shape ha with ⟨i, t, rfl, rfl⟩ | ⟨x, t, rfl, rfl⟩
    · rcases keyIs_shape hb with ⟨j, u, rfl, e⟩ | ⟨y, u, rfl, e⟩
      · injection e with e1 _; rw [e1]
      · exact nomatch e
    · rcases keyIs_shape hb with ⟨j, u, rfl, e⟩ | ⟨y, u, rfl, e⟩
      · exact nomatch e
      · injection e with e1 _; rw [e1]
  byValue := fun k v h => by
    rcases keyIs_shape h with ⟨i, t, rfl, rfl⟩ | ⟨x, t, rfl, rfl⟩ <;> rfl
  pyHash := fun hv h => by
    rcases keyIs_shape hv with ⟨i, t, rfl, rfl⟩ | ⟨x, t, rfl, rfl⟩
    · exact wpAny_pyHash_int h
    · exact wpAny_pyHash_str h
  eqBool := fun hu hv h => by
    rcases keyIs_shape hu with ⟨i, t, rfl, rfl⟩ | ⟨x, t, rfl, rfl⟩
    · rcases keyIs_shape hv with ⟨j, u, rfl, rfl⟩ | ⟨y, u, rfl, rfl⟩
      · rw [key_ll] at h; exact wpAny_eqBool_int h
      · rw [key_lr] at h; exact SeqAt.EqAt.int_str i t y u _ _ _ _ h
    · rcases keyIs_shape hv with ⟨j, u, rfl, rfl⟩ | ⟨y, u, rfl, rfl⟩
      · rw [key_rl] at h; exact SeqAt.EqAt.str_int x t j u _ _ _ _ h
      · rw [key_rr] at h; exact wpAny_eqBool_str h
  «strs» := fun k x t v h => by
    rcases keyIs_shape h with ⟨i, u, rfl, e⟩ | ⟨y, u, rfl, e⟩
    · exact nomatch e
    · injection e with e1 _
      subst e1
      cases v <;> rfl
theorem mixKind_int (prog : Program) (w : World) (i : Int) (t : Tok) : (mixKind prog w).is (.inl i) (.int i t) = true := keyIs_int i t
theorem mixKind_str (prog : Program) (w : World) (x : Str) (t : Tok) : (mixKind prog w).is (.inr x) (.str x t) = true := keyIs_str x t
end L2
namespace L2
open PySem PySem.Spec PyProof.Rows
inductive V where
  | non | bl (b : Bool) | int (i : Int) | str (x : Str) | byt (b : Array UInt8) | flt (b : UInt64) | ref (a : Addr) | ty (n : String)
  deriving DecidableEq
def RelV : V → Value → Prop
  | .non, u => u = Value.none
  | .bl b, u => u = Value.bool b
  | .int i, u => ∃ t, u = Value.int i t
  | .str x, u => ∃ t, u = Value.str x t
  | .byt b, u => ∃ t, u = Value.bytes b t
  | .flt b, u => ∃ t, u = Value.float b t
  | .ref a, u => u = Value.ref a
  | .ty n, u => u = Value.type n
abbrev Vals : List V → List Value → Prop := Paired RelV
theorem Vals.length {xs : List V} {us : List Value} (r : Vals xs us) : xs.length = us.length := Paired.length r
theorem Vals.get : ∀ {xs : List V} {us : List Value} {i : Nat} {x : V}, Vals xs us → xs[i]? = some x → ∃ u, us[i]? = some u ∧ RelV x u
  | _, _, _, _, .nil, e => by simp at e
  | _, _, 0, _, .cons r _, e => by simp at e; subst e; exact ⟨_, rfl, r⟩
  | _, _, i + 1, x, .cons _ t, e => by
    obtain ⟨u, h1, h2⟩ := Vals.get (i := i) (x := x) t (by simpa using e)
    exact ⟨u, by simpa using h1, h2⟩
theorem Vals.set {x : V} {u : Value} (r : RelV x u) : ∀ {xs : List V} {us : List Value} (i : Nat), Vals xs us → Vals (xs.set i x) (us.set i u)
  | _, _, _, .nil => .nil
  | _, _, 0, .cons _ t => .cons r t
  | _, _, i + 1, .cons q t => .cons q (Vals.set r i t)
theorem Vals.append : ∀ {xs ys : List V} {us ws : List Value}, Vals xs us → Vals ys ws → Vals (xs ++ ys) (us ++ ws)
  | _, _, _, _, .nil, s => s
  | _, _, _, _, .cons r t, s => .cons r (Vals.append t s)
theorem Vals.take : ∀ {xs : List V} {us : List Value} (n : Nat), Vals xs us → Vals (xs.take n) (us.take n)
  | _, _, 0, _ => .nil
  | _, _, _ + 1, .nil => .nil
  | _, _, n + 1, .cons r t => .cons r (Vals.take n t)
theorem Vals.drop : ∀ {xs : List V} {us : List Value} (n : Nat), Vals xs us → Vals (xs.drop n) (us.drop n)
  | _, _, 0, r => r
  | _, _, _ + 1, .nil => .nil
  | _, _, n + 1, .cons _ t => Vals.drop n t
theorem Vals.none_of : ∀ {xs : List V} {us : List Value} {i : Nat}, Vals xs us → xs[i]? = none → us[i]? = none := fun {xs us i} r e => by
  have h1 := r.length
  have h2 : xs.length ≤ i := List.getElem?_eq_none_iff.mp e
  exact List.getElem?_eq_none_iff.mpr (by omega)
def RelO : Option V → Option Value → Prop
  | some v, some u => RelV v u
  | none, none => True
  | _, _ => False
def KV {κ : Type} : List (κ × V) → List (κ × Value) → Prop := Paired fun (p : κ × V) (q : κ × Value) => p.1 = q.1 ∧ RelV p.2 q.2
def kV : Key → V
  | .inl i => .int i
  | .inr x => .str x
inductive HO where
  /-- a list -/
  | lst (xs : List V)
  /-- a tuple (never changes) -/
  | tup (xs : List V)
  /-- a dict whose keys are ints and texts; one whose keys are tuples of ints and texts (the empty one is both) -/
  | dK (kvs : List (Key × V)) | dT (kvs : List (List Key × V))
  /-- a set of ints: its members, its size -/
  | set (S : Int → Bool) (n : Nat)
  /-- an instance of the class at C, its dict at dx, its attributes -/
  | ins (C dx : Addr) (fs : List (Str × V))
  /-- the dict of the instance at x -/
  | own (x : Addr)
  /-- the dict of an exception -/
  | xd (fs : List (Str × V))
  /-- a bound method, f of x -/
  | met (f x : Addr)
  /-- a range object lo, lo + 1, .. below hi -/
  | rng (lo hi : Int)
  /-- a thing that is known to the object (the script; a dict while a loop walks it): read, never written while it is so -/
  | frz (o : Obj) (u : HO)
  /-- a code object's table -/
  | tbl (ps : Array Value)
  /-- any other thing, by what is true of its one object (a def of one's own: SetO a S n := HO.ext fun h => ..) -/
  | ext (φ : Heap → Prop)
abbrev Hp := Addr → Option HO
def upd (H : Hp) (a : Addr) (o : HO) : Hp := fun b => if b = a then some o else H b
theorem upd_same {H : Hp} {a : Addr} {o : HO} : upd H a o a = some o := by unfold upd; rw [if_pos rfl]
theorem upd_ne {H : Hp} {a b : Addr} {o : HO} (h : b ≠ a) : upd H a o b = H b := by unfold upd; rw [if_neg h]
theorem upd_upd {H : Hp} {a : Addr} {o u : HO} : upd (upd H a o) a u = upd H a u := by
  funext b; unfold upd; split <;> rfl
theorem ne_of {H : Hp} {a b : Addr} {o u : HO} (h : H a = some o) (h' : H b = some u) (d : o ≠ u) : a ≠ b := by
  intro e; subst e; rw [h] at h'; exact d (Option.some.inj h')
theorem ne_of_none {H : Hp} {a b : Addr} {o : HO} (h : H a = some o) (h' : H b = none) : a ≠ b := by
  intro e; subst e; rw [h] at h'; cases h'
section
variable (P : Program) (w : World)
def ObjOk (H : Hp) (h : Heap) (a : Addr) : HO → Prop
  | .lst xs => xs.length ≤ sizeLine ∧ ∃ (its : List Value) (n : Nat), Vals xs its ∧ h.get? a = some { cls := .type "list", data := .seq its.toArray n }
  | .tup xs => xs.length ≤ sizeLine ∧ ∃ its : List Value, Vals xs its ∧ IsTup h a its.toArray
  | .dK kvs => kvs.length ≤ sizeLine ∧ (a == sysModules) = false ∧ ∃ vs, KV kvs vs ∧ h.DictOf (mixKind P w) a vs
  | .dT kvs => kvs.length ≤ sizeLine ∧ (a == sysModules) = false ∧ ∃ xs : List (List Key × Addr × Value),
      Paired (fun (p : List Key × V) (q : List Key × Addr × Value) => p.1 = q.1 ∧ H q.2.1 = some (.tup (p.1.map kV)) ∧ RelV p.2 q.2.2) kvs xs ∧
      ∃ o es ep, h.get? a = some o ∧ o.ExactDict ∧ o.data = .dict es ep ∧ es.toList = xs.map (entryOfKey (tupleKind (mixKind P w))) ∧ (xs.map (·.1)).Nodup
  | .set S n => h.SetOf (intKind P w) a S n
  | .ins C dx fs => H dx = some (.own a) ∧ fs.length ≤ 1000 ∧ dx ≠ a ∧ h.get? a = some (PySem.W.instObj C dx) ∧
      ∃ mA, h.Ns1 dx mA ∧ (∀ f, RelO (fs.lookup f) (mA f)) ∧ PySem.Within mA (fs.map (·.1))
  | .own _ => ∃ o, h.get? a = some o
  | .xd fs => ∃ mA, h.Ns1 a mA ∧ ∀ f, RelO (fs.lookup f) (mA f)
  | .rng lo hi => ∃ t u v, h.get? a = some { cls := .type "range", data := .fields #[.int lo t, .int hi u, .int 1 v] }
  | .frz o u => h.get? a = some o ∧ ObjOk H h a u
  | .tbl ps => h.get? a = some { cls := .none, data := .fields ps }
  | .met f x => h.get? a = some (PySem.W.methodObj (.ref f) (.ref x))
  | .ext φ => φ h ∧ (∃ o, h.get? a = some o) ∧ ∀ h1 h2 : Heap, φ h1 → (∀ o, h1.get? a = some o → h2.get? a = some o) → φ h2
def HOk (H : Hp) (h : Heap) : Prop := ∀ a o, H a = some o → ObjOk P w H h a o
end
section
variable {P : Program} {w : World} {H H' : Hp} {h h' : Heap} {a : Addr} {o : HO}
theorem ObjOk.lt (x : ObjOk P w H h a o) : a < h.objs.size := by
  cases o with
  | lst xs => obtain ⟨_, _, _, _, e⟩ := x; exact Heap.lt_size e
  | tup xs => obtain ⟨_, _, _, p⟩ := x; exact p.lt
  | dK kvs => obtain ⟨_, _, _, _, o, _, _, e, _⟩ := x; exact Heap.lt_size e
  | dT kvs => obtain ⟨_, _, _, _, o, _, _, e, _⟩ := x; exact Heap.lt_size e
  | set S n => obtain ⟨o, _, _, _, e, _⟩ := x; exact Heap.lt_size e
  | ins C dx fs => obtain ⟨_, _, _, e, _⟩ := x; exact Heap.lt_size e
  | own y => obtain ⟨_, e⟩ := x; exact Heap.lt_size e
  | xd fs => obtain ⟨_, ⟨_, _, _, e, _⟩, _⟩ := x; exact Heap.lt_size e
  | rng lo hi => obtain ⟨_, _, _, e⟩ := x; exact Heap.lt_size e
  | frz ob u => obtain ⟨e, _⟩ := x; exact Heap.lt_size e
  | tbl ps => exact Heap.lt_size (show h.get? a = some _ from x)
  | met f y => exact Heap.lt_size (show h.get? a = some _ from x)
  | ext φ => obtain ⟨_, ⟨_, e⟩, _⟩ := x; exact Heap.lt_size e
theorem Paired.mapP {α β : Type} {F G : α → β → Prop} : ∀ {l₁ : List α} {l₂ : List β}, Paired F l₁ l₂ → (∀ a b, F a b → G a b) → Paired G l₁ l₂
  | _, _, .nil, _ => .nil
  | _, _, .cons r t, f => .cons (f _ _ r) (Paired.mapP t f)
theorem ObjOk.stay (x : ObjOk P w H h a o) (k : ∀ b u, (b = a ∨ H b = some (.own a)) → h.get? b = some u → h'.get? b = some u)
    (ho : ∀ b, H b = some (.own a) → H' b = some (.own a)) (ht : ∀ b xs, H b = some (.tup xs) → H' b = some (.tup xs)) : ObjOk P w H' h' a o := by
  induction o with
  | lst xs => obtain ⟨z, its, n, r, e⟩ := x; exact ⟨z, its, n, r, k _ _ (.inl rfl) e⟩
  | tup xs => obtain ⟨z, its, r, ob, e, c⟩ := x; exact ⟨z, its, r, ob, k _ _ (.inl rfl) e, c⟩
  | dK kvs => obtain ⟨z, y, vs, r, ob, es, ep, e, c⟩ := x; exact ⟨z, y, vs, r, ob, es, ep, k _ _ (.inl rfl) e, c⟩
  | dT kvs =>
    obtain ⟨z, y, xs, r, ob, es, ep, e, c⟩ := x
    exact ⟨z, y, xs, Paired.mapP r fun p q z => ⟨z.1, ht _ _ z.2.1, z.2.2⟩, ob, es, ep, k _ _ (.inl rfl) e, c⟩
  | set S n => obtain ⟨ob, es, ep, t, e, c⟩ := x; exact ⟨ob, es, ep, t, k _ _ (.inl rfl) e, c⟩
  | ins C dx fs =>
    obtain ⟨d, z, ne, e, mA, ⟨od, es, ep, e2, c⟩, r⟩ := x
    exact ⟨ho _ d, z, ne, k _ _ (.inl rfl) e, mA, ⟨od, es, ep, k _ _ (.inr d) e2, c⟩, r⟩
  | own y => obtain ⟨ob, e⟩ := x; exact ⟨ob, k _ _ (.inl rfl) e⟩
  | xd fs => obtain ⟨mA, ⟨od, es, ep, e, c⟩, r⟩ := x; exact ⟨mA, ⟨od, es, ep, k _ _ (.inl rfl) e, c⟩, r⟩
  | rng lo hi => obtain ⟨t, u, v, e⟩ := x; exact ⟨t, u, v, k _ _ (.inl rfl) e⟩
  | frz ob u ih => obtain ⟨e, q⟩ := x; exact ⟨k _ _ (.inl rfl) e, ih q⟩
  | tbl ps =>
    have e : h.get? a = some { cls := .none, data := .fields ps } := x
    show h'.get? a = some { cls := .none, data := .fields ps }
    exact k a _ (.inl rfl) e
  | met f y =>
    have e : h.get? a = some (PySem.W.methodObj (.ref f) (.ref y)) := x
    show h'.get? a = some (PySem.W.methodObj (.ref f) (.ref y))
    exact k a _ (.inl rfl) e
  | ext φ => obtain ⟨p, ⟨o, e⟩, st⟩ := x; exact ⟨st _ _ p fun o q => k _ _ (.inl rfl) q, ⟨o, k _ _ (.inl rfl) e⟩, st⟩
theorem HOk.lt (x : HOk P w H h) (e : H a = some o) : a < h.objs.size := (x a o e).lt
theorem HOk.fresh (x : HOk P w H h) (e : h.objs.size ≤ a) : H a = none := by
  cases q : H a with
  | none => rfl
  | some u => exact absurd (Nat.lt_of_lt_of_le (x.lt q) e) (Nat.lt_irrefl _)
theorem HOk.kept (x : HOk P w H h) (k : ∀ b u, h.get? b = some u → h'.get? b = some u) : HOk P w H h' := fun a o e =>
  (x a o e).stay (fun b u _ q => k b u q) (fun _ q => q) fun _ _ q => q
theorem HOk.laid (x : HOk P w H h) (k : ∀ b u, h.get? b = some u → h'.get? b = some u) (hp : h.objs.size ≤ a) (new : ObjOk P w (upd H a o) h' a o) : HOk P w (upd H a o) h' := fun b u e => by
  have hn := x.fresh hp
  by_cases hb : b = a
  · subst hb; rw [upd_same] at e; cases e; exact new
  · rw [upd_ne hb] at e
    exact (x b u e).stay (fun c v _ q => k c v q) (fun c q => by rw [upd_ne (ne_of_none q hn)]; exact q) fun c xs q => by rw [upd_ne (ne_of_none q hn)]; exact q
end
def Rd (H : Hp) (a : Addr) (u : HO) : Prop := H a = some u ∨ ∃ o, H a = some (.frz o u)
theorem Rd.of {H : Hp} {a : Addr} {u : HO} (h : H a = some u) : Rd H a u := .inl h
theorem Rd.ok {P : Program} {w : World} {H : Hp} {h : Heap} {a : Addr} {u : HO} (r : Rd H a u) (x : HOk P w H h) : ObjOk P w H h a u := by
  rcases r with r | ⟨o, r⟩
  · exact x a u r
  · obtain ⟨_, q⟩ := x a _ r
    exact q
def Mut : Option HO → Prop
  | some (.lst _) => True
  | some (.dK _) => True
  | some (.dT _) => True
  | some (.set _ _) => True
  | some (.ins _ _ _) => True
  | some (.ext _) => True
  | _ => False
section
variable {P : Program} {w : World} {H : Hp} {h h' : Heap} {x e : Addr} {o' : HO}
theorem HOk.write (ok : HOk P w H h) (mu : Mut (H x)) (he : e = x ∨ H e = some (.own x)) (k : ∀ b u, b ≠ e → h.get? b = some u → h'.get? b = some u) (heo : ∃ u, h'.get? e = some u)
    (new : ObjOk P w (upd H x o') h' x o') : HOk P w (upd H x o') h' := fun b u q => by
  have nown : ∀ c y, H c = some (.own y) → c ≠ x := fun c y r z => by subst z; rw [r] at mu; exact mu
  have ntup : ∀ c xs, H c = some (.tup xs) → c ≠ x := fun c xs r z => by subst z; rw [r] at mu; exact mu
  by_cases hb : b = x
  · subst hb; rw [upd_same] at q; cases q; exact new
  · rw [upd_ne hb] at q
    by_cases hbe : b = e
    · have q' : H b = some (.own x) := by
        rcases he with z | z
        · exact absurd (hbe.trans z) hb
        · rw [hbe]; exact z
      rw [q] at q'; cases q'
      obtain ⟨v, hv⟩ := heo
      exact ⟨v, by rw [hbe]; exact hv⟩
    · refine (ok b u q).stay (fun c v hc r => k c v ?_ r) (fun c r => by rw [upd_ne (nown c b r)]; exact r) fun c xs r => by rw [upd_ne (ntup c xs r)]; exact r
      rcases hc with rfl | hc
      · exact hbe
      · rintro rfl
        rcases he with z | z
        · exact nown c b hc z
        · rw [hc] at z; cases z; exact hb rfl
end
structure Un (fs ex : List Addr) (H H' : Hp) (h h' : Heap) : Prop where
  keep : ∀ b o, h.get? b = some o → H b = none → b ∉ fs → b ∉ ex → h'.get? b = some o
  slot : ∀ b o, h.get? b = some o → H b = none → b ∈ fs → b ∉ ex → ∃ sl, h'.get? b = some { o with slots := sl }
  free : ∀ b o, h.get? b = some o → H b = none → b ∉ ex → H' b = none
  there : ∀ b o, h.get? b = some o → b ∉ ex → ∃ o', h'.get? b = some o'
  tups : ∀ b xs, H b = some (.tup xs) → H' b = some (.tup xs)
  frzs : ∀ b o u, H b = some (.frz o u) → H' b = some (.frz o u)
  tbls : ∀ b ps, H b = some (.tbl ps) → ∃ more, H' b = some (.tbl (ps ++ more))
section
variable {fs fs' ex ex' : List Addr} {H H1 H2 : Hp} {h h1 h2 h' : Heap} {a x e : Addr} {o : HO}
theorem Un.any (u : Un fs ex H H1 h h1) {b : Addr} {ob : Obj} (q : h.get? b = some ob) (n : H b = none) (hx : b ∉ ex) : ∃ sl, h1.get? b = some { ob with slots := sl } := by
  by_cases hb : b ∈ fs
  · exact u.slot b ob q n hb hx
  · exact ⟨ob.slots, u.keep b ob q n hb hx⟩
theorem Un.trans (a : Un fs ex H H1 h h1) (b : Un fs ex H1 H2 h1 h2) : Un fs ex H H2 h h2 where
  keep := fun c ob q n hc hx => b.keep c ob (a.keep c ob q n hc hx) (a.free c ob q n hx) hc hx
  slot := fun c ob q n hc hx => by
    obtain ⟨sl, e1⟩ := a.slot c ob q n hc hx
    obtain ⟨sl', e2⟩ := b.slot c _ e1 (a.free c ob q n hx) hc hx
    exact ⟨sl', e2⟩
  free := fun c ob q n hx => by
    obtain ⟨o', e1⟩ := a.there c ob q hx
    exact b.free c o' e1 (a.free c ob q n hx) hx
  there := fun c ob q hx => by
    obtain ⟨o', e1⟩ := a.there c ob q hx
    exact b.there c o' e1 hx
  tups := fun c xs q => b.tups c xs (a.tups c xs q)
  frzs := fun c ob xs q => b.frzs c ob xs (a.frzs c ob xs q)
  tbls := fun c ps q => by
    obtain ⟨m1, e1⟩ := a.tbls c ps q
    obtain ⟨m2, e2⟩ := b.tbls c _ e1
    exact ⟨m1 ++ m2, by rw [e2, Array.append_assoc]⟩
theorem Un.kept (k : ∀ b u, h.get? b = some u → h'.get? b = some u) : Un fs ex H H h h' :=
  ⟨fun b ob q _ _ _ => k b ob q, fun b ob q _ _ _ => ⟨ob.slots, k b ob q⟩, fun _ _ _ n _ => n, fun b ob q _ => ⟨ob, k b ob q⟩, fun _ _ q => q, fun _ _ _ q => q, fun _ ps q => ⟨#[], by rw [q]; simp⟩⟩
theorem Un.refl : Un fs ex H H h h := Un.kept fun _ _ q => q
theorem Un.laid (k : ∀ b u, h.get? b = some u → h'.get? b = some u) (hp : h.objs.size ≤ a) (hn : H a = none) : Un fs ex H (upd H a o) h h' where
  keep := fun b u q _ _ _ => k b u q
  slot := fun b u q _ _ _ => ⟨u.slots, k b u q⟩
  free := fun b u q n _ => by rw [upd_ne (Nat.ne_of_lt (Nat.lt_of_lt_of_le (Heap.lt_size q) hp))]; exact n
  there := fun b u q _ => ⟨u, k b u q⟩
  tups := fun b xs q => by rw [upd_ne (ne_of_none q hn)]; exact q
  frzs := fun b u xs q => by rw [upd_ne (ne_of_none q hn)]; exact q
  tbls := fun b ps q => ⟨#[], by rw [upd_ne (ne_of_none q hn), q]; simp⟩
theorem Un.write (mu : Mut (H x)) (he : e = x ∨ H e = some (.own x)) (k : ∀ b u, b ≠ e → h.get? b = some u → h'.get? b = some u) (heo : ∃ u, h'.get? e = some u) : Un fs ex H (upd H x o) h h' := by
  have hx : ∀ b, H b = none → b ≠ x := fun b n z => by subst z; rw [n] at mu; exact mu
  have hb : ∀ b, H b = none → b ≠ e := fun b n z => by
    subst z
    rcases he with r | r
    · exact hx b n r
    · rw [n] at r; cases r
  have hm : ∀ b u, H b = some u → ¬ Mut (some u) → b ≠ x := fun b u q nm z => by subst z; rw [q] at mu; exact nm mu
  refine ⟨fun b u q n _ _ => k b u (hb b n) q, fun b u q n _ _ => ⟨u.slots, k b u (hb b n) q⟩, fun b u q n _ => by rw [upd_ne (hx b n)]; exact n, fun b u q _ => ?_,
    fun b xs q => by rw [upd_ne (hm b _ q fun z => z)]; exact q, fun b u xs q => by rw [upd_ne (hm b _ q fun z => z)]; exact q, fun b ps q => ⟨#[], by rw [upd_ne (hm b _ q fun z => z), q]; simp⟩⟩
  by_cases hbe : b = e
  · subst hbe; exact heo
  · exact ⟨u, k b u hbe q⟩
theorem Un.mono (u : Un fs ex H H1 h h1) (hs : ∀ b ∈ fs, b ∈ fs') (hx : ∀ b ∈ ex, b ∈ ex') : Un fs' ex' H H1 h h1 :=
  ⟨fun b ob q n hb he => u.keep b ob q n (fun z => hb (hs b z)) fun z => he (hx b z), fun _ _ q n _ he => u.any q n fun z => he (hx _ z), fun b ob q n he => u.free b ob q n fun z => he (hx b z), fun b ob q he => u.there b ob q fun z => he (hx b z), u.tups, u.frzs, u.tbls⟩
end
def trk (h : Heap) (H : Hp) : List Addr := (List.range h.objs.size).filter fun a => (H a).isSome
def hidT (h : Heap) (H : Hp) : Heap := PySem.W.hideAll h (trk h H)
theorem hidT_size (h : Heap) (H : Hp) : (hidT h H).objs.size = h.objs.size := PySem.W.hideAll_size _ _
theorem hidT_get {h : Heap} {H : Hp} {b : Addr} {o : Obj} (e : h.get? b = some o) (n : H b = none) : (hidT h H).get? b = some o :=
  PySem.W.hideAll_get _ e fun hm => by
    have q : (H b).isSome = true := (List.mem_filter.mp hm).2
    rw [n] at q; simp at q
theorem of_hidT {h : Heap} {H : Hp} {b : Addr} {o : Obj} (e : (hidT h H).get? b = some o) : h.get? b = some o ∧ H b = none := by
  have e' : h.get? b = some o := PySem.W.of_hideAll (trk h H) e
  refine ⟨e', ?_⟩
  cases q : H b with
  | none => rfl
  | some x =>
    have hm : b ∈ trk h H := List.mem_filter.mpr ⟨List.mem_range.mpr (Heap.lt_size e'), by simp [q]⟩
    have z : (hidT h H).get? b = none := PySem.W.hideAll_none (trk h H) hm
    rw [z] at e; cases e
def allNews (g h : Heap) (L : Addr) : List (Addr × Obj) := (List.range h.objs.size).filterMap fun a => if a = L ∨ (g.get? a).isSome = true then none else (h.get? a).map fun o => (a, o)
def rest (g h : Heap) (L d : Addr) : List (Addr × Obj) := (allNews g h L).filter fun p => decide (p.1 ≠ d)
end L2
namespace L2
open PySem PySem.Spec PyProof.Rows
structure Mod (K : PySem.W.Frag) (mg : Str → Option Value) (base : Heap) : Prop where
  kin : K.In base
  glob : base.Ns mainGlobals mg
  blt : ∃ mb, base.Ns builtinsNs mb ∧ ∀ x : Str, x ≠ "__name__" → mb x = bootBuiltins x
  nolimit : base.NoLimit
structure Cx where
  prog : Program
  w : World
  K : PySem.W.Frag
  mg : Str → Option Value
  base : Heap
  A : Around
  N : List Str
  s₀ : Shared
  H₀ : Hp
  env : Env
  outer : List Env
  stack : List Env
  ex : List Addr
  fn : Str → Bool
  calm : Bool
  pn : List (Addr × Obj)
  xe : Value → Shared → Prop
def frs (l : List Env) : List Addr := l.filterMap (·.frame)
abbrev Cx.fs (X : Cx) : List Addr := frs X.outer
def Vis (sc : Scope) (x : Str) : Prop := sc.names.lookup x = some .local ∨ sc.names.lookup x = some .cell ∨ sc.names.lookup x = some .free
def Loc (sc : Scope) (x : Str) : Prop := sc.names.lookup x = some .local ∨ sc.names.lookup x = some .cell
def Look (env : Env) (h : Heap) (m : Str → Option Value) (x : Str) (u : Value) : Prop :=
  (env.kindOf x = some .local ∧ m x = some u) ∨ ((env.kindOf x = some .cell ∨ env.kindOf x = some .free) ∧ ∃ c, env.cells.lookup x = some c ∧ h.IsCell c (some u))
structure Cx.Ok (X : Cx) : Prop where
  mod : Mod X.K X.mg X.base
  kind : X.env.scope.kind = .function
  glob : X.env.globals = mainGlobals
  blt : X.env.builtins = builtinsNs
  above : X.s₀.heap.objs.size ≤ X.env.locals
  inj : ∀ x y c, X.env.cells.lookup x = some c → X.env.cells.lookup y = some c → x = y
  has : ∀ x, (X.env.kindOf x = some .cell ∨ X.env.kindOf x = some .free) → ∃ c, X.env.cells.lookup x = some c
  cab : ∀ x c, X.fn x = true → X.env.cells.lookup x = some c → X.s₀.heap.objs.size ≤ c
  hd : X.calm = true → X.A.handled = none
  frames : X.A.frames = some X.stack
  stk : X.stack = X.outer ∨ (X.stack = X.env :: X.outer ∧ X.env.frame = some X.env.locals)
  exf : ∀ b ∈ X.ex, b ≠ X.env.locals ∧ ∀ x c, X.env.cells.lookup x = some c → c ≠ b
  bs : ∀ b o, X.base.get? b = some o → X.s₀.heap.get? b = some o ∧ X.H₀ b = none
  bsz : X.base.objs.size ≤ X.s₀.heap.objs.size
  noex : ∀ b o, X.base.get? b = some o → b ∉ X.ex
  exfs : ∀ b ∈ X.ex, b ∉ X.fs
  funs : X.s₀.heap.FunFrames X.base X.outer
  frf : ∀ b ∈ X.fs, X.H₀ b = none
structure Inv (X : Cx) (pins : List (Addr × Obj)) (σ : List (Option V)) (H : Hp) (s : Shared) : Prop where
  ok : X.Ok
  os : s.os = X.s₀.os
  bare : AllBare s.gens
  base : Un X.fs X.ex X.H₀ H X.s₀.heap s.heap
  loc : ∃ m, s.heap.Ns X.env.locals m ∧ ∀ (i : Nat) (x : Str) (v : V), X.N[i]? = some x → σ[i]? = some (some v) → Vis X.env.scope x → ∃ u, RelV v u ∧ Look X.env s.heap m x u
  cell : ∀ x c, X.env.cells.lookup x = some c → ∃ v, s.heap.IsCell c v
  free : H X.env.locals = none
  freeC : ∀ x c, X.env.cells.lookup x = some c → H c = none
  pin : ∀ p ∈ X.pn ++ pins, s.heap.get? p.1 = some p.2 ∧ H p.1 = none ∧ p.1 ≠ X.env.locals ∧ p.1 ∉ X.fs ∧ ∀ v, p.2.data ≠ .cell v
  hok : HOk X.prog X.w H s.heap
  len : σ.length = X.N.length
section
variable {X : Cx} {pins : List (Addr × Obj)} {σ : List (Option V)} {H H' : Hp} {s : Shared} {h' : Heap}
theorem Cx.Ok.nofr (ok : X.Ok) {b : Addr} {o : Obj} (e : X.base.get? b = some o) : b ∉ X.fs := fun hb => by
  have := (ok.funs.mem hb).1
  rw [e] at this; cases this
theorem Inv.bs (I : Inv X pins σ H s) : ∀ b o, X.base.get? b = some o → s.heap.get? b = some o ∧ H b = none := fun b o e =>
  ⟨I.base.keep b o (I.ok.bs b o e).1 (I.ok.bs b o e).2 (I.ok.nofr e) (I.ok.noex b o e), I.base.free b o (I.ok.bs b o e).1 (I.ok.bs b o e).2 (I.ok.noex b o e)⟩
theorem Inv.bk (I : Inv X pins σ H s) : ∀ b o, X.base.get? b = some o → s.heap.get? b = some o := fun b o e => (I.bs b o e).1
theorem Inv.mod (I : Inv X pins σ H s) : Mod X.K X.mg X.base := I.ok.mod
theorem Inv.kIn (I : Inv X pins σ H s) : X.K.In s.heap := I.ok.mod.kin.keeps I.bk
theorem Inv.nolimit (I : Inv X pins σ H s) : s.heap.NoLimit := I.ok.mod.nolimit.keeps I.bk
theorem Inv.fr (I : Inv X pins σ H s) : ∃ m, Fr X.base X.env.locals s.heap m :=
  let ⟨m, hn, _⟩ := I.loc
  ⟨m, hn, I.bk, Nat.le_trans I.ok.bsz I.ok.above⟩
theorem Inv.lt (I : Inv X pins σ H s) : X.env.locals < s.heap.objs.size := let ⟨_, hn, _⟩ := I.loc; hn.lt
theorem Inv.sz (I : Inv X pins σ H s) : X.s₀.heap.objs.size ≤ s.heap.objs.size := Nat.le_trans I.ok.above (Nat.le_of_lt I.lt)
theorem Inv.nofs (I : Inv X pins σ H s) {a : Addr} (h : s.heap.objs.size ≤ a) : a ∉ X.fs := fun hb => by
  obtain ⟨_, o, ho, _⟩ := I.ok.funs.mem hb
  exact absurd (Nat.lt_of_lt_of_le (Heap.lt_size ho) (Nat.le_trans I.sz h)) (Nat.lt_irrefl _)
theorem Inv.cne (I : Inv X pins σ H s) : ∀ x c, X.env.cells.lookup x = some c → c ≠ X.env.locals := fun x c e z => by
  obtain ⟨v, o, ho, hd⟩ := I.cell x c e
  obtain ⟨m, ⟨o', es, ep, ho', hd', _⟩, _⟩ := I.loc
  rw [z, ho'] at ho; cases ho; rw [hd'] at hd; cases hd
theorem Inv.funs (I : Inv X pins σ H s) : s.heap.FunFrames X.base X.outer := by
  have all : ∀ (l : List Env), (∀ b ∈ frs l, b ∈ X.fs) → X.s₀.heap.FunFrames X.base l → s.heap.FunFrames X.base l := by
    intro l
    induction l with
    | nil => intro _ _; trivial
    | cons env r ih =>
      intro hs hl
      obtain ⟨hk, ⟨L, o, hf, hn, ho, hd⟩, hr⟩ := hl
      have hL : L ∈ X.fs := hs L (by unfold frs; rw [List.filterMap_cons, hf]; exact List.mem_cons_self)
      obtain ⟨sl, e⟩ := I.base.slot L o ho (I.ok.frf L hL) hL fun z => I.ok.exfs L z hL
      exact ⟨hk, ⟨L, _, hf, hn, e, hd⟩, ih (fun b hb => hs b (by unfold frs; rw [List.filterMap_cons, hf]; exact List.mem_cons_of_mem _ hb)) hr⟩
  exact all X.outer (fun _ hb => hb) I.ok.funs
theorem Inv.stack (I : Inv X pins σ H s) : s.heap.FunFrames X.base X.stack := by
  rcases I.ok.stk with e | ⟨e, hf⟩
  · rw [e]; exact I.funs
  · rw [e]
    obtain ⟨m, hn, _⟩ := I.loc
    refine .cons (by rw [I.ok.kind]; decide) hf hn ?_ I.funs
    exact Heap.get?_none_of_le (Nat.le_trans I.ok.bsz I.ok.above)
theorem Inv.stkSub (I : Inv X pins σ H s) : ∀ b ∈ frs X.stack, b ∈ X.env.locals :: X.fs := fun b hb => by
  rcases I.ok.stk with e | ⟨e, hf⟩
  · rw [e] at hb; exact List.mem_cons_of_mem _ hb
  · rw [e] at hb
    unfold frs at hb
    rw [List.filterMap_cons, hf] at hb
    exact hb
theorem Inv.stkFree (I : Inv X pins σ H s) : ∀ b ∈ frs X.stack, H b = none := fun b hb => by
  rcases List.mem_cons.mp (I.stkSub b hb) with e | hb
  · rw [e]; exact I.free
  · obtain ⟨_, o, ho, _⟩ := I.ok.funs.mem hb
    exact I.base.free b o ho (I.ok.frf b hb) fun z => I.ok.exfs b z hb
theorem Inv.step {g' : Array GenState} {t' : Nat} {d' : Drawn} {ch : List Addr} (I : Inv X pins σ H s)
    (hch : ∀ b ∈ ch, (b ∈ X.ex ∨ X.s₀.heap.objs.size ≤ b) ∧ b ≠ X.env.locals ∧ (∀ x c, X.env.cells.lookup x = some c → c ≠ b) ∧ ∀ p ∈ X.pn ++ pins, p.1 ≠ b)
    (keep : ∀ b o, b ≠ X.env.locals → b ∉ X.fs → b ∉ ch → s.heap.get? b = some o → H b = none → h'.get? b = some o)
    (slot : ∀ b o, b ≠ X.env.locals → b ∈ X.fs → b ∉ ch → s.heap.get? b = some o → H b = none → ∃ sl, h'.get? b = some { o with slots := sl }) (free : ∀ b o, b ∉ ch → s.heap.get? b = some o → H b = none → H' b = none)
    (there : ∀ b o, b ∉ ch → s.heap.get? b = some o → ∃ o', h'.get? b = some o')
    (tups : ∀ b xs, H b = some (.tup xs) → H' b = some (.tup xs)) (frzs : ∀ b o u, H b = some (.frz o u) → H' b = some (.frz o u)) (tbls : ∀ b ps, H b = some (.tbl ps) → ∃ more, H' b = some (.tbl (ps ++ more)))
    (ns : ∀ m, s.heap.Ns X.env.locals m → h'.Ns X.env.locals m) (hok : HOk X.prog X.w H' h') (hg : AllBare g') :
    Inv X pins σ H' { s with heap := h', gens := g', drawn := d', toks := t' } := by
  have neL : ∀ b o, X.s₀.heap.get? b = some o → b ≠ X.env.locals := fun b o e => Nat.ne_of_lt (Nat.lt_of_lt_of_le (Heap.lt_size e) I.ok.above)
  have neC : ∀ b o, X.s₀.heap.get? b = some o → b ∉ X.ex → b ∉ ch := fun b o e hx hb => by
    rcases (hch b hb).1 with z | z
    · exact hx z
    · exact absurd (Nat.lt_of_lt_of_le (Heap.lt_size e) z) (Nat.lt_irrefl _)
  have cellK : ∀ x c, X.env.cells.lookup x = some c → ∀ v, s.heap.IsCell c v → h'.IsCell c v := fun x c e v ⟨o, ho, hd⟩ => by
    have nch : c ∉ ch := fun z => (hch c z).2.2.1 x c e rfl
    by_cases hc : c ∈ X.fs
    · obtain ⟨sl, q⟩ := slot c o (I.cne x c e) hc nch ho (I.freeC x c e)
      exact ⟨_, q, hd⟩
    · exact ⟨o, keep c o (I.cne x c e) hc nch ho (I.freeC x c e), hd⟩
  refine ⟨I.ok, I.os, hg, ⟨fun b o e n hb hx => ?_, fun b o e n hb hx => ?_, fun b o e n hx => ?_, fun b o e hx => ?_, fun b xs e => tups b xs (I.base.tups b xs e), fun b o xs e => frzs b o xs (I.base.frzs b o xs e), fun b ps e => ?_⟩, ?_, fun x c e => ?_, ?_, fun x c e => ?_, fun p hp => ?_, hok, I.len⟩
  · exact keep b o (neL b o e) hb (neC b o e hx) (I.base.keep b o e n hb hx) (I.base.free b o e n hx)
  · obtain ⟨sl, e1⟩ := I.base.slot b o e n hb hx
    obtain ⟨sl', e2⟩ := slot b _ (neL b o e) hb (neC b o e hx) e1 (I.base.free b o e n hx)
    exact ⟨sl', e2⟩
  · obtain ⟨o', e1⟩ := I.base.there b o e hx
    exact free b o' (neC b o e hx) e1 (I.base.free b o e n hx)
  · obtain ⟨o', e1⟩ := I.base.there b o e hx
    exact there b o' (neC b o e hx) e1
  · obtain ⟨m1, e1⟩ := I.base.tbls b ps e
    obtain ⟨m2, e2⟩ := tbls b _ e1
    exact ⟨m1 ++ m2, by rw [e2, Array.append_assoc]⟩
  · obtain ⟨m, hn, hl⟩ := I.loc
    refine ⟨m, ns m hn, fun i x v e1 e2 e3 => ?_⟩
    obtain ⟨u, r, l⟩ := hl i x v e1 e2 e3
    refine ⟨u, r, ?_⟩
    rcases l with l | ⟨k, c, e, z⟩
    · exact .inl l
    · exact .inr ⟨k, c, e, cellK x c e _ z⟩
  · obtain ⟨v, z⟩ := I.cell x c e
    exact ⟨v, cellK x c e v z⟩
  · obtain ⟨m, ⟨o, _, _, ho, _⟩, _⟩ := I.loc
    exact free _ o (fun z => (hch _ z).2.1 rfl) ho I.free
  · obtain ⟨v, o, ho, hd⟩ := I.cell x c e
    exact free c o (fun z => (hch c z).2.2.1 x c e rfl) ho (I.freeC x c e)
  · obtain ⟨e, n, ne, nf, d⟩ := I.pin p hp
    have nch : p.1 ∉ ch := fun z => (hch p.1 z).2.2.2 p hp rfl
    exact ⟨keep p.1 p.2 ne nf nch e n, free p.1 p.2 nch e n, ne, nf, d⟩
theorem Inv.un {t' : Nat} (I : Inv X pins σ H s) (u : Un X.fs [] H H' s.heap h') (hok : HOk X.prog X.w H' h') : Inv X pins σ H' { s with heap := h', toks := t' } := by
  obtain ⟨m, ⟨o, es, ep, ho, r⟩, _⟩ := id I.loc
  obtain ⟨sl, hL⟩ := u.any ho I.free (by simp)
  exact I.step (g' := s.gens) (d' := s.drawn) (ch := []) (fun _ z => nomatch z) (fun b o _ hb _ e n => u.keep b o e n hb (by simp)) (fun b o _ hb _ e n => u.slot b o e n hb (by simp)) (fun b o _ e n => u.free b o e n (by simp)) (fun b o _ e => u.there b o e (by simp)) u.tups u.frzs u.tbls (fun m' hm => by
    obtain ⟨o', es', ep', ho', r'⟩ := hm
    rw [ho] at ho'; cases ho'
    exact ⟨_, es', ep', hL, r'⟩) hok I.bare
theorem Inv.call {g' : Array GenState} {t' : Nat} {d' : Drawn} {ch : List Addr} (I : Inv X pins σ H s) (u : Un (frs X.stack) ch H H' s.heap h') (hok : HOk X.prog X.w H' h') (hg : AllBare g')
    (hch : ∀ b ∈ ch, (b ∈ X.ex ∨ X.s₀.heap.objs.size ≤ b) ∧ b ≠ X.env.locals ∧ (∀ x c, X.env.cells.lookup x = some c → c ≠ b) ∧ ∀ p ∈ X.pn ++ pins, p.1 ≠ b) :
    Inv X pins σ H' { s with heap := h', gens := g', drawn := d', toks := t' } := by
  obtain ⟨m, ⟨o, es, ep, ho, r⟩, _⟩ := id I.loc
  obtain ⟨sl, hL⟩ := u.any ho I.free fun z => (hch _ z).2.1 rfl
  exact I.step (ch := ch) hch (fun b o hL hb hc e n => u.keep b o e n (fun z => (List.mem_cons.mp (I.stkSub b z)).elim hL hb) hc) (fun b o _ _ hc e n => u.any e n hc) (fun b o hc e n => u.free b o e n hc) (fun b o hc e => u.there b o e hc) u.tups u.frzs u.tbls (fun m' hm => by
    obtain ⟨o', es', ep', ho', r'⟩ := hm
    rw [ho] at ho'; cases ho'
    exact ⟨_, es', ep', hL, r'⟩) hok hg
theorem Inv.turned {t' : Nat} {it : Addr} (I : Inv X pins σ H s) (k : ∀ b o, b ≠ it → s.heap.get? b = some o → h'.get? b = some o) (hn : H it = none) (hL : it ≠ X.env.locals)
    (h1 : it ∈ X.ex ∨ X.s₀.heap.objs.size ≤ it) (h2 : ∀ x c, X.env.cells.lookup x = some c → c ≠ it) (h3 : ∀ p ∈ X.pn ++ pins, p.1 ≠ it) : Inv X pins σ H { s with heap := h', toks := t' } := by
  have nit : ∀ b u, H b = some u → b ≠ it := fun b u e z => by rw [z, hn] at e; cases e
  refine I.step (g' := s.gens) (d' := s.drawn) (ch := [it]) (fun b hb => ?_) (fun b o _ _ hc e _ => k b o (fun z => hc (by simp [z])) e) (fun b o _ _ hc e _ => ⟨o.slots, k b o (fun z => hc (by simp [z])) e⟩) (fun _ _ _ _ n => n)
    (fun b o hc e => ⟨o, k b o (fun z => hc (by simp [z])) e⟩) (fun _ _ e => e) (fun _ _ _ e => e) (fun b ps e => ⟨#[], by rw [e]; simp⟩) (fun m hm => ?_) (fun b u e => ?_) I.bare
  · have e : b = it := by simpa using hb
    subst e
    exact ⟨h1, hL, h2, h3⟩
  · obtain ⟨o, es, ep, ho, r⟩ := hm
    exact ⟨o, es, ep, k _ o (Ne.symm hL) ho, r⟩
  · refine (I.hok b u e).stay (fun c v hc q => k c v ?_ q) (fun _ q => q) fun _ _ q => q
    rcases hc with z | z
    · rw [z]; exact nit b u e
    · exact nit c _ z
theorem Inv.tok (I : Inv X pins σ H s) (t : Nat) : Inv X pins σ H { s with toks := t } := I.un (h' := s.heap) (t' := t) Un.refl I.hok
theorem Inv.kept {t' : Nat} (I : Inv X pins σ H s) (k : ∀ b u, s.heap.get? b = some u → h'.get? b = some u) : Inv X pins σ H { s with heap := h', toks := t' } := I.un (Un.kept k) (I.hok.kept k)
theorem Inv.laid {a : Addr} {o : HO} {t' : Nat} (I : Inv X pins σ H s) (k : ∀ b u, s.heap.get? b = some u → h'.get? b = some u) (hp : s.heap.objs.size ≤ a) (new : ObjOk X.prog X.w (upd H a o) h' a o) :
    Inv X pins σ (upd H a o) { s with heap := h', toks := t' } := I.un (Un.laid k hp (I.hok.fresh hp)) (I.hok.laid k hp new)
theorem Inv.write {x e : Addr} {o : HO} {t' : Nat} (I : Inv X pins σ H s) (mu : Mut (H x)) (he : e = x ∨ H e = some (.own x)) (k : ∀ b u, b ≠ e → s.heap.get? b = some u → h'.get? b = some u) (heo : ∃ u, h'.get? e = some u)
    (new : ObjOk X.prog X.w (upd H x o) h' x o) : Inv X pins σ (upd H x o) { s with heap := h', toks := t' } := I.un (Un.write mu he k heo) (I.hok.write mu he k heo new)
theorem Inv.pins_of {pins' : List (Addr × Obj)} (I : Inv X pins σ H s) (h : ∀ p ∈ pins', s.heap.get? p.1 = some p.2 ∧ H p.1 = none ∧ p.1 ≠ X.env.locals ∧ p.1 ∉ X.fs ∧ ∀ v, p.2.data ≠ .cell v) : Inv X pins' σ H s :=
  ⟨I.ok, I.os, I.bare, I.base, I.loc, I.cell, I.free, I.freeC, fun p hp => (List.mem_append.mp hp).elim (fun z => I.pin p (List.mem_append_left _ z)) (h p), I.hok, I.len⟩
theorem nodup_ix {N : List Str} (hN : N.Nodup) {i j : Nat} {x : Str} (a : N[i]? = some x) (b : N[j]? = some x) : i = j := by
  obtain ⟨h1, e1⟩ := List.getElem?_eq_some_iff.mp a
  obtain ⟨h2, e2⟩ := List.getElem?_eq_some_iff.mp b
  exact (List.getElem_inj hN).mp (e1.trans e2.symm)
theorem store_ok2 {M : Model} {A : Around} {E : Value → Shared → Prop} {i : Nat} {x : Str} {v : V} {u : Value} {Q : Unit → Shared → Prop} (I : Inv X pins σ H s) (hN : X.N.Nodup) (hi : X.N[i]? = some x) (hx : Loc X.env.scope x) (r : RelV v u)
    (h : ∀ s', Inv X pins (σ.set i (some v)) H s' → (∃ a, Heap.SameBut a s.heap s'.heap ∧ (a = X.env.locals ∨ X.env.cells.lookup x = some a)) → Q () s') (hf : X.fn x = true ∨ X.env.scope.names.lookup x = some .local := by first | exact .inl rfl | exact .inr rfl | assumption) : wpAny M A (storeName X.env x u) Q E s := by
  obtain ⟨m, hn, hl⟩ := id I.loc
  have hcls : (X.env.scope.kind == .class || (X.env.scope.kind == .module && X.env.locals != X.env.globals)) = false := by rw [I.ok.kind]; rfl
  have hiσ : i < σ.length := by rw [I.len]; exact (List.getElem?_eq_some_iff.mp hi).1
  have cne := I.cne
  have tracked : ∀ {a : Addr} {h' : Heap}, (∃ o, s.heap.get? a = some o ∧ H a = none) → Heap.SameBut a s.heap h' → HOk X.prog X.w H h' := fun {a h'} ha hs b ob e => by
    obtain ⟨_, _, hfree⟩ := ha
    refine (I.hok b ob e).stay (fun c w' hc q => (hs.2 c ?_).trans q) (fun _ q => q) fun _ _ q => q
    rintro rfl
    rcases hc with rfl | hc
    · rw [hfree] at e; cases e
    · rw [hfree] at hc; cases hc
  rcases hx with hk | hk
  · refine wpAny_storeName_local hk hn (fun h' hn' hs => ?_) hcls
    obtain ⟨oL, _, _, hoL, _⟩ := id hn
    refine h _ ⟨I.ok, I.os, I.bare, ⟨fun b o e n hb hx => ?_, fun b o e n hb hx => ?_, I.base.free, fun b o e hx => ?_, I.base.tups, I.base.frzs, I.base.tbls⟩, ⟨_, hn', fun j y v' e1 e2 e3 => ?_⟩, fun y c e => ?_, I.free, I.freeC, fun p hp => ?_, tracked ⟨oL, hoL, I.free⟩ hs, by simpa using I.len⟩ ⟨_, hs, .inl rfl⟩
    · exact (hs.2 b (Nat.ne_of_lt (Nat.lt_of_lt_of_le (Heap.lt_size e) I.ok.above))).trans (I.base.keep b o e n hb hx)
    · obtain ⟨sl, e1⟩ := I.base.slot b o e n hb hx
      exact ⟨sl, (hs.2 b (Nat.ne_of_lt (Nat.lt_of_lt_of_le (Heap.lt_size e) I.ok.above))).trans e1⟩
    · obtain ⟨o', e1⟩ := I.base.there b o e hx
      exact ⟨o', (hs.2 b (Nat.ne_of_lt (Nat.lt_of_lt_of_le (Heap.lt_size e) I.ok.above))).trans e1⟩
    · by_cases hj : j = i
      · subst hj
        rw [hi] at e1; cases e1
        rw [List.getElem?_set_self hiσ] at e2
        cases e2
        exact ⟨u, r, .inl ⟨hk, by simp⟩⟩
      · rw [List.getElem?_set_ne (Ne.symm hj)] at e2
        obtain ⟨u', r', q⟩ := hl j y v' e1 e2 e3
        refine ⟨u', r', ?_⟩
        rcases q with ⟨k, e⟩ | ⟨k, c, e, z⟩
        · refine .inl ⟨k, ?_⟩
          have : y ≠ x := fun e => hj (nodup_ix hN e1 (e ▸ hi))
          simp [this, e]
        · exact .inr ⟨k, c, e, z.sameBut hs (cne y c e)⟩
    · obtain ⟨w', z⟩ := I.cell y c e
      exact ⟨w', z.sameBut hs (cne y c e)⟩
    · obtain ⟨e, n, ne, nf, d⟩ := I.pin p hp
      exact ⟨(hs.2 p.1 ne).trans e, n, ne, nf, d⟩
  · have hfn : X.fn x = true := by
      rcases hf with z | z
      · exact z
      · rw [z] at hk; cases hk
    obtain ⟨c, hc⟩ := I.ok.has x (.inl hk)
    obtain ⟨w', z⟩ := I.cell x c hc
    refine wpAny_storeName_cell I.ok.kind hk hc z (fun h' hc' hs => ?_)
    obtain ⟨oc, hoc, hocd⟩ := id z
    refine h { s with heap := h' } ⟨I.ok, I.os, I.bare, ⟨fun b o e n hb hx => ?_, fun b o e n hb hx => ?_, I.base.free, fun b o e hx => ?_, I.base.tups, I.base.frzs, I.base.tbls⟩, ⟨m, hn.sameBut hs (Ne.symm (cne x c hc)), fun j y v' e1 e2 e3 => ?_⟩, fun y c' e => ?_, I.free, I.freeC, fun p hp => ?_, tracked ⟨oc, hoc, I.freeC x c hc⟩ hs, by simpa using I.len⟩ ⟨c, hs, .inr hc⟩
    · exact (hs.2 b (Nat.ne_of_lt (Nat.lt_of_lt_of_le (Heap.lt_size e) (I.ok.cab x c hfn hc)))).trans (I.base.keep b o e n hb hx)
    · obtain ⟨sl, e1⟩ := I.base.slot b o e n hb hx
      exact ⟨sl, (hs.2 b (Nat.ne_of_lt (Nat.lt_of_lt_of_le (Heap.lt_size e) (I.ok.cab x c hfn hc)))).trans e1⟩
    · obtain ⟨o', e1⟩ := I.base.there b o e hx
      exact ⟨o', (hs.2 b (Nat.ne_of_lt (Nat.lt_of_lt_of_le (Heap.lt_size e) (I.ok.cab x c hfn hc)))).trans e1⟩
    · by_cases hj : j = i
      · subst hj
        rw [hi] at e1; cases e1
        rw [List.getElem?_set_self hiσ] at e2
        cases e2
        exact ⟨u, r, .inr ⟨.inl hk, c, hc, hc'⟩⟩
      · rw [List.getElem?_set_ne (Ne.symm hj)] at e2
        obtain ⟨u', r', q⟩ := hl j y v' e1 e2 e3
        refine ⟨u', r', ?_⟩
        rcases q with q | ⟨k, c', e, z'⟩
        · exact .inl q
        · refine .inr ⟨k, c', e, z'.sameBut hs ?_⟩
          rintro rfl
          exact hj (nodup_ix hN e1 (I.ok.inj _ _ _ e hc ▸ hi))
    · by_cases hcc : c' = c
      · subst hcc; exact ⟨_, hc'⟩
      · obtain ⟨w2, z2⟩ := I.cell y c' e
        exact ⟨w2, z2.sameBut hs hcc⟩
    · obtain ⟨e, n, ne, nf, d⟩ := I.pin p hp
      refine ⟨(hs.2 p.1 ?_).trans e, n, ne, nf, d⟩
      intro q
      rw [q, hoc] at e
      have q' : oc = p.2 := Option.some.inj e
      exact d w' (by rw [← q']; exact hocd)
theorem store_ok {M : Model} {A : Around} {E : Value → Shared → Prop} {i : Nat} {x : Str} {v : V} {u : Value} {Q : Unit → Shared → Prop} (I : Inv X pins σ H s) (hN : X.N.Nodup) (hi : X.N[i]? = some x) (hx : Loc X.env.scope x) (r : RelV v u)
    (h : ∀ s', Inv X pins (σ.set i (some v)) H s' → Q () s') (hf : X.fn x = true ∨ X.env.scope.names.lookup x = some .local := by first | exact .inl rfl | exact .inr rfl | assumption) : wpAny M A (storeName X.env x u) Q E s :=
  store_ok2 I hN hi hx r (fun s' I' _ => h s' I') hf
theorem Inv.call' {s' : Shared} {ch : List Addr} (I : Inv X pins σ H s) (ho : s'.os = s.os) (u : Un (frs X.stack) ch H H' s.heap s'.heap) (hok : HOk X.prog X.w H' s'.heap) (hg : AllBare s'.gens)
    (hch : ∀ b ∈ ch, (b ∈ X.ex ∨ X.s₀.heap.objs.size ≤ b) ∧ b ≠ X.env.locals ∧ (∀ x c, X.env.cells.lookup x = some c → c ≠ b) ∧ ∀ p ∈ X.pn ++ pins, p.1 ≠ b) : Inv X pins σ H' s' := by
  obtain ⟨h', g', d', t', o'⟩ := s'
  have e : o' = s.os := ho
  subst e
  exact I.call (g' := g') (t' := t') (d' := d') u hok hg hch
end
abbrev XK := Value → Option Addr → Hp → Prop
abbrev St := List (Option V)
abbrev VK := V → Hp → Prop
abbrev TE := St → Hp → VK → Prop
abbrev TT := St → Hp → (Bool → Hp → Prop) → Prop
abbrev TA := St → Hp → (List V → Hp → Prop) → Prop
structure Ends where
  nx : St → Hp → Prop
  rt : VK
  bk : St → Hp → Prop := fun _ _ => False
  ct : St → Hp → Prop := fun _ _ => False
abbrev TS := Ends → St → Hp → Prop
def EP (X : Cx) (pins : List (Addr × Obj)) (σ : St) (Q : VK) (u : Value) (s' : Shared) : Prop := ∃ v H', Inv X pins σ H' s' ∧ RelV v u ∧ Q v H'
def TP (X : Cx) (pins : List (Addr × Obj)) (σ : St) (Q : Bool → Hp → Prop) (b : Bool) (s' : Shared) : Prop := ∃ H', Inv X pins σ H' s' ∧ Q b H'
def AP (X : Cx) (pins : List (Addr × Obj)) (σ : St) (Q : List V → Hp → Prop) (us : List Value) (s' : Shared) : Prop := ∃ vs H', Inv X pins σ H' s' ∧ Vals vs us ∧ Q vs H'
def SP (X : Cx) (pins : List (Addr × Obj)) (D : Ends) (f : Flow) (s' : Shared) : Prop :=
  match f with
  | .next => ∃ σ' H', Inv X pins σ' H' s' ∧ D.nx σ' H'
  | .brk => ∃ σ' H', Inv X pins σ' H' s' ∧ D.bk σ' H'
  | .cont => ∃ σ' H', Inv X pins σ' H' s' ∧ D.ct σ' H'
  | .ret u => ∃ v σ' H', Inv X pins σ' H' s' ∧ RelV v u ∧ D.rt v H'
def PE (X : Cx) (e : Expr) (t : TE) : Prop :=
  ∀ (pins : List (Addr × Obj)) (s : Shared) (σ : St) (H : Hp) (Q : VK), Inv X pins σ H s → t σ H Q → wpAny (model X.prog X.w) X.A (eval e X.env) (EP X pins σ Q) X.xe s
def PT (X : Cx) (e : Expr) (t : TT) : Prop :=
  ∀ (pins : List (Addr × Obj)) (s : Shared) (σ : St) (H : Hp) (Q : Bool → Hp → Prop), Inv X pins σ H s → t σ H Q → wpAny (model X.prog X.w) X.A (isTrue e X.env (eval e X.env)) (TP X pins σ Q) X.xe s
def PW (X : Cx) (e : Expr) (t : TT) : Prop :=
  ∀ (whole : Sem Value) (pins : List (Addr × Obj)) (s : Shared) (σ : St) (H : Hp) (Q : Bool → Hp → Prop), Inv X pins σ H s → t σ H Q → wpAny (model X.prog X.w) X.A (isTrue e X.env whole) (TP X pins σ Q) X.xe s
theorem PW.pt {X : Cx} {e : Expr} {t : TT} (h : PW X e t) : PT X e t := h _
def PA (X : Cx) (es : List Expr) (t : TA) : Prop :=
  ∀ (pos : Pos) (pins : List (Addr × Obj)) (s : Shared) (σ : St) (H : Hp) (Q : List V → Hp → Prop), Inv X pins σ H s → t σ H Q → wpAny (model X.prog X.w) X.A (spliced (backTo pos (starEach es X.env))) (AP X pins σ Q) X.xe s
def PS (X : Cx) (st : Stmt) (t : TS) : Prop :=
  ∀ (pins : List (Addr × Obj)) (s : Shared) (σ : St) (H : Hp) (D : Ends), Inv X pins σ H s → t D σ H → wpAny (model X.prog X.w) X.A (exec st X.env) (SP X pins D) X.xe s
def PSs (X : Cx) (st : List Stmt) (t : TS) : Prop :=
  ∀ (pins : List (Addr × Obj)) (s : Shared) (σ : St) (H : Hp) (D : Ends), Inv X pins σ H s → t D σ H → wpAny (model X.prog X.w) X.A (execs st X.env) (SP X pins D) X.xe s
theorem thn {α : Type} {t : Sem α} {Q Q' : α → Shared → Prop} {M : Model} {A : Around} {E : Value → Shared → Prop} {s : Shared} (h : wpAny M A t Q E s) (hQ : ∀ a s, Q a s → Q' a s) : wpAny M A t Q' E s := wpAny_mono h hQ fun _ _ x => x
end L2
namespace L2
open PySem PySem.Spec PyProof.Rows
section
variable {X : Cx}
def tVar (i : Nat) : TE := fun σ H Q => ∃ v, σ[i]? = some (some v) ∧ Q v H
def tC (v : V) : TE := fun _ H Q => Q v H
theorem pe_var {i : Nat} {x : Str} {pos : Pos} (hN : X.N[i]? = some x) (hv : Vis X.env.scope x) (hd : (x == ("__debug__" : Str)) = false := by decide) (hcd : (x == ("__classdict__" : Str)) = false := by decide) : PE X (.Name x pos) (tVar i) := by
  intro pins s σ H Q I h
  obtain ⟨v, e, h⟩ := h
  obtain ⟨m, hn, hl⟩ := I.loc
  obtain ⟨u, r, l⟩ := hl i x v hN e hv
  have fin : EP X pins σ Q u s := ⟨v, H, I, r, h⟩
  rcases l with ⟨hk, hm⟩ | ⟨hk, c, hc, hcell⟩
  · exact wpAny_Name (wpAny_loadName_local I.ok.kind hk hn hm fin) hd
  · rcases hk with hk | hk
    · exact wpAny_Name (wpAny_loadName_cell I.ok.kind hk hc hcell fin) hd
    · exact wpAny_Name (wpAny_loadName_free I.ok.kind hk hc hcell fin hcd) hd
theorem pe_int {i j pos} : PE X (.Constant (.int i) j pos) (tC (.int i)) := fun _ _ _ H _ I h => wpAny_Constant_int ⟨.int i, H, I.tok _, ⟨_, rfl⟩, h⟩
theorem pe_bl {b j pos} : PE X (.Constant (.bool b) j pos) (tC (.bl b)) := fun _ _ _ H _ I h => Constant_bool ⟨.bl b, H, I, rfl, h⟩
theorem pe_non {j pos} : PE X (.Constant .none j pos) (tC .non) := fun _ _ _ H _ I h => Constant_none ⟨.non, H, I, rfl, h⟩
theorem pe_str {x j pos} : PE X (.Constant (.str x) j pos) (tC (.str x)) := fun _ _ _ H _ I h => Calls.Constant_str ⟨.str x, H, I.tok _, ⟨_, rfl⟩, h⟩
def Gl (X : Cx) (x : Str) : Prop := X.env.kindOf x = some .globalImplicit
theorem ld_glob {E : Value → Shared → Prop} {pins : List (Addr × Obj)} {s : Shared} {σ : St} {H : Hp} {x : Str} {u : Value} {pos : Pos} {Q : Value → Shared → Prop} (I : Inv X pins σ H s) (hg : Gl X x) (hm : X.mg x = some u) (h : Q u s)
    (hd : (x == ("__debug__" : Str)) = false := by decide) : wpAny (model X.prog X.w) X.A (eval (.Name x pos) X.env) Q E s :=
  Calls.Name_function_global I.ok.kind hg (Calls.loadGlobal_global (by rw [I.ok.glob]; exact I.mod.glob.keeps I.bk) hm h) hd
theorem ld_blt {E : Value → Shared → Prop} {pins : List (Addr × Obj)} {s : Shared} {σ : St} {H : Hp} {x : Str} {u : Value} {pos : Pos} {Q : Value → Shared → Prop} (I : Inv X pins σ H s) (hg : Gl X x) (hm : X.mg x = none) (hv : bootBuiltins x = some u) (h : Q u s)
    (hn : x ≠ "__name__" := by decide) (hd : (x == ("__debug__" : Str)) = false := by decide) : wpAny (model X.prog X.w) X.A (eval (.Name x pos) X.env) Q E s := by
  obtain ⟨mb, h1, h2⟩ := I.mod.blt
  exact Calls.Name_function_global I.ok.kind hg (Calls.loadGlobal_builtin (by rw [I.ok.glob]; exact I.mod.glob.keeps I.bk) hm (by rw [I.ok.blt]; exact h1.keeps I.bk) ((h2 x hn).trans hv) h) hd
theorem pe_glob {x : Str} {v : V} {u : Value} {pos : Pos} (hg : Gl X x) (hm : X.mg x = some u) (r : RelV v u) (hd : (x == ("__debug__" : Str)) = false := by decide) : PE X (.Name x pos) (tC v) :=
  fun _ _ _ H _ I h => ld_glob I hg hm ⟨v, H, I, r, h⟩ hd
theorem pe_bltn {x : Str} {v : V} {u : Value} {pos : Pos} (hg : Gl X x) (hm : X.mg x = none) (hv : bootBuiltins x = some u) (r : RelV v u) (hn : x ≠ "__name__" := by decide) (hd : (x == ("__debug__" : Str)) = false := by decide) : PE X (.Name x pos) (tC v) :=
  fun _ _ _ H _ I h => ld_blt I hg hm hv ⟨v, H, I, r, h⟩ hn hd
variable {a b : Expr} {ta tb : TE} {pos : Pos}
def PC (X : Cx) (op : CmpOp) (a b : Expr) (t : TE) : Prop :=
  ∀ (pins : List (Addr × Obj)) (s : Shared) (σ : St) (H : Hp) (Q : VK), Inv X pins σ H s → t σ H Q →
    wpAny (model X.prog X.w) X.A (eval a X.env) (fun v s₁ => wpAny (model X.prog X.w) X.A (eval b X.env) (fun u s₂ => wpAny (model X.prog X.w) X.A (compareOp op v u) (EP X pins σ Q) X.xe s₂) X.xe s₁) X.xe s
theorem nobehind (b : Expr) {op : CmpOp} (h : op ≠ .In) (h2 : op ≠ .NotIn) : behindInMarks op b = false := by
  have e1 : (op == CmpOp.In) = false := by cases op <;> first | rfl | exact absurd rfl h
  have e2 : (op == CmpOp.NotIn) = false := by cases op <;> first | rfl | exact absurd rfl h2
  cases b <;> simp [behindInMarks, e1, e2]
def tB (t : TE) : TT := fun σ H Q => t σ H fun x H1 => ∃ c, x = .bl c ∧ Q c H1
theorem pt_cmp {op : CmpOp} {t : TE} (h : PC X op a b t) (h1 : behindInMarks op b = false := by first | exact nobehind _ (by decide) (by decide) | rfl) : PT X (.Compare a [op] [b] pos) (tB t) := by
  intro pins s σ H Q I hw
  refine wpAny_isTrue_Compare1 (thn (h pins s σ H _ I hw) fun v s1 h1 => thn h1 fun u s2 h2 => thn h2 fun c s3 ⟨x, H1, I1, r1, q1⟩ => ?_) h1
  obtain ⟨d, rfl, q⟩ := q1
  cases r1
  exact wpAny_truthy_bool ⟨H1, I1, q⟩
theorem pt_val {e : Expr} {t : TE} (h : PE X e t) (he : ∀ whole, isTrue e X.env whole = (do let v ← whole; standAt e.pos; holding [v] (truthy v)) := by intro _; rfl) : PT X e (tB t) := by
  intro pins s σ H Q I hw
  refine isTrue_plain (thn (h pins s σ H _ I hw) fun v s1 ⟨x, H1, I1, r1, q1⟩ => ?_) (he _)
  obtain ⟨d, rfl, q⟩ := q1
  cases r1
  exact wpAny_truthy_bool ⟨H1, I1, q⟩
variable {tA tB' : TT} {rest : List Expr}
def tAnd (t u : TT) : TT := fun σ H Q => t σ H fun c H1 => if c = true then u σ H1 Q else Q false H1
def tOr (t u : TT) : TT := fun σ H Q => t σ H fun c H1 => if c = true then Q true H1 else u σ H1 Q
def tNot (t : TT) : TT := fun σ H Q => t σ H fun c H1 => Q (!c) H1
theorem pw_and1 (ha : PT X a tA) : PW X (.BoolOp .And [a] pos) tA := by
  intro wh pins s σ H Q I h
  refine isTrue_and (thn (ha pins s σ H Q I h) fun c s1 e => ?_)
  cases c with
  | true => exact isTrue_and_nil e
  | false => exact e
theorem pw_or1 (ha : PT X a tA) : PW X (.BoolOp .Or [a] pos) tA := by
  intro wh pins s σ H Q I h
  refine isTrue_or (thn (ha pins s σ H Q I h) fun c s1 e => ?_)
  cases c with
  | false => exact isTrue_or_nil e
  | true => exact e
theorem pw_and (ha : PT X a tA) (hb : PW X (.BoolOp .And (b :: rest) pos) tB') : PW X (.BoolOp .And (a :: b :: rest) pos) (tAnd tA tB') := by
  intro wh pins s σ H Q I h
  refine isTrue_and (thn (ha pins s σ H _ I h) fun c s1 ⟨H1, I1, q1⟩ => ?_)
  cases c with
  | true => exact hb wh pins s1 σ H1 Q I1 q1
  | false => exact ⟨H1, I1, q1⟩
theorem pw_or (ha : PT X a tA) (hb : PW X (.BoolOp .Or (b :: rest) pos) tB') : PW X (.BoolOp .Or (a :: b :: rest) pos) (tOr tA tB') := by
  intro wh pins s σ H Q I h
  refine isTrue_or (thn (ha pins s σ H _ I h) fun c s1 ⟨H1, I1, q1⟩ => ?_)
  cases c with
  | true => exact ⟨H1, I1, q1⟩
  | false => exact hb wh pins s1 σ H1 Q I1 q1
theorem pt_not (ha : PT X a tA) : PT X (.UnaryOp .Not a pos) (tNot tA) := by
  intro pins s σ H Q I h
  exact isTrue_not (ha pins s σ H (fun c H1 => Q (!c) H1) I h)
def tAndV (ta tb : TE) : TE := fun σ H Q => ta σ H fun x H1 => ∃ c, x = .bl c ∧ if c = true then tb σ H1 Q else Q (.bl false) H1
def tOrV (ta tb : TE) : TE := fun σ H Q => ta σ H fun x H1 => ∃ c, x = .bl c ∧ if c = true then Q (.bl true) H1 else tb σ H1 Q
def tNotV (ta : TE) : TE := fun σ H Q => ta σ H fun x H1 => ∃ c, x = .bl c ∧ Q (.bl (!c)) H1
theorem pe_one {op} {t : TE} (h : PE X a t) : PE X (.BoolOp op [a] pos) t := fun pins s σ H Q I hw => BoolOp_one (h pins s σ H Q I hw)
theorem pe_and (ha : PE X a ta) (hb : PE X (.BoolOp .And (b :: rest) pos) tb) : PE X (.BoolOp .And (a :: b :: rest) pos) (tAndV ta tb) := by
  intro pins s σ H Q I h
  refine BoolOp_and (thn (ha pins s σ H _ I h) fun v s1 ⟨x, H1, I1, r1, q1⟩ => ?_)
  obtain ⟨c, rfl, q1⟩ := q1
  cases r1
  refine wpAny_truthy_bool ?_
  cases c with
  | true => exact hb pins s1 σ H1 Q I1 q1
  | false => exact ⟨.bl false, H1, I1, rfl, q1⟩
theorem pe_not (ha : PE X a ta) : PE X (.UnaryOp .Not a pos) (tNotV ta) := by
  intro pins s σ H Q I h
  refine UnaryOp_ (thn (ha pins s σ H _ I h) fun v s1 ⟨x, H1, I1, r1, q1⟩ => ?_)
  obtain ⟨c, rfl, q1⟩ := q1
  cases r1
  exact not_of (wpAny_truthy_bool ⟨.bl (!c), H1, I1, rfl, q1⟩)
def tIf (t : TT) (ta tb : TE) : TE := fun σ H Q => t σ H fun c H1 => if c = true then ta σ H1 Q else tb σ H1 Q
end
end L2
namespace L2
open PySem PySem.Spec PyProof.Rows
def SqL (K : PySem.W.Frag) (H : Hp) (a : Addr) (xs : List V) : Prop :=
  Rd H a (.lst xs) ∨
    ∃ (o : Obj) (its : Array Value) (n : Nat), K.lookup a = some o ∧ o.cls = .type "list" ∧ o.dict = none ∧ o.data = .seq its n ∧ its.size ≤ sizeLine ∧ Vals xs its.toList
def SqT (K : PySem.W.Frag) (H : Hp) (a : Addr) (xs : List V) : Prop :=
  Rd H a (.tup xs) ∨
    ∃ (o : Obj) (its : Array Value) (n : Nat), K.lookup a = some o ∧ o.cls = .type "tuple" ∧ o.data = .seq its n ∧ its.size ≤ sizeLine ∧ Vals xs its.toList
def absV : Value → Option V
  | .none => some .non
  | .bool b => some (.bl b)
  | .int i _ => some (.int i)
  | .str x _ => some (.str x)
  | .bytes b _ => some (.byt b)
  | .float b _ => some (.flt b)
  | .ref a => some (.ref a)
  | .type n => some (.ty n)
  | _ => none
theorem RelV.abs {x : V} {u : Value} (r : RelV x u) : absV u = some x := by
  cases x with
  | non => cases r; rfl
  | bl _ => cases r; rfl
  | int _ => obtain ⟨t, rfl⟩ := r; rfl
  | str _ => obtain ⟨t, rfl⟩ := r; rfl
  | byt _ => obtain ⟨t, rfl⟩ := r; rfl
  | flt _ => obtain ⟨t, rfl⟩ := r; rfl
  | ref _ => cases r; rfl
  | ty _ => cases r; rfl
theorem RelV.inj {x y : V} {u : Value} (r : RelV x u) (q : RelV y u) : x = y := Option.some.inj (r.abs.symm.trans q.abs)
theorem Vals.inj : ∀ {xs ys : List V} {us : List Value}, Vals xs us → Vals ys us → xs = ys
  | _, _, _, .nil, .nil => rfl
  | _, _, _, .cons r t, .cons r' t' => by rw [r.inj r', Vals.inj t t']
section
variable {X : Cx} {pins : List (Addr × Obj)} {σ : St} {H : Hp} {s : Shared} {a : Addr} {xs ys : List V}
theorem SqL.of {K : PySem.W.Frag} (h : H a = some (.lst xs)) : SqL K H a xs := .inl (.inl h)
theorem SqT.of {K : PySem.W.Frag} (h : H a = some (.tup xs)) : SqT K H a xs := .inl (.inl h)
theorem Inv.list (I : Inv X pins σ H s) (h : SqL X.K H a xs) : ∃ its : List Value, Vals xs its ∧ PlainL s.heap a its.toArray ∧ xs.length ≤ sizeLine := by
  rcases h with h | ⟨o, its, n, hk, hc, hd, hs, hz, r⟩
  · obtain ⟨z, its, n, r, e⟩ := h.ok I.hok
    exact ⟨its, r, ⟨_, n, e, rfl, rfl, rfl⟩, z⟩
  · refine ⟨its.toList, r, ⟨o, n, I.kIn a o hk, hc, hd, by simpa using hs⟩, ?_⟩
    have e := r.length
    simp only [Array.length_toList] at e
    omega
theorem Inv.tuple (I : Inv X pins σ H s) (h : SqT X.K H a xs) : ∃ its : List Value, Vals xs its ∧ IsTup s.heap a its.toArray ∧ xs.length ≤ sizeLine := by
  rcases h with h | ⟨o, its, n, hk, hc, hs, hz, r⟩
  · obtain ⟨z, its, r, p⟩ := h.ok I.hok
    exact ⟨its, r, p, z⟩
  · refine ⟨its.toList, r, ⟨o, I.kIn a o hk, hc, n, by simpa using hs⟩, ?_⟩
    have e := r.length
    simp only [Array.length_toList] at e
    omega
theorem Inv.list_inj (I : Inv X pins σ H s) (h : SqL X.K H a xs) (h' : SqL X.K H a ys) : xs = ys := by
  obtain ⟨its, r, ⟨o, n, e, _, _, d⟩, _⟩ := I.list h
  obtain ⟨its', r', ⟨o', n', e', _, _, d'⟩, _⟩ := I.list h'
  rw [e] at e'; cases e'
  rw [d] at d'
  injection d' with d1 _
  have : its = its' := by simpa using congrArg Array.toList d1
  subst this
  exact r.inj r'
theorem Inv.tuple_inj (I : Inv X pins σ H s) (h : SqT X.K H a xs) (h' : SqT X.K H a ys) : xs = ys := by
  obtain ⟨its, r, ⟨o, e, _, n, d⟩, _⟩ := I.tuple h
  obtain ⟨its', r', ⟨o', e', _, n', d'⟩, _⟩ := I.tuple h'
  rw [e] at e'; cases e'
  rw [d] at d'
  injection d' with d1 _
  have : its = its' := by simpa using congrArg Array.toList d1
  subst this
  exact r.inj r'
end
abbrev Cx.wish (X : Cx) (E : Value → Shared → Prop) : Cx := { X with xe := E }
abbrev Cx.nox (X : Cx) : Cx := X.wish fun _ _ => False
theorem Cx.Ok.wish {X : Cx} (ok : X.Ok) (E : Value → Shared → Prop) : (X.wish E).Ok :=
  ⟨ok.mod, ok.kind, ok.glob, ok.blt, ok.above, ok.inj, ok.has, ok.cab, ok.hd, ok.frames, ok.stk, ok.exf, ok.bs, ok.bsz, ok.noex, ok.exfs, ok.funs, ok.frf⟩
theorem Cx.Ok.unwish {X : Cx} {E : Value → Shared → Prop} (ok : (X.wish E).Ok) : X.Ok :=
  ⟨ok.mod, ok.kind, ok.glob, ok.blt, ok.above, ok.inj, ok.has, ok.cab, ok.hd, ok.frames, ok.stk, ok.exf, ok.bs, ok.bsz, ok.noex, ok.exfs, ok.funs, ok.frf⟩
section
variable {X : Cx} {pins : List (Addr × Obj)} {σ : St} {H : Hp} {s : Shared} {E : Value → Shared → Prop}
theorem Inv.wish (I : Inv X pins σ H s) (E : Value → Shared → Prop) : Inv (X.wish E) pins σ H s := ⟨I.ok.wish E, I.os, I.bare, I.base, I.loc, I.cell, I.free, I.freeC, I.pin, I.hok, I.len⟩
theorem Inv.unwish (I : Inv (X.wish E) pins σ H s) : Inv X pins σ H s := ⟨I.ok.unwish, I.os, I.bare, I.base, I.loc, I.cell, I.free, I.freeC, I.pin, I.hok, I.len⟩
theorem SP.unwish {D : Ends} {f : Flow} {s' : Shared} (h : SP (X.wish E) pins D f s') : SP X pins D f s' := by
  cases f with
  | next => obtain ⟨σ', H', I, q⟩ := h; exact ⟨σ', H', I.unwish, q⟩
  | brk => obtain ⟨σ', H', I, q⟩ := h; exact ⟨σ', H', I.unwish, q⟩
  | cont => obtain ⟨σ', H', I, q⟩ := h; exact ⟨σ', H', I.unwish, q⟩
  | ret u => obtain ⟨v, σ', H', I, r, q⟩ := h; exact ⟨v, σ', H', I.unwish, r, q⟩
theorem PE.nox {e : Expr} {t : TE} (h : PE X.nox e t) : PE X e t := fun pins s σ H Q I hw =>
  wpAny_mono (h pins s σ H Q (I.wish _) hw) (fun _ _ ⟨v, H', I', r, q⟩ => ⟨v, H', I'.unwish, r, q⟩) fun _ _ z => False.elim z
theorem PT.nox {e : Expr} {t : TT} (h : PT X.nox e t) : PT X e t := fun pins s σ H Q I hw =>
  wpAny_mono (h pins s σ H Q (I.wish _) hw) (fun _ _ ⟨H', I', q⟩ => ⟨H', I'.unwish, q⟩) fun _ _ z => False.elim z
theorem PSs.nox {st : List Stmt} {t : TS} (h : PSs X.nox st t) : PSs X st t := fun pins s σ H D I hw =>
  wpAny_mono (h pins s σ H D (I.wish _) hw) (fun _ _ q => q.unwish) fun _ _ z => False.elim z
end
section
variable {X : Cx} {st : Stmt} {rest : List Stmt} {t u : TS} {e : Expr} {te : TE} {pos : Pos}
def tNext : TS := fun D σ H => D.nx σ H
def tSeq (t u : TS) : TS := fun D σ H => t { D with nx := u D } σ H
theorem pss_nil : PSs X [] tNext := fun _ _ σ H _ I h => wpAny_execs_nil ⟨σ, H, I, h⟩
theorem pss_cons (h1 : PS X st t) (h2 : PSs X rest u) : PSs X (st :: rest) (tSeq t u) := by
  intro pins s σ H D I h
  refine wpAny_execs_cons (thn (h1 pins s σ H { D with nx := u D } I h) fun f s1 q => ?_)
  cases f with
  | next =>
    obtain ⟨σ', H', I', q⟩ := q
    exact h2 pins s1 σ' H' D I' q
  | ret v => exact q
  | brk => exact q
  | cont => exact q
theorem pss_one (h1 : PS X st t) : PSs X [st] t := by
  intro pins s σ H D I h
  refine wpAny_execs_cons (thn (h1 pins s σ H D I h) fun f s1 q => ?_)
  cases f with
  | next => exact wpAny_execs_nil q
  | ret v => exact q
  | brk => exact q
  | cont => exact q
theorem ps_pass : PS X (.Pass pos) tNext := fun _ _ σ H _ I h => wpAny_Pass ⟨σ, H, I, h⟩
theorem Inv.quiet {pins : List (Addr × Obj)} {σ : St} {H : Hp} {s : Shared} (I : Inv X pins σ H s) : interactive X.env = false := by simp [interactive, I.ok.kind]
def tDrop (te : TE) : TS := fun D σ H => te σ H fun _ H1 => D.nx σ H1
theorem ps_expr (he : PE X e te) (hs : swapsWith e none pos.line X.env = pure false := by rfl) : PS X (.Expr e pos) (tDrop te) := by
  intro pins s σ H D I h
  exact wpAny_Expr_any (thn (he pins s σ H _ I h) fun v s1 ⟨x, H1, I1, r1, q1⟩ => ⟨σ, H1, I1, q1⟩) I.quiet hs
def tRet (te : TE) : TS := fun D σ H => te σ H D.rt
theorem ps_ret (he : PE X e te) : PS X (.Return (some e) pos) (tRet te) := by
  intro pins s σ H D I h
  exact wpAny_Return_some (thn (he pins s σ H _ I h) fun v s1 ⟨x, H1, I1, r1, q1⟩ => ⟨x, σ, H1, I1, r1, q1⟩)
def tRetN : TS := fun D _ H => D.rt .non H
def tIfS (c : TT) (t u : TS) : TS := fun D σ H => c σ H fun b H1 => if b = true then t D σ H1 else u D σ H1
theorem ps_if {c : Expr} {a b : List Stmt} {tc : TT} (hc : PT X c tc) (ha : PSs X a t) (hb : PSs X b u) : PS X (.If c a b pos) (tIfS tc t u) := by
  intro pins s σ H D I h
  refine wpAny_If (thn (hc pins s σ H _ I h) fun d s1 ⟨H1, I1, q1⟩ => ?_)
  cases d with
  | true => exact ha pins s1 σ H1 D I1 q1
  | false => exact hb pins s1 σ H1 D I1 q1
def tNever : TS := fun _ _ _ => False
theorem ps_never : PS X st tNever := fun _ _ _ _ _ _ h => h.elim
end
abbrev TG := V → St → Hp → (St → Hp → Prop) → Prop
abbrev TGs := List V → St → Hp → (St → Hp → Prop) → Prop
def PG (X : Cx) (target : Expr) (t : TG) : Prop :=
  ∀ (pins : List (Addr × Obj)) (s : Shared) (σ : St) (H : Hp) (v : V) (u : Value) (Q : St → Hp → Prop), Inv X pins σ H s → RelV v u → t v σ H Q →
    wpAny (model X.prog X.w) X.A (assign target X.env u) (fun _ s' => ∃ σ' H', Inv X pins σ' H' s' ∧ Q σ' H') X.xe s
section
variable {X : Cx} {pos : Pos}
def gName (i : Nat) : TG := fun v σ H Q => Q (σ.set i (some v)) H
theorem pg_name {i : Nat} {x : Str} (hN : X.N.Nodup) (hi : X.N[i]? = some x) (hx : Loc X.env.scope x) (hf : X.fn x = true ∨ X.env.scope.names.lookup x = some .local := by first | exact .inl rfl | exact .inr rfl | assumption) : PG X (.Name x pos) (gName i) := by
  intro pins s σ H v u Q I r h
  exact wpAny_assign_Name (store_ok I hN hi hx r (fun s' I' => ⟨_, H, I', h⟩) hf)
def gNil : TGs := fun vs σ H Q => vs = [] ∧ Q σ H
def gCons (t : TG) (u : TGs) : TGs := fun vs σ H Q => ∃ v r, vs = v :: r ∧ t v σ H fun σ' H' => u r σ' H' Q
def gTup (K : PySem.W.Frag) (n : Nat) (t : TGs) : TG := fun v σ H Q => ∃ a xs, v = .ref a ∧ SqT K H a xs ∧ xs.length = n ∧ t xs σ H Q
def tAsg (te : TE) (g : TG) : TS := fun D σ H => te σ H fun x H1 => g x σ H1 D.nx
theorem ps_set {i : Nat} {x : Str} {e : Expr} {te : TE} {pos' : Pos} (hN : X.N.Nodup) (hi : X.N[i]? = some x) (hx : Loc X.env.scope x) (he : PE X e te) (hs : swapsWith e (some (.Name x pos')) pos.line X.env = pure false := by rfl) (hf : X.fn x = true ∨ X.env.scope.names.lookup x = some .local := by first | exact .inl rfl | exact .inr rfl | assumption) :
    PS X (.Assign [.Name x pos'] e pos) (tAsg te (gName i)) := by
  intro pins s σ H D I h
  refine wpAny_Assign_Name (thn (he pins s σ H _ I h) fun v s1 ⟨y, H1, I1, r1, q1⟩ => ?_) hs
  exact store_ok I1 hN hi hx r1 (fun s2 I2 => ⟨_, H1, I2, q1⟩) hf
def tPar (i j : Nat) (ta : TA) : TS := fun D σ H => ta σ H fun vs H1 => ∃ v w, vs = [v, w] ∧ D.nx ((σ.set i (some v)).set j (some w)) H1
theorem ps_par {i j : Nat} {x y : Str} {a b : Expr} {ta : TA} {px py pt : Pos} {kt k2 pt2} (hc : X.calm = true) (hN : X.N.Nodup) (hi : X.N[i]? = some x) (hj : X.N[j]? = some y) (hij : i ≠ j)
    (hx : X.env.scope.names.lookup x = some .local) (hy : X.env.scope.names.lookup y = some .local) (ha : PA X [a, b] ta)
    (hw : swappedStores [.Tuple [.Name x px, .Name y py] kt pt] (.Tuple [a, b] k2 pt2) X.env = pure (some [x, y]))
    (hs : swapsWithSole [.Tuple [.Name x px, .Name y py] kt pt] (.Tuple [a, b] k2 pt2) pos.line X.env = pure false := by rfl) :
    PS X (.Assign [.Tuple [.Name x px, .Name y py] kt pt] (.Tuple [a, b] k2 pt2) pos) (tPar i j ta) := by
  intro pins s σ H D I h
  rw [exec_Assign_arm]
  refine wpAny_bind (wpAny_standAt ?_)
  rw [hs]
  refine wpAny_bind (wpAny_pure ?_)
  rw [if_neg (by decide)]
  refine wpAny_bind (Tuple_ (thn (ha _ pins s σ H _ I h) fun us s1 ⟨vs, H1, I1, r1, q1⟩ => ?_))
  obtain ⟨v, w, e1, q1⟩ := q1
  subst e1
  obtain ⟨u1, u2, rfl, rv, rw'⟩ : ∃ u1 u2, us = [u1, u2] ∧ RelV v u1 ∧ RelV w u2 := by
    cases r1 with
    | cons p q =>
      cases q with
      | cons p' q' =>
        cases q'
        exact ⟨_, _, rfl, p, p'⟩
  refine wpAny_newObj_type ?_ (by show 2 ≤ sizeLine; decide)
  have I2 : Inv X pins σ H1 { s1 with heap := s1.heap.push { cls := .type "tuple", data := .seq [u1, u2].toArray } } := I1.kept (t' := s1.toks) fun b o e => Heap.get?_push_of_some _ e
  rw [hw]
  refine wpAny_bind (wpAny_pure ?_)
  show wpAny (model X.prog X.w) X.A (do rule "assign.swapped-stores"; let items ← unpackItems (.ref s1.heap.objs.size) 2 none; assignInOrder [fun v => bindName X.env y v, fun v => bindName X.env x v] items.reverse; pure Flow.next) _ _ _
  refine wpAny_bind (wpAny_rule (wpAny_bind (unpackItems_tuple (items := #[u1, u2]) (I.ok.hd hc) (IsTup.new s1.heap _) fun h' hx' => ?_)))
  have I3 := I2.kept (h' := h') (t' := s1.toks) fun b o e => hx' b o (Nat.ne_of_lt (Heap.lt_size e)) e
  show wpAny _ _ (assignInOrder [fun v => bindName X.env y v, fun v => bindName X.env x v] [u2, u1] >>= fun _ => pure Flow.next) _ _ _
  refine wpAny_bind (assignInOrder_cons (wpAny_bindName (store_ok I3 hN hj (.inl hy) rw' (fun s2 I4 => ?_) (.inr hy))))
  refine assignInOrder_cons (wpAny_bindName (store_ok I4 hN hi (.inl hx) rv (fun s3 I5 => assignInOrder_nil (wpAny_pure ?_)) (.inr hx)))
  rw [List.set_comm _ _ (Ne.symm hij)] at I5
  exact ⟨_, H1, I5, q1⟩
end
section
variable {X : Cx} {pos : Pos}
def tWhile (c : TT) (tb : TS) : TS := fun D σ H => ∃ W : Nat → St → Hp → Prop, (∃ m, W m σ H) ∧ ∀ m σ H, W m σ H →
  c σ H fun b H1 => if b = true then ∃ N : St → Hp → Prop, (∀ σ' H', N σ' H' → ∃ m', m' < m ∧ W m' σ' H') ∧ tb { D with nx := N, ct := N, bk := D.nx } σ H1 else D.nx σ H1
theorem ps_while {c : Expr} {body : List Stmt} {tc : TT} {tb : TS} (hp : PassesOwn (model X.prog X.w) X.A X.env X.xe) (hc : PT X c tc) (hb : PSs X body tb) : PS X (.While c body [] pos) (tWhile tc tb) := by
  intro pins s σ H D I h
  obtain ⟨W, ⟨m0, w0⟩, turn⟩ := h
  refine wpAny_While (codeAny_whileLoop (fun n s' => ∃ σ' H', Inv X pins σ' H' s' ∧ W n σ' H') ?_ m0 ⟨σ, H, I, w0⟩)
  rintro n s1 ⟨σ1, H1, I1, w1⟩
  refine wpAny_passesOwn hp (thn (hc pins s1 σ1 H1 _ I1 (turn n σ1 H1 w1)) fun b s2 ⟨H2, I2, q2⟩ => ?_)
  cases b with
  | true =>
    obtain ⟨N, hN, q2⟩ := q2
    rw [if_pos rfl]
    refine wpAny_passesOwn hp (thn (hb pins s2 σ1 H2 _ I2 q2) fun f s3 q3 => ?_)
    cases f with
    | next =>
      obtain ⟨σ3, H3, I3, n3⟩ := q3
      obtain ⟨m', hm, w3⟩ := hN σ3 H3 n3
      exact ⟨m', hm, σ3, H3, I3, w3⟩
    | cont =>
      obtain ⟨σ3, H3, I3, n3⟩ := q3
      obtain ⟨m', hm, w3⟩ := hN σ3 H3 n3
      exact ⟨m', hm, σ3, H3, I3, w3⟩
    | brk => exact q3
    | ret v => exact q3
  | false =>
    rw [if_neg Bool.false_ne_true]
    exact wpAny_execs_nil ⟨σ1, H2, I2, q2⟩
end
structure It where
  go : Nat → Hp → Prop
  yld : Nat → Hp → V → Hp → Prop
  stop : Nat → Hp → Prop
def FpOk (X : Cx) (pins : List (Addr × Obj)) (H : Hp) (b : Addr) : Prop :=
  H b = none ∧ b ≠ X.env.locals ∧ b ∉ X.fs ∧ (b ∈ X.ex ∨ X.s₀.heap.objs.size ≤ b) ∧ (∀ x c, X.env.cells.lookup x = some c → c ≠ b) ∧ ∀ p ∈ X.pn ++ pins, p.1 ≠ b
theorem Inv.fpOk {X : Cx} {pins : List (Addr × Obj)} {σ : St} {H H' : Hp} {s : Shared} {b : Addr} (I : Inv X pins σ H s) (hb : s.heap.objs.size ≤ b) (hn : H' b = none) : FpOk X pins H' b := by
  refine ⟨hn, Nat.ne_of_gt (Nat.lt_of_lt_of_le I.lt hb), I.nofs hb, .inr (Nat.le_trans I.sz hb), fun x c e z => ?_, fun p hp z => ?_⟩
  · obtain ⟨v, q⟩ := I.cell x c e
    exact absurd (Nat.lt_of_lt_of_le q.lt (by rw [z]; exact hb)) (Nat.lt_irrefl _)
  · exact absurd (Nat.lt_of_lt_of_le (Heap.lt_size (I.pin p hp).1) (by rw [z]; exact hb)) (Nat.lt_irrefl _)
structure Turn (P : Program) (w : World) (K : PySem.W.Frag) (tg : Expr) (J : It) (fp : List Addr) (it : Addr) (tn : Nat → Heap → Prop) : Prop where
  mem : it ∈ fp
  obj : ∀ i h, tn i h → ∀ b ∈ fp, ∃ o, h.get? b = some o ∧ ∀ v, o.data ≠ .cell v
  keep : ∀ i h h', tn i h → (∀ b ∈ fp, ∀ o, h.get? b = some o → h'.get? b = some o) → tn i h'
  item : ∀ (X : Cx), X.prog = P → X.w = w → X.K = K → X.calm = true → ∀ (i : Nat) (pins : List (Addr × Obj)) (s : Shared) (σ : St) (H : Hp) (E : Value → Shared → Prop), Inv X pins σ H s → (∀ b ∈ fp, FpOk X pins H b) → tn i s.heap → J.go i H →
    wpAny (model P w) X.A (pyNext (.ref it)) (fun r s1 => ∃ u, r = some u ∧
      wpAny (model P w) X.A (letOwnedTupleGo tg (.ref it) u) (fun _ s2 => ∃ x H', Inv X pins σ H' s2 ∧ RelV x u ∧ J.yld i H x H' ∧ tn (i + 1) s2.heap ∧ ∀ b ∈ fp, H' b = none) E s1) E s
  done : ∀ (X : Cx), X.prog = P → X.w = w → X.K = K → X.calm = true → ∀ (i : Nat) (pins : List (Addr × Obj)) (s : Shared) (σ : St) (H : Hp) (E : Value → Shared → Prop), Inv X pins σ H s → (∀ b ∈ fp, FpOk X pins H b) → tn i s.heap → J.stop i H →
    wpAny (model P w) X.A (pyNext (.ref it)) (fun r s1 => r = none ∧ Inv X pins σ H s1) E s
  self : ∀ (A : Around) (i : Nat) (s : Shared) (Q : Value → Shared → Prop) (E : Value → Shared → Prop), tn i s.heap → Q (.ref it) s → wpAny (model P w) A (pyIter (.ref it)) Q E s
abbrev TI := St → Hp → (It → Hp → Prop) → Prop
def PIE (X : Cx) (pins : List (Addr × Obj)) (σ : St) (tg : Expr) (R : It → Hp → Prop) (itv : Value) (s2 : Shared) : Prop :=
  ∃ (it : Addr) (fp : List Addr) (tn : Nat → Heap → Prop) (J : It) (H' : Hp), itv = .ref it ∧ Inv X pins σ H' s2 ∧ Turn X.prog X.w X.K tg J fp it tn ∧ tn 0 s2.heap ∧ (∀ b ∈ fp, FpOk X pins H' b) ∧ R J H'
def PI (X : Cx) (tg iter : Expr) (wi : TI) : Prop :=
  ∀ (pins : List (Addr × Obj)) (s : Shared) (σ : St) (H : Hp) (R : It → Hp → Prop), Inv X pins σ H s → wi σ H R →
    wpAny (model X.prog X.w) X.A (eval iter X.env) (fun v s1 => wpAny (model X.prog X.w) X.A (pyIter v) (PIE X pins σ tg R) X.xe s1) X.xe s
theorem go_of {M : Model} {A : Around} {E : Value → Shared → Prop} {s : Shared} {tg : Expr} {it : Addr} {u : Value} {o : Obj} {n : String} {vs : Array Value} {Q : Unit → Shared → Prop} (ho : s.heap.get? it = some o) (hc : o.cls = .type n) (hd : o.data = .fields vs)
    (hn : ["enumerate", "zip", "dict_itemiterator", "dict_reverseitemiterator", "odict_iterator", "itertools.zip_longest", "itertools.pairwise"].contains n = false) (hQ : Q () s) : wpAny M A (letOwnedTupleGo tg (.ref it) u) Q E s := by
  unfold letOwnedTupleGo
  cases tg <;> first
    | exact wpAny_pure hQ
    | (cases u <;> first
        | exact wpAny_pure hQ
        | (refine wpAny_bind (wpAny_load ho ?_)
           rw [hc, hd]
           show wpAny M A (if (["enumerate", "zip", "dict_itemiterator", "dict_reverseitemiterator", "odict_iterator", "itertools.zip_longest", "itertools.pairwise"].contains n && vs[0]? == some (rawInt _)) = true then _ else _) Q E s
           rw [if_neg (by intro h; rw [hn, Bool.false_and] at h; cases h)]
           exact wpAny_pure hQ))
def Itl (K : PySem.W.Frag) (a : Addr) : It :=
  ⟨fun i H => ∃ xs x, SqL K H a xs ∧ xs[i]? = some x, fun i H x H' => H' = H ∧ ∀ xs, SqL K H a xs → xs[i]? = some x, fun i H => ∃ xs, SqL K H a xs ∧ xs.length ≤ i⟩
def Itt (K : PySem.W.Frag) (a : Addr) : It :=
  ⟨fun i H => ∃ xs x, SqT K H a xs ∧ xs[i]? = some x, fun i H x H' => H' = H ∧ ∀ xs, SqT K H a xs → xs[i]? = some x, fun i H => ∃ xs, SqT K H a xs ∧ xs.length ≤ i⟩
def Itr (lo : Int) (n : Nat) : It := ⟨fun i _ => i < n, fun i H x H' => H' = H ∧ x = .int (lo + i), fun i _ => n ≤ i⟩
theorem turn_list {P : Program} {w : World} {K : PySem.W.Frag} {tg : Expr} (a it : Addr) : Turn P w K tg (Itl K a) [it] it (fun i h => h.IsListIter it a i) where
  mem := by simp
  obj := fun i h st b hb => by
    have e : b = it := by simpa using hb
    subst e
    obtain ⟨o, e, c, d⟩ := st
    exact ⟨o, e, fun v z => by rw [d] at z; cases z⟩
  keep := fun i h h' st k => st.at fun o e => k it (by simp) o e
  item := by
    intro X hP hw hK hc i pins s σ H E I hf st hg
    subst hP hw hK
    obtain ⟨xs, x, hq, hx⟩ := hg
    obtain ⟨its, rv, p, hz⟩ := I.list hq
    obtain ⟨u, hu, ru⟩ := rv.get hx
    obtain ⟨f0, f1, f2, f3, f4, f5⟩ := hf it (by simp)
    refine wpAny_pyNext_list_item st p.isList (x := u) (by simpa using hu) fun h' st' sb => ?_
    have I1 : Inv X pins σ H { s with heap := h' } := I.turned (t' := s.toks) (fun b o hb e => (sb.2 b hb).trans e) f0 f1 f3 f4 f5
    obtain ⟨o, e, c, d⟩ := id st'
    exact ⟨u, rfl, go_of (s := { s with heap := h' }) e c d (by decide) ⟨x, H, I1, ru, ⟨rfl, fun ys hy => by rw [I.list_inj hy hq]; exact hx⟩, st', fun b hb => (hf b hb).1⟩⟩
  done := by
    intro X hP hw hK hc i pins s σ H E I hf st hg
    subst hP hw hK
    obtain ⟨xs, hq, hx⟩ := hg
    obtain ⟨its, rv, p, hz⟩ := I.list hq
    obtain ⟨f0, f1, f2, f3, f4, f5⟩ := hf it (by simp)
    have hl := rv.length
    exact wpAny_pyNext_list_end (I.ok.hd hc) st p.isList (by simp; omega) fun h' eb => ⟨rfl, I.turned (t' := s.toks) (fun b o hb e => eb b o hb e) f0 f1 f3 f4 f5⟩
  self := fun _ _ _ _ _ st h => wpAny_pyIter_listiter st h
theorem turn_tuple {P : Program} {w : World} {K : PySem.W.Frag} {tg : Expr} (a it : Addr) : Turn P w K tg (Itt K a) [it] it (fun i h => h.IsTupleIter it a i) where
  mem := by simp
  obj := fun i h st b hb => by
    have e : b = it := by simpa using hb
    subst e
    obtain ⟨o, e, c, d⟩ := st
    exact ⟨o, e, fun v z => by rw [d] at z; cases z⟩
  keep := fun i h h' st k => st.at fun o e => k it (by simp) o e
  item := by
    intro X hP hw hK hc i pins s σ H E I hf st hg
    subst hP hw hK
    obtain ⟨xs, x, hq, hx⟩ := hg
    obtain ⟨its, rv, p, hz⟩ := I.tuple hq
    obtain ⟨u, hu, ru⟩ := rv.get hx
    obtain ⟨f0, f1, f2, f3, f4, f5⟩ := hf it (by simp)
    refine wpAny_pyNext_tuple_item st (show s.heap.IsTuple a its.toArray from p) (x := u) (by simpa using hu) fun h' st' sb => ?_
    have I1 : Inv X pins σ H { s with heap := h' } := I.turned (t' := s.toks) (fun b o hb e => (sb.2 b hb).trans e) f0 f1 f3 f4 f5
    obtain ⟨o, e, c, d⟩ := id st'
    exact ⟨u, rfl, go_of (s := { s with heap := h' }) e c d (by decide) ⟨x, H, I1, ru, ⟨rfl, fun ys hy => by rw [I.tuple_inj hy hq]; exact hx⟩, st', fun b hb => (hf b hb).1⟩⟩
  done := by
    intro X hP hw hK hc i pins s σ H E I hf st hg
    subst hP hw hK
    obtain ⟨xs, hq, hx⟩ := hg
    obtain ⟨its, rv, p, hz⟩ := I.tuple hq
    obtain ⟨f0, f1, f2, f3, f4, f5⟩ := hf it (by simp)
    have hl := rv.length
    exact wpAny_pyNext_tuple_end (I.ok.hd hc) st (show s.heap.IsTuple a its.toArray from p) (by simp; omega) fun h' eb => ⟨rfl, I.turned (t' := s.toks) (fun b o hb e => eb b o hb e) f0 f1 f3 f4 f5⟩
  self := fun _ _ _ _ _ st h => wpAny_pyIter_tupleiter st h
theorem turn_range {P : Program} {w : World} {K : PySem.W.Frag} {tg : Expr} (it : Addr) (lo : Int) (n : Nat) : Turn P w K tg (Itr lo n) [it] it (fun i h => IsRangeIter h it (lo + (i : Nat) * 1) ((n : Int) - (i : Nat)) 1) where
  mem := by simp
  obj := fun i h st b hb => by
    have e : b = it := by simpa using hb
    subst e
    exact ⟨_, st, fun v z => by
      have z' : Data.fields _ = Data.cell v := z
      cases z'⟩
  keep := fun i h h' st k => k it (by simp) _ st
  item := by
    intro X hP hw hK hc i pins s σ H E I hf st hg
    subst hP hw hK
    obtain ⟨f0, f1, f2, f3, f4, f5⟩ := hf it (by simp)
    have W := Walks.range (prog := X.prog) (w := X.w) (I.ok.hd hc) it lo 1 n
    refine W.item i s _ _ hg st fun v h' tk hv st' kk => ?_
    obtain ⟨t, rfl⟩ := hv
    have I1 : Inv X pins σ H { s with heap := h', toks := tk } := I.turned (fun b o hb e => kk b o (by simpa using hb) e) f0 f1 f3 f4 f5
    refine ⟨_, rfl, go_of (s := { s with heap := h', toks := tk }) (n := "range_iterator") st' rfl rfl (by decide) ⟨.int (lo + i), H, I1, ⟨t, ?_⟩, ⟨rfl, rfl⟩, st', fun b hb => (hf b hb).1⟩⟩
    rw [Int.mul_one]
  done := by
    intro X hP hw hK hc i pins s σ H E I hf st hg
    subst hP hw hK
    obtain ⟨f0, f1, f2, f3, f4, f5⟩ := hf it (by simp)
    exact wpAny_pyNext_range_end (I.ok.hd hc) st (by have : n ≤ i := hg; omega) fun h' eb => ⟨rfl, I.turned (t' := s.toks) (fun b o hb e => eb b o hb e) f0 f1 f3 f4 f5⟩
  self := fun _ _ _ _ _ st h => wpAny_pyIter_rangeiter st h
end L2
namespace L2
open PySem PySem.Spec PyProof.Rows
section
variable {X : Cx} {tg : Expr}
def iList (K : PySem.W.Frag) (tl : TE) : TI := fun σ H R => tl σ H fun x H1 => ∃ a, x = .ref a ∧ (∃ xs, SqL K H1 a xs) ∧ R (Itl K a) H1
def iTup (K : PySem.W.Frag) (tl : TE) : TI := fun σ H R => tl σ H fun x H1 => ∃ a, x = .ref a ∧ (∃ xs, SqT K H1 a xs) ∧ R (Itt K a) H1
theorem pi_list {l : Expr} {tl : TE} (hl : PE X l tl) : PI X tg l (iList X.K tl) := by
  intro pins s σ H R I h
  refine thn (hl pins s σ H _ I h) fun v s1 ⟨x, H1, I1, r1, q1⟩ => ?_
  obtain ⟨a, e, ⟨xs, hq⟩, q⟩ := q1
  subst e
  cases r1
  obtain ⟨its, rv, p, hz⟩ := I1.list hq
  refine wpAny_pyIter_list p.isList ?_
  refine ⟨s1.heap.objs.size, [s1.heap.objs.size], _, _, H1, rfl, I1.kept (t' := s1.toks) fun b o e => Heap.get?_push_of_some _ e, turn_list a _, ⟨_, Heap.get?_push_size _ rfl, rfl, rfl⟩, fun b hb => ?_, q⟩
  have e : b = s1.heap.objs.size := by simpa using hb
  subst e
  exact I1.fpOk (Nat.le_refl _) (I1.hok.fresh (Nat.le_refl _))
theorem pi_tup {l : Expr} {tl : TE} (hl : PE X l tl) : PI X tg l (iTup X.K tl) := by
  intro pins s σ H R I h
  refine thn (hl pins s σ H _ I h) fun v s1 ⟨x, H1, I1, r1, q1⟩ => ?_
  obtain ⟨a, e, ⟨xs, hq⟩, q⟩ := q1
  subst e
  cases r1
  obtain ⟨its, rv, p, hz⟩ := I1.tuple hq
  refine wpAny_pyIter_tuple (show s1.heap.IsTuple a its.toArray from p) ?_
  refine ⟨s1.heap.objs.size, [s1.heap.objs.size], _, _, H1, rfl, I1.kept (t' := s1.toks) fun b o e => Heap.get?_push_of_some _ e, turn_tuple a _, ⟨_, Heap.get?_push_size _ rfl, rfl, rfl⟩, fun b hb => ?_, q⟩
  have e : b = s1.heap.objs.size := by simpa using hb
  subst e
  exact I1.fpOk (Nat.le_refl _) (I1.hok.fresh (Nat.le_refl _))
theorem range_it {pins : List (Addr × Obj)} {σ : St} {H : Hp} {s : Shared} {R : It → Hp → Prop} {E : Value → Shared → Prop} {lo hi : Int} {t u v : Tok} {tk : Nat} (I : Inv X pins σ H s) (h1 : -(2 ^ 62) ≤ lo) (h2 : lo < 2 ^ 62) (h3 : -(2 ^ 62) ≤ hi) (h4 : hi < 2 ^ 62)
    (q : R (Itr lo (hi - lo).toNat) H) : wpAny (model X.prog X.w) X.A (pyIter (.ref s.heap.objs.size)) (PIE X pins σ tg R) E { s with heap := s.heap.push { cls := .type "range", data := .fields #[.int lo t, .int hi u, .int 1 v] }, toks := tk } := by
  refine wpAny_pyIter_range (IsRange.new ..) (small_one h1 h2 h3 h4) ?_
  have I1 : Inv X pins σ H { s with heap := s.heap.push { cls := .type "range", data := .fields #[.int lo t, .int hi u, .int 1 v] }, toks := tk } := I.kept fun b o e => Heap.get?_push_of_some _ e
  refine ⟨(s.heap.push { cls := .type "range", data := .fields #[.int lo t, .int hi u, .int 1 v] }).objs.size, [(s.heap.push { cls := .type "range", data := .fields #[.int lo t, .int hi u, .int 1 v] }).objs.size], _, _, H, rfl,
    I1.kept (t' := tk) fun b o e => Heap.get?_push_of_some _ e, turn_range _ lo (hi - lo).toNat, ?_, fun b hb => ?_, q⟩
  · have e1 : lo + ((0 : Nat) : Int) * 1 = lo := by simp
    have e2 : (((hi - lo).toNat : Nat) : Int) - ((0 : Nat) : Int) = Builtin.Range.rangeSize lo hi 1 := by rw [rangeSize_one]; split <;> omega
    show IsRangeIter _ _ (lo + ((0 : Nat) : Int) * 1) ((((hi - lo).toNat : Nat) : Int) - ((0 : Nat) : Int)) 1
    rw [e1, e2]
    exact Heap.get?_push_size _ rfl
  · have e : b = (s.heap.push { cls := .type "range", data := .fields #[.int lo t, .int hi u, .int 1 v] }).objs.size := by simpa using hb
    subst e
    exact I1.fpOk (Nat.le_refl _) (I1.hok.fresh (Nat.le_refl _))
def iRng1 (ta : TA) : TI := fun σ H R => ta σ H fun vs H1 => ∃ j : Int, vs = [.int j] ∧ -(2 ^ 62) ≤ j ∧ j < 2 ^ 62 ∧ R (Itr 0 j.toNat) H1
def iRng2 (ta : TA) : TI := fun σ H R => ta σ H fun vs H1 => ∃ i j : Int, vs = [.int i, .int j] ∧ (-(2 ^ 62) ≤ i ∧ i < 2 ^ 62 ∧ -(2 ^ 62) ≤ j ∧ j < 2 ^ 62) ∧ R (Itr i (j - i).toNat) H1
theorem pi_range1 {a : Expr} {ta : TA} {p pos : Pos} (hg : Gl X "range") (hm : X.mg "range" = none) (ha : PA X [a] ta) (hs : starEach [a] X.env = [(false, eval a X.env)] := by rfl) : PI X tg (.Call (.Name "range" p) [a] [] pos) (iRng1 ta) := by
  intro pins s σ H R I h
  refine Call_ (ld_blt I hg hm boot_range (PyProof.Rows.callWith_type1 (thn (ha pos pins s σ H _ I h) fun us s1 ⟨vs, H1, I1, r1, q1⟩ => ?_) hs rfl))
  obtain ⟨j, e, q1, q2, q⟩ := q1
  subst e
  cases r1 with
  | cons r rr =>
    cases rr
    obtain ⟨t, rfl⟩ := r
    exact call_range_1 (range_it I1 (by omega) (by omega) q1 q2 (by simpa using q))
def tFor (wi : TI) (g : TG) (tb : TS) : TS := fun D σ H => wi σ H fun J H1 => ∃ W : Nat → Nat → St → Hp → Prop, (∃ m, W 0 m σ H1) ∧ ∀ i m σ H, W i m σ H →
  (J.stop i H ∧ D.nx σ H) ∨ (J.go i H ∧ ∃ N : St → Hp → Prop, (∀ σ' H', N σ' H' → ∃ m', m' < m ∧ W (i + 1) m' σ' H') ∧ ∀ x H', J.yld i H x H' → g x σ H' fun σ2 H2 => tb { D with nx := N, ct := N, bk := D.nx } σ2 H2)
def pinsAt (fp : List Addr) (h : Heap) : List (Addr × Obj) := fp.filterMap fun b => (h.get? b).map fun o => (b, o)
theorem mem_pinsAt {fp : List Addr} {h : Heap} {b : Addr} {o : Obj} (hb : b ∈ fp) (e : h.get? b = some o) : (b, o) ∈ pinsAt fp h := List.mem_filterMap.mpr ⟨b, hb, by rw [e]; rfl⟩
theorem of_pinsAt {fp : List Addr} {h : Heap} {p : Addr × Obj} (hp : p ∈ pinsAt fp h) : p.1 ∈ fp ∧ h.get? p.1 = some p.2 := by
  obtain ⟨b, hb, e⟩ := List.mem_filterMap.mp hp
  cases q : h.get? b with
  | none => rw [q] at e; cases e
  | some o =>
    rw [q] at e
    have e' : (b, o) = p := Option.some.inj e
    subst e'
    exact ⟨hb, q⟩
theorem Inv.pinned {pins : List (Addr × Obj)} {σ : St} {H : Hp} {s : Shared} {fp : List Addr} (I : Inv X pins σ H s) (hf : ∀ b ∈ fp, FpOk X pins H b) (ho : ∀ b ∈ fp, ∃ o, s.heap.get? b = some o ∧ ∀ v, o.data ≠ .cell v) : Inv X (pins ++ pinsAt fp s.heap) σ H s :=
  I.pins_of fun p hp => (List.mem_append.mp hp).elim (fun z => I.pin p (List.mem_append_right _ z)) fun z => by
    obtain ⟨hb, e⟩ := of_pinsAt z
    obtain ⟨f0, f1, f2, _⟩ := hf p.1 hb
    obtain ⟨o, e', d⟩ := ho p.1 hb
    rw [e] at e'; cases e'
    exact ⟨e, f0, f1, f2, d⟩
theorem Inv.unpinned {pins pl : List (Addr × Obj)} {σ : St} {H : Hp} {s : Shared} (I : Inv X (pins ++ pl) σ H s) : Inv X pins σ H s := I.pins_of fun p hp => I.pin p (List.mem_append_right _ (List.mem_append_left _ hp))
theorem ps_for {iter : Expr} {body : List Stmt} {wi : TI} {g : TG} {tb : TS} {pos : Pos} (hp : PassesOwn (model X.prog X.w) X.A X.env X.xe) (hc : X.calm = true) (hi : PI X tg iter wi) (hg : PG X tg g) (hb : PSs X body tb)
    (hs : ∀ x, foldedSetIterable iter X.env x = pure x := by intro _; rfl) : PS X (.For tg iter body [] pos) (tFor wi g tb) := by
  intro pins s σ H D I h
  refine wpAny_For (thn (hi pins s σ H _ I h) fun v s1 h1 => thn h1 fun itv s2 h2 => ?_) hs
  obtain ⟨it, fp, tn, J, H2, e, I2, T, st2, f2, W, ⟨m0, w0⟩, turn⟩ := h2
  subst e
  -- what stays true of the iterator's objects through the loop
  have stat : ∀ {H' : Hp}, (∀ b ∈ fp, H' b = none) → ∀ b ∈ fp, FpOk X pins H' b := fun hn b hb => ⟨hn b hb, (f2 b hb).2⟩
  refine codeAny_forLoop_any (fun n s' => ∃ i σ' H', Inv X pins σ' H' s' ∧ tn i s'.heap ∧ (∀ b ∈ fp, H' b = none) ∧ W i n σ' H') ?_ m0 ⟨0, σ, H2, I2, st2, fun b hb => (f2 b hb).1, w0⟩
  rintro n s3 ⟨i, σ3, H3, I3, st3, fr3, w3⟩
  rcases turn i n σ3 H3 w3 with ⟨stop, qn⟩ | ⟨go, N, hN, step⟩
  · refine wpAny_passesOwn hp (thn (T.done X rfl rfl rfl hc i pins s3 σ3 H3 X.xe I3 (stat fr3) st3 stop) fun r s4 ⟨hr, I4⟩ => ?_)
    subst hr
    exact wpAny_execs_nil ⟨σ3, H3, I4, qn⟩
  · refine wpAny_passesOwn hp (thn (T.item X rfl rfl rfl hc i pins s3 σ3 H3 X.xe I3 (stat fr3) st3 go) fun r s4 ⟨u, hr, h4⟩ => ?_)
    subst hr
    refine wpAny_passesOwn hp (thn h4 fun _ s5 ⟨x, H5, I5, r5, y5, st5, fr5⟩ => ?_)
    have I5' := I5.pinned (stat fr5) (T.obj _ _ st5)
    refine wpAny_passesOwn hp (thn (hg _ s5 σ3 H5 x u _ I5' r5 (step x H5 y5)) fun _ s6 ⟨σ6, H6, I6, q6⟩ => ?_)
    refine wpAny_passesOwn hp (thn (hb _ s6 σ6 H6 _ I6 q6) fun f s7 q7 => ?_)
    have again : ∀ {σ7 : St} {H7 : Hp}, Inv X (pins ++ pinsAt fp s5.heap) σ7 H7 s7 → N σ7 H7 → ∃ m, m < n ∧ ∃ i σ' H', Inv X pins σ' H' s7 ∧ tn i s7.heap ∧ (∀ b ∈ fp, H' b = none) ∧ W i m σ' H' := fun {σ7 H7} I7 n7 => by
      obtain ⟨m', hm, w7⟩ := hN σ7 H7 n7
      refine ⟨m', hm, i + 1, σ7, H7, I7.unpinned, T.keep _ _ _ st5 fun b hb o e => (I7.pin (b, o) (List.mem_append_right _ (List.mem_append_right _ (mem_pinsAt hb e)))).1, fun b hb => ?_, w7⟩
      obtain ⟨o, e, d⟩ := T.obj _ _ st5 b hb
      exact (I7.pin (b, o) (List.mem_append_right _ (List.mem_append_right _ (mem_pinsAt hb e)))).2.1
    cases f with
    | next => obtain ⟨σ7, H7, I7, n7⟩ := q7; exact again I7 n7
    | cont => obtain ⟨σ7, H7, I7, n7⟩ := q7; exact again I7 n7
    | brk => obtain ⟨σ7, H7, I7, q7⟩ := q7; exact ⟨σ7, H7, I7.unpinned, q7⟩
    | ret v => obtain ⟨x7, σ7, H7, I7, r7, q7⟩ := q7; exact ⟨x7, σ7, H7, I7.unpinned, r7, q7⟩
end
theorem for_list {K : PySem.W.Frag} {a : Addr} {xs : List V} {g : TG} {tb : TS} {D : Ends} {σ : St} {H : Hp} (Pv : Nat → St → Hp → Prop) (h0 : Pv 0 σ H) (hl : ∀ i σ H, i ≤ xs.length → Pv i σ H → SqL K H a xs)
    (hs : ∀ i x σ H, xs[i]? = some x → Pv i σ H → g x σ H fun σ2 H2 => tb { D with nx := Pv (i + 1), ct := Pv (i + 1), bk := D.nx } σ2 H2) (hd : ∀ σ H, Pv xs.length σ H → D.nx σ H) :
    ∃ W : Nat → Nat → St → Hp → Prop, (∃ m, W 0 m σ H) ∧ ∀ i m σ H, W i m σ H →
      ((Itl K a).stop i H ∧ D.nx σ H) ∨ ((Itl K a).go i H ∧ ∃ N : St → Hp → Prop, (∀ σ' H', N σ' H' → ∃ m', m' < m ∧ W (i + 1) m' σ' H') ∧ ∀ x H', (Itl K a).yld i H x H' → g x σ H' fun σ2 H2 => tb { D with nx := N, ct := N, bk := D.nx } σ2 H2) := by
  refine ⟨fun i m σ H => m = xs.length - i ∧ i ≤ xs.length ∧ Pv i σ H, ⟨xs.length, by simp, Nat.zero_le _, h0⟩, ?_⟩
  rintro i m σ H ⟨rfl, hi, p⟩
  have q := hl i σ H hi p
  by_cases hlt : i < xs.length
  · refine .inr ⟨⟨xs, xs[i], q, by simp [hlt]⟩, Pv (i + 1), fun σ' H' p' => ⟨xs.length - (i + 1), by omega, rfl, hlt, p'⟩, fun x H' y => ?_⟩
    obtain ⟨e, y⟩ := y
    subst e
    exact hs i x σ _ (y xs q) p
  · have e : i = xs.length := by omega
    subst e
    exact .inl ⟨⟨xs, q, Nat.le_refl _⟩, hd σ H p⟩
theorem for_tup {K : PySem.W.Frag} {a : Addr} {xs : List V} {g : TG} {tb : TS} {D : Ends} {σ : St} {H : Hp} (Pv : Nat → St → Hp → Prop) (h0 : Pv 0 σ H) (hl : ∀ i σ H, i ≤ xs.length → Pv i σ H → SqT K H a xs)
    (hs : ∀ i x σ H, xs[i]? = some x → Pv i σ H → g x σ H fun σ2 H2 => tb { D with nx := Pv (i + 1), ct := Pv (i + 1), bk := D.nx } σ2 H2) (hd : ∀ σ H, Pv xs.length σ H → D.nx σ H) :
    ∃ W : Nat → Nat → St → Hp → Prop, (∃ m, W 0 m σ H) ∧ ∀ i m σ H, W i m σ H →
      ((Itt K a).stop i H ∧ D.nx σ H) ∨ ((Itt K a).go i H ∧ ∃ N : St → Hp → Prop, (∀ σ' H', N σ' H' → ∃ m', m' < m ∧ W (i + 1) m' σ' H') ∧ ∀ x H', (Itt K a).yld i H x H' → g x σ H' fun σ2 H2 => tb { D with nx := N, ct := N, bk := D.nx } σ2 H2) := by
  refine ⟨fun i m σ H => m = xs.length - i ∧ i ≤ xs.length ∧ Pv i σ H, ⟨xs.length, by simp, Nat.zero_le _, h0⟩, ?_⟩
  rintro i m σ H ⟨rfl, hi, p⟩
  have q := hl i σ H hi p
  by_cases hlt : i < xs.length
  · refine .inr ⟨⟨xs, xs[i], q, by simp [hlt]⟩, Pv (i + 1), fun σ' H' p' => ⟨xs.length - (i + 1), by omega, rfl, hlt, p'⟩, fun x H' y => ?_⟩
    obtain ⟨e, y⟩ := y
    subst e
    exact hs i x σ _ (y xs q) p
  · have e : i = xs.length := by omega
    subst e
    exact .inl ⟨⟨xs, q, Nat.le_refl _⟩, hd σ H p⟩
theorem for_range {lo : Int} {n : Nat} {g : TG} {tb : TS} {D : Ends} {σ : St} {H : Hp} (Pv : Nat → St → Hp → Prop) (h0 : Pv 0 σ H)
    (hs : ∀ i σ H, i < n → Pv i σ H → g (.int (lo + i)) σ H fun σ2 H2 => tb { D with nx := Pv (i + 1), ct := Pv (i + 1), bk := D.nx } σ2 H2) (hd : ∀ σ H, Pv n σ H → D.nx σ H) :
    ∃ W : Nat → Nat → St → Hp → Prop, (∃ m, W 0 m σ H) ∧ ∀ i m σ H, W i m σ H →
      ((Itr lo n).stop i H ∧ D.nx σ H) ∨ ((Itr lo n).go i H ∧ ∃ N : St → Hp → Prop, (∀ σ' H', N σ' H' → ∃ m', m' < m ∧ W (i + 1) m' σ' H') ∧ ∀ x H', (Itr lo n).yld i H x H' → g x σ H' fun σ2 H2 => tb { D with nx := N, ct := N, bk := D.nx } σ2 H2) := by
  refine ⟨fun i m σ H => m = n - i ∧ i ≤ n ∧ Pv i σ H, ⟨n, by simp, Nat.zero_le _, h0⟩, ?_⟩
  rintro i m σ H ⟨rfl, hi, p⟩
  by_cases hlt : i < n
  · refine .inr ⟨hlt, Pv (i + 1), fun σ' H' p' => ⟨n - (i + 1), by omega, rfl, hlt, p'⟩, fun x H' y => ?_⟩
    obtain ⟨e, y⟩ := y
    subst e y
    exact hs i σ _ hlt p
  · have e : i = n := by omega
    subst e
    exact .inl ⟨Nat.le_refl _, hd σ H p⟩
end L2
namespace L2
open PySem PySem.Spec PyProof.Rows
abbrev R2 := V → V → Hp → VK → Prop
def OpR (X : Cx) (f : Value → Value → Sem Value) (r : R2) : Prop :=
  ∀ (pins : List (Addr × Obj)) (s : Shared) (σ : St) (H : Hp) (x y : V) (v u : Value) (Q : VK), Inv X pins σ H s → RelV x v → RelV y u → r x y H Q →
    wpAny (model X.prog X.w) X.A (f v u) (EP X pins σ Q) X.xe s
def UnR (X : Cx) (f : Value → Sem Value) (r : V → Hp → VK → Prop) : Prop :=
  ∀ (pins : List (Addr × Obj)) (s : Shared) (σ : St) (H : Hp) (x : V) (v : Value) (Q : VK), Inv X pins σ H s → RelV x v → r x H Q →
    wpAny (model X.prog X.w) X.A (f v) (EP X pins σ Q) X.xe s
def CallR (X : Cx) (f : Value) (r : List V → Hp → VK → Prop) : Prop :=
  ∀ (pins : List (Addr × Obj)) (s : Shared) (σ : St) (H : Hp) (xs : List V) (us : List Value) (Q : VK), Inv X pins σ H s → Vals xs us → r xs H Q →
    wpAny (model X.prog X.w) X.A (call f us) (EP X pins σ Q) X.xe s
def tOp (r : R2) (ta tb : TE) : TE := fun σ H Q => ta σ H fun x H1 => tb σ H1 fun y H2 => r x y H2 Q
def tUn (r : V → Hp → VK → Prop) (ta : TE) : TE := fun σ H Q => ta σ H fun x H1 => r x H1 Q
def rI (C : Int → Int → Prop) (g : Int → Int → V) : R2 := fun x y H Q => ∃ i j, x = .int i ∧ y = .int j ∧ C i j ∧ Q (g i j) H
def rI0 (g : Int → Int → V) : R2 := fun x y H Q => ∃ i j, x = .int i ∧ y = .int j ∧ Q (g i j) H
def rU (g : Int → V) : V → Hp → VK → Prop := fun x H Q => ∃ i, x = .int i ∧ Q (g i) H
section
variable {X : Cx} {a b c : Expr} {ta tb tc : TE} {pos : Pos}
theorem binT (ha : PE X a ta) (hb : PE X b tb) {pins : List (Addr × Obj)} {s : Shared} {σ : St} {H : Hp} {R : V → V → Hp → Prop} (I : Inv X pins σ H s)
    (h : ta σ H fun x H1 => tb σ H1 fun y H2 => R x y H2) {Q : Value → Shared → Prop} {f : Value → Value → Sem Value}
    (hf : ∀ v u s2 x y H2, Inv X pins σ H2 s2 → RelV x v → RelV y u → R x y H2 → wpAny (model X.prog X.w) X.A (f v u) Q X.xe s2) :
    wpAny (model X.prog X.w) X.A (eval a X.env) (fun v s₁ => wpAny (model X.prog X.w) X.A (eval b X.env) (fun u s₂ => wpAny (model X.prog X.w) X.A (f v u) Q X.xe s₂) X.xe s₁) X.xe s := by
  refine thn (ha pins s σ H _ I h) fun v s1 ⟨x, H1, I1, r1, q1⟩ => ?_
  refine thn (hb pins s1 σ H1 _ I1 q1) fun u s2 ⟨y, H2, I2, r2, q2⟩ => ?_
  exact hf v u s2 x y H2 I2 r1 r2 q2
theorem pe_op {op : Operator} {r : R2} (ho : OpR X (binaryOp op) r) (ha : PE X a ta) (hb : PE X b tb) : PE X (.BinOp a op b pos) (tOp r ta tb) := by
  intro pins s σ H Q I h
  exact wpAny_BinOp (binT ha hb I h fun v u s2 x y H2 I2 rx ry q => ho pins s2 σ H2 x y v u Q I2 rx ry q)
theorem pe_un {op : UnaryOp} {r : V → Hp → VK → Prop} (ho : UnR X (unaryOp op) r) (ha : PE X a ta) : PE X (.UnaryOp op a pos) (tUn r ta) := by
  intro pins s σ H Q I h
  exact UnaryOp_ (thn (ha pins s σ H _ I h) fun v s1 ⟨x, H1, I1, r1, q1⟩ => ho pins s1 σ H1 x v Q I1 r1 q1)
theorem opI {f : Value → Value → Sem Value} {C : Int → Int → Prop} {g : Int → Int → Int}
    (rule : ∀ (i j : Int) (t u : Tok) (s : Shared) (Q : Value → Shared → Prop) (E : Value → Shared → Prop), C i j → Q (.int (g i j) s.toks) { s with toks := s.toks + 1 } → wpAny (model X.prog X.w) X.A (f (.int i t) (.int j u)) Q E s) :
    OpR X f (rI C fun i j => .int (g i j)) := by
  intro pins s σ H x y v u Q I rx ry h
  obtain ⟨i, j, rfl, rfl, hc, q⟩ := h
  obtain ⟨t, rfl⟩ := rx
  obtain ⟨t', rfl⟩ := ry
  exact rule i j t t' s _ _ hc ⟨.int (g i j), H, I.tok _, ⟨_, rfl⟩, q⟩
theorem opI0 {f : Value → Value → Sem Value} {g : Int → Int → Int}
    (rule : ∀ (i j : Int) (t u : Tok) (s : Shared) (Q : Value → Shared → Prop) (E : Value → Shared → Prop), Q (.int (g i j) s.toks) { s with toks := s.toks + 1 } → wpAny (model X.prog X.w) X.A (f (.int i t) (.int j u)) Q E s) :
    OpR X f (rI0 fun i j => .int (g i j)) := by
  intro pins s σ H x y v u Q I rx ry h
  obtain ⟨i, j, rfl, rfl, q⟩ := h
  obtain ⟨t, rfl⟩ := rx
  obtain ⟨t', rfl⟩ := ry
  exact rule i j t t' s _ _ ⟨.int (g i j), H, I.tok _, ⟨_, rfl⟩, q⟩
theorem opB0 {f : Value → Value → Sem Value} {g : Int → Int → Bool}
    (rule : ∀ (i j : Int) (t u : Tok) (s : Shared) (Q : Value → Shared → Prop) (E : Value → Shared → Prop), Q (.bool (g i j)) s → wpAny (model X.prog X.w) X.A (f (.int i t) (.int j u)) Q E s) :
    OpR X f (rI0 fun i j => .bl (g i j)) := by
  intro pins s σ H x y v u Q I rx ry h
  obtain ⟨i, j, rfl, rfl, q⟩ := h
  obtain ⟨t, rfl⟩ := rx
  obtain ⟨t', rfl⟩ := ry
  exact rule i j t t' s _ _ ⟨.bl (g i j), H, I, rfl, q⟩
def CPow (i j : Int) : Prop := 0 ≤ j ∧ j ≤ 1000000 ∧ i.natAbs < 2 ^ 64
def CMul (i j : Int) : Prop := (-(2 ^ 64) < i ∧ i < 2 ^ 64) ∨ (-(2 ^ 64) < j ∧ j < 2 ^ 64)
theorem CMul.ok {i j : Int} (h : CMul i j) : IntMulOk i j := by
  rcases h with ⟨h1, h2⟩ | ⟨h1, h2⟩
  · exact .of_left (intBits_le_64 h1 h2)
  · exact .of_right (intBits_le_64 h1 h2)
theorem op_add : OpR X (binaryOp .Add) (rI0 fun i j => .int (i + j)) := opI0 fun _ _ _ _ _ _ _ q => add_int q
theorem op_sub : OpR X (binaryOp .Sub) (rI0 fun i j => .int (i - j)) := opI0 fun _ _ _ _ _ _ _ q => sub_int q
theorem op_mod : OpR X (binaryOp .Mod) (rI (fun _ j => 0 < j) fun i j => .int (i % j)) := opI fun i j _ _ _ _ _ hc q => by
  have h1 : (0 : Int) < j := hc
  exact mod_int' (by omega) (by rw [Int.fmod_eq_emod_of_nonneg i (by omega)]; exact q)
theorem op_pow : OpR X (binaryOp .Pow) (rI CPow fun i j => .int (i ^ j.toNat)) := opI fun _ _ _ _ _ _ _ hc q => pow_int_small hc.1 hc.2.1 hc.2.2 q
theorem unI {f : Value → Sem Value} {g : Int → Int}
    (rule : ∀ (i : Int) (t : Tok) (s : Shared) (Q : Value → Shared → Prop) (E : Value → Shared → Prop), Q (.int (g i) s.toks) { s with toks := s.toks + 1 } → wpAny (model X.prog X.w) X.A (f (.int i t)) Q E s) :
    UnR X f (rU fun i => .int (g i)) := by
  intro pins s σ H x v Q I rx h
  obtain ⟨i, rfl, q⟩ := h
  obtain ⟨t, rfl⟩ := rx
  exact rule i t s _ _ ⟨.int (g i), H, I.tok _, ⟨_, rfl⟩, q⟩
theorem un_neg : UnR X (unaryOp .USub) (rU fun i => .int (-i)) := unI fun _ _ _ _ _ q => neg_int q
end
def scal : V → V → Bool
  | .non, .non => true | .non, .int _ => true | .int _, .non => true | .non, .bl _ => true | .bl _, .non => true | .non, .str _ => true | .str _, .non => true
  | .int _, .int _ => true | .bl _, .bl _ => true | .str _, .str _ => true | .byt _, .byt _ => true
  | .int _, .str _ => true | .str _, .int _ => true | .bl _, .str _ => true | .str _, .bl _ => true
  | _, _ => false
def rEq : R2 := fun x y H Q => scal x y = true ∧ Q (.bl (decide (x = y))) H
def rNe : R2 := fun x y H Q => scal x y = true ∧ Q (.bl (!decide (x = y))) H
theorem dec_int {i j : Int} : decide (V.int i = V.int j) = (i == j) := by
  rw [Bool.eq_iff_iff]
  simp
theorem dec_bl {i j : Bool} : decide (V.bl i = V.bl j) = (i == j) := by
  rw [Bool.eq_iff_iff]
  simp
theorem dec_str {i j : Str} : decide (V.str i = V.str j) = (i == j) := by
  rw [Bool.eq_iff_iff]
  simp
theorem dec_byt {i j : Array UInt8} : decide (V.byt i = V.byt j) = (i.toList == j.toList) := by
  rw [Bool.eq_iff_iff]
  cases i
  cases j
  simp
section
variable {X : Cx} {a b c : Expr} {ta tb tc : TE} {pos : Pos}
theorem fin_bl {pins : List (Addr × Obj)} {σ : St} {H : Hp} {s : Shared} {Q : VK} {k k' : Bool} (I : Inv X pins σ H s) (q : Q (.bl k) H) (e : k = k') : EP X pins σ Q (.bool k') s := by
  subst e
  exact ⟨.bl k, H, I, rfl, q⟩
theorem op_eq : OpR X (compareOp .Eq) rEq := by
  intro pins s σ H x y v u Q I rx ry h
  obtain ⟨hs, q⟩ := h
  cases x with
  | non =>
    cases rx
    cases y with
    | non => cases ry; exact PySem.EqNone.eq_none_none (fin_bl I q (by simp))
    | bl j => cases ry; exact PySem.EqNone.eq_none_bool (fin_bl I q (by simp))
    | int j => obtain ⟨t', rfl⟩ := ry; exact PySem.EqNone.eq_none_int (fin_bl I q (by simp))
    | str j => obtain ⟨t', rfl⟩ := ry; exact PySem.EqNone.eq_none_str (fin_bl I q (by simp))
    | _ => exact absurd (show false = true from hs) Bool.false_ne_true
  | bl i =>
    cases rx
    cases y with
    | non => cases ry; exact PySem.EqNone.eq_bool_none (fin_bl I q (by simp))
    | bl j => cases ry; exact eq_bool (fin_bl I q dec_bl)
    | str j => obtain ⟨t', rfl⟩ := ry; exact PySem.EqMixed.eq_bool_str (fin_bl I q (by simp))
    | _ => exact absurd (show false = true from hs) Bool.false_ne_true
  | int i =>
    obtain ⟨t, rfl⟩ := rx
    cases y with
    | non => cases ry; exact PySem.EqNone.eq_int_none (fin_bl I q (by simp))
    | int j => obtain ⟨t', rfl⟩ := ry; exact eq_int (fin_bl I q dec_int)
    | str j => obtain ⟨t', rfl⟩ := ry; exact PySem.EqMixed.eq_int_str (fin_bl I q (by simp))
    | _ => exact absurd (show false = true from hs) Bool.false_ne_true
  | str i =>
    obtain ⟨t, rfl⟩ := rx
    cases y with
    | non => cases ry; exact PySem.EqNone.eq_str_none (fin_bl I q (by simp))
    | bl j => cases ry; exact PySem.EqMixed.eq_str_bool (fin_bl I q (by simp))
    | int j => obtain ⟨t', rfl⟩ := ry; exact PySem.EqMixed.eq_str_int (fin_bl I q (by simp))
    | str j => obtain ⟨t', rfl⟩ := ry; exact eq_str (fin_bl I q dec_str)
    | _ => exact absurd (show false = true from hs) Bool.false_ne_true
  | byt i =>
    obtain ⟨t, rfl⟩ := rx
    cases y with
    | byt j => obtain ⟨t', rfl⟩ := ry; exact PySem.W.eq_bytes (fin_bl I q dec_byt)
    | _ => exact absurd (show false = true from hs) Bool.false_ne_true
  | _ => cases y <;> exact absurd (show false = true from hs) Bool.false_ne_true
theorem op_ne : OpR X (compareOp .NotEq) rNe := by
  intro pins s σ H x y v u Q I rx ry h
  obtain ⟨hs, q⟩ := h
  cases x with
  | non =>
    cases rx
    cases y with
    | non => cases ry; exact PySem.EqNone.ne_none_none (fin_bl I q (by simp))
    | bl j => cases ry; exact PySem.EqNone.ne_none_bool (fin_bl I q (by simp))
    | int j => obtain ⟨t', rfl⟩ := ry; exact PySem.EqNone.ne_none_int (fin_bl I q (by simp))
    | str j => obtain ⟨t', rfl⟩ := ry; exact PySem.EqNone.ne_none_str (fin_bl I q (by simp))
    | _ => exact absurd (show false = true from hs) Bool.false_ne_true
  | bl i =>
    cases rx
    cases y with
    | non => cases ry; exact PySem.EqNone.ne_bool_none (fin_bl I q (by simp))
    | bl j => cases ry; exact ne_bool (fin_bl I q (congrArg not dec_bl))
    | str j => obtain ⟨t', rfl⟩ := ry; exact PySem.EqMixed.ne_bool_str (fin_bl I q (by simp))
    | _ => exact absurd (show false = true from hs) Bool.false_ne_true
  | int i =>
    obtain ⟨t, rfl⟩ := rx
    cases y with
    | non => cases ry; exact PySem.EqNone.ne_int_none (fin_bl I q (by simp))
    | int j => obtain ⟨t', rfl⟩ := ry; exact ne_int (fin_bl I q (congrArg not dec_int))
    | str j => obtain ⟨t', rfl⟩ := ry; exact PySem.EqMixed.ne_int_str (fin_bl I q (by simp))
    | _ => exact absurd (show false = true from hs) Bool.false_ne_true
  | str i =>
    obtain ⟨t, rfl⟩ := rx
    cases y with
    | non => cases ry; exact PySem.EqNone.ne_str_none (fin_bl I q (by simp))
    | bl j => cases ry; exact PySem.EqMixed.ne_str_bool (fin_bl I q (by simp))
    | int j => obtain ⟨t', rfl⟩ := ry; exact PySem.EqMixed.ne_str_int (fin_bl I q (by simp))
    | str j => obtain ⟨t', rfl⟩ := ry; exact ne_str (fin_bl I q (congrArg not dec_str))
    | _ => exact absurd (show false = true from hs) Bool.false_ne_true
  | byt i =>
    obtain ⟨t, rfl⟩ := rx
    cases y with
    | byt j => obtain ⟨t', rfl⟩ := ry; exact PySem.W.ne_bytes (fin_bl I q (congrArg not dec_byt))
    | _ => exact absurd (show false = true from hs) Bool.false_ne_true
  | _ => cases y <;> exact absurd (show false = true from hs) Bool.false_ne_true
theorem op_lt : OpR X (compareOp .Lt) (rI0 fun i j => .bl (decide (i < j))) := opB0 fun _ _ _ _ _ _ _ q => lt_int q
theorem op_le : OpR X (compareOp .LtE) (rI0 fun i j => .bl (decide (i ≤ j))) := opB0 fun _ _ _ _ _ _ _ q => le_int q
theorem nomark (b : Expr) {op : CmpOp} (h : op ≠ .In := by decide) (h2 : op ≠ .NotIn := by decide) : behindInMarks op b = false := by
  have e1 : (op == CmpOp.In) = false := by cases op <;> first | rfl | exact absurd rfl h
  have e2 : (op == CmpOp.NotIn) = false := by cases op <;> first | rfl | exact absurd rfl h2
  cases b <;> simp [behindInMarks, e1, e2]
theorem pe_cmpR {op : CmpOp} {r : R2} (ho : OpR X (compareOp op) r) (ha : PE X a ta) (hb : PE X b tb) (hm : behindInMarks op b = false) : PE X (.Compare a [op] [b] pos) (tOp r ta tb) := by
  intro pins s σ H Q I h
  exact wpAny_Compare1 (binT ha hb I h fun v u s2 x y H2 I2 rx ry q => ho pins s2 σ H2 x y v u Q I2 rx ry q) hm
def tTest (t : TE) : TT := fun σ H Q => t σ H fun x H' => ∃ k, x = .bl k ∧ Q k H'
theorem pt_cmpR {op : CmpOp} {r : R2} (ho : OpR X (compareOp op) r) (ha : PE X a ta) (hb : PE X b tb) (hm : behindInMarks op b = false) : PT X (.Compare a [op] [b] pos) (tTest (tOp r ta tb)) := by
  intro pins s σ H Q I h
  refine wpAny_isTrue_Compare1 (thn (ha pins s σ H _ I h) fun v s1 ⟨x, H1, I1, r1, q1⟩ => thn (hb pins s1 σ H1 _ I1 q1) fun u s2 ⟨y, H2, I2, r2, q2⟩ =>
    thn (ho pins s2 σ H2 x y v u _ I2 r1 r2 q2) fun c s3 ⟨z, H3, I3, r3, k, e, q3⟩ => ?_) hm
  subst e
  cases r3
  exact wpAny_truthy_bool ⟨H3, I3, q3⟩
def tChain (r r' : R2) (ta tb tc : TE) : TE := fun σ H Q => ta σ H fun x H1 => tb σ H1 fun y H2 => r x y H2 fun z H3 => ∃ k, z = .bl k ∧
  (if k = true then tc σ H3 fun w' H4 => r' y w' H4 Q else Q (.bl false) H3)
theorem pt_chain {op op' : CmpOp} {r r' : R2} (ho : OpR X (compareOp op) r) (ho' : OpR X (compareOp op') r') (ha : PE X a ta) (hb : PE X b tb) (hc : PE X c tc)
    (hm : lastMarks [op, op'] [b, c] = false := by with_unfolding_all rfl) : PT X (.Compare a [op, op'] [b, c] pos) (tTest (tChain r r' ta tb tc)) := by
  intro pins s σ H Q I h
  refine isTrue_chain (thn (ha pins s σ H _ I h) fun v s1 ⟨x, H1, I1, r1, q1⟩ => test_link (thn (hb pins s1 σ H1 _ I1 q1) fun u s2 ⟨y, H2, I2, r2, q2⟩ =>
    thn (ho pins s2 σ H2 x y v u _ I2 r1 r2 q2) fun d s3 ⟨z, H3, I3, r3, k, e, q3⟩ => ?_)) hm
  subst e
  cases r3
  refine wpAny_truthy_bool ?_
  cases k with
  | false =>
    obtain ⟨k', e', q'⟩ := q3
    cases e'
    exact ite_ff ⟨H3, I3, q'⟩
  | true =>
    refine ite_tt (test_last (thn (hc pins s3 σ H3 _ I3 q3) fun w' s4 ⟨z', H4, I4, r4, q4⟩ => thn (ho' pins s4 σ H4 y z' u w' _ I4 r2 r4 q4) fun d' s5 ⟨z2, H5, I5, r5, k2, e2, q5⟩ => ?_))
    subst e2
    cases r5
    exact wpAny_truthy_bool ⟨H5, I5, q5⟩
def TruV (K : PySem.W.Frag) (x : V) (H : Hp) (k : Bool) : Prop :=
  match x with
  | .non => k = false
  | .bl b => k = b
  | .int i => k = (i != 0)
  | .str y => y.length ≤ sizeLine ∧ k = ((y.length : Int) != 0)
  | .byt y => y.size ≤ sizeLine ∧ k = ((y.size : Int) != 0)
  | .ref p => (∃ xs, SqL K H p xs ∧ k = !xs.isEmpty) ∨ (∃ xs, SqT K H p xs ∧ k = !xs.isEmpty) ∨ ∃ kvs, H p = some (.dK kvs) ∧ k = !kvs.isEmpty
  | _ => False
theorem line63 : (sizeLine : Nat) < 2 ^ 63 := by rw [sizeLine_eq]; decide
theorem op_add_str : OpR X (binaryOp .Add) (fun x y H Q => ∃ i j, x = .str i ∧ y = .str j ∧ i.length + j.length ≤ sizeLine ∧ Q (.str (i ++ j)) H) := by
  intro pins s σ H x y v u Q I rx ry h
  obtain ⟨i, j, rfl, rfl, hz, q⟩ := h
  obtain ⟨t, rfl⟩ := rx
  obtain ⟨t', rfl⟩ := ry
  exact add_str (fun t' tk => ⟨.str (i ++ j), H, I.tok _, ⟨_, rfl⟩, q⟩) hz
theorem vals1 {x : V} {us : List Value} (r : Vals [x] us) : ∃ u, us = [u] ∧ RelV x u := by
  cases r with
  | cons r1 r2 => cases r2; exact ⟨_, rfl, r1⟩
theorem vals2 {x y : V} {us : List Value} (r : Vals [x, y] us) : ∃ u w', us = [u, w'] ∧ RelV x u ∧ RelV y w' := by
  cases r with
  | cons r1 r2 =>
    cases r2 with
    | cons r3 r4 => cases r4; exact ⟨_, _, rfl, r1, r3⟩
theorem call_abs : CallR X (.builtin "abs") (fun xs H Q => ∃ i, xs = [.int i] ∧ Q (.int (if i < 0 then -i else i)) H) := by
  intro pins s σ H xs us Q I r h
  obtain ⟨i, rfl, q⟩ := h
  obtain ⟨u, rfl, t, rfl⟩ := vals1 r
  exact call_abs_int fun u tk => ⟨.int (if i < 0 then -i else i), H, I.tok _, ⟨_, rfl⟩, q⟩
theorem call_min2 (hc : X.calm = true) : CallR X (.builtin "min") (fun xs H Q => ∃ i j, xs = [.int i, .int j] ∧ Q (.int (if j < i then j else i)) H) := by
  intro pins s σ H xs us Q I r h
  obtain ⟨i, j, rfl, q⟩ := h
  obtain ⟨u, w', rfl, ⟨t, rfl⟩, ⟨t', rfl⟩⟩ := vals2 r
  refine min_two_ints (I.ok.hd hc) fun h' tk k => ⟨_, H, I.kept k, ?_, q⟩
  by_cases hj : j < i
  · rw [if_pos hj, if_pos hj]; exact ⟨_, rfl⟩
  · rw [if_neg hj, if_neg hj]; exact ⟨_, rfl⟩
theorem call_int1 : CallR X (.type "int") (fun xs H Q => (∃ i, xs = [.int i] ∧ Q (.int i) H) ∨ ∃ k, xs = [.bl k] ∧ Q (.int (if k then 1 else 0)) H) := by
  intro pins s σ H xs us Q I r h
  rcases h with ⟨i, rfl, q⟩ | ⟨k, rfl, q⟩
  · obtain ⟨u, rfl, t, rfl⟩ := vals1 r
    exact call_int_int ⟨.int i, H, I, ⟨_, rfl⟩, q⟩
  · obtain ⟨u, rfl, r1⟩ := vals1 r
    cases r1
    exact call_int_bool ⟨.int (if k then 1 else 0), H, I.tok _, ⟨_, rfl⟩, q⟩
end
end L2
namespace L2
open PySem PySem.Spec PyProof.Rows
structure ObjM (h : Heap) (x dx C : Addr) (mA : Str → Option Value) : Prop where
  obj : h.get? x = some (PySem.W.instObj C dx)
  ns : h.Ns1 dx mA
  ne : dx ≠ x
theorem lookIn_ns {h : Heap} {dx : Addr} {mA : Str → Option Value} (n : h.Ns1 dx mA) : ∃ od, h.get? dx = some od ∧ ∀ name, PySem.W.lookIn name od = some (mA name) := by
  obtain ⟨o, es, ep, ho, hd, hk, _, hm⟩ := n
  refine ⟨o, ho, fun name => ?_⟩
  have e := hm name
  unfold nsFind findBy at e
  rw [← Array.find?_toList] at e
  unfold PySem.W.lookIn
  rw [hd]
  dsimp only
  split
  · rename_i y q
    rw [q] at e
    exact congrArg some e
  · rename_i q
    rw [q] at e
    have a : es.toList.any (·.refKey) = false := by
      rw [List.any_eq_false]
      intro y hy
      obtain ⟨z, t, hkey⟩ := hk y (Array.mem_toList_iff.mp hy)
      simp [DictEntry.refKey, hkey]
    have a' : ¬ es.toList.any (·.refKey) = true := by rw [a]; exact Bool.false_ne_true
    rw [if_neg a']
    exact congrArg some e
theorem ObjM.look {h : Heap} {x dx C : Addr} {mA : Str → Option Value} (I : ObjM h x dx C mA) : ∃ od, PySem.W.InstAt h x (PySem.W.instObj C dx) C (some od) ∧ ∀ name, PySem.W.lookIn name od = some (mA name) :=
  let ⟨od, ho, hl⟩ := lookIn_ns I.ns
  ⟨od, ⟨I.obj, rfl, rfl, ho⟩, hl⟩
section
variable {prog : Program} {w : World} {A : Around} {E : Value → Shared → Prop} {s : Shared} {K : PySem.W.Frag} {x dx C f : Addr} {mA : Str → Option Value} {name : Str} {v : Value}
theorem get_map {expr : Bool} {Q : Value → Shared → Prop} (X : K.In s.heap) (I : ObjM s.heap x dx C mA) (hg : PySem.W.plainGet K C name = true) (hh : PySem.W.hasDictIn K C = true)
    (ha : PySem.W.findIn K (.ref C) name = some none) (hv : mA name = some v) (hv' : PySem.W.handedIn v = true) (h : Q v { s with toks := s.toks + 1 }) :
    wpAny (model prog w) A (getAttr (.ref x) name expr) Q E s := by
  obtain ⟨od, J, hl⟩ := I.look
  exact PySem.W.get_value X J (PySem.W.plainGet_of hg).1 (PySem.W.findObj_own hh ha rfl (by rw [hl, hv])) hv' h
theorem get_meth {pl : Sem Bool} {Q : Value × List Value → Shared → Prop} (X : K.In s.heap) (I : ObjM s.heap x dx C mA) (hg : PySem.W.plainGet K C name = true)
    (hf : PySem.W.findIn K (.ref C) name = some (some (.ref f))) (ht : PySem.W.isFn K (.ref f) = true) (hv : mA name = none) (h : Q (.ref f, [.ref x]) s) :
    wpAny (model prog w) A (getMethod (.ref x) name pl) Q E s := by
  obtain ⟨od, J, hl⟩ := I.look
  exact PySem.W.method_fn X J (PySem.W.plainGet_of hg).1 (PySem.W.plainGet_of hg).2 hf (beq_iff_eq.mp ht) (by show (PySem.W.lookIn name od).map (·.isSome) = some false; rw [hl, hv]; rfl) h
theorem set_map {ns : List Str} {Q : Unit → Shared → Prop} (X : K.In s.heap) (I : ObjM s.heap x dx C mA)
    (hs : PySem.W.findIn K (.ref C) "__setattr__" = some (some (.builtin "object.__setattr__"))) (hp : PySem.W.plainOver K C = true) (ht : PySem.W.takerIn K C name = some none) (hh : PySem.W.hasDictIn K C = true)
    (hw : PySem.Within mA ns) (hsz : ns.length ≤ sizeLine)
    (h : ∀ h', ObjM h' x dx C (fun y => if y = name then some v else mA y) → Heap.SameBut dx s.heap h' → Q () { s with heap := h', toks := s.toks + 2 }) :
    wpAny (model prog w) A (setAttr (.ref x) name v) Q E s := by
  obtain ⟨od, J, hl⟩ := I.look
  refine PySem.W.set_plain X J hs (PySem.W.osa_open (s := { s with toks := s.toks + 1 }) (r := none) X J hp ht fun b => ?_)
  obtain ⟨cd, hc, hd'⟩ := PySem.W.any_some hh
  have hx : s.heap.get? x = some ⟨.ref C, some dx, .plain, #[]⟩ := I.obj
  refine wpAny_bind (wpAny_pure (wpAny_bind (wpAny_bind (wpAny_loadPart hx (wpAny_bind (PySem.W.Looks.here (s := { s with toks := s.toks + 1 }) (PySem.W.looks_clsIn X hc) ?_))))))
  rw [hd']
  refine wpAny_pure (a := some dx) (wpAny_bind (wpAny_pure (wpAny_bind ?_)))
  refine wpAny_nsSet1 (s := { s with toks := s.toks + 1 }) I.ns fun h' hn2 hs2 => ?_
  obtain ⟨oD, esD, epD, hoD, hdD, hcD⟩ := hn2.count (PySem.Within.cons name v hw)
  refine wpAny_bind (wpAny_lookBehind hoD (by rw [hdD]; exact pastItsLine_dict (Nat.le_trans hcD (by rw [List.length_cons]; omega))) ?_)
  exact wpAny_pure (h _ ⟨(hs2.2 _ (Ne.symm I.ne)).trans I.obj, hn2, I.ne⟩ hs2)
theorem make_map {R : Result → Shared → Prop} {vs : List Value} {kw : List (Str × Value)} (X : K.In s.heap) (hm : PySem.W.makesIn K C = true)
    (hi : PySem.W.findIn K (.ref C) "__init__" = some (some (.ref f))) (hf : PySem.W.typeIn K (.ref f) = some (.type "function"))
    (h : codeAny (model prog w) (A.under (.builtin "type.__call__" ⟨.ref C :: vs, kw⟩)) (.call (.ref f) ⟨.ref (s.heap.objs.size + 1) :: vs, kw⟩) (PySem.W.InitBack (s.heap.objs.size + 1) R)
      { s with heap := (s.heap.push PySem.W.emptyDict).push (PySem.W.instObj C s.heap.objs.size) }) :
    codeAny (model prog w) A (.call (.ref C) ⟨vs, kw⟩) R s := by
  obtain ⟨hh, g, d, t, os⟩ := s
  exact PySem.W.make_core (PySem.W.makes_of X hm) (PySem.W.looks_findIn X hi) (fun self => PySem.W.bind_fn X self hf) (.inl rfl) h
end
def putF (f : Str) (v : V) : List (Str × V) → List (Str × V)
  | [] => [(f, v)]
  | (g, x) :: r => if g = f then (g, v) :: r else (g, x) :: putF f v r
theorem lookup_putF (f g : Str) (v : V) : ∀ fs : List (Str × V), (putF f v fs).lookup g = if g = f then some v else fs.lookup g
  | [] => by
    show List.lookup g [(f, v)] = _
    by_cases h : g = f
    · have hb : (g == f) = true := beq_iff_eq.mpr h
      simp only [List.lookup, hb, if_pos h]
    · have hb : (g == f) = false := beq_eq_false_iff_ne.mpr h
      simp only [List.lookup, hb, if_neg h]
  | (k, x) :: r => by
    have ih := lookup_putF f g v r
    rw [show putF f v ((k, x) :: r) = (if k = f then (k, v) :: r else (k, x) :: putF f v r) from rfl]
    by_cases hk : k = f
    · rw [if_pos hk]
      by_cases h : g = k
      · have hb : (g == k) = true := beq_iff_eq.mpr h
        simp only [List.lookup, hb, if_pos (h.trans hk)]
      · have hb : (g == k) = false := beq_eq_false_iff_ne.mpr h
        simp only [List.lookup, hb, if_neg (fun e : g = f => h (e.trans hk.symm))]
    · rw [if_neg hk]
      by_cases h : g = k
      · have hb : (g == k) = true := beq_iff_eq.mpr h
        simp only [List.lookup, hb, if_neg (fun e : g = f => hk (h.symm.trans e))]
      · have hb : (g == k) = false := beq_eq_false_iff_ne.mpr h
        simp only [List.lookup, hb]
        exact ih
theorem keys_putF (f : Str) (v : V) : ∀ fs : List (Str × V), f ∈ (putF f v fs).map (·.1) ∧ ∀ g, g ∈ fs.map (·.1) → g ∈ (putF f v fs).map (·.1)
  | [] => ⟨by simp [putF], fun g h => by simp at h⟩
  | (k, x) :: r => by
    obtain ⟨i1, i2⟩ := keys_putF f v r
    rw [show putF f v ((k, x) :: r) = (if k = f then (k, v) :: r else (k, x) :: putF f v r) from rfl]
    by_cases hk : k = f
    · rw [if_pos hk]
      subst hk
      exact ⟨by simp, fun g h => by simpa using h⟩
    · rw [if_neg hk]
      refine ⟨?_, fun g h => ?_⟩
      · rw [List.map_cons]
        exact List.mem_cons_of_mem _ i1
      · rw [List.map_cons] at h ⊢
        rcases List.mem_cons.mp h with e | e
        · exact List.mem_cons.mpr (.inl e)
        · exact List.mem_cons_of_mem _ (i2 g e)
theorem length_putF (f : Str) (v : V) : ∀ fs : List (Str × V), (putF f v fs).length ≤ fs.length + 1
  | [] => by simp [putF]
  | (k, x) :: r => by
    have ih := length_putF f v r
    rw [show putF f v ((k, x) :: r) = (if k = f then (k, v) :: r else (k, x) :: putF f v r) from rfl]
    by_cases hk : k = f
    · rw [if_pos hk, List.length_cons, List.length_cons]; omega
    · rw [if_neg hk, List.length_cons, List.length_cons]; omega
theorem RelO.some_of {v : V} {o : Option Value} (r : RelO (some v) o) : ∃ u, o = some u ∧ RelV v u := by
  cases o with
  | none => exact (show False from r).elim
  | some u => exact ⟨u, rfl, r⟩
theorem RelO.none_of {o : Option Value} (r : RelO none o) : o = none := by
  cases o with
  | none => rfl
  | some u => exact (show False from r).elim
theorem handed_of {v : V} {u : Value} (r : RelV v u) : PySem.W.handedIn u = true := by
  cases v with
  | non => cases (show u = Value.none from r); rfl
  | bl b => cases (show u = Value.bool b from r); rfl
  | int i => obtain ⟨t, e⟩ := (show ∃ t, u = Value.int i t from r); cases e; rfl
  | str x => obtain ⟨t, e⟩ := (show ∃ t, u = Value.str x t from r); cases e; rfl
  | byt b => obtain ⟨t, e⟩ := (show ∃ t, u = Value.bytes b t from r); cases e; rfl
  | flt b => obtain ⟨t, e⟩ := (show ∃ t, u = Value.float b t from r); cases e; rfl
  | ref a => cases (show u = Value.ref a from r); rfl
  | ty n => cases (show u = Value.type n from r); rfl
section
variable {P : Program} {w : World} {H H' : Hp} {h h' : Heap} {a C dx : Addr} {fs fs' : List (Str × V)}
theorem ins_get (hok : HOk P w H h) (e : H a = some (.ins C dx fs)) : ∃ mA, ObjM h a dx C mA ∧ (∀ f, RelO (fs.lookup f) (mA f)) ∧ PySem.Within mA (fs.map (·.1)) ∧ fs.length ≤ 1000 ∧ H dx = some (.own a) := by
  obtain ⟨d, z, ne, ob, mA, n, r, q⟩ := (show ObjOk P w H h a (.ins C dx fs) from hok a _ e)
  exact ⟨mA, ⟨ob, n, ne⟩, r, q, z, d⟩
end
structure Cls (K : PySem.W.Frag) (C : Addr) : Prop where
  pg : PySem.W.plainGet K C Str.empty = true
  hd : PySem.W.hasDictIn K C = true
  po : PySem.W.plainOver K C = true
  sa : PySem.W.findIn K (.ref C) "__setattr__" = some (some (.builtin "object.__setattr__"))
theorem Cls.get {K : PySem.W.Frag} {C : Addr} (c : Cls K C) (f : Str) : PySem.W.plainGet K C f = true := c.pg
def NoAttr (K : PySem.W.Frag) (C : Addr) (f : Str) : Prop := PySem.W.findIn K (.ref C) f = some none
theorem NoAttr.taker {K : PySem.W.Frag} {C : Addr} {f : Str} (n : NoAttr K C f) : PySem.W.takerIn K C f = some none := by
  unfold PySem.W.takerIn
  rw [show PySem.W.findIn K (.ref C) f = some none from n]
  rfl
structure Meth (K : PySem.W.Frag) (C : Addr) (m : Str) (f : Addr) : Prop where
  at_ : PySem.W.findIn K (.ref C) m = some (some (.ref f))
  fn : PySem.W.isFn K (.ref f) = true
  kp : PySem.W.keepIn K (.ref f) = true
section
variable {X : Cx} {pins : List (Addr × Obj)} {σ : St} {H : Hp} {s : Shared} {a C dx : Addr} {fs : List (Str × V)} {f : Str} {v : V} {A : Around} {E : Value → Shared → Prop}
theorem getattr_ok {b : Bool} {Q : Value → Shared → Prop} (I : Inv X pins σ H s) (e : H a = some (.ins C dx fs)) (c : Cls X.K C) (n : NoAttr X.K C f) (l : fs.lookup f = some v)
    (h : ∀ u s', Inv X pins σ H s' → RelV v u → Q u s') : wpAny (model X.prog X.w) A (getAttr (.ref a) f b) Q E s := by
  obtain ⟨mA, O, r, _, _, _⟩ := ins_get I.hok e
  obtain ⟨u, hu, ru⟩ := RelO.some_of (v := v) (o := mA f) (by rw [← l]; exact r f)
  exact get_map I.kIn O (c.get f) c.hd n hu (handed_of ru) (h u _ (I.tok _) ru)
theorem getmeth_ok {m : Str} {g : Addr} {pl : Sem Bool} {Q : Value × List Value → Shared → Prop} (I : Inv X pins σ H s) (e : H a = some (.ins C dx fs)) (c : Cls X.K C) (k : Meth X.K C m g) (l : fs.lookup m = none)
    (h : Q (.ref g, [.ref a]) s) : wpAny (model X.prog X.w) A (getMethod (.ref a) m pl) Q E s := by
  obtain ⟨mA, O, r, _, _, _⟩ := ins_get I.hok e
  have hn : mA m = none := RelO.none_of (by rw [← l]; exact r m)
  exact get_meth I.kIn O (c.get m) k.at_ k.fn hn h
theorem setattr_ok {y : V} {u : Value} {Q : Unit → Shared → Prop} (I : Inv X pins σ H s) (e : H a = some (.ins C dx fs)) (c : Cls X.K C) (n : NoAttr X.K C f) (hl : fs.length < 1000) (ry : RelV y u)
    (h : ∀ s', Inv X pins σ (upd H a (.ins C dx (putF f y fs))) s' → Q () s') : wpAny (model X.prog X.w) A (setAttr (.ref a) f u) Q E s := by
  obtain ⟨mA, O, r, wi, _, ho⟩ := ins_get I.hok e
  have hz : (fs.map (·.1)).length ≤ sizeLine := by rw [List.length_map, sizeLine_eq]; omega
  refine set_map I.kIn O c.sa c.po n.taker c.hd wi hz fun h' O' sb => h _ ?_
  have hd : ∃ o, h'.get? dx = some o := let ⟨o, _, _, e', _⟩ := O'.ns; ⟨o, e'⟩
  refine I.write (x := a) (e := dx) (by rw [e]; exact True.intro) (.inr ho) (fun b q hb z => (sb.2 b hb).trans z) hd ?_
  refine ⟨by rw [upd_ne O.ne]; exact ho, ?_, O.ne, O'.obj, _, O'.ns, fun g => ?_, fun g hg => ?_⟩
  · have := length_putF f y fs; omega
  · show RelO ((putF f y fs).lookup g) (if g = f then some u else mA g)
    rw [lookup_putF]
    by_cases q : g = f
    · rw [if_pos q, if_pos q]; exact ry
    · rw [if_neg q, if_neg q]; exact r g
  · by_cases q : g = f
    · rw [q]; exact (keys_putF f y fs).1
    · refine (keys_putF f y fs).2 g (wi g fun z => hg ?_)
      show (if g = f then some u else mA g) = none
      rw [if_neg q]; exact z
theorem Inv.made (I : Inv X pins σ H s) : Inv X pins σ (upd (upd H s.heap.objs.size (.own (s.heap.objs.size + 1))) (s.heap.objs.size + 1) (.ins C s.heap.objs.size []))
    { s with heap := (s.heap.push PySem.W.emptyDict).push (PySem.W.instObj C s.heap.objs.size) } := by
  have e1 : (s.heap.push PySem.W.emptyDict).get? s.heap.objs.size = some PySem.W.emptyDict := Heap.get?_push_size s.heap rfl
  have e2 : ((s.heap.push PySem.W.emptyDict).push (PySem.W.instObj C s.heap.objs.size)).get? (s.heap.objs.size + 1) = some (PySem.W.instObj C s.heap.objs.size) := by
    have := Heap.get?_push_size (s.heap.push PySem.W.emptyDict) (o := PySem.W.instObj C s.heap.objs.size) rfl
    rwa [Heap.size_push] at this
  have e3 : (s.heap.push PySem.W.emptyDict).Ns s.heap.objs.size (fun _ => none) := ⟨PySem.W.emptyDict, #[], _, e1, rfl, (fun e he => absurd he (by simp)), fun _ => rfl⟩
  have I1 := I.laid (a := s.heap.objs.size) (o := .own (s.heap.objs.size + 1)) (h' := s.heap.push PySem.W.emptyDict) (t' := s.toks) (fun b u q => Heap.get?_push_of_some _ q) (Nat.le_refl _) ⟨_, e1⟩
  refine I1.laid (a := s.heap.objs.size + 1) (o := .ins C s.heap.objs.size []) (t' := s.toks) (fun b u q => Heap.get?_push_of_some _ q) (Nat.le_of_eq (Heap.size_push _ _)) ?_
  have ne : s.heap.objs.size ≠ s.heap.objs.size + 1 := Nat.ne_of_lt (Nat.lt_succ_self _)
  refine ⟨by rw [upd_ne ne, upd_same], Nat.zero_le _, ne, e2, fun _ => none, (Heap.Ns1.of_empty e3).at fun o q => Heap.get?_push_of_some _ q, fun _ => True.intro, fun y hy => absurd rfl hy⟩
theorem attr_of {prog : Program} {w : World} {env : Env} {e : Expr} {f : Str} {pos : Pos} {s : Shared} {Q : Value → Shared → Prop} (hb : attributeBase e f env (eval e env) = eval e env)
    (h : wpAny (model prog w) A (eval e env) (fun o s₁ => wpAny (model prog w) A (getAttr o f true) Q E s₁) E s) : wpAny (model prog w) A (eval (.Attribute e f pos) env) Q E s :=
  Attribute_any_ h (by rw [arm_eval_Attribute, hb])
end
def tFld (K : PySem.W.Frag) (ta : TE) (f : Str) : TE := fun σ H Q => ta σ H fun x H1 => ∃ a C dx fs v, x = .ref a ∧ H1 a = some (.ins C dx fs) ∧ Cls K C ∧ NoAttr K C f ∧ fs.lookup f = some v ∧ Q v H1
def sFld (K : PySem.W.Frag) (ta tv : TE) (f : Str) : TS := fun D σ H => tv σ H fun y H1 => ta σ H1 fun x H2 => ∃ a C dx fs, x = .ref a ∧ H2 a = some (.ins C dx fs) ∧ Cls K C ∧ NoAttr K C f ∧ fs.length < 1000 ∧
  D.nx σ (upd H2 a (.ins C dx (putF f y fs)))
section
variable {X : Cx} {o e value : Expr} {f : Str} {pos pos' tpos : Pos} {ta tv : TE}
theorem pe_fld (he : PE X e ta) (hb : attributeBase e f X.env (eval e X.env) = eval e X.env) : PE X (.Attribute e f pos) (tFld X.K ta f) := by
  intro pins s σ H Q I h
  refine attr_of hb (thn (he pins s σ H _ I h) fun u s1 ⟨x, H1, I1, rx, a, C, dx, fs, v, ex, ea, c, n, l, q⟩ => ?_)
  subst ex
  obtain rfl : u = Value.ref a := rx
  exact getattr_ok I1 ea c n l fun u' s2 I2 ru => ⟨v, H1, I2, ru, q⟩
theorem ps_fld (ha : PE X o ta) (hv : PE X value tv) (hs : swapsWith value (some (.Attribute o f pos')) pos.line X.env = pure false) : PS X (.Assign [.Attribute o f pos'] value pos) (sFld X.K ta tv f) := by
  intro pins s σ H D I h
  refine plainObj_wpAny_Assign_Attribute (thn (hv pins s σ H _ I h) fun u s1 ⟨y, H1, I1, ry, q⟩ => thn (ha pins s1 σ H1 _ I1 q) fun ov s2 ⟨x, H2, I2, rx, a, C, dx, fs, ex, ea, c, n, l, q2⟩ => ?_) hs
  subst ex
  obtain rfl : ov = Value.ref a := rx
  exact setattr_ok I2 ea c n l ry fun s3 I3 => ⟨σ, _, I3, q2⟩
end
section
variable {X : Cx} {pins : List (Addr × Obj)} {σ : St} {H : Hp} {s : Shared} {A : Around} {E : Value → Shared → Prop} {Q : Value → Shared → Prop} {c : Value} {b : Bool}
inductive TyOf (K : PySem.W.Frag) (H : Hp) : V → Value → Prop where
  | non : TyOf K H .non (.type "NoneType")
  | bl (x : Bool) : TyOf K H (.bl x) (.type "bool")
  | int (i : Int) : TyOf K H (.int i) (.type "int")
  | str (x : Str) : TyOf K H (.str x) (.type "str")
  | flt (x : UInt64) : TyOf K H (.flt x) (.type "float")
  | lst {a : Addr} {xs : List V} (e : H a = some (.lst xs)) : TyOf K H (.ref a) (.type "list")
  | frz {a : Addr} {o : Obj} {xs : List V} (e : H a = some (.frz o (.lst xs))) : TyOf K H (.ref a) (.type "list")
  | tup {a : Addr} {xs : List V} (e : H a = some (.tup xs)) : TyOf K H (.ref a) (.type "tuple")
  | dK {a : Addr} {kvs : List (Key × V)} (e : H a = some (.dK kvs)) : TyOf K H (.ref a) (.type "dict")
  | dT {a : Addr} {kvs : List (List Key × V)} (e : H a = some (.dT kvs)) : TyOf K H (.ref a) (.type "dict")
  | ins {a C dx : Addr} {fs : List (Str × V)} (e : H a = some (.ins C dx fs)) (cl : Cls K C) (ha : PySem.W.findIn K (.ref C) "__class__" = some (some (.builtin "object.__class__")))
      (hn : PySem.W.specialIn K (.builtin "object.__class__") "__get__" = some (some (.builtin "getset_descriptor.__get__"))) (htk : PySem.W.takesIn K (.builtin "object.__class__") = some true)
      (hm : PySem.W.mroIn K C (.type "object") = some true) : TyOf K H (.ref a) (.ref C)
theorem isinst_ok {x : V} {u t : Value} (I : Inv X pins σ H s) (rx : RelV x u) (ty : TyOf X.K H x t) (e : PySem.W.kitOne X.K t c = some b) (h : ∀ tk, Q (.bool b) { s with toks := tk }) :
    wpAny (model X.prog X.w) A (call (.builtin "isinstance") [u, c]) Q E s := by
  cases ty with
  | non => cases (show u = Value.none from rx); exact PySem.W.kia_one PySem.W.kitx_none I.kIn True.intro e (fun z => nomatch z) h
  | bl y => cases (show u = Value.bool y from rx); exact PySem.W.kia_one PySem.W.kitx_bool I.kIn True.intro e (fun z => nomatch z) h
  | int i => obtain ⟨t, q⟩ := (show ∃ t, u = Value.int i t from rx); cases q; exact PySem.W.kia_one PySem.W.kitx_int I.kIn True.intro e (fun z => nomatch z) h
  | str y => obtain ⟨t, q⟩ := (show ∃ t, u = Value.str y t from rx); cases q; exact PySem.W.kia_one PySem.W.kitx_str I.kIn True.intro e (fun z => nomatch z) h
  | flt y => obtain ⟨t, q⟩ := (show ∃ t, u = Value.float y t from rx); cases q; exact PySem.W.kia_one PySem.W.kitx_float I.kIn True.intro e (fun z => nomatch z) h
  | @lst a xs ea =>
    cases (show u = Value.ref a from rx)
    obtain ⟨_, _, n, _, h1⟩ := (show ObjOk X.prog X.w H s.heap a (.lst xs) from I.hok a _ ea)
    exact PySem.W.kia_one PySem.W.kitx_list I.kIn ⟨_, h1, rfl⟩ e (fun z => nomatch z) h
  | @frz a ob xs ea =>
    cases (show u = Value.ref a from rx)
    obtain ⟨_, _, _, n, _, h1⟩ := (show ObjOk X.prog X.w H s.heap a (.frz ob (.lst xs)) from I.hok a _ ea)
    exact PySem.W.kia_one PySem.W.kitx_list I.kIn ⟨_, h1, rfl⟩ e (fun z => nomatch z) h
  | @tup a xs ea =>
    cases (show u = Value.ref a from rx)
    obtain ⟨_, _, _, p⟩ := (show ObjOk X.prog X.w H s.heap a (.tup xs) from I.hok a _ ea)
    obtain ⟨o, h1, h2, _⟩ := p
    exact PySem.W.kia_one PySem.W.kitx_tuple I.kIn ⟨o, h1, h2⟩ e (fun z => nomatch z) h
  | @dK a kvs ea =>
    cases (show u = Value.ref a from rx)
    obtain ⟨_, _, vs, _, p⟩ := (show ObjOk X.prog X.w H s.heap a (.dK kvs) from I.hok a _ ea)
    obtain ⟨o, es, ep, h1, h2, _⟩ := p
    exact PySem.W.kia_one PySem.W.kitx_dict I.kIn ⟨o, h1, h2.1⟩ e (fun z => nomatch z) h
  | @dT a kvs ea =>
    cases (show u = Value.ref a from rx)
    obtain ⟨_, _, xs, _, o, es, ep, h1, h2, _⟩ := (show ObjOk X.prog X.w H s.heap a (.dT kvs) from I.hok a _ ea)
    exact PySem.W.kia_one PySem.W.kitx_dict I.kIn ⟨o, h1, h2.1⟩ e (fun z => nomatch z) h
  | @ins a C dx fs ea cl ha hn htk hm =>
    cases (show u = Value.ref a from rx)
    obtain ⟨mA, O, _⟩ := ins_get I.hok ea
    obtain ⟨od, J, _⟩ := O.look
    exact PySem.W.kia_one (PySem.W.kitx_own (cl.get _) cl.hd ha hn htk hm) I.kIn J e (fun z => nomatch z) h
end
end L2
namespace L2
open PySem PySem.Spec PyProof.Rows
structure Room (k : Nat) (A : Around) : Prop where
  hd : A.handled = none
  dp : A.depth + 3 * k + 5 < recursionLimit
  un : A.units + 16 * k + 200 < cLine
theorem Room.mono {j k : Nat} {A : Around} (r : Room k A) (h : j ≤ k) : Room j A := ⟨r.hd, by have := r.dp; omega, by have := r.un; omega⟩
theorem Room.deeper {k : Nat} {A : Around} (r : Room (k + 1) A) (env : Env) : Room k (A.deeper env) :=
  ⟨r.hd, by have := r.dp; show A.depth + 1 + 3 * k + 5 < _; omega, by have := r.un; show A.units + 3 + 16 * k + 200 < _; omega⟩
theorem Room.in1 {k : Nat} {A : Around} (r : Room (k + 1) A) : Room k A.in1 :=
  ⟨r.hd, by have := r.dp; show A.depth + 3 * k + 5 < _; omega, by have := r.un; show A.units + 1 + 16 * k + 200 < _; omega⟩
theorem make_depth {A : Around} {C : Addr} {us : List Value} {kw : List (Str × Value)} : (A.under (.builtin "type.__call__" ⟨.ref C :: us, kw⟩)).depth = A.depth + 1 := by
  first | rfl | simp [Around.under, Code.weight, Code.isCreation, Code.isGuard, Code.isCaller, Code.frames, Code.isFrame, guardIds]
theorem make_units {A : Around} {C : Addr} {us : List Value} {kw : List (Str × Value)} : (A.under (.builtin "type.__call__" ⟨.ref C :: us, kw⟩)).units = A.units + 1 := by
  first | rfl | simp [Around.under, Code.cUnits, Code.frames, Code.isFrame]
theorem Room.make {k : Nat} {A : Around} (r : Room (k + 1) A) (C : Addr) (us : List Value) (kw : List (Str × Value)) : Room k (A.under (.builtin "type.__call__" ⟨.ref C :: us, kw⟩)) :=
  ⟨r.hd, by have := r.dp; rw [make_depth]; omega, by have := r.un; rw [make_units]; omega⟩
theorem Room.depth {k : Nat} {A : Around} (r : Room k A) : A.depth < recursionLimit := by have := r.dp; omega
theorem Room.units {k : Nat} {A : Around} (r : Room k A) : A.units + 64 < cLine := by have := r.un; omega
def tNil : TA := fun _ H Q => Q [] H
def tCons (ta : TE) (tr : TA) : TA := fun σ H Q => ta σ H fun x H1 => tr σ H1 fun xs H2 => Q (x :: xs) H2
section
variable {X : Cx} {e : Expr} {es : List Expr} {te : TE} {t : TA} {pos : Pos}
theorem pa_nil : PA X [] tNil := fun _ _ _ _ H Q I h => Calls.spliced_nil ⟨[], H, I, .nil, h⟩
theorem pa_cons (ha : PE X e te) (hr : PA X es t) (hs : starEach (e :: es) X.env = (false, eval e X.env) :: starEach es X.env := by rfl) : PA X (e :: es) (tCons te t) := by
  intro pos pins s σ H Q I h
  rw [hs]
  show wpAny _ _ (spliced ((false, eval e X.env) :: backTo pos (starEach es X.env))) _ _ s
  refine Calls.spliced_cons (thn (ha pins s σ H _ I h) fun u s1 ⟨x, H1, I1, r1, q1⟩ => ?_)
  exact thn (hr pos pins s1 σ H1 _ I1 q1) fun us s2 ⟨xs, H2, I2, r2, q2⟩ => ⟨x :: xs, H2, I2, .cons r1 r2, q2⟩
def tTup (t : TA) : TE := fun σ H Q => t σ H fun xs H1 => xs.length ≤ sizeLine ∧ ∀ p, H1 p = none → Q (.ref p) (upd H1 p (.tup xs))
def tLst (t : TA) : TE := fun σ H Q => t σ H fun xs H1 => xs.length ≤ sizeLine ∧ ∀ p, H1 p = none → Q (.ref p) (upd H1 p (.lst xs))
theorem pe_tup {x1} (h : PA X es t) : PE X (.Tuple es x1 pos) (tTup t) := by
  intro pins s σ H Q I hq
  refine wpAny_Tuple_spliced (thn (h pos pins s σ H _ I hq) fun us s1 ⟨xs, H1, I1, r, z, q⟩ => ⟨by rw [← r.length]; exact z, ?_⟩)
  have hf : H1 s1.heap.objs.size = none := I1.hok.fresh (Nat.le_refl _)
  refine ⟨.ref s1.heap.objs.size, upd H1 s1.heap.objs.size (.tup xs), I1.laid (t' := s1.toks) (fun b u e => Heap.get?_push_of_some _ e) (Nat.le_refl _) ?_, rfl, q _ hf⟩
  exact ⟨z, us, r, ⟨_, Heap.get?_push_size _ rfl, rfl, _, rfl⟩⟩
theorem pe_lst (h : PA X es t) : PE X (.List es pos) (tLst t) := by
  intro pins s σ H Q I hq
  refine wpAny_List_spliced (thn (h pos pins s σ H _ I hq) fun us s1 ⟨xs, H1, I1, r, z, q⟩ => ⟨by rw [← r.length]; exact z, ?_⟩)
  have hf : H1 s1.heap.objs.size = none := I1.hok.fresh (Nat.le_refl _)
  refine ⟨.ref s1.heap.objs.size, upd H1 s1.heap.objs.size (.lst xs), I1.laid (t' := s1.toks) (fun b u e => Heap.get?_push_of_some _ e) (Nat.le_refl _) ?_, rfl, q _ hf⟩
  exact ⟨z, us, 0, r, Heap.get?_push_size _ rfl⟩
end
abbrev Sp := List V → Hp → VK → XK → Prop
abbrev CXT := List Env → Hp → Shared → XK → Value → Shared → Prop
structure Env0 (P : Program) (w : World) (K : PySem.W.Frag) (mg : Str → Option Value) (base : Heap) (A : Around) (outer : List Env) (s : Shared) (H : Hp) : Prop where
  frames : A.frames = some outer
  mod : Mod K mg base
  bs : ∀ b o, base.get? b = some o → s.heap.get? b = some o ∧ H b = none
  bsz : base.objs.size ≤ s.heap.objs.size
  funs : s.heap.FunFrames base outer
  frf : ∀ b ∈ frs outer, H b = none
  hok : HOk P w H s.heap
  bare : AllBare s.gens
def CE (outer : List Env) (P : Program) (w : World) (H : Hp) (s : Shared) (Q : VK) (u : Value) (s' : Shared) : Prop :=
  ∃ v H', s'.os = s.os ∧ AllBare s'.gens ∧ Un (frs outer) [] H H' s.heap s'.heap ∧ HOk P w H' s'.heap ∧ RelV v u ∧ Q v H'
def CR (CX : CXT) (outer : List Env) (P : Program) (w : World) (H : Hp) (s : Shared) (Q : VK) (E : XK) (r : Result) (s' : Shared) : Prop :=
  match r with
  | .ok (.ret u) => CE outer P w H s Q u s'
  | .ok _ => False
  | .error e => CX outer H s E e s'
structure FnOk (P : Program) (w : World) (K : PySem.W.Frag) (mg : Str → Option Value) (base : Heap) (CX : CXT) (k : Nat) (f : Addr) (fd : FuncData) (ps : List Str) (sp : Sp) : Prop where
  len : ∀ vs H Q E, sp vs H Q E → vs.length = ps.length
  run : ∀ (A : Around) (outer : List Env) (s : Shared) (H : Hp) (args : Args) (us : List Value) (vs : List V) (Q : VK) (E : XK), Room k A → Env0 P w K mg base A outer s H → BindsTo s fd args (ps.zip us) → Vals vs us → sp vs H Q E →
    codeAny (model P w) A (.call (.ref f) args) (CR CX outer P w H s Q E) s
theorem FnOk.mono {P : Program} {w : World} {K : PySem.W.Frag} {mg : Str → Option Value} {base : Heap} {CX : CXT} {j k : Nat} {f : Addr} {fd : FuncData} {ps : List Str} {sp : Sp} (F : FnOk P w K mg base CX j f fd ps sp) (h : j ≤ k) :
    FnOk P w K mg base CX k f fd ps sp := ⟨F.len, fun A outer s H args us vs Q E hr => F.run A outer s H args us vs Q E (hr.mono h)⟩
theorem Env0.make {P : Program} {w : World} {K : PySem.W.Frag} {mg : Str → Option Value} {base : Heap} {A : Around} {outer : List Env} {s : Shared} {H : Hp} (e : Env0 P w K mg base A outer s H) (C : Addr) (us : List Value) (kw : List (Str × Value)) :
    Env0 P w K mg base (A.under (.builtin "type.__call__" ⟨.ref C :: us, kw⟩)) outer s H := ⟨by first | exact e.frames | (simpa [Around.under, Code.envs, Code.isFrame, pushEnvs] using e.frames), e.mod, e.bs, e.bsz, e.funs, e.frf, e.hok, e.bare⟩
theorem Env0.in1 {P : Program} {w : World} {K : PySem.W.Frag} {mg : Str → Option Value} {base : Heap} {A : Around} {outer : List Env} {s : Shared} {H : Hp} (e : Env0 P w K mg base A outer s H) :
    Env0 P w K mg base A.in1 outer s H := ⟨e.frames, e.mod, e.bs, e.bsz, e.funs, e.frf, e.hok, e.bare⟩
section
variable {X : Cx} {pins : List (Addr × Obj)} {σ : St} {H : Hp} {s s' : Shared}
theorem Inv.env0 (I : Inv X pins σ H s) : Env0 X.prog X.w X.K X.mg X.base X.A X.stack s H :=
  ⟨I.ok.frames, I.ok.mod, I.bs, Nat.le_trans I.ok.bsz I.sz, I.stack, I.stkFree, I.hok, I.bare⟩
theorem Inv.after {Q : VK} {u : Value} (I : Inv X pins σ H s) (h : CE X.stack X.prog X.w H s Q u s') : EP X pins σ Q u s' := by
  obtain ⟨v, H', os, bare, un, hok, r, q⟩ := h
  obtain ⟨hh, g, d, t, os'⟩ := s'
  obtain rfl : os' = s.os := os
  exact ⟨v, H', I.call (h' := hh) (g' := g) (d' := d) (t' := t) (ch := []) un hok bare (fun b z => absurd z (by simp)), r, q⟩
end
def tCall (sp : Sp) (dvs : List V) (E : XK) (t : TA) : TE := fun σ H Q => t σ H fun vs H1 => sp (vs ++ dvs) H1 Q E
def Binds (K : PySem.W.Frag) (fd : FuncData) (ps : List Str) (ds : List Value) : Prop :=
  ∀ (s : Shared) (us : List Value), K.In s.heap → (us ++ ds).length = ps.length → BindsTo s fd ⟨us, []⟩ (ps.zip (us ++ ds))
theorem Binds.all {K : PySem.W.Frag} {fd : FuncData} {ps : List Str} (h : ∀ us : List Value, us.length = ps.length → bindArgs fd ⟨us, []⟩ = pure (ps.zip us)) : Binds K fd ps [] := fun s us _ hl => by
  rw [List.append_nil] at hl ⊢
  exact .of_eq (h us hl)
section
variable {X : Cx} {CX : CXT} {k : Nat} {f C : Addr} {fd : FuncData} {ps : List Str} {sp : Sp} {dvs : List V} {ds : List Value} {E : XK} {x m : Str} {p pos apos : Pos} {e o : Expr} {es : List Expr} {ta : TE} {t : TA}
structure Mk (K : PySem.W.Frag) (C f : Addr) : Prop where
  makes : PySem.W.makesIn K C = true
  init : PySem.W.findIn K (.ref C) "__init__" = some (some (.ref f))
  fn : PySem.W.isFn K (.ref f) = true
  kp : PySem.W.keepIn K (.ref C) = true
end
section
variable {X : Cx} {CX : CXT} {k : Nat} {f C : Addr} {fd : FuncData} {ps ks : List Str} {sp : Sp} {E : XK} {x m : Str} {p pos apos kpos : Pos} {e o : Expr} {es : List Expr} {kws : List Keyword} {te ta : TE} {t tk : TA} {nm : Option Str}
variable {g : List Value → List Value → List Value} {gV : List V → List V → List V}
end
structure FnScope (N P : List Str) (sc : Scope) : Prop where
  kind : sc.kind = .function
  co : sc.isCoroutine = false
  gen : sc.isGenerator = false
  nd : N.Nodup
  pre : N.take P.length = P
  par : ∀ x ∈ P, sc.names.lookup x = some .local ∨ sc.names.lookup x = some .cell
  nofree : ∀ y ∈ sc.names, y.2 ≠ .free
theorem bindL_out {kindOf : Str → Option NameKind} {x : Str} : ∀ {binds : List (Str × Value)} {m : Str → Option Value}, (∀ v, (x, v) ∉ binds) → bindL kindOf binds m x = m x
  | [], _, _ => rfl
  | (n, v) :: r, m, h => by
    unfold bindL
    rw [bindL_out fun w hw => h w (List.mem_cons_of_mem _ hw)]
    split
    · have : x ≠ n := by rintro rfl; exact h v List.mem_cons_self
      simp [this]
    · rfl
theorem bindC_out {kindOf : Str → Option NameKind} {x : Str} : ∀ {binds : List (Str × Value)} {m : Str → Option Value}, (∀ v, (x, v) ∉ binds) → bindC kindOf binds m x = m x
  | [], _, _ => rfl
  | (n, v) :: r, m, h => by
    unfold bindC
    rw [bindC_out fun w hw => h w (List.mem_cons_of_mem _ hw)]
    split
    · rfl
    · have : x ≠ n := by rintro rfl; exact h v List.mem_cons_self
      simp [this]
theorem bindL_get {kindOf : Str → Option NameKind} {x : Str} {v : Value} : ∀ {P : List Str} {vs : List Value} {i : Nat} {m : Str → Option Value}, P.Nodup → P[i]? = some x → vs[i]? = some v → kindOf x = some .local →
    bindL kindOf (P.zip vs) m x = some v
  | [], _, _, _, _, h, _, _ => by simp at h
  | _ :: _, [], _, _, _, _, h, _ => by simp at h
  | p :: P, w :: vs, 0, m, nd, h1, h2, hk => by
    simp at h1 h2; subst h1; subst h2
    show bindL kindOf ((p, w) :: P.zip vs) m p = _
    unfold bindL
    rw [bindL_out fun v hv => (List.nodup_cons.mp nd).1 (List.of_mem_zip hv).1, if_pos hk]
    simp
  | p :: P, w :: vs, i + 1, m, nd, h1, h2, hk => by
    show bindL kindOf ((p, w) :: P.zip vs) m x = _
    unfold bindL
    exact bindL_get (i := i) (List.nodup_cons.mp nd).2 (by simpa using h1) (by simpa using h2) hk
theorem bindC_get {kindOf : Str → Option NameKind} {x : Str} {v : Value} : ∀ {P : List Str} {vs : List Value} {i : Nat} {m : Str → Option Value}, P.Nodup → P[i]? = some x → vs[i]? = some v → kindOf x ≠ some .local →
    bindC kindOf (P.zip vs) m x = some v
  | [], _, _, _, _, h, _, _ => by simp at h
  | _ :: _, [], _, _, _, _, h, _ => by simp at h
  | p :: P, w :: vs, 0, m, nd, h1, h2, hk => by
    simp at h1 h2; subst h1; subst h2
    show bindC kindOf ((p, w) :: P.zip vs) m p = _
    unfold bindC
    rw [bindC_out fun v hv => (List.nodup_cons.mp nd).1 (List.of_mem_zip hv).1, if_neg hk]
    simp
  | p :: P, w :: vs, i + 1, m, nd, h1, h2, hk => by
    show bindC kindOf ((p, w) :: P.zip vs) m x = _
    unfold bindC
    exact bindC_get (i := i) (List.nodup_cons.mp nd).2 (by simpa using h1) (by simpa using h2) hk
def start (N : List Str) (vs : List V) : St := vs.map some ++ List.replicate (N.length - vs.length) none
def cxOf (CX : CXT) (P : Program) (w : World) (K : PySem.W.Frag) (mg : Str → Option Value) (base : Heap) (N : List Str) (qual : Str) (scope : Scope) (f : Addr) (cd : Value) (A : Around) (outer : List Env) (s : Shared) (H : Hp) (E : XK) : Cx where
  prog := P
  w := w
  K := K
  mg := mg
  base := base
  A := A.deeper (envOfC qual scope s.heap.objs.size f cd)
  N := N
  s₀ := s
  H₀ := H
  env := envOfC qual scope s.heap.objs.size f cd
  outer := outer
  stack := envOfC qual scope s.heap.objs.size f cd :: outer
  ex := []
  calm := true
  fn := fun _ => true
  pn := []
  xe := fun e s' => wpAny (model P w) (A.deeper (envOfC qual scope s.heap.objs.size f cd)) (leaving (envOfC qual scope s.heap.objs.size f cd) e) (fun _ s'' => CX outer H s E e s'') (fun e' s'' => CX outer H s E e' s'') s'
theorem cell_has {sc : Scope} {n : Nat} {x : Str} (h : sc.names.lookup x = some .cell) : ∃ c, (cellsFrom n sc.names []).lookup x = some c := by
  have q := PySem.W.cellsFrom_some sc.names n [] (.inl h)
  exact Option.isSome_iff_exists.mp q
theorem inv_start {CX : CXT} {P : Program} {w : World} {K : PySem.W.Frag} {mg : Str → Option Value} {base : Heap} {N ps : List Str} {qual : Str} {scope : Scope} {f : Addr} {cd : Value} {A : Around} {outer : List Env} {s s1 : Shared} {H : Hp} {E : XK} {us : List Value} {vs : List V}
    (S : FnScope N ps scope) (hd : A.handled = none) (e0 : Env0 P w K mg base A outer s H) (hl : vs.length = ps.length) (r : Vals vs us)
    (x : InCallC s s.heap.objs.size (bindL (envOfC qual scope s.heap.objs.size f cd).kindOf (ps.zip us) fun _ => none) (cellsFrom (s.heap.objs.size + 1) scope.names []) (bindC (envOfC qual scope s.heap.objs.size f cd).kindOf (ps.zip us) fun _ => none) s1) :
    Inv (cxOf CX P w K mg base N qual scope f cd A outer s H E) [] (start N vs) H s1 := by
  have hpl : ps.length ≤ N.length := by have := congrArg List.length S.pre; rw [List.length_take] at this; omega
  obtain ⟨h1, tk, rfl, hk⟩ := x.done
  have noA : ∀ b : Addr, b ∉ (cxOf CX P w K mg base N qual scope f cd A outer s H E).ex := fun b z => absurd (show b ∈ ([] : List Addr) from z) (by simp)
  refine ⟨⟨e0.mod, S.kind, rfl, rfl, Nat.le_refl _, fun y z c h1 h2 => ?_, fun y hy => ?_, fun y c _ h => ?_, fun _ => hd, Around.frames_deeper e0.frames, .inr ⟨rfl, rfl⟩, fun b z => absurd z (noA b), e0.bs, e0.bsz, fun b _ _ => noA b, fun b z => absurd z (noA b), e0.funs, e0.frf⟩,
    rfl, e0.bare, Un.kept hk, ⟨_, x.toInCall.ns, fun i y v h1 h2 h3 => ?_⟩, fun y c h => ⟨_, x.cell y c h⟩, e0.hok.fresh (Nat.le_refl _), fun y c h => ?_, fun p hp => absurd (show p ∈ ([] : List (Addr × Obj)) from hp) (by simp), e0.hok.kept hk, ?_⟩
  · exact name_of_addr x.apart (PySem.mem_of_lookup h1) (PySem.mem_of_lookup h2)
  · have hy : scope.names.lookup y = some .cell ∨ scope.names.lookup y = some .free := hy
    rcases hy with hy | hy
    · exact cell_has hy
    · exact absurd rfl (S.nofree _ (PySem.mem_of_lookup hy))
  · exact Nat.le_of_lt (x.above y c (PySem.mem_of_lookup h))
  · have hi : i < vs.length := by
      unfold start at h2
      by_cases hi : i < vs.length
      · exact hi
      · rw [List.getElem?_append_right (by simpa using hi)] at h2
        rw [List.getElem?_replicate] at h2
        split at h2 <;> cases h2
    have ha : vs[i]? = some v := by
      unfold start at h2
      rw [List.getElem?_append_left (by simpa using hi), List.getElem?_map] at h2
      cases e : vs[i]? with
      | none => rw [e] at h2; cases h2
      | some a => rw [e] at h2; cases h2; rfl
    obtain ⟨u, hu, rv⟩ := r.get ha
    have hp : ps[i]? = some y := by
      rw [← S.pre, List.getElem?_take_of_lt (by omega)]; exact h1
    have ndP : ps.Nodup := by rw [← S.pre]; exact S.nd.sublist (List.take_sublist _ _)
    refine ⟨u, rv, ?_⟩
    rcases S.par y (List.mem_of_getElem? hp) with k | k
    · exact .inl ⟨k, bindL_get ndP hp hu k⟩
    · obtain ⟨c, e⟩ := cell_has (n := s.heap.objs.size + 1) k
      refine .inr ⟨.inl k, c, e, ?_⟩
      have q := x.cell y c e
      rw [bindC_get ndP hp hu (by show scope.names.lookup y ≠ _; rw [k]; decide)] at q
      exact q
  · exact e0.hok.fresh (Nat.le_of_lt (x.above y c (PySem.mem_of_lookup h)))
  · unfold start
    show _ = N.length
    rw [List.length_append, List.length_map, List.length_replicate]
    omega
theorem fn_of {CX : CXT} {P : Program} {w : World} {K : PySem.W.Frag} {mg : Str → Option Value} {base : Heap} {k : Nat} {f : Addr} {name qual : Str} {params : Arguments} {body : List Stmt} {scope : Scope} {dV kV doc pm cdv ct oc : Value} {an od : Option Addr}
    {osl : Array (Option Value)} {N ps : List Str} {sp : Sp} (lk : K.lookup f = some ⟨oc, od, .func (PySem.W.fnOf name qual params body scope dV kV doc pm an cdv ct), osl⟩) (hcd : PySem.W.codeIn K cdv qual = true) (S : FnScope N ps scope)
    (len : ∀ vs H Q E, sp vs H Q E → vs.length = ps.length)
    (hbody : ∀ (A : Around) (outer : List Env) (s : Shared) (H : Hp) (vs : List V) (Q : VK) (E : XK), Room k (A.deeper (envOfC qual scope s.heap.objs.size f cdv)) → sp vs H Q E →
      ∃ t, PSs (cxOf CX P w K mg base N qual scope f cdv A outer s H E) body t ∧ t { nx := fun _ H' => Q .non H', rt := Q } (start N vs) H) :
    FnOk P w K mg base CX (k + 1) f (PySem.W.fnOf name qual params body scope dV kV doc pm an cdv ct) ps sp := by
  refine ⟨len, fun A outer s H args us vs Q E hr e0 hb r hsp => ?_⟩
  have hl := len _ _ _ _ hsp
  have KX : K.In s.heap := e0.mod.kin.keeps fun b o e => (e0.bs b o e).1
  have lim : s.heap.NoLimit := e0.mod.nolimit.keeps fun b o e => (e0.bs b o e).1
  have hkind : ∀ y ∈ ps.zip us, scope.names.lookup y.1 = some .local ∨ (scope.names.lookup y.1 = some .cell ∧ ((cellsFrom (s.heap.objs.size + 1) scope.names []).lookup y.1).isSome = true) := fun ⟨n, v⟩ hy => by
    rcases S.par n (List.of_mem_zip hy).1 with q | q
    · exact .inl q
    · exact .inr ⟨q, PySem.W.cellsFrom_some _ _ _ (.inl q)⟩
  refine codeAny_call_function hr.depth (KX _ _ lk) rfl S.co S.gen rfl (PySem.W.codeRec_of KX hcd) (hb _ _ _ _ ?_)
  refine wpAny_newFunctionEnv_cells S.kind hkind fun env he s1 x => ?_
  subst he
  refine ⟨lim.keeps x.toInCall.keep, codeAny_func ?_⟩
  obtain ⟨t, ht, hq⟩ := hbody A outer s H vs Q E (hr.deeper _) hsp
  have I : Inv (cxOf CX P w K mg base N qual scope f cdv A outer s H E) [] (start N vs) H s1 := inv_start S hr.hd e0 hl r x
  refine wpAny_mono (ht [] s1 (start N vs) H _ I hq) (fun fl s' hs => ?_) fun e s' hs => hs
  have fin : ∀ {σ' : St} {H' : Hp} {v : V} {u : Value}, Inv (cxOf CX P w K mg base N qual scope f cdv A outer s H E) [] σ' H' s' → RelV v u → Q v H' → CE outer P w H s Q u s' :=
    fun {σ' H' v u} J rv q => ⟨v, H', J.os, J.bare, J.base, J.hok, rv, q⟩
  cases fl with
  | ret u =>
    obtain ⟨v, σ', H', J, rv, q⟩ := hs
    exact fin J rv q
  | next =>
    obtain ⟨σ', H', J, q⟩ := hs
    exact fin (v := V.non) (u := Value.none) J rfl q
  | brk =>
    obtain ⟨_, _, _, q⟩ := hs
    exact False.elim q
  | cont =>
    obtain ⟨_, _, _, q⟩ := hs
    exact False.elim q
end L2
namespace L2
open PySem PySem.Spec PyProof.Rows
section
variable {X : Cx} {x : Str} {p pos : Pos} {e : Expr} {es : List Expr} {t : TA} {id T : String} {r : List V → Hp → VK → Prop}
def tCB (r : List V → Hp → VK → Prop) (t : TA) : TE := fun σ H Q => t σ H fun vs H1 => r vs H1 Q
theorem pe_callB (hc : CallR X (.builtin id) r) (hg : Gl X x) (hm : X.mg x = none) (hv : bootBuiltins x = some (.builtin id)) (ha : PA X (e :: es) t) (hn : x ≠ "__name__" := by decide) (hdb : (x == ("__debug__" : Str)) = false := by decide)
    (he : starEach (e :: es) X.env = (false, eval e X.env) :: starEach es X.env := by rfl) (hpl : (backTo pos (starEach es X.env)).any (·.1) = false := by rfl) : PE X (.Call (.Name x p) (e :: es) [] pos) (tCB r t) := by
  intro pins s σ H Q I h
  refine wpAny_Call_Name_kw (ld_blt I hg hm hv ?_ hn hdb)
  exact PyProof.Rows.callWith_builtin1 (thn (ha pos pins s σ H _ I h) fun us s1 ⟨vs, H1, I1, r1, q1⟩ => hc pins s1 σ H1 vs us Q I1 r1 q1) he hpl
theorem pe_callTy (hc : CallR X (.type T) r) (hg : Gl X x) (hm : X.mg x = none) (hv : bootBuiltins x = some (.type T)) (ha : PA X (e :: es) t) (hn : x ≠ "__name__" := by decide) (hdb : (x == ("__debug__" : Str)) = false := by decide)
    (he : starEach (e :: es) X.env = (false, eval e X.env) :: starEach es X.env := by rfl) (hpl : (backTo pos (starEach es X.env)).any (·.1) = false := by rfl) : PE X (.Call (.Name x p) (e :: es) [] pos) (tCB r t) := by
  intro pins s σ H Q I h
  refine wpAny_Call_Name_kw (ld_blt I hg hm hv ?_ hn hdb)
  exact PyProof.Rows.callWith_type1 (thn (ha pos pins s σ H _ I h) fun us s1 ⟨vs, H1, I1, r1, q1⟩ => hc pins s1 σ H1 vs us Q I1 r1 q1) he hpl
end
end L2
namespace HT
open PySem PyProof.Rows
section
open PySem.SeqAt
open PySem.AutoSeq1 (wpAny_loadPart')
open PySem.MeetsSeq PySem.MeetsSeq2 PySem.MeetsSeq3
end
section
variable {prog : Program} {w : World} {A : Around} {E : Value → Shared → Prop} {s : Shared}
def sIx (n d : Nat) : Option Int → Nat
  | none => d
  | some v => if v < 0 then (v + (n : Int)).toNat else min v.toNat n
theorem sIx_nat (n d k : Nat) : sIx n d (some (k : Int)) = min k n := by
  show (if (k : Int) < 0 then ((k : Int) + (n : Int)).toNat else min (k : Int).toNat n) = min k n
  rw [if_neg (by omega), Int.toNat_natCast]
end
end HT
namespace L2
open PySem PySem.Spec PyProof.Rows
abbrev TO := St → Hp → (Option Int → Hp → Prop) → Prop
def PO (X : Cx) (e : Option Expr) (t : TO) : Prop :=
  ∀ (pins : List (Addr × Obj)) (s : Shared) (σ : St) (H : Hp) (Q : Option Int → Hp → Prop), Inv X pins σ H s → t σ H Q →
    wpAny (model X.prog X.w) X.A (evalPart e X.env) (fun u s' => ∃ o H', Inv X pins σ H' s' ∧ IsPart u o ∧ Q o H') X.xe s
def tNoPart : TO := fun _ H Q => Q none H
def tPart (t : TE) : TO := fun σ H Q => t σ H fun x H1 => ∃ i, x = .int i ∧ Q (some i) H1
section
variable {X : Cx} {e : Expr} {te : TE} {lo hi : Option Expr} {tl th : TO} {pos p2 : Pos}
theorem po_none : PO X none tNoPart := by
  intro pins s σ H Q I h
  rw [evalPart_none]
  exact wpAny_pure ⟨none, H, I, .none, h⟩
theorem po_some (h : PE X e te) : PO X (some e) (tPart te) := by
  intro pins s σ H Q I hw
  rw [evalPart_some]
  refine thn (h pins s σ H _ I hw) fun u s1 ⟨x, H1, I1, r1, q1⟩ => ?_
  obtain ⟨i, rfl, q⟩ := q1
  obtain ⟨t, rfl⟩ := r1
  exact ⟨some i, H1, I1, .int i t, q⟩
def SlR (X : Cx) (r : V → Option Int → Option Int → Hp → VK → Prop) : Prop :=
  ∀ (pins : List (Addr × Obj)) (s : Shared) (σ : St) (H : Hp) (x : V) (v vl vu : Value) (lo hi : Option Int) (sl : Addr) (Q : VK), Inv X pins σ H s → RelV x v → s.heap.IsSliceOf sl vl vu .none → IsPart vl lo → IsPart vu hi → r x lo hi H Q →
    ∃ T id, typeLookup (.type T) "__getitem__" = pure (some (.builtin id)) ∧ s.TypeIs v T ∧ wpAny (model X.prog X.w) X.A (getItem v (.ref sl)) (EP X pins σ Q) X.xe s
def tSl (r : V → Option Int → Option Int → Hp → VK → Prop) (te : TE) (tl th : TO) : TE := fun σ H Q => te σ H fun x H1 => tl σ H1 fun l H2 => th σ H2 fun u H3 => r x l u H3 Q
theorem pe_slice {r : V → Option Int → Option Int → Hp → VK → Prop} (hr : SlR X r) (he : PE X e te) (hl : PO X lo tl) (hu : PO X hi th) : PE X (.Subscript e (.Slice lo hi none p2) pos) (tSl r te tl th) := by
  intro pins s σ H Q I h
  refine Subscript_ (thn (he pins s σ H _ I h) fun v s1 ⟨x, H1, I1, r1, q1⟩ => ?_)
  refine wpAny_Slice (thn (hl pins s1 σ H1 _ I1 q1) fun vl s2 ⟨l, H2, I2, pl, q2⟩ => thn (hu pins s2 σ H2 _ I2 q2) fun vu s3 ⟨u, H3, I3, pu, q3⟩ => ?_)
  rw [evalPart_none]
  refine wpAny_pure ?_
  have I4 : Inv X pins σ H3 { s3 with heap := s3.heap.push { cls := .type "slice", data := .fields #[vl, vu, .none] } } := I3.kept (t' := s3.toks) fun b ob q => Heap.get?_push_of_some _ q
  obtain ⟨T, id, hT, ht, hg⟩ := hr pins { s3 with heap := s3.heap.push { cls := .type "slice", data := .fields #[vl, vu, .none] } } σ H3 x v vl vu l u s3.heap.objs.size Q I4 r1 (Heap.IsSliceOf.new ..) pl pu q3
  show wpAny (model X.prog X.w) X.A (subscriptTail e (.Slice lo hi none p2) v (.ref s3.heap.objs.size)) (EP X pins σ Q) X.xe { s3 with heap := s3.heap.push { cls := .type "slice", data := .fields #[vl, vu, .none] } }
  exact tail_any (ops := [.ref s3.heap.objs.size, v]) ht hT hg (by with_unfolding_all rfl)
def cutV (xs : List V) (lo hi : Option Int) : List V := (xs.drop (HT.sIx xs.length 0 lo)).take (HT.sIx xs.length xs.length hi - HT.sIx xs.length 0 lo)
theorem cutV_length (xs : List V) (lo hi : Option Int) : (cutV xs lo hi).length ≤ xs.length := by
  unfold cutV
  rw [List.length_take, List.length_drop]
  omega
end
end L2
namespace L2
open PySem PySem.Spec PyProof.Rows
def ixN (n : Nat) (i : Int) : Option Nat := if 0 ≤ i then (if i < n then some i.toNat else none) else if -(n : Int) ≤ i then some (i + n).toNat else none
def atI {α : Type} (xs : List α) (i : Int) : Option α := (ixN xs.length i).bind fun j => xs[j]?
theorem ixN_seq {n : Nat} {i : Int} {j : Nat} (h : ixN n i = some j) : seqIndex? i n = some j ∧ j < n ∧ -(n : Int) ≤ i ∧ i < n := by
  unfold ixN at h
  by_cases h0 : 0 ≤ i
  · rw [if_pos h0] at h
    by_cases h1 : i < n
    · rw [if_pos h1] at h
      have e : i.toNat = j := Option.some.inj h
      exact ⟨by rw [seqIndex_of h0 h1, e], by omega, by omega, h1⟩
    · rw [if_neg h1] at h; cases h
  · rw [if_neg h0] at h
    by_cases h1 : -(n : Int) ≤ i
    · rw [if_pos h1] at h
      have e : (i + n).toNat = j := Option.some.inj h
      exact ⟨by rw [seqIndex_neg (by omega) h1, e], by omega, h1, by omega⟩
    · rw [if_neg h1] at h; cases h
theorem atI_get {α : Type} {xs : List α} {i : Int} {v : α} (h : atI xs i = some v) : ∃ j, seqIndex? i xs.length = some j ∧ xs[j]? = some v ∧ j < xs.length ∧ -(xs.length : Int) ≤ i ∧ i < xs.length := by
  unfold atI at h
  cases e : ixN xs.length i with
  | none => rw [e] at h; cases h
  | some j =>
    rw [e] at h
    obtain ⟨h1, h2, h3, h4⟩ := ixN_seq e
    exact ⟨j, h1, h, h2, h3, h4⟩
theorem atI_nat {α : Type} {xs : List α} {j : Nat} {v : α} (h : xs[j]? = some v) : atI xs (j : Int) = some v := by
  have hj : j < xs.length := (List.getElem?_eq_some_iff.mp h).1
  have e : ixN xs.length (j : Int) = some j := by
    unfold ixN
    rw [if_pos (by omega), if_pos (by omega)]; simp
  unfold atI; rw [e]; exact h
def PlainIx (b : Expr) : Prop := ∀ o i, subscripted b false o i = operate [o, i] (getItem o i)
def IxR (X : Cx) (r : R2) : Prop :=
  ∀ (value slice : Expr) (pins : List (Addr × Obj)) (s : Shared) (σ : St) (H : Hp) (x y : V) (v u : Value) (Q : VK), Inv X pins σ H s → RelV x v → RelV y u → r x y H Q →
    subscripted slice false v u = operate [v, u] (getItem v u) → wpAny (model X.prog X.w) X.A (subscriptTail value slice v u) (EP X pins σ Q) X.xe s
def MtR (X : Cx) (id : String) (r : V → List V → Hp → VK → Prop) : Prop :=
  ∀ (pins : List (Addr × Obj)) (s : Shared) (σ : St) (H : Hp) (x : V) (xs : List V) (v : Value) (us : List Value) (Q : VK), Inv X pins σ H s → RelV x v → Vals xs us → r x xs H Q →
    wpAny (model X.prog X.w) X.A (call (.builtin id) (v :: us)) (EP X pins σ Q) X.xe s
section
variable {X : Cx} {a b : Expr} {ta tb : TE} {pos : Pos}
theorem pe_ix {r : R2} (hr : IxR X r) (ha : PE X a ta) (hb : PE X b tb) (hs : PlainIx b) : PE X (.Subscript a b pos) (tOp r ta tb) := by
  intro pins s σ H Q I h
  exact Subscript_ (binT ha hb I h fun v u s2 x y H2 I2 rx ry q => hr a b pins s2 σ H2 x y v u Q I2 rx ry q (hs _ _))
def rIxL (K : PySem.W.Frag) : R2 := fun x y H Q => ∃ p xs i v, x = .ref p ∧ y = .int i ∧ SqL K H p xs ∧ atI xs i = some v ∧ Q v H
def rIxT (K : PySem.W.Frag) : R2 := fun x y H Q => ∃ p xs i v, x = .ref p ∧ y = .int i ∧ SqT K H p xs ∧ atI xs i = some v ∧ Q v H
def rIxS : R2 := fun x y H Q => ∃ z i c, x = .str z ∧ y = .int i ∧ z.length ≤ sizeLine ∧ atI z.cps.toList i = some c ∧ Q (.str ⟨#[c]⟩) H
theorem ix_list : IxR X (rIxL X.K) := by
  intro value slice pins s σ H x y v u Q I rx ry h hs
  obtain ⟨p, xs, i, z, rfl, rfl, hq, he, q⟩ := h
  cases rx
  obtain ⟨t, rfl⟩ := ry
  obtain ⟨its, r, pl, hz⟩ := I.list hq
  obtain ⟨j, h1, h2, h3, h4, h5⟩ := atI_get he
  obtain ⟨w, ew, rw'⟩ := r.get h2
  have hl := r.length
  have hn := line63
  have fin : EP X pins σ Q w s := ⟨z, H, I, rw', q⟩
  by_cases h0 : 0 ≤ i
  · have hj : i.toNat = j := by
      rw [seqIndex_of h0 h5] at h1
      exact Option.some.inj h1
    exact item_listR pl.isList h0 (by omega) (by rw [hj]; simpa using ew) fin hs
  · have hj : (i + (its.toArray.size : Int)).toNat = j := by
      rw [seqIndex_neg (by omega) h4] at h1
      rw [List.size_toArray, ← hl]
      exact Option.some.inj h1
    exact subscriptTail_builtinR (x := w) pl.isList.typeIs slot_list_getitem.lookup
      (wpAny_getItem_list_neg (Q := fun r s' => r = w ∧ EP X pins σ Q r s') pl.isList (by omega) (by rw [List.size_toArray] <;> omega) (by omega) (by rw [hj]; simpa using ew) ⟨rfl, fin⟩) hs
theorem ix_tup : IxR X (rIxT X.K) := by
  intro value slice pins s σ H x y v u Q I rx ry h hs
  obtain ⟨p, xs, i, z, rfl, rfl, hq, he, q⟩ := h
  cases rx
  obtain ⟨t, rfl⟩ := ry
  obtain ⟨its, r, pl, hz⟩ := I.tuple hq
  obtain ⟨j, h1, h2, h3, h4, h5⟩ := atI_get he
  obtain ⟨w, ew, rw'⟩ := r.get h2
  have hl := r.length
  have hn := line63
  have fin : EP X pins σ Q w s := ⟨z, H, I, rw', q⟩
  exact subscriptTail_builtinR (x := w) pl.typeIs slot_tuple_getitem.lookup
    (getItem_tuple (j := j) (Q := fun r s' => r = w ∧ EP X pins σ Q r s') pl (by omega) (by omega) (by rw [List.size_toArray, ← hl]; exact h1) (by simpa using ew) ⟨rfl, fin⟩) hs
theorem ix_str : IxR X rIxS := by
  intro value slice pins s σ H x y v u Q I rx ry h hs
  obtain ⟨z, i, c, rfl, rfl, hz, he, q⟩ := h
  obtain ⟨t, rfl⟩ := rx
  obtain ⟨t', rfl⟩ := ry
  obtain ⟨j, h1, h2, h3, h4, h5⟩ := atI_get he
  have hl : z.cps.toList.length = z.length := by simp [Str.length]
  rw [hl] at h1 h4 h5
  have hn := line63
  exact tail_any (typeIs_str s z t) slot_str_getitem.lookup (getItem_str (c := c) (by
    have e1 : decide (i < -(2 ^ 63 : Int)) = false := decide_eq_false (by omega)
    have e2 : decide (i ≥ 2 ^ 63) = false := decide_eq_false (by omega)
    rw [e1, e2, Bool.or_false]) (by rw [h1]; simpa using h2) ⟨.str ⟨#[c]⟩, H, I.tok _, ⟨_, rfl⟩, q⟩) hs
theorem Inv.lst {pins : List (Addr × Obj)} {σ : St} {H : Hp} {s : Shared} {p : Addr} {xs : List V} (I : Inv X pins σ H s) (h : H p = some (.lst xs)) :
    ∃ (its : List Value) (n : Nat), Vals xs its ∧ s.heap.get? p = some { cls := .type "list", data := .seq its.toArray n } ∧ xs.length ≤ sizeLine := by
  obtain ⟨z, its, n, r, e⟩ := I.hok p _ h
  exact ⟨its, n, r, e, z⟩
theorem slice_bounds (lo hi : Option Int) (n : Nat) : (sliceBounds lo hi none n).1 = ((HT.sIx n 0 lo : Nat) : Int) ∧ (sliceBounds lo hi none n).2.1 = ((HT.sIx n n hi : Nat) : Int) ∧ (sliceBounds lo hi none n).2.2 = 1 := by
  refine ⟨?_, ?_, rfl⟩
  · cases lo with
    | none => simp [sliceBounds, HT.sIx]
    | some i =>
      simp only [sliceBounds, HT.sIx, Option.getD_none, show (1 : Int) > 0 by decide, if_true]
      by_cases h : i < 0
      · simp only [h, if_true] <;> omega
      · simp only [h, if_false] <;> omega
  · cases hi with
    | none => simp [sliceBounds, HT.sIx]
    | some i =>
      simp only [sliceBounds, HT.sIx, Option.getD_none, show (1 : Int) > 0 by decide, if_true]
      by_cases h : i < 0
      · simp only [h, if_true] <;> omega
      · simp only [h, if_false] <;> omega
theorem slicePick_cut (its : List Value) (lo hi : Option Int) : slicePick its.toArray lo hi none = ((its.drop (HT.sIx its.length 0 lo)).take (HT.sIx its.length its.length hi - HT.sIx its.length 0 lo)).toArray := by
  obtain ⟨h1, h2, h3⟩ := slice_bounds lo hi its.toArray.size
  unfold slicePick
  rw [h1, h2, h3]
  simp only [sliceRange_one, pick_run, List.size_toArray] <;> rfl
def rSlL (K : PySem.W.Frag) : V → Option Int → Option Int → Hp → VK → Prop := fun x lo hi H Q => ∃ a xs, x = .ref a ∧ SqL K H a xs ∧ ∀ p, H p = none → Q (.ref p) (upd H p (.lst (cutV xs lo hi)))
theorem sl_list : SlR X (rSlL X.K) := by
  intro pins s σ H x v vl vu lo hi sl Q I rx hs pl pu h
  obtain ⟨a, xs, rfl, hx, q⟩ := h
  cases rx
  obtain ⟨its, r, ht, hz⟩ := I.list hx
  have hlen := r.length
  refine ⟨"list", _, slot_list_getitem.lookup, ht.isList.typeIs, ?_⟩
  refine wpAny_getItem_list_slice ht.isList hs pl pu .none (by simp) ?_ (by rw [List.size_toArray] <;> omega)
  rw [slicePick_cut, ← hlen]
  refine ⟨.ref s.heap.objs.size, _, I.laid (t' := s.toks) (o := .lst (cutV xs lo hi)) (fun b ob q => Heap.get?_push_of_some _ q) (Nat.le_refl _) ?_, rfl, q _ (I.hok.fresh (Nat.le_refl _))⟩
  exact ⟨Nat.le_trans (cutV_length xs lo hi) hz, _, 0, (r.drop (HT.sIx xs.length 0 lo)).take (HT.sIx xs.length xs.length hi - HT.sIx xs.length 0 lo), Heap.get?_push_size _ rfl⟩
theorem call_len_seq : CallR X (.builtin "len") (fun xs H Q => ∃ p ys, xs = [.ref p] ∧ (SqL X.K H p ys ∨ SqT X.K H p ys) ∧ Q (.int ys.length) H) := by
  intro pins s σ H xs us Q I r h
  obtain ⟨p, ys, rfl, hq, q⟩ := h
  obtain ⟨u, rfl, rx⟩ := vals1 r
  cases rx
  have hn := line63
  rcases hq with hq | hq
  · obtain ⟨its, r', pl, hz⟩ := I.list hq
    have hlen := r'.length
    exact Calls.call_len_list pl.isList (by simp only [List.size_toArray] <;> omega) ⟨.int ys.length, H, I.tok _, ⟨s.toks + 1, by rw [List.size_toArray, hlen]⟩, q⟩
  · obtain ⟨its, r', pl, hz⟩ := I.tuple hq
    have hlen := r'.length
    exact len_tuple pl (by simp only [List.size_toArray] <;> omega) ⟨.int ys.length, H, I.tok _, ⟨s.toks + 1, by rw [List.size_toArray, hlen]⟩, q⟩
theorem call_len_str : CallR X (.builtin "len") (fun xs H Q => ∃ z, xs = [.str z] ∧ z.length ≤ sizeLine ∧ Q (.int z.length) H) := by
  intro pins s σ H xs us Q I r h
  obtain ⟨z, rfl, hz, q⟩ := h
  obtain ⟨u, rfl, t, rfl⟩ := vals1 r
  have hn := line63
  exact len_str (by omega) ⟨.int z.length, H, I.tok _, ⟨_, rfl⟩, q⟩
def tyV (K : PySem.W.Frag) (T : String) (x : V) (H : Hp) : Prop := match x with
  | .str _ => T = "str"
  | .int _ => T = "int"
  | .ref p => (T = "list" ∧ ∃ xs, SqL K H p xs) ∨ (T = "tuple" ∧ ∃ o, K.lookup p = some o ∧ o.cls = .type "tuple" ∧ o.dict = none) ∨
      (T = "dict" ∧ ((∃ kvs, H p = some (.dK kvs)) ∨ ∃ kvs, H p = some (.dT kvs))) ∨ (T = "set" ∧ ∃ S n, H p = some (.set S n))
  | _ => False
theorem tyV_is {pins : List (Addr × Obj)} {σ : St} {H : Hp} {s : Shared} {T : String} {x : V} {v : Value} (I : Inv X pins σ H s) (r : RelV x v) (ty : tyV X.K T x H) :
    s.TypeIs v T ∧ ∀ a, v = .ref a → ∃ ob, s.heap.get? a = some ob ∧ ob.dict = none := by
  cases x with
  | str z =>
    obtain ⟨t, rfl⟩ := r
    cases (show T = "str" from ty)
    exact ⟨typeIs_str s z t, fun _ e => nomatch e⟩
  | int i =>
    obtain ⟨t, rfl⟩ := r
    cases (show T = "int" from ty)
    exact ⟨typeIs_int s i t, fun _ e => nomatch e⟩
  | ref p =>
    cases r
    rcases ty with ⟨rfl, xs, hq⟩ | ⟨rfl, o, hk, hc, hd⟩ | ⟨rfl, hk⟩ | ⟨rfl, S, n, hk⟩
    · obtain ⟨its, _, pl, _⟩ := I.list hq
      refine ⟨pl.isList.typeIs, fun a e => ?_⟩
      cases e
      obtain ⟨o, n, e, c, hd, _⟩ := pl
      exact ⟨o, e, hd⟩
    · refine ⟨⟨o, I.kIn p o hk, hc⟩, fun a e => ?_⟩
      cases e
      exact ⟨o, I.kIn _ o hk, hd⟩
    · have z : ∃ o, s.heap.get? p = some o ∧ o.ExactDict := by
        rcases hk with ⟨kvs, hk⟩ | ⟨kvs, hk⟩
        · obtain ⟨_, _, _, _, o, _, _, e, ex, _⟩ := I.hok p _ hk
          exact ⟨o, e, ex⟩
        · obtain ⟨_, _, _, _, o, _, _, e, ex, _⟩ := I.hok p _ hk
          exact ⟨o, e, ex⟩
      obtain ⟨o, e, ex⟩ := z
      refine ⟨⟨o, e, ex.1⟩, fun a e2 => ?_⟩
      cases e2
      exact ⟨o, e, ex.2.1⟩
    · obtain ⟨o, _, _, _, e, ex, _⟩ := I.hok p _ hk
      refine ⟨⟨o, e, ex.1⟩, fun a e2 => ?_⟩
      cases e2
      exact ⟨o, e, ex.2.1⟩
  | _ => exact False.elim ty
def tBM0 (K : PySem.W.Frag) (T : String) (r : V → List V → Hp → VK → Prop) (to : TE) : TE := fun σ H Q => to σ H fun x H1 => tyV K T x H1 ∧ r x [] H1 Q
def tBM (K : PySem.W.Frag) (T : String) (r : V → List V → Hp → VK → Prop) (to : TE) (t : TA) : TE := fun σ H Q => to σ H fun x H1 => tyV K T x H1 ∧ t σ H1 fun xs H2 => r x xs H2 Q
variable {o e : Expr} {es : List Expr} {to : TE} {t : TA} {name : Str} {apos cpos : Pos} {T id : String} {r : V → List V → Hp → VK → Prop}
theorem pe_bm0 (pa : PlainAttrs T) (slot : Slot T name id) (hty : typeOf (.builtin id) = pure (.type "method_descriptor")) (hm : MtR X id r) (ho : PE X o to)
    (hbase : attributeBase o name X.env (eval o X.env) = eval o X.env := by rfl) (hline : (apos.endLine == cpos.line) = true := by rfl) : PE X (.Call (.Attribute o name apos) [] [] cpos) (tBM0 X.K T r to) := by
  intro pins s σ H Q I h
  refine wpAny_Call_method0_late hbase hline (thn (ho pins s σ H _ I h) fun v s1 ⟨x, H1, I1, r1, ty, q1⟩ => ?_)
  obtain ⟨h1, h2⟩ := tyV_is I1 r1 ty
  exact ⟨T, id, pa, slot, hty, h1, h2, Calls.callWith_builtin rfl (PySem.evalArgs_none (hm pins s1 σ H1 x [] v [] Q I1 r1 .nil q1))⟩
theorem pe_bm (pa : PlainAttrs T) (slot : Slot T name id) (hty : typeOf (.builtin id) = pure (.type "method_descriptor")) (hm : MtR X id r) (ho : PE X o to) (ha : PA X (e :: es) t)
    (hbase : attributeBase o name X.env (eval o X.env) = eval o X.env := by rfl)
    (hfew : ((backTo cpos (starEach (e :: es) X.env)).all (fun x => !x.1) && (backToKw cpos (keywordEach [] X.env)).all (fun x => x.1.isSome)
      && decide ((e :: es).length + ([] : List Keyword).length + (if ([] : List Keyword).isEmpty then 0 else 1) < 30)) = true := by rfl)
    (hline : (apos.endLine == cpos.line) = true := by rfl) (hs : starEach (e :: es) X.env = (false, eval e X.env) :: starEach es X.env := by rfl) (hplain : (backTo cpos (starEach es X.env)).any (·.1) = false := by rfl) :
    PE X (.Call (.Attribute o name apos) (e :: es) [] cpos) (tBM X.K T r to t) := by
  intro pins s σ H Q I h
  refine wpAny_Call_method_late hbase hfew hline rfl (thn (ho pins s σ H _ I h) fun v s1 ⟨x, H1, I1, r1, ty, q1⟩ => ?_)
  obtain ⟨h1, h2⟩ := tyV_is I1 r1 ty
  refine ⟨T, id, pa, slot, hty, h1, h2, ?_⟩
  have hA := ha cpos pins s1 σ H1 _ I1 q1
  rw [hs] at hA ⊢
  refine Calls.callWith_builtin (by show (false || (backTo cpos (starEach es X.env)).any (·.1)) = false; rw [hplain] <;> rfl) (Calls.evalArgs_plain ?_)
  exact thn hA fun us s2 ⟨vs, H2, I2, r2, q2⟩ => hm pins s2 σ H2 x vs v us Q I2 r1 r2 q2
/- xs.append(e), list.index on a module's tuple .. are MtR facts of 06m -/
end
end L2
namespace L2
open PySem PySem.Spec PyProof.Rows
def MtM (X : Cx) (id : String) (r : V → List V → Hp → VK → Prop) : Prop :=
  ∀ (pins : List (Addr × Obj)) (s : Shared) (σ : St) (H : Hp) (x : V) (xs : List V) (v : Value) (us : List Value) (Q : VK), Inv X pins σ H s → RelV x v → Vals xs us → r x xs H Q →
    wpAny (model X.prog X.w) X.A (call (.builtin id) (v :: us)) (EP X pins σ Q) X.xe s
theorem Vals.one : ∀ {x : V} {us : List Value}, Vals [x] us → ∃ u, us = [u] ∧ RelV x u
  | _, _, .cons r .nil => ⟨_, rfl, r⟩
theorem Vals.two : ∀ {x y : V} {us : List Value}, Vals [x, y] us → ∃ u v, us = [u, v] ∧ RelV x u ∧ RelV y v
  | _, _, _, .cons r (.cons q .nil) => ⟨_, _, rfl, r, q⟩
theorem Vals.zero : ∀ {us : List Value}, Vals [] us → us = []
  | _, .nil => rfl
theorem Vals.eraseIdx : ∀ {xs : List V} {us : List Value} (i : Nat), Vals xs us → Vals (xs.eraseIdx i) (us.eraseIdx i)
  | _, _, _, .nil => .nil
  | _, _, 0, .cons _ t => t
  | _, _, i + 1, .cons r t => .cons r (Vals.eraseIdx i t)
theorem Vals.reverse {xs : List V} {us : List Value} (h : Vals xs us) : Vals xs.reverse us.reverse := by
  induction h with
  | nil => exact .nil
  | cons r t ih => rw [List.reverse_cons, List.reverse_cons]; exact Vals.append ih (.cons r .nil)
section
variable {X : Cx} {pins : List (Addr × Obj)} {σ : St} {H : Hp} {s : Shared} {l b : Addr} {xs ys zs : List V}
theorem Inv.lset {its its' : List Value} {n : Nat} {f : Array Value → Array Value} {t' : Nat} (I : Inv X pins σ H s) (hH : H l = some (.lst xs))
    (e : s.heap.get? l = some { cls := .type "list", data := .seq its.toArray n }) (hf : f its.toArray = its'.toArray) (hv : Vals ys its') (hz : ys.length ≤ sizeLine) :
    Inv X pins σ (upd H l (.lst ys)) { s with heap := s.heap.update l (Obj.mapSeq f), toks := t' } := by
  have q := PySem.IsL.update e f
  rw [hf] at q
  refine I.write (x := l) (e := l) (by rw [hH]; exact trivial) (.inl rfl) (fun b' u hb hu => (Heap.get?_update_other s.heap (Obj.mapSeq f) (Ne.symm hb)).trans hu) ⟨_, q⟩ ?_
  exact ⟨hz, its', _, hv, q⟩
theorem Inv.fresh (I : Inv X pins σ H s) : H s.heap.objs.size = none := I.hok.fresh (Nat.le_refl _)
theorem Inv.lstM (I : Inv X pins σ H s) (hH : H l = some (.lst xs)) : xs.length ≤ sizeLine ∧ ∃ (its : List Value) (n : Nat), Vals xs its ∧ xs.length = its.length ∧ s.heap.get? l = some { cls := .type "list", data := .seq its.toArray n } := by
  obtain ⟨z, its, n, r, e⟩ := I.hok l _ hH
  exact ⟨z, its, n, r, r.length, e⟩
end
section
variable {X : Cx}
def rAppend : V → List V → Hp → VK → Prop := fun x vs H Q => ∃ l xs y, x = .ref l ∧ vs = [y] ∧ H l = some (.lst xs) ∧ xs.length < sizeLine ∧ Q .non (upd H l (.lst (xs ++ [y])))
theorem mt_append : MtM X "list.append" rAppend := by
  intro pins s σ H x vs v us Q I rx rv h
  obtain ⟨l, xs, y, rfl, rfl, hH, hz, q⟩ := h
  cases rx
  obtain ⟨u, rfl, ru⟩ := rv.one
  obtain ⟨z, its, n, r, hl, e⟩ := I.lstM hH
  refine call_meets F.slot_list_append ⟨_, e, rfl⟩ F.entry_list_append (F.args_list_append_2 _ _) (PySem.list_append l its.toArray n u (by rw [List.size_toArray]; omega)) ⟨e, ?_⟩
  refine ⟨.non, _, I.lset (its' := its ++ [u]) hH e (by simp) (r.append (.cons ru .nil)) ?_, rfl, q⟩
  rw [List.length_append, List.length_singleton]
  omega
def rReverse : V → List V → Hp → VK → Prop := fun x vs H Q => ∃ l xs, x = .ref l ∧ vs = [] ∧ H l = some (.lst xs) ∧ Q .non (upd H l (.lst xs.reverse))
theorem mt_reverse : MtM X "list.reverse" rReverse := by
  intro pins s σ H x vs v us Q I rx rv h
  obtain ⟨l, xs, rfl, rfl, hH, q⟩ := h
  cases rx
  have hus := rv.zero
  subst hus
  obtain ⟨z, its, n, r, hl, e⟩ := I.lstM hH
  refine call_meets F.slot_list_reverse ⟨_, e, rfl⟩ F.entry_list_reverse (F.args_list_reverse_1 _) (AutoSeq1.list_reverse_list_0 l its.toArray n (by rw [List.size_toArray]; omega)) ⟨e, ?_⟩
  refine ⟨.non, _, I.lset (its' := its.reverse) hH e (by simp) r.reverse ?_, rfl, q⟩
  rw [List.length_reverse]
  omega
end
section
variable {prog : Program} {w : World} {A : Around} {E : Value → Shared → Prop} {s : Shared}
end
section
variable {X : Cx}
end
end L2
namespace Att
open PySem PySem.W PySem.Calls PyProof.Rows
theorem ints_of_wellAll {P : Params} {h : Heap} : ∀ (ns : List Int) (vs : List Value), WellAll P h vs (ns.map WData.int) → IntsAre vs ns := by
  intro ns
  induction ns with
  | nil =>
    intro vs w
    rw [List.map_nil] at w
    cases w
    exact .nil
  | cons n ns ih =>
    intro vs w
    rw [List.map_cons] at w
    cases w with
    | cons a b =>
      cases a
      exact .cons _ _ (ih _ b)
theorem script_of {l : OpenLaw} {n : Nat} (hn : l.most = some n) {P : Params} {h : Heap} {args : List WData} {vals : List Value}
    (hpre : l.row.toRowW.claim.pre args = true) (hwl : WellAll P h vals args) :
    ∃ a vs ns, vals = [Value.ref a] ∧ args = [WData.list (ns.map WData.int)] ∧ h.get? a = some { cls := .type "list", data := .seq vs.toArray } ∧ IntsAre vs ns ∧ ns.length ≤ n := by
  have hsh : WShape.hasAll [] args [.list .int] = true := (pre_splitW hpre).1
  have hc : l.pre.holds [] { args := args } = true := (pre_splitW hpre).2
  obtain ⟨d, r, rfl, h1, h2⟩ := hasAllW_cons hsh
  obtain rfl := hasAllW_nil h2
  obtain ⟨xs, rfl, h3⟩ := hasW_list h1
  obtain ⟨ns, rfl⟩ := items_int h3
  have hlen : ns.length ≤ n := by
    unfold OpenLaw.pre at hc
    have h4 : (WTm.not (.lt (.lit (.int (n : Int))) (.len (.arg 0)))).holds [] { args := [.list (ns.map .int)] } = true := by
      have h4 := (holds_andW hc).1
      rw [hn] at h4
      exact h4
    have h5 := condW_of h4 (w_not (w_lt w_lit (w_len_list (w_arg rfl))))
    rw [List.length_map] at h5
    refine Nat.le_of_not_lt fun q => ?_
    have q' : (n : Int) < ((ns.length : Nat) : Int) := by omega
    first
      | (rw [decide_eq_true q'] at h5; exact absurd h5 (by decide))
      | (simp at h5; omega)
  cases hwl with
  | cons w1 w2 =>
    cases w2
    cases w1 with
    | list ho hall => exact ⟨_, _, ns, rfl, rfl, ho, ints_of_wellAll ns _ hall, hlen⟩
theorem post_true (l : OpenLaw) (args : List WData) : l.row.toRowW.claim.post args (.bool true) args = true :=
  postW_of (r := l.row.toRowW) (X := (true == true))
    (show WShape.has [] (.bool true) .bool = true by first | rfl | decide | simp [WShape.has, WShape.arms, WShape.armsAll])
    (show (WTm.eq .res (.lit (.bool true))).value [] { args := args, res := some (.bool true), after := args } = some (.bool (true == true)) from w_eq_bool (w_res rfl) w_lit) rfl
theorem attach_call {l : OpenLaw} {n : Nat} {q : Program} {loose : List Str} {XP : (Str → Option Value) → Heap → Prop} {YP : World → Heap → Prop} {d : DefRec}
    (hn : l.most = some n) (hdf : d.params.defaults = [])
    (call : ∀ (w : World) (s₀ s₁ : Shared) (mg mb : Str → Option Value) (fa : Addr) (o : Obj) (pm cd doc : Value) (a : Addr) (vs : List Value) (ns : List Int),
      Ground q loose [] XP w s₀ mg mb s₁.heap → YP w s₁.heap →
      s₁.heap.get? fa = some o → o.data = .func (docDef d.name d.params d.body d.scope pm cd doc) → s₁.heap.CodeRec cd d.name → mg d.name = some (.ref fa) →
      s₁.heap.get? a = some { cls := .type "list", data := .seq vs.toArray } → IntsAre vs ns → ns.length ≤ n → s₁.gens = #[] →
      codeAny (model l.prog w) callerA (.call (.ref fa) ⟨[.ref a], []⟩) (fun r s' => r = .ok (.ret (.bool true)) ∧ OldK s₁.heap s'.heap ∧ s'.os = s₁.os ∧ AllBare s'.gens) s₁) :
    WalkO q loose XP YP l.row.toRowW d [] (fun f vs => PySem.call f vs) := by
  intro w s₀ s₁ mg mb G Y fa o pm cd doc dV kV ho hd hcd hD hmg hg args vals as hpre hlay hrd hwl hlo
  obtain rfl : dV = .none := Dflts.none hD hdf
  obtain rfl : kV = .none := Dflts.noKw hD
  obtain ⟨a, vs, ns, rfl, rfl, hobj, hints, hlen⟩ := script_of hn hpre hwl
  refine enter_call (codeAny_mono (call w s₀ s₁ mg mb fa o pm cd doc a vs ns G Y ho (fd_plain hd) hcd hmg hobj hints hlen hg) fun r s' hq => ?_)
  obtain ⟨rfl, h2, h3, h4⟩ := hq
  exact ⟨.inl ⟨.bool true, .bool true, [], rfl, fun _ => rfl, .bool true, post_true l _, fun _ => ⟨List.Pairwise.nil, fun _ hm => (nomatch hm)⟩⟩, h2, h3, h4⟩
section
variable {prog : Program} {w : World} {A : Around} {E : Value → Shared → Prop} {s : Shared} {K : Frag}
end
end Att
namespace L2
open PySem PySem.Spec PyProof.Rows
theorem vals_ints : ∀ {vs : List Value} {ns : List Int}, IntsAre vs ns → Vals (ns.map V.int) vs
  | _, _, .nil => .nil
  | _, _, .cons n t h => .cons ⟨t, rfl⟩ (vals_ints h)
def Only (H : Hp) : Prop := ∀ b, H b = none ∨ ∃ o xs, H b = some (.frz o (.lst xs))
theorem law_call {P : Program} {w : World} {K : PySem.W.Frag} {mg mb : Str → Option Value} {CX : CXT} {k : Nat} {fa a : Addr} {fd : FuncData} {x : Str} {sp : Sp} {s₁ : Shared} {vs : List Value} {ns : List Int}
    (KX : K.In s₁.heap) (hns : s₁.heap.Ns mainGlobals mg) (hb : s₁.heap.Ns builtinsNs mb) (hbb : ∀ x : Str, x ≠ "__name__" → mb x = bootBuiltins x) (hlim : s₁.heap.NoLimit) (hg : s₁.gens = #[])
    (ha : s₁.heap.get? a = some { cls := .type "list", data := .seq vs.toArray }) (hi : IntsAre vs ns) (hl : ns.length ≤ sizeLine) (hr : Room k callerA)
    (F : ∀ base : Heap, K.In base → base.Ns mainGlobals mg → FnOk P w K mg base CX k fa fd [x] sp) (hbind : ∀ (s : Shared) (u : Value), BindsTo s fd ⟨[u], []⟩ [(x, u)])
    (hsp : ∀ H : Hp, Only H → SqL K H a (ns.map V.int) → sp [.ref a] H (fun v _ => v = .bl true) fun _ _ _ => False)
    (hCX : ∀ H e s', CX [] H s₁ (fun _ _ _ => False) e s' → False) :
    codeAny (model P w) callerA (.call (.ref fa) ⟨[.ref a], []⟩) (fun r s' => r = .ok (.ret (.bool true)) ∧ OldK s₁.heap s'.heap ∧ s'.os = s₁.os ∧ AllBare s'.gens) s₁ := by
  have rv := vals_ints hi
  have lenV := hi.length
  -- from an abstract heap in which nothing but the script may be tracked
  have core : ∀ H : Hp, Only H → SqL K H a (ns.map V.int) → HOk P w H s₁.heap → (∀ b, H b ≠ none → b = a) → (H a ≠ none → K.lookup a = none) →
      codeAny (model P w) callerA (.call (.ref fa) ⟨[.ref a], []⟩) (fun r s' => r = .ok (.ret (.bool true)) ∧ OldK s₁.heap s'.heap ∧ s'.os = s₁.os ∧ AllBare s'.gens) s₁ := by
    intro H hO hS hok hA hK
    have base_of : ∀ {b : Addr} {o : Obj}, s₁.heap.get? b = some o → H b = none → (hidT s₁.heap H).get? b = some o := fun e n => hidT_get e n
    have noA : ∀ {b : Addr} {o : Obj} {es : Array DictEntry} {ep : Nat}, s₁.heap.get? b = some o → o.data = .dict es ep → H b = none := fun {b o es ep} e d => by
      cases q : H b with
      | none => rfl
      | some u =>
        have e' : b = a := hA b (by rw [q]; simp)
        subst e'
        rw [ha] at e; cases e
        have d' : Data.seq vs.toArray _ = Data.dict es ep := d
        cases d'
    have nsK : ∀ {b : Addr} {m : Str → Option Value}, s₁.heap.Ns b m → (hidT s₁.heap H).Ns b m := fun {b m} ⟨o, es, ep, e, d, r⟩ => ⟨o, es, ep, base_of e (noA e d), d, r⟩
    have hKb : K.In (hidT s₁.heap H) := fun b o e => base_of (KX b o e) (by
      cases q : H b with
      | none => rfl
      | some u =>
        have e' : b = a := hA b (by rw [q]; simp)
        subst e'
        rw [hK (by rw [q]; simp)] at e; cases e)
    have hM : Mod K mg (hidT s₁.heap H) := ⟨hKb, nsK hns, ⟨mb, nsK hb, hbb⟩, let ⟨mc, h1, h2⟩ := hlim; ⟨mc, nsK h1, h2⟩⟩
    have e0 : Env0 P w K mg (hidT s₁.heap H) callerA [] s₁ H := ⟨rfl, hM, fun b o e => of_hidT e, Nat.le_of_eq (hidT_size _ _), trivial, fun b hb => absurd (show b ∈ ([] : List Addr) from hb) (by simp), hok, .of_eq hg⟩
    refine codeAny_mono ((F _ hKb (nsK hns)).run callerA [] s₁ H ⟨[.ref a], []⟩ [.ref a] [.ref a] _ _ hr e0 (hbind s₁ (.ref a)) (.cons rfl .nil) (hsp H hO hS)) fun r s' h => ?_
    cases r with
    | error e => exact (hCX H e s' h).elim
    | ok fl =>
      cases fl with
      | next => exact False.elim h
      | brk => exact False.elim h
      | cont => exact False.elim h
      | ret u =>
        obtain ⟨v, H', os, bare, un, hok', r', q⟩ := h
        have q' : v = .bl true := q
        subst q'
        obtain rfl : u = Value.bool true := r'
        refine ⟨rfl, OldK.of_keep fun b o e => ?_, os, bare⟩
        cases q : H b with
        | none => exact un.keep b o e q (by intro z; exact absurd (show b ∈ ([] : List Addr) from z) (by simp)) (by simp)
        | some u =>
          rcases hO b with z | ⟨ob, xs, z⟩
          · rw [q] at z; cases z
          · have z2 := un.frzs b ob _ z
            obtain ⟨e1, _⟩ := hok b _ z
            obtain ⟨e2, _⟩ := hok' b _ z2
            rw [e] at e1; cases e1
            exact e2
  cases hk : K.lookup a with
  | some o =>
    -- the script is one of the module's own objects
    have e := KX a o hk
    rw [ha] at e
    cases e
    refine core (fun _ => none) (fun _ => .inl rfl) (.inr ⟨_, vs.toArray, _, hk, rfl, rfl, rfl, by rw [List.size_toArray, lenV]; exact hl, by simpa using rv⟩) (fun b u z => by have z' : (none : Option HO) = some u := z; cases z') (fun b z => absurd rfl z) fun z => absurd rfl z
  | none =>
    refine core (fun b => if b = a then some (.frz { cls := .type "list", data := .seq vs.toArray } (.lst (ns.map V.int))) else none) (fun b => ?_) (.inl (.inr ⟨{ cls := .type "list", data := .seq vs.toArray }, if_pos rfl⟩)) (fun b u z => ?_) (fun b z => ?_) fun _ => hk
    · by_cases hb : b = a
      · exact .inr ⟨_, _, if_pos hb⟩
      · exact .inl (if_neg hb)
    · by_cases hb : b = a
      · have z' := (if_pos hb).symm.trans z
        cases z'
        subst hb
        exact ⟨ha, by rw [List.length_map]; exact hl, vs, _, rv, ha⟩
      · have z' := (if_neg hb).symm.trans z
        cases z'
    · by_cases hb : b = a
      · exact hb
      · exact absurd (if_neg hb) z
end L2
namespace L2
open PySem PySem.Spec PyProof.Rows
abbrev KOf {K : PySem.W.Frag} {h : Heap} (_ : K.In h) : PySem.W.Frag := K
theorem walk_of {l : PySem.W.OpenLaw} {n k : Nat} {q : Program} {loose : List Str} {XP : (Str → Option Value) → Heap → Prop} {YP : World → Heap → Prop} {d : DefRec} {K : Params → PySem.W.Frag} {CX : World → CXT} {sp : World → Sp} {x : Str}
    (hn : l.most = some n) (hn2 : n ≤ sizeLine) (hdf : d.params.defaults = []) (hr : Room k callerA)
    (hY : ∀ (w : World) (h : Heap), YP w h → (K w.params).In h)
    (F : ∀ (w : World) (mg : Str → Option Value) (fa : Addr) (h : Heap), (K w.params).In h → h.Ns mainGlobals mg → mg d.name = some (.ref fa) →
      ∃ fd : FuncData, (∀ (s : Shared) (u : Value), BindsTo s fd ⟨[u], []⟩ [(x, u)]) ∧
        ∀ base : Heap, (K w.params).In base → base.Ns mainGlobals mg → FnOk l.prog w (K w.params) mg base (CX w) k fa fd [x] (sp w))
    (hsp : ∀ (w : World) (H : Hp) (a : Addr) (ns : List Int), ns.length ≤ n → Only H → SqL (K w.params) H a (ns.map V.int) → sp w [.ref a] H (fun v _ => v = .bl true) fun _ _ _ => False)
    (hCX : ∀ (w : World) (H : Hp) (s : Shared) (e : Value) (s' : Shared), CX w [] H s (fun _ _ _ => False) e s' → False) :
    PySem.W.WalkO q loose XP YP l.row.toRowW d [] (fun f vs => PySem.call f vs) := by
  refine Att.attach_call hn hdf fun w s₀ s₁ mg mb fa o pm cd doc a vs ns G Y ho hd hcd hmg hobj hints hlen hg => ?_
  have KX := hY w _ Y
  obtain ⟨fd, hb, hF⟩ := F w mg fa _ KX G.T.g hmg
  exact law_call KX G.T.g G.T.b G.T.builtins G.T.nolimit hg hobj hints (Nat.le_trans hlen hn2) hr hF hb (fun H hO hS => hsp w H a ns hlen hO hS) fun H e s' => hCX w H s₁ e s'
end L2
/- THE LAST THEOREM (shape; LID, My.* are yours):
   My.Adr: a structure of the addresses that your layer names (classes, functions); My.Txt K t: a structure (Prop) of the equations over K;
   My.txt_mk : {K} {implicit addresses ..} (e1 : nsIn K mainGlobals "law" = some (some (.ref f))) (e2 : K.lookup f = some ⟨oc, od, .func (fnOf "law" "law" params body scope dV kV doc pm an cdv ct), sl⟩) (e3 : codeIn K cdv "law" = true) .. : ∃ t, My.Txt K t
set_option maxRecDepth 100000 in
set_option maxHeartbeats 0 in
theorem PySem.Challenge.cw_LID_holds : PySem.Challenge.rw_LID.Holds := by
  w_on; o_law; k_head; (case hw => w_witness2)
  k_fill
  refine L2.walk_of (l := PySem.Challenge.rw_LID) (n := 63) (k := 40) (x := "script") (CX := fun w => ..) (sp := fun _ => My.sp_law) rfl (by decide) rfl ⟨rfl, by decide, by decide⟩ (fun w h Y => PySem.W.kIn_of Y) ?F ?S ?C
  case F =>
    intro w mg fa h KX G hmg
    have T : ∃ t, My.Txt (L2.KOf KX) t := by
      dsimp only [L2.KOf]                          -- K must stand as «<heap const> w.params» for k_is
      refine' My.txt_mk ?e1 ?e2 ?e3 ..
      (case e1 => PySem.W.k_is)                    -- in the order: a name -> its address -> its object -> its parts
      (case e2 => PySem.W.k_is)
      ..
    obtain ⟨t, T⟩ := T
    have e0 := hmg.symm.trans (PySem.W.mg_of KX G T.law)
    cases e0                                       -- fa is the law's own address
    exact ⟨_, fun s u => .of_eq rfl, fun base kb nb => My.law_fn T kb nb⟩     -- if «.of_eq rfl» comes too early: refine' ⟨_, ?b, fun base kb nb => My.law_fn T kb nb⟩; exact fun s u => .of_eq rfl
  case S => exact fun w H a ns hl hO hS => ..
  case C => exact ..
(the tactic k_is has no namespace: write k_is) -/
namespace L2
open PySem PySem.Spec PyProof.Rows
def inClass (s : Stmt) (j : Nat) : Stmt := match s with
  | .ClassDef _ _ _ body _ _ _ _ _ _ _ => body.getD j (.Pass ⟨0, 0, 0, 0⟩)
  | _ => .Pass ⟨0, 0, 0, 0⟩
def defArgs (s : Stmt) : Arguments := match s with
  | .FunctionDef _ a _ _ _ _ _ _ _ _ => a
  | _ => { posonlyargs := [], args := [], vararg := none, kwonlyargs := [], kw_defaults := [], kwarg := none, defaults := [] }
def defBody (s : Stmt) : List Stmt := match s with
  | .FunctionDef _ _ b _ _ _ _ _ _ _ => b
  | _ => []
def defScope (s : Stmt) : Scope := match s with
  | .FunctionDef _ _ _ _ _ _ sc _ _ _ => sc
  | _ => { kind := .function, names := [], isGenerator := false, isCoroutine := false }
abbrev CX0 : CXT := fun _ _ _ _ _ _ => False
abbrev E0 : XK := fun _ _ _ => False
structure Fun (K : PySem.W.Frag) (x qual : Str) (st : Stmt) (f : Addr) (fd : FuncData) : Prop where
  ex : ∃ (oc : Value) (od : Option Addr) (kV doc pm : Value) (an : Option Addr) (cdv ct : Value) (osl : Array (Option Value)),
    fd = PySem.W.fnOf x qual (defArgs st) (defBody st) (defScope st) .none kV doc pm an cdv ct ∧ K.lookup f = some ⟨oc, od, .func fd, osl⟩ ∧ PySem.W.codeIn K cdv qual = true
  kp : PySem.W.keepIn K (.ref f) = true
section
variable {P : Program} {w : World} {K : PySem.W.Frag} {mg : Str → Option Value} {base : Heap}
theorem Fun.ok {x qual : Str} {st : Stmt} {f : Addr} {fd : FuncData} {N ps : List Str} {k : Nat} {sp : Sp} (F : Fun K x qual st f fd) (S : FnScope N ps (defScope st)) (len : ∀ vs H Q E, sp vs H Q E → vs.length = ps.length)
    (hbody : ∀ (cdv : Value) (A : Around) (outer : List Env) (s : Shared) (H : Hp) (vs : List V) (Q : VK) (E : XK), Room k (A.deeper (envOfC qual (defScope st) s.heap.objs.size f cdv)) → sp vs H Q E →
      ∃ t, PSs (cxOf CX0 P w K mg base N qual (defScope st) f cdv A outer s H E).nox (defBody st) t ∧ t { nx := fun _ H' => Q .non H', rt := Q } (start N vs) H) : FnOk P w K mg base CX0 (k + 1) f fd ps sp := by
  obtain ⟨oc, od, kV, doc, pm, an, cdv, ct, osl, rfl, lk, hcd⟩ := F.ex
  refine fn_of lk hcd S len fun A outer s H vs Q E hr hsp => ?_
  obtain ⟨t, h, q⟩ := hbody cdv A outer s H vs Q E hr hsp
  exact ⟨t, h.nox, q⟩
theorem Fun.binds {x qual : Str} {st : Stmt} {f : Addr} {fd : FuncData} {ps : List Str} (F : Fun K x qual st f fd)
    (h : ∀ (kV doc pm : Value) (an : Option Addr) (cdv ct : Value) (us : List Value), us.length = ps.length → bindArgs (PySem.W.fnOf x qual (defArgs st) (defBody st) (defScope st) .none kV doc pm an cdv ct) ⟨us, []⟩ = pure (ps.zip us)) : Binds K fd ps [] := by
  obtain ⟨oc, od, kV, doc, pm, an, cdv, ct, osl, rfl, lk, hcd⟩ := F.ex
  exact .all (h kV doc pm an cdv ct)
theorem fun_mk {x qual : Str} {st : Stmt} {f : Addr} {oc : Value} {od an : Option Addr} {osl : Array (Option Value)} {kV doc pm cdv ct : Value} (l : K.lookup f = some ⟨oc, od, .func (PySem.W.fnOf x qual (defArgs st) (defBody st) (defScope st) .none kV doc pm an cdv ct), osl⟩)
    (c : PySem.W.codeIn K cdv qual = true) (k : PySem.W.keepIn K (.ref f) = true) : Fun K x qual st f (PySem.W.fnOf x qual (defArgs st) (defBody st) (defScope st) .none kV doc pm an cdv ct) := ⟨⟨oc, od, kV, doc, pm, an, cdv, ct, osl, rfl, l, c⟩, k⟩
end
theorem hu_of {A : Around} {k : Nat} (hr : Room k A) : A.units + 1 < cLine := Nat.lt_of_le_of_lt (Nat.add_le_add_left (by decide : 1 ≤ 64) _) hr.units
section
variable {X : Cx}
theorem pv (i : Nat) {x : Str} {pos : Pos} (hN : X.N[i]? = some x := by rfl) (hv : Vis X.env.scope x := by first | exact Or.inl rfl | exact Or.inr (Or.inl rfl) | exact Or.inr (Or.inr rfl)) (hd : (x == ("__debug__" : Str)) = false := by decide)
    (hcd : (x == ("__classdict__" : Str)) = false := by decide) : PE X (.Name x pos) (tVar i) := pe_var hN hv hd hcd
end
theorem ite2 {c A B : Prop} [Decidable c] (h1 : c → A) (h2 : ¬ c → B) : if c then A else B := by
  by_cases h : c
  · rw [if_pos h]
    exact h1 h
  · rw [if_neg h]
    exact h2 h
def Same (H H' : Hp) : Prop := ∀ b o, H b = some o → H' b = some o
theorem Same.refl (H : Hp) : Same H H := fun _ _ h => h
theorem Same.trans {H H1 H2 : Hp} (a : Same H H1) (b : Same H1 H2) : Same H H2 := fun c o h => b c o (a c o h)
theorem Same.free {H H' : Hp} (e : Same H H') {l : Addr} (h : H' l = Option.none) : H l = Option.none := by
  cases q : H l with
  | none => rfl
  | some o =>
    rw [e l o q] at h
    cases h
theorem Same.seq {K : PySem.W.Frag} {H H' : Hp} {a : Addr} {xs : List V} (e : Same H H') (h : SqL K H a xs) : SqL K H' a xs := by
  rcases h with (h | ⟨o, h⟩) | h
  · exact .inl (.inl (e _ _ h))
  · exact .inl (.inr ⟨o, e _ _ h⟩)
  · exact .inr h
end L2
set_option maxHeartbeats 4000000
namespace L2
open PySem PySem.Spec PyProof.Rows
theorem hg {G : Prop} (h : ∀ G' : Prop, (G → G') → G') : G := h G id
theorem elc {α : Type} {P : List α → Prop} {n : Nat} (h : ∀ x r, r.length = n → P (x :: r)) : ∀ us : List α, us.length = n + 1 → P us
  | [], e => absurd e (by simp)
  | x :: r, e => h x r (by simpa using e)
theorem el0 {α : Type} {P : List α → Prop} (h : P []) : ∀ us : List α, us.length = 0 → P us
  | [], _ => h
  | _ :: _, e => absurd e (by simp)
theorem el1 {α : Type} {P : List α → Prop} (h : ∀ x0, P [x0]) : ∀ us : List α, us.length = 1 → P us := elc fun x r e => el0 (P := fun r => P (x :: r)) (h x) r e
theorem el2 {α : Type} {P : List α → Prop} (h : ∀ x0 x1, P [x0, x1]) : ∀ us : List α, us.length = 2 → P us := elc fun x r e => el1 (P := fun r => P (x :: r)) (h x) r e
theorem el3 {α : Type} {P : List α → Prop} (h : ∀ x0 x1 x2, P [x0, x1, x2]) : ∀ us : List α, us.length = 3 → P us := elc fun x r e => el2 (P := fun r => P (x :: r)) (h x) r e
theorem el4 {α : Type} {P : List α → Prop} (h : ∀ x0 x1 x2 x3, P [x0, x1, x2, x3]) : ∀ us : List α, us.length = 4 → P us := elc fun x r e => el3 (P := fun r => P (x :: r)) (h x) r e
theorem el5 {α : Type} {P : List α → Prop} (h : ∀ x0 x1 x2 x3 x4, P [x0, x1, x2, x3, x4]) : ∀ us : List α, us.length = 5 → P us := elc fun x r e => el4 (P := fun r => P (x :: r)) (h x) r e
end L2
namespace Sw
def dv (a b : Int) : Int := (Int.gcd a b : Nat)
theorem dv_nn (a b : Int) : 0 ≤ dv a b := Int.natCast_nonneg _
theorem dv_l (a b : Int) : dv a b ∣ a := Int.gcd_dvd_left a b
theorem dv_r (a b : Int) : dv a b ∣ b := Int.gcd_dvd_right a b
theorem dv_comm (a b : Int) : dv a b = dv b a := by unfold dv; rw [Int.gcd_comm]
theorem dv_negl (a b : Int) : dv (-a) b = dv a b := by unfold dv; rw [Int.neg_gcd]
theorem dv_negr (a b : Int) : dv a (-b) = dv a b := by unfold dv; rw [Int.gcd_neg]
theorem dv_zero (a : Int) (h : 0 ≤ a) : dv a 0 = a := by
  unfold dv; rw [Int.gcd_zero_right]; omega
theorem dv_eq0 {a b : Int} (h : dv a b = 0) : a = 0 ∧ b = 0 := by
  unfold dv at h
  exact Int.gcd_eq_zero_iff.mp (by omega)
theorem dv_pos {a b : Int} (h : b ≠ 0) : 0 < dv a b := by
  have := dv_nn a b
  rcases Int.lt_or_eq_of_le this with q | q
  · exact q
  · exact absurd (dv_eq0 q.symm).2 h
theorem dv_dvd {a b c : Int} (h1 : c ∣ a) (h2 : c ∣ b) : c ∣ dv a b := Int.dvd_coe_gcd h1 h2
theorem dv_ext {a b c d : Int} (h : ∀ x : Int, (x ∣ a ∧ x ∣ b) ↔ (x ∣ c ∧ x ∣ d)) : dv a b = dv c d := by
  have h1 : dv a b ∣ dv c d := dv_dvd ((h _).mp ⟨dv_l a b, dv_r a b⟩).1 ((h _).mp ⟨dv_l a b, dv_r a b⟩).2
  have h2 : dv c d ∣ dv a b := dv_dvd ((h _).mpr ⟨dv_l c d, dv_r c d⟩).1 ((h _).mpr ⟨dv_l c d, dv_r c d⟩).2
  exact Int.dvd_antisymm (dv_nn _ _) (dv_nn _ _) h1 h2
theorem dv_step (a b : Int) : dv b (a % b) = dv a b := by
  refine dv_ext fun x => ⟨fun ⟨h1, h2⟩ => ⟨?_, h1⟩, fun ⟨h1, h2⟩ => ⟨h2, ?_⟩⟩
  · have e := Int.mul_ediv_add_emod a b
    rw [← e]
    exact Int.dvd_add (Int.dvd_trans h1 (Int.dvd_mul_right b _)) h2
  · rw [Int.emod_def]
    exact Int.dvd_sub h1 (Int.dvd_trans h2 (Int.dvd_mul_right b _))
theorem dv_abs (a b : Int) : dv (if a < 0 then -a else a) (if b < 0 then -b else b) = dv a b := by
  split <;> split <;> simp only [dv_negl, dv_negr]
theorem dv_scale (g a b : Int) (h : 0 ≤ g) : dv (g * a) (g * b) = g * dv a b := by
  unfold dv; rw [Int.gcd_mul_left]
  have : ((g.natAbs * a.gcd b : Nat) : Int) = (g.natAbs : Int) * (a.gcd b : Nat) := by simp
  rw [this]; congr 1; omega
theorem dv_quot {a b : Int} (h : dv a b ≠ 0) : dv (a / dv a b) (b / dv a b) = 1 := by
  have hp : 0 < dv a b := by have := dv_nn a b; omega
  have e1 : a = dv a b * (a / dv a b) := (Int.mul_ediv_cancel' (dv_l a b)).symm
  have e2 : b = dv a b * (b / dv a b) := (Int.mul_ediv_cancel' (dv_r a b)).symm
  have e : dv a b = dv a b * dv (a / dv a b) (b / dv a b) := by
    have := dv_scale (dv a b) (a / dv a b) (b / dv a b) (Int.le_of_lt hp)
    rw [← e1, ← e2] at this
    exact this
  have e' : dv a b * 1 = dv a b * dv (a / dv a b) (b / dv a b) := by rw [Int.mul_one]; exact e
  exact (Int.eq_of_mul_eq_mul_left (by omega) e').symm
structure Fr (n d : Int) : Prop where
  pos : 0 < d
  low : dv n d = 1
theorem cop_dvd {n d x : Int} (h : dv n d = 1) (q : d ∣ n * x) : d ∣ x := by
  have h' : Nat.Coprime d.natAbs n.natAbs := by
    unfold dv at h
    have : Int.gcd n d = 1 := by omega
    unfold Nat.Coprime
    rw [Nat.gcd_comm]; exact this
  have q' : d.natAbs ∣ n.natAbs * x.natAbs := by rw [← Int.natAbs_mul]; exact Int.natAbs_dvd_natAbs.mpr q
  exact Int.natAbs_dvd_natAbs.mp (h'.dvd_of_dvd_mul_left q')
theorem Fr.uniq {n d m e : Int} (h : Fr n d) (k : Fr m e) (q : n * e = m * d) : n = m ∧ d = e := by
  have h1 : d ∣ e := cop_dvd h.low ⟨m, by rw [q, Int.mul_comm]⟩
  have h2 : e ∣ d := cop_dvd k.low ⟨n, by rw [← q, Int.mul_comm]⟩
  have e1 : d = e := Int.dvd_antisymm (Int.le_of_lt h.pos) (Int.le_of_lt k.pos) h1 h2
  subst e1
  have := h.pos
  exact ⟨Int.eq_of_mul_eq_mul_right (by omega) q, rfl⟩
def rN (t b : Int) : Int := if b < 0 then t / (-(dv t b)) else t / dv t b
def rD (t b : Int) : Int := if b < 0 then b / (-(dv t b)) else b / dv t b
theorem rN_mul {t b : Int} : rN t b * (if b < 0 then -(dv t b) else dv t b) = t := by
  unfold rN
  split
  · exact Int.ediv_mul_cancel (Int.neg_dvd.mpr (dv_l t b))
  · exact Int.ediv_mul_cancel (dv_l t b)
theorem rD_mul {t b : Int} : rD t b * (if b < 0 then -(dv t b) else dv t b) = b := by
  unfold rD
  split
  · exact Int.ediv_mul_cancel (Int.neg_dvd.mpr (dv_r t b))
  · exact Int.ediv_mul_cancel (dv_r t b)
theorem rat_cross {t b : Int} (h : b ≠ 0) : rN t b * b = rD t b * t := by
  have e1 := rN_mul (t := t) (b := b)
  have e2 := rD_mul (t := t) (b := b)
  generalize (if b < 0 then -(dv t b) else dv t b) = c at e1 e2
  calc rN t b * b = rN t b * (rD t b * c) := by rw [e2]
    _ = rD t b * (rN t b * c) := by rw [← Int.mul_assoc, ← Int.mul_assoc, Int.mul_comm (rN t b)]
    _ = rD t b * t := by rw [e1]
theorem rat_fr {t b : Int} (h : b ≠ 0) : Fr (rN t b) (rD t b) := by
  have hp := dv_pos (a := t) h
  refine ⟨?_, ?_⟩
  · unfold rD
    by_cases hb : b < 0
    · rw [if_pos hb, Int.ediv_neg]
      obtain ⟨k, hk⟩ := dv_r t b
      have : b / dv t b = k := Int.ediv_eq_of_eq_mul_right (by omega) hk
      rw [this]
      rcases Int.lt_or_le k 0 with q | q
      · omega
      · have := Int.mul_nonneg (Int.le_of_lt hp) q; omega
    · rw [if_neg hb]
      obtain ⟨k, hk⟩ := dv_r t b
      have : b / dv t b = k := Int.ediv_eq_of_eq_mul_right (by omega) hk
      rw [this]
      rcases Int.lt_or_le 0 k with q | q
      · exact q
      · have := Int.mul_nonneg_of_nonpos_of_nonpos (a := -(dv t b)) (b := k) (by omega) q
        rw [Int.neg_mul] at this
        omega
  · have q := dv_quot (a := t) (b := b) (by omega)
    unfold rN rD
    by_cases hb : b < 0
    · rw [if_pos hb, if_pos hb, Int.ediv_neg, Int.ediv_neg, dv_negl, dv_negr]; exact q
    · rw [if_neg hb, if_neg hb]; exact q
def Sz (n : Nat) (x : Int) : Prop := x.natAbs < 2 ^ n
theorem Sz.mono {m n : Nat} {x : Int} (h : Sz m x) (hm : m ≤ n) : Sz n x := Nat.lt_of_lt_of_le h (Nat.pow_le_pow_right (by decide) hm)
theorem Sz.mul {m n : Nat} {x y : Int} (h : Sz m x) (k : Sz n y) : Sz (m + n) (x * y) := by
  unfold Sz at *
  rw [Int.natAbs_mul, Nat.pow_add]
  by_cases hy : y.natAbs = 0
  · rw [hy, Nat.mul_zero]; exact Nat.mul_pos (Nat.two_pow_pos m) (Nat.two_pow_pos n)
  · exact Nat.mul_lt_mul_of_lt_of_lt h k
theorem Sz.sub {n : Nat} {x y : Int} (h : Sz n x) (k : Sz n y) : Sz (n + 1) (x - y) := by
  unfold Sz at *
  rw [Nat.pow_succ]; omega
theorem Sz.neg {n : Nat} {x : Int} (h : Sz n x) : Sz n (-x) := by unfold Sz at *; omega
theorem Sz.le {n : Nat} {x y : Int} (h : Sz n y) (k : x.natAbs ≤ y.natAbs) : Sz n x := Nat.lt_of_le_of_lt k h
theorem Sz.zero (n : Nat) : Sz n 0 := Nat.two_pow_pos n
theorem Sz.of {n : Nat} {x : Int} (h1 : -(2 ^ n : Nat) < x) (h2 : x < (2 ^ n : Nat)) : Sz n x := by unfold Sz; omega
theorem Sz.div {n : Nat} {x y : Int} (h : Sz n x) : Sz n (x / y) := by
  unfold Sz at *
  rcases Int.le_total 0 x with q | q
  · have := Int.natAbs_ediv_le_natAbs x y
    omega
  · have := Int.natAbs_ediv_le_natAbs x y
    omega
theorem Sz.dvd {n : Nat} {x y : Int} (h : Sz n y) (d : x ∣ y) (hy : y ≠ 0) : Sz n x := by
  refine h.le ?_
  exact Nat.le_of_dvd (by omega) (Int.natAbs_dvd_natAbs.mpr d)
end Sw
namespace Sw
theorem Sz.lit {x : Int} (h : x.natAbs < 1606938044258990275541962092341162602522202993782792835301376) : Sz 5000 x := by
  have e : (2 : Nat) ^ 200 = 1606938044258990275541962092341162602522202993782792835301376 := by decide
  exact Nat.lt_of_lt_of_le (by rw [e]; exact h) (Nat.pow_le_pow_right (by decide) (by decide : 200 ≤ 5000))
end Sw
namespace Sw
end Sw
namespace Sw
theorem Sz.r18 {x : Int} (h1 : -100000000000000000000 < x) (h2 : x < 100000000000000000000) : Sz 70 x := by
  have e : (2 : Nat) ^ 70 = 1180591620717411303424 := by decide
  unfold Sz; rw [e]; omega
theorem Sz.one (n : Nat) : Sz (n + 1) 1 := by
  unfold Sz
  exact Nat.lt_of_lt_of_le (by decide : Int.natAbs 1 < 2 ^ 1) (Nat.pow_le_pow_right (by decide) (by omega))
end Sw
namespace L2
open PySem PySem.Spec PyProof.Rows
theorem bits_of_sz {n : Nat} {x : Int} (h : Sw.Sz n x) : Builtin.Int.intBits x ≤ n := by
  unfold Builtin.Int.intBits
  split
  · exact Nat.zero_le _
  · rename_i hx
    have hx' : x ≠ 0 := by simpa using hx
    have : x.natAbs.log2 < n := (Nat.log2_lt (by omega)).mpr h
    omega
def CMulL (i j : Int) : Prop := Sw.Sz 5000 i ∧ Sw.Sz 5000 j
def CDivL (i j : Int) : Prop := 0 < j ∧ Sw.Sz 5000 j
def CDivS (i j : Int) : Prop := j ≠ 0 ∧ Sw.Sz 5000 j
theorem pylong_of {i j : Int} (h0 : j ≠ 0) (h : Sw.Sz 5000 j) : Builtin.divisionGoesByPylong i j = false := by
  refine PyProof.noPylong_of_log2 ?_
  have : j.natAbs.log2 < 5000 := (Nat.log2_lt (by omega)).mpr h
  omega
section
variable {X : Cx}
theorem op_mulL : OpR X (binaryOp .Mult) (rI CMulL fun i j => .int (i * j)) := opI fun _ _ _ _ _ _ _ hc q =>
  mul_int q (IntMulOk.of_bits (Nat.le_trans (bits_of_sz hc.1) (by decide)) (Nat.le_trans (bits_of_sz hc.2) (by decide)))
theorem op_fdivL : OpR X (binaryOp .FloorDiv) (rI CDivL fun i j => .int (i / j)) := opI fun i j _ _ _ _ _ hc q => by
  have h1 : (0 : Int) < j := hc.1
  exact floordiv_int (by omega) (by rw [Int.fdiv_eq_ediv_of_nonneg i (by omega)]; exact q) (.inl (pylong_of (by omega) hc.2))
theorem op_fdivS : OpR X (binaryOp .FloorDiv) (rI CDivS fun i j => .int (i.fdiv j)) := opI fun _ _ _ _ _ _ _ hc q => floordiv_int hc.1 q (.inl (pylong_of hc.1 hc.2))
def clsV : V → Option Value
  | .ty n => some (.type n)
  | .ref a => some (.ref a)
  | _ => none
theorem call_isinst : CallR X (.builtin "isinstance") (fun xs H Q => ∃ x c t cv b, xs = [x, c] ∧ clsV c = some cv ∧ TyOf X.K H x t ∧ PySem.W.kitOne X.K t cv = some b ∧ Q (.bl b) H) := by
  intro pins s σ H xs us Q I r h
  obtain ⟨x, c, t, cv, b, rfl, hc, ty, e, q⟩ := h
  obtain ⟨u, v, rfl, rx, rc⟩ := Vals.two r
  have ec : v = cv := by
    cases c with
    | ty n => cases (show v = Value.type n from rc); exact Option.some.inj hc
    | ref a => cases (show v = Value.ref a from rc); exact Option.some.inj hc
    | _ => cases hc
  subst ec
  exact isinst_ok I rx ty e fun tk => ⟨.bl b, H, I.tok _, rfl, q⟩
structure Def (P : Program) (w : World) (K : PySem.W.Frag) (mg : Str → Option Value) (base : Heap) (CX : CXT) (k : Nat) (x : Str) (ps : List Str) (sp : Sp) : Prop where
  ex : ∃ (f : Addr) (fd : FuncData), FnOk P w K mg base CX k f fd ps sp ∧ Binds K fd ps [] ∧ PySem.W.keepIn K (.ref f) = true ∧ mg x = some (.ref f)
structure Src (K : PySem.W.Frag) (mg : Str → Option Value) (x : Str) (st : Stmt) (ps : List Str) : Prop where
  ex : ∃ (f : Addr) (fd : FuncData), Fun K x x st f fd ∧ Binds K fd ps [] ∧ mg x = some (.ref f)
theorem Src.ok {P : Program} {w : World} {K : PySem.W.Frag} {mg : Str → Option Value} {base : Heap} {x : Str} {st : Stmt} {N ps : List Str} {k : Nat} {sp : Sp} (F : Src K mg x st ps) (S : FnScope N ps (defScope st)) (len : ∀ vs H Q E, sp vs H Q E → vs.length = ps.length)
    (hbody : ∀ (f : Addr) (cdv : Value) (A : Around) (outer : List Env) (s : Shared) (H : Hp) (vs : List V) (Q : VK) (E : XK), Room k (A.deeper (envOfC x (defScope st) s.heap.objs.size f cdv)) → sp vs H Q E →
      ∃ t, PSs (cxOf CX0 P w K mg base N x (defScope st) f cdv A outer s H E).nox (defBody st) t ∧ t { nx := fun _ H' => Q .non H', rt := Q } (start N vs) H) : Def P w K mg base CX0 (k + 1) x ps sp := by
  obtain ⟨f, fd, F, b, m⟩ := F.ex
  exact ⟨f, fd, F.ok S len (hbody f), b, F.kp, m⟩
end
end L2
namespace L2
theorem while_det {c : TT} {tb : TS} {D : Ends} {σ : St} {H : Hp} (Pv : St → Hp → Prop) (μ : St → Hp → Nat) (h0 : Pv σ H)
    (hs : ∀ σ H, Pv σ H → ∃ b : Bool, (∀ Q : Bool → Hp → Prop, Q b H → c σ H Q) ∧ (b = true → tb { D with nx := fun σ' H' => Pv σ' H' ∧ μ σ' H' < μ σ H, ct := fun σ' H' => Pv σ' H' ∧ μ σ' H' < μ σ H, bk := D.nx } σ H) ∧ (b = false → D.nx σ H)) : tWhile c tb D σ H := by
  refine ⟨fun m σ H => m = μ σ H ∧ Pv σ H, ⟨_, rfl, h0⟩, ?_⟩
  rintro m σ H ⟨rfl, p⟩
  obtain ⟨b, hc, h1, h2⟩ := hs σ H p
  refine hc _ ?_
  cases b with
  | true => exact ⟨_, fun σ' H' ⟨p', l⟩ => ⟨_, l, rfl, p'⟩, h1 rfl⟩
  | false => exact h2 rfl
end L2
namespace L2
open PySem PySem.Spec PyProof.Rows
theorem pe_globI {X : Cx} {x : Str} {n : Int} {pos : Pos} (hg : Gl X x) (hm : ∃ t, X.mg x = some (.int n t)) (hd : (x == ("__debug__" : Str)) = false := by decide) : PE X (.Name x pos) (tC (.int n)) := by
  obtain ⟨t, hm⟩ := hm
  exact pe_glob hg hm ⟨t, rfl⟩ hd
def spLaw (K : PySem.W.Frag) : Sp := fun vs H Q _ => ∃ (a : Addr) (ns : List Int), vs = [.ref a] ∧ SqL K H a (ns.map V.int) ∧ ns.length ≤ 63 ∧ ∀ H', Q (.bl true) H'
end L2
namespace L2
open PySem PySem.Spec PyProof.Rows
def spInt1 (g : Int → Int) : Sp := fun vs H Q _ => ∃ a, vs = [.int a] ∧ Q (.int (g a)) H
def spInt2 (g : Int → Int → Int) : Sp := fun vs H Q _ => ∃ a b, vs = [.int a, .int b] ∧ Q (.int (g a b)) H
def cellI (ns : List Int) (k : Int) : Int := (ns[k.toNat]?).getD 0
def spCell (K : PySem.W.Frag) : Sp := fun vs H Q _ => ∃ a ns k, vs = [.ref a, .int k] ∧ SqL K H a (ns.map V.int) ∧ 0 ≤ k ∧ Q (.int (cellI ns k)) H
theorem cellAt_get {ns : List Int} {k : Int} (h0 : 0 ≤ k) (h : k < ns.length) : atI (ns.map V.int) k = some (V.int (cellI ns k)) := by
  have e : ((k.toNat : Nat) : Int) = k := by omega
  have hl : k.toNat < ns.length := by omega
  have q : (ns.map V.int)[k.toNat]? = some (V.int (cellI ns k)) := by
    rw [List.getElem?_map]
    unfold cellI
    rw [List.getElem?_eq_getElem hl]
    rfl
  have := atI_nat q
  rw [e] at this
  exact this
theorem cellAt_none {ns : List Int} {k : Int} (h0 : 0 ≤ k) (h : ¬ k < ns.length) : cellI ns k = 0 := by
  unfold cellI
  rw [List.getElem?_eq_none (by omega)]
  rfl
def spWhole : Sp := fun vs H Q _ => ∃ n, vs = [.int n] ∧ Q (.bl true) H
theorem kit_int_int {K : PySem.W.Frag} : PySem.W.kitOne K (.type "int") (.type "int") = some true := by rfl
theorem kit_int_bool {K : PySem.W.Frag} : PySem.W.kitOne K (.type "int") (.type "bool") = some false := by first | rfl | decide
end L2
namespace L2
theorem seq_step {t u : TS} {D : Ends} {σ : St} {H : Hp} (h : ∀ R : St → Hp → Prop, (∀ σ H, u D σ H → R σ H) → t { D with nx := R } σ H) : tSeq t u D σ H := h (u D) fun _ _ x => x
end L2
namespace L2
open PySem PySem.Spec PyProof.Rows
theorem spCell_of {K : PySem.W.Frag} {H : Hp} {a : Addr} {ns : List Int} {k : Int} {Q : VK} {E : XK} (hS : SqL K H a (ns.map V.int)) (h0 : 0 ≤ k) (q : Q (.int (cellI ns k)) H) : spCell K [.ref a, .int k] H Q E := ⟨a, ns, k, rfl, hS, h0, q⟩
end L2
namespace L2
theorem cmulL_lit {a b : Int} (h1 : a.natAbs < 1606938044258990275541962092341162602522202993782792835301376) (h2 : b.natAbs < 1606938044258990275541962092341162602522202993782792835301376) : CMulL a b := ⟨Sw.Sz.lit h1, Sw.Sz.lit h2⟩
theorem cdivL_lit {a b : Int} (h0 : 0 < b) (h2 : b.natAbs < 1606938044258990275541962092341162602522202993782792835301376) : CDivL a b := ⟨h0, Sw.Sz.lit h2⟩
end L2
namespace L2
open PySem
theorem line_lit {n : Nat} (h : n ≤ 1000) : n ≤ sizeLine := Nat.le_trans h (by decide)
theorem line_lt {n : Nat} (h : n < 1000) : n < sizeLine := Nat.lt_of_lt_of_le h (by decide)
end L2
namespace L2
open PySem
theorem ixT_at {K : PySem.W.Frag} {H : Hp} {p : Addr} {xs : List V} {i : Int} {v : V} {Q : VK} (hT : SqT K H p xs) (h : atI xs i = some v) (q : Q v H) : rIxT K (.ref p) (.int i) H Q := ⟨p, xs, i, v, rfl, rfl, hT, h, q⟩
theorem ixL_at {K : PySem.W.Frag} {H : Hp} {p : Addr} {xs : List V} {i : Int} {v : V} {Q : VK} (hT : SqL K H p xs) (h : atI xs i = some v) (q : Q v H) : rIxL K (.ref p) (.int i) H Q := ⟨p, xs, i, v, rfl, rfl, hT, h, q⟩
end L2
namespace L2
open PySem PySem.Spec PyProof.Rows
theorem kit_tuple {K : PySem.W.Frag} : PySem.W.kitOne K (.type "tuple") (.type "tuple") = some true := by rfl
theorem kit_list {K : PySem.W.Frag} : PySem.W.kitOne K (.type "list") (.type "list") = some true := by rfl
end L2
namespace L2
theorem iteP {c A B : Prop} [Decidable c] (hc : c) (h : A) : if c then A else B := by rw [if_pos hc]; exact h
theorem iteN {c A B : Prop} [Decidable c] (hc : ¬ c) (h : B) : if c then A else B := by rw [if_neg hc]; exact h
end L2
namespace L2
end L2
namespace L2
open PySem PySem.Spec PyProof.Rows
mutual
inductive Deep (K : PySem.W.Frag) (H : Hp) : V → PyData → Prop
  | non : Deep K H .non .none
  | bl (b : Bool) : Deep K H (.bl b) (.bool b)
  | int (i : Int) : Deep K H (.int i) (.int i)
  | str (x : Str) : Deep K H (.str x) (.str x)
  | tup {a : Addr} {xs : List V} {ds : List PyData} : SqT K H a xs → DeepAll K H xs ds → Deep K H (.ref a) (.tuple ds)
  | lst {a : Addr} {xs : List V} {ds : List PyData} : SqL K H a xs → DeepAll K H xs ds → Deep K H (.ref a) (.list ds)
inductive DeepAll (K : PySem.W.Frag) (H : Hp) : List V → List PyData → Prop
  | nil : DeepAll K H [] []
  | cons {x : V} {d : PyData} {xs : List V} {ds : List PyData} : Deep K H x d → DeepAll K H xs ds → DeepAll K H (x :: xs) (d :: ds)
end
section
variable {X : Cx} {pins : List (Addr × Obj)} {σ : St} {H : Hp} {s : Shared}
mutual
theorem deep_reads (I : Inv X pins σ H s) : ∀ {x : V} {d : PyData} {u : Value}, Deep X.K H x d → RelV x u → ∃ as, Reads s.heap u d as
  | _, _, u, .non, r => by cases (show u = Value.none from r); exact ⟨_, .none⟩
  | _, _, u, .bl b, r => by cases (show u = Value.bool b from r); exact ⟨_, .bool b⟩
  | _, _, u, .int i, r => by obtain ⟨t, rfl⟩ := (show ∃ t, u = Value.int i t from r); exact ⟨_, .int i t⟩
  | _, _, u, .str x, r => by obtain ⟨t, rfl⟩ := (show ∃ t, u = Value.str x t from r); exact ⟨_, .str x t⟩
  | _, _, u, .tup (a := a) q h, r => by
    cases (show u = Value.ref a from r)
    obtain ⟨its, rv, ⟨o, e, c, n, d⟩, hz⟩ := I.tuple q
    obtain ⟨as, ra⟩ := deep_readsAll I h rv
    exact ⟨as, reads_tuple_at e c d (by simpa using ra)⟩
  | _, _, u, .lst (a := a) q h, r => by
    cases (show u = Value.ref a from r)
    obtain ⟨its, rv, ⟨o, n, e, c, _, d⟩, hz⟩ := I.list q
    obtain ⟨as, ra⟩ := deep_readsAll I h rv
    exact ⟨_, reads_list_at e c d (by simpa using ra)⟩
theorem deep_readsAll (I : Inv X pins σ H s) : ∀ {xs : List V} {ds : List PyData} {us : List Value}, DeepAll X.K H xs ds → Vals xs us → ∃ as, ReadsAll s.heap us ds as
  | _, _, _, .nil, .nil => ⟨_, .nil⟩
  | _, _, _, .cons d h, .cons r t => by
    obtain ⟨as, q⟩ := deep_reads I d r
    obtain ⟨bs, p⟩ := deep_readsAll I h t
    exact ⟨_, .cons q p⟩
end
end
section
variable {X : Cx}
def rEqD (K : PySem.W.Frag) : R2 := fun x y H Q => ∃ d e, Deep K H x d ∧ Deep K H y e ∧ PySem.SeqAt.shaped d = true ∧ PySem.SeqAt.shaped e = true ∧ Q (.bl (PyData.eqv d e)) H
def rNeD (K : PySem.W.Frag) : R2 := fun x y H Q => ∃ d e, Deep K H x d ∧ Deep K H y e ∧ PySem.SeqAt.shaped d = true ∧ PySem.SeqAt.shaped e = true ∧ Q (.bl (!PyData.eqv d e)) H
theorem op_eqD (hu : X.A.units + 64 < cLine) : OpR X (compareOp .Eq) (rEqD X.K) := by
  intro pins s σ H x y v u Q I rx ry h
  obtain ⟨d, e, hd, he, sd, se, q⟩ := h
  obtain ⟨as, ra⟩ := deep_reads I hd rx
  obtain ⟨bs, rb⟩ := deep_reads I he ry
  exact eq_dataH ra rb sd se hu ⟨.bl _, H, I, rfl, q⟩
theorem op_neD (hu : X.A.units + 64 < cLine) : OpR X (compareOp .NotEq) (rNeD X.K) := by
  intro pins s σ H x y v u Q I rx ry h
  obtain ⟨d, e, hd, he, sd, se, q⟩ := h
  obtain ⟨as, ra⟩ := deep_reads I hd rx
  obtain ⟨bs, rb⟩ := deep_reads I he ry
  exact ne_dataH ra rb sd se hu ⟨.bl _, H, I, rfl, q⟩
end
theorem Same.seqT {K : PySem.W.Frag} {H H' : Hp} {a : Addr} {xs : List V} (e : Same H H') (h : SqT K H a xs) : SqT K H' a xs := by
  rcases h with h | h
  · refine .inl ?_
    rcases h with h | ⟨o, h⟩
    · exact .inl (e _ _ h)
    · exact .inr ⟨o, e _ _ h⟩
  · exact .inr h
mutual
theorem Deep.same {K : PySem.W.Frag} {H H' : Hp} (e : Same H H') : ∀ {x : V} {d : PyData}, Deep K H x d → Deep K H' x d
  | _, _, .non => .non
  | _, _, .bl b => .bl b
  | _, _, .int i => .int i
  | _, _, .str x => .str x
  | _, _, .tup q h => .tup (e.seqT q) (DeepAll.same e h)
  | _, _, .lst q h => .lst (e.seq q) (DeepAll.same e h)
theorem DeepAll.same {K : PySem.W.Frag} {H H' : Hp} (e : Same H H') : ∀ {xs : List V} {ds : List PyData}, DeepAll K H xs ds → DeepAll K H' xs ds
  | _, _, .nil => .nil
  | _, _, .cons d h => .cons (Deep.same e d) (DeepAll.same e h)
end
theorem DeepAll.ints {K : PySem.W.Frag} {H : Hp} : ∀ ns : List Int, DeepAll K H (ns.map V.int) (ns.map PyData.int)
  | [] => .nil
  | n :: r => .cons (.int n) (DeepAll.ints r)
theorem same_new {H : Hp} {a : Addr} {o : HO} (h : H a = none) : Same H (upd H a o) := fun b u e => by rw [upd_ne (ne_of_none e h)]; exact e
end L2
namespace L2
open PySem PySem.Spec PyProof.Rows
def Ite (K : PySem.W.Frag) (a : Addr) : It :=
  ⟨fun i H => ∃ xs x, SqL K H a xs ∧ xs[i]? = some x,
   fun i H y H' => ∃ p x, y = .ref p ∧ H p = none ∧ (∀ xs, SqL K H a xs → xs[i]? = some x) ∧ H' = upd H p (.tup [.int i, x]),
   fun i H => ∃ xs, SqL K H a xs ∧ xs.length ≤ i⟩
section
variable {X : Cx}
def iEnum (K : PySem.W.Frag) (ta : TA) : TI := fun σ H R => ta σ H fun vs H1 => ∃ a, vs = [.ref a] ∧ (∃ xs, SqL K H1 a xs) ∧ R (Ite K a) H1
end
section
variable {prog : Program} {w : World} {A : Around} {R : Result → Shared → Prop} {s : Shared}
theorem codeAny_compLoop_go {elt target iter : Expr} {ifs : List Expr} {scope : Scope} {pos : Pos} {it acc : Value} {env : Env} (I : Nat → Shared → Prop)
    (turn : ∀ n s, I n s → wpAny (model prog w) A (pyNext it) (fun r s₁ => match r with
      | none => R (.ok .next) s₁
      | some v => wpAny (model prog w) A (letOwnedTupleGo target it v) (fun _ s₁' => wpAny (model prog w) A (assign target env v) (fun _ s₂ =>
          wpAny (model prog w) A (forIn ifs true fun c r => if r = true then do let ok ← isTrue c env (eval c env); pure (ForInStep.yield ok) else pure (ForInStep.yield r)) (fun ok s₃ =>
            if ok = true then wpAny (model prog w) A (eval elt env) (fun x s₄ =>
              wpAny (model prog w) A (call (.builtin "list.append") [acc, x]) (fun _ s₅ => ∃ m, m < n ∧ I m s₅) (notedBy (model prog w) A env fun e s' => R (.error e) s') s₄) (notedBy (model prog w) A env fun e s' => R (.error e) s') s₃
            else ∃ m, m < n ∧ I m s₃) (notedBy (model prog w) A env fun e s' => R (.error e) s') s₂) (notedBy (model prog w) A env fun e s' => R (.error e) s') s₁') (notedBy (model prog w) A env fun e s' => R (.error e) s') s₁) (notedBy (model prog w) A env fun e s' => R (.error e) s') s)
    (n : Nat) (h : I n s) :
    codeAny (model prog w) A (.compLoop (.ListComp elt [⟨target, iter, ifs, 0⟩] scope pos) 0 it acc env) R s := by
  refine codeAny_loop rfl I (fun n s hI => ?_) n h
  show wpAny _ A ((compTurn (.ListComp elt [⟨target, iter, ifs, 0⟩] scope pos) 0 it acc env).onRaise (fun x => do noteFrame x env; theTreesLotGoes x)) _ _ s
  refine wpAny_noted ?_
  rw [compTurn_list]
  refine wpAny_bind (wpAny_standAt (wpAny_bind (wpAny_mono (turn n s hI) (fun r s₁ h₁ => ?_) fun _ _ h' => h')))
  cases r with
  | none => exact wpAny_pure h₁
  | some v =>
    refine wpAny_bind (wpAny_mono h₁ (fun _ s₁' h₁' => ?_) fun _ _ h' => h')
    refine wpAny_bind (wpAny_mono h₁' (fun _ s₂ h₂ => wpAny_bind (wpAny_mono h₂ (fun ok s₃ h₃ => ?_) fun _ _ h' => h')) fun _ _ h' => h')
    cases ok with
    | false => exact wpAny_pure ⟨rfl, h₃⟩
    | true =>
      exact wpAny_bind (wpAny_bind (wpAny_mono h₃ (fun x s₄ h₄ => wpAny_bind (wpAny_mono h₄ (fun _ s₅ h₅ => wpAny_pure (wpAny_pure ⟨rfl, h₅⟩)) fun _ _ h' => h')) fun _ _ h' => h'))
end
def cxComp (X : Cx) (scope : Scope) (cl : List (Str × Addr)) (N : List Str) (fp : List Addr) (s : Shared) (H : Hp) : Cx :=
  { X with N := N, s₀ := s, H₀ := H, env := compEnvC scope cl s.heap.objs.size X.env, outer := X.stack, stack := X.stack, ex := fp, fn := fun _ => false, pn := [], xe := fun _ _ => False }
def FrOk (X : Cx) (sc : Scope) : List (Str × Nat) → Prop
  | [] => True
  | p :: r => (X.N[p.2]? = some p.1 ∧ sc.names.lookup p.1 = some .cell ∧ X.env.kindOf p.1 = some .cell) ∧ FrOk X sc r
theorem FrOk.mem {X : Cx} {sc : Scope} : ∀ {l : List (Str × Nat)}, FrOk X sc l → ∀ p ∈ l, X.N[p.2]? = some p.1 ∧ sc.names.lookup p.1 = some .cell ∧ X.env.kindOf p.1 = some .cell
  | [], _, p, hp => nomatch hp
  | q :: r, h, p, hp => by
    rcases List.mem_cons.mp hp with e | hp
    · rw [e]; exact h.1
    · exact FrOk.mem h.2 p hp
def PIfs (X : Cx) (ifs : List Expr) (t : TT) : Prop :=
  ∀ (pins : List (Addr × Obj)) (s : Shared) (σ : St) (H : Hp) (Q : Bool → Hp → Prop), Inv X pins σ H s → t σ H Q →
    wpAny (model X.prog X.w) X.A (forIn ifs true fun c r => if r = true then do let ok ← isTrue c X.env (eval c X.env); pure (ForInStep.yield ok) else pure (ForInStep.yield r)) (TP X pins σ Q) X.xe s
def tYes : TT := fun _ H Q => Q true H
theorem pifs_nil {X : Cx} : PIfs X [] tYes := fun _ _ _ H _ I h => wpAny_tests_nil ⟨H, I, h⟩
def tComp (nt : Nat) (fr : List (Str × Nat)) (wi : TI) (g : TG) (tc : TT) (te : TE) : TE := fun σ H Q => wi σ H fun J H1 => ∀ D, H1 D = none → ∃ W : Nat → Nat → St → Hp → Prop,
  (∃ m, W 0 m (List.replicate nt none ++ fr.map fun p => (σ[p.2]?).join) (upd H1 D (.lst []))) ∧ ∀ i m τ H', W i m τ H' →
    (J.stop i H' ∧ Q (.ref D) H') ∨ (J.go i H' ∧ ∃ N : St → Hp → Prop, (∀ τ' H'', N τ' H'' → ∃ m', m' < m ∧ W (i + 1) m' τ' H'') ∧
      ∀ x H2, J.yld i H' x H2 → g x τ H2 fun τ2 H3 => tc τ2 H3 fun b H4 => if b = true then te τ2 H4 fun y H5 => ∃ ys, H5 D = some (.lst ys) ∧ ys.length < sizeLine ∧ N τ2 (upd H5 D (.lst (ys ++ [y]))) else N τ2 H4)
section
variable {X : Cx}
theorem cx_start {scope : Scope} {cl : List (Str × Addr)} {ts : List Str} {fr : List (Str × Nat)} {fp : List Addr} {pins : List (Addr × Obj)} {σ : St} {H : Hp} {s : Shared} {h' : Heap} {m : Str → Option Value} {t' : Nat} (I : Inv X pins σ H s)
    (hkind : scope.kind = .function) (hcl : ∀ x c, cl.lookup x = some c → X.env.cells.lookup x = some c)
    (hhas : ∀ x, ((relabel scope X.env).names.lookup x = some .cell ∨ (relabel scope X.env).names.lookup x = some .free) → ∃ c, cl.lookup x = some c) (hfr : FrOk X (relabel scope X.env) fr)
    (hfp : ∀ b ∈ fp, FpOk X pins H b ∧ b < s.heap.objs.size) (hn : h'.Ns s.heap.objs.size m) (hk : ∀ b o, s.heap.get? b = some o → h'.get? b = some o) :
    Inv (cxComp X scope cl (ts ++ fr.map (·.1)) fp s H) [] (List.replicate ts.length none ++ fr.map fun p => (σ[p.2]?).join) H { s with heap := h', toks := t' } := by
  have cellK : ∀ c v, s.heap.IsCell c v → h'.IsCell c v := fun c v ⟨o, ho, hd⟩ => ⟨o, hk c o ho, hd⟩
  refine ⟨⟨I.ok.mod, hkind, I.ok.glob, I.ok.blt, Nat.le_refl _, fun x y c h1 h2 => I.ok.inj x y c (hcl x c h1) (hcl y c h2), hhas, fun x c h => (by cases h), I.ok.hd, I.ok.frames, .inl rfl, fun b hb => ?_, I.bs, Nat.le_trans I.ok.bsz I.sz, fun b o e hb => ?_, fun b hb z => ?_, I.stack, I.stkFree⟩,
    rfl, I.bare, Un.kept hk, ⟨m, hn, fun i x v e1 e2 e3 => ?_⟩, fun x c e => ?_, I.hok.fresh (Nat.le_refl _), fun x c e => I.freeC x c (hcl x c e), fun p hp => absurd (show p ∈ ([] : List (Addr × Obj)) from hp) (by simp), I.hok.kept hk, ?_⟩
  · obtain ⟨f, lt⟩ := hfp b hb
    exact ⟨Nat.ne_of_lt lt, fun x c e => f.2.2.2.2.1 x c (hcl x c e)⟩
  · obtain ⟨f, lt⟩ := hfp b hb
    rcases f.2.2.2.1 with z | z
    · exact I.ok.noex b o e z
    · exact absurd (Nat.lt_of_lt_of_le (Heap.lt_size e) (Nat.le_trans I.ok.bsz z)) (Nat.lt_irrefl _)
  · obtain ⟨f, lt⟩ := hfp b hb
    rcases List.mem_cons.mp (I.stkSub b z) with y | y
    · exact f.2.1 y
    · exact f.2.2.1 y
  · have hlen : (List.replicate ts.length (none : Option V)).length = ts.length := by simp
    by_cases hi : i < ts.length
    · rw [List.getElem?_append_left (by rw [hlen]; exact hi), List.getElem?_replicate, if_pos hi] at e2
      cases e2
    · rw [List.getElem?_append_right (by rw [hlen]; omega), hlen, List.getElem?_map] at e2
      have e1' : (ts ++ fr.map (·.1))[i]? = some x := e1
      rw [List.getElem?_append_right (by omega), List.getElem?_map] at e1'
      cases ep : fr[i - ts.length]? with
      | none => rw [ep] at e2; cases e2
      | some p =>
        rw [ep] at e1' e2
        have ex : p.1 = x := Option.some.inj e1'
        have ev : (σ[p.2]?).join = some v := Option.some.inj e2
        obtain ⟨a1, a2, a3⟩ := hfr.mem p (List.mem_of_getElem? ep)
        have ev' : σ[p.2]? = some (some v) := by
          cases q : σ[p.2]? with
          | none => rw [q] at ev; cases ev
          | some o => rw [q] at ev; cases o with
            | none => cases ev
            | some v' => cases ev; rfl
        obtain ⟨m', hn', hl'⟩ := I.loc
        obtain ⟨u, ru, lk⟩ := hl' p.2 p.1 v a1 ev' (.inr (.inl a3))
        subst ex
        refine ⟨u, ru, ?_⟩
        rcases lk with ⟨z, _⟩ | ⟨_, c, ec, z⟩
        · rw [z] at a3; cases a3
        · obtain ⟨c', ec'⟩ := hhas p.1 (.inl a2)
          have ecc : c' = c := Option.some.inj ((hcl _ _ ec').symm.trans ec)
          exact .inr ⟨.inl a2, c', ec', (by rw [ecc]; exact cellK _ _ z)⟩
  · obtain ⟨v, z⟩ := I.cell x c (hcl x c e)
    exact ⟨v, cellK _ _ z⟩
  · show _ = (ts ++ fr.map (·.1)).length
    simp
theorem pe_comp {elt target iter : Expr} {ifs : List Expr} {scope : Scope} {pos : Pos} {cl : List (Str × Addr)} {ts : List Str} {fr : List (Str × Nat)} {wi : TI} {g : TG} {tc : TT} {te : TE} (hcalm : X.calm = true)
    (hclos : closureFor scope X.env = pure cl) (hcell : ∀ y ∈ scope.names, y.2 ≠ .cell) (hkind : scope.kind = .function) (hnames : ∀ y ∈ scope.names, y.2 = .local → scope.names.lookup y.1 = some .local)
    (hcl : ∀ x c, cl.lookup x = some c → X.env.cells.lookup x = some c)
    (hhas : ∀ x, ((relabel scope X.env).names.lookup x = some .cell ∨ (relabel scope X.env).names.lookup x = some .free) → ∃ c, cl.lookup x = some c) (hfr : FrOk X (relabel scope X.env) fr)
    (hi : PI X target iter wi) (hg : ∀ fp s H, PG (cxComp X scope cl (ts ++ fr.map (·.1)) fp s H) target g) (hc : ∀ fp s H, PIfs (cxComp X scope cl (ts ++ fr.map (·.1)) fp s H) ifs tc)
    (he : ∀ fp s H, PE (cxComp X scope cl (ts ++ fr.map (·.1)) fp s H) elt te) (hs : ∀ x, foldedSetIterable iter X.env x = pure x := by intro _; rfl) :
    PE X (.ListComp elt [⟨target, iter, ifs, 0⟩] scope pos) (tComp ts.length fr wi g tc te) := by
  intro pins s σ H Q I h
  rw [eval_ListComp]
  refine wpAny_comprehension_free (use := none) rfl hs hclos hkind hnames (thn (hi pins s σ H _ I h) fun xv s1 h1 => thn h1 fun itv s2 h2 => ?_)
  obtain ⟨it, fp, tn, J, H2, rfl, I2, T, st2, f2, hR⟩ := h2
  have D0 : H2 s2.heap.objs.size = none := I2.hok.fresh (Nat.le_refl _)
  obtain ⟨W, ⟨m0, w0⟩, turn⟩ := hR s2.heap.objs.size D0
  refine wpAny_newObj_type (wpAny_newFunctionEnv hcell (by intro y hy; simp at hy) (fun h₁ hns₁ hsb₁ => ?_) hkind)
  dsimp only at hns₁ hsb₁ ⊢
  have I3 : Inv X pins σ (upd H2 s2.heap.objs.size (.lst [])) { s2 with heap := s2.heap.push { cls := .type "list", dict := none, data := .seq ([] : List Value).toArray } } :=
    I2.laid (t' := s2.toks) (fun _ _ q => Heap.get?_push_of_some _ q) (Nat.le_refl _) ⟨Nat.zero_le _, [], 0, .nil, Heap.get?_push_size _ rfl⟩
  have kp3 : ∀ b o, s2.heap.get? b = some o → (s2.heap.push { cls := .type "list", dict := none, data := .seq ([] : List Value).toArray }).get? b = some o := fun b o q => Heap.get?_push_of_some _ q
  have sz3 : (s2.heap.push { cls := .type "list", dict := none, data := .seq ([] : List Value).toArray }).objs.size = s2.heap.objs.size + 1 := Heap.size_push ..
  generalize s2.heap.push { cls := .type "list", dict := none, data := .seq ([] : List Value).toArray } = hp3 at hns₁ hsb₁ I3 kp3 sz3 ⊢
  have kp : ∀ b o, hp3.get? b = some o → h₁.get? b = some o := fun b o e => hsb₁.extBut b o (Nat.ne_of_lt (Heap.lt_size e)) (Heap.get?_push_of_some _ e)
  have flt : ∀ b ∈ fp, b < s2.heap.objs.size := fun b hb => by
    obtain ⟨o, e, _⟩ := T.obj _ _ st2 b hb
    exact Heap.lt_size e
  have fr3 : ∀ b ∈ fp, (upd H2 s2.heap.objs.size (.lst [])) b = none := fun b hb => by rw [upd_ne (Nat.ne_of_lt (flt b hb))]; exact (f2 b hb).1
  have f3 : ∀ b ∈ fp, FpOk X pins (upd H2 s2.heap.objs.size (.lst [])) b ∧ b < hp3.objs.size := fun b hb => ⟨⟨fr3 b hb, (f2 b hb).2⟩, by rw [sz3]; exact Nat.lt_succ_of_lt (flt b hb)⟩
  have I4 := cx_start (ts := ts) (t' := s2.toks + ([] : List (Str × Value)).length) I3 hkind hcl hhas hfr f3 hns₁ kp
  have st4 : tn 0 h₁ := T.keep _ _ _ st2 fun b hb o e => kp b o (kp3 b o e)
  have loop : codeAny (model X.prog X.w) X.A (.compLoop (.ListComp elt [⟨target, iter, ifs, 0⟩] scope pos) 0 (.ref it) (.ref s2.heap.objs.size) (compEnvC scope cl hp3.objs.size X.env))
      (compPost (model X.prog X.w) X.A X.xe none (EP X pins σ Q) (.ref s2.heap.objs.size) hp3.objs.size) { s2 with heap := h₁, toks := s2.toks + ([] : List (Str × Value)).length } := by
    refine codeAny_compLoop_go (fun n s' => ∃ i τ H', Inv (cxComp X scope cl (ts ++ fr.map (·.1)) fp { s2 with heap := hp3 } (upd H2 s2.heap.objs.size (.lst []))) [] τ H' s' ∧ tn i s'.heap ∧ (∀ b ∈ fp, H' b = none) ∧ W i n τ H') ?_ m0 ⟨0, _, _, I4, st4, fr3, w0⟩
    rintro n s5 ⟨i, τ, H5, I5, st5, fr5, w5⟩
    have stat : ∀ {H' : Hp}, (∀ b ∈ fp, H' b = none) → ∀ b ∈ fp, FpOk (cxComp X scope cl (ts ++ fr.map (·.1)) fp { s2 with heap := hp3 } (upd H2 s2.heap.objs.size (.lst []))) [] H' b :=
      fun hn b hb => ⟨hn b hb, (I5.ok.exf b hb).1, I5.ok.exfs b hb, .inl hb, (I5.ok.exf b hb).2, fun p hp => absurd (show p ∈ ([] : List (Addr × Obj)) from hp) (by simp)⟩
    rcases turn i n τ H5 w5 with ⟨stop, qn⟩ | ⟨go, Nn, hN, step⟩
    · refine thn (T.done (cxComp X scope cl (ts ++ fr.map (·.1)) fp { s2 with heap := hp3 } (upd H2 s2.heap.objs.size (.lst []))) rfl rfl rfl hcalm i [] s5 τ H5 _ I5 (stat fr5) st5 stop) fun r s6 ⟨hr, I6⟩ => ?_
      subst hr
      obtain ⟨m, hn, _⟩ := I6.loc
      refine ⟨m, hn, fun h' hs' => ⟨.ref s2.heap.objs.size, H5, ?_, rfl, qn⟩⟩
      have neC : ∀ b o, hp3.get? b = some o → b ≠ hp3.objs.size := fun b o e => Nat.ne_of_lt (Heap.lt_size e)
      have hs'' : Heap.SameBut hp3.objs.size s6.heap h' := hs'
      refine I3.call' (s' := { s6 with heap := h' }) (ch := fp) I6.os ⟨fun b o e n hb hx => ?_, fun b o e n hb hx => ?_, I6.base.free, fun b o e hx => ?_, I6.base.tups, I6.base.frzs, I6.base.tbls⟩ (fun b ob e => ?_) I6.bare (fun b hb => ?_)
      · exact (hs''.2 b (neC b o e)).trans (I6.base.keep b o e n hb hx)
      · obtain ⟨sl, q⟩ := I6.base.slot b o e n hb hx
        exact ⟨sl, (hs''.2 b (neC b o e)).trans q⟩
      · obtain ⟨o', q⟩ := I6.base.there b o e hx
        exact ⟨o', (hs''.2 b (neC b o e)).trans q⟩
      · refine (I6.hok b ob e).stay (fun c v hc q => (hs''.2 c ?_).trans q) (fun _ q => q) fun _ _ q => q
        intro z
        have fz : H5 hp3.objs.size = none := I6.free
        rcases hc with y | y
        · rw [← y, z, fz] at e; cases e
        · rw [z, fz] at y; cases y
      · exact ⟨(f2 b hb).2.2.2.1, (f2 b hb).2.1, (f2 b hb).2.2.2.2.1, (f2 b hb).2.2.2.2.2⟩
    · refine thn (T.item (cxComp X scope cl (ts ++ fr.map (·.1)) fp { s2 with heap := hp3 } (upd H2 s2.heap.objs.size (.lst []))) rfl rfl rfl hcalm i [] s5 τ H5 _ I5 (stat fr5) st5 go) fun r s6 ⟨u, hr, h6⟩ => ?_
      subst hr
      refine thn h6 fun _ s7 ⟨x, H7, I7, r7, y7, st7, fr7⟩ => ?_
      have I7' := I7.pinned (stat fr7) (T.obj _ _ st7)
      refine wpAny_mono (hg fp _ _ _ s7 τ H7 x u _ I7' r7 (step x H7 y7)) (fun _ s8 ⟨τ8, H8, I8, q8⟩ => ?_) fun _ _ z => False.elim z
      have again : ∀ {τ9 : St} {H9 : Hp} {s9 : Shared}, Inv (cxComp X scope cl (ts ++ fr.map (·.1)) fp { s2 with heap := hp3 } (upd H2 s2.heap.objs.size (.lst []))) ([] ++ pinsAt fp s7.heap) τ9 H9 s9 → Nn τ9 H9 →
          ∃ m, m < n ∧ ∃ i τ H', Inv (cxComp X scope cl (ts ++ fr.map (·.1)) fp { s2 with heap := hp3 } (upd H2 s2.heap.objs.size (.lst []))) [] τ H' s9 ∧ tn i s9.heap ∧ (∀ b ∈ fp, H' b = none) ∧ W i m τ H' := fun {τ9 H9 s9} I9 n9 => by
        obtain ⟨m', hm, w9⟩ := hN τ9 H9 n9
        refine ⟨m', hm, i + 1, τ9, H9, I9.unpinned, T.keep _ _ _ st7 fun b hb o e => (I9.pin (b, o) (List.mem_append_right _ (List.mem_append_right _ (mem_pinsAt hb e)))).1, fun b hb => ?_, w9⟩
        obtain ⟨o, e, d⟩ := T.obj _ _ st7 b hb
        exact (I9.pin (b, o) (List.mem_append_right _ (List.mem_append_right _ (mem_pinsAt hb e)))).2.1
      refine wpAny_mono (hc fp _ _ _ s8 τ8 H8 _ I8 q8) (fun ok s9 ⟨H9, I9, q9⟩ => ?_) fun _ _ z => False.elim z
      cases ok with
      | false => exact again I9 q9
      | true =>
        refine wpAny_mono (he fp _ _ _ s9 τ8 H9 _ I9 q9) (fun y s10 ⟨v, H10, I10, rv, ys, hD, hl, qN⟩ => ?_) fun _ _ z => False.elim z
        refine wpAny_mono (mt_append (X := cxComp X scope cl (ts ++ fr.map (·.1)) fp { s2 with heap := hp3 } (upd H2 s2.heap.objs.size (.lst []))) _ s10 τ8 H10 (.ref s2.heap.objs.size) [v] (.ref s2.heap.objs.size) [y] (fun _ H => Nn τ8 H) I10 rfl (.cons rv .nil) ⟨_, ys, v, rfl, rfl, hD, hl, qN⟩) (fun _ s11 ⟨_, H11, I11, _, q11⟩ => again I11 q11) fun _ _ z => False.elim z
  exact codeAny_compStart_list loop (T.self X.A 0 _ _ _ st4 loop)
end
end L2
namespace L2
open PySem PySem.Spec PyProof.Rows
section
variable {X : Cx} {tg : Expr}
theorem ix_listK (K : PySem.W.Frag) (h : X.K = K) : IxR X (rIxL K) := h ▸ ix_list
theorem ix_tupK (K : PySem.W.Frag) (h : X.K = K) : IxR X (rIxT K) := h ▸ ix_tup
theorem sl_listK (K : PySem.W.Frag) (h : X.K = K) : SlR X (rSlL K) := h ▸ sl_list
def rLen (K : PySem.W.Frag) : List V → Hp → VK → Prop := fun xs H Q => ∃ p ys, xs = [.ref p] ∧ (SqL K H p ys ∨ SqT K H p ys) ∧ Q (.int ys.length) H
theorem call_lenK (K : PySem.W.Frag) (h : X.K = K) : CallR X (.builtin "len") (rLen K) := h ▸ call_len_seq
def rInst (K : PySem.W.Frag) : List V → Hp → VK → Prop := fun xs H Q => ∃ x c t cv b, xs = [x, c] ∧ clsV c = some cv ∧ TyOf K H x t ∧ PySem.W.kitOne K t cv = some b ∧ Q (.bl b) H
theorem call_isinstK (K : PySem.W.Frag) (h : X.K = K) : CallR X (.builtin "isinstance") (rInst K) := h ▸ call_isinst
theorem pi_listK (K : PySem.W.Frag) (h : X.K = K) {l : Expr} {tl : TE} (hl : PE X l tl) : PI X tg l (iList K tl) := h ▸ pi_list hl
theorem pi_tupK (K : PySem.W.Frag) (h : X.K = K) {l : Expr} {tl : TE} (hl : PE X l tl) : PI X tg l (iTup K tl) := h ▸ pi_tup hl
end
def ClOk (env : Env) : List (Str × Addr) → Prop
  | [] => True
  | p :: r => env.cells.lookup p.1 = some p.2 ∧ ClOk env r
theorem ClOk.get {env : Env} : ∀ {cl : List (Str × Addr)}, ClOk env cl → ∀ x c, cl.lookup x = some c → env.cells.lookup x = some c
  | [], _, x, c, e => by cases e
  | p :: r, h, x, c, e => by
    obtain ⟨k, a⟩ := p
    rw [List.lookup_cons] at e
    by_cases q : x = k
    · subst q
      rw [beq_self_eq_true] at e
      cases e
      exact h.1
    · rw [beq_eq_false_iff_ne.mpr q] at e
      exact ClOk.get h.2 x c e
def clAll (ns : List (Str × NameKind)) (cl : List (Str × Addr)) : Bool := ns.all fun y => match y.2 with
  | .cell => (cl.lookup y.1).isSome
  | .free => (cl.lookup y.1).isSome
  | _ => true
theorem clAll_get {ns : List (Str × NameKind)} {cl : List (Str × Addr)} (h : clAll ns cl = true) (x : Str) (q : ns.lookup x = some .cell ∨ ns.lookup x = some .free) : ∃ c, cl.lookup x = some c := by
  unfold clAll at h
  rw [List.all_eq_true] at h
  rcases q with q | q
  · have := h _ (PySem.mem_of_lookup q)
    exact Option.isSome_iff_exists.mp this
  · have := h _ (PySem.mem_of_lookup q)
    exact Option.isSome_iff_exists.mp this
theorem pe_lc {X : Cx} {elt target iter : Expr} {ifs : List Expr} {scope : Scope} {pos : Pos} {cl : List (Str × Addr)} (ts : List Str) (fr : List (Str × Nat)) {wi : TI} {g : TG} {tc : TT} {te : TE} (hcalm : X.calm = true)
    (hclos : closureFor scope X.env = pure cl) (hcell : ∀ y ∈ scope.names, y.2 ≠ .cell) (hkind : scope.kind = .function) (hnames : ∀ y ∈ scope.names, y.2 = .local → scope.names.lookup y.1 = some .local)
    (hcl : ClOk X.env cl) (hhas : clAll (relabel scope X.env).names cl = true) (hfr : FrOk X (relabel scope X.env) fr)
    (hi : PI X target iter wi) (hg : ∀ fp s H, PG (cxComp X scope cl (ts ++ fr.map (·.1)) fp s H) target g) (hc : ∀ fp s H, PIfs (cxComp X scope cl (ts ++ fr.map (·.1)) fp s H) ifs tc)
    (he : ∀ fp s H, PE (cxComp X scope cl (ts ++ fr.map (·.1)) fp s H) elt te) (hs : ∀ x, foldedSetIterable iter X.env x = pure x := by intro _; rfl) :
    PE X (.ListComp elt [⟨target, iter, ifs, 0⟩] scope pos) (tComp ts.length fr wi g tc te) :=
  pe_comp hcalm hclos hcell hkind hnames hcl.get (fun x q => clAll_get hhas x q) hfr hi hg hc he hs
end L2
namespace L2
open PySem PySem.Spec PyProof.Rows
def rAll (K : PySem.W.Frag) : List V → Hp → VK → Prop := fun xs H Q => ∃ (p : Addr) (bs : List Bool), xs = [.ref p] ∧ SqL K H p (bs.map V.bl) ∧ Q (.bl (bs.all id)) H
theorem bools_of {bs : List Bool} : ∀ {us : List Value}, Vals (bs.map V.bl) us → us = bs.map Value.bool := by
  induction bs with
  | nil => intro us r; cases r; rfl
  | cons b r ih =>
    intro us h
    cases h with
    | cons h1 h2 => rw [show _ = Value.bool b from h1, ih h2]; rfl
theorem range_all {bs : List Bool} (f : Nat → Bool) (h : ∀ i, i < bs.length → f i = bs.getD i false) : (List.range bs.length).all f = bs.all id := by
  rw [Bool.eq_iff_iff, List.all_eq_true, List.all_eq_true]
  constructor
  · intro q b hb
    obtain ⟨i, hi, e⟩ := List.getElem_of_mem hb
    have := q i (List.mem_range.mpr hi)
    rw [h i hi] at this
    rw [← e]
    simpa [List.getD_eq_getElem?_getD, hi] using this
  · intro q i hi
    have hi := List.mem_range.mp hi
    rw [h i hi]
    have := q bs[i] (List.getElem_mem hi)
    simpa [List.getD_eq_getElem?_getD, hi] using this
section
variable {X : Cx}
theorem walk_bools {pins : List (Addr × Obj)} {s : Shared} {σ : St} {H : Hp} {p : Addr} {bs : List Bool} {Q : Value → Shared → Prop} (I : Inv X pins σ H s) (hc : X.calm = true) (hq : SqL X.K H p (bs.map V.bl))
    (h : ∀ s₂ : Shared, (∀ (h' : Heap) (tk : Nat), (∀ b o, b ∉ [s.heap.objs.size] → s₂.heap.get? b = some o → h'.get? b = some o) → Inv X pins σ H { s₂ with heap := h', toks := tk }) →
      (s₂.heap.IsListIter s.heap.objs.size p 0 ∧ s₂.heap.IsList p (bs.map Value.bool).toArray) → p ≠ s.heap.objs.size → Q (.ref s.heap.objs.size) s₂) (E : Value → Shared → Prop) :
    wpAny (model X.prog X.w) X.A.in1 (pyIter (.ref p)) Q E s := by
  obtain ⟨its, rv, hp, hz⟩ := I.list hq
  rw [bools_of rv] at hp
  have hl := hp.isList
  have hlt : p < s.heap.objs.size := by obtain ⟨_, e, _⟩ := id hl; exact Heap.lt_size e
  refine wpAny_pyIter_list hl (h _ (fun h' tk hk => I.kept (t' := tk) fun b o e => ?_) ⟨⟨_, Heap.get?_push_size _ rfl, rfl, rfl⟩, hl.push _⟩ (Nat.ne_of_lt hlt))
  exact hk b o (by simp [Nat.ne_of_lt (Heap.lt_size e)]) (Heap.get?_push_of_some _ e)
theorem truth_bools {A : Around} {bs : List Bool} : TruthOf X.prog X.w A (fun i v => (bs.map Value.bool).toArray[i]? = some v) (fun i => bs.getD i false) := by
  intro i v s Q E hP hQ
  have e : bs[i]?.map Value.bool = some v := by simpa using hP
  cases q : bs[i]? with
  | none => rw [q] at e; cases e
  | some b =>
    rw [q] at e
    cases e
    dsimp only at hQ
    rw [List.getD_eq_getElem?_getD, q] at hQ
    exact wpAny_truthy_bool hQ
theorem call_allK (K : PySem.W.Frag) (h : X.K = K) (hc : X.calm = true) : CallR X (.builtin "all") (rAll K) := by
  subst h
  intro pins s σ H xs us Q I r h
  obtain ⟨p, bs, rfl, hq, q⟩ := h
  obtain ⟨u, rfl, ru⟩ := vals1 r
  cases (show u = Value.ref p from ru)
  refine call_all_walk (walk_bools I hc hq (fun s₂ J st hne => ⟨_, _, _, _, _, _, _, rfl, Walks.list (A := X.A.in1) (I.ok.hd hc) _ p hne _, st, truth_bools, fun h' tk hk => ⟨.bl _, H, J h' tk hk, ?_, q⟩⟩) _)
  show Value.bool _ = Value.bool _
  congr 1
  rw [List.size_toArray, List.length_map]
  exact range_all _ fun i hi => rfl
end
end L2
namespace L2
open PySem PySem.Spec PyProof.Rows
def CompG (J : It) (g : TG) (tc : TT) (te : TE) (D : Addr) (τ : St) (H : Hp) (Q : VK) : Prop :=
  ∃ W : Nat → Nat → St → Hp → Prop, (∃ m, W 0 m τ H) ∧ ∀ i m τ H', W i m τ H' →
    (J.stop i H' ∧ Q (.ref D) H') ∨ (J.go i H' ∧ ∃ N : St → Hp → Prop, (∀ τ' H'', N τ' H'' → ∃ m', m' < m ∧ W (i + 1) m' τ' H'') ∧
      ∀ x H2, J.yld i H' x H2 → g x τ H2 fun τ2 H3 => tc τ2 H3 fun b H4 => if b = true then te τ2 H4 fun y H5 => ∃ ys, H5 D = some (.lst ys) ∧ ys.length < sizeLine ∧ N τ2 (upd H5 D (.lst (ys ++ [y]))) else N τ2 H4)
theorem tComp_eq {nt : Nat} {fr : List (Str × Nat)} {wi : TI} {g : TG} {tc : TT} {te : TE} {σ : St} {H : Hp} {Q : VK} :
    tComp nt fr wi g tc te σ H Q = wi σ H fun J H1 => ∀ D, H1 D = none → CompG J g tc te D (List.replicate nt none ++ fr.map fun p => (σ[p.2]?).join) (upd H1 D (.lst [])) Q := rfl
theorem comp_walk {K : PySem.W.Frag} {a : Addr} {xs : List V} {g : TG} {tc : TT} {te : TE} {D : Addr} {τ : St} {H : Hp} {Q : VK} (Pv : Nat → St → Hp → Prop) (h0 : Pv 0 τ H) (hl : ∀ i τ H, i ≤ xs.length → Pv i τ H → SqL K H a xs)
    (hs : ∀ i x τ H, xs[i]? = some x → Pv i τ H → g x τ H fun τ2 H3 => tc τ2 H3 fun b H4 => if b = true then te τ2 H4 fun y H5 => ∃ ys, H5 D = some (.lst ys) ∧ ys.length < sizeLine ∧ Pv (i + 1) τ2 (upd H5 D (.lst (ys ++ [y]))) else Pv (i + 1) τ2 H4)
    (hd : ∀ τ H, Pv xs.length τ H → Q (.ref D) H) :
    CompG (Itl K a) g tc te D τ H Q := by
  refine ⟨fun i m τ H => m = xs.length - i ∧ i ≤ xs.length ∧ Pv i τ H, ⟨xs.length, by simp, Nat.zero_le _, h0⟩, ?_⟩
  rintro i m τ H ⟨rfl, hi, p⟩
  have q := hl i τ H hi p
  by_cases hlt : i < xs.length
  · refine .inr ⟨⟨xs, xs[i], q, by simp [hlt]⟩, Pv (i + 1), fun τ' H' p' => ⟨xs.length - (i + 1), by omega, rfl, hlt, p'⟩, fun x H2 z => ?_⟩
    obtain ⟨rfl, hx⟩ := z
    exact hs i x τ H2 (hx xs q) p
  · have e : i = xs.length := by omega
    subst e
    exact .inl ⟨⟨xs, q, Nat.le_refl _⟩, hd τ H p⟩
abbrev Q4 := Int × Int × Int × Int
def q4 (q : Q4) : List V := [.int q.1, .int q.2.1, .int q.2.2.1, .int q.2.2.2]
abbrev Tups (H : Hp) : List Addr → List Q4 → Prop := Paired fun p q => H p = some (.tup (q4 q))
theorem Tups.len {H : Hp} {ps : List Addr} {qs : List Q4} (h : Tups H ps qs) : ps.length = qs.length := Paired.length h
theorem Tups.nil {H : Hp} : Tups H [] [] := Paired.nil
theorem Tups.same {H H' : Hp} {ps : List Addr} {qs : List Q4} (h : Tups H ps qs) (e : Same H H') : Tups H' ps qs := Paired.mapP h fun _ _ q => e _ _ q
theorem Tups.keep {H H' : Hp} {ps : List Addr} {qs : List Q4} (h : Tups H ps qs) (e : ∀ p xs, H p = some (.tup xs) → H' p = some (.tup xs)) : Tups H' ps qs := Paired.mapP h fun _ _ q => e _ _ q
theorem Tups.snoc {H : Hp} {t : Addr} {q : Q4} (ht : H t = some (.tup (q4 q))) : ∀ {ps : List Addr} {qs : List Q4}, Tups H ps qs → Tups H (ps ++ [t]) (qs ++ [q])
  | _, _, Paired.nil => .cons ht .nil
  | _, _, Paired.cons a b => .cons a (Tups.snoc ht b)
theorem Tups.take {H : Hp} : ∀ {ps : List Addr} {qs : List Q4} (n : Nat), Tups H ps qs → Tups H (ps.take n) (qs.take n)
  | _, _, 0, _ => .nil
  | _, _, _ + 1, Paired.nil => .nil
  | _, _, n + 1, Paired.cons a b => .cons a (Tups.take n b)
theorem Tups.get {H : Hp} : ∀ {ps : List Addr} {qs : List Q4} {i : Nat} {p : Addr}, Tups H ps qs → ps[i]? = some p → ∃ q, qs[i]? = some q ∧ H p = some (.tup (q4 q))
  | _, _, _, _, Paired.nil, e => by simp at e
  | _, _, 0, _, Paired.cons a _, e => by simp at e; subst e; exact ⟨_, rfl, a⟩
  | _, _, i + 1, _, Paired.cons _ b, e => by
    obtain ⟨q, h1, h2⟩ := Tups.get (i := i) b (by simpa using e)
    exact ⟨q, by simpa using h1, h2⟩
structure Row (H : Hp) (l : Addr) (ps : List Addr) (qs : List Q4) : Prop where
  hl : H l = some (.lst (ps.map V.ref))
  r : Tups H ps qs
theorem Row.same {H H' : Hp} {l : Addr} {ps : List Addr} {qs : List Q4} (R : Row H l ps qs) (e : Same H H') : Row H' l ps qs := ⟨e _ _ R.hl, R.r.same e⟩
structure RowI (H₀ H : Hp) (p : Addr) (ms : List V) (l : Addr) (ps : List Addr) (qs : List Q4) : Prop where
  sm : Same H₀ H
  hp : H p = some (.lst ms)
  hl : H l = some (.lst (ps.map V.ref))
  r : Tups H ps qs
theorem RowI.same {H₀ H H' : Hp} {p : Addr} {ms : List V} {l : Addr} {ps : List Addr} {qs : List Q4} (I : RowI H₀ H p ms l ps qs) (e : Same H H') : RowI H₀ H' p ms l ps qs := ⟨I.sm.trans e, e _ _ I.hp, e _ _ I.hl, I.r.same e⟩
theorem RowI.snoc {H₀ H : Hp} {p : Addr} {ms : List V} {l t : Addr} {ps : List Addr} {qs : List Q4} {q : Q4} (I : RowI H₀ H p ms l ps qs) (h0 : H₀ l = none) (hpl : p ≠ l) (ht : H t = some (.tup (q4 q))) :
    RowI H₀ (upd H l (.lst (ps.map V.ref ++ [.ref t]))) p ms l (ps ++ [t]) (qs ++ [q]) := by
  have kt : ∀ b xs, H b = some (.tup xs) → upd H l (.lst (ps.map V.ref ++ [.ref t])) b = some (.tup xs) := fun b xs e => by
    rw [upd_ne (ne_of e I.hl (by intro z; cases z))]; exact e
  refine ⟨fun b o e => ?_, by rw [upd_ne hpl]; exact I.hp, by rw [upd_same]; simp, Tups.snoc (kt _ _ ht) (I.r.keep kt)⟩
  rw [upd_ne (ne_of_none e h0)]; exact I.sm _ _ e
theorem cutV_ints (ns : List Int) (lo hi : Option Int) : ∃ ms : List Int, cutV (ns.map V.int) lo hi = ms.map V.int ∧ ms.length ≤ ns.length := by
  refine ⟨(ns.drop (HT.sIx (ns.map V.int).length 0 lo)).take (HT.sIx (ns.map V.int).length (ns.map V.int).length hi - HT.sIx (ns.map V.int).length 0 lo), ?_, ?_⟩
  · unfold cutV; rw [List.map_take, List.map_drop]
  · rw [List.length_take, List.length_drop]; omega
mutual
theorem eqv_refl : ∀ d : PyData, d.canLay0 = true → PyData.eqv d d = true
  | .none, _ => rfl
  | .bool b, _ => by simp [PyData.eqv]
  | .int i, _ => by simp [PyData.eqv]
  | .str x, _ => by simp [PyData.eqv]
  | .list xs, h => by
    have h : PyData.canLayAll0 xs = true := by simpa only [PyData.canLay0] using h
    simpa only [PyData.eqv] using eqvAll_refl xs h
  | .tuple xs, h => by
    have h : PyData.canLayAll0 xs = true := by simpa only [PyData.canLay0] using h
    simpa only [PyData.eqv] using eqvAll_refl xs h
  | .dict _, h => by simp [PyData.canLay0] at h
theorem eqvAll_refl : ∀ ds : List PyData, PyData.canLayAll0 ds = true → PyData.eqvAll ds ds = true
  | [], _ => rfl
  | d :: r, h => by
    simp only [PyData.canLayAll0, Bool.and_eq_true] at h
    simp only [PyData.eqvAll, Bool.and_eq_true]
    exact ⟨eqv_refl d h.1, eqvAll_refl r h.2⟩
end
theorem depth_all {α : Type} {f : α → PyData} {n : Nat} (h : ∀ a, (f a).depth ≤ n) : ∀ l : List α, PyData.depthAll (l.map f) ≤ n
  | [] => Nat.zero_le _
  | a :: r => by
    have h1 := h a
    have h2 := depth_all h r
    simp only [List.map_cons, PyData.depthAll]
    omega
end L2
namespace L2
open PySem PySem.Spec PyProof.Rows
theorem Tups.mem {H : Hp} : ∀ {ps : List Addr} {qs : List Q4}, Tups H ps qs → ∀ x ∈ ps.map V.ref, ∃ p q, x = V.ref p ∧ q ∈ qs ∧ H p = some (.tup (q4 q))
  | _, _, Paired.nil, x, hx => by simp at hx
  | _, _, Paired.cons (b := q) a b, x, hx => by
    rw [List.map_cons] at hx
    rcases List.mem_cons.mp hx with e | hx
    · exact ⟨_, q, e, by simp, a⟩
    · obtain ⟨p, q, h1, h2, h3⟩ := Tups.mem b x hx
      exact ⟨p, q, h1, List.mem_cons_of_mem _ h2, h3⟩
end L2
namespace L2
open PySem PySem.Spec PyProof.Rows
section
variable {X : Cx}
theorem op_eqDK (K : PySem.W.Frag) (h : X.K = K) (hu : X.A.units + 64 < cLine) : OpR X (compareOp .Eq) (rEqD K) := h ▸ op_eqD hu
theorem op_neDK (K : PySem.W.Frag) (h : X.K = K) (hu : X.A.units + 64 < cLine) : OpR X (compareOp .NotEq) (rNeD K) := h ▸ op_neD hu
end
theorem eq_at {K : PySem.W.Frag} {H : Hp} {x y : V} {d e : PyData} {Q : VK} (hx : Deep K H x d) (hy : Deep K H y e) (sd : PySem.SeqAt.shaped d = true) (se : PySem.SeqAt.shaped e = true) (q : Q (.bl (PyData.eqv d e)) H) : rEqD K x y H Q := ⟨d, e, hx, hy, sd, se, q⟩
theorem ne_at {K : PySem.W.Frag} {H : Hp} {x y : V} {d e : PyData} {Q : VK} (hx : Deep K H x d) (hy : Deep K H y e) (sd : PySem.SeqAt.shaped d = true) (se : PySem.SeqAt.shaped e = true) (q : Q (.bl (!PyData.eqv d e)) H) : rNeD K x y H Q := ⟨d, e, hx, hy, sd, se, q⟩
theorem ne_same {K : PySem.W.Frag} {H : Hp} {x y : V} {d : PyData} {Q : VK} (hx : Deep K H x d) (hy : Deep K H y d) (sd : PySem.SeqAt.shaped d = true) (q : Q (.bl false) H) : rNeD K x y H Q := by
  refine ne_at hx hy sd sd ?_
  rw [eqv_refl d (PySem.SeqAt.canLay_of_shaped sd)]; exact q
theorem eq_same {K : PySem.W.Frag} {H : Hp} {x y : V} {d : PyData} {Q : VK} (hx : Deep K H x d) (hy : Deep K H y d) (sd : PySem.SeqAt.shaped d = true) (q : Q (.bl true) H) : rEqD K x y H Q := by
  refine eq_at hx hy sd sd ?_
  rw [eqv_refl d (PySem.SeqAt.canLay_of_shaped sd)]; exact q
theorem lenT_at {K : PySem.W.Frag} {H : Hp} {p : Addr} {ys : List V} {Q : VK} (h : SqT K H p ys) (q : Q (.int ys.length) H) : rLen K [.ref p] H Q := ⟨p, ys, rfl, .inr h, q⟩
theorem slL_at {K : PySem.W.Frag} {H : Hp} {p : Addr} {xs : List V} {lo hi : Option Int} {Q : VK} (h : SqL K H p xs) (q : ∀ l, H l = none → Q (.ref l) (upd H l (.lst (cutV xs lo hi)))) : rSlL K (.ref p) lo hi H Q := ⟨p, xs, rfl, h, q⟩
end L2
namespace L2
open PySem PySem.Spec PyProof.Rows
section
variable {prog : Program} {w : World} {A : Around} {R : Result → Shared → Prop}
end
end L2
namespace L2
open PySem PySem.Spec PyProof.Rows
def XTr (B : Heap) (e : Addr) (h : Heap) (vs : Array Value) : Option Value → Prop
  | none => vs[1]? = some Value.none
  | some f => ∃ T oT ts, vs[1]? = some (.ref T) ∧ B.get? T = none ∧ T ≠ e ∧ h.get? T = some oT ∧ oT.data = .fields ts ∧ ts[3]? = some f
structure XAt (B : Heap) (e : Addr) (cls : Value) (dct : Option Addr) (fl : Option Value) (h : Heap) : Prop where
  stay : B.StaysIn h
  new : B.get? e = none
  ex : ∃ oe vs, h.get? e = some oe ∧ oe.cls = cls ∧ oe.dict = dct ∧ oe.data = .fields vs ∧ 1 < vs.size ∧ XTr B e h vs fl
structure UpS (h h' : Heap) : Prop where
  sl : ∀ b o, h.get? b = some o → (∀ vs, o.data ≠ .fields vs) → ∃ sl, h'.get? b = some { o with slots := sl }
  th : ∀ b o, h.get? b = some o → ∃ o', h'.get? b = some o'
theorem UpS.refl (h : Heap) : UpS h h := ⟨fun _ o e _ => ⟨o.slots, e⟩, fun _ o e => ⟨o, e⟩⟩
theorem UpS.trans {h h1 h2 : Heap} (a : UpS h h1) (b : UpS h1 h2) : UpS h h2 := by
  refine ⟨fun c o e n => ?_, fun c o e => ?_⟩
  · obtain ⟨s1, e1⟩ := a.sl c o e n
    obtain ⟨s2, e2⟩ := b.sl c _ e1 n
    exact ⟨s2, e2⟩
  · obtain ⟨o1, e1⟩ := a.th c o e
    exact b.th c o1 e1
theorem UpS.funs {h h' B : Heap} {l : List Env} (u : UpS h h') (f : h.FunFrames B l) : h'.FunFrames B l := f.of_keeps fun b o e n => by
  obtain ⟨sl, q⟩ := u.sl b o e n
  exact ⟨_, q, rfl⟩
section
variable {M : Model} {A : Around} {E : Value → Shared → Prop} {s : Shared} {B : Heap} {env : Env} {outer : List Env} {L e : Addr} {cls : Value} {dct : Option Addr}
theorem entry_at {fl : Option Value} {head : Value} {b1 : Bool} {Q : Unit → Shared → Prop} (fr : A.frames = some (env :: outer)) (ff : s.heap.FunFrames B (env :: outer)) (hf : env.frame = some L) (x : XAt B e cls dct fl s.heap)
    (h : ∀ h', XAt B e cls dct (some (rawInt L)) h' → UpS s.heap h' → Q () { s with heap := h' }) :
    wpAny M A (do let a ← frameOf env; let pl ← entryPlaceOf L b1; let b ← EntryCells.newEntry head a .none (rawInt L) .none pl; setField (.ref e) 1 b) Q E s := by
  obtain ⟨stay, new, oe, vs, oe1, oe2, oe3, oe4, oe5, _⟩ := x
  have nf : e ∉ (env :: outer).filterMap (·.frame) := fun z => by
    obtain ⟨_, o, q, n⟩ := ff.mem z
    rw [oe1] at q
    cases q
    exact n vs oe4
  refine wpAny_bind (wpAny_frameOf_fun fr ff hf fun h1 sl => wpAny_bind (wpAny_entryPlaceOf fun pl ip => ?_))
  have e1 : h1.get? e = some oe := (sl.2.1 e nf).trans oe1
  have st1 : B.StaysIn h1 := fun b o q => (sl.2.1 b fun z => by rw [(ff.mem z).1] at q; cases q).trans (stay b o q)
  unfold EntryCells.newEntry newFields
  refine wpAny_bind (wpAny_newObj_type ?_ (ip.sizeOk5 _ _ _ _ _))
  generalize hT : ({ cls := .type "traceback", dict := none, data := .fields ([head, .ref L, .none, rawInt L, .none] ++ (if pl.isEmpty then List.replicate 6 Value.none else pl)).toArray } : Obj) = oT
  have e2 : (h1.push oT).get? e = some oe := Heap.get?_push_of_some _ e1
  have ne : h1.objs.size ≠ e := Nat.ne_of_gt (Heap.lt_size e1)
  refine wpAny_setField e2 oe4 oe5 (h _ ⟨fun b o q => ?_, new, _, _, Heap.get?_update_self _ e2 (Obj.isFreed_of_fields (Obj.data_mapFields oe4 _)), (Obj.cls_mapFields _ _).trans oe2, ?_, Obj.data_mapFields oe4 _, by simpa using oe5, h1.objs.size, oT, _, by simp [oe5], st1.fresh, ne, ?_, by rw [← hT], ?_⟩ ⟨fun b o q n => ?_, fun b o q => ?_⟩)
  · rw [Heap.get?_update_other _ _ fun z => by rw [← z, new] at q; cases q]
    exact Heap.get?_push_of_some _ (st1 b o q)
  · rw [← oe3]; cases oe with | mk c d da sl => cases da <;> rfl
  · rw [Heap.get?_update_other _ _ (Ne.symm ne)]
    exact Heap.get?_push_size _ (by rw [← hT]; rfl)
  · rcases ip with rfl | ⟨_, _, _, _, _, _, _, rfl⟩ <;> simp
  · obtain ⟨s1, q1⟩ := sl.2.2 b o q
    refine ⟨s1, ?_⟩
    rw [Heap.get?_update_other _ _ fun z => by rw [← z, oe1] at q; cases q; exact n vs oe4]
    exact Heap.get?_push_of_some _ q1
  · by_cases z : b = e
    · rw [z]; exact ⟨_, Heap.get?_update_self _ e2 (Obj.isFreed_of_fields (Obj.data_mapFields oe4 _))⟩
    · obtain ⟨s1, q1⟩ := sl.2.2 b o q
      exact ⟨_, (Heap.get?_update_other _ _ (Ne.symm z)).trans (Heap.get?_push_of_some _ q1)⟩
theorem land_at {f : Value} {Q : Unit → Shared → Prop} (x : XAt B e cls dct (some f) s.heap) (h : ∀ h', XAt B e cls dct (some .none) h' → UpS s.heap h' → Q () { s with heap := h' }) : wpAny M A (setFlight (.ref e) none) Q E s := by
  obtain ⟨stay, new, oe, vs, oe1, oe2, oe3, oe4, oe5, T, oT, ts, t1, t2, t3, t4, t5, t6⟩ := x
  unfold setFlight
  refine wpAny_bind (wpAny_field oe1 oe4 t1 ?_)
  rw [if_pos (show (Value.ref T != Value.none) = true by simp)]
  have h3 : 3 < ts.size := (Array.getElem?_eq_some_iff.mp t6).1
  have oth : ∀ (g : Obj → Obj) b, b ≠ T → (s.heap.update T g).get? b = s.heap.get? b := fun g b z => Heap.get?_update_other _ _ (Ne.symm z)
  refine wpAny_setField t4 t5 h3 (h _ ⟨fun b o q => ?_, new, oe, vs, by rw [oth _ _ (Ne.symm t3)]; exact oe1, oe2, oe3, oe4, oe5, T, _, _, t1, t2, t3, Heap.get?_update_self _ t4 (Obj.isFreed_of_fields (Obj.data_mapFields t5 _)), Obj.data_mapFields t5 _, by simp [h3]⟩ ⟨fun b o q n => ⟨o.slots, ?_⟩, fun b o q => ?_⟩)
  · rw [oth _ _ fun z => by rw [z, t2] at q; cases q]
    exact stay b o q
  · rw [oth _ _ fun z => by rw [z, t4] at q; cases q; exact n ts t5]
    exact q
  · by_cases z : b = T
    · rw [z]; exact ⟨_, Heap.get?_update_self _ t4 (Obj.isFreed_of_fields (Obj.data_mapFields t5 _))⟩
    · exact ⟨o, (oth _ _ z).trans q⟩
theorem note_at {fl : Option Value} {Q : Unit → Shared → Prop} (fr : A.frames = some (env :: outer)) (ff : s.heap.FunFrames B (env :: outer)) (hf : env.frame = some L) (x : XAt B e cls dct fl s.heap) (hfl : fl = none ∨ fl = some .none)
    (h : ∀ h', XAt B e cls dct (some (rawInt L)) h' → UpS s.heap h' → Q () { s with heap := h' }) : wpAny M A (noteFrame (.ref e) env) Q E s := by
  have x0 := x
  obtain ⟨stay, new, oe, vs, oe1, oe2, oe3, oe4, oe5, tr⟩ := x
  unfold noteFrame
  simp only [hf]
  rcases hfl with rfl | rfl
  · refine wpAny_bind (wpAny_field oe1 oe4 tr ?_)
    rw [if_neg (by decide)]
    exact entry_at fr ff hf x0 h
  · obtain ⟨T, oT, ts, t1, t2, t3, t4, t5, t6⟩ := tr
    refine wpAny_bind (wpAny_field oe1 oe4 t1 ?_)
    rw [if_pos (show (Value.ref T != Value.none) = true by simp)]
    refine wpAny_bind (wpAny_field t4 t5 t6 ?_)
    rw [if_neg (show ¬ ((Value.none == rawInt L) = true) by simp [rawInt])]
    have h3 : 3 < ts.size := (Array.getElem?_eq_some_iff.mp t6).1
    have oth : ∀ (g : Obj → Obj) b, b ≠ T → (s.heap.update T g).get? b = s.heap.get? b := fun g b z => Heap.get?_update_other _ _ (Ne.symm z)
    have up : ∀ g, UpS s.heap (s.heap.update T (Obj.mapFields g)) := fun g => ⟨fun b o q n => ⟨o.slots, by
      rw [oth _ _ fun z => by rw [z, t4] at q; cases q; exact n ts t5]; exact q⟩, fun b o q => by
      by_cases z : b = T
      · rw [z]; exact ⟨_, Heap.get?_update_self _ t4 (Obj.isFreed_of_fields (Obj.data_mapFields t5 _))⟩
      · exact ⟨o, (oth _ _ z).trans q⟩⟩
    refine wpAny_bind (wpAny_setField t4 t5 h3 ?_)
    refine entry_at (fl := some .none) fr ((up _).funs ff) hf ⟨fun b o q => ?_, new, oe, vs, by rw [oth _ _ (Ne.symm t3)]; exact oe1, oe2, oe3, oe4, oe5, T, _, _, t1, t2, t3, Heap.get?_update_self _ t4 (Obj.isFreed_of_fields (Obj.data_mapFields t5 _)), Obj.data_mapFields t5 _, by simp [h3]⟩ fun h' a b => h h' a ((up _).trans b)
    rw [oth _ _ fun z => by rw [z, t2] at q; cases q]
    exact stay b o q
theorem leave_at {fl : Option Value} {Q : Unit → Shared → Prop} (fr : A.frames = some (env :: outer)) (ff : s.heap.FunFrames B (env :: outer)) (hf : env.frame = some L) (x : XAt B e cls dct fl s.heap) (hfl : fl = none ∨ fl = some .none)
    (h : ∀ h', XAt B e cls dct (some .none) h' → UpS s.heap h' → Q () { s with heap := h' }) : wpAny M A (leaving env (.ref e)) Q E s := by
  unfold leaving
  exact wpAny_bind (note_at fr ff hf x hfl fun h1 x1 u1 => land_at (s := { s with heap := h1 }) x1 fun h2 x2 u2 => h h2 x2 (u1.trans u2))
end
end L2
namespace L2
open PySem PySem.Spec PyProof.Rows
abbrev bmV : List Value := [.type "ValueError", .type "Exception", .type "BaseException", .type "object"]
structure XC (K : PySem.W.Frag) (C : Addr) : Prop where
  hd : PySem.W.hasDictIn K C = true
  ga : PySem.W.findIn K (.ref C) "__getattribute__" = some (some (.builtin "BaseException.__getattribute__"))
  gn : PySem.W.findIn K (.ref C) "__getattr__" = some none
  sa : PySem.W.findIn K (.ref C) "__setattr__" = some (some (.builtin "object.__setattr__"))
  cl : PySem.W.findIn K (.ref C) "__class__" = some (some (.builtin "object.__class__"))
  kg : PySem.W.specialIn K (.builtin "object.__class__") "__get__" = some (some (.builtin "getset_descriptor.__get__"))
  kt : PySem.W.takesIn K (.builtin "object.__class__") = some true
  be : PySem.W.mroIn K C (.type "BaseException") = some true
  ob : PySem.W.mroIn K C (.type "object") = some true
  /-- its object and its line of classes -/
  ex : ∃ nm q N bs bm hdct sn sub ab col dd k0 k1 k2 k3 k5, K.lookup C = some (excClassObj nm q C N bs bm hdct sn sub ab col dd k0 k1 k2 k3 k5 "ValueError.__new__") ∧ PySem.W.tailIn K bmV bm = true
theorem XC.plain {K : PySem.W.Frag} {C : Addr} (q : PySem.W.excIn K C bmV "ValueError.__new__" = true) :
    ∃ nm q N bs bm hdct sn sub ab col dd k0 k1 k2 k3 k5, K.lookup C = some (excClassObj nm q C N bs bm hdct sn sub ab col dd k0 k1 k2 k3 k5 "ValueError.__new__") ∧ PySem.W.tailIn K bmV bm = true ∧ PySem.W.nsOkIn K N = true ∧ PySem.W.nsIn K N "__init__" = some none := by
  unfold PySem.W.excIn at q
  split at q
  · rename_i dd cd sl ho
    split at q
    · rename_i C' bm k0 k1 k2 k3 n k5 hm hs
      simp only [Bool.and_eq_true, beq_iff_eq, Bool.not_eq_true'] at q
      obtain ⟨⟨⟨⟨⟨rfl, rfl⟩, d1⟩, ht⟩, hok⟩, hni⟩ := q
      obtain ⟨nm, bs, mro, ns, qn, hd, sn, sub, ab, col, del⟩ := cd
      dsimp only at hm d1 hok hni
      subst hm d1
      obtain ⟨l⟩ := sl
      simp only at hs
      subst hs
      exact ⟨nm, qn, ns, bs, bm, hd, sn, sub, ab, col, dd, k0, k1, k2, k3, k5, ho, ht, hok, hni⟩
    · cases q
  · cases q
section
variable {prog : Program} {w : World} {A : Around} {E : Value → Shared → Prop} {s : Shared} {K : PySem.W.Frag} {x C : Addr} {ox : Obj} {od : Option Obj}
open PySem.W in
theorem xget_class {Q : Option Value → Shared → Prop} (X : K.In s.heap) (c : XC K C) (I : PySem.W.InstAt s.heap x ox C od) (h : Q (some (.ref C)) { s with toks := s.toks + 1 }) : wpAny (model prog w) A (getAttr? (.ref x) "__class__") Q E s := by
  have hf : findObj K C od "__class__" = some (.bind (.builtin "getset_descriptor.__get__") (.builtin "object.__class__")) := by
    obtain ⟨cd, hc, _⟩ := any_some c.hd
    unfold findObj
    rw [hc, Option.bind_some, c.cl, Option.bind_some]
    dsimp only
    rw [c.kg, Option.bind_some]
    dsimp only
    rw [c.kt, Option.bind_some]
  obtain ⟨hh, g, d, t, os⟩ := s
  have L0 := I.type (M := model prog w)
  have L1 := looks_findIn (M := model prog w) X c.ga
  have L2' := looks_findIn (M := model prog w) X c.gn
  have L3 := looks_find (M := model prog w) X I hf
  have sub : Looks (model prog w) hh (isInstance (.ref x) (.type "BaseException")) true := I.type.andThen (looks_mroIn X c.be)
  have hx : (Value.builtin "BaseException.__getattribute__" == Value.builtin "object.__getattribute__") = false := by decide +kernel
  have hx1 : ¬ ((onTheHeap (Value.ref C) && Value.builtin "BaseException.__getattribute__" == Value.builtin "object.__getattribute__") = true) := by rw [hx, Bool.and_false]; exact Bool.false_ne_true
  unfold getAttr? getAttrBy? getAttrBy
  refine wpAny_bind (wpAny_mkText (wpAny_bind (wpAny_attempt (wpAny_holding (wpAny_bind (L0.at (wpAny_bind (L1.at ?_))))))))
  show wpAny _ _ (if (onTheHeap (Value.ref C) && Value.builtin "BaseException.__getattribute__" == Value.builtin "object.__getattribute__") = true then _ else _) _ _ _
  rw [if_neg hx1]
  unfold getAttrByItsOwn hookBefore
  rw [if_pos (show onTheHeap (Value.ref C) = true from rfl)]
  refine wpAny_bind (L2'.at ?_)
  refine wpAny_bind (wpAny_attempt (wpAny_holding ?_))
  show wpAny _ _ (boundAndCalled (.builtin "BaseException.__getattribute__") (.ref x) (.str "__class__" t)) _ _ _
  unfold boundAndCalled
  refine wpAny_bind (wpAny_of_eq (PySem.F.attr_ValueError.ga.bind (.ref x)) ?_)
  show wpAny _ _ (call (.builtin "BaseException.__getattribute__") [.ref x, .str "__class__" t]) _ _ _
  have hk : builtinKind "BaseException.__getattribute__" = some .slot := by decide +kernel
  have hs : splitId "BaseException.__getattribute__" = some ("BaseException", "__getattribute__") := by decide +kernel
  refine wpAny_call (codeAny_call_builtin PySem.F.attr_ValueError.ga.plain PySem.F.entry_bexc_ga ?_)
  refine @check_slot (model prog w) _ _ _ "BaseException.__getattribute__" "BaseException" "__getattribute__" (.ref x) [.str "__class__" t] [] _ hk hs sub (PySem.F.args_bexc_ga _ _) ?_
  refine wpAny_bind (wpAny_pure (wpAny_bind (wpAny_pure (wpAny_bind (L0.at (wpAny_bind (L3.at ?_)))))))
  show wpAny _ _ (holding [Value.builtin "object.__class__"] (call (.builtin "getset_descriptor.__get__") [.builtin "object.__class__", .ref x, .ref C]) >>= ret) _ _ _
  refine wpAny_bind (wpAny_holding (wpAny_call (class_get (s := { heap := hh, gens := g, drawn := d, toks := t + 1, os := os }) X I c.ob (wpAny_pure ?_))))
  show wpAny _ _ (handedOut (.ref C)) _ _ _
  exact wpAny_pure (wpAny_pure h)
open PySem.W in
theorem kitx_exc (c : XC K C) : KitX K (.ref x) (.ref C) (fun h => ∃ ox od, PySem.W.InstAt h x ox C od) where
  ty := fun _ _ _ ⟨_, _, I⟩ => I.type
  it := fun _ _ X _ => by
    obtain ⟨cd, hc, _⟩ := any_some c.hd
    unfold clsIn at hc
    split at hc
    · rename_i ho
      intro A' Q' E' s' k q
      unfold isType loadHead
      exact wpAny_bind (wpAny_loadPart (k _ _ (X _ _ ho)) (wpAny_pure q))
    · cases hc
  ne := fun h tp dd its n sl X htp => by
    obtain ⟨cd, hc, _⟩ := any_some c.hd
    refine Bool.eq_false_iff.mpr fun q => ?_
    have e : C = tp := Value.ref.inj (beq_iff_eq.mp q)
    subst e
    unfold clsIn at hc
    split at hc
    · rename_i ho
      have z := (X _ _ ho).symm.trans htp
      cases z
    · cases hc
  ca := fun X ⟨_, _, I⟩ k => xget_class X c I k
theorem xmake0 {us : List Value} {Q : Value → Shared → Prop} (X : K.In s.heap) (q : PySem.W.excIn K C bmV "ValueError.__new__" = true) (hl : us.length ≤ sizeLine)
    (h : ∀ h' e, Heap.MadeExcOf s.heap h' e (.ref C) us → Q (.ref e) { s with heap := h' }) : wpAny (model prog w) A (call (.ref C) us) Q E s := by
  obtain ⟨nm, qn, N, bs, bm, hdct, sn, sub, ab, col, dd, k0, k1, k2, k3, k5, lk, tl, nk, ni⟩ := XC.plain q
  obtain ⟨hp, g, d, t, os⟩ := s
  exact wpAny_call_exc_subU PySem.F.excBase_ValueError rfl PySem.F.excBase_ValueError (PySem.W.tail_of_in X tl) (X _ _ lk) (.of_isNs (PySem.W.isNs_of_in X nk)) (PySem.W.nsMap_none_of_in X nk ni) (fun h' e m => h h' e m) hl
theorem xraise {env : Env} {y : Sem Value} {Q : Flow → Shared → Prop} (hh : A.handled = none)
    (h : wpAny (model prog w) A y (fun v s1 => ∃ C e oe vs, XC K C ∧ v = .ref e ∧ K.In s1.heap ∧ s1.heap.get? e = some oe ∧ oe.cls = .ref C ∧ oe.data = .fields vs ∧ vs[1]? = some Value.none ∧ E (.ref e) s1) E s) :
    wpAny (model prog w) A (raiseStmt env (some y) none) Q E s := by
  unfold raiseStmt
  refine wpAny_bind (wpAny_mono h (fun v s1 z => ?_) fun _ _ z => z)
  obtain ⟨C, e, oe, vs, c, rfl, X, e1, e2, e3, e4, fin⟩ := z
  obtain ⟨nm, qn, N, bs, bm, hdct, sn, sub, ab, col, dd, k0, k1, k2, k3, k5, lk, tl⟩ := c.ex
  obtain ⟨hp, g, d, t, os⟩ := s1
  have cl := X _ _ lk
  have hcB : (Value.ref C :: bm).contains (.type "BaseException") = true := by rw [List.contains_cons, (PySem.W.tail_of_in X tl).hasType (show bmV.contains (.type "BaseException") = true from rfl), Bool.or_true]
  obtain ⟨oc, od, oda, osl⟩ := oe
  dsimp only at e2 e3
  subst e2 e3
  have fl : ∀ {α : Type} {QQ : Value → Shared → Prop}, QQ .none ⟨hp, g, d, t, os⟩ → wpAny (model prog w) A (field (.ref e) 1) QQ E ⟨hp, g, d, t, os⟩ := fun {_ _} z => wpAny_field e1 rfl e4 z
  repeat (first | (with_reducible refine wpAny_isSubtype_exc cl ?_; rw [hcB]) | with_reducible refine wpAny_loadPart_at e1 ?_ | with_reducible refine wpAny_loadPart_at cl ?_ | with_reducible refine wpAny_field e1 rfl e4 ?_ | wp_step)
  exact wpAny_raiseNew_none hh fin
end
end L2
namespace L2
open PySem PySem.Spec PyProof.Rows
def XOb (e C : Addr) (dct : Option Addr) (fr : Bool) (h : Heap) : Prop := ∃ oe vs, h.get? e = some oe ∧ oe.cls = .ref C ∧ oe.dict = dct ∧ oe.data = .fields vs ∧ 1 < vs.size ∧ (fr = true → vs[1]? = some Value.none)
def excO (e C : Addr) (dct : Option Addr) (fr : Bool) : HO := .ext (XOb e C dct fr)
def XDt (d : Addr) (fs : List (Str × V)) (h : Heap) : Prop := ∃ mA, h.Ns1 d mA ∧ ∀ f, RelO (fs.lookup f) (mA f)
def xdO (d : Addr) (fs : List (Str × V)) : HO := .ext (XDt d fs)
section
variable {P : Program} {w : World} {H : Hp} {h : Heap}
theorem excO_ok {e C : Addr} {dct : Option Addr} {fr : Bool} (x : XOb e C dct fr h) : ObjOk P w H h e (excO e C dct fr) := by
  refine ⟨x, ?_, fun h1 h2 y k => ?_⟩
  · obtain ⟨oe, vs, e1, _⟩ := x
    exact ⟨oe, e1⟩
  · obtain ⟨oe, vs, e1, r⟩ := y
    exact ⟨oe, vs, k _ e1, r⟩
theorem ObjOk.there {a : Addr} {o : HO} (x : ObjOk P w H h a o) : ∃ ob, h.get? a = some ob := by
  cases o with
  | lst xs => obtain ⟨_, _, _, _, e⟩ := x; exact ⟨_, e⟩
  | tup xs => obtain ⟨_, _, _, _, e, _⟩ := x; exact ⟨_, e⟩
  | dK kvs => obtain ⟨_, _, _, _, o, _, _, e, _⟩ := x; exact ⟨_, e⟩
  | dT kvs => obtain ⟨_, _, _, _, o, _, _, e, _⟩ := x; exact ⟨_, e⟩
  | set S n => obtain ⟨o, _, _, _, e, _⟩ := x; exact ⟨_, e⟩
  | ins C dx fs => obtain ⟨_, _, _, e, _⟩ := x; exact ⟨_, e⟩
  | own y => exact x
  | xd fs => obtain ⟨_, ⟨_, _, _, e, _⟩, _⟩ := x; exact ⟨_, e⟩
  | rng lo hi => obtain ⟨_, _, _, e⟩ := x; exact ⟨_, e⟩
  | frz ob u => obtain ⟨e, _⟩ := x; exact ⟨_, e⟩
  | tbl ps => exact ⟨_, show h.get? a = some _ from x⟩
  | met f y => exact ⟨_, show h.get? a = some _ from x⟩
  | ext φ => exact x.2.1
theorem HOk.exc (x : HOk P w H h) {e C : Addr} {dct : Option Addr} {fr : Bool} (q : H e = some (excO e C dct fr)) : XOb e C dct fr h := (show ObjOk P w H h e (excO e C dct fr) from x e _ q).1
theorem HOk.xd (x : HOk P w H h) {d : Addr} {fs : List (Str × V)} (q : H d = some (xdO d fs)) : XDt d fs h := (show ObjOk P w H h d (xdO d fs) from x d _ q).1
end
structure Fly (P : Program) (w : World) (B : Heap) (l : List Env) (e C : Addr) (dct : Option Addr) (H : Hp) (h : Heap) : Prop where
  at_ : ∃ fl, (fl = none ∨ fl = some Value.none) ∧ XAt B e (.ref C) dct fl h
  ff : h.FunFrames B l
  hok : HOk P w H h
  he : H e = some (excO e C dct false)
  cov : ∀ a o, H a = some o → a ≠ e → ∃ ob, B.get? a = some ob
def CXX (P : Program) (w : World) : CXT := fun outer H s E e s' => ∃ B ea C dct H', e = .ref ea ∧ s'.os = s.os ∧ AllBare s'.gens ∧ Fly P w B outer ea C dct H' s'.heap ∧ Un (frs outer) [] H H' s.heap s'.heap ∧
  (∀ b o, s.heap.get? b = some o → H b = none → b ∉ frs outer → B.get? b = some o) ∧ E (.ref ea) dct H'
theorem hok_step {P : Program} {w : World} {B : Heap} {e C : Addr} {dct : Option Addr} {fl : Option Value} {H : Hp} {h h' : Heap} (x : HOk P w H h) (he : H e = some (excO e C dct false)) (cov : ∀ a o, H a = some o → a ≠ e → ∃ ob, B.get? a = some ob) (st : B.StaysIn h)
    (y : XAt B e (.ref C) dct fl h') : HOk P w H h' := fun a o q => by
  by_cases z : a = e
  · subst z
    rw [he] at q
    cases q
    obtain ⟨oe, vs, e1, e2, e3, e4, e5, _⟩ := y.ex
    exact excO_ok ⟨oe, vs, e1, e2, e3, e4, e5, fun z => by cases z⟩
  · refine (x a o q).stay (fun b u hb g => ?_) (fun _ q => q) fun _ _ q => q
    have hbe : ∃ o', H b = some o' ∧ b ≠ e := by
      rcases hb with rfl | hb
      · exact ⟨_, q, z⟩
      · refine ⟨_, hb, fun y => ?_⟩
        rw [y, he] at hb
        cases hb
    obtain ⟨o', h1, h2⟩ := hbe
    obtain ⟨ob, h3⟩ := cov b o' h1 h2
    have h4 := st b ob h3
    rw [g] at h4
    cases h4
    exact y.stay b _ h3
section
variable {X : Cx} {pins : List (Addr × Obj)} {σ : St} {H H' : Hp} {s : Shared} {h' : Heap}
theorem Inv.out (I : Inv X pins σ H s) (hex : X.ex = []) (u : Un (frs X.stack) [] H H' s.heap h') : Un X.fs [] X.H₀ H' X.s₀.heap h' := by
  have nl : ∀ b o, X.s₀.heap.get? b = some o → b ≠ X.env.locals := fun b o q z => absurd (Nat.lt_of_lt_of_le (Heap.lt_size q) (by rw [z]; exact I.ok.above)) (Nat.lt_irrefl _)
  have nx : ∀ b : Addr, b ∉ X.ex := fun b => by rw [hex]; simp
  have ns : ∀ b o, X.s₀.heap.get? b = some o → b ∉ X.fs → b ∉ frs X.stack := fun b o q n z => by
    rcases List.mem_cons.mp (I.stkSub b z) with y | y
    · exact nl b o q y
    · exact n y
  refine ⟨fun b o q n hb _ => u.keep b o (I.base.keep b o q n hb (nx b)) (I.base.free b o q n (nx b)) (ns b o q hb) (by simp), fun b o q n hb _ => ?_, fun b o q n _ => ?_, fun b o q _ => ?_, fun b xs q => u.tups b xs (I.base.tups b xs q), fun b o v q => u.frzs b o v (I.base.frzs b o v q), fun b ps q => ?_⟩
  · obtain ⟨sl, e⟩ := I.base.slot b o q n hb (nx b)
    have fr := I.base.free b o q n (nx b)
    by_cases hs : b ∈ frs X.stack
    · obtain ⟨sl2, e2⟩ := u.slot b _ e fr hs (by simp)
      exact ⟨sl2, e2⟩
    · exact ⟨sl, u.keep b _ e fr hs (by simp)⟩
  · obtain ⟨o1, e⟩ := I.base.there b o q (nx b)
    exact u.free b o1 e (I.base.free b o q n (nx b)) (by simp)
  · obtain ⟨o1, e⟩ := I.base.there b o q (nx b)
    exact u.there b o1 e (by simp)
  · obtain ⟨m1, e1⟩ := I.base.tbls b ps q
    obtain ⟨m2, e2⟩ := u.tbls b _ e1
    exact ⟨m1 ++ m2, by rw [e2, Array.append_assoc]⟩
def bOf (X : Cx) (e : Addr) (h : Heap) : Heap := PySem.W.hideAll h (e :: frs X.stack)
theorem Inv.flyB (I : Inv X pins σ H s) {e C : Addr} {dct : Option Addr} (he : H e = some (excO e C dct true)) :
    XAt (bOf X e s.heap) e (.ref C) dct none s.heap ∧ s.heap.FunFrames (bOf X e s.heap) X.stack ∧ (∀ b o, s.heap.get? b = some o → b ≠ e → b ∉ frs X.stack → (bOf X e s.heap).get? b = some o) := by
  obtain ⟨oe, vs, e1, e2, e3, e4, e5, e6⟩ := I.hok.exc he
  refine ⟨⟨fun b o q => PySem.W.of_hideAll _ q, PySem.W.hideAll_none _ (.head _), oe, vs, e1, e2, e3, e4, e5, e6 rfl⟩, PySem.W.funFrames_hide I.stack fun env hm a ha => .tail _ (List.mem_filterMap.mpr ⟨env, hm, ha⟩), fun b o q n1 n2 => PySem.W.hideAll_get _ q fun z => ?_⟩
  rcases List.mem_cons.mp z with y | y
  · exact n1 y
  · exact n2 y
theorem Inv.flyUn (I : Inv X pins σ H s) {e C : Addr} {dct : Option Addr} {fl : Option Value} (he : H e = some (excO e C dct true)) (x : XAt (bOf X e s.heap) e (.ref C) dct fl h') (u : UpS s.heap h') :
    Un (frs X.stack) [] H (upd H e (excO e C dct false)) s.heap h' ∧ HOk X.prog X.w (upd H e (excO e C dct false)) h' ∧ ∀ a o, upd H e (excO e C dct false) a = some o → a ≠ e → ∃ ob, (bOf X e s.heap).get? a = some ob := by
  obtain ⟨x0, ff, big⟩ := I.flyB he
  have cov : ∀ a o, upd H e (excO e C dct false) a = some o → a ≠ e → ∃ ob, (bOf X e s.heap).get? a = some ob := fun a o q n => by
    rw [upd_ne n] at q
    obtain ⟨ob, g⟩ := (I.hok a o q).there
    exact ⟨ob, big a ob g n fun z => by rw [I.stkFree a z] at q; cases q⟩
  have ne : ∀ b, H b = none → b ≠ e := fun b n z => by rw [z, he] at n; cases n
  refine ⟨⟨fun b o q n hb _ => x.stay b o (big b o q (ne b n) hb), fun b o q n hb _ => ?_, fun b o q n _ => by rw [upd_ne (ne b n)]; exact n, fun b o q _ => u.th b o q, fun b xs q => ?_, fun b o v q => ?_, fun b ps q => ⟨#[], ?_⟩⟩, ?_, cov⟩
  · obtain ⟨_, o1, g, nf⟩ := ff.mem (show b ∈ X.stack.filterMap (·.frame) from hb)
    rw [q] at g
    cases g
    exact u.sl b o q nf
  · rw [upd_ne fun z => by rw [z, he] at q; cases q]; exact q
  · rw [upd_ne fun z => by rw [z, he] at q; cases q]; exact q
  · rw [upd_ne fun z => by rw [z, he] at q; cases q]; simpa using q
  · have h0 : HOk X.prog X.w (upd H e (excO e C dct false)) s.heap := fun a o q => by
      by_cases z : a = e
      · subst z
        rw [upd_same] at q
        cases q
        obtain ⟨oe, vs, e1, e2, e3, e4, e5, _⟩ := I.hok.exc he
        exact excO_ok ⟨oe, vs, e1, e2, e3, e4, e5, fun z => by cases z⟩
      · rw [upd_ne z] at q
        refine (I.hok a o q).stay (fun _ _ _ g => g) (fun b g => ?_) fun b xs g => ?_
        · rw [upd_ne fun z => by rw [z, he] at g; cases g]; exact g
        · rw [upd_ne fun z => by rw [z, he] at g; cases g]; exact g
    exact hok_step h0 upd_same cov x0.stay x
end
end L2
namespace L2
open PySem PySem.Spec PyProof.Rows
abbrev XH := Value → Option Addr → St → Hp → Prop
def PassesX (CX : CXT) (X : Cx) (Ek : XH) : Prop := ∀ (pins : List (Addr × Obj)) (σ : St) (H : Hp) (s : Shared) (e : Value) (s' : Shared), Inv X pins σ H s → CX X.stack H s (fun v d H' => Ek v d σ H') e s' → X.xe e s'
def RaisesX (X : Cx) (Ek : XH) : Prop := ∀ (pins : List (Addr × Obj)) (σ : St) (H : Hp) (s : Shared) (e C : Addr) (dct : Option Addr), Inv X pins σ H s → H e = some (excO e C dct true) → Ek (.ref e) dct σ (upd H e (excO e C dct false)) → X.xe (.ref e) s
abbrev EX0 : XH := fun _ _ _ _ => False
theorem passN {P : Program} {w : World} {X : Cx} : PassesX (CXX P w) X EX0 := fun _ _ _ _ _ _ _ ⟨_, _, _, _, _, _, _, _, _, _, _, h⟩ => h.elim
section
variable {X : Cx} {pins : List (Addr × Obj)} {σ : St} {H H' : Hp} {s s' : Shared} {B h' : Heap} {e C : Addr} {dct : Option Addr} {fl : Option Value}
theorem fly_un (F : Fly X.prog X.w B X.stack e C dct H' s'.heap) (un : Un (frs X.stack) [] H H' s.heap s'.heap) (cv : ∀ b o, s.heap.get? b = some o → H b = none → b ∉ frs X.stack → B.get? b = some o)
    (x : XAt B e (.ref C) dct fl h') (u : UpS s'.heap h') : Un (frs X.stack) [] H H' s.heap h' ∧ HOk X.prog X.w H' h' := by
  obtain ⟨fl0, _, x0⟩ := F.at_
  refine ⟨⟨fun b o q n hb _ => x.stay b o (cv b o q n hb), fun b o q n hb _ => ?_, un.free, fun b o q hx => ?_, un.tups, un.frzs, un.tbls⟩, hok_step F.hok F.he F.cov x0.stay x⟩
  · obtain ⟨sl, e1⟩ := un.slot b o q n hb (by simp)
    obtain ⟨_, o1, g, nf⟩ := F.ff.mem (show b ∈ X.stack.filterMap (·.frame) from hb)
    rw [e1] at g
    cases g
    obtain ⟨sl2, e2⟩ := u.sl b _ e1 nf
    exact ⟨sl2, e2⟩
  · obtain ⟨o1, e1⟩ := un.there b o q hx
    exact u.th b o1 e1
theorem fly_inv (I : Inv X pins σ H s) (F : Fly X.prog X.w B X.stack e C dct H' s'.heap) (hos : s'.os = s.os) (hb : AllBare s'.gens) (un : Un (frs X.stack) [] H H' s.heap s'.heap)
    (cv : ∀ b o, s.heap.get? b = some o → H b = none → b ∉ frs X.stack → B.get? b = some o) (x : XAt B e (.ref C) dct fl h') (u : UpS s'.heap h') : Inv X pins σ H' { s' with heap := h' } := by
  obtain ⟨u2, ok⟩ := fly_un F un cv x u
  exact I.call' (s' := { s' with heap := h' }) (ch := []) hos u2 ok hb (fun b z => absurd z (by simp))
end
section
variable {P : Program} {w : World} {K : PySem.W.Frag} {mg : Str → Option Value} {base : Heap} {N : List Str} {qual : Str} {sc : Scope} {f : Addr} {cd : Value} {A : Around} {outer : List Env} {s₀ : Shared} {H₀ : Hp} {E : XK}
theorem raiseF : RaisesX (cxOf (CXX P w) P w K mg base N qual sc f cd A outer s₀ H₀ E) (fun v d _ H => E v d H) := by
  intro pins σ H s e C dct I he hE
  obtain ⟨x, ff, big⟩ := I.flyB he
  refine leave_at (outer := outer) (L := s₀.heap.objs.size) I.ok.frames ff rfl x (.inl rfl) fun h' x' u => ?_
  obtain ⟨un, ok, cov⟩ := I.flyUn he x' u
  refine ⟨_, e, C, dct, _, rfl, I.os, I.bare, ⟨⟨_, .inr rfl, x'⟩, (u.funs ff).2.2, ok, upd_same, cov⟩, I.out rfl un, fun b o q n hb => ?_, hE⟩
  have fr := I.base.free b o q n (by show b ∉ ([] : List Addr); simp)
  refine big b o (I.base.keep b o q n hb (by show b ∉ ([] : List Addr); simp)) (fun z => by rw [z, he] at fr; cases fr) fun z => ?_
  rcases List.mem_cons.mp (I.stkSub b z) with y | y
  · exact absurd (Nat.lt_of_lt_of_le (Heap.lt_size q) (by rw [y]; exact I.ok.above)) (Nat.lt_irrefl _)
  · exact hb y
theorem passF : PassesX (CXX P w) (cxOf (CXX P w) P w K mg base N qual sc f cd A outer s₀ H₀ E) (fun v d _ H => E v d H) := by
  intro pins σ H s e s' I q
  obtain ⟨B, ea, C, dct, H', rfl, hos, hb, F, un, cv, hE⟩ := q
  obtain ⟨fl0, hfl, x0⟩ := F.at_
  refine leave_at (outer := outer) (L := s₀.heap.objs.size) I.ok.frames F.ff rfl x0 hfl fun h' x' u => ?_
  obtain ⟨u2, ok⟩ := fly_un (X := cxOf (CXX P w) P w K mg base N qual sc f cd A outer s₀ H₀ E) F un cv x' u
  refine ⟨B, ea, C, dct, H', rfl, hos.trans I.os, hb, ⟨⟨_, .inr rfl, x'⟩, (u.funs F.ff).2.2, ok, F.he, F.cov⟩, I.out rfl u2, fun b o q n hb => ?_, hE⟩
  refine cv b o (I.base.keep b o q n hb (by show b ∉ ([] : List Addr); simp)) (I.base.free b o q n (by show b ∉ ([] : List Addr); simp)) fun z => ?_
  rcases List.mem_cons.mp (I.stkSub b z) with y | y
  · exact absurd (Nat.lt_of_lt_of_le (Heap.lt_size q) (by rw [y]; exact I.ok.above)) (Nat.lt_irrefl _)
  · exact hb y
end
def tryCx (P : Program) (w : World) (X : Cx) (pins : List (Addr × Obj)) (Hk : XH) : Cx :=
  { X with pn := X.pn ++ pins, xe := fun e s' => ∃ σ H s, Inv X pins σ H s ∧ CXX P w X.stack H s (fun v d H' => Hk v d σ H') e s' }
section
variable {P : Program} {w : World} {X : Cx} {pins pins' : List (Addr × Obj)} {Hk : XH} {σ : St} {H : Hp} {s : Shared}
theorem unTry (I : Inv (tryCx P w X pins Hk) pins' σ H s) : Inv X pins σ H s := by
  have o := I.ok
  exact ⟨⟨o.mod, o.kind, o.glob, o.blt, o.above, o.inj, o.has, o.cab, o.hd, o.frames, o.stk, o.exf, o.bs, o.bsz, o.noex, o.exfs, o.funs, o.frf⟩, I.os, I.bare, I.base, I.loc, I.cell, I.free, I.freeC, fun p hp => I.pin p (List.mem_append_left _ hp), I.hok, I.len⟩
theorem inTry (I : Inv X pins σ H s) : Inv (tryCx P w X pins Hk) [] σ H s := by
  have o := I.ok
  exact ⟨⟨o.mod, o.kind, o.glob, o.blt, o.above, o.inj, o.has, o.cab, o.hd, o.frames, o.stk, o.exf, o.bs, o.bsz, o.noex, o.exfs, o.funs, o.frf⟩, I.os, I.bare, I.base, I.loc, I.cell, I.free, I.freeC, fun p hp => I.pin p (by simpa [tryCx] using hp), I.hok, I.len⟩
theorem passT : PassesX (CXX P w) (tryCx P w X pins Hk) Hk := fun _ σ H s _ _ I q => ⟨σ, H, s, unTry I, q⟩
end
def sufCx (X : Cx) (e : Addr) : Cx := { X with A := X.A.mark (some (.ref e)), calm := false, xe := fun _ _ => False }
section
variable {X : Cx} {pins : List (Addr × Obj)} {σ : St} {H : Hp} {s : Shared} {e : Addr}
theorem inSuf (I : Inv X pins σ H s) : Inv (sufCx X e) pins σ H s := by
  have o := I.ok
  exact ⟨⟨o.mod, o.kind, o.glob, o.blt, o.above, o.inj, o.has, o.cab, (fun z => by cases z), o.frames, o.stk, o.exf, o.bs, o.bsz, o.noex, o.exfs, o.funs, o.frf⟩, I.os, I.bare, I.base, I.loc, I.cell, I.free, I.freeC, I.pin, I.hok, I.len⟩
theorem unSuf (o : X.Ok) (I : Inv (sufCx X e) pins σ H s) : Inv X pins σ H s :=
  ⟨o, I.os, I.bare, I.base, I.loc, I.cell, I.free, I.freeC, I.pin, I.hok, I.len⟩
end
def tCallX (sp : Sp) (Ek : XH) (t : TA) : TE := fun σ H Q => t σ H fun vs H1 => sp vs H1 Q (fun v d H' => Ek v d σ H')
section
variable {X : Cx} {CX : CXT} {k : Nat} {x : Str} {ps : List Str} {sp : Sp} {Ek : XH} {p pos : Pos} {e : Expr} {es : List Expr} {t : TA}
theorem pe_callX (D : Def X.prog X.w X.K X.mg X.base CX k x ps sp) (hr : Room k X.A) (hg : Gl X x) (hx : PassesX CX X Ek) (ha : PA X (e :: es) t)
    (hdb : (x == ("__debug__" : Str)) = false := by decide) (he : starEach (e :: es) X.env = (false, eval e X.env) :: starEach es X.env := by rfl) (hpl : (backTo pos (starEach es X.env)).any (·.1) = false := by rfl) :
    PE X (.Call (.Name x p) (e :: es) [] pos) (tCallX sp Ek t) := by
  obtain ⟨f, fd, F, hb, hk, hm⟩ := D.ex
  intro pins s σ H Q I h
  refine wpAny_Call_Name_kw (ld_glob I hg hm ?_ hdb)
  refine PySem.W.callWith_K (h₀ := X.base) I.ok.mod.kin hk (thn (ha pos pins s σ H _ I h) fun us s1 ⟨vs, H1, I1, r, q⟩ => ⟨I1.kIn, ?_⟩) he hpl
  have hl : (us ++ []).length = ps.length := by rw [List.append_nil, ← r.length]; exact F.len _ _ _ _ q
  have hbb := hb s1 us I1.kIn hl
  rw [List.append_nil] at hbb
  refine wpAny_call (codeAny_mono (F.run X.A X.stack s1 H1 ⟨us, []⟩ us vs Q _ hr I1.env0 hbb r q) fun r s' hq => ?_)
  cases r with
  | error e => exact hx pins σ H1 s1 e s' I1 hq
  | ok fl =>
    cases fl with
    | ret u => exact I1.after hq
    | next => exact False.elim hq
    | brk => exact False.elim hq
    | cont => exact False.elim hq
end
theorem Src.okN {P : Program} {w : World} {K : PySem.W.Frag} {mg : Str → Option Value} {base : Heap} {CX : CXT} {x : Str} {st : Stmt} {N ps : List Str} {k : Nat} {sp : Sp} (F : Src K mg x st ps) (S : FnScope N ps (defScope st)) (len : ∀ vs H Q E, sp vs H Q E → vs.length = ps.length)
    (hbody : ∀ (f : Addr) (cdv : Value) (A : Around) (outer : List Env) (s : Shared) (H : Hp) (vs : List V) (Q : VK) (E : XK), Room k (A.deeper (envOfC x (defScope st) s.heap.objs.size f cdv)) → sp vs H Q E →
      ∃ t, PSs (cxOf CX P w K mg base N x (defScope st) f cdv A outer s H E).nox (defBody st) t ∧ t { nx := fun _ H' => Q .non H', rt := Q } (start N vs) H) : Def P w K mg base CX (k + 1) x ps sp := by
  obtain ⟨f, fd, F, b, m⟩ := F.ex
  obtain ⟨oc, od, kV, doc, pm, an, cdv, ct, osl, rfl, lk, hcd⟩ := F.ex
  exact ⟨f, _, fn_of lk hcd S len fun A outer s H vs Q E hr hsp => by
    obtain ⟨t, h, q⟩ := hbody f cdv A outer s H vs Q E hr hsp
    exact ⟨t, h.nox, q⟩, b, F.kp, m⟩
theorem Src.okX {P : Program} {w : World} {K : PySem.W.Frag} {mg : Str → Option Value} {base : Heap} {x : Str} {st : Stmt} {N ps : List Str} {k : Nat} {sp : Sp} (F : Src K mg x st ps) (S : FnScope N ps (defScope st)) (len : ∀ vs H Q E, sp vs H Q E → vs.length = ps.length)
    (hbody : ∀ (f : Addr) (cdv : Value) (A : Around) (outer : List Env) (s : Shared) (H : Hp) (vs : List V) (Q : VK) (E : XK), Room k (A.deeper (envOfC x (defScope st) s.heap.objs.size f cdv)) → sp vs H Q E →
      ∃ t, PSs (cxOf (CXX P w) P w K mg base N x (defScope st) f cdv A outer s H E) (defBody st) t ∧ t { nx := fun _ H' => Q .non H', rt := Q } (start N vs) H) : Def P w K mg base (CXX P w) (k + 1) x ps sp := by
  obtain ⟨f, fd, F, b, m⟩ := F.ex
  obtain ⟨oc, od, kV, doc, pm, an, cdv, ct, osl, rfl, lk, hcd⟩ := F.ex
  exact ⟨f, _, fn_of lk hcd S len fun A outer s H vs Q E hr hsp => hbody f cdv A outer s H vs Q E hr hsp, b, F.kp, m⟩
theorem free_of {P : Program} {w : World} {H : Hp} {h : Heap} {a : Addr} (x : HOk P w H h) (e : h.get? a = none) : H a = none := by
  cases q : H a with
  | none => rfl
  | some o =>
    obtain ⟨ob, g⟩ := (x a o q).there
    rw [e] at g
    cases g
theorem Inv.laidN {X : Cx} {pins : List (Addr × Obj)} {σ : St} {H : Hp} {s : Shared} {h' : Heap} {a : Addr} {o : HO} {t' : Nat} (I : Inv X pins σ H s) (k : ∀ b u, s.heap.get? b = some u → h'.get? b = some u) (hn : s.heap.get? a = none) (new : ObjOk X.prog X.w (upd H a o) h' a o) :
    Inv X pins σ (upd H a o) { s with heap := h', toks := t' } := by
  have fr := free_of I.hok hn
  refine I.un (t' := t') ⟨fun b ob q _ _ _ => k b ob q, fun b ob q _ _ _ => ⟨ob.slots, k b ob q⟩, fun b ob q n _ => ?_, fun b ob q _ => ⟨ob, k b ob q⟩, fun b xs q => ?_, fun b ob v q => ?_, fun b ps q => ⟨#[], ?_⟩⟩ fun b ob q => ?_
  · rw [upd_ne fun z => by rw [z, hn] at q; cases q]; exact n
  · rw [upd_ne (ne_of_none q fr)]; exact q
  · rw [upd_ne (ne_of_none q fr)]; exact q
  · rw [upd_ne (ne_of_none q fr)]; simpa using q
  · by_cases z : b = a
    · subst z
      rw [upd_same] at q
      cases q
      exact new
    · rw [upd_ne z] at q
      exact (I.hok b ob q).stay (fun c u _ g => k c u g) (fun c g => by rw [upd_ne (ne_of_none g fr)]; exact g) fun c xs g => by rw [upd_ne (ne_of_none g fr)]; exact g
def tXmk (C : Addr) (t : TA) : TE := fun σ H Q => t σ H fun vs H1 => vs.length ≤ 1000 ∧ ∀ e, H1 e = none → Q (.ref e) (upd H1 e (excO e C none true))
def tRaise (K : PySem.W.Frag) (Ek : XH) (te : TE) : TS := fun _ σ H => te σ H fun v H1 => ∃ e C dct, v = .ref e ∧ H1 e = some (excO e C dct true) ∧ XC K C ∧ Ek (.ref e) dct σ (upd H1 e (excO e C dct false))
section
variable {X : Cx} {C : Addr} {x : Str} {p pos : Pos} {e : Expr} {es : List Expr} {t : TA}
theorem pe_xmk (q : PySem.W.excIn X.K C bmV "ValueError.__new__" = true) (kp : PySem.W.keepIn X.K (.ref C) = true) (hg : Gl X x) (hm : X.mg x = some (.ref C)) (ha : PA X (e :: es) t)
    (hdb : (x == ("__debug__" : Str)) = false := by decide) (he : starEach (e :: es) X.env = (false, eval e X.env) :: starEach es X.env := by rfl) (hpl : (backTo pos (starEach es X.env)).any (·.1) = false := by rfl) :
    PE X (.Call (.Name x p) (e :: es) [] pos) (tXmk C t) := by
  intro pins s σ H Q I h
  refine wpAny_Call_Name_kw (ld_glob I hg hm ?_ hdb)
  refine PySem.W.callWith_K (h₀ := X.base) I.ok.mod.kin kp (thn (ha pos pins s σ H _ I h) fun us s1 ⟨vs, H1, I1, r, hl, q1⟩ => ⟨I1.kIn, ?_⟩) he hpl
  refine xmake0 I1.kIn q (by rw [List.nil_append, ← r.length]; exact line_lit hl) fun h' ea m => ?_
  obtain ⟨tt, g1, g2, g3⟩ := m.there
  exact ⟨.ref ea, _, I1.laidN (t' := s1.toks) m.keeps m.new (excO_ok ⟨_, _, g1, rfl, rfl, rfl, Nat.lt_of_lt_of_le (by decide) (Nat.le_refl 6), fun _ => rfl⟩), rfl, q1 ea (free_of I1.hok m.new)⟩
theorem ps_raise {Ek : XH} {te : TE} (K : PySem.W.Frag) (hK : X.K = K) (hc : X.calm = true) (hx : RaisesX X Ek) (he : PE X e te) : PS X (.Raise (some e) none pos) (tRaise K Ek te) := by
  subst hK
  intro pins s σ H D I h
  rw [arm_exec_Raise]
  refine wpAny_bind (wpAny_standAt ?_)
  show wpAny _ _ (raiseStmt X.env (some (do let v ← eval e X.env; standAt pos; pure v)) none) _ _ _
  refine xraise (K := X.K) (I.ok.hd hc) (wpAny_bind (thn (he pins s σ H _ I h) fun u s1 ⟨v, H1, I1, r, ea, C, dct, hv, hh, c, q⟩ => wpAny_bind (wpAny_standAt (wpAny_pure ?_))))
  subst hv
  cases (show u = Value.ref ea from r)
  obtain ⟨oe, vs, e1, e2, e3, e4, e5, e6⟩ := I1.hok.exc hh
  exact ⟨C, ea, oe, vs, c, rfl, I1.kIn, e1, e2, e4, e6 rfl, hx pins σ H1 s1 ea C dct I1 hh q⟩
end
section
variable {prog : Program} {w : World} {A : Around} {E : Value → Shared → Prop} {s : Shared} {K : PySem.W.Frag} {e C C' : Addr}
theorem xmatch {oe : Obj} {b : Bool} {Q : Bool → Shared → Prop} (X : K.In s.heap) (c : XC K C') (he : s.heap.get? e = some oe) (hc : oe.cls = .ref C) (hs : PySem.W.subIn K (.ref C) (.ref C') = some b) (h : Q b s) : wpAny (model prog w) A (excMatches (.ref e) (.ref C')) Q E s := by
  obtain ⟨nm, qn, N, bs, bm, hdct, sn, sub, ab, col, dd, k0, k1, k2, k3, k5, lk, tl⟩ := c.ex
  obtain ⟨hp, g, d, t, os⟩ := s
  have cl := X _ _ lk
  have hcB : (Value.ref C' :: bm).contains (.type "BaseException") = true := by rw [List.contains_cons, (PySem.W.tail_of_in X tl).hasType (show bmV.contains (.type "BaseException") = true from rfl), Bool.or_true]
  have LS := PySem.W.looks_subIn (M := model prog w) X hs
  have f := tc_notTuple
  unfold excMatches
  repeat (first | (with_reducible refine wpAny_loadPart_at he ?_; rw [hc]) | with_reducible refine wpAny_loadPart_at cl ?_ | (with_reducible refine wpAny_isSubtype_exc cl ?_; rw [hcB]) | (with_reducible refine LS.at ?_) | wp_step)
  cases b with
  | true => wp_walk; exact h
  | false => wp_walk; exact h
end
def hkOf (K : PySem.W.Frag) (C' : Addr) (th : Addr → TS) (D : Ends) : XH := fun v d σ H => ∃ e C, v = .ref e ∧ H e = some (excO e C d false) ∧ PySem.W.subIn K (.ref C) (.ref C') = some true ∧ th e D σ H
def tTry (K : PySem.W.Frag) (C' : Addr) (tb : XH → TS) (th : TS) : TS := fun D σ H => tb (hkOf K C' (fun _ => th) D) D σ H
def tTryAs (K : PySem.W.Frag) (C' : Addr) (i : Nat) (tb : XH → TS) (th : TS) : TS := fun D σ H =>
  tb (hkOf K C' (fun e D σ H => th { nx := fun σ H => D.nx (σ.set i none) H, rt := D.rt, bk := fun σ H => D.bk (σ.set i none) H, ct := fun σ H => D.ct (σ.set i none) H } (σ.set i (some (.ref e))) H) D) D σ H
section
variable {P : Program} {w : World} {X : Cx} {C' : Addr} {x : Str} {np hpos pos : Pos} {body suite : List Stmt} {b0 : Stmt} {tb : XH → TS} {th : TS}
theorem SP.unTry {pins : List (Addr × Obj)} {Hk : XH} {D : Ends} {f : Flow} {s' : Shared} (h : SP (tryCx P w X pins Hk) [] D f s') : SP X pins D f s' := by
  cases f with
  | next => obtain ⟨σ, H, I, q⟩ := h; exact ⟨σ, H, L2.unTry I, q⟩
  | brk => obtain ⟨σ, H, I, q⟩ := h; exact ⟨σ, H, L2.unTry I, q⟩
  | cont => obtain ⟨σ, H, I, q⟩ := h; exact ⟨σ, H, L2.unTry I, q⟩
  | ret u => obtain ⟨v, σ, H, I, r, q⟩ := h; exact ⟨v, σ, H, L2.unTry I, r, q⟩
theorem SP.unSuf {pins : List (Addr × Obj)} {e : Addr} {D : Ends} {f : Flow} {s' : Shared} (o : X.Ok) (h : SP (sufCx X e) pins D f s') : SP X pins D f s' := by
  cases f with
  | next => obtain ⟨σ, H, I, q⟩ := h; exact ⟨σ, H, L2.unSuf o I, q⟩
  | brk => obtain ⟨σ, H, I, q⟩ := h; exact ⟨σ, H, L2.unSuf o I, q⟩
  | cont => obtain ⟨σ, H, I, q⟩ := h; exact ⟨σ, H, L2.unSuf o I, q⟩
  | ret u => obtain ⟨v, σ, H, I, r, q⟩ := h; exact ⟨v, σ, H, L2.unSuf o I, r, q⟩
theorem ps_try (hP : X.prog = P) (hw : X.w = w) (K : PySem.W.Frag) (hK : X.K = K) (hst : X.stack = X.env :: X.outer) (hf : X.env.frame = some X.env.locals) (c : XC K C') (hg : Gl X x) (hm : X.mg x = some (.ref C'))
    (hb : ∀ pins Hk, PSs (tryCx P w X pins Hk) body (tb Hk)) (hs : ∀ e, PSs (sufCx X e) (b0 :: suite) th) (hdb : (x == ("__debug__" : Str)) = false := by decide) :
    PS X (.Try body [.ExceptHandler (some (.Name x np)) none (b0 :: suite) hpos] [] [] pos) (tTry K C' tb th) := by
  subst hP hw hK
  intro pins s σ H D I h
  refine wpAny_Try_except (wpAny_mono (hb pins _ [] s σ H D (inTry I) h) (fun f s1 z => ?_) fun ev s1 z => ?_)
  · have z := SP.unTry z
    cases f with
    | next => obtain ⟨σ1, H1, I1, q⟩ := z; exact wpAny_execs_nil ⟨σ1, H1, I1, q⟩
    | brk => exact z
    | cont => exact z
    | ret u => exact z
  · obtain ⟨σ1, H1, s2, J, B, ea, C, dct, H', rfl, hos, hbr, F, un, cv, e2, C2, hv, he2, hsub, q⟩ := z
    cases hv
    have eC : C2 = C ∧ True := by
      obtain ⟨oe, vs, g1, g2, _⟩ := F.hok.exc he2
      obtain ⟨oe', vs', g1', g2', _⟩ := F.hok.exc F.he
      rw [g1] at g1'
      cases g1'
      rw [g2] at g2'
      exact ⟨Value.ref.inj g2', trivial⟩
    obtain ⟨rfl, _⟩ := eC
    obtain ⟨fl0, hfl, x0⟩ := F.at_
    refine note_at (outer := X.outer) (by rw [← hst]; exact J.ok.frames) (by rw [← hst]; exact F.ff) hf x0 hfl fun h1 x1 u1 => ?_
    refine land_at (s := { s1 with heap := h1 }) x1 fun h2 x2 u2 => ?_
    have J2 := fly_inv J F hos hbr un cv x2 (u1.trans u2)
    refine wpAny_handleBy_cons (codeAny_handlers_test (ld_glob (X := sufCx X ea) (inSuf J2) hg hm ?_ hdb)) (by intro z; cases z)
    obtain ⟨oe, vs, g1, g2, _⟩ := x2.ex
    refine xmatch J2.kIn c g1 g2 hsub (codeAny_handlers_suite ?_)
    refine land_at (s := { s1 with heap := h2 }) x2 fun h3 x3 u3 => ?_
    have J3 := fly_inv J F hos hbr un cv x3 ((u1.trans u2).trans u3)
    exact wpAny_mono (hs ea pins _ σ1 H' D (inSuf J3) q) (fun f s4 z => SP.unSuf J3.ok z) fun _ _ z => False.elim z
theorem drop_ok {M : Model} {A : Around} {E : Value → Shared → Prop} {pins : List (Addr × Obj)} {σ : St} {H : Hp} {s : Shared} {i : Nat} {n : Str} {pos : Pos} {Q : Unit → Shared → Prop} (I : Inv X pins σ H s) (hN : X.N.Nodup) (hi : X.N[i]? = some n) (hl : X.env.scope.names.lookup n = some .local)
    (h : ∀ s', Inv X pins (σ.set i none) H s' → Q () s') : wpAny M A (do bindName X.env n .none; unbindBehindTheSuite X.env n pos) Q E s := by
  have hcls : (X.env.scope.kind == .class || (X.env.scope.kind == .module && X.env.locals != X.env.globals)) = false := by rw [I.ok.kind]; rfl
  refine wpAny_bind (wpAny_bindName (store_ok (v := V.non) I hN hi (.inl hl) rfl (fun s1 I1 => ?_) (.inr hl)))
  unfold unbindBehindTheSuite
  refine wpAny_onRaise ?_
  obtain ⟨m, hn, hlk⟩ := id I1.loc
  have hil : i < σ.length := by rw [I.len]; exact (List.getElem?_eq_some_iff.mp hi).1
  obtain ⟨u, ru, lk⟩ := hlk i n .non hi (by rw [List.getElem?_set_self hil]) (.inl hl)
  have mv : m n = some u := by
    rcases lk with ⟨_, z⟩ | ⟨z, _⟩
    · exact z
    · rcases z with z | z
      · rw [show X.env.kindOf n = some .local from hl] at z; cases z
      · rw [show X.env.kindOf n = some .local from hl] at z; cases z
  refine wpAny_unbindName_local (show X.env.kindOf n = some .local from hl) hn mv hcls fun h' u' hn' hs => h _ ?_
  have cne := I1.cne
  refine ⟨I1.ok, I1.os, I1.bare, ⟨fun b o e n hb hx => ?_, fun b o e n hb hx => ?_, I1.base.free, fun b o e hx => ?_, I1.base.tups, I1.base.frzs, I1.base.tbls⟩, ⟨_, hn', fun j y v' e1 e2 e3 => ?_⟩, fun y c e => ?_, I1.free, I1.freeC, fun p hp => ?_, fun b ob e => ?_, ?_⟩
  · exact (hs.2 b (Nat.ne_of_lt (Nat.lt_of_lt_of_le (Heap.lt_size e) I1.ok.above))).trans (I1.base.keep b o e n hb hx)
  · obtain ⟨sl, e1⟩ := I1.base.slot b o e n hb hx
    exact ⟨sl, (hs.2 b (Nat.ne_of_lt (Nat.lt_of_lt_of_le (Heap.lt_size e) I1.ok.above))).trans e1⟩
  · obtain ⟨o', e1⟩ := I1.base.there b o e hx
    exact ⟨o', (hs.2 b (Nat.ne_of_lt (Nat.lt_of_lt_of_le (Heap.lt_size e) I1.ok.above))).trans e1⟩
  · by_cases hj : j = i
    · subst hj
      rw [List.getElem?_set_self hil] at e2
      cases e2
    · have e2' : (σ.set i (some V.non))[j]? = some (some v') := by
        rw [List.getElem?_set_ne (Ne.symm hj)] at e2 ⊢; exact e2
      obtain ⟨u1, r1, q⟩ := hlk j y v' e1 e2' e3
      refine ⟨u1, r1, ?_⟩
      rcases q with ⟨k, e⟩ | ⟨k, c, e, z⟩
      · refine .inl ⟨k, ?_⟩
        have : y ≠ n := fun e => hj (nodup_ix hN e1 (e ▸ hi))
        simp [this, e]
      · exact .inr ⟨k, c, e, z.sameBut hs (cne y c e)⟩
  · obtain ⟨w', z⟩ := I1.cell y c e
    exact ⟨w', z.sameBut hs (cne y c e)⟩
  · obtain ⟨e, n, ne, nf, d⟩ := I1.pin p hp
    exact ⟨(hs.2 p.1 ne).trans e, n, ne, nf, d⟩
  · refine (I1.hok b ob e).stay (fun c w' hc q => (hs.2 c ?_).trans q) (fun _ q => q) fun _ _ q => q
    rintro rfl
    have fr : H X.env.locals = none := I1.free
    rcases hc with z | hc
    · rw [← z, fr] at e; cases e
    · rw [fr] at hc; cases hc
  · have := I1.len
    rw [List.length_set] at this ⊢
    exact this
end
end L2
namespace L2
open PySem PySem.Spec PyProof.Rows
def XFull (H : Hp) (dct : Option Addr) : Prop := dct = none ∨ ∃ d fs, dct = some d ∧ H d = some (xdO d fs)
theorem xd_obj {d : Addr} {fs : List (Str × V)} {h : Heap} (x : XDt d fs h) : ∃ o, h.get? d = some o := by
  obtain ⟨mA, ⟨o, es, ep, e1, _⟩, _⟩ := x
  exact ⟨o, e1⟩
theorem exc_inst {P : Program} {w : World} {H : Hp} {h : Heap} {e C : Addr} {dct : Option Addr} {fr : Bool} (x : HOk P w H h) (he : H e = some (excO e C dct fr)) (hf : XFull H dct) : ∃ ox od, PySem.W.InstAt h e ox C od := by
  obtain ⟨oe, vs, e1, e2, e3, e4, _⟩ := x.exc he
  have no : PySem.W.notCls oe = true := by unfold PySem.W.notCls; rw [e4]
  rcases hf with rfl | ⟨d, fs, rfl, hd⟩
  · exact ⟨oe, none, e1, e2, no, by rw [e3]; trivial⟩
  · obtain ⟨o, g⟩ := xd_obj (x.xd hd)
    exact ⟨oe, some o, e1, e2, no, by rw [e3]; exact g⟩
def rInstX (K : PySem.W.Frag) : List V → Hp → VK → Prop := fun xs H Q => ∃ e C dct fr c cv b, xs = [.ref e, c] ∧ H e = some (excO e C dct fr) ∧ XFull H dct ∧ XC K C ∧ clsV c = some cv ∧ PySem.W.kitOne K (.ref C) cv = some b ∧ Q (.bl b) H
section
variable {X : Cx}
theorem call_isinstX (K : PySem.W.Frag) (hK : X.K = K) : CallR X (.builtin "isinstance") (rInstX K) := by
  subst hK
  intro pins s σ H xs us Q I r h
  obtain ⟨e, C, dct, fr, c, cv, b, rfl, he, hf, xc, hc, k, q⟩ := h
  obtain ⟨u, v, rfl, rx, rc⟩ := Vals.two r
  cases (show u = Value.ref e from rx)
  have ec : v = cv := by
    cases c with
    | ty n => cases (show v = Value.type n from rc); exact Option.some.inj hc
    | ref a => cases (show v = Value.ref a from rc); exact Option.some.inj hc
    | _ => cases hc
  subst ec
  exact PySem.W.kia_one (kitx_exc xc) I.kIn (exc_inst I.hok he hf) k (fun z => nomatch z) fun tk => ⟨.bl b, H, I.tok _, rfl, q⟩
end
end L2
namespace L2
open PySem PySem.Spec PyProof.Rows
section
variable {K : PySem.W.Frag} {C C' : Addr}
theorem xc_plain (q : PySem.W.excIn K C bmV "ValueError.__new__" = true) : ∃ nm q N bs bm hdct sn sub ab col dd k0 k1 k2 k3 k5, K.lookup C = some (excClassObj nm q C N bs bm hdct sn sub ab col dd k0 k1 k2 k3 k5 "ValueError.__new__") ∧ PySem.W.tailIn K bmV bm = true := by
  obtain ⟨nm, q, N, bs, bm, hdct, sn, sub, ab, col, dd, k0, k1, k2, k3, k5, l, t, _⟩ := XC.plain q
  exact ⟨nm, q, N, bs, bm, hdct, sn, sub, ab, col, dd, k0, k1, k2, k3, k5, l, t⟩
theorem kit_self : PySem.W.kitOne K (.ref C) (.ref C) = some true := by
  unfold PySem.W.kitOne
  rw [if_pos (by simp)]
theorem kit_of {cd : ClassData} {b : Bool} (n : (Value.ref C == Value.ref C') = false) (hc : PySem.W.clsIn K C' = some cd) (ht : PySem.W.typeIn K (.ref C') = some (.type "type")) (hs : PySem.W.subIn K (.ref C) (.ref C') = some b) : PySem.W.kitOne K (.ref C) (.ref C') = some b := by
  unfold PySem.W.kitOne
  rw [if_neg (by rw [n]; decide)]
  unfold PySem.W.kitCls
  dsimp only
  rw [if_pos (by rw [hc, ht]; rfl)]
  exact hs
theorem kit_ve {b : Bool} (hs : PySem.W.subIn K (.ref C) (.type "ValueError") = some b) : PySem.W.kitOne K (.ref C) (.type "ValueError") = some b := by
  unfold PySem.W.kitOne
  rw [if_neg (by simp)]
  unfold PySem.W.kitCls
  dsimp only
  rw [if_pos (by decide +kernel)]
  exact hs
end
end L2
namespace L2
open PySem PySem.Spec PyProof.Rows
end L2
namespace L2
open PySem PySem.Spec PyProof.Rows
abbrev TupsF {α : Type} (enc : α → List V) (H : Hp) : List Addr → List α → Prop := Paired fun p q => H p = some (.tup (enc q))
section
variable {α : Type} {enc : α → List V} {H H' : Hp} {ps : List Addr} {qs : List α}
theorem tupsF_same (h : TupsF enc H ps qs) (e : Same H H') : TupsF enc H' ps qs := Paired.mapP h fun _ _ q => e _ _ q
theorem tupsF_keep (h : TupsF enc H ps qs) (e : ∀ p xs, H p = some (.tup xs) → H' p = some (.tup xs)) : TupsF enc H' ps qs := Paired.mapP h fun _ _ q => e _ _ q
theorem tupsF_snoc {t : Addr} {q : α} (ht : H t = some (.tup (enc q))) : ∀ {ps : List Addr} {qs : List α}, TupsF enc H ps qs → TupsF enc H (ps ++ [t]) (qs ++ [q])
  | _, _, Paired.nil => .cons ht .nil
  | _, _, Paired.cons a b => .cons a (tupsF_snoc ht b)
structure Grow (enc : α → List V) (H₀ H : Hp) (p : Addr) (ms : List V) (l : Addr) (ps : List Addr) (qs : List α) : Prop where
  sm : Same H₀ H
  hp : H p = some (.lst ms)
  hl : H l = some (.lst (ps.map V.ref))
  r : TupsF enc H ps qs
theorem Grow.same {H₀ : Hp} {p : Addr} {ms : List V} {l : Addr} (I : Grow enc H₀ H p ms l ps qs) (e : Same H H') : Grow enc H₀ H' p ms l ps qs := ⟨I.sm.trans e, e _ _ I.hp, e _ _ I.hl, tupsF_same I.r e⟩
theorem Grow.snoc {H₀ : Hp} {p : Addr} {ms : List V} {l t : Addr} {q : α} (I : Grow enc H₀ H p ms l ps qs) (h0 : H₀ l = none) (hpl : p ≠ l) (ht : H t = some (.tup (enc q))) :
    Grow enc H₀ (upd H l (.lst (ps.map V.ref ++ [.ref t]))) p ms l (ps ++ [t]) (qs ++ [q]) := by
  have kt : ∀ b xs, H b = some (.tup xs) → upd H l (.lst (ps.map V.ref ++ [.ref t])) b = some (.tup xs) := fun b xs e => by
    rw [upd_ne (ne_of e I.hl (by intro z; cases z))]; exact e
  refine ⟨fun b o e => ?_, by rw [upd_ne hpl]; exact I.hp, by rw [upd_same]; simp, tupsF_snoc (kt _ _ ht) (tupsF_keep I.r kt)⟩
  rw [upd_ne (ne_of_none e h0)]; exact I.sm _ _ e
structure Lst (enc : α → List V) (H : Hp) (l : Addr) (ps : List Addr) (qs : List α) : Prop where
  hl : H l = some (.lst (ps.map V.ref))
  r : TupsF enc H ps qs
theorem Lst.same {l : Addr} (R : Lst enc H l ps qs) (e : Same H H') : Lst enc H' l ps qs := ⟨e _ _ R.hl, tupsF_same R.r e⟩
end
abbrev F2 := Int × Int
def f2 (q : F2) : List V := [.int q.1, .int q.2]
end L2
namespace Sw
open L2
def nrm (q : F2) : F2 := (rN q.1 q.2, rD q.1 q.2)
theorem nrm_fr {q : F2} (h : q.2 ≠ 0) : Fr (nrm q).1 (nrm q).2 := rat_fr h
theorem nrm_cross {q : F2} (h : q.2 ≠ 0) : (nrm q).1 * q.2 = (nrm q).2 * q.1 := rat_cross h
theorem Sz.rN {z : Nat} {t b : Int} (h : Sz z t) : Sz z (Sw.rN t b) := by unfold Sw.rN; split <;> exact h.div
theorem Sz.rD {z : Nat} {t b : Int} (h : Sz z b) : Sz z (Sw.rD t b) := by unfold Sw.rD; split <;> exact h.div
end Sw
namespace L2
open PySem PySem.Spec PyProof.Rows
theorem app_at {H : Hp} {l : Addr} {xs : List V} {y : V} {Q : VK} (h : H l = some (.lst xs)) (hz : xs.length < 1000) (q : Q .non (upd H l (.lst (xs ++ [y])))) : rAppend (.ref l) [y] H Q := ⟨l, xs, y, rfl, rfl, h, line_lt hz, q⟩
theorem tyL_at {K : PySem.W.Frag} {H : Hp} {l : Addr} {xs : List V} (h : H l = some (.lst xs)) : tyV K "list" (.ref l) H := .inl ⟨rfl, _, .of h⟩
end L2
namespace L2
open PySem PySem.Spec PyProof.Rows
structure RoomN (k : Nat) (A : Around) : Prop where
  dp : A.depth + 3 * k + 5 < recursionLimit
  un : A.units + 16 * k + 200 < cLine
theorem Room.mark {j k : Nat} {A : Around} {h : Option Value} (r : Room k A) (hj : j ≤ k := by decide) : RoomN j (A.mark h) := ⟨by have := r.dp; show A.depth + 3 * j + 5 < _; omega, by have := r.un; show A.units + 16 * j + 200 < _; omega⟩
theorem RoomN.mono {j k : Nat} {A : Around} (r : RoomN k A) (h : j ≤ k) : RoomN j A := ⟨by have := r.dp; omega, by have := r.un; omega⟩
theorem RoomN.deeper {k : Nat} {A : Around} (r : RoomN (k + 1) A) (env : Env) : RoomN k (A.deeper env) := ⟨by have := r.dp; show A.depth + 1 + 3 * k + 5 < _; omega, by have := r.un; show A.units + 3 + 16 * k + 200 < _; omega⟩
theorem RoomN.units {k : Nat} {A : Around} (r : RoomN k A) : A.units + 64 < cLine := by have := r.un; omega
def tCallN (sp : Sp) (t : TA) : TE := fun σ H Q => t σ H fun vs H1 => sp vs H1 Q E0
section
variable {P : Program} {w : World} {X : Cx} {k : Nat} {x : Str} {ps : List Str} {sp : Sp} {p pos : Pos} {e : Expr} {es : List Expr} {t : TA}
end
end L2
namespace L2
open PySem PySem.Spec PyProof.Rows
theorem inst_at {K : PySem.W.Frag} {H : Hp} {e C : Addr} {dct : Option Addr} {fr : Bool} {c : V} {cv : Value} {b : Bool} {Q : VK} (he : H e = some (excO e C dct fr)) (hf : XFull H dct) (xc : XC K C) (hc : clsV c = some cv) (k : PySem.W.kitOne K (.ref C) cv = some b) (q : Q (.bl b) H) : rInstX K [.ref e, c] H Q :=
  ⟨e, C, dct, fr, c, cv, b, rfl, he, hf, xc, hc, k, q⟩
end L2
namespace L2
open PySem PySem.Spec PyProof.Rows
end L2
namespace L2
open PySem PySem.Spec PyProof.Rows
section
variable {X : Cx} {o value : Expr} {f : Str} {pos pos' : Pos} {ta tv : TE}
end
structure MkX (P : Program) (w : World) (K : PySem.W.Frag) (mg : Str → Option Value) (base : Heap) (CX : CXT) (k : Nat) (C : Addr) (ps : List Str) (sp : Sp) : Prop where
  ex : ∃ (f : Addr) (fd : FuncData), FnOk P w K mg base CX k f fd ps sp ∧ Binds K fd ps [] ∧ PySem.W.findIn K (.ref C) "__init__" = some (some (.ref f)) ∧ PySem.W.typeIn K (.ref f) = some (.type "function")
def tXmk1 (C : Addr) (sp : Sp) (t : TA) : TE := fun σ H Q => t σ H fun vs H1 => vs.length ≤ 1000 ∧ ∀ e, H1 e = none → sp (.ref e :: vs) (upd H1 e (excO e C none true)) (fun v H2 => v = .non ∧ Q (.ref e) H2) E0
end L2
namespace L2
open PySem PySem.Spec PyProof.Rows
structure SrcI (K : PySem.W.Frag) (C : Addr) (qual : Str) (st : Stmt) (ps : List Str) : Prop where
  ex : ∃ (f : Addr) (fd : FuncData), Fun K "__init__" qual st f fd ∧ Binds K fd ps [] ∧ PySem.W.findIn K (.ref C) "__init__" = some (some (.ref f)) ∧ PySem.W.typeIn K (.ref f) = some (.type "function")
theorem SrcI.ok {P : Program} {w : World} {K : PySem.W.Frag} {mg : Str → Option Value} {base : Heap} {CX : CXT} {C : Addr} {qual : Str} {st : Stmt} {N ps : List Str} {k : Nat} {sp : Sp} (F : SrcI K C qual st ps) (S : FnScope N ps (defScope st)) (len : ∀ vs H Q E, sp vs H Q E → vs.length = ps.length)
    (hbody : ∀ (f : Addr) (cdv : Value) (A : Around) (outer : List Env) (s : Shared) (H : Hp) (vs : List V) (Q : VK) (E : XK), Room k (A.deeper (envOfC qual (defScope st) s.heap.objs.size f cdv)) → sp vs H Q E →
      ∃ t, PSs (cxOf CX P w K mg base N qual (defScope st) f cdv A outer s H E).nox (defBody st) t ∧ t { nx := fun _ H' => Q .non H', rt := Q } (start N vs) H) : MkX P w K mg base CX (k + 1) C ps sp := by
  obtain ⟨f, fd, F, b, m, ty⟩ := F.ex
  obtain ⟨oc, od, kV, doc, pm, an, cdv, ct, osl, rfl, lk, hcd⟩ := F.ex
  exact ⟨f, _, fn_of lk hcd S len fun A outer s H vs Q E hr hsp => by
    obtain ⟨t, h, q⟩ := hbody f cdv A outer s H vs Q E hr hsp
    exact ⟨t, h.nox, q⟩, b, m, ty⟩
structure XNew (H H' : Hp) (e C d : Addr) (fs : List (Str × V)) : Prop where
  sm : Same H H'
  he : H' e = some (excO e C (some d) true)
  hd : H' d = some (xdO d fs)
  fe : H e = none
  fd : H d = none
  ne : d ≠ e
structure XHas (H : Hp) (e C : Addr) (fs : List (Str × V)) : Prop where
  ex : ∃ d fr, H e = some (excO e C (some d) fr) ∧ H d = some (xdO d fs)
theorem XNew.has {H H' : Hp} {e C d : Addr} {fs : List (Str × V)} (x : XNew H H' e C d fs) : XHas H' e C fs := ⟨d, true, x.he, x.hd⟩
theorem XHas.same {H H' : Hp} {e C : Addr} {fs : List (Str × V)} (x : XHas H e C fs) (s : Same H H') : XHas H' e C fs := by
  obtain ⟨d, fr, h1, h2⟩ := x.ex
  exact ⟨d, fr, s _ _ h1, s _ _ h2⟩
end L2
namespace L2
open PySem PySem.Spec PyProof.Rows
section
variable {X : Cx}
end
theorem Row.upd {H : Hp} {l f : Addr} {ps : List Addr} {qs : List Q4} {xs ys : List V} (R : Row H l ps qs) (hf : H f = some (.lst xs)) (ne : l ≠ f) : Row (L2.upd H f (.lst ys)) l ps qs :=
  ⟨by rw [upd_ne ne]; exact R.hl, R.r.keep fun p z e => by rw [upd_ne (ne_of e hf (by intro w; cases w))]; exact e⟩
theorem Row.ne {H : Hp} {l m : Addr} {ps : List Addr} {qs : List Q4} (R : Row H l ps qs) (h : H m = none) : l ≠ m := ne_of_none R.hl h
theorem Tups.app {H : Hp} {rs : List Addr} {ss : List Q4} (h2 : Tups H rs ss) : ∀ {ps : List Addr} {qs : List Q4}, Tups H ps qs → Tups H (ps ++ rs) (qs ++ ss)
  | _, _, Paired.nil => h2
  | _, _, Paired.cons a b => .cons a (Tups.app h2 b)
end L2
namespace Sw
open L2
def Fine (i : Nat) (b : Int) (q : Q4) : Prop := i < 60 ∧ 0 ≤ q.1 ∧ q.1 ≤ 1000000000000 ∧ 0 ≤ q.2.1 ∧ q.2.1 ≤ 11 ∧ 1 ≤ q.2.2.1 ∧ q.2.2.1 ≤ 1000000 ∧ 1 ≤ q.2.2.2 ∧ q.2.2.2 ≤ 1000000 ∧ b ≤ q.1
instance (i : Nat) (b : Int) (q : Q4) : Decidable (Fine i b q) := by unfold Fine; infer_instance
end Sw
namespace L2
open PySem PySem.Spec PyProof.Rows
def BindsV (K : PySem.W.Frag) (fd : FuncData) (ps : List Str) (dvs : List V) : Prop := ∃ ds, Vals dvs ds ∧ Binds K fd ps ds
theorem BindsV.nil {K : PySem.W.Frag} {fd : FuncData} {ps : List Str} (h : Binds K fd ps []) : BindsV K fd ps [] := ⟨[], .nil, h⟩
structure FunE (K : PySem.W.Frag) (x qual : Str) (st : Stmt) (f : Addr) (fd : FuncData) : Prop where
  ex : ∃ (oc : Value) (od : Option Addr) (dV kV doc pm : Value) (an : Option Addr) (cdv ct : Value) (osl : Array (Option Value)),
    fd = PySem.W.fnOf x qual (defArgs st) (defBody st) (defScope st) dV kV doc pm an cdv ct ∧ K.lookup f = some ⟨oc, od, .func fd, osl⟩ ∧ PySem.W.codeIn K cdv qual = true
theorem funE_mk {K : PySem.W.Frag} {x qual : Str} {st : Stmt} {f : Addr} {oc : Value} {od an : Option Addr} {osl : Array (Option Value)} {dV kV doc pm cdv ct : Value} (l : K.lookup f = some ⟨oc, od, .func (PySem.W.fnOf x qual (defArgs st) (defBody st) (defScope st) dV kV doc pm an cdv ct), osl⟩)
    (c : PySem.W.codeIn K cdv qual = true) : FunE K x qual st f (PySem.W.fnOf x qual (defArgs st) (defBody st) (defScope st) dV kV doc pm an cdv ct) := ⟨⟨oc, od, dV, kV, doc, pm, an, cdv, ct, osl, rfl, l, c⟩⟩
structure MethD (P : Program) (w : World) (K : PySem.W.Frag) (mg : Str → Option Value) (base : Heap) (CX : CXT) (k : Nat) (C : Addr) (m : Str) (ps : List Str) (dss : List (List V)) (sp : Sp) : Prop where
  ex : ∃ (f : Addr) (fd : FuncData), FnOk P w K mg base CX k f fd ps sp ∧ Meth K C m f ∧ ∀ dvs ∈ dss, BindsV K fd ps dvs
structure MkD (P : Program) (w : World) (K : PySem.W.Frag) (mg : Str → Option Value) (base : Heap) (CX : CXT) (k : Nat) (C : Addr) (ps : List Str) (dss : List (List V)) (sp : Sp) : Prop where
  ex : ∃ (f : Addr) (fd : FuncData), FnOk P w K mg base CX k f fd ps sp ∧ Mk K C f ∧ ∀ dvs ∈ dss, BindsV K fd ps dvs
structure SrcM (K : PySem.W.Frag) (C : Addr) (m qual : Str) (st : Stmt) (ps : List Str) (dss : List (List V)) : Prop where
  ex : ∃ (f : Addr) (fd : FuncData), FunE K m qual st f fd ∧ Meth K C m f ∧ ∀ dvs ∈ dss, BindsV K fd ps dvs
structure SrcK (K : PySem.W.Frag) (C : Addr) (qual : Str) (st : Stmt) (ps : List Str) (dss : List (List V)) : Prop where
  ex : ∃ (f : Addr) (fd : FuncData), FunE K "__init__" qual st f fd ∧ Mk K C f ∧ ∀ dvs ∈ dss, BindsV K fd ps dvs
section
variable {P : Program} {w : World} {K : PySem.W.Frag} {mg : Str → Option Value} {base : Heap} {CX : CXT} {C : Addr} {m qual : Str} {st : Stmt} {N ps : List Str} {dss : List (List V)} {k : Nat} {sp : Sp}
theorem SrcM.okN (F : SrcM K C m qual st ps dss) (S : FnScope N ps (defScope st)) (len : ∀ vs H Q E, sp vs H Q E → vs.length = ps.length)
    (hbody : ∀ (f : Addr) (cdv : Value) (A : Around) (outer : List Env) (s : Shared) (H : Hp) (vs : List V) (Q : VK) (E : XK), Room k (A.deeper (envOfC qual (defScope st) s.heap.objs.size f cdv)) → sp vs H Q E →
      ∃ t, PSs (cxOf CX P w K mg base N qual (defScope st) f cdv A outer s H E).nox (defBody st) t ∧ t { nx := fun _ H' => Q .non H', rt := Q } (start N vs) H) : MethD P w K mg base CX (k + 1) C m ps dss sp := by
  obtain ⟨f, fd, F, me, b⟩ := F.ex
  obtain ⟨oc, od, dV, kV, doc, pm, an, cdv, ct, osl, rfl, lk, hcd⟩ := F.ex
  exact ⟨f, _, fn_of lk hcd S len fun A outer s H vs Q E hr hsp => by
    obtain ⟨t, h, q⟩ := hbody f cdv A outer s H vs Q E hr hsp
    exact ⟨t, h.nox, q⟩, me, b⟩
theorem SrcM.okX (F : SrcM K C m qual st ps dss) (S : FnScope N ps (defScope st)) (len : ∀ vs H Q E, sp vs H Q E → vs.length = ps.length)
    (hbody : ∀ (f : Addr) (cdv : Value) (A : Around) (outer : List Env) (s : Shared) (H : Hp) (vs : List V) (Q : VK) (E : XK), Room k (A.deeper (envOfC qual (defScope st) s.heap.objs.size f cdv)) → sp vs H Q E →
      ∃ t, PSs (cxOf (CXX P w) P w K mg base N qual (defScope st) f cdv A outer s H E) (defBody st) t ∧ t { nx := fun _ H' => Q .non H', rt := Q } (start N vs) H) : MethD P w K mg base (CXX P w) (k + 1) C m ps dss sp := by
  obtain ⟨f, fd, F, me, b⟩ := F.ex
  obtain ⟨oc, od, dV, kV, doc, pm, an, cdv, ct, osl, rfl, lk, hcd⟩ := F.ex
  exact ⟨f, _, fn_of lk hcd S len fun A outer s H vs Q E hr hsp => hbody f cdv A outer s H vs Q E hr hsp, me, b⟩
theorem SrcK.okN (F : SrcK K C qual st ps dss) (S : FnScope N ps (defScope st)) (len : ∀ vs H Q E, sp vs H Q E → vs.length = ps.length)
    (hbody : ∀ (f : Addr) (cdv : Value) (A : Around) (outer : List Env) (s : Shared) (H : Hp) (vs : List V) (Q : VK) (E : XK), Room k (A.deeper (envOfC qual (defScope st) s.heap.objs.size f cdv)) → sp vs H Q E →
      ∃ t, PSs (cxOf CX P w K mg base N qual (defScope st) f cdv A outer s H E).nox (defBody st) t ∧ t { nx := fun _ H' => Q .non H', rt := Q } (start N vs) H) : MkD P w K mg base CX (k + 1) C ps dss sp := by
  obtain ⟨f, fd, F, me, b⟩ := F.ex
  obtain ⟨oc, od, dV, kV, doc, pm, an, cdv, ct, osl, rfl, lk, hcd⟩ := F.ex
  exact ⟨f, _, fn_of lk hcd S len fun A outer s H vs Q E hr hsp => by
    obtain ⟨t, h, q⟩ := hbody f cdv A outer s H vs Q E hr hsp
    exact ⟨t, h.nox, q⟩, me, b⟩
theorem SrcK.okX (F : SrcK K C qual st ps dss) (S : FnScope N ps (defScope st)) (len : ∀ vs H Q E, sp vs H Q E → vs.length = ps.length)
    (hbody : ∀ (f : Addr) (cdv : Value) (A : Around) (outer : List Env) (s : Shared) (H : Hp) (vs : List V) (Q : VK) (E : XK), Room k (A.deeper (envOfC qual (defScope st) s.heap.objs.size f cdv)) → sp vs H Q E →
      ∃ t, PSs (cxOf (CXX P w) P w K mg base N qual (defScope st) f cdv A outer s H E) (defBody st) t ∧ t { nx := fun _ H' => Q .non H', rt := Q } (start N vs) H) : MkD P w K mg base (CXX P w) (k + 1) C ps dss sp := by
  obtain ⟨f, fd, F, me, b⟩ := F.ex
  obtain ⟨oc, od, dV, kV, doc, pm, an, cdv, ct, osl, rfl, lk, hcd⟩ := F.ex
  exact ⟨f, _, fn_of lk hcd S len fun A outer s H vs Q E hr hsp => hbody f cdv A outer s H vs Q E hr hsp, me, b⟩
end
def tMethX (C : Addr) (m : Str) (sp : Sp) (dvs : List V) (Ek : XH) (ta : TE) (t : TA) : TE := fun σ H Q => ta σ H fun x H1 => ∃ a dx fs, x = .ref a ∧ H1 a = some (.ins C dx fs) ∧ fs.lookup m = none ∧
  t σ H1 fun vs H2 => sp (x :: (vs ++ dvs)) H2 Q (fun v d H' => Ek v d σ H')
def tMakeX (C : Addr) (sp : Sp) (dvs : List V) (Ek : XH) (t : TA) : TE := fun σ H Q => t σ H fun vs H1 => ∀ x dx, H1 x = none → H1 dx = none → dx ≠ x →
  sp (.ref x :: (vs ++ dvs)) (upd (upd H1 dx (.own x)) x (.ins C dx [])) (fun v H2 => v = .non ∧ Q (.ref x) H2) (fun v d H' => Ek v d σ H')
section
variable {X : Cx} {CX : CXT} {k : Nat} {f C : Addr} {fd : FuncData} {ps : List Str} {sp : Sp} {dvs : List V} {dss : List (List V)} {Ek : XH} {x m : Str} {p pos apos : Pos} {e o : Expr} {es : List Expr} {ta : TE} {t : TA}
theorem run_fnX {pins : List (Addr × Obj)} {σ : St} {H : Hp} {s : Shared} {Q : VK} {us : List Value} {vs : List V} (F : FnOk X.prog X.w X.K X.mg X.base CX k f fd ps sp) (hr : Room k X.A) (hb : BindsV X.K fd ps dvs) (hx : PassesX CX X Ek)
    (I : Inv X pins σ H s) (r : Vals vs us) (h : sp (vs ++ dvs) H Q (fun v d H' => Ek v d σ H')) : wpAny (model X.prog X.w) X.A (call (.ref f) us) (EP X pins σ Q) X.xe s := by
  obtain ⟨ds, hd, hb⟩ := hb
  have r2 : Vals (vs ++ dvs) (us ++ ds) := r.append hd
  have hl : (us ++ ds).length = ps.length := by rw [← r2.length]; exact F.len _ _ _ _ h
  refine wpAny_call (codeAny_mono (F.run X.A X.stack s H ⟨us, []⟩ (us ++ ds) (vs ++ dvs) Q _ hr I.env0 (hb s us I.kIn hl) r2 h) fun r s' hq => ?_)
  cases r with
  | error e => exact hx pins σ H s e s' I hq
  | ok fl =>
    cases fl with
    | ret u => exact I.after hq
    | next => exact False.elim hq
    | brk => exact False.elim hq
    | cont => exact False.elim hq
theorem pe_methX {pl : Sem Bool} (D : MethD X.prog X.w X.K X.mg X.base CX k C m ps dss sp) (hin : dvs ∈ dss) (c : Cls X.K C) (hr : Room k X.A) (hx : PassesX CX X Ek) (he : PE X o ta) (ha : PA X (e :: es) t)
    (hst : starEach (e :: es) X.env = (false, eval e X.env) :: starEach es X.env := by rfl) (hpl : (backTo pos (starEach es X.env)).any (·.1) = false := by rfl)
    (ht : eval (.Call (.Attribute o m apos) (e :: es) [] pos) X.env = (do
      let ov ← eval o X.env
      standAt apos.atName
      let (f, first) ← holding [ov] (getMethod ov m pl)
      callWith pos f first (backTo pos (starEach (e :: es) X.env)) (backToKw pos (keywordEach [] X.env))) := by rfl) :
    PE X (.Call (.Attribute o m apos) (e :: es) [] pos) (tMethX C m sp dvs Ek ta t) := by
  obtain ⟨f, fd, F, hm, hb⟩ := D.ex
  intro pins s σ H Q I h
  refine PySem.W.methodCall_KW (pl := pl) (thn (he pins s σ H _ I h) fun u s1 ⟨x, H1, I1, rx, a, dx, fs, ex, ea, l, q⟩ => ?_) ht
  subst ex
  obtain rfl : u = Value.ref a := rx
  refine getmeth_ok I1 ea c hm l ?_
  refine PySem.W.callWith_K (first := [.ref a]) (h₀ := X.base) I.ok.mod.kin hm.kp (thn (ha pos pins s1 σ H1 _ I1 q) fun us s2 ⟨vs, H2, I2, r, q2⟩ => ⟨I2.kIn, ?_⟩) hst hpl
  exact run_fnX (us := .ref a :: us) (vs := .ref a :: vs) F hr (hb _ hin) hx I2 (.cons rfl r) q2
theorem pe_methX0 {pl : Sem Bool} (D : MethD X.prog X.w X.K X.mg X.base CX k C m ps dss sp) (hin : dvs ∈ dss) (c : Cls X.K C) (hr : Room k X.A) (hx : PassesX CX X Ek) (he : PE X o ta)
    (ht : eval (.Call (.Attribute o m apos) [] [] pos) X.env = (do
      let ov ← eval o X.env
      standAt apos.atName
      let (f, first) ← holding [ov] (getMethod ov m pl)
      callWith pos f first (backTo pos (starEach [] X.env)) (backToKw pos (keywordEach [] X.env))) := by rfl) :
    PE X (.Call (.Attribute o m apos) [] [] pos) (tMethX C m sp dvs Ek ta tNil) := by
  obtain ⟨f, fd, F, hm, hb⟩ := D.ex
  intro pins s σ H Q I h
  refine PySem.W.methodCall_KW (pl := pl) (thn (he pins s σ H _ I h) fun u s1 ⟨x, H1, I1, rx, a, dx, fs, ex, ea, l, q⟩ => ?_) ht
  subst ex
  obtain rfl : u = Value.ref a := rx
  refine getmeth_ok I1 ea c hm l ?_
  exact PySem.W.callWith_K0 (first := [.ref a]) I1.kIn hm.kp (run_fnX (us := [.ref a]) (vs := [.ref a]) F hr (hb _ hin) hx I1 (.cons rfl .nil) q)
theorem run_makeX {pins : List (Addr × Obj)} {σ : St} {H : Hp} {s : Shared} {Q : VK} {us : List Value} {vs : List V} (M : Mk X.K C f) (F : FnOk X.prog X.w X.K X.mg X.base CX k f fd ps sp) (hr : Room (k + 1) X.A) (hb : BindsV X.K fd ps dvs)
    (hx : PassesX CX X Ek) (I : Inv X pins σ H s) (r : Vals vs us)
    (h : ∀ x dx, H x = none → H dx = none → dx ≠ x → sp (.ref x :: (vs ++ dvs)) (upd (upd H dx (.own x)) x (.ins C dx [])) (fun v H2 => v = .non ∧ Q (.ref x) H2) (fun v d H' => Ek v d σ H')) :
    wpAny (model X.prog X.w) X.A (call (.ref C) us) (EP X pins σ Q) X.xe s := by
  obtain ⟨ds, hd, hb⟩ := hb
  have hq := h (s.heap.objs.size + 1) s.heap.objs.size (I.hok.fresh (Nat.le_succ _)) (I.hok.fresh (Nat.le_refl _)) (Nat.ne_of_lt (Nat.lt_succ_self _))
  have I2 := Inv.made (C := C) I
  have r2 : Vals (V.ref (s.heap.objs.size + 1) :: (vs ++ dvs)) (Value.ref (s.heap.objs.size + 1) :: (us ++ ds)) := .cons rfl (r.append hd)
  have hl : (Value.ref (s.heap.objs.size + 1) :: us ++ ds).length = ps.length := by
    have e := r2.length
    rw [F.len _ _ _ _ hq] at e
    exact e.symm
  refine wpAny_call (make_map (f := f) I.kIn M.makes M.init (beq_iff_eq.mp M.fn) (codeAny_mono (F.run _ X.stack _ _ ⟨Value.ref (s.heap.objs.size + 1) :: us, []⟩ (Value.ref (s.heap.objs.size + 1) :: (us ++ ds)) _ _ _ (hr.make C us [])
    (I2.env0.make C us []) (hb _ (Value.ref (s.heap.objs.size + 1) :: us) I2.kIn hl) r2 hq) fun r s' hq' => ?_))
  cases r with
  | error e => exact hx pins σ _ _ e s' I2 hq'
  | ok fl =>
    cases fl with
    | ret u =>
      obtain ⟨v, H', I3, rv, ev, q3⟩ := I2.after hq'
      subst ev
      exact ⟨rv, ⟨V.ref (s.heap.objs.size + 1), H', I3, rfl, q3⟩⟩
    | next => exact False.elim hq'
    | brk => exact False.elim hq'
    | cont => exact False.elim hq'
theorem pe_makeX (D : MkD X.prog X.w X.K X.mg X.base CX k C ps dss sp) (hin : dvs ∈ dss) (hr : Room (k + 1) X.A) (hx : PassesX CX X Ek) (hg : Gl X x) (hm : X.mg x = some (.ref C))
    (ha : PA X (e :: es) t) (hdb : (x == ("__debug__" : Str)) = false := by decide) (he : starEach (e :: es) X.env = (false, eval e X.env) :: starEach es X.env := by rfl) (hpl : (backTo pos (starEach es X.env)).any (·.1) = false := by rfl) :
    PE X (.Call (.Name x p) (e :: es) [] pos) (tMakeX C sp dvs Ek t) := by
  obtain ⟨f, fd, F, M, hb⟩ := D.ex
  intro pins s σ H Q I h
  refine wpAny_Call_Name_kw (ld_glob I hg hm ?_ hdb)
  refine PySem.W.callWith_K (h₀ := X.base) I.ok.mod.kin M.kp (thn (ha pos pins s σ H _ I h) fun us s1 ⟨vs, H1, I1, r, q⟩ => ⟨I1.kIn, ?_⟩) he hpl
  exact run_makeX M F hr (hb _ hin) hx I1 r q
theorem pe_makeX0 (D : MkD X.prog X.w X.K X.mg X.base CX k C ps dss sp) (hin : dvs ∈ dss) (hr : Room (k + 1) X.A) (hx : PassesX CX X Ek) (hg : Gl X x) (hm : X.mg x = some (.ref C))
    (hdb : (x == ("__debug__" : Str)) = false := by decide) : PE X (.Call (.Name x p) [] [] pos) (tMakeX C sp dvs Ek tNil) := by
  obtain ⟨f, fd, F, M, hb⟩ := D.ex
  intro pins s σ H Q I h
  refine wpAny_Call_Name_kw (ld_glob I hg hm ?_ hdb)
  exact PySem.W.callWith_K0 I.kIn M.kp (run_makeX (us := []) M F hr (hb _ hin) hx I .nil h)
end
section
variable {X : Cx}
end
end L2
namespace L2
open PySem PySem.Spec PyProof.Rows
def Itrs (lo c : Int) (n : Nat) : It := ⟨fun i _ => i < n, fun i H x H' => H' = H ∧ x = .int (lo + i * c), fun i _ => n ≤ i⟩
structure RngOk (i j c : Int) (n : Nat) : Prop where
  nz : c ≠ 0
  np : Builtin.divisionGoesByPylong (j - i) c = false
  sm : Builtin.Range.small i j c = true
  eq : (n : Int) = Builtin.Range.rangeSize i j c
def iRng3 (ta : TA) : TI := fun σ H R => ta σ H fun vs H1 => ∃ i j c n, vs = [.int i, .int j, .int c] ∧ RngOk i j c n ∧ R (Itrs i c n) H1
section
variable {X : Cx} {tg : Expr}
end
theorem for_step {wi : TI} {g : TG} {tb : TS} {D : Ends} {σ : St} {H : Hp} (h : ∀ Z : It → Hp → Prop, (∀ J H1, (∃ W : Nat → Nat → St → Hp → Prop, (∃ m, W 0 m σ H1) ∧ ∀ i m σ H, W i m σ H →
  (J.stop i H ∧ D.nx σ H) ∨ (J.go i H ∧ ∃ N : St → Hp → Prop, (∀ σ' H', N σ' H' → ∃ m', m' < m ∧ W (i + 1) m' σ' H') ∧ ∀ x H', J.yld i H x H' → g x σ H' fun σ2 H2 => tb { D with nx := N, ct := N, bk := D.nx } σ2 H2)) → Z J H1) → wi σ H Z) : tFor wi g tb D σ H := h _ fun _ _ x => x
section
variable {X : Cx}
end
end L2
namespace Sw
theorem q_cast_ne {d : Int} (h : d ≠ 0) : (d : Rat) ≠ 0 := by
  intro z
  exact h (Rat.intCast_inj.mp (by rw [z]; rfl))
theorem q_cast_pos {d : Int} (h : 0 < d) : (0 : Rat) < (d : Rat) := by
  have : ((0 : Int) : Rat) < (d : Rat) := Rat.intCast_lt_intCast.mpr h
  exact this
theorem q_self (q : Rat) : (q.num : Rat) / ((q.den : Int) : Rat) = q := by
  rw [← Rat.divInt_eq_div]; exact Rat.num_divInt_den q
theorem q_den_pos (q : Rat) : 0 < (q.den : Int) := by
  have := q.den_nz
  omega
theorem q_den_ne (q : Rat) : (q.den : Int) ≠ 0 := by
  have := q.den_nz
  omega
theorem q_num (q : Rat) : (q.num : Rat) = q * ((q.den : Int) : Rat) := by
  have h := q_self q
  have d := q_cast_ne (q_den_ne q)
  grind
theorem q_low (q : Rat) : dv q.num q.den = 1 := by
  unfold dv
  have := q.reduced
  unfold Nat.Coprime at this
  show ((Nat.gcd q.num.natAbs (q.den : Int).natAbs : Nat) : Int) = 1
  rw [Int.natAbs_natCast, this]
  rfl
theorem q_fr (q : Rat) : Fr q.num q.den := ⟨q_den_pos q, q_low q⟩
theorem fr_q {n d : Int} (f : Fr n d) : ((n : Rat) / (d : Rat)).num = n ∧ ((((n : Rat) / (d : Rat)).den : Nat) : Int) = d := by
  have hd : d ≠ 0 := by have := f.pos; omega
  refine Fr.uniq (q_fr _) f ?_
  have h := q_num ((n : Rat) / (d : Rat))
  generalize hq : (n : Rat) / (d : Rat) = q at h ⊢
  have e : (n : Rat) = q * d := by have := q_cast_ne hd; grind
  have : ((q.num * d : Int) : Rat) = ((n * (q.den : Int) : Int) : Rat) := by
    rw [Rat.intCast_mul, Rat.intCast_mul]
    grind
  exact Rat.intCast_inj.mp this
theorem q_cross {q : Rat} {n d : Int} (hd : d ≠ 0) (h : q = (n : Rat) / (d : Rat)) : q.num * d = (q.den : Int) * n := by
  have h1 := q_cast_ne hd
  have : ((q.num * d : Int) : Rat) = (((q.den : Int) * n : Int) : Rat) := by
    rw [Rat.intCast_mul, Rat.intCast_mul, q_num]
    grind
  exact Rat.intCast_inj.mp this
structure SzQ (z : Nat) (q : Rat) : Prop where
  n : Sz z q.num
  d : Sz z (q.den : Int)
theorem SzQ.mono {m n : Nat} {q : Rat} (h : SzQ m q) (k : m ≤ n) : SzQ n q := ⟨h.n.mono k, h.d.mono k⟩
theorem cop_dvd' {n d x : Int} (h : dv n d = 1) (q : n ∣ d * x) : n ∣ x := cop_dvd (by rw [dv_comm]; exact h) q
theorem SzQ.of {z : Nat} {q : Rat} {n d : Int} (hd : d ≠ 0) (h : q = (n : Rat) / (d : Rat)) (s1 : Sz z n) (s2 : Sz z d) : SzQ z q := by
  have c := q_cross hd h
  refine ⟨?_, ?_⟩
  · by_cases hn : n = 0
    · subst hn
      rw [Int.mul_zero] at c
      have : q.num = 0 := by
        rcases Int.mul_eq_zero.mp c with z | z
        · exact z
        · exact absurd z hd
      rw [this]; exact Sz.zero z
    · exact s1.dvd (cop_dvd' (q_low q) ⟨d, c.symm⟩) hn
  · exact s2.dvd (cop_dvd (q_low q) ⟨n, c⟩) hd
theorem SzQ.int {z : Nat} {n : Int} (h : Sz (z + 1) n) : SzQ (z + 1) (n : Rat) := ⟨by rw [Rat.num_intCast]; exact h, by rw [Rat.den_intCast]; exact Sz.one z⟩
theorem sub_q (a b : Rat) : ((a.num * (b.den : Int) - b.num * (a.den : Int) : Int) : Rat) / (((a.den : Int) * (b.den : Int) : Int) : Rat) = a - b := by
  rw [Rat.intCast_sub, Rat.intCast_mul, Rat.intCast_mul, Rat.intCast_mul, q_num a, q_num b]
  have h1 := q_cast_ne (q_den_ne a)
  have h2 := q_cast_ne (q_den_ne b)
  grind
theorem mul_q (a b : Rat) : ((a.num * b.num : Int) : Rat) / (((a.den : Int) * (b.den : Int) : Int) : Rat) = a * b := by
  rw [Rat.intCast_mul, Rat.intCast_mul, q_num a, q_num b]
  have h1 := q_cast_ne (q_den_ne a)
  have h2 := q_cast_ne (q_den_ne b)
  grind
theorem div_q (a b : Rat) (hb : b.num ≠ 0) : ((a.num * (b.den : Int) : Int) : Rat) / (((a.den : Int) * b.num : Int) : Rat) = a / b := by
  rw [Rat.intCast_mul, Rat.intCast_mul, q_num a, q_num b]
  have h1 := q_cast_ne (q_den_ne a)
  have h2 := q_cast_ne (q_den_ne b)
  have h3 := q_cast_ne hb
  rw [q_num b] at h3
  grind
theorem SzQ.sub {m n : Nat} {a b : Rat} (h : SzQ m a) (k : SzQ n b) : SzQ (m + n + 1) (a - b) := by
  refine .of (Int.mul_ne_zero (q_den_ne a) (q_den_ne b)) (sub_q a b).symm ?_ ((h.d.mul k.d).mono (by omega))
  exact (h.n.mul k.d).sub ((k.n.mul h.d).mono (by omega))
theorem SzQ.mul {m n : Nat} {a b : Rat} (h : SzQ m a) (k : SzQ n b) : SzQ (m + n) (a * b) :=
  .of (Int.mul_ne_zero (q_den_ne a) (q_den_ne b)) (mul_q a b).symm (h.n.mul k.n) (h.d.mul k.d)
theorem SzQ.div {m n : Nat} {a b : Rat} (hb : b.num ≠ 0) (h : SzQ m a) (k : SzQ n b) : SzQ (m + n) (a / b) :=
  .of (Int.mul_ne_zero (q_den_ne a) hb) (div_q a b hb).symm (h.n.mul k.d) (h.d.mul k.n)
end Sw
namespace L2
def fq (q : Rat) : List V := [.int q.num, .int (q.den : Int)]
theorem fq_nrm {t b : Int} (hb : b ≠ 0) : f2 (Sw.nrm (t, b)) = fq ((t : Rat) / (b : Rat)) := by
  have f := Sw.nrm_fr (q := (t, b)) hb
  have c := Sw.nrm_cross (q := (t, b)) hb
  have e : ((Sw.nrm (t, b)).1 : Rat) / ((Sw.nrm (t, b)).2 : Rat) = (t : Rat) / (b : Rat) := by
    have h1 := Sw.q_cast_ne hb
    have h2 : (((Sw.nrm (t, b)).2 : Int) : Rat) ≠ 0 := Sw.q_cast_ne (by have := f.pos; omega)
    have c' : (((Sw.nrm (t, b)).1 * b : Int) : Rat) = (((Sw.nrm (t, b)).2 * t : Int) : Rat) := by rw [c]
    rw [Rat.intCast_mul, Rat.intCast_mul] at c'
    grind
  have g := Sw.fr_q f
  rw [e] at g
  unfold f2 fq
  rw [g.1, g.2]
end L2
namespace Sw
def lvl (d : Int) (r : Rat) (since : Int) (left : Rat) (at_ : Int) : Rat := min (left + r * ((at_ - since : Int) : Rat)) (d : Rat)
theorem SzQ.min {z : Nat} {a b : Rat} (ha : SzQ z a) (hb : SzQ z b) : SzQ z (min a b) := by
  rw [Rat.min_def]
  split
  · exact ha
  · exact hb
end Sw
namespace L2
open PySem PySem.Spec PyProof.Rows
def But (p : Addr) (H H' : Hp) : Prop := ∀ b o, b ≠ p → H b = some o → H' b = some o
theorem Same.but {p : Addr} {H H' : Hp} (h : Same H H') : But p H H' := fun b o _ e => h b o e
theorem But.trans {p : Addr} {H H1 H2 : Hp} (a : But p H H1) (b : But p H1 H2) : But p H H2 := fun c o n h => b c o n (a c o n h)
theorem but_upd {p : Addr} {H : Hp} {o : HO} : But p H (upd H p o) := fun b u n e => by rw [upd_ne n]; exact e
theorem But.seq {K : PySem.W.Frag} {p : Addr} {H H' : Hp} {a C dx : Addr} {fs : List (Str × V)} {xs : List V} (e : But p H H') (hp : H p = some (.ins C dx fs)) (h : SqL K H a xs) : SqL K H' a xs := by
  rcases h with (h | ⟨o, h⟩) | h
  · exact .inl (.inl (e _ _ (ne_of h hp (by intro w; cases w)) h))
  · exact .inl (.inr ⟨o, e _ _ (ne_of h hp (by intro w; cases w)) h⟩)
  · exact .inr h
theorem But.tup {p : Addr} {H H' : Hp} {a C dx : Addr} {fs : List (Str × V)} {xs : List V} (e : But p H H') (hp : H p = some (.ins C dx fs)) (h : H a = some (.tup xs)) : H' a = some (.tup xs) := e _ _ (ne_of h hp (by intro w; cases w)) h
theorem putF_len : ∀ {fs : List (Str × V)} {f : Str} {v w : V}, fs.lookup f = some w → (putF f v fs).length = fs.length
  | [], f, v, w, h => by cases h
  | (g, x) :: r, f, v, w, h => by
    unfold putF
    by_cases e : g = f
    · rw [if_pos e]; rfl
    · rw [if_neg e]
      have hb : (f == g) = false := beq_eq_false_iff_ne.mpr fun z => e z.symm
      simp only [List.lookup, hb] at h
      show (putF f v r).length + 1 = r.length + 1
      rw [putF_len h]
theorem putF_len' : ∀ {fs : List (Str × V)} {f : Str} {v : V}, (putF f v fs).length ≤ fs.length + 1
  | [], f, v => Nat.le_refl _
  | (g, x) :: r, f, v => by
    unfold putF
    by_cases e : g = f
    · rw [if_pos e]; exact Nat.le_succ _
    · rw [if_neg e]
      show (putF f v r).length + 1 ≤ r.length + 1 + 1
      have := putF_len' (fs := r) (f := f) (v := v)
      omega
structure FB (fs : List (Str × V)) (d : Int) (pr : Addr) (s : Int) (pl : Addr) : Prop where
  dep : fs.lookup ("depth" : Str) = some (.int d)
  rat : fs.lookup ("rate" : Str) = some (.ref pr)
  sin : fs.lookup ("since" : Str) = some (.int s)
  lef : fs.lookup ("left" : Str) = some (.ref pl)
  no : ∀ m : Str, ¬ m = "depth" → ¬ m = "rate" → ¬ m = "since" → ¬ m = "left" → fs.lookup m = none
  len : fs.length < 900
theorem FB.mk0 (d : Int) (pr : Addr) (s : Int) (pl : Addr) : FB (putF "left" (.ref pl) (putF "since" (.int s) (putF "rate" (.ref pr) (putF "depth" (.int d) [])))) d pr s pl := by
  have n1 : ¬ (("depth" : Str) = "left") := by decide +kernel
  have n2 : ¬ (("depth" : Str) = "since") := by decide +kernel
  have n3 : ¬ (("depth" : Str) = "rate") := by decide +kernel
  have n4 : ¬ (("rate" : Str) = "left") := by decide +kernel
  have n5 : ¬ (("rate" : Str) = "since") := by decide +kernel
  have n6 : ¬ (("since" : Str) = "left") := by decide +kernel
  refine ⟨?_, ?_, ?_, ?_, fun m h1 h2 h3 h4 => ?_, ?_⟩
  · rw [lookup_putF, if_neg n1, lookup_putF, if_neg n2, lookup_putF, if_neg n3, lookup_putF, if_pos rfl]
  · rw [lookup_putF, if_neg n4, lookup_putF, if_neg n5, lookup_putF, if_pos rfl]
  · rw [lookup_putF, if_neg n6, lookup_putF, if_pos rfl]
  · rw [lookup_putF, if_pos rfl]
  · rw [lookup_putF, if_neg h4, lookup_putF, if_neg h3, lookup_putF, if_neg h2, lookup_putF, if_neg h1]; rfl
  · have a1 := putF_len' (fs := []) (f := "depth") (v := .int d)
    have a2 := putF_len' (fs := putF "depth" (.int d) []) (f := "rate") (v := .ref pr)
    have a3 := putF_len' (fs := putF "rate" (.ref pr) (putF "depth" (.int d) [])) (f := "since") (v := .int s)
    have a4 := putF_len' (fs := putF "since" (.int s) (putF "rate" (.ref pr) (putF "depth" (.int d) []))) (f := "left") (v := .ref pl)
    simp only [List.length_nil] at a1
    omega
structure Bk (C : Addr) (H : Hp) (p : Addr) (d : Int) (r : Rat) (s : Int) (l : Rat) : Prop where
  ex : ∃ dx fs pr pl, H p = some (.ins C dx fs) ∧ FB fs d pr s pl ∧ H pr = some (.tup (fq r)) ∧ H pl = some (.tup (fq l))
theorem Bk.same {C : Addr} {H H' : Hp} {p : Addr} {d : Int} {r : Rat} {s : Int} {l : Rat} (b : Bk C H p d r s l) (h : Same H H') : Bk C H' p d r s l := by
  obtain ⟨dx, fs, pr, pl, h1, h2, h3, h4⟩ := b.ex
  exact ⟨dx, fs, pr, pl, h _ _ h1, h2, h _ _ h3, h _ _ h4⟩
theorem Bk.but {C C' : Addr} {H H' : Hp} {p q dx' : Addr} {fs' : List (Str × V)} {d : Int} {r : Rat} {s : Int} {l : Rat} (b : Bk C H p d r s l) (h : But q H H') (hq : H q = some (.ins C' dx' fs')) (n : p ≠ q) : Bk C H' p d r s l := by
  obtain ⟨dx, fs, pr, pl, h1, h2, h3, h4⟩ := b.ex
  exact ⟨dx, fs, pr, pl, h _ _ n h1, h2, h.tup hq h3, h.tup hq h4⟩
end L2
namespace L2
open PySem PySem.Spec PyProof.Rows
def rFld (K : PySem.W.Frag) (f : Str) (x : V) (H : Hp) (Q : VK) : Prop := ∃ a C dx fs v, x = .ref a ∧ H a = some (.ins C dx fs) ∧ Cls K C ∧ NoAttr K C f ∧ fs.lookup f = some v ∧ Q v H
theorem tFld_eq {K : PySem.W.Frag} {ta : TE} {f : Str} {σ : St} {H : Hp} {Q : VK} : tFld K ta f σ H Q = ta σ H fun x H1 => rFld K f x H1 Q := rfl
theorem fldR_at {K : PySem.W.Frag} {f : Str} {a C dx : Addr} {fs : List (Str × V)} {v : V} {H : Hp} {Q : VK} (h : H a = some (.ins C dx fs)) (c : Cls K C) (n : NoAttr K C f) (l : fs.lookup f = some v) (q : Q v H) : rFld K f (.ref a) H Q := ⟨a, C, dx, fs, v, rfl, h, c, n, l, q⟩
def rSet (K : PySem.W.Frag) (f : Str) (y x : V) (H : Hp) (Z : Hp → Prop) : Prop := ∃ a C dx fs, x = .ref a ∧ H a = some (.ins C dx fs) ∧ Cls K C ∧ NoAttr K C f ∧ fs.length < 1000 ∧ Z (upd H a (.ins C dx (putF f y fs)))
theorem sFld_eq {K : PySem.W.Frag} {ta tv : TE} {f : Str} {D : Ends} {σ : St} {H : Hp} : sFld K ta tv f D σ H = tv σ H fun y H1 => ta σ H1 fun x H2 => rSet K f y x H2 (D.nx σ) := rfl
theorem set_at {K : PySem.W.Frag} {f : Str} {y : V} {a C dx : Addr} {fs : List (Str × V)} {H : Hp} {Z : Hp → Prop} (h : H a = some (.ins C dx fs)) (c : Cls K C) (n : NoAttr K C f) (l : fs.length < 1000) (q : Z (upd H a (.ins C dx (putF f y fs)))) : rSet K f y (.ref a) H Z := ⟨a, C, dx, fs, rfl, h, c, n, l, q⟩
def rMeth (C : Addr) (m : Str) (x : V) (H : Hp) (Z : Prop) : Prop := ∃ a dx fs, x = .ref a ∧ H a = some (.ins C dx fs) ∧ fs.lookup m = none ∧ Z
theorem tMethX_eq {C : Addr} {m : Str} {sp : Sp} {dvs : List V} {Ek : XH} {ta : TE} {t : TA} {σ : St} {H : Hp} {Q : VK} :
    tMethX C m sp dvs Ek ta t σ H Q = ta σ H fun x H1 => rMeth C m x H1 (t σ H1 fun vs H2 => sp (x :: (vs ++ dvs)) H2 Q (fun v d H' => Ek v d σ H')) := by
  unfold tMethX rMeth
  rfl
theorem meth_at {C : Addr} {m : Str} {a dx : Addr} {fs : List (Str × V)} {H : Hp} {Z : Prop} (h : H a = some (.ins C dx fs)) (l : fs.lookup m = none) (z : Z) : rMeth C m (.ref a) H Z := ⟨a, dx, fs, rfl, h, l, z⟩
theorem same_make {H : Hp} {x dx C : Addr} (h1 : H x = none) (h2 : H dx = none) : Same H (upd (upd H dx (.own x)) x (.ins C dx [])) := fun b o e => by
  rw [upd_ne (ne_of_none e h1), upd_ne (ne_of_none e h2)]
  exact e
theorem But.same {x : Addr} {H H1 H' : Hp} (b : But x H1 H') (s : Same H H1) (h : H x = none) : Same H H' := fun c o e => b c o (ne_of_none e h) (s c o e)
end L2
namespace L2
open PySem PySem.Spec PyProof.Rows
theorem nx_step {t : TS} {D : Ends} {σ : St} {H : Hp} (h : ∀ R : St → Hp → Prop, (∀ σ H, D.nx σ H → R σ H) → t { D with nx := R } σ H) : t D σ H := h D.nx fun _ _ x => x
structure At (C : Addr) (H : Hp) (p : Addr) (d : Int) (r : Rat) (t level : Int) : Prop where
  ex : ∃ s n : Int, Bk C H p d r s ((n : Rat) / ((r.den : Int) : Rat)) ∧ 0 ≤ n ∧ n ≤ d * (r.den : Int) ∧ 0 ≤ s ∧ s ≤ t ∧ Sw.lvl d r s ((n : Rat) / ((r.den : Int) : Rat)) t = (level : Rat) / ((r.den : Int) : Rat)
structure Bd (d : Int) (r : Rat) : Prop where
  d1 : 1 ≤ d
  d2 : d ≤ 1000000000000
  r0 : 0 ≤ r
  rz : Sw.SzQ 70 r
theorem At.same {C : Addr} {H H' : Hp} {p : Addr} {d : Int} {r : Rat} {t level : Int} (a : At C H p d r t level) (h : Same H H') : At C H' p d r t level := by
  obtain ⟨s, n, B, x⟩ := a.ex
  exact ⟨s, n, B.same h, x⟩
theorem At.init {C : Addr} {H : Hp} {p : Addr} {d : Int} {r : Rat} {s : Int} (B : Bk C H p d r s (d : Rat)) (bd : Bd d r) (s0 : 0 ≤ s) : At C H p d r s (d * (r.den : Int)) := by
  have dn := Sw.q_cast_ne (Sw.q_den_ne r)
  have e : (d : Rat) = ((d * (r.den : Int) : Int) : Rat) / ((r.den : Int) : Rat) := by
    rw [Rat.intCast_mul]
    grind
  rw [e] at B
  have d1 := bd.d1
  refine ⟨s, _, B, Int.mul_nonneg (by omega) (Int.le_of_lt (Sw.q_den_pos r)), Int.le_refl _, s0, Int.le_refl _, ?_⟩
  rw [← e]
  unfold Sw.lvl
  rw [Int.sub_self, Rat.min_def]
  have : ((0 : Int) : Rat) = 0 := rfl
  rw [this]
  grind
theorem At.ins {C : Addr} {H : Hp} {p : Addr} {d : Int} {r : Rat} {t level : Int} (a : At C H p d r t level) : ∃ dx fs pr s pl, H p = some (.ins C dx fs) ∧ FB fs d pr s pl ∧ H pr = some (.tup (fq r)) := by
  obtain ⟨s, n, B, _⟩ := a.ex
  obtain ⟨dx, fs, pr, pl, h1, h2, h3, h4⟩ := B.ex
  exact ⟨dx, fs, pr, s, pl, h1, h2, h3⟩
end L2
namespace L2
open PySem PySem.Spec PyProof.Rows
end L2
namespace Sw
end Sw
namespace L2
open PySem PySem.Spec PyProof.Rows
end L2
namespace L2
open PySem PySem.Spec PyProof.Rows
section
variable {κ : Type} [DecidableEq κ]
def valV (kvs : List (κ × V)) (k : κ) : Option V := (kvs.find? fun kv => decide (kv.1 = k)).map (·.2)
def putK (kvs : List (κ × V)) (k : κ) (v : V) : List (κ × V) :=
  if (kvs.any fun kv => decide (kv.1 = k)) = true then kvs.map (fun kv => if kv.1 = k then (kv.1, v) else kv) else kvs ++ [(k, v)]
def dropK (kvs : List (κ × V)) (k : κ) : List (κ × V) := kvs.filter fun kv => decide (kv.1 ≠ k)
theorem valV_pos {p : κ × V} {r : List (κ × V)} {k : κ} (e : p.1 = k) : valV (p :: r) k = some p.2 := by simp [valV, List.find?_cons, e]
theorem valV_neg {p : κ × V} {r : List (κ × V)} {k : κ} (e : ¬ p.1 = k) : valV (p :: r) k = valV r k := by simp [valV, List.find?_cons, e]
theorem valV_any (k : κ) : ∀ kvs : List (κ × V), (kvs.any fun kv => decide (kv.1 = k)) = (valV kvs k).isSome
  | [] => rfl
  | p :: r => by
    rw [List.any_cons]
    by_cases e : p.1 = k
    · simp only [valV_pos e, decide_eq_true e, Bool.true_or, Option.isSome_some]
    · rw [valV_neg e, decide_eq_false e, Bool.false_or]; exact valV_any k r
theorem valV_map (k j : κ) (y : V) : ∀ kvs : List (κ × V), valV (kvs.map fun kv => if kv.1 = k then (kv.1, y) else kv) j = (valV kvs j).map fun x => if j = k then y else x
  | [] => rfl
  | p :: r => by
    have ih := valV_map k j y r
    rw [List.map_cons]
    by_cases h : p.1 = k
    · rw [if_pos h]
      by_cases e : p.1 = j
      · rw [valV_pos (p := (p.1, y)) e, valV_pos e, Option.map_some, if_pos (e.symm.trans h)]
      · rw [valV_neg (p := (p.1, y)) e, valV_neg e, ih]
    · rw [if_neg h]
      by_cases e : p.1 = j
      · rw [valV_pos (p := p) e, valV_pos e, Option.map_some, if_neg (fun z => h (e.trans z))]
      · rw [valV_neg (p := p) e, valV_neg e, ih]
theorem valV_snoc (k j : κ) (y : V) : ∀ kvs : List (κ × V), valV kvs k = none → valV (kvs ++ [(k, y)]) j = if j = k then some y else valV kvs j
  | [], _ => by
    by_cases e : k = j
    · rw [if_pos e.symm]; exact valV_pos (p := (k, y)) e
    · rw [if_neg (fun z => e z.symm)]; exact valV_neg (p := (k, y)) e
  | p :: r, hn => by
    rw [List.cons_append]
    have hk : ¬ p.1 = k := fun z => by rw [valV_pos z] at hn; cases hn
    rw [valV_neg hk] at hn
    have ih := valV_snoc k j y r hn
    by_cases e : p.1 = j
    · rw [valV_pos e, valV_pos e, if_neg (fun z => hk (e.trans z))]
    · rw [valV_neg e, valV_neg e, ih]
theorem valV_put (kvs : List (κ × V)) (k j : κ) (y : V) : valV (putK kvs k y) j = if j = k then some y else valV kvs j := by
  unfold putK
  by_cases a : (kvs.any fun kv => decide (kv.1 = k)) = true
  · rw [if_pos a, valV_map]
    rw [valV_any] at a
    by_cases e : j = k
    · obtain ⟨x, hx⟩ := Option.isSome_iff_exists.mp a
      rw [if_pos e, e, hx, Option.map_some, if_pos rfl]
    · rw [if_neg e]
      cases valV kvs j with
      | none => rfl
      | some x => rw [Option.map_some, if_neg e]
  · rw [if_neg a]
    refine valV_snoc k j y kvs ?_
    rw [valV_any] at a
    cases q : valV kvs k with
    | none => rfl
    | some x => rw [q] at a; exact (a rfl).elim
theorem length_putK (kvs : List (κ × V)) (k : κ) (v : V) : (putK kvs k v).length ≤ kvs.length + 1 := by
  unfold putK
  split
  · rw [List.length_map]; omega
  · rw [List.length_append, List.length_cons, List.length_nil]; omega
theorem putK_new {kvs : List (κ × V)} {k : κ} (v : V) (h : valV kvs k = none) : putK kvs k v = kvs ++ [(k, v)] := by
  unfold putK
  rw [valV_any, h]
  exact if_neg (by decide)
theorem RelO.isSome_eq {o : Option V} {u : Option Value} (r : RelO o u) : o.isSome = u.isSome := by
  cases o with
  | none => cases u with
    | none => rfl
    | some _ => exact (show False from r).elim
  | some _ => cases u with
    | none => exact (show False from r).elim
    | some _ => rfl
theorem RelO.getD {o : Option V} {u : Option Value} {d : V} {d' : Value} (r : RelO o u) (rd : RelV d d') : RelV (o.getD d) (u.getD d') := by
  cases o with
  | none => cases u with
    | none => exact rd
    | some _ => exact (show False from r).elim
  | some _ => cases u with
    | none => exact (show False from r).elim
    | some _ => exact r
theorem KV.val {kvs : List (κ × V)} {vs : List (κ × Value)} (r : KV kvs vs) (k : κ) : RelO (valV kvs k) (valueAt vs k) := by
  unfold KV at r
  induction r with
  | nil => exact True.intro
  | @cons p q ps qs h t ih =>
    obtain ⟨h1, h2⟩ := h
    by_cases e : p.1 = k
    · have e' : q.1 = k := h1.symm.trans e
      have b : valueAt (q :: qs) k = some q.2 := by simp [valueAt, List.find?_cons, e']
      rw [valV_pos e, b]; exact h2
    · have e' : ¬ q.1 = k := fun z => e (h1.trans z)
      have b : valueAt (q :: qs) k = valueAt qs k := by simp [valueAt, List.find?_cons, e']
      rw [valV_neg e, b]; exact ih
theorem KV.any {kvs : List (κ × V)} {vs : List (κ × Value)} (r : KV kvs vs) (k : κ) : (kvs.any fun kv => decide (kv.1 = k)) = vs.any fun kv => decide (kv.1 = k) := by
  unfold KV at r
  induction r with
  | nil => rfl
  | cons h t ih => rw [List.any_cons, List.any_cons, ih, h.1]
theorem KV.repl {kvs : List (κ × V)} {vs : List (κ × Value)} (r : KV kvs vs) (k : κ) {y : V} {u : Value} (ry : RelV y u) :
    KV (kvs.map fun kv => if kv.1 = k then (kv.1, y) else kv) (vs.map fun kv => if kv.1 = k then (kv.1, u) else kv) := by
  unfold KV at r ⊢
  induction r with
  | nil => exact .nil
  | @cons p q ps qs h t ih =>
    rw [List.map_cons, List.map_cons]
    refine .cons ?_ ih
    obtain ⟨h1, h2⟩ := h
    by_cases e : p.1 = k
    · rw [if_pos e, if_pos (h1.symm.trans e)]; exact ⟨h1, ry⟩
    · rw [if_neg e, if_neg (fun z => e (h1.trans z))]; exact ⟨h1, h2⟩
theorem KV.put {kvs : List (κ × V)} {vs : List (κ × Value)} (r : KV kvs vs) (k : κ) {y : V} {u : Value} (ry : RelV y u) : KV (putK kvs k y) (stored vs k u) := by
  unfold putK stored
  rw [r.any k]
  by_cases e : (vs.any fun kv => decide (kv.1 = k)) = true
  · rw [if_pos e, if_pos e]; exact r.repl k ry
  · rw [if_neg e, if_neg e]; exact Paired.snoc r ⟨rfl, ry⟩
theorem KV.drop {kvs : List (κ × V)} {vs : List (κ × Value)} (r : KV kvs vs) (k : κ) : KV (dropK kvs k) (without vs k) := by
  unfold KV at r ⊢
  unfold dropK without
  induction r with
  | nil => exact .nil
  | @cons p q ps qs h t ih =>
    obtain ⟨h1, h2⟩ := h
    rw [List.filter_cons, List.filter_cons]
    by_cases e : p.1 = k
    · have a : ¬ decide (p.1 ≠ k) = true := by simp [e]
      have b : ¬ decide (q.1 ≠ k) = true := by simp [h1.symm.trans e]
      rw [if_neg a, if_neg b]; exact ih
    · have e' : ¬ q.1 = k := fun z => e (h1.trans z)
      have a : decide (p.1 ≠ k) = true := by simp [e]
      have b : decide (q.1 ≠ k) = true := by simp [e']
      rw [if_pos a, if_pos b]; exact .cons ⟨h1, h2⟩ ih
theorem KV.keys {kvs : List (κ × V)} {vs : List (κ × Value)} (r : KV kvs vs) : kvs.map (·.1) = vs.map (·.1) := by
  unfold KV at r
  induction r with
  | nil => rfl
  | cons h t ih => rw [List.map_cons, List.map_cons, ih, h.1]
theorem KV.length {kvs : List (κ × V)} {vs : List (κ × Value)} (r : KV kvs vs) : kvs.length = vs.length := Paired.length r
theorem dropK_le (kvs : List (κ × V)) (k : κ) : (dropK kvs k).length ≤ kvs.length := List.length_filter_le _ _
end
theorem kV_is {P : Program} {w : World} {k : Key} {u : Value} (r : RelV (kV k) u) : (mixKind P w).is k u = true := by
  cases k with
  | inl i => obtain ⟨t, e⟩ := (show ∃ t, u = Value.int i t from r); subst e; exact mixKind_int P w i t
  | inr x => obtain ⟨t, e⟩ := (show ∃ t, u = Value.str x t from r); subst e; exact mixKind_str P w x t
theorem items_are {P : Program} {w : World} : ∀ {ks : List Key} {us : List Value}, Vals (ks.map kV) us → ItemsAre (mixKind P w) ks us
  | [], _, r => by rw [List.map_nil] at r; cases r; exact .nil
  | k :: ks, _, r => by
    rw [List.map_cons] at r
    cases r with
    | cons h t => exact .cons (kV_is h) (items_are t)
abbrev KT (H : Hp) : List (List Key × V) → List (List Key × Addr × Value) → Prop := Paired fun p q => p.1 = q.1 ∧ H q.2.1 = some (.tup (p.1.map kV)) ∧ RelV p.2 q.2.2
theorem KT.val {H : Hp} {kvs : List (List Key × V)} {xs : List (List Key × Addr × Value)} (r : KT H kvs xs) (k : List Key) : RelO (valV kvs k) ((atKey xs k).map (·.2)) := by
  induction r with
  | nil => exact True.intro
  | @cons p q ps qs h t ih =>
    obtain ⟨h1, _, h2⟩ := h
    by_cases e : p.1 = k
    · have e' : q.1 = k := h1.symm.trans e
      have b : atKey (q :: qs) k = some q.2 := by simp [atKey, List.find?_cons, e']
      rw [valV_pos e, b]; exact h2
    · have e' : ¬ q.1 = k := fun z => e (h1.trans z)
      have b : atKey (q :: qs) k = atKey qs k := by simp [atKey, List.find?_cons, e']
      rw [valV_neg e, b]; exact ih
theorem KT.repl {H : Hp} {kvs : List (List Key × V)} {xs : List (List Key × Addr × Value)} (r : KT H kvs xs) (k : List Key) {y : V} {u : Value} (ry : RelV y u) :
    KT H (kvs.map fun kv => if kv.1 = k then (kv.1, y) else kv) (xs.map (putAt k u)) := by
  induction r with
  | nil => exact .nil
  | @cons p q ps qs h t ih =>
    rw [List.map_cons, List.map_cons]
    refine .cons ?_ ih
    obtain ⟨h1, h2, h3⟩ := h
    unfold putAt
    by_cases e : p.1 = k
    · rw [if_pos e, if_pos (h1.symm.trans e)]; exact ⟨h1, h2, ry⟩
    · rw [if_neg e, if_neg (fun z => e (h1.trans z))]; exact ⟨h1, h2, h3⟩
theorem KT.put {H : Hp} {kvs : List (List Key × V)} {xs : List (List Key × Addr × Value)} (r : KT H kvs xs) (k : List Key) {b : Addr} {y : V} {u : Value} (hb : H b = some (.tup (k.map kV))) (ry : RelV y u) :
    KT H (putK kvs k y) (storedH xs k b u) := by
  have e : (kvs.any fun kv => decide (kv.1 = k)) = (atKey xs k).isSome := by
    rw [valV_any, (r.val k).isSome_eq, Option.isSome_map]
  unfold putK storedH
  rw [e]
  by_cases q : (atKey xs k).isSome = true
  · rw [if_pos q, if_pos q]; exact r.repl k ry
  · rw [if_neg q, if_neg q]; exact Paired.snoc r ⟨rfl, hb, ry⟩
theorem KT.keeps {H H' : Hp} {kvs : List (List Key × V)} {xs : List (List Key × Addr × Value)} (r : KT H kvs xs) (ht : ∀ b ys, H b = some (.tup ys) → H' b = some (.tup ys)) : KT H' kvs xs :=
  Paired.mapP r fun _ _ z => ⟨z.1, ht _ _ z.2.1, z.2.2⟩
section
variable {P : Program} {w : World} {H : Hp} {h : Heap} {a : Addr}
theorem rd_of {u : HO} (ok : HOk P w H h) (e : Rd H a u) : ObjOk P w H h a u := e.ok ok
theorem dk_rd {kvs : List (Key × V)} (ok : HOk P w H h) (e : Rd H a (.dK kvs)) : kvs.length ≤ sizeLine ∧ (a == sysModules) = false ∧ ∃ vs, KV kvs vs ∧ h.DictOf (mixKind P w) a vs :=
  show ObjOk P w H h a (.dK kvs) from rd_of ok e
theorem dk_of {kvs : List (Key × V)} (ok : HOk P w H h) (e : H a = some (.dK kvs)) : kvs.length ≤ sizeLine ∧ (a == sysModules) = false ∧ ∃ vs, KV kvs vs ∧ h.DictOf (mixKind P w) a vs := dk_rd ok (.inl e)
theorem key_of {ks : List Key} (ok : HOk P w H h) (e : H a = some (.tup (ks.map kV))) : (tupleKind (mixKind P w)).is h ks a := by
  obtain ⟨_, its, r, o, h1, h2, n, h3⟩ := (show ObjOk P w H h a (.tup (ks.map kV)) from ok a _ e)
  exact ⟨o, its.toArray, n, h1, h2, h3, by simpa using items_are r⟩
theorem dt_rd {kvs : List (List Key × V)} (ok : HOk P w H h) (e : Rd H a (.dT kvs)) : kvs.length ≤ sizeLine ∧ (a == sysModules) = false ∧
    ∃ xs, KT H kvs xs ∧ h.DictOfH (tupleKind (mixKind P w)) a xs := by
  obtain ⟨z, y, xs, r, o, es, ep, h1, h2, h3, h4, h5⟩ := (show ObjOk P w H h a (.dT kvs) from rd_of ok e)
  refine ⟨z, y, xs, r, o, es, ep, h1, h2, h3, h4, fun x hx => ?_, h5⟩
  have all : ∀ {l : List (List Key × V)} {m : List (List Key × Addr × Value)}, KT H l m → ∀ x ∈ m, (tupleKind (mixKind P w)).is h x.1 x.2.1 := by
    intro l m q
    induction q with
    | nil => intro x hx; exact nomatch hx
    | @cons p q ps qs hq t ih =>
      intro x hx
      rcases List.mem_cons.mp hx with e | hx
      · subst e
        exact key_of ok (by rw [← hq.1]; exact hq.2.1)
      · exact ih x hx
  exact all r x hx
theorem dt_of {kvs : List (List Key × V)} (ok : HOk P w H h) (e : H a = some (.dT kvs)) : kvs.length ≤ sizeLine ∧ (a == sysModules) = false ∧
    ∃ xs, KT H kvs xs ∧ h.DictOfH (tupleKind (mixKind P w)) a xs := dt_rd ok (.inl e)
end
def DGet (H : Hp) (a : Addr) (y : V) (r : Option V) : Prop :=
  (∃ kvs k, Rd H a (.dK kvs) ∧ y = kV k ∧ r = valV kvs k) ∨ ∃ kvs k b, Rd H a (.dT kvs) ∧ y = .ref b ∧ H b = some (.tup (k.map kV)) ∧ r = valV kvs k
def DPut (H : Hp) (a : Addr) (y v : V) (H' : Hp) : Prop :=
  (∃ kvs k, H a = some (.dK kvs) ∧ y = kV k ∧ kvs.length < sizeLine ∧ H' = upd H a (.dK (putK kvs k v))) ∨
  ∃ kvs k b, H a = some (.dT kvs) ∧ y = .ref b ∧ H b = some (.tup (k.map kV)) ∧ kvs.length < sizeLine ∧ H' = upd H a (.dT (putK kvs k v))
theorem DGet.k {H : Hp} {a : Addr} {kvs : List (Key × V)} {k : Key} (e : H a = some (.dK kvs)) : DGet H a (kV k) (valV kvs k) := .inl ⟨kvs, k, .inl e, rfl, rfl⟩
theorem DGet.t {H : Hp} {a b : Addr} {kvs : List (List Key × V)} {k : List Key} (e : H a = some (.dT kvs)) (eb : H b = some (.tup (k.map kV))) : DGet H a (.ref b) (valV kvs k) := .inr ⟨kvs, k, b, .inl e, rfl, eb, rfl⟩
theorem DPut.k {H : Hp} {a : Addr} {kvs : List (Key × V)} {k : Key} {v : V} (e : H a = some (.dK kvs)) (hl : kvs.length < sizeLine) : DPut H a (kV k) v (upd H a (.dK (putK kvs k v))) := .inl ⟨kvs, k, e, rfl, hl, rfl⟩
theorem DPut.t {H : Hp} {a b : Addr} {kvs : List (List Key × V)} {k : List Key} {v : V} (e : H a = some (.dT kvs)) (eb : H b = some (.tup (k.map kV))) (hl : kvs.length < sizeLine) :
    DPut H a (.ref b) v (upd H a (.dT (putK kvs k v))) := .inr ⟨kvs, k, b, e, rfl, eb, hl, rfl⟩
section
variable {X : Cx} {pins : List (Addr × Obj)} {σ : St} {H : Hp} {s : Shared} {a : Addr} {y v : V} {u r : Value} {o : Option V} {A : Around} {E : Value → Shared → Prop}
theorem Inv.big (I : Inv X pins σ H s) : sysModules < s.heap.objs.size := by
  have h : mainGlobals < s.heap.objs.size := (I.mod.glob.keeps I.bk).lt
  exact Nat.lt_trans (by decide) h
theorem d_getItem {Q : Value → Shared → Prop} (hu : A.units + 1 < cLine) (I : Inv X pins σ H s) (g : DGet H a y (some v)) (ry : RelV y u) (h : ∀ w' s', Inv X pins σ H s' → RelV v w' → Q w' s') :
    wpAny (model X.prog X.w) A (getItem (.ref a) u) Q E s := by
  rcases g with ⟨kvs, k, e, ey, l⟩ | ⟨kvs, k, b, e, ey, eb, l⟩
  · subst ey
    obtain ⟨z, hd, vs, rel, dd⟩ := dk_rd I.hok e
    obtain ⟨w', hw, rw'⟩ := RelO.some_of (v := v) (o := valueAt vs k) (by rw [l]; exact rel.val k)
    exact wpAny_getItem_of (kV_is ry) dd.mapOf hw (h w' _ (I.tok _) rw')
  · subst ey
    cases (show u = Value.ref b from ry)
    obtain ⟨z, hd, xs, rel, dd⟩ := dt_rd I.hok e
    obtain ⟨w', hw, rw'⟩ := RelO.some_of (v := v) (o := (atKey xs k).map (·.2)) (by rw [l]; exact rel.val k)
    obtain ⟨p, hp, hp2⟩ := Option.map_eq_some_iff.mp hw
    refine wpAny_getItem_heap (tupleKind_room_in1 hu) (key_of I.hok eb) dd hp ?_
    rw [hp2]
    exact h w' _ (I.tok _) rw'
theorem d_in {Q : Value → Shared → Prop} (hu : A.units + 1 < cLine) (I : Inv X pins σ H s) (g : DGet H a y o) (ry : RelV y u) (h : ∀ s', Inv X pins σ H s' → Q (.bool o.isSome) s') :
    wpAny (model X.prog X.w) A (compareOp .In u (.ref a)) Q E s := by
  rcases g with ⟨kvs, k, e, ey, l⟩ | ⟨kvs, k, b, e, ey, eb, l⟩
  · subst ey
    obtain ⟨z, hd, vs, rel, dd⟩ := dk_rd I.hok e
    refine wpAny_in_of (kV_is ry) hd dd.mapOf ?_
    rw [← (rel.val k).isSome_eq, ← l]
    exact h _ (I.tok _)
  · subst ey
    cases (show u = Value.ref b from ry)
    obtain ⟨z, hd, xs, rel, dd⟩ := dt_rd I.hok e
    refine wpAny_in_heap (tupleKind_room_in1 hu) (key_of I.hok eb) hd dd ?_
    have q := (rel.val k).isSome_eq
    rw [Option.isSome_map] at q
    rw [← q, ← l]
    exact h _ (I.tok _)
theorem d_notIn {Q : Value → Shared → Prop} (hu : A.units + 1 < cLine) (I : Inv X pins σ H s) (g : DGet H a y o) (ry : RelV y u) (h : ∀ s', Inv X pins σ H s' → Q (.bool (!o.isSome)) s') :
    wpAny (model X.prog X.w) A (compareOp .NotIn u (.ref a)) Q E s := by
  rcases g with ⟨kvs, k, e, ey, l⟩ | ⟨kvs, k, b, e, ey, eb, l⟩
  · subst ey
    obtain ⟨z, hd, vs, rel, dd⟩ := dk_rd I.hok e
    refine wpAny_notIn_of (kV_is ry) hd dd.mapOf ?_
    rw [← (rel.val k).isSome_eq, ← l]
    exact h _ (I.tok _)
  · subst ey
    cases (show u = Value.ref b from ry)
    obtain ⟨z, hd, xs, rel, dd⟩ := dt_rd I.hok e
    refine wpAny_notIn_heap (tupleKind_room_in1 hu) (key_of I.hok eb) hd dd ?_
    have q := (rel.val k).isSome_eq
    rw [Option.isSome_map] at q
    rw [← q, ← l]
    exact h _ (I.tok _)
theorem d_write {h' : Heap} {t' : Nat} {ob : HO} (I : Inv X pins σ H s) (mu : Mut (H a)) (hs : Heap.SameBut a s.heap h') (he : ∃ q, h'.get? a = some q) (new : ObjOk X.prog X.w (upd H a ob) h' a ob) :
    Inv X pins σ (upd H a ob) { s with heap := h', toks := t' } :=
  I.write (x := a) (e := a) mu (.inl rfl) (fun b q hb z => (hs.2 b hb).trans z) he new
theorem dk_new {P : Program} {w : World} {H' : Hp} {h' : Heap} {kvs : List (Key × V)} {vs : List (Key × Value)} (z : kvs.length ≤ sizeLine) (hd : (a == sysModules) = false) (rel : KV kvs vs) (dd : h'.DictOf (mixKind P w) a vs) :
    ObjOk P w H' h' a (.dK kvs) := ⟨z, hd, vs, rel, dd⟩
theorem d_setItem {H' : Hp} {Q : Unit → Shared → Prop} (hu : A.units + 1 < cLine) (I : Inv X pins σ H s) (g : DPut H a y v H') (ry : RelV y u) (rv : RelV v r) (h : ∀ s', Inv X pins σ H' s' → Q () s') :
    wpAny (model X.prog X.w) A (setItem (.ref a) u r) Q E s := by
  rcases g with ⟨kvs, k, e, ey, l, eH⟩ | ⟨kvs, k, b, e, ey, eb, l, eH⟩
  · subst ey eH
    obtain ⟨z, hd, vs, rel, dd⟩ := dk_of I.hok e
    have hz : vs.length ≤ sizeLine := by rw [← rel.length]; exact z
    have hl : (putK kvs k v).length ≤ sizeLine := by have := length_putK kvs k v; omega
    refine wpAny_setItem_pairs (hsz := hz) (kV_is ry) dd fun h' dd' hs => h _ ?_
    have he : ∃ q, h'.get? a = some q := let ⟨q, _, _, hq, _⟩ := dd'; ⟨q, hq⟩
    exact d_write I (by rw [e]; exact True.intro) hs he (dk_new hl hd (rel.put k rv) dd')
  · subst ey eH
    cases (show u = Value.ref b from ry)
    obtain ⟨z, hd, xs, rel, dd⟩ := dt_of I.hok e
    have hz : xs.length ≤ sizeLine := by rw [← Paired.length rel]; exact z
    have hl : (putK kvs k v).length ≤ sizeLine := by have := length_putK kvs k v; omega
    refine wpAny_setItem_heap (hsz := hz) (tupleKind_room_in1 hu) (key_of I.hok eb) dd fun h' dd' hs => h _ ?_
    obtain ⟨q, es, ep, hq, h2, h3, h4, _, h5⟩ := dd'
    refine d_write I (by rw [e]; exact True.intro) hs ⟨q, hq⟩ ⟨hl, hd, _, (rel.put k eb rv).keeps fun c ys ec => ?_, q, es, ep, hq, h2, h3, h4, h5⟩
    rw [upd_ne (ne_of ec e (fun z => nomatch z))]
    exact ec
end
section
variable {X : Cx} {pins : List (Addr × Obj)} {σ : St} {H : Hp} {s : Shared} {a : Addr} {kvs : List (Key × V)} {k : Key} {u : Value} {A : Around} {E : Value → Shared → Prop}
theorem d_pop {v : V} {more : List Value} {Q : Value → Shared → Prop} (I : Inv X pins σ H s) (e : H a = some (.dK kvs)) (ry : RelV (kV k) u) (l : valV kvs k = some v) (hm : more = [] ∨ ∃ x, more = [x])
    (h : ∀ w' s', Inv X pins σ (upd H a (.dK (dropK kvs k))) s' → RelV v w' → Q w' s') : wpAny (model X.prog X.w) A (call (.builtin "dict.pop") (.ref a :: u :: more)) Q E s := by
  obtain ⟨z, hd, vs, rel, dd⟩ := dk_of I.hok e
  obtain ⟨w', hw, rw'⟩ := RelO.some_of (v := v) (o := valueAt vs k) (by rw [← l]; exact rel.val k)
  have hp : (keyPart u).isSome = true := by
    cases k with
    | inl i => obtain ⟨t, q⟩ := (show ∃ t, u = Value.int i t from ry); subst q; rfl
    | inr x => obtain ⟨t, q⟩ := (show ∃ t, u = Value.str x t from ry); subst q; rfl
  have ha : argsOk "dict.pop" ⟨.ref a :: u :: more, []⟩ := by
    rcases hm with q | ⟨x, q⟩
    · subst q; exact PySem.F.args_dict_pop_2 _ _
    · subst q; exact PySem.F.args_dict_pop_3 _ _ _
  refine call_meetsIn PySem.F.slot_dict_pop dd.typeIs PySem.F.entry_dict_pop ha (meets_dict_pop_there (mixKind X.prog X.w) a (kV_is ry) more hm hp)
    ⟨vs, w', dd, by rw [← rel.length]; exact z, hw, fun h' dd' hs => h w' _ ?_ rw'⟩
  have he : ∃ q, h'.get? a = some q := let ⟨q, _, _, hq, _⟩ := dd'; ⟨q, hq⟩
  exact d_write I (by rw [e]; exact True.intro) hs he (dk_new (Nat.le_trans (dropK_le kvs k) z) hd (rel.drop k) dd')
end
def NoSl (i : Expr) : Prop := ∀ ov iv, subscripted i false ov iv = operate [ov, iv] (getItem ov iv)
theorem subD_of {prog : Program} {w : World} {A : Around} {E : Value → Shared → Prop} {s : Shared} {env : Env} {value slice : Expr} {pos : Pos} {T id : String} {Q : Value → Shared → Prop}
    (hl : typeLookup (.type T) "__getitem__" = pure (some (.builtin id))) (hs : NoSl slice)
    (h : wpAny (model prog w) A (eval value env) (fun o s₁ => wpAny (model prog w) A (eval slice env) (fun i s₂ => s₂.TypeIs o T ∧ wpAny (model prog w) A (getItem o i) Q E s₂) E s₁) E s) :
    wpAny (model prog w) A (eval (.Subscript value slice pos) env) Q E s := by
  refine Subscript_ (wpAny_mono h (fun o s₁ h₁ => wpAny_mono h₁ (fun i s₂ h₂ => ?_) fun _ _ x => x) fun _ _ x => x)
  obtain ⟨hT, h₂⟩ := h₂
  unfold subscriptTail
  refine wpAny_bind ?_
  rw [getitemInPython_of_ne hT.not_modules]
  refine wpAny_bind (wpAny_specialOf hT hl ?_)
  have fin : wpAny (model prog w) A (subscripted slice false o i) (fun r s₃ => wpAny (model prog w) A (letTemporaryGo value o r >>= fun _ => pure r) Q E s₃) E s₂ := by
    rw [hs o i]
    exact wpAny_operating (wpAny_mono h₂ (fun r s₃ h₃ => wpAny_bind (wpAny_letTemporaryGo (wpAny_pure h₃))) fun _ _ x => x)
  first
    | exact wpAny_pure (wpAny_bind fin)
    | exact wpAny_bind (wpAny_pure (wpAny_bind fin))
    | exact wpAny_bind fin
theorem dict_typeIs {X : Cx} {pins : List (Addr × Obj)} {σ : St} {H : Hp} {s : Shared} {a : Addr} {y : V} {o : Option V} (I : Inv X pins σ H s) (g : DGet H a y o) : s.TypeIs (.ref a) "dict" := by
  rcases g with ⟨kvs, k, e, _, _⟩ | ⟨kvs, k, b, e, _, _, _⟩
  · obtain ⟨_, _, vs, _, dd⟩ := dk_rd I.hok e
    exact dd.typeIs
  · obtain ⟨_, _, xs, _, dd⟩ := dt_rd I.hok e
    exact dd.typeIs
def tDGet (td ty : TE) : TE := fun σ H Q => td σ H fun x H1 => ty σ H1 fun y H2 => ∃ a v, x = .ref a ∧ DGet H2 a y (some v) ∧ Q v H2
def tDIn (ty td : TE) : TE := fun σ H Q => ty σ H fun y H1 => td σ H1 fun x H2 => ∃ a o, x = .ref a ∧ DGet H2 a y o ∧ Q (.bl o.isSome) H2
def tDNotIn (ty td : TE) : TE := fun σ H Q => ty σ H fun y H1 => td σ H1 fun x H2 => ∃ a o, x = .ref a ∧ DGet H2 a y o ∧ Q (.bl (!o.isSome)) H2
def sDPut (td ty tv : TE) : TS := fun D σ H => tv σ H fun v H1 => td σ H1 fun x H2 => ty σ H2 fun y H3 => ∃ a H4, x = .ref a ∧ DPut H3 a y v H4 ∧ D.nx σ H4
section
variable {X : Cx} {o i e value : Expr} {pos pos' tpos : Pos} {td ty tv : TE}
theorem pe_dget (hu : X.A.units + 1 < cLine) (ho : PE X o td) (hi : PE X i ty) (hs : NoSl i) : PE X (.Subscript o i pos) (tDGet td ty) := by
  intro pins s σ H Q I h
  refine subD_of PySem.F.slot_dict_getitem.lookup hs (thn (ho pins s σ H _ I h) fun u s1 ⟨x, H1, I1, rx, q1⟩ => thn (hi pins s1 σ H1 _ I1 q1) fun iv s2 ⟨y, H2, I2, ry, a, v, ex, g, q2⟩ => ?_)
  subst ex
  obtain rfl : u = Value.ref a := rx
  exact ⟨dict_typeIs I2 g, d_getItem hu I2 g ry fun w' s3 I3 rw' => ⟨v, H2, I3, rw', q2⟩⟩
theorem pc_din (hu : X.A.units + 1 < cLine) (hi : PE X i ty) (ho : PE X o td) : PC X .In i o (tDIn ty td) := by
  intro pins s σ H Q I h
  refine thn (hi pins s σ H _ I h) fun iv s1 ⟨y, H1, I1, ry, q1⟩ => thn (ho pins s1 σ H1 _ I1 q1) fun u s2 ⟨x, H2, I2, rx, a, ov, ex, g, q2⟩ => ?_
  subst ex
  obtain rfl : u = Value.ref a := rx
  exact d_in hu I2 g ry fun s3 I3 => ⟨.bl ov.isSome, H2, I3, rfl, q2⟩
theorem pc_dnotin (hu : X.A.units + 1 < cLine) (hi : PE X i ty) (ho : PE X o td) : PC X .NotIn i o (tDNotIn ty td) := by
  intro pins s σ H Q I h
  refine thn (hi pins s σ H _ I h) fun iv s1 ⟨y, H1, I1, ry, q1⟩ => thn (ho pins s1 σ H1 _ I1 q1) fun u s2 ⟨x, H2, I2, rx, a, ov, ex, g, q2⟩ => ?_
  subst ex
  obtain rfl : u = Value.ref a := rx
  exact d_notIn hu I2 g ry fun s3 I3 => ⟨.bl (!ov.isSome), H2, I3, rfl, q2⟩
theorem ps_dput (hu : X.A.units + 1 < cLine) (ho : PE X o td) (hi : PE X i ty) (hv : PE X value tv) (hs : swapsWith value (some (.Subscript o i pos')) pos.line X.env = pure false) :
    PS X (.Assign [.Subscript o i pos'] value pos) (sDPut td ty tv) := by
  intro pins s σ H D I h
  refine wpAny_Assign_Subscript (thn (hv pins s σ H _ I h) fun r s1 ⟨v, H1, I1, rv, q1⟩ => thn (ho pins s1 σ H1 _ I1 q1) fun u s2 ⟨x, H2, I2, rx, q2⟩ => thn (hi pins s2 σ H2 _ I2 q2) fun iv s3 ⟨y, H3, I3, ry, a, H4, ex, g, q3⟩ => ?_) hs
  subst ex
  obtain rfl : u = Value.ref a := rx
  exact d_setItem hu I3 g ry rv fun s4 I4 => ⟨σ, H4, I4, q3⟩
end
theorem dk_empty {P : Program} {w : World} {H : Hp} (h : Heap) (hb : sysModules < h.objs.size) : ObjOk P w H (h.push { cls := .type "dict", data := .dict #[] }) h.objs.size (.dK []) :=
  ⟨Nat.zero_le _, beq_eq_false_iff_ne.mpr (Ne.symm (Nat.ne_of_lt hb)), [], .nil, Heap.DictOf.new h⟩
def tDNewK : TE := fun _ H Q => ∀ p, H p = none → Q (.ref p) (upd H p (.dK []))
section
variable {X : Cx} {pos : Pos}
theorem pe_dnewK : PE X (.Dict [] [] pos) tDNewK := fun pins s σ H Q I h =>
  wpAny_Dict_empty ⟨.ref s.heap.objs.size, _, I.laid (a := s.heap.objs.size) (o := .dK []) (t' := s.toks) (fun _ _ q => Heap.get?_push_of_some _ q) (Nat.le_refl _) (dk_empty s.heap I.big), rfl, h _ (I.hok.fresh (Nat.le_refl _))⟩
end
structure M1 (X : Cx) (o : Expr) (m : Str) (apos : Pos) (e : Expr) (cpos : Pos) : Prop where
  base : attributeBase o m X.env (eval o X.env) = eval o X.env
  few : ((backTo cpos (starEach [e] X.env)).all (fun x => !x.1) && (backToKw cpos (keywordEach [] X.env)).all (fun x => x.1.isSome)
    && decide (([e] : List Expr).length + ([] : List Keyword).length + (if ([] : List Keyword).isEmpty then 0 else 1) < 30)) = true
  line : (apos.endLine == cpos.line) = true
  trees : backTo cpos (starEach [e] X.env) = [(false, eval e X.env)]
def IsD (H : Hp) (a : Addr) : Prop := (∃ kvs, Rd H a (.dK kvs)) ∨ ∃ kvs, Rd H a (.dT kvs)
theorem isD_at {X : Cx} {pins : List (Addr × Obj)} {σ : St} {H : Hp} {s : Shared} {a : Addr} (I : Inv X pins σ H s) (d : IsD H a) :
    s.TypeIs (.ref a) "dict" ∧ (∀ b, Value.ref a = .ref b → ∃ ob, s.heap.get? b = some ob ∧ ob.dict = none) ∧ (a == sysModules) = false := by
  rcases d with ⟨kvs, e⟩ | ⟨kvs, e⟩
  · obtain ⟨_, hd, vs, _, dd⟩ := dk_rd I.hok e
    refine ⟨dd.typeIs, fun b q => ?_, hd⟩
    cases q
    obtain ⟨ob, _, _, h1, h2, _⟩ := dd
    exact ⟨ob, h1, h2.2.1⟩
  · obtain ⟨_, hd, xs, _, dd⟩ := dt_rd I.hok e
    refine ⟨dd.typeIs, fun b q => ?_, hd⟩
    cases q
    obtain ⟨ob, _, _, h1, h2, _⟩ := dd
    exact ⟨ob, h1, h2.2.1⟩
section
variable {X : Cx} {pins : List (Addr × Obj)} {σ : St} {H : Hp} {s : Shared} {a : Addr} {y d : V} {u r : Value} {o : Option V} {A : Around} {E : Value → Shared → Prop}
end
def tDGet1 (td ty : TE) : TE := fun σ H Q => td σ H fun x H1 => ∃ a, x = .ref a ∧ IsD H1 a ∧ ty σ H1 fun y H2 => ∃ o, DGet H2 a y o ∧ Q (o.getD .non) H2
def tDGet2 (td ty tx : TE) : TE := fun σ H Q => td σ H fun x H1 => ∃ a, x = .ref a ∧ IsD H1 a ∧ ty σ H1 fun y H2 => tx σ H2 fun z H3 => ∃ o, DGet H3 a y o ∧ Q (o.getD z) H3
def tDPop1 (td ty : TE) : TE := fun σ H Q => td σ H fun x H1 => ∃ a, x = .ref a ∧ IsD H1 a ∧ ty σ H1 fun y H2 => ∃ kvs k v, H2 a = some (.dK kvs) ∧ y = kV k ∧ valV kvs k = some v ∧ Q v (upd H2 a (.dK (dropK kvs k)))
section
variable {X : Cx} {o e f : Expr} {apos cpos : Pos} {td ty tx : TE}
theorem pe_dpop1 (ho : PE X o td) (he : PE X e ty) (m : M1 X o "pop" apos e cpos) : PE X (.Call (.Attribute o "pop" apos) [e] [] cpos) (tDPop1 td ty) := by
  intro pins s σ H Q I h
  refine wpAny_Call_method m.base m.few m.line PySem.F.plainAttrs_dict PySem.F.slot_dict_pop PySem.F.type_dict_pop (thn (ho pins s σ H _ I h) fun u s1 ⟨x, H1, I1, rx, a, ex, d, q1⟩ => ?_)
  subst ex
  obtain rfl : u = Value.ref a := rx
  obtain ⟨t1, t2, _⟩ := isD_at I1 d
  refine ⟨t1, t2, ?_⟩
  rw [m.trees]
  refine Calls.callWith_builtin rfl (Calls.evalArgs_plain (Calls.spliced_cons (thn (he pins s1 σ H1 _ I1 q1) fun iv s2 ⟨y, H2, I2, ry, kvs, k, v, ea, ey, l, q2⟩ => Calls.spliced_nil ?_)))
  subst ey
  exact d_pop I2 ea ry l (.inl rfl) fun w' s3 I3 rw' => ⟨v, _, I3, rw', q2⟩
end
section
variable {X : Cx} {pins : List (Addr × Obj)} {σ : St} {H : Hp} {s : Shared} {a : Addr} {kvs : List (Key × V)} {A : Around} {E : Value → Shared → Prop}
end
section
variable {X : Cx} {pins : List (Addr × Obj)} {σ : St} {H : Hp} {s : Shared} {a : Addr} {y : V} {u : Value} {A : Around} {E : Value → Shared → Prop}
end
end L2
namespace L2
open PySem PySem.Spec PyProof.Rows
section
variable {X : Cx}
end
section
variable {κ : Type} [DecidableEq κ]
end
end L2
namespace L2
open PySem PySem.Spec PyProof.Rows
def tTru (K : PySem.W.Frag) (ta : TE) : TT := fun σ H Q => ta σ H fun x H1 => ∃ k, TruV K x H1 k ∧ Q k H1
end L2
namespace Sw
abbrev T3 := Rat × Rat × Int
def isHd (m : Rat) (u : T3) : Bool := !decide (m < u.1) && decide (m < u.2.1)
def hds (us : List T3) (m : Rat) : List T3 := us.filter (isHd m)
def sumS (hs : List T3) : Int := (hs.map fun u => u.2.2).sum
def minL : List Rat → Rat
  | [] => 0
  | q :: r => (q :: r).foldl min q
def fstE (hs : List T3) : Rat := minL (hs.map fun u => u.2.1)
theorem foldl_min_mem : ∀ (l : List Rat) (d : Rat), l.foldl min d = d ∨ l.foldl min d ∈ l
  | [], d => .inl rfl
  | q :: r, d => by
    rcases foldl_min_mem r (min d q) with h | h
    · rw [List.foldl_cons, h, Rat.min_def]
      split
      · exact .inl rfl
      · exact .inr (by simp)
    · exact .inr (by rw [List.foldl_cons]; exact List.mem_cons_of_mem _ h)
theorem minL_mem {l : List Rat} (h : l ≠ []) : minL l ∈ l := by
  cases l with
  | nil => exact absurd rfl h
  | cons q r =>
    show (q :: r).foldl min q ∈ q :: r
    rcases foldl_min_mem (q :: r) q with e | e
    · rw [e]; simp
    · exact e
theorem fstE_mem {hs : List T3} (h : hs ≠ []) : ∃ u ∈ hs, fstE hs = u.2.1 := by
  have := minL_mem (l := hs.map fun u => u.2.1) (by simpa using h)
  obtain ⟨u, hu, e⟩ := List.mem_map.mp this
  exact ⟨u, hu, e.symm⟩
theorem hds_mem {us : List T3} {m : Rat} {u : T3} (h : u ∈ hds us m) : u ∈ us ∧ m < u.2.1 := by
  obtain ⟨h1, h2⟩ := List.mem_filter.mp h
  unfold isHd at h2
  simp only [Bool.and_eq_true, Bool.not_eq_true', decide_eq_true_eq] at h2
  exact ⟨h1, h2.2⟩
theorem fstE_gt {us : List T3} {m : Rat} (h : hds us m ≠ []) : m < fstE (hds us m) := by
  obtain ⟨u, hu, e⟩ := fstE_mem h
  rw [e]; exact (hds_mem hu).2
def ahead (us : List T3) (m : Rat) : Nat := (us.filter fun u => decide (m < u.2.1)).length
theorem filter_len_lt {α : Type} {p q : α → Bool} : ∀ {l : List α}, (∀ x ∈ l, q x = true → p x = true) → (∃ x ∈ l, p x = true ∧ q x = false) → (l.filter q).length < (l.filter p).length
  | [], _, ⟨x, hx, _⟩ => absurd hx (by simp)
  | y :: r, h, ⟨x, hx, h1, h2⟩ => by
    have le : ∀ {l : List α}, (∀ x ∈ l, q x = true → p x = true) → (l.filter q).length ≤ (l.filter p).length := fun {l} => by
      induction l with
      | nil => intro _; exact Nat.le_refl _
      | cons z t ih =>
        intro hh
        have ih := ih fun x hx => hh x (List.mem_cons_of_mem _ hx)
        have hz := hh z (by simp)
        rw [List.filter_cons, List.filter_cons]
        cases e1 : q z <;> cases e2 : p z <;> simp_all <;> omega
    rcases List.mem_cons.mp hx with e | e
    · subst e
      have := le (l := r) fun x hx => h x (List.mem_cons_of_mem _ hx)
      rw [List.filter_cons, List.filter_cons, h1, h2]
      simp; omega
    · have ih := filter_len_lt (l := r) (fun x hx => h x (List.mem_cons_of_mem _ hx)) ⟨x, e, h1, h2⟩
      have hy := h y (by simp)
      rw [List.filter_cons, List.filter_cons]
      cases e1 : q y <;> cases e2 : p y <;> simp_all <;> omega
theorem ahead_lt {us : List T3} {m : Rat} (h : hds us m ≠ []) : ahead us (fstE (hds us m)) < ahead us m := by
  have gt := fstE_gt h
  obtain ⟨u, hu, e⟩ := fstE_mem h
  obtain ⟨h1, h2⟩ := hds_mem hu
  refine filter_len_lt (fun x _ hx => ?_) ⟨u, h1, decide_eq_true h2, ?_⟩
  · simp only [decide_eq_true_eq] at hx ⊢
    grind
  · rw [e]; simp only [decide_eq_false_iff_not]; grind
def markF (us : List T3) (t : Rat) : Nat → Rat → Rat → Rat
  | 0, _, re => re
  | n + 1, mo, re =>
    if hds us re = [] then re
    else if t < mo + (fstE (hds us re) - re) * (sumS (hds us re) : Rat) then re + (t - mo) / (sumS (hds us re) : Rat)
    else markF us t n (mo + (fstE (hds us re) - re) * (sumS (hds us re) : Rat)) (fstE (hds us re))
def markAt (us : List T3) (latest : Int) (reached : Rat) (t : Int) : Rat := markF us (t : Rat) (us.length + 1) (latest : Rat) reached
theorem ahead_le (us : List T3) (m : Rat) : ahead us m ≤ us.length := List.length_filter_le _ _
def Grd (D : Int) (q : Rat) : Prop := ∃ n : Int, q = (n : Rat) / (D : Rat)
theorem Grd.int {D : Int} (hD : D ≠ 0) (n : Int) : Grd D (n : Rat) := ⟨n * D, by have := q_cast_ne hD; rw [Rat.intCast_mul]; grind⟩
theorem Grd.sub {D : Int} {a b : Rat} (h : Grd D a) (k : Grd D b) : Grd D (a - b) := by
  obtain ⟨n, rfl⟩ := h
  obtain ⟨m, rfl⟩ := k
  exact ⟨n - m, by rw [Rat.intCast_sub]; grind⟩
theorem Grd.more {D : Int} {a : Rat} (hD : D ≠ 0) (h : Grd D a) {k : Int} (hk : k ≠ 0) : Grd (D * k) a := by
  obtain ⟨n, rfl⟩ := h
  have h1 := q_cast_ne hD
  have h2 := q_cast_ne hk
  exact ⟨n * k, by rw [Rat.intCast_mul, Rat.intCast_mul]; grind⟩
theorem Grd.sz {D M : Int} {a b : Nat} {q : Rat} (h : Grd D q) (hD : 0 < D) (zD : Sz a D) (zM : Sz b M) (h1 : -(M : Rat) ≤ q) (h2 : q ≤ (M : Rat)) (hb : 1 ≤ b) : SzQ (a + b) q := by
  obtain ⟨n, rfl⟩ := h
  have dp := q_cast_pos hD
  have dn := q_cast_ne (show D ≠ 0 by omega)
  refine .of (by omega) rfl ((zD.mul zM).le ?_) (zD.mono (by omega))
  have e : (n : Rat) / (D : Rat) * (D : Rat) = (n : Rat) := by grind
  have u : (n : Rat) ≤ ((M * D : Int) : Rat) := by
    rw [← e, Rat.intCast_mul]
    exact Rat.mul_le_mul_of_nonneg_right h2 (by grind)
  have l : ((-(M * D) : Int) : Rat) ≤ (n : Rat) := by
    rw [← e, Rat.intCast_neg, Rat.intCast_mul, show -((M : Rat) * (D : Rat)) = -(M : Rat) * (D : Rat) by grind]
    exact Rat.mul_le_mul_of_nonneg_right h1 (by grind)
  have u' := Rat.intCast_le_intCast.mp u
  have l' := Rat.intCast_le_intCast.mp l
  rw [Int.mul_comm D M]
  omega
end Sw
namespace L2
open PySem PySem.Spec PyProof.Rows
def TagAt (H : Hp) (p : Addr) (u : Sw.T3) : Prop := ∃ pb pe, H p = some (.tup [.ref pb, .ref pe, .int u.2.2]) ∧ H pb = some (.tup (fq u.1)) ∧ H pe = some (.tup (fq u.2.1))
abbrev TagsAt (H : Hp) (ps : List Addr) (us : List Sw.T3) : Prop := Paired (TagAt H) ps us
theorem TagAt.keep {H H' : Hp} {p : Addr} {u : Sw.T3} (h : TagAt H p u) (e : ∀ p xs, H p = some (.tup xs) → H' p = some (.tup xs)) : TagAt H' p u := by
  obtain ⟨pb, pe, h1, h2, h3⟩ := h
  exact ⟨pb, pe, e _ _ h1, e _ _ h2, e _ _ h3⟩
theorem tags_keep {H H' : Hp} {ps : List Addr} {us : List Sw.T3} (h : TagsAt H ps us) (e : ∀ p xs, H p = some (.tup xs) → H' p = some (.tup xs)) : TagsAt H' ps us := Paired.mapP h fun _ _ q => q.keep e
theorem tags_same {H H' : Hp} {ps : List Addr} {us : List Sw.T3} (h : TagsAt H ps us) (e : Same H H') : TagsAt H' ps us := tags_keep h fun _ _ q => e _ _ q
theorem paired_snoc {α β : Type} {F : α → β → Prop} {a : α} {b : β} (h : F a b) : ∀ {l₁ : List α} {l₂ : List β}, Paired F l₁ l₂ → Paired F (l₁ ++ [a]) (l₂ ++ [b])
  | _, _, Paired.nil => .cons h .nil
  | _, _, Paired.cons x y => .cons x (paired_snoc h y)
theorem paired_get {α β : Type} {F : α → β → Prop} : ∀ {l₁ : List α} {l₂ : List β} {i : Nat} {a : α}, Paired F l₁ l₂ → l₁[i]? = some a → ∃ b, l₂[i]? = some b ∧ F a b
  | _, _, _, _, Paired.nil, e => by simp at e
  | _, _, 0, _, Paired.cons x _, e => by simp at e; subst e; exact ⟨_, rfl, x⟩
  | _, _, i + 1, _, Paired.cons _ y, e => by
    obtain ⟨b, h1, h2⟩ := paired_get (i := i) y (by simpa using e)
    exact ⟨b, by simpa using h1, h2⟩
theorem take_succ_of {α : Type} {l : List α} {i : Nat} {x : α} (h : l[i]? = some x) : l.take (i + 1) = l.take i ++ [x] := by
  rw [List.take_add_one, h]; rfl
structure TagOk (D B : Int) (u : Sw.T3) : Prop where
  b : Sw.Grd D u.1
  e : Sw.Grd D u.2.1
  b0 : 0 ≤ u.1
  be : u.1 ≤ u.2.1
  eB : u.2.1 ≤ (B : Rat)
  s1 : 1 ≤ u.2.2
  s2 : u.2.2 ≤ 1000000
theorem sumS_ok {D B : Int} : ∀ {hs : List Sw.T3}, (∀ u ∈ hs, TagOk D B u) → hs ≠ [] → 1 ≤ Sw.sumS hs ∧ Sw.sumS hs ≤ hs.length * 1000000
  | [], _, h => absurd rfl h
  | [u], h, _ => by
    have t := h u (by simp)
    have a := t.s1
    have b := t.s2
    unfold Sw.sumS
    simp
    omega
  | u :: v :: r, h, _ => by
    have t := h u (by simp)
    have a := t.s1
    have b := t.s2
    have ih := sumS_ok (hs := v :: r) (fun x hx => h x (List.mem_cons_of_mem _ hx)) (by simp)
    have e : Sw.sumS (u :: v :: r) = u.2.2 + Sw.sumS (v :: r) := by unfold Sw.sumS; simp
    rw [e]
    simp only [List.length_cons] at ih ⊢
    omega
structure GB (D B : Int) : Prop where
  D0 : 0 < D
  Dz : Sw.Sz 1500 D
  B0 : 0 ≤ B
  B1 : B ≤ 10000000000
theorem GB.sz {D B M : Int} {q : Rat} (g : GB D B) (h : Sw.Grd D q) (h1 : -(M : Rat) ≤ q) (h2 : q ≤ (M : Rat)) (m1 : -100000000000000000000 < M) (m2 : M < 100000000000000000000) : Sw.SzQ 1570 q :=
  h.sz g.D0 g.Dz (Sw.Sz.r18 m1 m2) h1 h2 (by decide)
structure FT (fs : List (Str × V)) (lat : Int) (pr pu pe : Addr) : Prop where
  lat : fs.lookup ("latest" : Str) = some (.int lat)
  rch : fs.lookup ("reached" : Str) = some (.ref pr)
  unf : fs.lookup ("unflowed" : Str) = some (.ref pu)
  lst : fs.lookup ("last_ends" : Str) = some (.ref pe)
  no : ∀ m : Str, ¬ m = "latest" → ¬ m = "reached" → ¬ m = "unflowed" → ¬ m = "last_ends" → fs.lookup m = none
  len : fs.length < 900
structure TdM (C : Addr) (H : Hp) (p : Addr) (lat : Int) (re : Rat) (us : List Sw.T3) : Prop where
  ex : ∃ dx fs pr pu pe ps, H p = some (.ins C dx fs) ∧ FT fs lat pr pu pe ∧ H pr = some (.tup (fq re)) ∧ H pu = some (.lst (ps.map V.ref)) ∧ TagsAt H ps us
theorem TdM.same {C : Addr} {H H' : Hp} {p : Addr} {lat : Int} {re : Rat} {us : List Sw.T3} (h : TdM C H p lat re us) (s : Same H H') : TdM C H' p lat re us := by
  obtain ⟨dx, fs, pr, pu, pe, ps, h1, h2, h3, h4, h5⟩ := h.ex
  exact ⟨dx, fs, pr, pu, pe, ps, s _ _ h1, h2, s _ _ h3, s _ _ h4, tags_same h5 s⟩
end L2
namespace L2
open PySem PySem.Spec PyProof.Rows
theorem n_latest_reached : ¬ (("latest" : Str) = "reached") := by decide +kernel
theorem n_latest_unflowed : ¬ (("latest" : Str) = "unflowed") := by decide +kernel
theorem n_latest_last_ends : ¬ (("latest" : Str) = "last_ends") := by decide +kernel
theorem n_reached_unflowed : ¬ (("reached" : Str) = "unflowed") := by decide +kernel
theorem n_reached_last_ends : ¬ (("reached" : Str) = "last_ends") := by decide +kernel
theorem n_unflowed_last_ends : ¬ (("unflowed" : Str) = "last_ends") := by decide +kernel
theorem FT.mk0 (pr pu pe : Addr) : FT (putF "last_ends" (.ref pe) (putF "unflowed" (.ref pu) (putF "reached" (.ref pr) (putF "latest" (.int 0) [])))) 0 pr pu pe := by
  refine ⟨?_, ?_, ?_, ?_, fun m h1 h2 h3 h4 => ?_, ?_⟩
  · rw [lookup_putF, if_neg n_latest_last_ends, lookup_putF, if_neg n_latest_unflowed, lookup_putF, if_neg n_latest_reached, lookup_putF, if_pos rfl]
  · rw [lookup_putF, if_neg n_reached_last_ends, lookup_putF, if_neg n_reached_unflowed, lookup_putF, if_pos rfl]
  · rw [lookup_putF, if_neg n_unflowed_last_ends, lookup_putF, if_pos rfl]
  · rw [lookup_putF, if_pos rfl]
  · rw [lookup_putF, if_neg h4, lookup_putF, if_neg h3, lookup_putF, if_neg h2, lookup_putF, if_neg h1]; rfl
  · have a1 := putF_len' (fs := []) (f := "latest") (v := .int 0)
    have a2 := putF_len' (fs := putF "latest" (.int 0) []) (f := "reached") (v := .ref pr)
    have a3 := putF_len' (fs := putF "reached" (.ref pr) (putF "latest" (.int 0) [])) (f := "unflowed") (v := .ref pu)
    have a4 := putF_len' (fs := putF "unflowed" (.ref pu) (putF "reached" (.ref pr) (putF "latest" (.int 0) []))) (f := "last_ends") (v := .ref pe)
    simp only [List.length_nil] at a1
    omega
def EnAt (H : Hp) (kvs : List (Key × V)) (en : Int → Option Rat) : Prop := ∀ w : Int, (en w = none ∧ valV kvs (Sum.inl w : Key) = none) ∨ ∃ e q, en w = some e ∧ valV kvs (Sum.inl w : Key) = some (.ref q) ∧ H q = some (.tup (fq e))
theorem EnAt.keep {H H' : Hp} {kvs : List (Key × V)} {en : Int → Option Rat} (h : EnAt H kvs en) (e : ∀ p xs, H p = some (.tup xs) → H' p = some (.tup xs)) : EnAt H' kvs en := fun w => by
  rcases h w with z | ⟨x, q, h1, h2, h3⟩
  · exact .inl z
  · exact .inr ⟨x, q, h1, h2, e _ _ h3⟩
def setE (en : Int → Option Rat) (w : Int) (e : Rat) : Int → Option Rat := fun v => if v = w then some e else en v
theorem EnAt.put {H : Hp} {kvs : List (Key × V)} {en : Int → Option Rat} {w : Int} {e : Rat} {q : Addr} (h : EnAt H kvs en) (hq : H q = some (.tup (fq e))) : EnAt H (putK kvs (Sum.inl w) (.ref q)) (setE en w e) := fun v => by
  rw [valV_put]
  unfold setE
  by_cases hv : v = w
  · subst hv
    rw [if_pos rfl, if_pos rfl]
    exact .inr ⟨e, q, rfl, rfl, hq⟩
  · rw [if_neg hv, if_neg (by intro z; exact hv (Sum.inl.inj z))]
    exact h v
structure Td (C : Addr) (H : Hp) (p pe : Addr) (lat : Int) (re : Rat) (us : List Sw.T3) (en : Int → Option Rat) (m : Nat) : Prop where
  ex : ∃ dx fs pr pu ps kvs, H p = some (.ins C dx fs) ∧ FT fs lat pr pu pe ∧ H pr = some (.tup (fq re)) ∧ H pu = some (.lst (ps.map V.ref)) ∧ TagsAt H ps us ∧ H pe = some (.dK kvs) ∧ EnAt H kvs en ∧ kvs.length ≤ m ∧ us.length ≤ m
theorem Td.m {C : Addr} {H : Hp} {p pe : Addr} {lat : Int} {re : Rat} {us : List Sw.T3} {en : Int → Option Rat} {m : Nat} (h : Td C H p pe lat re us en m) : TdM C H p lat re us := by
  obtain ⟨dx, fs, pr, pu, ps, kvs, h1, h2, h3, h4, h5, _⟩ := h.ex
  exact ⟨dx, fs, pr, pu, pe, ps, h1, h2, h3, h4, h5⟩
theorem Td.same {C : Addr} {H H' : Hp} {p pe : Addr} {lat : Int} {re : Rat} {us : List Sw.T3} {en : Int → Option Rat} {m : Nat} (h : Td C H p pe lat re us en m) (s : Same H H') : Td C H' p pe lat re us en m := by
  obtain ⟨dx, fs, pr, pu, ps, kvs, h1, h2, h3, h4, h5, h6, h7, h8⟩ := h.ex
  exact ⟨dx, fs, pr, pu, ps, kvs, s _ _ h1, h2, s _ _ h3, s _ _ h4, tags_same h5 s, s _ _ h6, h7.keep fun _ _ q => s _ _ q, h8⟩
def Kept (p d : Addr) (H H' : Hp) : Prop := ∀ b o, b ≠ p → b ≠ d → H b = some o → H' b = some o
theorem Same.kept {p d : Addr} {H H' : Hp} (h : Same H H') : Kept p d H H' := fun b o _ _ e => h b o e
theorem Kept.trans {p d : Addr} {H H1 H2 : Hp} (a : Kept p d H H1) (b : Kept p d H1 H2) : Kept p d H H2 := fun c o n1 n2 h => b c o n1 n2 (a c o n1 n2 h)
theorem Kept.other {C C' : Addr} {H H' : Hp} {p pe q qe dx' : Addr} {fs' : List (Str × V)} {kvs' : List (Key × V)} {lat : Int} {re : Rat} {us : List Sw.T3} {en : Int → Option Rat} {m : Nat} (h : Td C H p pe lat re us en m) (k : Kept q qe H H') (hq : H q = some (.ins C' dx' fs')) (hqe : H qe = some (.dK kvs')) (n1 : p ≠ q) (n2 : pe ≠ qe) : Td C H' p pe lat re us en m := by
  obtain ⟨dx, fs, pr, pu, ps, kvs, h1, h2, h3, h4, h5, h6, h7, h8⟩ := h.ex
  have kt : ∀ p xs, H p = some (.tup xs) → H' p = some (.tup xs) := fun p xs e => k _ _ (ne_of e hq (by intro z; cases z)) (ne_of e hqe (by intro z; cases z)) e
  exact ⟨dx, fs, pr, pu, ps, kvs, k _ _ n1 (ne_of h1 hqe (by intro z; cases z)) h1, h2, kt _ _ h3, k _ _ (ne_of h4 hq (by intro z; cases z)) (ne_of h4 hqe (by intro z; cases z)) h4, tags_keep h5 kt, k _ _ (ne_of h6 hq (by intro z; cases z)) n2 h6, h7.keep kt, h8⟩
end L2
namespace Sw
open L2
end Sw
namespace L2
open PySem PySem.Spec PyProof.Rows
end L2
namespace L2
open PySem PySem.Spec PyProof.Rows
def Ite1 (K : PySem.W.Frag) (a : Addr) : It :=
  ⟨fun i H => ∃ xs x, SqL K H a xs ∧ xs[i]? = some x,
   fun i H y H' => ∃ p x, y = .ref p ∧ H p = none ∧ (∀ xs, SqL K H a xs → xs[i]? = some x) ∧ H' = upd H p (.tup [.int ((i + 1 : Nat) : Int), x]),
   fun i H => ∃ xs, SqL K H a xs ∧ xs.length = i⟩
section
variable {X : Cx}
def iEnum1 (K : PySem.W.Frag) (ta : TA) : TI := fun σ H R => ta σ H fun vs H1 => ∃ a, vs = [.ref a] ∧ (∃ xs, SqL K H1 a xs) ∧ R (Ite1 K a) H1
end
end L2
namespace L2
open PySem PySem.Spec PyProof.Rows
section
variable {X : Cx}
def Itv (K : PySem.W.Frag) (a : Addr) (xs : List V) : It :=
  ⟨fun i H => SqL K H a xs ∧ i < xs.length, fun i H x H' => H' = H ∧ xs.reverse[i]? = some x, fun i H => SqL K H a xs ∧ xs.length = i⟩
def iRev (K : PySem.W.Frag) (ta : TA) : TI := fun σ H R => ta σ H fun vs H1 => ∃ a xs, vs = [.ref a] ∧ SqL K H1 a xs ∧ R (Itv K a xs) H1
end
end L2
namespace L2
end L2
namespace L2
open PySem PySem.Spec PyProof.Rows
def DSd (H : Hp) (a : Addr) (y d : V) (v : V) (H' : Hp) : Prop := ∃ kvs k, H a = some (.dK kvs) ∧ y = kV k ∧ kvs.length < sizeLine ∧ ((valV kvs k = some v ∧ H' = H) ∨ (valV kvs k = none ∧ v = d ∧ H' = upd H a (.dK (putK kvs k d))))
section
variable {X : Cx} {pins : List (Addr × Obj)} {σ : St} {H H' : Hp} {s : Shared} {a : Addr} {y d v : V} {u r : Value} {A : Around} {E : Value → Shared → Prop}
end
def tDSd (td ty tx : TE) : TE := fun σ H Q => td σ H fun x H1 => ∃ a, x = .ref a ∧ IsD H1 a ∧ ty σ H1 fun y H2 => tx σ H2 fun z H3 => ∃ v H4, DSd H3 a y z v H4 ∧ Q v H4
section
variable {X : Cx} {o e f : Expr} {td ty tx : TE} {apos cpos : Pos}
end
end L2
namespace Sw
open L2
def ov (low high : Rat) (u : T3) : Rat := if u.2.1 ≤ low then 0 else if high ≤ u.1 then 0 else (if u.2.1 ≤ high then u.2.1 else high) - (if low ≤ u.1 then u.1 else low)
def went (low high : Rat) : List T3 → Rat
  | [] => 0
  | u :: r => (u.2.2 : Rat) * ov low high u + went low high r
theorem ov_add {l m h : Rat} {u : T3} (h1 : l ≤ m) (h2 : m ≤ h) (hu : u.1 ≤ u.2.1) : ov l h u = ov l m u + ov m h u := by
  unfold ov
  grind
theorem went_add {l m h : Rat} (h1 : l ≤ m) (h2 : m ≤ h) : ∀ {us : List T3}, (∀ u ∈ us, u.1 ≤ u.2.1) → went l h us = went l m us + went m h us
  | [], _ => by unfold went; grind
  | u :: r, hu => by
    have e := ov_add (u := u) h1 h2 (hu u (by simp))
    have ih := went_add h1 h2 (us := r) fun x hx => hu x (List.mem_cons_of_mem _ hx)
    unfold went
    rw [e, ih, Rat.mul_add]
    grind
def Chain (us : List T3) (m : Rat) : Prop := ∀ u ∈ us, u.1 ≤ m ∨ ∃ v ∈ us, v.2.1 = u.1 ∧ v.1 < v.2.1
theorem Chain.on {us : List T3} {m m' : Rat} (h : Chain us m) (le : m ≤ m') : Chain us m' := fun u hu => by
  rcases h u hu with q | q
  · exact .inl (by grind)
  · exact .inr q
theorem filter_lt_len {l : List T3} {a b : Rat} (h : a < b) (hw : ∃ v ∈ l, v.1 = a) : (l.filter fun u => decide (u.1 < a)).length < (l.filter fun u => decide (u.1 < b)).length := by
  obtain ⟨v, hv, e⟩ := hw
  refine filter_len_lt (fun x _ hx => ?_) ⟨v, hv, decide_eq_true (by rw [e]; exact h), by rw [e]; simp only [decide_eq_false_iff_not]; grind⟩
  simp only [decide_eq_true_eq] at hx ⊢
  grind
theorem chain_first {us : List T3} {m : Rat} (c : Chain us m) : ∀ (n : Nat) (u : T3), u ∈ us → m < u.1 → (us.filter fun x => decide (x.1 < u.1)).length ≤ n → ∃ h ∈ hds us m, h.2.1 ≤ u.1
  | 0, u, hu, hm, hn => by
    rcases c u hu with q | ⟨v, hv, e1, e2⟩
    · grind
    · have : v ∈ us.filter fun x => decide (x.1 < u.1) := List.mem_filter.mpr ⟨hv, decide_eq_true (by grind)⟩
      have hz := List.length_eq_zero_iff.mp (Nat.le_zero.mp hn)
      rw [hz] at this
      cases this
  | n + 1, u, hu, hm, hn => by
    rcases c u hu with q | ⟨v, hv, e1, e2⟩
    · grind
    · by_cases hvm : v.1 ≤ m
      · refine ⟨v, List.mem_filter.mpr ⟨hv, ?_⟩, by grind⟩
        unfold isHd
        rw [decide_eq_false (by grind), decide_eq_true (by rw [e1]; exact hm)]
        rfl
      · have lt := filter_lt_len (l := us) (a := v.1) (b := u.1) (by grind) ⟨v, hv, rfl⟩
        obtain ⟨h, h1, h2⟩ := chain_first c n v hv (by grind) (by omega)
        exact ⟨h, h1, by grind⟩
theorem foldl_min_le : ∀ (l : List Rat) (d : Rat), l.foldl min d ≤ d ∧ ∀ x ∈ l, l.foldl min d ≤ x
  | [], d => ⟨by show d ≤ d; grind, fun x h => absurd h List.not_mem_nil⟩
  | q :: r, d => by
    obtain ⟨h1, h2⟩ := foldl_min_le r (min d q)
    have hm : min d q ≤ d ∧ min d q ≤ q := by rw [Rat.min_def]; split <;> constructor <;> grind
    refine ⟨by rw [List.foldl_cons]; grind, fun x hx => ?_⟩
    rw [List.foldl_cons]
    rcases List.mem_cons.mp hx with e | e
    · subst e; grind
    · exact h2 x e
theorem fstE_le {hs : List T3} {u : T3} (h : u ∈ hs) : fstE hs ≤ u.2.1 := by
  unfold fstE
  have hm : u.2.1 ∈ hs.map fun u => u.2.1 := List.mem_map.mpr ⟨u, h, rfl⟩
  generalize (hs.map fun u => u.2.1) = l at hm
  cases l with
  | nil => cases hm
  | cons q r => exact (foldl_min_le (q :: r) q).2 _ hm
theorem sumS_cons (u : T3) (r : List T3) : sumS (u :: r) = u.2.2 + sumS r := by unfold sumS; simp
theorem went_heads {m h : Rat} (le : m ≤ h) : ∀ {us : List T3}, (∀ u ∈ us, isHd m u = true → h ≤ u.2.1) → (∀ u ∈ us, m < u.1 → h ≤ u.1) → (∀ u ∈ us, u.1 ≤ u.2.1) → went m h us = (sumS (hds us m) : Rat) * (h - m)
  | [], _, _, _ => by
    have : sumS (hds [] m) = 0 := rfl
    rw [this]
    unfold went
    have z : ((0 : Int) : Rat) = 0 := rfl
    rw [z]; grind
  | u :: r, h1, h2, h3 => by
    have ih := went_heads le (us := r) (fun x hx => h1 x (List.mem_cons_of_mem _ hx)) (fun x hx => h2 x (List.mem_cons_of_mem _ hx)) fun x hx => h3 x (List.mem_cons_of_mem _ hx)
    have a1 := h1 u (by simp)
    have a2 := h2 u (by simp)
    have a3 := h3 u (by simp)
    have eh : hds (u :: r) m = (if isHd m u = true then u :: hds r m else hds r m) := by
      unfold hds
      rw [List.filter_cons]
    unfold went
    rw [ih, eh]
    cases e : isHd m u with
    | true =>
      rw [if_pos rfl, sumS_cons, Rat.intCast_add]
      have a1 := a1 e
      unfold isHd at e
      simp only [Bool.and_eq_true, Bool.not_eq_true', decide_eq_true_eq, decide_eq_false_iff_not] at e
      have eo : ov m h u = h - m := by
        unfold ov
        grind
      rw [eo, Rat.add_mul]
    | false =>
      rw [if_neg (by decide)]
      have eo : ov m h u = 0 := by
        unfold isHd at e
        unfold ov
        by_cases q : m < u.1
        · have := a2 q
          grind
        · rw [decide_eq_false q] at e
          have : ¬ m < u.2.1 := by simpa using e
          grind
      rw [eo]
      grind
theorem mark_went {us : List T3} {D B : Int} {t : Rat} (ok : ∀ u ∈ us, TagOk D B u) : ∀ (n : Nat) (mo re : Rat), Chain us re → mo ≤ t → ahead us re < n →
    re ≤ markF us t n mo re ∧ (((∃ u ∈ us, markF us t n mo re < u.2.1) ∧ went re (markF us t n mo re) us = t - mo) ∨ ((∀ u ∈ us, u.2.1 ≤ markF us t n mo re) ∧ went re (markF us t n mo re) us ≤ t - mo))
  | 0, mo, re, _, _, h => absurd h (by omega)
  | n + 1, mo, re, ch, hm, ha => by
    have be : ∀ u ∈ us, u.1 ≤ u.2.1 := fun u h => (ok u h).be
    unfold markF
    by_cases hn : hds us re = []
    · rw [if_pos hn]
      have w0 : went re re us = 0 := by
        have := went_add (l := re) (m := re) (h := re) (by grind) (by grind) be
        grind
      refine ⟨by grind, .inr ⟨fun u hu => ?_, by rw [w0]; grind⟩⟩
      rcases Classical.em (u.2.1 ≤ re) with q | q
      · exact q
      · exfalso
        by_cases hb : u.1 ≤ re
        · have : u ∈ hds us re := List.mem_filter.mpr ⟨hu, by unfold isHd; rw [decide_eq_false (by grind), decide_eq_true (by grind)]; rfl⟩
          rw [hn] at this; cases this
        · obtain ⟨h, h1, _⟩ := chain_first ch _ u hu (by grind) (Nat.le_refl _)
          rw [hn] at h1; cases h1
    · rw [if_neg hn]
      have gt := fstE_gt hn
      have hok : ∀ u ∈ hds us re, TagOk D B u := fun u h => ok u (hds_mem h).1
      have hS := sumS_ok hok hn
      have Sp : (0 : Rat) < (sumS (hds us re) : Rat) := q_cast_pos (by omega)
      have seg : ∀ h, re ≤ h → h ≤ fstE (hds us re) → went re h us = (sumS (hds us re) : Rat) * (h - re) := fun h l1 l2 => went_heads l1 (fun u hu e => by
          have : fstE (hds us re) ≤ u.2.1 := fstE_le (List.mem_filter.mpr ⟨hu, e⟩)
          grind) (fun u hu q => by
          obtain ⟨v, v1, v2⟩ := chain_first ch _ u hu q (Nat.le_refl _)
          have := fstE_le v1
          grind) be
      have al := ahead_lt hn
      obtain ⟨uf, huf, ef⟩ := fstE_mem hn
      by_cases hlt : t < mo + (fstE (hds us re) - re) * (sumS (hds us re) : Rat)
      · rw [if_pos hlt]
        have x0 : 0 ≤ (t - mo) / (sumS (hds us re) : Rat) := by
          have : ¬ (t - mo) / (sumS (hds us re) : Rat) < 0 := by rw [Rat.div_lt_iff Sp]; grind
          grind
        have x1 : (t - mo) / (sumS (hds us re) : Rat) < fstE (hds us re) - re := by rw [Rat.div_lt_iff Sp]; grind
        refine ⟨by grind, .inl ⟨⟨uf, (hds_mem huf).1, by rw [← ef]; grind⟩, ?_⟩⟩
        rw [seg _ (by grind) (by grind)]
        have : (sumS (hds us re) : Rat) ≠ 0 := by grind
        grind
      · rw [if_neg hlt]
        have sg := seg (fstE (hds us re)) (by grind) (by grind)
        obtain ⟨i1, i2⟩ := mark_went (t := t) ok n (mo + (fstE (hds us re) - re) * (sumS (hds us re) : Rat)) (fstE (hds us re)) (ch.on (by grind)) (by grind) (by omega)
        have ad := went_add (l := re) (m := fstE (hds us re)) (h := markF us t n (mo + (fstE (hds us re) - re) * (sumS (hds us re) : Rat)) (fstE (hds us re))) (by grind) i1 be
        refine ⟨by grind, ?_⟩
        rcases i2 with ⟨j1, j2⟩ | ⟨j1, j2⟩
        · exact .inl ⟨j1, by rw [ad, sg, j2]; grind⟩
        · exact .inr ⟨j1, by rw [ad, sg]; grind⟩
end Sw
namespace Sw
open L2
theorem markF_ge {us : List T3} {D B : Int} {t : Rat} (ok : ∀ u ∈ us, TagOk D B u) : ∀ (n : Nat) (mo re : Rat), mo ≤ t → re ≤ markF us t n mo re
  | 0, mo, re, _ => by unfold markF; grind
  | n + 1, mo, re, hm => by
    unfold markF
    by_cases hn : hds us re = []
    · rw [if_pos hn]; grind
    · rw [if_neg hn]
      have gt := fstE_gt hn
      have hS := sumS_ok (fun u h => ok u (hds_mem h).1) hn
      have Sp : (0 : Rat) < (sumS (hds us re) : Rat) := q_cast_pos (by omega)
      by_cases hlt : t < mo + (fstE (hds us re) - re) * (sumS (hds us re) : Rat)
      · rw [if_pos hlt]
        have : ¬ (t - mo) / (sumS (hds us re) : Rat) < 0 := by rw [Rat.div_lt_iff Sp]; grind
        grind
      · rw [if_neg hlt]
        have := markF_ge (t := t) ok n (mo + (fstE (hds us re) - re) * (sumS (hds us re) : Rat)) (fstE (hds us re)) (by grind)
        grind
theorem markF_mono {us : List T3} {D B : Int} {t t' : Rat} (ok : ∀ u ∈ us, TagOk D B u) (h : t ≤ t') : ∀ (n : Nat) (mo re : Rat), mo ≤ t → markF us t n mo re ≤ markF us t' n mo re
  | 0, mo, re, _ => by unfold markF; grind
  | n + 1, mo, re, hm => by
    unfold markF
    by_cases hn : hds us re = []
    · rw [if_pos hn, if_pos hn]; grind
    · rw [if_neg hn, if_neg hn]
      have gt := fstE_gt hn
      have hS := sumS_ok (fun u h => ok u (hds_mem h).1) hn
      have Sp : (0 : Rat) < (sumS (hds us re) : Rat) := q_cast_pos (by omega)
      have Sn : (sumS (hds us re) : Rat) ≠ 0 := by grind
      by_cases h1 : t < mo + (fstE (hds us re) - re) * (sumS (hds us re) : Rat)
      · rw [if_pos h1]
        by_cases h2 : t' < mo + (fstE (hds us re) - re) * (sumS (hds us re) : Rat)
        · rw [if_pos h2]
          have : ¬ (t' - mo) / (sumS (hds us re) : Rat) < (t - mo) / (sumS (hds us re) : Rat) := by
            rw [Rat.div_lt_iff Sp, show (t - mo) / (sumS (hds us re) : Rat) * (sumS (hds us re) : Rat) = t - mo by grind]
            grind
          grind
        · rw [if_neg h2]
          have x1 : (t - mo) / (sumS (hds us re) : Rat) < fstE (hds us re) - re := by rw [Rat.div_lt_iff Sp]; grind
          have := markF_ge (t := t') ok n (mo + (fstE (hds us re) - re) * (sumS (hds us re) : Rat)) (fstE (hds us re)) (by grind)
          grind
      · rw [if_neg h1, if_neg (by grind)]
        exact markF_mono ok h n _ _ (by grind)
theorem markF_end {us : List T3} {D B : Int} {t : Rat} (ok : ∀ u ∈ us, TagOk D B u) : ∀ (n : Nat) (mo re : Rat), ahead us re < n → (∀ u ∈ us, u.2.1 ≤ markF us t n mo re) → markF us t n mo re = re ∨ ∃ u ∈ us, u.2.1 = markF us t n mo re
  | 0, mo, re, h, _ => absurd h (by omega)
  | n + 1, mo, re, ha, hall => by
    unfold markF at hall ⊢
    by_cases hn : hds us re = []
    · rw [if_pos hn]; exact .inl rfl
    · rw [if_neg hn] at hall ⊢
      have al := ahead_lt hn
      obtain ⟨uf, huf, ef⟩ := fstE_mem hn
      by_cases hlt : t < mo + (fstE (hds us re) - re) * (sumS (hds us re) : Rat)
      · rw [if_pos hlt] at hall ⊢
        have hS := sumS_ok (fun u h => ok u (hds_mem h).1) hn
        have Sp : (0 : Rat) < (sumS (hds us re) : Rat) := q_cast_pos (by omega)
        have x1 : (t - mo) / (sumS (hds us re) : Rat) < fstE (hds us re) - re := by rw [Rat.div_lt_iff Sp]; grind
        have := hall uf (hds_mem huf).1
        rw [← ef] at this
        grind
      · rw [if_neg hlt] at hall ⊢
        rcases markF_end ok n _ _ (by omega) hall with h | h
        · exact .inr ⟨uf, (hds_mem huf).1, by rw [h, ef]⟩
        · exact .inr h
end Sw
namespace Sw
open L2
structure AllIn (all us : List T3) (re : Rat) : Prop where
  ch : Chain us re
  sub : ∀ u ∈ us, u ∈ all
  sup : ∀ u ∈ all, u.2.1 ≤ re ∨ u ∈ us
  eq : ∀ low high, re ≤ low → low ≤ high → went low high all = went low high us
  top : (all = [] ∧ re = 0) ∨ ∃ u ∈ all, re ≤ u.2.1
theorem went_past {low high : Rat} : ∀ {us : List T3}, (∀ u ∈ us, u.2.1 ≤ low) → went low high us = 0
  | [], _ => rfl
  | u :: r, h => by
    have h1 := h u (by simp)
    have ih := went_past (low := low) (high := high) (us := r) fun x hx => h x (List.mem_cons_of_mem _ hx)
    show (u.2.2 : Rat) * ov low high u + went low high r = 0
    rw [ih]
    unfold ov
    rw [if_pos h1]; grind
theorem AllIn.went {all us : List T3} {re : Rat} {D B lat now t : Int} (a : AllIn all us re) (ok : ∀ u ∈ us, TagOk D B u) (h1 : lat ≤ now) (h2 : now ≤ t) :
    markAt us lat re now ≤ markAt us lat re t ∧ (((∃ u ∈ all, markAt us lat re t < u.2.1) ∧ went (markAt us lat re now) (markAt us lat re t) all = ((t - now : Int) : Rat)) ∨
      ((∀ u ∈ all, u.2.1 ≤ markAt us lat re t) ∧ went (markAt us lat re now) (markAt us lat re t) all ≤ ((t - now : Int) : Rat) ∧ ((all = [] ∧ markAt us lat re t = 0) ∨ ∃ u ∈ all, u.2.1 = markAt us lat re t))) := by
  have c1 : (lat : Rat) ≤ (now : Rat) := Rat.intCast_le_intCast.mpr h1
  have c2 : (now : Rat) ≤ (t : Rat) := Rat.intCast_le_intCast.mpr h2
  have len := ahead_le us re
  have mono := markF_mono ok c2 (us.length + 1) (lat : Rat) re c1
  have g1 := mark_went ok (us.length + 1) (lat : Rat) re a.ch c1 (by omega)
  have g2 := mark_went ok (us.length + 1) (lat : Rat) re a.ch (show (lat : Rat) ≤ (t : Rat) by grind) (by omega)
  have ge := markF_end (t := (t : Rat)) ok (us.length + 1) (lat : Rat) re (by omega)
  have be : ∀ u ∈ us, u.1 ≤ u.2.1 := fun u h => (ok u h).be
  rw [Rat.intCast_sub]
  unfold markAt
  generalize markF us (now : Rat) (us.length + 1) (lat : Rat) re = lo at *
  generalize markF us (t : Rat) (us.length + 1) (lat : Rat) re = hi at *
  refine ⟨mono, ?_⟩
  rw [a.eq lo hi g1.1 mono]
  have ad := went_add g1.1 mono be
  rcases g2.2 with ⟨⟨u, hu, q⟩, w2⟩ | ⟨q, w2⟩
  · refine .inl ⟨⟨u, a.sub u hu, q⟩, ?_⟩
    rcases g1.2 with ⟨_, w1⟩ | ⟨q1, _⟩
    · grind
    · have := q1 u hu
      grind
  · refine .inr ⟨fun u hu => ?_, ?_, ?_⟩
    · rcases a.sup u hu with z | z
      · have := g2.1
        grind
      · exact q u z
    · rcases g1.2 with ⟨_, w1⟩ | ⟨q1, _⟩
      · grind
      · rw [went_past q1]; grind
    · rcases ge q with e | ⟨u, hu, e⟩
      · rcases a.top with ⟨e1, e2⟩ | ⟨u, hu, e1⟩
        · exact .inl ⟨e1, by rw [e, e2]⟩
        · refine .inr ⟨u, hu, ?_⟩
          rcases a.sup u hu with z | z
          · grind
          · have := q u z
            grind
      · exact .inr ⟨u, a.sub u hu, e⟩
theorem AllIn.nil : AllIn [] [] 0 := ⟨fun u h => absurd h List.not_mem_nil, fun u h => absurd h List.not_mem_nil, fun u h => absurd h List.not_mem_nil, fun _ _ _ _ => rfl, .inl ⟨rfl, rfl⟩⟩
end Sw
namespace L2
open PySem PySem.Spec PyProof.Rows
section
variable {X : Cx}
end
abbrev D2 := Int × Int
def d2 (g : D2) : List V := [.int g.1, .int g.2]
abbrev Duos (H : Hp) : List Addr → List D2 → Prop := Paired fun p g => H p = some (.tup (d2 g))
theorem Duos.len {H : Hp} {ps : List Addr} {gs : List D2} (h : Duos H ps gs) : ps.length = gs.length := Paired.length h
theorem Duos.keep {H H' : Hp} {ps : List Addr} {gs : List D2} (h : Duos H ps gs) (e : ∀ p xs, H p = some (.tup xs) → H' p = some (.tup xs)) : Duos H' ps gs := Paired.mapP h fun _ _ q => e _ _ q
theorem Duos.same {H H' : Hp} {ps : List Addr} {gs : List D2} (h : Duos H ps gs) (e : Same H H') : Duos H' ps gs := h.keep fun _ _ q => e _ _ q
theorem Duos.app {H : Hp} {rs : List Addr} {ss : List D2} (h2 : Duos H rs ss) : ∀ {ps : List Addr} {gs : List D2}, Duos H ps gs → Duos H (ps ++ rs) (gs ++ ss)
  | _, _, Paired.nil => h2
  | _, _, Paired.cons a b => .cons a (Duos.app h2 b)
theorem Duos.take {H : Hp} : ∀ {ps : List Addr} {gs : List D2} (n : Nat), Duos H ps gs → Duos H (ps.take n) (gs.take n)
  | _, _, 0, _ => .nil
  | _, _, _ + 1, Paired.nil => .nil
  | _, _, n + 1, Paired.cons a b => .cons a (Duos.take n b)
theorem Duos.drop {H : Hp} : ∀ {ps : List Addr} {gs : List D2} (n : Nat), Duos H ps gs → Duos H (ps.drop n) (gs.drop n)
  | _, _, 0, h => h
  | _, _, _ + 1, Paired.nil => .nil
  | _, _, n + 1, Paired.cons _ b => Duos.drop n b
theorem Duos.get {H : Hp} : ∀ {ps : List Addr} {gs : List D2} {i : Nat} {p : Addr}, Duos H ps gs → ps[i]? = some p → ∃ q, gs[i]? = some q ∧ H p = some (.tup (d2 q))
  | _, _, _, _, Paired.nil, e => by simp at e
  | _, _, 0, _, Paired.cons a _, e => by simp at e; subst e; exact ⟨_, rfl, a⟩
  | _, _, i + 1, _, Paired.cons _ b, e => by
    obtain ⟨q, h1, h2⟩ := Duos.get (i := i) b (by simpa using e)
    exact ⟨q, by simpa using h1, h2⟩
structure Gos (H : Hp) (l : Addr) (ps : List Addr) (gs : List D2) : Prop where
  hl : H l = some (.lst (ps.map V.ref))
  r : Duos H ps gs
theorem Gos.same {H H' : Hp} {l : Addr} {ps : List Addr} {gs : List D2} (R : Gos H l ps gs) (e : Same H H') : Gos H' l ps gs := ⟨e _ _ R.hl, R.r.same e⟩
theorem Gos.upd {H : Hp} {l f : Addr} {ps : List Addr} {gs : List D2} {xs ys : List V} (R : Gos H l ps gs) (hf : H f = some (.lst xs)) (ne : l ≠ f) : Gos (L2.upd H f (.lst ys)) l ps gs :=
  ⟨by rw [upd_ne ne]; exact R.hl, R.r.keep fun p z e => by rw [upd_ne (ne_of e hf (by intro w; cases w))]; exact e⟩
theorem Row.item {H : Hp} {l : Addr} {ps : List Addr} {qs : List Q4} (R : Row H l ps qs) {i : Int} (h0 : 0 ≤ i) (h1 : i < qs.length) : ∃ p q, atI (ps.map V.ref) i = some (.ref p) ∧ qs[i.toNat]? = some q ∧ H p = some (.tup (q4 q)) := by
  have len := R.r.len
  have hp : ps[i.toNat]? = some (ps[i.toNat]'(by omega)) := List.getElem?_eq_getElem _
  obtain ⟨q, h2, h3⟩ := R.r.get hp
  have := atI_nat (xs := ps.map V.ref) (j := i.toNat) (v := V.ref (ps[i.toNat]'(by omega))) (by rw [List.getElem?_map, hp]; rfl)
  rw [Int.toNat_of_nonneg h0] at this
  exact ⟨_, q, this, h2, h3⟩
theorem Gos.item {H : Hp} {l : Addr} {ps : List Addr} {gs : List D2} (R : Gos H l ps gs) {i : Int} (h0 : 0 ≤ i) (h1 : i < gs.length) : ∃ p g, atI (ps.map V.ref) i = some (.ref p) ∧ g ∈ gs ∧ H p = some (.tup (d2 g)) := by
  have len := R.r.len
  have hp : ps[i.toNat]? = some (ps[i.toNat]'(by omega)) := List.getElem?_eq_getElem _
  obtain ⟨q, h2, h3⟩ := R.r.get hp
  have := atI_nat (xs := ps.map V.ref) (j := i.toNat) (v := V.ref (ps[i.toNat]'(by omega))) (by rw [List.getElem?_map, hp]; rfl)
  rw [Int.toNat_of_nonneg h0] at this
  exact ⟨_, q, this, List.mem_of_getElem? h2, h3⟩
end L2
namespace Sw
open L2
def tooF (D num den t : Int) : List (Int × Int) → Int → Bool
  | [], _ => false
  | q :: l, S => if D + num * (t - q.1) < (S + q.2) * den then true else tooF D num den t l (S + q.2)
def paysF (ks : List Q4) (who : Int) : List (Int × Int) := (ks.reverse.filter fun q => decide (q.2.1 = who)).map fun q => (q.1, q.2.2.1)
abbrev Lines := Int → Option (Int × Rat)
def keepsF (ln : Lines) (ks : List Q4) (q : Q4) : Bool := match ln q.2.1 with
  | none => true
  | some (b, r) => !tooF (b * (r.den : Int)) r.num (r.den : Int) q.1 ((q.1, q.2.2.1) :: paysF ks q.2.1) 0
def stepF (ln : Lines) (ks : List Q4) (q : Q4) : List Q4 := if keepsF ln ks q = true then ks ++ [q] else ks
def dueF (ln : Lines) (qs : List Q4) : List Q4 := qs.foldl (stepF ln) []
end Sw
namespace L2
open PySem PySem.Spec PyProof.Rows
theorem comp_range {lo : Int} {n : Nat} {g : TG} {tc : TT} {te : TE} {D : Addr} {τ : St} {H : Hp} {Q : VK} (Pv : Nat → St → Hp → Prop) (h0 : Pv 0 τ H)
    (hs : ∀ i τ H, i < n → Pv i τ H → g (.int (lo + i)) τ H fun τ2 H3 => tc τ2 H3 fun b H4 => if b = true then te τ2 H4 fun y H5 => ∃ ys, H5 D = some (.lst ys) ∧ ys.length < sizeLine ∧ Pv (i + 1) τ2 (upd H5 D (.lst (ys ++ [y]))) else Pv (i + 1) τ2 H4)
    (hd : ∀ τ H, Pv n τ H → Q (.ref D) H) : CompG (Itr lo n) g tc te D τ H Q := by
  refine ⟨fun i m τ H => m = n - i ∧ i ≤ n ∧ Pv i τ H, ⟨n, by simp, Nat.zero_le _, h0⟩, ?_⟩
  rintro i m τ H ⟨rfl, hi, p⟩
  by_cases hlt : i < n
  · refine .inr ⟨hlt, Pv (i + 1), fun τ' H' p' => ⟨n - (i + 1), by omega, rfl, hlt, p'⟩, fun x H' y => ?_⟩
    obtain ⟨e, y⟩ := y
    subst e y
    exact hs i τ _ hlt p
  · have e : i = n := by omega
    subst e
    exact .inl ⟨Nat.le_refl _, hd τ H p⟩
end L2
namespace L2
open PySem PySem.Spec PyProof.Rows
section
variable {X : Cx}
theorem ps_setC {i0 : Nat} {y : Str} {py spos : Pos} {elt target iter : Expr} {ifs : List Expr} {scope : Scope} {pos : Pos} {cl : List (Str × Addr)} {ts : List Str} {fr : List (Str × Nat)} {wi : TI} {g : TG} {tc : TT} {te : TE} (hcalm : X.calm = true)
    (hclos : closureFor scope X.env = pure cl) (hcell : ∀ y ∈ scope.names, y.2 ≠ .cell) (hkind : scope.kind = .function) (hnames : ∀ y ∈ scope.names, y.2 = .local → scope.names.lookup y.1 = some .local)
    (hcl : ∀ x c, cl.lookup x = some c → X.env.cells.lookup x = some c)
    (hhas : ∀ x, ((relabel scope X.env).names.lookup x = some .cell ∨ (relabel scope X.env).names.lookup x = some .free) → ∃ c, cl.lookup x = some c) (hfr : FrOk X (relabel scope X.env) fr)
    (hi : PI X target iter wi) (hg : ∀ fp s H, PG (cxComp X scope cl (ts ++ fr.map (·.1)) fp s H) target g) (hc : ∀ fp s H, PIfs (cxComp X scope cl (ts ++ fr.map (·.1)) fp s H) ifs tc)
    (he : ∀ fp s H, PE (cxComp X scope cl (ts ++ fr.map (·.1)) fp s H) elt te) (hsw : swapsWith (.ListComp elt [⟨target, iter, ifs, 0⟩] scope pos) (some (.Name y py)) spos.line X.env = pure true) (hN : X.N.Nodup) (hiy : X.N[i0]? = some y) (hy : Loc X.env.scope y)
    (hs : ∀ x, foldedSetIterable iter X.env x = pure x := by intro _; rfl) (hf : X.fn y = true ∨ X.env.scope.names.lookup y = some .local := by first | exact .inl rfl | exact .inr rfl | assumption) :
    PS X (.Assign [.Name y py] (.ListComp elt [⟨target, iter, ifs, 0⟩] scope pos) spos) (tAsg (tComp ts.length fr wi g tc te) (gName i0)) := by
  intro pins s σ H D I h
  have h : tComp ts.length fr wi g tc te σ H (fun x H1 => D.nx (σ.set i0 (some x)) H1) := h
  rw [exec_Assign_Name_used _ _ _ _ hsw]
  refine wpAny_bind (wpAny_standAt (wpAny_bind ?_))
  show wpAny _ _ (do let _ ← comprehension (.ListComp elt [⟨target, iter, ifs, 0⟩] scope pos) scope X.env _ (newList []) false (eval iter X.env) (some (assign (.Name y py) X.env))) _ _ s
  refine wpAny_bind (wpAny_mono (wpAny_comprehension_free (use := some (assign (.Name y py) X.env)) (Q := fun _ s' => SP X pins D .next s') rfl hs hclos hkind hnames (thn (hi pins s σ H _ I h) fun xv s1 h1 => thn h1 fun itv s2 h2 => ?_)) (fun _ s' hq => wpAny_pure (wpAny_pure hq)) fun _ _ e => e)
  obtain ⟨it, fp, tn, J, H2, rfl, I2, T, st2, f2, hR⟩ := h2
  have D0 : H2 s2.heap.objs.size = none := I2.hok.fresh (Nat.le_refl _)
  obtain ⟨W, ⟨m0, w0⟩, turn⟩ := hR s2.heap.objs.size D0
  refine wpAny_newObj_type (wpAny_newFunctionEnv hcell (by intro y hy; simp at hy) (fun h₁ hns₁ hsb₁ => ?_) hkind)
  dsimp only at hns₁ hsb₁ ⊢
  have I3 : Inv X pins σ (upd H2 s2.heap.objs.size (.lst [])) { s2 with heap := s2.heap.push { cls := .type "list", dict := none, data := .seq ([] : List Value).toArray } } :=
    I2.laid (t' := s2.toks) (fun _ _ q => Heap.get?_push_of_some _ q) (Nat.le_refl _) ⟨Nat.zero_le _, [], 0, .nil, Heap.get?_push_size _ rfl⟩
  have kp3 : ∀ b o, s2.heap.get? b = some o → (s2.heap.push { cls := .type "list", dict := none, data := .seq ([] : List Value).toArray }).get? b = some o := fun b o q => Heap.get?_push_of_some _ q
  have sz3 : (s2.heap.push { cls := .type "list", dict := none, data := .seq ([] : List Value).toArray }).objs.size = s2.heap.objs.size + 1 := Heap.size_push ..
  generalize s2.heap.push { cls := .type "list", dict := none, data := .seq ([] : List Value).toArray } = hp3 at hns₁ hsb₁ I3 kp3 sz3 ⊢
  have kp : ∀ b o, hp3.get? b = some o → h₁.get? b = some o := fun b o e => hsb₁.extBut b o (Nat.ne_of_lt (Heap.lt_size e)) (Heap.get?_push_of_some _ e)
  have flt : ∀ b ∈ fp, b < s2.heap.objs.size := fun b hb => by
    obtain ⟨o, e, _⟩ := T.obj _ _ st2 b hb
    exact Heap.lt_size e
  have fr3 : ∀ b ∈ fp, (upd H2 s2.heap.objs.size (.lst [])) b = none := fun b hb => by rw [upd_ne (Nat.ne_of_lt (flt b hb))]; exact (f2 b hb).1
  have f3 : ∀ b ∈ fp, FpOk X pins (upd H2 s2.heap.objs.size (.lst [])) b ∧ b < hp3.objs.size := fun b hb => ⟨⟨fr3 b hb, (f2 b hb).2⟩, by rw [sz3]; exact Nat.lt_succ_of_lt (flt b hb)⟩
  have I4 := cx_start (ts := ts) (t' := s2.toks + ([] : List (Str × Value)).length) I3 hkind hcl hhas hfr f3 hns₁ kp
  have st4 : tn 0 h₁ := T.keep _ _ _ st2 fun b hb o e => kp b o (kp3 b o e)
  have loop : codeAny (model X.prog X.w) X.A (.compLoop (.ListComp elt [⟨target, iter, ifs, 0⟩] scope pos) 0 (.ref it) (.ref s2.heap.objs.size) (compEnvC scope cl hp3.objs.size X.env))
      (compPost (model X.prog X.w) X.A X.xe (some (assign (.Name y py) X.env)) (fun _ s' => SP X pins D .next s') (.ref s2.heap.objs.size) hp3.objs.size) { s2 with heap := h₁, toks := s2.toks + ([] : List (Str × Value)).length } := by
    refine codeAny_compLoop_go (fun n s' => ∃ i τ H', Inv (cxComp X scope cl (ts ++ fr.map (·.1)) fp { s2 with heap := hp3 } (upd H2 s2.heap.objs.size (.lst []))) [] τ H' s' ∧ tn i s'.heap ∧ (∀ b ∈ fp, H' b = none) ∧ W i n τ H') ?_ m0 ⟨0, _, _, I4, st4, fr3, w0⟩
    rintro n s5 ⟨i, τ, H5, I5, st5, fr5, w5⟩
    have stat : ∀ {H' : Hp}, (∀ b ∈ fp, H' b = none) → ∀ b ∈ fp, FpOk (cxComp X scope cl (ts ++ fr.map (·.1)) fp { s2 with heap := hp3 } (upd H2 s2.heap.objs.size (.lst []))) [] H' b :=
      fun hn b hb => ⟨hn b hb, (I5.ok.exf b hb).1, I5.ok.exfs b hb, .inl hb, (I5.ok.exf b hb).2, fun p hp => absurd (show p ∈ ([] : List (Addr × Obj)) from hp) (by simp)⟩
    rcases turn i n τ H5 w5 with ⟨stop, qn⟩ | ⟨go, Nn, hN, step⟩
    · refine thn (T.done (cxComp X scope cl (ts ++ fr.map (·.1)) fp { s2 with heap := hp3 } (upd H2 s2.heap.objs.size (.lst []))) rfl rfl rfl hcalm i [] s5 τ H5 _ I5 (stat fr5) st5 stop) fun r s6 ⟨hr, I6⟩ => ?_
      subst hr
      have neC : ∀ b o, hp3.get? b = some o → b ≠ hp3.objs.size := fun b o e => Nat.ne_of_lt (Heap.lt_size e)
      have I7 : Inv X pins σ H5 s6 := by
        refine I3.call' (s' := s6) (ch := fp) I6.os ⟨fun b o e n hb hx => I6.base.keep b o e n hb hx, fun b o e n hb hx => I6.base.slot b o e n hb hx, I6.base.free, fun b o e hx => I6.base.there b o e hx, I6.base.tups, I6.base.frzs, I6.base.tbls⟩ I6.hok I6.bare (fun b hb => ?_)
        exact ⟨(f2 b hb).2.2.2.1, (f2 b hb).2.1, (f2 b hb).2.2.2.2.1, (f2 b hb).2.2.2.2.2⟩
      have lC : X.env.locals ≠ hp3.objs.size := by
        obtain ⟨_, ⟨o, _, _, ho, _⟩, _⟩ := I3.loc
        exact neC _ o ho
      have cC : ∀ x c, X.env.cells.lookup x = some c → c ≠ hp3.objs.size := fun x c e => by
        obtain ⟨v, o, ho, _⟩ := I3.cell x c e
        exact neC _ o ho
      have fC : H5 hp3.objs.size = none := I6.free
      obtain ⟨m, hn, _⟩ := I6.loc
      show wpAny _ _ (assign (.Name y py) X.env (.ref s2.heap.objs.size)) _ _ _
      refine wpAny_assign_Name (store_ok2 I7 hN hiy hy (v := .ref s2.heap.objs.size) rfl (fun s8 I8 hsb => ?_) hf)
      obtain ⟨al, hs8, hal⟩ := hsb
      have alC : hp3.objs.size ≠ al := by
        rcases hal with z | z
        · rw [z]; exact Ne.symm lC
        · exact Ne.symm (cC _ _ z)
      have hs8 : Heap.SameBut al s6.heap s8.heap := hs8
      have hnC : s6.heap.Ns hp3.objs.size m := hn
      refine ⟨m, hnC.sameBut hs8 alC, fun h' hs' => ⟨σ.set i0 (some (.ref s2.heap.objs.size)), H5, ?_, qn⟩⟩
      have hs' : Heap.SameBut hp3.objs.size s8.heap h' := hs'
      refine I8.call' (s' := { s8 with heap := h' }) (ch := [hp3.objs.size]) rfl ⟨fun b o e n hb hx => ?_, fun b o e n hb hx => ?_, fun b o e n hx => n, fun b o e hx => ?_, fun _ _ q => q, fun _ _ _ q => q, fun b ps q => ⟨#[], by rw [q]; simp⟩⟩ (fun b ob e => ?_) I8.bare (fun b hb => ?_)
      · exact (hs'.2 b (fun z => hx (by simp [z]))).trans e
      · exact ⟨o.slots, (hs'.2 b (fun z => hx (by simp [z]))).trans e⟩
      · exact ⟨o, (hs'.2 b (fun z => hx (by simp [z]))).trans e⟩
      · refine (I8.hok b ob e).stay (fun c v hc q => (hs'.2 c ?_).trans q) (fun _ q => q) fun _ _ q => q
        intro z
        rcases hc with w | w
        · rw [← w, z, fC] at e; cases e
        · rw [z, fC] at w; cases w
      · have z : b = hp3.objs.size := by simpa using hb
        subst z
        refine ⟨.inr (Nat.le_trans (Nat.le_trans I2.sz (by rw [sz3]; exact Nat.le_succ _)) (Nat.le_refl _)), Ne.symm lC, cC, fun p hp e => ?_⟩
        obtain ⟨q1, _⟩ := I3.pin p hp
        exact neC _ _ q1 e
    · refine thn (T.item (cxComp X scope cl (ts ++ fr.map (·.1)) fp { s2 with heap := hp3 } (upd H2 s2.heap.objs.size (.lst []))) rfl rfl rfl hcalm i [] s5 τ H5 _ I5 (stat fr5) st5 go) fun r s6 ⟨u, hr, h6⟩ => ?_
      subst hr
      refine thn h6 fun _ s7 ⟨x, H7, I7, r7, y7, st7, fr7⟩ => ?_
      have I7' := I7.pinned (stat fr7) (T.obj _ _ st7)
      refine wpAny_mono (hg fp _ _ _ s7 τ H7 x u _ I7' r7 (step x H7 y7)) (fun _ s8 ⟨τ8, H8, I8, q8⟩ => ?_) fun _ _ z => False.elim z
      have again : ∀ {τ9 : St} {H9 : Hp} {s9 : Shared}, Inv (cxComp X scope cl (ts ++ fr.map (·.1)) fp { s2 with heap := hp3 } (upd H2 s2.heap.objs.size (.lst []))) ([] ++ pinsAt fp s7.heap) τ9 H9 s9 → Nn τ9 H9 →
          ∃ m, m < n ∧ ∃ i τ H', Inv (cxComp X scope cl (ts ++ fr.map (·.1)) fp { s2 with heap := hp3 } (upd H2 s2.heap.objs.size (.lst []))) [] τ H' s9 ∧ tn i s9.heap ∧ (∀ b ∈ fp, H' b = none) ∧ W i m τ H' := fun {τ9 H9 s9} I9 n9 => by
        obtain ⟨m', hm, w9⟩ := hN τ9 H9 n9
        refine ⟨m', hm, i + 1, τ9, H9, I9.unpinned, T.keep _ _ _ st7 fun b hb o e => (I9.pin (b, o) (List.mem_append_right _ (List.mem_append_right _ (mem_pinsAt hb e)))).1, fun b hb => ?_, w9⟩
        obtain ⟨o, e, d⟩ := T.obj _ _ st7 b hb
        exact (I9.pin (b, o) (List.mem_append_right _ (List.mem_append_right _ (mem_pinsAt hb e)))).2.1
      refine wpAny_mono (hc fp _ _ _ s8 τ8 H8 _ I8 q8) (fun ok s9 ⟨H9, I9, q9⟩ => ?_) fun _ _ z => False.elim z
      cases ok with
      | false => exact again I9 q9
      | true =>
        refine wpAny_mono (he fp _ _ _ s9 τ8 H9 _ I9 q9) (fun y s10 ⟨v, H10, I10, rv, ys, hD, hl, qN⟩ => ?_) fun _ _ z => False.elim z
        refine wpAny_mono (mt_append (X := cxComp X scope cl (ts ++ fr.map (·.1)) fp { s2 with heap := hp3 } (upd H2 s2.heap.objs.size (.lst []))) _ s10 τ8 H10 (.ref s2.heap.objs.size) [v] (.ref s2.heap.objs.size) [y] (fun _ H => Nn τ8 H) I10 rfl (.cons rv .nil) ⟨_, ys, v, rfl, rfl, hD, hl, qN⟩) (fun _ s11 ⟨_, H11, I11, _, q11⟩ => again I11 q11) fun _ _ z => False.elim z
  exact codeAny_compStart_list loop (T.self X.A 0 _ _ _ st4 loop)
theorem ps_setL {i0 : Nat} {y : Str} {py spos : Pos} {elt target iter : Expr} {ifs : List Expr} {scope : Scope} {pos : Pos} {cl : List (Str × Addr)} (ts : List Str) (fr : List (Str × Nat)) {wi : TI} {g : TG} {tc : TT} {te : TE} (hcalm : X.calm = true)
    (hclos : closureFor scope X.env = pure cl) (hcell : ∀ y ∈ scope.names, y.2 ≠ .cell) (hkind : scope.kind = .function) (hnames : ∀ y ∈ scope.names, y.2 = .local → scope.names.lookup y.1 = some .local)
    (hcl : ClOk X.env cl) (hhas : clAll (relabel scope X.env).names cl = true) (hfr : FrOk X (relabel scope X.env) fr)
    (hi : PI X target iter wi) (hg : ∀ fp s H, PG (cxComp X scope cl (ts ++ fr.map (·.1)) fp s H) target g) (hc : ∀ fp s H, PIfs (cxComp X scope cl (ts ++ fr.map (·.1)) fp s H) ifs tc)
    (he : ∀ fp s H, PE (cxComp X scope cl (ts ++ fr.map (·.1)) fp s H) elt te)
    (hsw : swapsWith (.ListComp elt [⟨target, iter, ifs, 0⟩] scope pos) (some (.Name y py)) spos.line X.env = pure true) (hN : X.N.Nodup) (hiy : X.N[i0]? = some y) (hy : Loc X.env.scope y)
    (hs : ∀ x, foldedSetIterable iter X.env x = pure x := by intro _; rfl) (hf : X.fn y = true ∨ X.env.scope.names.lookup y = some .local := by first | exact .inl rfl | exact .inr rfl | assumption) :
    PS X (.Assign [.Name y py] (.ListComp elt [⟨target, iter, ifs, 0⟩] scope pos) spos) (tAsg (tComp ts.length fr wi g tc te) (gName i0)) :=
  ps_setC hcalm hclos hcell hkind hnames hcl.get (fun x q => clAll_get hhas x q) hfr hi hg hc he hsw hN hiy hy hs hf
end
end L2
namespace L2
open PySem PySem.Spec PyProof.Rows
theorem kV_of {P : Program} {w : World} {k : Key} {u : Value} (h : (mixKind P w).is k u = true) : RelV (kV k) u := by
  rcases keyIs_shape h with ⟨i, t, rfl, rfl⟩ | ⟨x, t, rfl, rfl⟩
  · exact ⟨t, rfl⟩
  · exact ⟨t, rfl⟩
theorem vals_keys {P : Program} {w : World} : ∀ {kvs : List (Key × V)} {vs : List (Key × Value)} {us : List Value}, KV kvs vs → us.length = vs.length → (∀ (j : Nat) (v : Value), us[j]? = some v → ∃ k x, vs[j]? = some (k, x) ∧ (mixKind P w).is k v = true) → Vals (kvs.map fun kv => kV kv.1) us
  | _, _, [], Paired.nil, _, _ => .nil
  | _, _, _ :: _, Paired.nil, e, _ => by cases e
  | _, _, [], Paired.cons _ _, e, _ => by cases e
  | _, _, u :: us, Paired.cons (a := p) (b := q) h t, e, hj => by
    obtain ⟨k, x, h1, h2⟩ := hj 0 u rfl
    have h1 : q = (k, x) := by simpa using h1
    subst h1
    have e1 : p.1 = k := h.1
    refine .cons ?_ (vals_keys t (by simpa using e) fun j v hv => hj (j + 1) v (by simpa using hv))
    show RelV (kV p.1) u
    rw [e1]
    exact kV_of h2
def rLstD : List V → Hp → VK → Prop := fun xs H Q => ∃ a kvs, xs = [.ref a] ∧ H a = some (.dK kvs) ∧ ∀ l, H l = none → Q (.ref l) (upd H l (.lst (kvs.map fun kv => kV kv.1)))
section
variable {X : Cx}
theorem call_listD (hc : X.calm = true) : CallR X (.type "list") rLstD := by
  intro pins s σ H xs us Q I r h
  obtain ⟨a, kvs, rfl, ha, q⟩ := h
  obtain ⟨u, rfl, ru⟩ := r.one
  cases ru
  obtain ⟨z, hd, vs, rel, o, es, ep, d1⟩ := dk_of I.hok ha
  refine PySem.W.kdl_call (PySem.W.kdl_dict (knd := mixKind X.prog X.w) (kvs := vs) (ep := ep) hd) (I.ok.hd hc) ⟨o, es, d1⟩ (by rw [← rel.length]; exact z) fun h' tk acc c hk hD it => ?_
  have hv : Vals (kvs.map fun kv => kV kv.1) acc.toList := vals_keys rel (by rw [Array.length_toList]; exact it.1) fun j v e => it.2 j v (by rw [← Array.getElem?_toList]; exact e)
  have new : ObjOk X.prog X.w (upd H s.heap.objs.size (.lst (kvs.map fun kv => kV kv.1))) h' s.heap.objs.size (.lst (kvs.map fun kv => kV kv.1)) := ⟨by rw [List.length_map]; exact z, acc.toList, c, hv, by rw [Array.toArray_toList]; exact hD⟩
  exact ⟨.ref s.heap.objs.size, _, I.laid hk (Nat.le_refl _) new, rfl, q _ I.fresh⟩
end
end L2
namespace L2
open PySem PySem.Spec PyProof.Rows
section
variable {X : Cx} {pins : List (Addr × Obj)} {σ : St} {H : Hp} {s : Shared} {a : Addr} {kvs : List (Key × V)} {o : Obj}
end
section
variable {X : Cx} {tg : Expr}
end
end L2
namespace L2
open PySem PySem.Spec PyProof.Rows
structure ClsFn (K : PySem.W.Frag) (C : Addr) (m : Str) (f : Addr) : Prop where
  mc : ∃ mc, PySem.W.readsIn K C mc = true ∧ PySem.W.findCls K (.ref C) mc m = some (.val (.ref f))
  ga : PySem.W.specialIn K (.ref C) "__getattribute__" = some (some (.builtin "type.__getattribute__"))
  kp : PySem.W.keepIn K (.ref f) = true
structure SrcU (K : PySem.W.Frag) (C : Addr) (m qual : Str) (st : Stmt) (ps : List Str) : Prop where
  ex : ∃ (f : Addr) (fd : FuncData), FunE K m qual st f fd ∧ ClsFn K C m f ∧ BindsV K fd ps []
structure UpD (P : Program) (w : World) (K : PySem.W.Frag) (mg : Str → Option Value) (base : Heap) (CX : CXT) (k : Nat) (C : Addr) (m : Str) (ps : List Str) (sp : Sp) : Prop where
  ex : ∃ (f : Addr) (fd : FuncData), FnOk P w K mg base CX k f fd ps sp ∧ ClsFn K C m f ∧ BindsV K fd ps []
section
variable {P : Program} {w : World} {K : PySem.W.Frag} {mg : Str → Option Value} {base : Heap} {CX : CXT} {C : Addr} {m qual : Str} {st : Stmt} {N ps : List Str} {k : Nat} {sp : Sp}
theorem SrcU.okN (F : SrcU K C m qual st ps) (S : FnScope N ps (defScope st)) (len : ∀ vs H Q E, sp vs H Q E → vs.length = ps.length)
    (hbody : ∀ (f : Addr) (cdv : Value) (A : Around) (outer : List Env) (s : Shared) (H : Hp) (vs : List V) (Q : VK) (E : XK), Room k (A.deeper (envOfC qual (defScope st) s.heap.objs.size f cdv)) → sp vs H Q E →
      ∃ t, PSs (cxOf CX P w K mg base N qual (defScope st) f cdv A outer s H E).nox (defBody st) t ∧ t { nx := fun _ H' => Q .non H', rt := Q } (start N vs) H) : UpD P w K mg base CX (k + 1) C m ps sp := by
  obtain ⟨f, fd, F, me, b⟩ := F.ex
  obtain ⟨oc, od, dV, kV, doc, pm, an, cdv, ct, osl, rfl, lk, hcd⟩ := F.ex
  exact ⟨f, _, fn_of lk hcd S len fun A outer s H vs Q E hr hsp => by
    obtain ⟨t, h, q⟩ := hbody f cdv A outer s H vs Q E hr hsp
    exact ⟨t, h.nox, q⟩, me, b⟩
end
def tClsX (sp : Sp) (Ek : XH) (t : TA) : TE := fun σ H Q => t σ H fun vs H1 => sp vs H1 Q (fun v d H' => Ek v d σ H')
section
variable {X : Cx} {CX : CXT} {k : Nat} {C : Addr} {ps : List Str} {sp : Sp} {Ek : XH} {x m : Str} {p pos apos : Pos} {e : Expr} {es : List Expr} {t : TA}
theorem pe_clsX {pl : Sem Bool} (D : UpD X.prog X.w X.K X.mg X.base CX k C m ps sp) (hr : Room k X.A) (hx : PassesX CX X Ek) (hg : Gl X x) (hm : X.mg x = some (.ref C)) (ha : PA X (e :: es) t)
    (hdb : (x == ("__debug__" : Str)) = false := by decide) (hst : starEach (e :: es) X.env = (false, eval e X.env) :: starEach es X.env := by rfl) (hpl : (backTo pos (starEach es X.env)).any (·.1) = false := by rfl)
    (ht : eval (.Call (.Attribute (.Name x p) m apos) (e :: es) [] pos) X.env = (do
      let ov ← eval (.Name x p) X.env
      standAt apos.atName
      let (f, first) ← holding [ov] (getMethod ov m pl)
      callWith pos f first (backTo pos (starEach (e :: es) X.env)) (backToKw pos (keywordEach [] X.env))) := by rfl) :
    PE X (.Call (.Attribute (.Name x p) m apos) (e :: es) [] pos) (tClsX sp Ek t) := by
  obtain ⟨f, fd, F, cf, hb⟩ := D.ex
  obtain ⟨mc, h1, h2⟩ := cf.mc
  intro pins s σ H Q I h
  refine PySem.W.methodCall_KW (pl := pl) (ld_glob I hg hm ?_ hdb) ht
  refine PySem.W.method_cls I.kIn cf.ga (PySem.W.cls_value I.kIn h1 h2 rfl ?_)
  have I1 := I.tok (s.toks + 1)
  refine PySem.W.callWith_K (first := []) (h₀ := X.base) I.ok.mod.kin cf.kp (thn (ha pos pins _ σ H _ I1 h) fun us s2 ⟨vs, H2, I2, r, q2⟩ => ⟨I2.kIn, ?_⟩) hst hpl
  exact run_fnX (dvs := []) F hr hb hx I2 r (by rw [List.append_nil]; exact q2)
end
end L2
namespace L2
open PySem PySem.Spec PyProof.Rows
section
variable {X : Cx}
end
abbrev Nm := List (Str × Int)
def kvsOf (nm : Nm) : List (Key × V) := nm.map fun x => ((Sum.inr x.1 : Key), V.int x.2)
def shOf (nm : Nm) (x : Str) : Option Int := (nm.find? fun p => decide (p.1 = x)).map (·.2)
def putN (nm : Nm) (x : Str) (s : Int) : Nm := nm.map fun p => if p.1 = x then (p.1, s) else p
def dropN (nm : Nm) (x : Str) : Nm := nm.filter fun p => decide (p.1 ≠ x)
theorem kvsOf_len (nm : Nm) : (kvsOf nm).length = nm.length := List.length_map _
theorem valV_of (nm : Nm) (x : Str) : valV (kvsOf nm) (Sum.inr x : Key) = (shOf nm x).map V.int := by
  induction nm with
  | nil => rfl
  | cons p r ih =>
    unfold valV kvsOf shOf at ih ⊢
    rw [List.map_cons, List.find?_cons, List.find?_cons]
    by_cases h : p.1 = x
    · simp [h]
    · have h2 : ¬ (Sum.inr p.1 : Key) = Sum.inr x := fun z => h (Sum.inr.inj z)
      simp only [decide_eq_false h, decide_eq_false h2]
      exact ih
theorem putN_new {nm : Nm} {x : Str} {s : Int} (h : shOf nm x = none) : putK (kvsOf nm) (Sum.inr x : Key) (.int s) = kvsOf (nm ++ [(x, s)]) := by
  unfold putK
  have e : ((kvsOf nm).any fun kv => decide (kv.1 = (Sum.inr x : Key))) = false := by
    rw [valV_any, valV_of, h]; rfl
  rw [e, if_neg (by decide)]
  unfold kvsOf
  rw [List.map_append]; rfl
theorem putN_old {nm : Nm} {x : Str} {s : Int} (h : shOf nm x ≠ none) : putK (kvsOf nm) (Sum.inr x : Key) (.int s) = kvsOf (putN nm x s) := by
  unfold putK
  have e : ((kvsOf nm).any fun kv => decide (kv.1 = (Sum.inr x : Key))) = true := by
    rw [valV_any, valV_of]
    cases q : shOf nm x with
    | none => exact absurd q h
    | some v => rfl
  rw [e, if_pos rfl]
  unfold kvsOf putN
  rw [List.map_map, List.map_map]
  refine List.map_congr_left fun p _ => ?_
  by_cases hp : p.1 = x
  · subst hp; simp
  · have h2 : ¬ (Sum.inr p.1 : Key) = Sum.inr x := fun z => hp (Sum.inr.inj z)
    simp [hp]
theorem dropK_of (nm : Nm) (x : Str) : dropK (kvsOf nm) (Sum.inr x : Key) = kvsOf (dropN nm x) := by
  unfold dropK kvsOf dropN
  rw [List.filter_map]
  congr 1
  refine List.filter_congr fun p _ => ?_
  simp [Function.comp_def]
theorem shOf_put {nm : Nm} {x y : Str} {s : Int} : shOf (putN nm x s) y = if y = x then (shOf nm y).map fun _ => s else shOf nm y := by
  induction nm with
  | nil => unfold shOf putN; simp
  | cons p r ih =>
    unfold shOf putN at ih ⊢
    rw [List.map_cons, List.find?_cons, List.find?_cons]
    by_cases hp : p.1 = x
    · rw [if_pos hp]
      by_cases hy : p.1 = y
      · simp [hy, hp ▸ hy.symm]
      · simp only [decide_eq_false hy]
        exact ih
    · rw [if_neg hp]
      by_cases hy : p.1 = y
      · have : ¬ y = x := fun z => hp (hy.trans z)
        simp [hy, this]
      · simp only [decide_eq_false hy]
        exact ih
theorem shOf_new {nm : Nm} {x y : Str} {s : Int} (h : shOf nm x = none) : shOf (nm ++ [(x, s)]) y = if y = x then some s else shOf nm y := by
  unfold shOf at h ⊢
  rw [List.find?_append]
  by_cases hy : y = x
  · subst hy
    rw [if_pos rfl]
    cases q : nm.find? fun p => decide (p.1 = y) with
    | none => simp
    | some v => rw [q] at h; cases h
  · rw [if_neg hy]
    have e : ([(x, s)] : Nm).find? (fun p => decide (p.1 = y)) = none := by
      have : ¬ x = y := fun z => hy z.symm
      simp [this]
    rw [e]; simp
theorem shOf_drop {nm : Nm} {x y : Str} : shOf (dropN nm x) y = if y = x then none else shOf nm y := by
  induction nm with
  | nil => unfold shOf dropN; simp
  | cons p r ih =>
    unfold shOf dropN at ih ⊢
    rw [List.filter_cons, List.find?_cons]
    by_cases hp : p.1 = x
    · rw [if_neg (by simp [hp]), ih]
      by_cases hy : y = x
      · rw [if_pos hy, if_pos hy]
      · rw [if_neg hy, if_neg hy]
        have : ¬ p.1 = y := fun z => hy (z.symm.trans hp)
        simp [this]
    · rw [if_pos (by simp [hp]), List.find?_cons]
      by_cases hy : p.1 = y
      · have : ¬ y = x := fun z => hp (hy.trans z)
        simp [hy, this]
      · simp only [decide_eq_false hy]
        exact ih
theorem shOf_mem {nm : Nm} {x : Str} {s : Int} (h : shOf nm x = some s) : (x, s) ∈ nm := by
  unfold shOf at h
  cases q : nm.find? fun p => decide (p.1 = x) with
  | none => rw [q] at h; cases h
  | some v =>
    rw [q] at h
    have e1 : v.2 = s := Option.some.inj h
    have e2 : v.1 = x := by simpa using List.find?_some q
    have := List.mem_of_find?_eq_some q
    rw [← e1, ← e2]; exact this
theorem shOf_of_mem {nm : Nm} {x : Str} {s : Int} (h : (x, s) ∈ nm) : shOf nm x ≠ none := by
  unfold shOf
  intro z
  have z : nm.find? (fun p => decide (p.1 = x)) = none := by simpa using z
  have := List.find?_eq_none.mp z _ h
  simp at this
structure Mb (C : Addr) (H : Hp) (p psh : Addr) (nm : Nm) : Prop where
  ex : ∃ dx fs, H p = some (.ins C dx fs) ∧ fs.lookup ("shares" : Str) = some (.ref psh) ∧ (∀ m : Str, ¬ m = "shares" → fs.lookup m = none) ∧ fs.length < 900
  hs : H psh = some (.dK (kvsOf nm))
theorem Mb.same {C : Addr} {H H' : Hp} {p psh : Addr} {nm : Nm} (h : Mb C H p psh nm) (s : Same H H') : Mb C H' p psh nm := by
  obtain ⟨dx, fs, h1, h2⟩ := h.ex
  exact ⟨⟨dx, fs, s _ _ h1, h2⟩, s _ _ h.hs⟩
theorem Mb.put {C : Addr} {H : Hp} {p psh : Addr} {nm nm' : Nm} (h : Mb C H p psh nm) : Mb C (upd H psh (.dK (kvsOf nm'))) p psh nm' := by
  obtain ⟨dx, fs, h1, h2⟩ := h.ex
  exact ⟨⟨dx, fs, by rw [upd_ne (ne_of h1 h.hs (by intro z; cases z))]; exact h1, h2⟩, upd_same⟩
end L2
namespace L2
open PySem PySem.Spec PyProof.Rows
structure RatD (H : Hp) (p : Addr) (f : Str → Option Rat) (n : Nat) : Prop where
  ex : ∃ kvs, H p = some (.dK kvs) ∧ (∀ x : Str, (f x = none ∧ valV kvs (Sum.inr x : Key) = none) ∨ ∃ r q, f x = some r ∧ valV kvs (Sum.inr x : Key) = some (.ref q) ∧ H q = some (.tup (fq r))) ∧ kvs.length ≤ n
theorem RatD.keep {H H' : Hp} {p : Addr} {f : Str → Option Rat} {n : Nat} (h : RatD H p f n) (e : ∀ b o, b = p ∨ (∃ xs, H b = some (.tup xs)) → H b = some o → H' b = some o) : RatD H' p f n := by
  obtain ⟨kvs, h1, h2, h3⟩ := h.ex
  refine ⟨kvs, e _ _ (.inl rfl) h1, fun x => ?_, h3⟩
  rcases h2 x with z | ⟨r, q, a, b, c⟩
  · exact .inl z
  · exact .inr ⟨r, q, a, b, e _ _ (.inr ⟨_, c⟩) c⟩
theorem RatD.same {H H' : Hp} {p : Addr} {f : Str → Option Rat} {n : Nat} (h : RatD H p f n) (s : Same H H') : RatD H' p f n := h.keep fun b o _ e => s b o e
def setS (f : Str → Option Rat) (x : Str) (r : Rat) : Str → Option Rat := fun y => if y = x then some r else f y
def delS (f : Str → Option Rat) (x : Str) : Str → Option Rat := fun y => if y = x then none else f y
theorem RatD.put {H : Hp} {p q : Addr} {f : Str → Option Rat} {n : Nat} {x : Str} {r : Rat} {kvs : List (Key × V)} (h1 : H p = some (.dK kvs)) (h2 : ∀ x : Str, (f x = none ∧ valV kvs (Sum.inr x : Key) = none) ∨ ∃ r q, f x = some r ∧ valV kvs (Sum.inr x : Key) = some (.ref q) ∧ H q = some (.tup (fq r)))
    (h3 : (putK kvs (Sum.inr x : Key) (.ref q)).length ≤ n) (hq : H q = some (.tup (fq r))) : RatD (upd H p (.dK (putK kvs (Sum.inr x : Key) (.ref q)))) p (setS f x r) n := by
  have nt : ∀ b xs, H b = some (.tup xs) → upd H p (.dK (putK kvs (Sum.inr x : Key) (.ref q))) b = some (.tup xs) := fun b xs e => by rw [upd_ne (ne_of e h1 (by intro z; cases z))]; exact e
  refine ⟨_, upd_same, fun y => ?_, h3⟩
  rw [valV_put]
  unfold setS
  by_cases e : y = x
  · subst e
    rw [if_pos rfl, if_pos rfl]
    exact .inr ⟨r, q, rfl, rfl, nt _ _ hq⟩
  · rw [if_neg e, if_neg (fun z => e (Sum.inr.inj z))]
    rcases h2 y with z | ⟨r', q', a, b, c⟩
    · exact .inl z
    · exact .inr ⟨r', q', a, b, nt _ _ c⟩
theorem valV_drop (kvs : List (Key × V)) (k j : Key) : valV (dropK kvs k) j = if j = k then none else valV kvs j := by
  induction kvs with
  | nil => unfold valV dropK; simp
  | cons p r ih =>
    unfold dropK at ih ⊢
    rw [List.filter_cons]
    by_cases hp : p.1 = k
    · rw [if_neg (by simp [hp]), ih]
      by_cases hj : j = k
      · rw [if_pos hj, if_pos hj]
      · rw [if_neg hj, if_neg hj, valV_neg (fun z => hj (z.symm.trans hp))]
    · rw [if_pos (by simp [hp])]
      by_cases e : p.1 = j
      · have : ¬ j = k := fun z => hp (e.trans z)
        rw [valV_pos e, if_neg this, valV_pos e]
      · rw [valV_neg e, valV_neg e, ih]
theorem RatD.del {H : Hp} {p : Addr} {f : Str → Option Rat} {n : Nat} {x : Str} {kvs : List (Key × V)} (h1 : H p = some (.dK kvs)) (h2 : ∀ x : Str, (f x = none ∧ valV kvs (Sum.inr x : Key) = none) ∨ ∃ r q, f x = some r ∧ valV kvs (Sum.inr x : Key) = some (.ref q) ∧ H q = some (.tup (fq r)))
    (h3 : (dropK kvs (Sum.inr x : Key)).length ≤ n) : RatD (upd H p (.dK (dropK kvs (Sum.inr x : Key)))) p (delS f x) n := by
  have nt : ∀ b xs, H b = some (.tup xs) → upd H p (.dK (dropK kvs (Sum.inr x : Key))) b = some (.tup xs) := fun b xs e => by rw [upd_ne (ne_of e h1 (by intro z; cases z))]; exact e
  refine ⟨_, upd_same, fun y => ?_, h3⟩
  rw [valV_drop]
  unfold delS
  by_cases e : y = x
  · subst e
    rw [if_pos rfl, if_pos rfl]
    exact .inl ⟨rfl, rfl⟩
  · rw [if_neg e, if_neg (fun z => e (Sum.inr.inj z))]
    rcases h2 y with z | ⟨r', q', a, b, c⟩
    · exact .inl z
    · exact .inr ⟨r', q', a, b, nt _ _ c⟩
structure FS (fs : List (Str × V)) (most : Int) (pm : Addr) (ch : V) (pr pt pg : Addr) : Prop where
  mo : fs.lookup ("most" : Str) = some (.int most)
  me : fs.lookup ("members" : Str) = some (.ref pm)
  ch : fs.lookup ("chosen" : Str) = some ch
  re : fs.lookup ("reached" : Str) = some (.ref pr)
  ta : fs.lookup ("tags" : Str) = some (.ref pt)
  gr : fs.lookup ("greatest_steps" : Str) = some (.ref pg)
  no : ∀ m : Str, ¬ m = "most" → ¬ m = "members" → ¬ m = "chosen" → ¬ m = "reached" → ¬ m = "tags" → ¬ m = "greatest_steps" → fs.lookup m = none
  len : fs.length < 900
theorem look_ne {fs : List (Str × V)} {f g : Str} {v : V} (h : ¬ g = f) : (putF f v fs).lookup g = fs.lookup g := by rw [lookup_putF, if_neg h]
theorem look_eq {fs : List (Str × V)} {f : Str} {v : V} : (putF f v fs).lookup f = some v := by rw [lookup_putF, if_pos rfl]
theorem FS.mk0 (most : Int) (pm : Addr) (ch : V) (pr pt pg : Addr) : FS (putF "greatest_steps" (.ref pg) (putF "tags" (.ref pt) (putF "reached" (.ref pr) (putF "chosen" ch (putF "members" (.ref pm) (putF "most" (.int most) [])))))) most pm ch pr pt pg := by
  refine ⟨?_, ?_, ?_, ?_, ?_, ?_, fun m h1 h2 h3 h4 h5 h6 => ?_, ?_⟩
  · rw [look_ne (by decide +kernel), look_ne (by decide +kernel), look_ne (by decide +kernel), look_ne (by decide +kernel), look_ne (by decide +kernel), look_eq]
  · rw [look_ne (by decide +kernel), look_ne (by decide +kernel), look_ne (by decide +kernel), look_ne (by decide +kernel), look_eq]
  · rw [look_ne (by decide +kernel), look_ne (by decide +kernel), look_ne (by decide +kernel), look_eq]
  · rw [look_ne (by decide +kernel), look_ne (by decide +kernel), look_eq]
  · rw [look_ne (by decide +kernel), look_eq]
  · rw [look_eq]
  · rw [look_ne h6, look_ne h5, look_ne h4, look_ne h3, look_ne h2, look_ne h1]; rfl
  · have a1 := putF_len' (fs := []) (f := "most") (v := .int most)
    have a2 := putF_len' (fs := putF "most" (.int most) []) (f := "members") (v := .ref pm)
    have a3 := putF_len' (fs := putF "members" (.ref pm) (putF "most" (.int most) [])) (f := "chosen") (v := ch)
    have a4 := putF_len' (fs := putF "chosen" ch (putF "members" (.ref pm) (putF "most" (.int most) []))) (f := "reached") (v := .ref pr)
    have a5 := putF_len' (fs := putF "reached" (.ref pr) (putF "chosen" ch (putF "members" (.ref pm) (putF "most" (.int most) [])))) (f := "tags") (v := .ref pt)
    have a6 := putF_len' (fs := putF "tags" (.ref pt) (putF "reached" (.ref pr) (putF "chosen" ch (putF "members" (.ref pm) (putF "most" (.int most) []))))) (f := "greatest_steps") (v := .ref pg)
    simp only [List.length_nil] at a1
    omega
structure At5 where
  p : Addr
  pm : Addr
  ps : Addr
  pt : Addr
  pg : Addr
structure Sx (C Cm : Addr) (H : Hp) (a : At5) (most : Int) (nm : Nm) (tg gs : Str → Option Rat) (ck : Rat) (ch : V) (N : Nat) : Prop where
  ex : ∃ dx fs pr, H a.p = some (.ins C dx fs) ∧ FS fs most a.pm ch pr a.pt a.pg ∧ H pr = some (.tup (fq ck))
  mb : Mb Cm H a.pm a.ps nm
  dt : RatD H a.pt tg N
  dg : RatD H a.pg gs N
  nl : nm.length ≤ N
  n1 : a.pt ≠ a.pg
  n2 : a.pt ≠ a.ps
  n3 : a.pg ≠ a.ps
  n4 : a.p ≠ a.pm
theorem Sx.same {C Cm : Addr} {H H' : Hp} {a : At5} {most : Int} {nm : Nm} {tg gs : Str → Option Rat} {ck : Rat} {ch : V} {N : Nat} (h : Sx C Cm H a most nm tg gs ck ch N) (s : Same H H') : Sx C Cm H' a most nm tg gs ck ch N := by
  obtain ⟨dx, fs, pr, h1, h2, h3⟩ := h.ex
  exact ⟨⟨dx, fs, pr, s _ _ h1, h2, s _ _ h3⟩, h.mb.same s, h.dt.same s, h.dg.same s, h.nl, h.n1, h.n2, h.n3, h.n4⟩
def Own (a : At5) (H H' : Hp) : Prop := ∀ b o, b ≠ a.p → b ≠ a.ps → b ≠ a.pt → b ≠ a.pg → H b = some o → H' b = some o
theorem Same.own {a : At5} {H H' : Hp} (s : Same H H') : Own a H H' := fun b o _ _ _ _ e => s b o e
theorem Own.trans {a : At5} {H H1 H2 : Hp} (x : Own a H H1) (y : Own a H1 H2) : Own a H H2 := fun b o n1 n2 n3 n4 e => y b o n1 n2 n3 n4 (x b o n1 n2 n3 n4 e)
theorem RatD.mono {H : Hp} {p : Addr} {f : Str → Option Rat} {n n' : Nat} (h : RatD H p f n) (l : n ≤ n') : RatD H p f n' := by
  obtain ⟨kvs, h1, h2, h3⟩ := h.ex
  exact ⟨kvs, h1, h2, by omega⟩
section
variable {C Cm : Addr} {H : Hp} {a : At5} {most : Int} {nm nm' : Nm} {tg gs tg' gs' : Str → Option Rat} {ck : Rat} {ch : V} {N N' : Nat} {k : List (Key × V)}
theorem Sx.set_t (S : Sx C Cm H a most nm tg gs ck ch N) (le : N ≤ N') (d : RatD (upd H a.pt (.dK k)) a.pt tg' N') : Sx C Cm (upd H a.pt (.dK k)) a most nm tg' gs ck ch N' := by
  obtain ⟨dx, fs, pr, h1, h2, h3⟩ := S.ex
  obtain ⟨kvs, g1, _⟩ := S.dt.ex
  obtain ⟨dm, fm, m1, m2⟩ := S.mb.ex
  have kp : ∀ b o, b ≠ a.pt → H b = some o → upd H a.pt (.dK k) b = some o := fun b o n e => by rw [upd_ne n]; exact e
  refine ⟨⟨dx, fs, pr, kp _ _ (ne_of h1 g1 (by intro z; cases z)) h1, h2, kp _ _ (ne_of h3 g1 (by intro z; cases z)) h3⟩, ⟨⟨dm, fm, kp _ _ (ne_of m1 g1 (by intro z; cases z)) m1, m2⟩, kp _ _ S.n2.symm S.mb.hs⟩, d, (S.dg.keep fun b o c e => ?_).mono le, by have := S.nl; omega, S.n1, S.n2, S.n3, S.n4⟩
  rcases c with z | ⟨xs, z⟩
  · subst z; exact kp _ _ S.n1.symm e
  · exact kp _ _ (ne_of z g1 (by intro z; cases z)) e
theorem Sx.set_g (S : Sx C Cm H a most nm tg gs ck ch N) (le : N ≤ N') (d : RatD (upd H a.pg (.dK k)) a.pg gs' N') : Sx C Cm (upd H a.pg (.dK k)) a most nm tg gs' ck ch N' := by
  obtain ⟨dx, fs, pr, h1, h2, h3⟩ := S.ex
  obtain ⟨kvs, g1, _⟩ := S.dg.ex
  obtain ⟨dm, fm, m1, m2⟩ := S.mb.ex
  have kp : ∀ b o, b ≠ a.pg → H b = some o → upd H a.pg (.dK k) b = some o := fun b o n e => by rw [upd_ne n]; exact e
  refine ⟨⟨dx, fs, pr, kp _ _ (ne_of h1 g1 (by intro z; cases z)) h1, h2, kp _ _ (ne_of h3 g1 (by intro z; cases z)) h3⟩, ⟨⟨dm, fm, kp _ _ (ne_of m1 g1 (by intro z; cases z)) m1, m2⟩, kp _ _ S.n3.symm S.mb.hs⟩, (S.dt.keep fun b o c e => ?_).mono le, d, by have := S.nl; omega, S.n1, S.n2, S.n3, S.n4⟩
  rcases c with z | ⟨xs, z⟩
  · subst z; exact kp _ _ S.n1 e
  · exact kp _ _ (ne_of z g1 (by intro z; cases z)) e
theorem Sx.set_s (S : Sx C Cm H a most nm tg gs ck ch N) (le : N ≤ N') (ln : nm'.length ≤ N') : Sx C Cm (upd H a.ps (.dK (kvsOf nm'))) a most nm' tg gs ck ch N' := by
  obtain ⟨dx, fs, pr, h1, h2, h3⟩ := S.ex
  have g1 := S.mb.hs
  have kp : ∀ b o, b ≠ a.ps → H b = some o → upd H a.ps (.dK (kvsOf nm')) b = some o := fun b o n e => by rw [upd_ne n]; exact e
  refine ⟨⟨dx, fs, pr, kp _ _ (ne_of h1 g1 (by intro z; cases z)) h1, h2, kp _ _ (ne_of h3 g1 (by intro z; cases z)) h3⟩, S.mb.put, (S.dt.keep fun b o c e => ?_).mono le, (S.dg.keep fun b o c e => ?_).mono le, ln, S.n1, S.n2, S.n3, S.n4⟩
  · rcases c with z | ⟨xs, z⟩
    · subst z; exact kp _ _ S.n2 e
    · exact kp _ _ (ne_of z g1 (by intro z; cases z)) e
  · rcases c with z | ⟨xs, z⟩
    · subst z; exact kp _ _ S.n3 e
    · exact kp _ _ (ne_of z g1 (by intro z; cases z)) e
theorem Sx.set_p {ck' : Rat} {ch' : V} {dx pr' : Addr} {fs fs' : List (Str × V)} (S : Sx C Cm H a most nm tg gs ck ch N) (h1 : H a.p = some (.ins C dx fs)) (ft : FS fs' most a.pm ch' pr' a.pt a.pg) (h3 : H pr' = some (.tup (fq ck'))) : Sx C Cm (upd H a.p (.ins C dx fs')) a most nm tg gs ck' ch' N := by
  obtain ⟨dm, fm, m1, m2⟩ := S.mb.ex
  have kp : ∀ b o, b ≠ a.p → H b = some o → upd H a.p (.ins C dx fs') b = some o := fun b o n e => by rw [upd_ne n]; exact e
  refine ⟨⟨dx, fs', pr', upd_same, ft, kp _ _ (ne_of h3 h1 (by intro z; cases z)) h3⟩, ⟨⟨dm, fm, kp _ _ S.n4.symm m1, m2⟩, kp _ _ (ne_of S.mb.hs h1 (by intro z; cases z)) S.mb.hs⟩, S.dt.keep fun b o c e => ?_, S.dg.keep fun b o c e => ?_, S.nl, S.n1, S.n2, S.n3, S.n4⟩
  · rcases c with z | ⟨xs, z⟩
    · obtain ⟨kvs, g1, _⟩ := S.dt.ex
      subst z; exact kp _ _ (ne_of g1 h1 (by intro z; cases z)) e
    · exact kp _ _ (ne_of z h1 (by intro z; cases z)) e
  · rcases c with z | ⟨xs, z⟩
    · obtain ⟨kvs, g1, _⟩ := S.dg.ex
      subst z; exact kp _ _ (ne_of g1 h1 (by intro z; cases z)) e
    · exact kp _ _ (ne_of z h1 (by intro z; cases z)) e
end
theorem own_t {a : At5} {H : Hp} {o : HO} : Own a H (upd H a.pt o) := fun b u n1 n2 n3 n4 e => by rw [upd_ne n3]; exact e
theorem own_g {a : At5} {H : Hp} {o : HO} : Own a H (upd H a.pg o) := fun b u n1 n2 n3 n4 e => by rw [upd_ne n4]; exact e
theorem own_s {a : At5} {H : Hp} {o : HO} : Own a H (upd H a.ps o) := fun b u n1 n2 n3 n4 e => by rw [upd_ne n2]; exact e
theorem own_p {a : At5} {H : Hp} {o : HO} : Own a H (upd H a.p o) := fun b u n1 n2 n3 n4 e => by rw [upd_ne n1]; exact e
theorem rat01 : ((0 : Int) : Rat) / ((1 : Int) : Rat) = 0 := by
  have z0 : ((0 : Int) : Rat) = 0 := rfl
  rw [z0]; grind
end L2
namespace L2
open PySem PySem.Spec PyProof.Rows
structure Iv (nm : Nm) (tg gs : Str → Option Rat) (ck : Rat) (D : Int) (n : Nat) : Prop where
  d0 : 0 < D
  dz : Sw.Sz (21 * n + 1) D
  cg : Sw.Grd D ck
  c0 : 0 ≤ ck
  cB : ck ≤ ((n * 2000000 : Int) : Rat)
  all : ∀ x s, shOf nm x = some s → 1 ≤ s ∧ s ≤ 1000000 ∧ ∃ t g, tg x = some t ∧ gs x = some g ∧ Sw.Grd D t ∧ Sw.Grd D g ∧ 0 ≤ t ∧ 0 ≤ g ∧ g ≤ ((1000000 : Int) : Rat) ∧ t ≤ ck + g
theorem Iv.sz {nm : Nm} {tg gs : Str → Option Rat} {ck : Rat} {D : Int} {n : Nat} (I : Iv nm tg gs ck D n) (hn : n ≤ 100) {q : Rat} (h : Sw.Grd D q) (h0 : 0 ≤ q) (h1 : q ≤ ((n * 2000000 + 1000000 : Int) : Rat)) : Sw.SzQ 2300 q := by
  have w : (0 : Rat) ≤ ((n * 2000000 + 1000000 : Int) : Rat) := by grind
  exact (h.sz (M := n * 2000000 + 1000000) (a := 21 * n + 1) (b := 70) I.d0 I.dz (Sw.Sz.r18 (by omega) (by omega)) (by grind) h1 (by decide)).mono (by omega)
theorem Iv.cz {nm : Nm} {tg gs : Str → Option Rat} {ck : Rat} {D : Int} {n : Nat} (I : Iv nm tg gs ck D n) (hn : n ≤ 100) : Sw.SzQ 2300 ck := by
  refine I.sz hn I.cg I.c0 ?_
  have := I.cB
  have e : ((n * 2000000 + 1000000 : Int) : Rat) = ((n * 2000000 : Int) : Rat) + ((1000000 : Int) : Rat) := by rw [Rat.intCast_add]
  have m : (0 : Rat) ≤ ((1000000 : Int) : Rat) := by decide
  rw [e]; grind
theorem Iv.one {nm : Nm} {tg gs : Str → Option Rat} {ck : Rat} {D : Int} {n : Nat} (I : Iv nm tg gs ck D n) (hn : n ≤ 100) {x : Str} {s : Int} (h : shOf nm x = some s) : ∃ t g, tg x = some t ∧ gs x = some g ∧ Sw.SzQ 2300 t ∧ Sw.SzQ 2300 g ∧ 0 ≤ g ∧ t ≤ ck + g := by
  obtain ⟨s0, s1, t, g, h1, h2, h3, h4, h5, h6, h7, h8⟩ := I.all x s h
  have cB := I.cB
  have c0 := I.c0
  have e : ((n * 2000000 + 1000000 : Int) : Rat) = ((n * 2000000 : Int) : Rat) + ((1000000 : Int) : Rat) := by rw [Rat.intCast_add]
  have m : (0 : Rat) ≤ ((1000000 : Int) : Rat) := by decide
  exact ⟨t, g, h1, h2, I.sz hn h3 h5 (by rw [e]; grind), I.sz hn h4 h6 (by rw [e]; grind), h6, h8⟩
theorem Iv.put {nm : Nm} {tg gs : Str → Option Rat} {ck : Rat} {D : Int} {n : Nat} (I : Iv nm tg gs ck D n) {x : Str} {s : Int} (h : shOf nm x = none) (s0 : 1 ≤ s) (s1 : s ≤ 1000000) : Iv (nm ++ [(x, s)]) (setS tg x 0) (setS gs x 0) ck D n := by
  refine ⟨I.d0, I.dz, I.cg, I.c0, I.cB, fun y r hy => ?_⟩
  rw [shOf_new h] at hy
  have z : Sw.Grd D 0 := ⟨0, by have := I.d0; rw [show ((0 : Int) : Rat) = 0 from rfl]; grind⟩
  have c0 := I.c0
  have m : (0 : Rat) ≤ ((1000000 : Int) : Rat) := by decide
  unfold setS
  by_cases e : y = x
  · rw [if_pos e] at hy
    cases hy
    exact ⟨s0, s1, 0, 0, if_pos e, if_pos e, z, z, by grind, by grind, m, by grind⟩
  · rw [if_neg e] at hy
    obtain ⟨a, b, t, g, h1, h2, rest⟩ := I.all y r hy
    exact ⟨a, b, t, g, by rw [if_neg e]; exact h1, by rw [if_neg e]; exact h2, rest⟩
theorem Iv.drop {nm : Nm} {tg gs : Str → Option Rat} {ck : Rat} {D : Int} {n : Nat} (I : Iv nm tg gs ck D n) (x : Str) : Iv (dropN nm x) (delS tg x) (delS gs x) ck D n := by
  refine ⟨I.d0, I.dz, I.cg, I.c0, I.cB, fun y r hy => ?_⟩
  rw [shOf_drop] at hy
  unfold delS
  by_cases e : y = x
  · rw [if_pos e] at hy; cases hy
  · rw [if_neg e] at hy
    obtain ⟨a, b, t, g, h1, h2, rest⟩ := I.all y r hy
    exact ⟨a, b, t, g, by rw [if_neg e]; exact h1, by rw [if_neg e]; exact h2, rest⟩
theorem Iv.resh {nm : Nm} {tg gs : Str → Option Rat} {ck : Rat} {D : Int} {n : Nat} (I : Iv nm tg gs ck D n) {x : Str} {s : Int} (s0 : 1 ≤ s) (s1 : s ≤ 1000000) : Iv (putN nm x s) tg gs ck D n := by
  refine ⟨I.d0, I.dz, I.cg, I.c0, I.cB, fun y r hy => ?_⟩
  rw [shOf_put] at hy
  by_cases e : y = x
  · rw [if_pos e] at hy
    cases q : shOf nm y with
    | none => rw [q] at hy; cases hy
    | some v =>
      rw [q] at hy
      cases hy
      exact ⟨s0, s1, (I.all y v q).2.2⟩
  · rw [if_neg e] at hy
    exact I.all y r hy
end L2
namespace L2
open PySem PySem.Spec PyProof.Rows
structure Hd where
  C : Addr
  i : Option Nat
  th : TS
def Hd.run (h : Hd) (e : Addr) : TS := fun D σ H => match h.i with
  | none => h.th D σ H
  | some i => h.th { nx := fun σ H => D.nx (σ.set i none) H, rt := D.rt, bk := fun σ H => D.bk (σ.set i none) H, ct := fun σ H => D.ct (σ.set i none) H } (σ.set i (some (.ref e))) H
def hkM (K : PySem.W.Frag) : List Hd → Ends → Addr → Addr → St → Hp → Prop
  | [], _, _, _, _, _ => False
  | h :: r, D, e, C, σ, H => (PySem.W.subIn K (.ref C) (.ref h.C) = some true ∧ h.run e D σ H) ∨ (PySem.W.subIn K (.ref C) (.ref h.C) = some false ∧ hkM K r D e C σ H)
def hkMs (K : PySem.W.Frag) (hs : List Hd) (D : Ends) : XH := fun v d σ H => ∃ e C, v = .ref e ∧ H e = some (excO e C d false) ∧ hkM K hs D e C σ H
def tTryM (K : PySem.W.Frag) (hs : List Hd) (tb : XH → TS) : TS := fun D σ H => tb (hkMs K hs D) D σ H
def PHs (X : Cx) (hds : List ExceptHandler) (hs : List Hd) : Prop :=
  ∀ (pins : List (Addr × Obj)) (σ1 : St) (H1 H' : Hp) (s2 s1 : Shared) (B h2 : Heap) (ea C : Addr) (dct : Option Addr) (f : Value) (D : Ends), Inv X pins σ1 H1 s2 → Fly X.prog X.w B X.stack ea C dct H' s1.heap → s1.os = s2.os → AllBare s1.gens → Un (frs X.stack) [] H1 H' s2.heap s1.heap →
    (∀ b o, s2.heap.get? b = some o → H1 b = none → b ∉ frs X.stack → B.get? b = some o) → XAt B ea (.ref C) dct (some f) h2 → UpS s1.heap h2 → hkM X.K hs D ea C σ1 H' → wpAny (model X.prog X.w) X.A (handleBy (.ref ea) X.env hds) (SP X pins D) X.xe { s1 with heap := h2 }
section
variable {P : Program} {w : World} {X : Cx} {C' : Addr} {x : Str} {np hpos pos : Pos} {body suite : List Stmt} {b0 : Stmt} {tb : XH → TS} {th : TS} {h0 : ExceptHandler} {hds : List ExceptHandler} {hs : List Hd}
theorem ph_nil : PHs X [] [] := fun _ _ _ _ _ _ _ _ _ _ _ _ _ _ _ _ _ _ _ _ _ q => q.elim
theorem ph_cons (K : PySem.W.Frag) (hK : X.K = K) (c : XC K C') (hg : Gl X x) (hm : X.mg x = some (.ref C')) (hsu : ∀ e, PSs (sufCx X e) (b0 :: suite) th) (hr : PHs X hds hs) (hdb : (x == ("__debug__" : Str)) = false := by decide) :
    PHs X (.ExceptHandler (some (.Name x np)) none (b0 :: suite) hpos :: hds) (⟨C', none, th⟩ :: hs) := by
  subst hK
  intro pins σ1 H1 H' s2 s1 B h2 ea C dct f D J F hos hbr un cv x2 u2 q
  have J2 := fly_inv J F hos hbr un cv x2 u2
  refine wpAny_handleBy_cons (codeAny_handlers_test (ld_glob (X := sufCx X ea) (inSuf J2) hg hm ?_ hdb)) (by intro z; cases z)
  obtain ⟨oe, vs, g1, g2, _⟩ := x2.ex
  rcases q with ⟨hsub, q⟩ | ⟨hsub, q⟩
  · refine xmatch J2.kIn c g1 g2 hsub (codeAny_handlers_suite ?_)
    refine land_at (s := { s1 with heap := h2 }) x2 fun h3 x3 u3 => ?_
    have J3 := fly_inv J F hos hbr un cv x3 (u2.trans u3)
    exact wpAny_mono (hsu ea pins _ σ1 H' D (inSuf J3) q) (fun f s4 z => SP.unSuf J3.ok z) fun _ _ z => False.elim z
  · exact xmatch J2.kIn c g1 g2 hsub (hr pins σ1 H1 H' s2 s1 B h2 ea C dct f D J F hos hbr un cv x2 u2 q)
theorem ph_consAs {i : Nat} {n : Str} (K : PySem.W.Frag) (hK : X.K = K) (c : XC K C') (hg : Gl X x) (hm : X.mg x = some (.ref C')) (hN : X.N.Nodup) (hi : X.N[i]? = some n) (hl : X.env.scope.names.lookup n = some .local)
    (hsu : ∀ e, PSs (sufCx X e) (b0 :: suite) th) (hr : PHs X hds hs) (hdb : (x == ("__debug__" : Str)) = false := by decide) :
    PHs X (.ExceptHandler (some (.Name x np)) (some n) (b0 :: suite) hpos :: hds) (⟨C', some i, th⟩ :: hs) := by
  subst hK
  intro pins σ1 H1 H' s2 s1 B h2 ea C dct f D J F hos hbr un cv x2 u2 q
  have J2 := fly_inv J F hos hbr un cv x2 u2
  refine wpAny_handleBy_cons (codeAny_handlers_test (ld_glob (X := sufCx X ea) (inSuf J2) hg hm ?_ hdb)) (by intro z; cases z)
  obtain ⟨oe, vs, g1, g2, _⟩ := x2.ex
  rcases q with ⟨hsub, q⟩ | ⟨hsub, q⟩
  · refine xmatch J2.kIn c g1 g2 hsub (codeAny_handlers_suite_as ?_)
    refine land_at (s := { s1 with heap := h2 }) x2 fun h3 x3 u3 => ?_
    have J3 := fly_inv J F hos hbr un cv x3 (u2.trans u3)
    refine store_ok (X := sufCx X ea) (v := V.ref ea) (inSuf J3) hN hi (.inl hl) rfl (fun s4 J4 => ?_) (.inr hl)
    refine wpAny_mono (hsu ea pins s4 _ H' _ J4 q) (fun f s5 z => ?_) fun _ _ z => False.elim z
    have o : X.Ok := J3.ok
    show wpAny _ _ _ (fun _ s6 => SP X pins D f s6) _ _
    cases f with
    | next => obtain ⟨σ5, H5, J5, q5⟩ := z; exact drop_ok (unSuf o J5) hN hi hl fun s6 J6 => ⟨_, _, J6, q5⟩
    | brk => obtain ⟨σ5, H5, J5, q5⟩ := z; exact drop_ok (unSuf o J5) hN hi hl fun s6 J6 => ⟨_, _, J6, q5⟩
    | cont => obtain ⟨σ5, H5, J5, q5⟩ := z; exact drop_ok (unSuf o J5) hN hi hl fun s6 J6 => ⟨_, _, J6, q5⟩
    | ret u => obtain ⟨v, σ5, H5, J5, r5, q5⟩ := z; exact drop_ok (unSuf o J5) hN hi hl fun s6 J6 => ⟨v, _, _, J6, r5, q5⟩
  · exact xmatch J2.kIn c g1 g2 hsub (hr pins σ1 H1 H' s2 s1 B h2 ea C dct f D J F hos hbr un cv x2 u2 q)
theorem ps_tryM (hP : X.prog = P) (hw : X.w = w) (K : PySem.W.Frag) (hK : X.K = K) (hst : X.stack = X.env :: X.outer) (hf : X.env.frame = some X.env.locals)
    (hb : ∀ pins Hk, PSs (tryCx P w X pins Hk) body (tb Hk)) (hh : PHs X (h0 :: hds) hs) : PS X (.Try body (h0 :: hds) [] [] pos) (tTryM K hs tb) := by
  subst hP hw hK
  intro pins s σ H D I h
  refine wpAny_Try_except (wpAny_mono (hb pins _ [] s σ H D (inTry I) h) (fun f s1 z => ?_) fun ev s1 z => ?_)
  · have z := SP.unTry z
    cases f with
    | next => obtain ⟨σ1, H1, I1, q⟩ := z; exact wpAny_execs_nil ⟨σ1, H1, I1, q⟩
    | brk => exact z
    | cont => exact z
    | ret u => exact z
  · obtain ⟨σ1, H1, s2, J, B, ea, C, dct, H', rfl, hos, hbr, F, un, cv, e2, C2, hv, he2, q⟩ := z
    cases hv
    have eC : C2 = C ∧ True := by
      obtain ⟨oe, vs, g1, g2, _⟩ := F.hok.exc he2
      obtain ⟨oe', vs', g1', g2', _⟩ := F.hok.exc F.he
      rw [g1] at g1'
      cases g1'
      rw [g2] at g2'
      exact ⟨Value.ref.inj g2', trivial⟩
    obtain ⟨rfl, _⟩ := eC
    obtain ⟨fl0, hfl, x0⟩ := F.at_
    refine note_at (outer := X.outer) (by rw [← hst]; exact J.ok.frames) (by rw [← hst]; exact F.ff) hf x0 hfl fun h1 x1 u1 => ?_
    refine land_at (s := { s1 with heap := h1 }) x1 fun h2 x2 u2 => ?_
    exact hh pins σ1 H1 H' s2 s1 B h2 ea C2 dct _ D J F hos hbr un cv x2 (u1.trans u2) q
theorem hk_here {K : PySem.W.Frag} {h : Hd} {r : List Hd} {D : Ends} {e C : Addr} {σ : St} {H : Hp} (s : PySem.W.subIn K (.ref C) (.ref h.C) = some true) (q : h.run e D σ H) : hkM K (h :: r) D e C σ H := .inl ⟨s, q⟩
theorem hk_next {K : PySem.W.Frag} {h : Hd} {r : List Hd} {D : Ends} {e C : Addr} {σ : St} {H : Hp} (s : PySem.W.subIn K (.ref C) (.ref h.C) = some false) (q : hkM K r D e C σ H) : hkM K (h :: r) D e C σ H := .inr ⟨s, q⟩
end
end L2
namespace L2
open PySem PySem.Spec PyProof.Rows PySem.MeetsSeq
theorem rm_loop (l : Addr) (items : Array Value) (n : Nat) (x : Value) (e : Nat → Bool) (j : Nat) (hj : j < items.size) (hit : e j = true) (k : Nat) (hs1 : items.size ≤ sizeLine) :
    ∀ i : Nat, j - i = k → i ≤ j → (∀ m, i ≤ m → m < j → e m = false) → Meets (Builtin.«list.remove.loop» ⟨[.ref l, x, rawInt i], []⟩)
      (fun A R s => (∀ m (hm : m < items.size), m ≤ j → SeqAt.EqAt A.in1 s items[m] x (e m)) ∧ s.heap.get? l = some { cls := .type "list", dict := none, data := .seq items n, slots := #[] } ∧ R (.ok (.ret .none)) { s with heap := s.heap.update l (Obj.mapSeq fun xs => xs.eraseIdxIfInBounds j) }) := by
  induction k with
  | zero =>
    intro i hk hij hno prog w A R s h
    obtain ⟨hp, g, d, tk, os⟩ := s; obtain ⟨he, hl, h⟩ := h
    have hij' : i = j := by omega
    subst hij'
    wp_walk using wpAny_loadPart' hl
    have hi : items[((i : Nat) : Int).toNat]? = some items[i] := by simp [hj]
    rw [hi]
    refine wpAny_bind (he i hj (Nat.le_refl _) prog w _ _ ?_)
    rw [hit]
    have hz' : (items.eraseIdxIfInBounds i).size ≤ sizeLine + 1 := Nat.le_trans (size_erased items _) (Nat.le_succ_of_le hs1)
    wp_walk using (wpAny_updateSeq hl rfl (hz := hs1) (_hz' := hz')), wpAny_loadPart' hl
    simpa using h
  | succ k ih =>
    intro i hk hij hno prog w A R s h
    obtain ⟨hp, g, d, tk, os⟩ := s; obtain ⟨he, hl, h⟩ := h
    have hlt : i < items.size := by omega
    wp_walk using wpAny_loadPart' hl
    have hi : items[((i : Nat) : Int).toNat]? = some items[i] := by simp [hlt]
    have hc : ((i : Int) + 1) = ((i + 1 : Nat) : Int) := by push_cast; rfl
    rw [hi]
    refine wpAny_bind (he i hlt hij prog w _ _ ?_)
    rw [hno i (Nat.le_refl _) (by omega)]
    wp_walk
    rw [hc]
    exact ⟨plainId_quiet plain_remove_loop _, codeAny_builtin entry_remove_loop (by
      rw [Around.under_plainId plain_remove_loop _]
      exact ih (i + 1) (by omega) (by omega) (fun m h1 h2 => hno m (by omega) h2) prog w A R _ ⟨he, hl, h⟩)⟩
theorem rm_meets (l : Addr) (items : Array Value) (n : Nat) (x : Value) (e : Nat → Bool) (j : Nat) (hj : j < items.size) (hit : e j = true) (hno : ∀ m, m < j → e m = false) (hs1 : items.size ≤ sizeLine) :
    Meets (Builtin.«list.remove» ⟨[.ref l, x], []⟩)
      (fun A R s => (∀ m (hm : m < items.size), m ≤ j → SeqAt.EqAt A.in1 s items[m] x (e m)) ∧ s.heap.get? l = some { cls := .type "list", dict := none, data := .seq items n, slots := #[] } ∧ R (.ok (.ret .none)) { s with heap := s.heap.update l (Obj.mapSeq fun xs => xs.eraseIdxIfInBounds j) }) := by
  intro prog w A R s h
  obtain ⟨hp, g, d, tk, os⟩ := s; obtain ⟨he, hl, h⟩ := h
  wp_walk using wpAny_loadPart' hl
  exact ⟨plainId_quiet plain_remove_loop _, codeAny_builtin entry_remove_loop (by
    rw [Around.under_plainId plain_remove_loop _]
    exact rm_loop l items n x e j hj hit _ hs1 0 rfl (Nat.zero_le _) (fun m _ h2 => hno m h2) prog w A R _ ⟨he, hl, h⟩)⟩
def rRemove (K : PySem.W.Frag) : V → List V → Hp → VK → Prop := fun x vs H Q => ∃ l xs y j d ds, x = .ref l ∧ vs = [y] ∧ H l = some (.lst xs) ∧ xs.length < sizeLine ∧ j < xs.length ∧ Deep K H y d ∧ PySem.SeqAt.shaped d = true ∧ DeepAll K H (xs.take (j + 1)) ds ∧ (∀ e ∈ ds, PySem.SeqAt.shaped e = true) ∧
  ds[j]?.map (fun e => PyData.eqv e d) = some true ∧ (∀ m e, m < j → ds[m]? = some e → PyData.eqv e d = false) ∧ Q .non (upd H l (.lst (xs.eraseIdx j)))
theorem vals_get : ∀ {xs : List V} {us : List Value} {m : Nat} {u : Value}, Vals xs us → us[m]? = some u → ∃ x, xs[m]? = some x ∧ RelV x u
  | _, _, 0, u, .cons r _, h => by
    have : _ = u := Option.some.inj h
    subst this
    exact ⟨_, rfl, r⟩
  | _, _, m + 1, u, .cons _ t, h => by
    obtain ⟨x, h1, h2⟩ := vals_get (m := m) t (by simpa using h)
    exact ⟨x, by simpa using h1, h2⟩
theorem deepAll_get {K : PySem.W.Frag} {H : Hp} : ∀ {xs : List V} {ds : List PyData} {m : Nat} {x : V}, DeepAll K H xs ds → xs[m]? = some x → ∃ d, ds[m]? = some d ∧ Deep K H x d
  | _, _, 0, x, .cons r _, h => by
    have : _ = x := Option.some.inj h
    subst this
    exact ⟨_, rfl, r⟩
  | _, _, m + 1, x, .cons _ t, h => by
    obtain ⟨d, h1, h2⟩ := deepAll_get (m := m) t (by simpa using h)
    exact ⟨d, by simpa using h1, h2⟩
theorem vals_erase : ∀ {xs : List V} {us : List Value} (j : Nat), Vals xs us → Vals (xs.eraseIdx j) (us.eraseIdx j)
  | _, _, _, .nil => .nil
  | _, _, 0, .cons _ t => t
  | _, _, j + 1, .cons r t => .cons r (vals_erase j t)
section
variable {X : Cx}
theorem mt_remove (K : PySem.W.Frag) (h : X.K = K) (hu : X.A.units + 66 < cLine) : MtM X "list.remove" (rRemove K) := by
  subst h
  intro pins s σ H x vs v us Q I rx rv h
  obtain ⟨l, xs, y, j, d, ds, rfl, rfl, hH, hz, hj, dy, sy, dx, sx, hit, hno, q⟩ := h
  cases rx
  obtain ⟨u, rfl, ru⟩ := rv.one
  obtain ⟨z, its, n, r, hl, e⟩ := I.lstM hH
  have len := r.length
  obtain ⟨as, ra⟩ := deep_reads I dy ru
  have eq : ∀ m (hm : m < its.toArray.size), m ≤ j → SeqAt.EqAt X.A.in1 s its.toArray[m] u ((ds[m]?.map fun e => PyData.eqv e d).getD false) := fun m hm hmj => by
    have hm2 : m < its.length := by simpa using hm
    have e1 : its[m]? = some its.toArray[m] := by rw [List.getElem?_eq_getElem hm2]; simp
    obtain ⟨x, h1, h2⟩ := vals_get r e1
    have h3 : (xs.take (j + 1))[m]? = some x := by rw [List.getElem?_take, if_pos (by omega)]; exact h1
    obtain ⟨e', h4, h5⟩ := deepAll_get dx h3
    obtain ⟨bs, rb⟩ := deep_reads I h5 h2
    have se := sx e' (List.mem_of_getElem? h4)
    rw [h4]
    exact SeqAt.eqAt_reads e' d X.A.in1 s _ _ bs as rb ra (PySem.SeqAt.canLay_of_shaped se) (PySem.SeqAt.canLay_of_shaped sy) (PySem.SeqAt.room_of_shaped se (by show X.A.units + 1 + 64 < cLine; omega))
  have hit' : (ds[j]?.map fun e => PyData.eqv e d).getD false = true := by rw [hit]; rfl
  have hno' : ∀ m, m < j → (ds[m]?.map fun e => PyData.eqv e d).getD false = false := fun m hm => by
    cases c : ds[m]? with
    | none => rfl
    | some e => exact hno m e hm c
  refine call_meets F.slot_list_remove ⟨_, e, rfl⟩ F.entry_list_remove (F.args_list_remove_2 _ _) (rm_meets l its.toArray n u (fun m => (ds[m]?.map fun e => PyData.eqv e d).getD false) j (by rw [List.size_toArray]; omega) hit' hno' (by rw [List.size_toArray]; omega)) ⟨eq, e, ?_⟩
  refine ⟨.non, _, I.lset (its' := its.eraseIdx j) hH e ?_ (vals_erase j r) ?_, rfl, q⟩
  · simp [Array.eraseIdxIfInBounds]
    exact fun c => absurd c (by omega)
  · rw [List.length_eraseIdx]
    split <;> omega
end
end L2
namespace L2
open PySem PySem.Spec PyProof.Rows
theorem Room.units66 {k : Nat} {A : Around} (r : Room k A) : A.units + 66 < cLine := by have := r.un; omega
section
variable {X : Cx}
end
end L2
namespace L2
open PySem PySem.Spec PyProof.Rows
section
variable {X : Cx}
end
section
variable {X : Cx} {pins : List (Addr × Obj)} {σ : St} {H : Hp} {s : Shared} {a vw : Addr} {kvs : List (Key × V)} {Q : VK}
end
end L2
namespace L2
open PySem PySem.Spec PyProof.Rows
section
variable {X : Cx}
end
section
variable {X : Cx}
end
theorem strs_deep {K : PySem.W.Frag} {H : Hp} : ∀ (ns : List Str), DeepAll K H (ns.map V.str) (ns.map PyData.str)
  | [] => .nil
  | _ :: r => .cons (.str _) (strs_deep r)
theorem mapErase {α β : Type} (f : α → β) : ∀ (l : List α) (j : Nat), (l.map f).eraseIdx j = (l.eraseIdx j).map f
  | [], _ => rfl
  | _ :: _, 0 => rfl
  | a :: r, j + 1 => by
    show f a :: _ = f a :: _
    rw [mapErase f r j]
theorem str_rm {K : PySem.W.Frag} {H : Hp} {l : Addr} {L : List Str} {x : Str} {Q : VK} (nd : L.Nodup) (hx : x ∈ L) (n9 : L.length ≤ 100) (ok : ∀ y ∈ L, PyData.strOk y = true) (h : H l = some (.lst (L.map V.str))) (q : Q .non (upd H l (.lst ((L.erase x).map V.str)))) : rRemove K (.ref l) [.str x] H Q := by
  obtain ⟨j, hj⟩ := List.getElem?_of_mem hx
  have jl := (List.getElem?_eq_some_iff.mp hj).1
  have es : L.erase x = L.eraseIdx j := by
    rw [List.erase_eq_eraseIdx_of_idxOf]
    rw [← (List.getElem?_eq_some_iff.mp hj).2]
    exact (nd.idxOf_getElem j jl)
  have okx : PySem.SeqAt.shaped (.str x) = true := by
    unfold PySem.SeqAt.shaped
    rw [Bool.and_eq_true, decide_eq_true_eq]
    exact ⟨by simpa only [PyData.canLay0] using ok x hx, by simp [PyData.depth]⟩
  refine ⟨l, L.map V.str, .str x, j, .str x, (L.take (j + 1)).map PyData.str, rfl, rfl, h, line_lt (by rw [List.length_map]; omega), by rw [List.length_map]; exact jl, .str _, okx, ?_, fun e he => ?_, ?_, fun m e hmj he => ?_, ?_⟩
  · rw [← List.map_take]
    exact strs_deep _
  · obtain ⟨y, hy, rfl⟩ := List.mem_map.mp he
    unfold PySem.SeqAt.shaped
    rw [Bool.and_eq_true, decide_eq_true_eq]
    exact ⟨by simpa only [PyData.canLay0] using ok y (List.mem_of_mem_take hy), by simp [PyData.depth]⟩
  · rw [List.getElem?_map, List.getElem?_take, if_pos (by omega), hj]
    simp [PyData.eqv]
  · rw [List.getElem?_map, List.getElem?_take, if_pos (by omega)] at he
    cases hy : L[m]? with
    | none => rw [hy] at he; simp at he
    | some y =>
      rw [hy] at he
      have he : PyData.str y = e := by simpa using he
      subst he
      have ne : y ≠ x := fun c => by
        rw [c] at hy
        have := (List.getElem?_inj jl nd).mp (hj.trans hy.symm)
        omega
      simp [PyData.eqv]
      exact ne
  · rw [mapErase, ← es]
    exact q
end L2
namespace L2
open PySem PySem.Spec PyProof.Rows
def optS : Option Str → V
  | none => .non
  | some x => .str x
structure FR (fs : List (Str × V)) (most : Int) (pm : Addr) (ch : V) (pt pg : Addr) (tu : Option Str) : Prop where
  mo : fs.lookup ("most" : Str) = some (.int most)
  me : fs.lookup ("members" : Str) = some (.ref pm)
  ch : fs.lookup ("chosen" : Str) = some ch
  qu : fs.lookup ("queue" : Str) = some (.ref pt)
  re : fs.lookup ("rests" : Str) = some (.ref pg)
  tu : fs.lookup ("turn" : Str) = some (optS tu)
  no : ∀ m : Str, ¬ m = "most" → ¬ m = "members" → ¬ m = "chosen" → ¬ m = "queue" → ¬ m = "rests" → ¬ m = "turn" → fs.lookup m = none
  len : fs.length < 900
theorem FR.mk0 (most : Int) (pm : Addr) (ch : V) (pt pg : Addr) : FR (putF "turn" .non (putF "rests" (.ref pg) (putF "queue" (.ref pt) (putF "chosen" ch (putF "members" (.ref pm) (putF "most" (.int most) [])))))) most pm ch pt pg none := by
  refine ⟨?_, ?_, ?_, ?_, ?_, ?_, fun m h1 h2 h3 h4 h5 h6 => ?_, ?_⟩
  · rw [look_ne (by decide +kernel), look_ne (by decide +kernel), look_ne (by decide +kernel), look_ne (by decide +kernel), look_ne (by decide +kernel), look_eq]
  · rw [look_ne (by decide +kernel), look_ne (by decide +kernel), look_ne (by decide +kernel), look_ne (by decide +kernel), look_eq]
  · rw [look_ne (by decide +kernel), look_ne (by decide +kernel), look_ne (by decide +kernel), look_eq]
  · rw [look_ne (by decide +kernel), look_ne (by decide +kernel), look_eq]
  · rw [look_ne (by decide +kernel), look_eq]
  · rw [look_eq]; rfl
  · rw [look_ne h6, look_ne h5, look_ne h4, look_ne h3, look_ne h2, look_ne h1]; rfl
  · have a1 := putF_len' (fs := []) (f := "most") (v := .int most)
    have a2 := putF_len' (fs := putF "most" (.int most) []) (f := "members") (v := .ref pm)
    have a3 := putF_len' (fs := putF "members" (.ref pm) (putF "most" (.int most) [])) (f := "chosen") (v := ch)
    have a4 := putF_len' (fs := putF "chosen" ch (putF "members" (.ref pm) (putF "most" (.int most) []))) (f := "queue") (v := .ref pt)
    have a5 := putF_len' (fs := putF "queue" (.ref pt) (putF "chosen" ch (putF "members" (.ref pm) (putF "most" (.int most) [])))) (f := "rests") (v := .ref pg)
    have a6 := putF_len' (fs := putF "rests" (.ref pg) (putF "queue" (.ref pt) (putF "chosen" ch (putF "members" (.ref pm) (putF "most" (.int most) []))))) (f := "turn") (v := .non)
    simp only [List.length_nil] at a1
    omega
theorem FR.put_tu {fs : List (Str × V)} {most : Int} {pm : Addr} {ch : V} {pt pg : Addr} {tu : Option Str} (tu' : Option Str) (h : FR fs most pm ch pt pg tu) : FR (putF "turn" (optS tu') fs) most pm ch pt pg tu' := by
  refine ⟨?_, ?_, ?_, ?_, ?_, look_eq, fun m h1 h2 h3 h4 h5 h6 => ?_, ?_⟩
  · rw [look_ne (by decide +kernel)]; exact h.mo
  · rw [look_ne (by decide +kernel)]; exact h.me
  · rw [look_ne (by decide +kernel)]; exact h.ch
  · rw [look_ne (by decide +kernel)]; exact h.qu
  · rw [look_ne (by decide +kernel)]; exact h.re
  · rw [look_ne h6]; exact h.no m h1 h2 h3 h4 h5 h6
  · rw [putF_len h.tu]; exact h.len
structure Rx (C Cm : Addr) (H : Hp) (a : At5) (most : Int) (nm : Nm) (q : List Str) (rs : Nm) (tu : Option Str) (ch : V) : Prop where
  ex : ∃ dx fs, H a.p = some (.ins C dx fs) ∧ FR fs most a.pm ch a.pt a.pg tu
  mb : Mb Cm H a.pm a.ps nm
  hq : H a.pt = some (.lst (q.map V.str))
  hr : H a.pg = some (.dK (kvsOf rs))
  n3 : a.pg ≠ a.ps
  n4 : a.p ≠ a.pm
section
variable {C Cm : Addr} {H H' : Hp} {a : At5} {most : Int} {nm nm' : Nm} {q q' : List Str} {rs rs' : Nm} {tu tu' : Option Str} {ch ch' : V}
theorem Rx.same (h : Rx C Cm H a most nm q rs tu ch) (s : Same H H') : Rx C Cm H' a most nm q rs tu ch := by
  obtain ⟨dx, fs, h1, h2⟩ := h.ex
  exact ⟨⟨dx, fs, s _ _ h1, h2⟩, h.mb.same s, s _ _ h.hq, s _ _ h.hr, h.n3, h.n4⟩
theorem Rx.set_q (S : Rx C Cm H a most nm q rs tu ch) : Rx C Cm (upd H a.pt (.lst (q'.map V.str))) a most nm q' rs tu ch := by
  obtain ⟨dx, fs, h1, h2⟩ := S.ex
  obtain ⟨dm, fm, m1, m2⟩ := S.mb.ex
  have kp : ∀ b o, b ≠ a.pt → H b = some o → upd H a.pt (.lst (q'.map V.str)) b = some o := fun b o n e => by rw [upd_ne n]; exact e
  exact ⟨⟨dx, fs, kp _ _ (ne_of h1 S.hq (by intro z; cases z)) h1, h2⟩, ⟨⟨dm, fm, kp _ _ (ne_of m1 S.hq (by intro z; cases z)) m1, m2⟩, kp _ _ (ne_of S.mb.hs S.hq (by intro z; cases z)) S.mb.hs⟩, upd_same, kp _ _ (ne_of S.hr S.hq (by intro z; cases z)) S.hr, S.n3, S.n4⟩
theorem Rx.set_r (S : Rx C Cm H a most nm q rs tu ch) : Rx C Cm (upd H a.pg (.dK (kvsOf rs'))) a most nm q rs' tu ch := by
  obtain ⟨dx, fs, h1, h2⟩ := S.ex
  obtain ⟨dm, fm, m1, m2⟩ := S.mb.ex
  have kp : ∀ b o, b ≠ a.pg → H b = some o → upd H a.pg (.dK (kvsOf rs')) b = some o := fun b o n e => by rw [upd_ne n]; exact e
  exact ⟨⟨dx, fs, kp _ _ (ne_of h1 S.hr (by intro z; cases z)) h1, h2⟩, ⟨⟨dm, fm, kp _ _ (ne_of m1 S.hr (by intro z; cases z)) m1, m2⟩, kp _ _ S.n3.symm S.mb.hs⟩, kp _ _ (ne_of S.hq S.hr (by intro z; cases z)) S.hq, upd_same, S.n3, S.n4⟩
theorem Rx.set_s (S : Rx C Cm H a most nm q rs tu ch) : Rx C Cm (upd H a.ps (.dK (kvsOf nm'))) a most nm' q rs tu ch := by
  obtain ⟨dx, fs, h1, h2⟩ := S.ex
  have g1 := S.mb.hs
  have kp : ∀ b o, b ≠ a.ps → H b = some o → upd H a.ps (.dK (kvsOf nm')) b = some o := fun b o n e => by rw [upd_ne n]; exact e
  exact ⟨⟨dx, fs, kp _ _ (ne_of h1 g1 (by intro z; cases z)) h1, h2⟩, S.mb.put, kp _ _ (ne_of S.hq g1 (by intro z; cases z)) S.hq, kp _ _ S.n3 S.hr, S.n3, S.n4⟩
theorem Rx.set_p {dx : Addr} {fs fs' : List (Str × V)} (S : Rx C Cm H a most nm q rs tu ch) (h1 : H a.p = some (.ins C dx fs)) (ft : FR fs' most a.pm ch' a.pt a.pg tu') : Rx C Cm (upd H a.p (.ins C dx fs')) a most nm q rs tu' ch' := by
  obtain ⟨dm, fm, m1, m2⟩ := S.mb.ex
  have kp : ∀ b o, b ≠ a.p → H b = some o → upd H a.p (.ins C dx fs') b = some o := fun b o n e => by rw [upd_ne n]; exact e
  exact ⟨⟨dx, fs', upd_same, ft⟩, ⟨⟨dm, fm, kp _ _ S.n4.symm m1, m2⟩, kp _ _ (ne_of S.mb.hs h1 (by intro z; cases z)) S.mb.hs⟩, kp _ _ (ne_of S.hq h1 (by intro z; cases z)) S.hq, kp _ _ (ne_of S.hr h1 (by intro z; cases z)) S.hr, S.n3, S.n4⟩
theorem Rx.meth {m : Str} {Z : Prop} (S : Rx C Cm H a most nm q rs tu ch) (h : ¬ m = "most" ∧ ¬ m = "members" ∧ ¬ m = "chosen" ∧ ¬ m = "queue" ∧ ¬ m = "rests" ∧ ¬ m = "turn") (z : Z) : rMeth C m (.ref a.p) H Z := by
  obtain ⟨dx, fs, hp, ft⟩ := S.ex
  exact meth_at hp (ft.no _ h.1 h.2.1 h.2.2.1 h.2.2.2.1 h.2.2.2.2.1 h.2.2.2.2.2) z
end
end L2
namespace Sw
open L2 PySem
theorem fst_put (nm : Nm) (x : Str) (s : Int) : (putN nm x s).map (·.1) = nm.map (·.1) := by
  unfold putN
  rw [List.map_map]
  refine List.map_congr_left fun p _ => ?_
  by_cases h : p.1 = x
  · simp [h]
  · simp [h]
theorem fst_drop (nm : Nm) (x : Str) : (dropN nm x).map (·.1) = (nm.map (·.1)).filter fun y => decide (y ≠ x) := by
  unfold dropN
  rw [List.filter_map]
  rfl
theorem sh_mem {nm : Nm} {x : Str} : shOf nm x ≠ none ↔ x ∈ nm.map (·.1) := by
  constructor
  · intro h
    cases e : shOf nm x with
    | none => exact absurd e h
    | some s => exact List.mem_map.mpr ⟨_, shOf_mem e, rfl⟩
  · intro h
    obtain ⟨p, hp, e⟩ := List.mem_map.mp h
    have : (x, p.2) ∈ nm := by rw [← e]; exact hp
    exact shOf_of_mem this
theorem sh_none {nm : Nm} {x : Str} : shOf nm x = none ↔ x ∉ nm.map (·.1) := by
  constructor
  · exact fun h z => sh_mem.mpr z h
  · intro h
    cases e : shOf nm x with
    | none => rfl
    | some s => exact absurd (sh_mem.mp (by rw [e]; simp)) h
structure RI (most : Int) (nm : Nm) (q : List Str) (rs : Nm) (tu : Option Str) : Prop where
  m0 : 1 ≤ most
  ks : rs.map (·.1) = nm.map (·.1)
  nd : (nm.map (·.1)).Nodup
  pm : (q ++ tu.toList).Perm (nm.map (·.1))
  sh : ∀ x s, shOf nm x = some s → 1 ≤ s ∧ s ≤ 1000000
  bd : ∀ x s, shOf nm x = some s → ∃ r, shOf rs x = some r ∧ 0 - most < r ∧ r ≤ s * most ∧ (0 < r → tu = some x)
section
variable {most : Int} {nm : Nm} {q : List Str} {rs : Nm} {tu : Option Str}
theorem RI.nil (h : 1 ≤ most) : RI most [] [] [] none := ⟨h, rfl, .nil, .refl _, fun x s e => (by cases e), fun x s e => (by cases e)⟩
theorem RI.put (h : RI most nm q rs tu) {x : Str} {s : Int} (hx : shOf nm x = none) (s0 : 1 ≤ s) (s1 : s ≤ 1000000) : RI most (nm ++ [(x, s)]) (q ++ [x]) (rs ++ [(x, 0)]) tu := by
  have hr : shOf rs x = none := by rw [sh_none, h.ks, ← sh_none]; exact hx
  refine ⟨h.m0, ?_, ?_, ?_, fun y t e => ?_, fun y t e => ?_⟩
  · rw [List.map_append, List.map_append, h.ks]; rfl
  · rw [List.map_append]
    refine List.nodup_append.mpr ⟨h.nd, by simp, fun a ha b hb => ?_⟩
    have : b = x := by simpa using hb
    subst this
    exact fun z => sh_none.mp hx (z ▸ ha)
  · rw [List.map_append]
    have := h.pm.append_right [x]
    refine List.Perm.trans ?_ this
    rw [List.append_assoc, List.append_assoc]
    exact List.Perm.append_left _ List.perm_append_comm
  · rw [shOf_new hx] at e
    split at e
    · cases e; exact ⟨s0, s1⟩
    · exact h.sh y t e
  · rw [shOf_new hx] at e
    rw [shOf_new hr]
    have m0 := h.m0
    split at e
    · rename_i c
      cases e
      rw [if_pos c]
      have := Int.mul_le_mul s0 h.m0 (by omega) (by omega)
      exact ⟨0, rfl, by omega, by omega, fun z => absurd z (by decide)⟩
    · rename_i c
      rw [if_neg c]
      exact h.bd y t e
theorem RI.take (h : RI most nm q rs tu) {x : Str} (hx : shOf nm x ≠ none) : RI most (dropN nm x) (if tu = some x then q else q.erase x) (dropN rs x) (if tu = some x then none else tu) := by
  have ndq : (q ++ tu.toList).Nodup := h.pm.nodup_iff.mpr h.nd
  have e1 : (nm.map (·.1)).filter (fun y => decide (y ≠ x)) = (nm.map (·.1)).erase x := by
    rw [h.nd.erase_eq_filter]
    congr 1
    funext y
    by_cases c : y = x
    · simp [c]
    · simp [c]
  refine ⟨h.m0, ?_, ?_, ?_, fun y t e => ?_, fun y t e => ?_⟩
  · rw [fst_drop, fst_drop, h.ks]
  · rw [fst_drop]; exact h.nd.filter _
  · rw [fst_drop, e1]
    have := h.pm.erase x
    refine List.Perm.trans ?_ this
    by_cases c : tu = some x
    · rw [if_pos c, if_pos c]
      subst c
      have nq : x ∉ q := fun z => (List.nodup_append.mp ndq).2.2 x z x (by simp) rfl
      rw [List.erase_append_right _ nq]
      simp
    · rw [if_neg c, if_neg c]
      have xq : x ∈ q := by
        have := h.pm.mem_iff.mpr (sh_mem.mp hx)
        rcases List.mem_append.mp this with z | z
        · exact z
        · cases tu with
          | none => cases z
          | some y =>
            have : x = y := by simpa using z
            exact absurd (by rw [this]) c
      rw [List.erase_append_left _ xq]
  · rw [shOf_drop] at e
    split at e
    · cases e
    · exact h.sh y t e
  · rw [shOf_drop] at e ⊢
    split at e
    · cases e
    · rename_i c
      rw [if_neg c]
      obtain ⟨r, a1, a2, a3, a4⟩ := h.bd y t e
      refine ⟨r, a1, a2, a3, fun z => ?_⟩
      have := a4 z
      rw [if_neg (fun d => c (by rw [this] at d; exact Option.some.inj d))]
      exact this
theorem RI.resh (h : RI most nm q rs tu) {x : Str} {s r : Int} (hx : shOf nm x ≠ none) (hr : shOf rs x = some r) (s0 : 1 ≤ s) (s1 : s ≤ 1000000) : RI most (putN nm x s) q (putN rs x (if s * most < r then s * most else r)) tu := by
  have m0 := h.m0
  have sm := Int.mul_le_mul s0 h.m0 (by omega) (by omega)
  refine ⟨h.m0, by rw [fst_put, fst_put, h.ks], by rw [fst_put]; exact h.nd, by rw [fst_put]; exact h.pm, fun y t e => ?_, fun y t e => ?_⟩
  · rw [shOf_put] at e
    split at e
    · cases z : shOf nm y with
      | none => rw [z] at e; cases e
      | some v => rw [z] at e; cases e; exact ⟨s0, s1⟩
    · exact h.sh y t e
  · rw [shOf_put] at e ⊢
    split at e
    · rename_i c
      subst c
      rw [if_pos rfl, hr]
      cases z : shOf nm y with
      | none => exact absurd z hx
      | some v =>
        rw [z] at e
        have e : s = t := by simpa using e
        subst e
        obtain ⟨r', a1, a2, a3, a4⟩ := h.bd y v z
        rw [hr] at a1
        cases a1
        refine ⟨if s * most < r then s * most else r, rfl, by split <;> omega, by split <;> omega, fun y => a4 ?_⟩
        split at y <;> omega
    · rename_i c
      rw [if_neg c]
      exact h.bd y t e
end
end Sw
namespace L2
open PySem PySem.Spec PyProof.Rows
section
variable {X : Cx}
end
end L2
namespace L2
open PySem PySem.Spec PyProof.Rows
def StR (H : Hp) (xr : Str × Rat) (kv : Key × V) : Prop := kv.1 = Sum.inr xr.1 ∧ ∃ q, kv.2 = V.ref q ∧ H q = some (.tup (fq xr.2))
structure StD (H : Hp) (p : Addr) (l : List (Str × Rat)) : Prop where
  ex : ∃ kvs, H p = some (.dK kvs) ∧ Paired (StR H) l kvs
theorem StR.keep {H H' : Hp} {xr : Str × Rat} {kv : Key × V} (h : StR H xr kv) (k : ∀ b zs, H b = some (.tup zs) → H' b = some (.tup zs)) : StR H' xr kv := by
  obtain ⟨h1, q, h2, h3⟩ := h
  exact ⟨h1, q, h2, k _ _ h3⟩
theorem StD.keep {H H' : Hp} {p : Addr} {l : List (Str × Rat)} (h : StD H p l) (k : ∀ b zs, H b = some (.tup zs) → H' b = some (.tup zs)) (kd : ∀ kvs, H p = some (.dK kvs) → H' p = some (.dK kvs)) : StD H' p l := by
  obtain ⟨kvs, h1, h2⟩ := h.ex
  exact ⟨kvs, kd _ h1, Paired.mapP h2 fun _ _ z => z.keep k⟩
theorem StD.same {H H' : Hp} {p : Addr} {l : List (Str × Rat)} (h : StD H p l) (s : Same H H') : StD H' p l := h.keep (fun _ _ e => s _ _ e) fun _ e => s _ _ e
theorem st_none {H : Hp} {x : Str} : ∀ {l : List (Str × Rat)} {kvs : List (Key × V)}, Paired (StR H) l kvs → x ∉ l.map (·.1) → valV kvs (Sum.inr x : Key) = none
  | _, _, .nil, _ => rfl
  | _, _, .cons (a := p) (b := kv) h t, hx => by
    rw [List.map_cons, List.mem_cons, not_or] at hx
    rw [valV_neg (by rw [h.1]; exact fun z => hx.1 (Sum.inr.inj z).symm)]
    exact st_none t hx.2
theorem st_get {H : Hp} {x : Str} {r : Rat} : ∀ {l : List (Str × Rat)} {kvs : List (Key × V)}, Paired (StR H) l kvs → (l.map (·.1)).Nodup → (x, r) ∈ l → ∃ q, valV kvs (Sum.inr x : Key) = some (.ref q) ∧ H q = some (.tup (fq r))
  | _, _, .nil, _, h => by cases h
  | _, _, .cons (a := p) (b := kv) h t, nd, hm => by
    rw [List.map_cons, List.nodup_cons] at nd
    obtain ⟨h1, q, h2, h3⟩ := h
    rcases List.mem_cons.mp hm with e | e
    · subst e
      exact ⟨q, by rw [valV_pos h1, h2], h3⟩
    · have ne : p.1 ≠ x := fun z => nd.1 (List.mem_map.mpr ⟨_, e, z.symm⟩)
      rw [valV_neg (by rw [h1]; exact fun z => ne (Sum.inr.inj z))]
      exact st_get t nd.2 e
theorem StD.get {H : Hp} {p : Addr} {l : List (Str × Rat)} {x : Str} {r : Rat} (h : StD H p l) (nd : (l.map (·.1)).Nodup) (hm : (x, r) ∈ l) : ∃ q, DGet H p (.str x) (some (.ref q)) ∧ H q = some (.tup (fq r)) := by
  obtain ⟨kvs, h1, h2⟩ := h.ex
  obtain ⟨q, e, hq⟩ := st_get h2 nd hm
  have g := DGet.k (k := Sum.inr x) h1
  rw [e] at g
  exact ⟨q, g, hq⟩
theorem StD.put {H : Hp} {p q : Addr} {l : List (Str × Rat)} {x : Str} {r : Rat} (h : StD H p l) (hl : l.length < 900) (hx : x ∉ l.map (·.1)) (hq : H q = some (.tup (fq r))) : ∃ H', DPut H p (.str x) (.ref q) H' ∧ StD H' p (l ++ [(x, r)]) ∧ (∀ b o, b ≠ p → H b = some o → H' b = some o) ∧ ∃ kvs, H' = upd H p (.dK kvs) := by
  obtain ⟨kvs, h1, h2⟩ := h.ex
  have len : l.length = kvs.length := Paired.length h2
  have kp : ∀ b o, b ≠ p → H b = some o → upd H p (.dK (putK kvs (Sum.inr x : Key) (.ref q))) b = some o := fun b o n e => by rw [upd_ne n]; exact e
  have kt : ∀ b zs, H b = some (.tup zs) → upd H p (.dK (putK kvs (Sum.inr x : Key) (.ref q))) b = some (.tup zs) := fun b zs e => kp _ _ (ne_of e h1 (by intro z; cases z)) e
  refine ⟨_, DPut.k (k := Sum.inr x) h1 (line_lt (by omega)), ⟨_, upd_same, ?_⟩, kp, _, rfl⟩
  rw [putK_new _ (st_none h2 hx)] at kt ⊢
  exact paired_snoc ⟨rfl, q, rfl, kt _ _ hq⟩ (Paired.mapP h2 fun _ _ z => z.keep kt)
end L2
namespace L2
open PySem PySem.Spec PyProof.Rows
section
variable {X : Cx}
end
end L2
namespace L2
open PySem PySem.Spec PyProof.Rows
def tOrE (t1 t2 : TE) : TE := fun σ H Q => t1 σ H Q ∨ t2 σ H Q
section
variable {X : Cx}
theorem pe_alt {e : Expr} {t1 t2 : TE} (h1 : PE X e t1) (h2 : PE X e t2) : PE X e (tOrE t1 t2) := fun pins s σ H Q I h => h.elim (h1 pins s σ H Q I) (h2 pins s σ H Q I)
def rSlS : V → Option Int → Option Int → Hp → VK → Prop := fun x lo hi H Q => ∃ z, x = .str z ∧ z.length ≤ sizeLine ∧ Q (.str (Txt.slice z lo hi)) H
theorem sl_str : SlR X rSlS := by
  intro pins s σ H x v vl vu lo hi sl Q I rx hs pl pu h
  obtain ⟨z, rfl, hz, q⟩ := h
  obtain ⟨t, rfl⟩ := rx
  refine ⟨"str", _, slot_str_getitem.lookup, typeIs_str s z t, ?_⟩
  have fin : ∀ l u : Option (Int × Tok), l.map (·.1) = lo → u.map (·.1) = hi → (sliceMade z t l u none).post (EP X pins σ Q) s := fun l u el eu => by
    unfold sliceMade
    unfold Txt.slice at q
    rw [← el, ← eu] at q
    have q : Q (.str (if ((Option.map (fun x : Int × Tok => x.1) none).getD 1 == 1 && (slicePicked z l u none).length == z.length) = true then z else { cps := (List.filterMap (fun x => z.cps[x]?) (slicePicked z l u none)).toArray })) H := q
    split
    · rename_i c
      rw [if_pos c] at q
      exact ⟨.str z, H, I, ⟨_, rfl⟩, q⟩
    · rename_i c
      rw [if_neg c] at q
      have le := Txt.slice_le z lo hi
      unfold Txt.slice at le
      rw [← el, ← eu] at le
      have le : (if ((Option.map (fun x : Int × Tok => x.1) none).getD 1 == 1 && (slicePicked z l u none).length == z.length) = true then z else { cps := (List.filterMap (fun x => z.cps[x]?) (slicePicked z l u none)).toArray }).length ≤ z.length := le
      rw [if_neg c] at le
      exact ⟨Nat.le_trans le hz, .str _, H, I.tok _, ⟨_, rfl⟩, q⟩
  cases pl with
  | none => cases pu with
    | none => exact wpAny_getItem_str_slice (l := none) (u := none) (st := none) hs rfl (fin none none rfl rfl)
    | int j uj => exact wpAny_getItem_str_slice (l := none) (u := some (j, uj)) (st := none) hs rfl (fin none (some (j, uj)) rfl rfl)
  | int i ui => cases pu with
    | none => exact wpAny_getItem_str_slice (l := some (i, ui)) (u := none) (st := none) hs rfl (fin (some (i, ui)) none rfl rfl)
    | int j uj => exact wpAny_getItem_str_slice (l := some (i, ui)) (u := some (j, uj)) (st := none) hs rfl (fin (some (i, ui)) (some (j, uj)) rfl rfl)
def rMulS : R2 := fun x y H Q => ∃ z n, x = .str z ∧ y = .int n ∧ 0 ≤ n ∧ n < 1000 ∧ z.length < 1000 ∧ Q (.str (Txt.mul z n)) H
theorem op_mulS : OpR X (binaryOp .Mult) rMulS := by
  intro pins s σ H x y v u Q I rx ry h
  obtain ⟨z, n, rfl, rfl, n0, n1, hz, q⟩ := h
  obtain ⟨t, rfl⟩ := rx
  obtain ⟨t', rfl⟩ := ry
  refine SB.mul ⟨?_, fun a b => ?_, fun a b => ?_⟩ fun t' k => ⟨.str _, H, I.tok _, ⟨_, rfl⟩, q⟩
  · simp; omega
  · have h1 : (z.length : Int) * n ≤ 2 ^ 63 - 1 := by
      have := Int.mul_le_mul (show (z.length : Int) ≤ 1000 by omega) (show n ≤ 1000 by omega) n0 (by decide)
      omega
    have := (Int.le_ediv_iff_mul_le (show 0 < n by omega)).mpr h1
    omega
  · unfold Builtin.Str.tooLong
    rw [decide_eq_false_iff_not]
    have h1 := Nat.mul_le_mul (show z.length ≤ 1000 by omega) (show n.toNat ≤ 1000 by omega)
    have hs : sizeLine = 16777216 := sizeLine_eq
    omega
end
end L2
namespace L2
open PySem PySem.Spec PyProof.Rows
theorem walks_vals {P : Program} {w : World} {A : Around} {Kt : Type} [DecidableEq Kt] {knd : KeyKind P w Kt} (hh : A.handled = none) (it a : Addr) (ne : it ≠ a) (vs : List (Kt × Value)) (ep : Nat) :
    WalksS P w A it [it, a] [it] (fun x y => x = y) vs.length (fun i v => ∃ k, vs[i]? = some (k, v)) (fun i s => s.heap.IsValIter it a i vs.length ep ∧ s.heap.DictAt knd a vs ep) where
  sub := fun b hb => by
    rw [List.mem_singleton.mp hb]; simp
  grefl := fun _ => rfl
  gtrans := fun _ _ _ h1 h2 => h1.trans h2
  frame := fun i s h' tk ⟨st, da⟩ _ hk => by
    obtain ⟨o, e, c⟩ := st
    obtain ⟨o', es, e', c'⟩ := da
    exact ⟨⟨o, hk it (by simp) o e, c⟩, o', es, hk a (by simp) o' e', c'⟩
  item := fun i s Q E hi ⟨st, da⟩ q => by
    have hv : vs[i]? = some (vs[i]'hi) := List.getElem?_eq_getElem _
    refine wpAny_pyNext_values_item (k := (vs[i]'hi).1) (v := (vs[i]'hi).2) st da hv fun h' st' sb => ?_
    obtain ⟨o', es, e', c'⟩ := id da
    exact q _ _ ⟨_, hv⟩ ⟨st', o', es, (sb.2 a (fun z => ne z.symm)).trans e', c'⟩ ⟨fun b o hb e => (sb.2 b (by simpa using hb)).trans e, rfl, rfl, rfl, Nat.le_refl _⟩
  done := fun s Q E ⟨st, da⟩ q => by
    refine wpAny_pyNext_values_end hh st da (List.getElem?_eq_none (Nat.le_refl _)) fun h' eb => q _ ⟨fun b o hb e => eb b o (by simpa using hb) e, rfl, rfl, rfl, Nat.le_refl _⟩
  self := fun i s Q E ⟨st, _⟩ h => wpAny_pyIter_valiter st h
theorem vals_at {kvs : List (Key × V)} {vs : List (Key × Value)} (rel : KV kvs vs) {ns : List Int} (hk : kvs.map (·.2) = ns.map V.int) {i : Nat} {k : Key} {v : Value} (h : vs[i]? = some (k, v)) : ∃ t, v = Value.int (ns.getD i 0) t := by
  have hi : i < kvs.length := by rw [rel.length]; exact (List.getElem?_eq_some_iff.mp h).1
  have hkv : kvs[i]? = some kvs[i] := List.getElem?_eq_getElem hi
  obtain ⟨q, hq, rq⟩ := paired_get rel hkv
  rw [h] at hq
  cases hq
  have e : (kvs.map (·.2))[i]? = some kvs[i].2 := by rw [List.getElem?_map, hkv]; rfl
  rw [hk, List.getElem?_map] at e
  cases en : ns[i]? with
  | none => rw [en] at e; cases e
  | some n =>
    rw [en] at e
    have e : V.int n = kvs[i].2 := Option.some.inj e
    have r := rq.2
    rw [← e] at r
    obtain ⟨t, ht⟩ := r
    exact ⟨t, by rw [List.getD_eq_getElem?_getD, en]; exact ht⟩
theorem preSum_getD : ∀ (ns : List Int) (k : Nat), k ≤ ns.length → preSum (fun i => ns.getD i 0) k = (ns.take k).sum
  | _, 0, _ => rfl
  | ns, k + 1, h => by
    have e : ns[k]? = some ns[k] := List.getElem?_eq_getElem (by omega)
    rw [L2.take_succ_of e, List.sum_append, List.sum_singleton, ← preSum_getD ns k (by omega)]
    show preSum _ k + ns.getD k 0 = _
    rw [List.getD_eq_getElem?_getD, e]
    rfl
def tSumV (td : TE) : TE := fun σ H Q => td σ H fun x H1 => ∃ (a : Addr) (kvs : List (Key × V)) (ns : List Int), x = .ref a ∧ H1 a = some (.dK kvs) ∧ kvs.map (·.2) = ns.map V.int ∧ Q (.int ns.sum) H1
section
variable {X : Cx}
theorem pe_sumV {o : Expr} {td : TE} {p pos apos cpos : Pos} (hc : X.calm = true) (ho : PE X o td) (hg : Gl X "sum") (hm : X.mg "sum" = none) (hbase : attributeBase o "values" X.env (eval o X.env) = eval o X.env := by rfl) (hline : (apos.endLine == cpos.line) = true := by rfl)
    (hs : starEach [.Call (.Attribute o "values" apos) [] [] cpos] X.env = (false, eval (.Call (.Attribute o "values" apos) [] [] cpos) X.env) :: starEach [] X.env := by rfl) (hpl : (backTo pos (starEach [] X.env)).any (·.1) = false := by rfl) :
    PE X (.Call (.Name "sum" p) [.Call (.Attribute o "values" apos) [] [] cpos] [] pos) (tSumV td) := by
  intro pins s σ H Q I h
  refine wpAny_Call_Name_kw (ld_blt I hg hm PyProof.Rows.boot_sum ?_ (by decide) (by decide))
  refine PyProof.Rows.callWith_builtin1 ?_ hs hpl
  rw [hs]
  show wpAny _ _ (spliced ((false, eval _ X.env) :: backTo pos (starEach [] X.env))) _ _ s
  refine Calls.spliced_cons (wpAny_Call_method0_late hbase hline (thn (ho pins s σ H _ I h) fun v s1 ⟨x, H1, I1, r1, a, kvs, ns, ex, ha, hk, q⟩ => ?_))
  subst ex
  obtain rfl : v = Value.ref a := r1
  obtain ⟨t1, t2, _⟩ := isD_at I1 (.inl ⟨kvs, .inl ha⟩)
  obtain ⟨z, hd, vs, rel, o', es, ep, ho', hx⟩ := dk_of I1.hok ha
  refine ⟨"dict", "dict.values", PySem.F.plainAttrs_dict, PySem.F.slot_dict_values, PySem.F.type_dict_values, t1, t2, Calls.callWith_builtin rfl (PySem.evalArgs_none ?_)⟩
  refine call_meetsIn PySem.F.slot_dict_values t1 PySem.F.entry_dict_values (PySem.F.args_dict_values_1 _) (meets_dict_values (mixKind X.prog X.w) a hd) ⟨⟨vs, o', es, ep, ho', hx⟩, ?_⟩
  have Iv : Inv X pins σ H1 { s1 with heap := s1.heap.push { cls := .type "dict_values", data := .fields #[.ref a] } } := I1.kept (t' := s1.toks) fun b o e => Heap.get?_push_of_some _ e
  have hov : (s1.heap.push { cls := .type "dict_values", data := .fields #[.ref a] }).get? a = some o' := Heap.get?_push_of_some _ ho'
  have hvw : (s1.heap.push { cls := .type "dict_values", data := .fields #[.ref a] }).IsValuesView s1.heap.objs.size a := ⟨_, Heap.get?_push_size _ rfl, rfl, rfl⟩
  have ll : kvs.length = ns.length := by have := congrArg List.length hk; rw [List.length_map, List.length_map] at this; exact this
  refine Calls.spliced_nil ?_
  generalize s1.heap.push { cls := .type "dict_values", data := .fields #[.ref a] } = hv at Iv hov hvw ⊢
  refine call_sum_walkAnyS (wpAny_pyIter_values (s := { s1 with heap := hv }) (knd := mixKind X.prog X.w) hvw ⟨o', es, hov, hx⟩ ?_)
  have fresh : H1 hv.objs.size = none := Iv.hok.fresh (Nat.le_refl _)
  have na : hv.objs.size ≠ a := fun y => by rw [y, ha] at fresh; cases fresh
  have W := walks_vals (P := X.prog) (w := X.w) (A := X.A.in1) (knd := mixKind X.prog X.w) (I1.ok.hd hc) hv.objs.size a na vs ep
  refine ⟨hv.objs.size, [hv.objs.size, a], [hv.objs.size], fun x y => x = y, vs.length, _, _, fun i => ns.getD i 0, rfl, W, ⟨⟨_, Heap.get?_push_size _ rfl, rfl, rfl⟩, o', es, Heap.get?_push_of_some _ hov, hx⟩, fun b hb => ?_, fun i v ⟨k, hv⟩ => vals_at rel hk hv, fun s' t' mv => ?_⟩
  · have l1 : a < hv.objs.size := Heap.lt_size hov
    simp only [List.mem_cons, List.not_mem_nil, or_false] at hb
    show b < (hv.push _).objs.size
    rw [size_push']
    rcases hb with rfl | rfl
    · exact Nat.lt_succ_self _
    · exact Nat.lt_succ_of_lt l1
  · obtain ⟨h', g', d', tk', os'⟩ := s'
    obtain ⟨m1, m2, m3, m4, m5⟩ := mv
    cases m2
    cases m3
    cases m4
    refine ⟨.int ns.sum, H1, Iv.kept (t' := tk') fun b o e => m1 b o ?_ (Heap.get?_push_of_some _ e), ⟨t', ?_⟩, q⟩
    · have := Heap.lt_size e
      intro z
      have z := List.mem_singleton.mp z
      rw [z] at this
      exact Nat.lt_irrefl _ this
    · rw [← rel.length, ll, preSum_getD ns ns.length (Nat.le_refl _), List.take_length]
end
end L2
local macro_rules | `(tactic| walk_at "rd") => `(tactic| try simp only [L2.tAsg, L2.tOp, L2.tUn, L2.gName, L2.tVar, L2.tC, L2.rI, L2.rI0, L2.rU, L2.rEq, L2.rNe, L2.scal, L2.tTest, L2.tIfS, L2.tRet, L2.tRetN, L2.tNext, L2.tDrop, L2.tCB, L2.tCons, L2.tNil, L2.tCall, L2.tAndV, L2.tOrV, L2.tNotV, L2.tAnd, L2.tOr, L2.tNot, L2.tB, L2.tIf, L2.tChain, L2.tTup, L2.tLst, L2.tBM, L2.tBM0, L2.tComp_eq, L2.tCallX, L2.tCallN, L2.tDGet, L2.tDGet1, L2.tDGet2, L2.sDPut, L2.tDIn, L2.tDNotIn, L2.tDSd, L2.tDNewK, L2.tTru, L2.tFld_eq, L2.sFld_eq, L2.tMethX_eq, L2.tMakeX, L2.tXmk, L2.tXmk1, L2.tRaise, L2.tTry, L2.tTryAs, L2.hkOf, L2.iList, L2.iTup, L2.iEnum, L2.iRng1, L2.iRng2, L2.iRng3, L2.iEnum1, L2.iRev, L2.tSl, L2.tPart, L2.tNoPart, L2.gTup, L2.gCons, L2.gNil, L2.spInt1, L2.spInt2, L2.spWhole,
  List.getElem?_cons_zero, List.getElem?_cons_succ, List.set_cons_zero, List.set_cons_succ, List.cons_append, List.nil_append, List.append_nil, Option.some.injEq, L2.V.int.injEq, L2.V.bl.injEq, L2.V.ref.injEq, L2.V.str.injEq, List.cons.injEq, exists_eq_left', exists_eq_left, exists_eq_right, exists_and_left, exists_and_right, and_true, true_and, and_self, exists_const, exists_eq, exists_eq', and_assoc, decide_eq_true_eq, Bool.not_eq_true', Bool.not_true, Bool.not_false, Bool.false_eq_true, Bool.true_eq_false, if_true, if_false, decide_eq_false_iff_not, ite_not, ↓reduceIte, Int.reduceLT, Int.reduceLE, Int.reducePow, Int.reduceMul, Int.reduceAdd, Int.reduceSub, Int.reduceNeg, Int.reduceToNat, Int.reduceEq, Int.reduceNe, L2.CPow, L2.cmulL_lit, L2.line_lit, L2.line_lt, List.length_cons, List.length_nil, Nat.reduceAdd, Nat.zero_add, L2.cdivL_lit, Int.natAbs_natCast, Int.natAbs_neg, Nat.reducePow, Nat.reduceLT, Nat.reduceLeDiff, Int.natAbs, L2.tPar, ne_eq, not_false_eq_true, not_true_eq_false])
local macro_rules | `(tactic| walk_at "rds") => `(tactic| try simp only [L2.tSeq, L2.tAsg, L2.tOp, L2.tUn, L2.gName, L2.tVar, L2.tC, L2.rI, L2.rI0, L2.rU, L2.rEq, L2.rNe, L2.scal, L2.tTest, L2.tIfS, L2.tRet, L2.tRetN, L2.tNext, L2.tDrop, L2.tCB, L2.tCons, L2.tNil, L2.tCall, L2.tAndV, L2.tOrV, L2.tNotV, L2.tAnd, L2.tOr, L2.tNot, L2.tB, L2.tIf, L2.tChain, L2.tTup, L2.tLst, L2.tBM, L2.tBM0, L2.tComp_eq, L2.tCallX, L2.tCallN, L2.tDGet, L2.tDGet1, L2.tDGet2, L2.sDPut, L2.tDIn, L2.tDNotIn, L2.tDSd, L2.tDNewK, L2.tTru, L2.tFld_eq, L2.sFld_eq, L2.tMethX_eq, L2.tMakeX, L2.tXmk, L2.tXmk1, L2.tRaise, L2.tTry, L2.tTryAs, L2.hkOf, L2.iList, L2.iTup, L2.iEnum, L2.iRng1, L2.iRng2, L2.iRng3, L2.iEnum1, L2.iRev, L2.tSl, L2.tPart, L2.tNoPart, L2.gTup, L2.gCons, L2.gNil, L2.spInt1, L2.spInt2, L2.spWhole,
  List.getElem?_cons_zero, List.getElem?_cons_succ, List.set_cons_zero, List.set_cons_succ, List.cons_append, List.nil_append, List.append_nil, Option.some.injEq, L2.V.int.injEq, L2.V.bl.injEq, L2.V.ref.injEq, L2.V.str.injEq, List.cons.injEq, exists_eq_left', exists_eq_left, exists_eq_right, exists_and_left, exists_and_right, and_true, true_and, and_self, exists_const, exists_eq, exists_eq', and_assoc, decide_eq_true_eq, Bool.not_eq_true', Bool.not_true, Bool.not_false, Bool.false_eq_true, Bool.true_eq_false, if_true, if_false, decide_eq_false_iff_not, ite_not, ↓reduceIte, Int.reduceLT, Int.reduceLE, Int.reducePow, Int.reduceMul, Int.reduceAdd, Int.reduceSub, Int.reduceNeg, Int.reduceToNat, Int.reduceEq, Int.reduceNe, L2.CPow, L2.cmulL_lit, L2.line_lit, L2.line_lt, List.length_cons, List.length_nil, Nat.reduceAdd, Nat.zero_add, L2.cdivL_lit, Int.natAbs_natCast, Int.natAbs_neg, Nat.reducePow, Nat.reduceLT, Nat.reduceLeDiff, Int.natAbs, L2.tPar, ne_eq, not_false_eq_true, not_true_eq_false])
namespace K51
open PySem L2 PyProof.Rows
def top (i : Nat) : Stmt := PySem.Challenge.pw_sharewheel_k51_children.main.body.getD i (.Pass ⟨0, 0, 0, 0⟩)
abbrev s_divisor : Stmt := top 8
abbrev s_ratio : Stmt := top 9
abbrev s_under : Stmt := top 10
abbrev s_greater : Stmt := top 11
abbrev s_check_share : Stmt := top 14
abbrev s__law_cell_at : Stmt := top 21
abbrev s__law_mixed : Stmt := top 22
abbrev s__law_name : Stmt := top 23
abbrev s__law_share : Stmt := top 24
abbrev s__law_shared : Stmt := top 25
abbrev s__law_put : Stmt := top 26
abbrev s__law_reshare : Stmt := top 27
abbrev s__law_take : Stmt := top 28
abbrev s__law_due : Stmt := top 29
abbrev s__law_deed : Stmt := top 30
abbrev s__law_strange : Stmt := top 31
abbrev s__law_child : Stmt := top 32
abbrev s__law_told : Stmt := top 33
abbrev s__law_most : Stmt := top 34
abbrev s__law_chooser : Stmt := top 35
abbrev s_law : Stmt := top 36
theorem sc_divisor : FnScope ["one", "other", "great", "small", "rest"] ["one", "other"] (defScope s_divisor) := ⟨rfl, rfl, rfl, by decide +kernel, rfl, by decide +kernel, by decide +kernel⟩
theorem sc_ratio : FnScope ["top", "bottom", "common"] ["top", "bottom"] (defScope s_ratio) := ⟨rfl, rfl, rfl, by decide +kernel, rfl, by decide +kernel, by decide +kernel⟩
theorem sc_check_share : FnScope ["share"] ["share"] (defScope s_check_share) := ⟨rfl, rfl, rfl, by decide +kernel, rfl, by decide +kernel, by decide +kernel⟩
theorem sc__law_cell_at : FnScope ["_law_script", "_law_k"] ["_law_script", "_law_k"] (defScope s__law_cell_at) := ⟨rfl, rfl, rfl, by decide +kernel, rfl, by decide +kernel, by decide +kernel⟩
theorem sc__law_mixed : FnScope ["_law_cell", "_law_k", "_law_number"] ["_law_cell", "_law_k"] (defScope s__law_mixed) := ⟨rfl, rfl, rfl, by decide +kernel, rfl, by decide +kernel, by decide +kernel⟩
theorem sc__law_name : FnScope ["_law_cell", "_law_k", "_law_word", "_law_at", "_law_place"] ["_law_cell", "_law_k"] (defScope s__law_name) := ⟨rfl, rfl, rfl, by decide +kernel, rfl, by decide +kernel, by decide +kernel⟩
theorem sc__law_share : FnScope ["_law_cell", "_law_way"] ["_law_cell"] (defScope s__law_share) := ⟨rfl, rfl, rfl, by decide +kernel, rfl, by decide +kernel, by decide +kernel⟩
theorem sc__law_shared : FnScope ["_law_one", "_law_other"] ["_law_one", "_law_other"] (defScope s__law_shared) := ⟨rfl, rfl, rfl, by decide +kernel, rfl, by decide +kernel, by decide +kernel⟩
theorem sc__law_put : FnScope ["_law_one", "_law_name_here", "_law_share_here", "_law_word", "e"] ["_law_one", "_law_name_here", "_law_share_here"] (defScope s__law_put) := ⟨rfl, rfl, rfl, by decide +kernel, rfl, by decide +kernel, by decide +kernel⟩
theorem sc__law_reshare : FnScope ["_law_one", "_law_name_here", "_law_share_here", "_law_word", "e"] ["_law_one", "_law_name_here", "_law_share_here"] (defScope s__law_reshare) := ⟨rfl, rfl, rfl, by decide +kernel, rfl, by decide +kernel, by decide +kernel⟩
theorem sc__law_take : FnScope ["_law_one", "_law_name_here", "_law_word"] ["_law_one", "_law_name_here"] (defScope s__law_take) := ⟨rfl, rfl, rfl, by decide +kernel, rfl, by decide +kernel, by decide +kernel⟩
theorem sc__law_due : FnScope ["_law_known", "_law_way", "_law_name_here", "_law_share_here"] ["_law_known", "_law_way", "_law_name_here", "_law_share_here"] (defScope s__law_due) := ⟨rfl, rfl, rfl, by decide +kernel, rfl, by decide +kernel, by decide +kernel⟩
theorem sc__law_deed : FnScope ["_law_one", "_law_known", "_law_way", "_law_name_here", "_law_share_here", "_law_due_here"] ["_law_one", "_law_known", "_law_way", "_law_name_here", "_law_share_here"] (defScope s__law_deed) := ⟨rfl, rfl, rfl, by decide +kernel, rfl, by decide +kernel, by decide +kernel⟩
theorem sc__law_strange : FnScope ["_law_one", "_law_name_here", "_law_word"] ["_law_one", "_law_name_here"] (defScope s__law_strange) := ⟨rfl, rfl, rfl, by decide +kernel, rfl, by decide +kernel, by decide +kernel⟩
theorem sc__law_child : FnScope ["_law_one", "_law_known", "_law_name_here", "_law_share_here", "_law_part", "_law_number"] ["_law_one", "_law_known", "_law_name_here"] (defScope s__law_child) := ⟨rfl, rfl, rfl, by decide +kernel, rfl, by decide +kernel, by decide +kernel⟩
theorem sc__law_told : FnScope ["_law_one", "_law_known", "_law_pool", "_law_found"] ["_law_one", "_law_known", "_law_pool"] (defScope s__law_told) := ⟨rfl, rfl, rfl, by decide +kernel, rfl, by decide +kernel, by decide +kernel⟩
theorem sc__law_most : FnScope ["_law_cell"] ["_law_cell"] (defScope s__law_most) := ⟨rfl, rfl, rfl, by decide +kernel, rfl, by decide +kernel, by decide +kernel⟩
theorem sc__law_chooser : FnScope ["_law_cell", "_law_most_here"] ["_law_cell", "_law_most_here"] (defScope s__law_chooser) := ⟨rfl, rfl, rfl, by decide +kernel, rfl, by decide +kernel, by decide +kernel⟩
theorem sc_law : FnScope ["_law_script", "_law_first", "_law_pool", "_law_one", "_law_beside", "_law_known", "_law_cell", "_law_name_here"] ["_law_script"] (defScope s_law) := ⟨rfl, rfl, rfl, by decide +kernel, rfl, by decide +kernel, by decide +kernel⟩
abbrev s_Members_init : Stmt := inClass (top 15) 0
theorem sc_Members_init : FnScope ["self"] ["self"] (defScope s_Members_init) := ⟨rfl, rfl, rfl, by decide +kernel, rfl, by decide +kernel, by decide +kernel⟩
abbrev s_Members_check_name : Stmt := inClass (top 15) 1
theorem sc_Members_check_name : FnScope ["self", "name"] ["self", "name"] (defScope s_Members_check_name) := ⟨rfl, rfl, rfl, by decide +kernel, rfl, by decide +kernel, by decide +kernel⟩
abbrev s_Members_put : Stmt := inClass (top 15) 2
theorem sc_Members_put : FnScope ["self", "name", "share"] ["self", "name", "share"] (defScope s_Members_put) := ⟨rfl, rfl, rfl, by decide +kernel, rfl, by decide +kernel, by decide +kernel⟩
abbrev s_Members_take : Stmt := inClass (top 15) 3
theorem sc_Members_take : FnScope ["self", "name"] ["self", "name"] (defScope s_Members_take) := ⟨rfl, rfl, rfl, by decide +kernel, rfl, by decide +kernel, by decide +kernel⟩
abbrev s_Members_reshare : Stmt := inClass (top 15) 4
theorem sc_Members_reshare : FnScope ["self", "name", "share"] ["self", "name", "share"] (defScope s_Members_reshare) := ⟨rfl, rfl, rfl, by decide +kernel, rfl, by decide +kernel, by decide +kernel⟩
abbrev s_Members_names : Stmt := inClass (top 15) 5
theorem sc_Members_names : FnScope ["self"] ["self"] (defScope s_Members_names) := ⟨rfl, rfl, rfl, by decide +kernel, rfl, by decide +kernel, by decide +kernel⟩
abbrev s_Members_share_of : Stmt := inClass (top 15) 6
theorem sc_Members_share_of : FnScope ["self", "name"] ["self", "name"] (defScope s_Members_share_of) := ⟨rfl, rfl, rfl, by decide +kernel, rfl, by decide +kernel, by decide +kernel⟩
abbrev s_Members_all_shares : Stmt := inClass (top 15) 7
theorem sc_Members_all_shares : FnScope ["self"] ["self"] (defScope s_Members_all_shares) := ⟨rfl, rfl, rfl, by decide +kernel, rfl, by decide +kernel, by decide +kernel⟩
abbrev s_Members_part : Stmt := inClass (top 15) 8
theorem sc_Members_part : FnScope ["self", "name"] ["self", "name"] (defScope s_Members_part) := ⟨rfl, rfl, rfl, by decide +kernel, rfl, by decide +kernel, by decide +kernel⟩
abbrev s_Starts_init : Stmt := inClass (top 18) 0
theorem sc_Starts_init : FnScope ["self", "most"] ["self", "most"] (defScope s_Starts_init) := ⟨rfl, rfl, rfl, by decide +kernel, rfl, by decide +kernel, by decide +kernel⟩
abbrev s_Starts_enter : Stmt := inClass (top 18) 1
theorem sc_Starts_enter : FnScope ["self", "name"] ["self", "name"] (defScope s_Starts_enter) := ⟨rfl, rfl, rfl, by decide +kernel, rfl, by decide +kernel, by decide +kernel⟩
abbrev s_Starts_leave : Stmt := inClass (top 18) 2
theorem sc_Starts_leave : FnScope ["self", "name"] ["self", "name"] (defScope s_Starts_leave) := ⟨rfl, rfl, rfl, by decide +kernel, rfl, by decide +kernel, by decide +kernel⟩
abbrev s_Starts_fit_in : Stmt := inClass (top 18) 3
theorem sc_Starts_fit_in : FnScope ["self", "name"] ["self", "name"] (defScope s_Starts_fit_in) := ⟨rfl, rfl, rfl, by decide +kernel, rfl, by decide +kernel, by decide +kernel⟩
abbrev s_Starts_stands : Stmt := inClass (top 18) 7
abbrev s_Starts_up_Chooser : Stmt := inClass (top 17) 0
theorem sc_Starts_up_Chooser : FnScope ["self", "most"] ["self", "most"] (defScope s_Starts_up_Chooser) := ⟨rfl, rfl, rfl, by decide +kernel, rfl, by decide +kernel, by decide +kernel⟩
abbrev s_Starts_put : Stmt := inClass (top 17) 1
theorem sc_Starts_put : FnScope ["self", "name", "share"] ["self", "name", "share"] (defScope s_Starts_put) := ⟨rfl, rfl, rfl, by decide +kernel, rfl, by decide +kernel, by decide +kernel⟩
abbrev s_Starts_take : Stmt := inClass (top 17) 2
theorem sc_Starts_take : FnScope ["self", "name"] ["self", "name"] (defScope s_Starts_take) := ⟨rfl, rfl, rfl, by decide +kernel, rfl, by decide +kernel, by decide +kernel⟩
abbrev s_Starts_reshare : Stmt := inClass (top 17) 3
theorem sc_Starts_reshare : FnScope ["self", "name", "share"] ["self", "name", "share"] (defScope s_Starts_reshare) := ⟨rfl, rfl, rfl, by decide +kernel, rfl, by decide +kernel, by decide +kernel⟩
abbrev s_Starts_names : Stmt := inClass (top 17) 4
theorem sc_Starts_names : FnScope ["self"] ["self"] (defScope s_Starts_names) := ⟨rfl, rfl, rfl, by decide +kernel, rfl, by decide +kernel, by decide +kernel⟩
abbrev s_Starts_share_of : Stmt := inClass (top 17) 5
theorem sc_Starts_share_of : FnScope ["self", "name"] ["self", "name"] (defScope s_Starts_share_of) := ⟨rfl, rfl, rfl, by decide +kernel, rfl, by decide +kernel, by decide +kernel⟩
abbrev s_Starts_part : Stmt := inClass (top 17) 6
theorem sc_Starts_part : FnScope ["self", "name"] ["self", "name"] (defScope s_Starts_part) := ⟨rfl, rfl, rfl, by decide +kernel, rfl, by decide +kernel, by decide +kernel⟩
abbrev s_Rounds_init : Stmt := inClass (top 19) 0
theorem sc_Rounds_init : FnScope ["self", "most"] ["self", "most"] (defScope s_Rounds_init) := ⟨rfl, rfl, rfl, by decide +kernel, rfl, by decide +kernel, by decide +kernel⟩
abbrev s_Rounds_enter : Stmt := inClass (top 19) 1
theorem sc_Rounds_enter : FnScope ["self", "name"] ["self", "name"] (defScope s_Rounds_enter) := ⟨rfl, rfl, rfl, by decide +kernel, rfl, by decide +kernel, by decide +kernel⟩
abbrev s_Rounds_leave : Stmt := inClass (top 19) 2
theorem sc_Rounds_leave : FnScope ["self", "name"] ["self", "name"] (defScope s_Rounds_leave) := ⟨rfl, rfl, rfl, by decide +kernel, rfl, by decide +kernel, by decide +kernel⟩
abbrev s_Rounds_full_rest : Stmt := inClass (top 19) 3
theorem sc_Rounds_full_rest : FnScope ["self", "name"] ["self", "name"] (defScope s_Rounds_full_rest) := ⟨rfl, rfl, rfl, by decide +kernel, rfl, by decide +kernel, by decide +kernel⟩
abbrev s_Rounds_fit_in : Stmt := inClass (top 19) 4
theorem sc_Rounds_fit_in : FnScope ["self", "name"] ["self", "name"] (defScope s_Rounds_fit_in) := ⟨rfl, rfl, rfl, by decide +kernel, rfl, by decide +kernel, by decide +kernel⟩
abbrev s_Rounds_rest : Stmt := inClass (top 19) 9
abbrev s_Rounds_up_Chooser : Stmt := inClass (top 17) 0
theorem sc_Rounds_up_Chooser : FnScope ["self", "most"] ["self", "most"] (defScope s_Rounds_up_Chooser) := ⟨rfl, rfl, rfl, by decide +kernel, rfl, by decide +kernel, by decide +kernel⟩
abbrev s_Rounds_put : Stmt := inClass (top 17) 1
theorem sc_Rounds_put : FnScope ["self", "name", "share"] ["self", "name", "share"] (defScope s_Rounds_put) := ⟨rfl, rfl, rfl, by decide +kernel, rfl, by decide +kernel, by decide +kernel⟩
abbrev s_Rounds_take : Stmt := inClass (top 17) 2
theorem sc_Rounds_take : FnScope ["self", "name"] ["self", "name"] (defScope s_Rounds_take) := ⟨rfl, rfl, rfl, by decide +kernel, rfl, by decide +kernel, by decide +kernel⟩
abbrev s_Rounds_reshare : Stmt := inClass (top 17) 3
theorem sc_Rounds_reshare : FnScope ["self", "name", "share"] ["self", "name", "share"] (defScope s_Rounds_reshare) := ⟨rfl, rfl, rfl, by decide +kernel, rfl, by decide +kernel, by decide +kernel⟩
abbrev s_Rounds_names : Stmt := inClass (top 17) 4
theorem sc_Rounds_names : FnScope ["self"] ["self"] (defScope s_Rounds_names) := ⟨rfl, rfl, rfl, by decide +kernel, rfl, by decide +kernel, by decide +kernel⟩
abbrev s_Rounds_share_of : Stmt := inClass (top 17) 5
theorem sc_Rounds_share_of : FnScope ["self", "name"] ["self", "name"] (defScope s_Rounds_share_of) := ⟨rfl, rfl, rfl, by decide +kernel, rfl, by decide +kernel, by decide +kernel⟩
abbrev s_Rounds_part : Stmt := inClass (top 17) 6
theorem sc_Rounds_part : FnScope ["self", "name"] ["self", "name"] (defScope s_Rounds_part) := ⟨rfl, rfl, rfl, by decide +kernel, rfl, by decide +kernel, by decide +kernel⟩
structure Txt (K : PySem.W.Frag) (mg : Str → Option Value) (c_WheelError : Addr) (c_Taken : Addr) (c_NoClass : Addr) (c_NoShare : Addr) (c_Members : Addr) (c_Chooser : Addr) (c_Starts : Addr) (c_Rounds : Addr) : Prop where
  mg_WheelError : mg "WheelError" = some (.ref c_WheelError)
  xc_WheelError : XC K c_WheelError
  kp_WheelError : PySem.W.keepIn K (.ref c_WheelError) = true
  ex_WheelError : PySem.W.excIn K c_WheelError bmV "ValueError.__new__" = true
  mg_Taken : mg "Taken" = some (.ref c_Taken)
  xc_Taken : XC K c_Taken
  kp_Taken : PySem.W.keepIn K (.ref c_Taken) = true
  ex_Taken : PySem.W.excIn K c_Taken bmV "ValueError.__new__" = true
  mg_NoClass : mg "NoClass" = some (.ref c_NoClass)
  xc_NoClass : XC K c_NoClass
  kp_NoClass : PySem.W.keepIn K (.ref c_NoClass) = true
  ex_NoClass : PySem.W.excIn K c_NoClass bmV "ValueError.__new__" = true
  mg_NoShare : mg "NoShare" = some (.ref c_NoShare)
  xc_NoShare : XC K c_NoShare
  kp_NoShare : PySem.W.keepIn K (.ref c_NoShare) = true
  ex_NoShare : PySem.W.excIn K c_NoShare bmV "ValueError.__new__" = true
  sub_Taken_WheelError : PySem.W.subIn K (.ref c_Taken) (.ref c_WheelError) = some true
  kit_Taken_WheelError : PySem.W.kitOne K (.ref c_Taken) (.ref c_WheelError) = some true
  sub_Taken_Taken : PySem.W.subIn K (.ref c_Taken) (.ref c_Taken) = some true
  kit_Taken_Taken : PySem.W.kitOne K (.ref c_Taken) (.ref c_Taken) = some true
  sub_Taken_NoClass : PySem.W.subIn K (.ref c_Taken) (.ref c_NoClass) = some false
  kit_Taken_NoClass : PySem.W.kitOne K (.ref c_Taken) (.ref c_NoClass) = some false
  sub_Taken_NoShare : PySem.W.subIn K (.ref c_Taken) (.ref c_NoShare) = some false
  kit_Taken_NoShare : PySem.W.kitOne K (.ref c_Taken) (.ref c_NoShare) = some false
  kit_Taken_ValueError : PySem.W.kitOne K (.ref c_Taken) (.type "ValueError") = some true
  sub_NoClass_WheelError : PySem.W.subIn K (.ref c_NoClass) (.ref c_WheelError) = some true
  kit_NoClass_WheelError : PySem.W.kitOne K (.ref c_NoClass) (.ref c_WheelError) = some true
  sub_NoClass_Taken : PySem.W.subIn K (.ref c_NoClass) (.ref c_Taken) = some false
  kit_NoClass_Taken : PySem.W.kitOne K (.ref c_NoClass) (.ref c_Taken) = some false
  sub_NoClass_NoClass : PySem.W.subIn K (.ref c_NoClass) (.ref c_NoClass) = some true
  kit_NoClass_NoClass : PySem.W.kitOne K (.ref c_NoClass) (.ref c_NoClass) = some true
  sub_NoClass_NoShare : PySem.W.subIn K (.ref c_NoClass) (.ref c_NoShare) = some false
  kit_NoClass_NoShare : PySem.W.kitOne K (.ref c_NoClass) (.ref c_NoShare) = some false
  kit_NoClass_ValueError : PySem.W.kitOne K (.ref c_NoClass) (.type "ValueError") = some true
  sub_NoShare_WheelError : PySem.W.subIn K (.ref c_NoShare) (.ref c_WheelError) = some true
  kit_NoShare_WheelError : PySem.W.kitOne K (.ref c_NoShare) (.ref c_WheelError) = some true
  sub_NoShare_Taken : PySem.W.subIn K (.ref c_NoShare) (.ref c_Taken) = some false
  kit_NoShare_Taken : PySem.W.kitOne K (.ref c_NoShare) (.ref c_Taken) = some false
  sub_NoShare_NoClass : PySem.W.subIn K (.ref c_NoShare) (.ref c_NoClass) = some false
  kit_NoShare_NoClass : PySem.W.kitOne K (.ref c_NoShare) (.ref c_NoClass) = some false
  sub_NoShare_NoShare : PySem.W.subIn K (.ref c_NoShare) (.ref c_NoShare) = some true
  kit_NoShare_NoShare : PySem.W.kitOne K (.ref c_NoShare) (.ref c_NoShare) = some true
  kit_NoShare_ValueError : PySem.W.kitOne K (.ref c_NoShare) (.type "ValueError") = some true
  ic_Starts : PySem.W.findIn K (.ref c_Starts) "__class__" = some (some (.builtin "object.__class__"))
  io_Starts : PySem.W.mroIn K c_Starts (.type "object") = some true
  kin_Starts_Chooser : PySem.W.kitOne K (.ref c_Starts) (.ref c_Chooser) = some true
  ic_Rounds : PySem.W.findIn K (.ref c_Rounds) "__class__" = some (some (.builtin "object.__class__"))
  io_Rounds : PySem.W.mroIn K c_Rounds (.type "object") = some true
  kin_Rounds_Chooser : PySem.W.kitOne K (.ref c_Rounds) (.ref c_Chooser) = some true
  ikg : PySem.W.specialIn K (.builtin "object.__class__") "__get__" = some (some (.builtin "getset_descriptor.__get__"))
  ikt : PySem.W.takesIn K (.builtin "object.__class__") = some true
  no_abs : mg "abs" = none
  no_len : mg "len" = none
  no_range : mg "range" = none
  no_int : mg "int" = none
  no_isinstance : mg "isinstance" = none
  no_sum : mg "sum" = none
  no_bool : mg "bool" = none
  no_tuple : mg "tuple" = none
  no_all : mg "all" = none
  no_list : mg "list" = none
  no_min : mg "min" = none
  mg_GREATEST_SHARE : ∃ t, mg "GREATEST_SHARE" = some (.int 1000000 t)
  src_divisor : Src K mg "divisor" s_divisor ["one", "other"]
  src_ratio : Src K mg "ratio" s_ratio ["top", "bottom"]
  src_under : Src K mg "under" s_under ["one", "other"]
  src_greater : Src K mg "greater" s_greater ["one", "other"]
  src_check_share : Src K mg "check_share" s_check_share ["share"]
  src__law_cell_at : Src K mg "_law_cell_at" s__law_cell_at ["_law_script", "_law_k"]
  src__law_mixed : Src K mg "_law_mixed" s__law_mixed ["_law_cell", "_law_k"]
  src__law_name : Src K mg "_law_name" s__law_name ["_law_cell", "_law_k"]
  src__law_share : Src K mg "_law_share" s__law_share ["_law_cell"]
  src__law_shared : Src K mg "_law_shared" s__law_shared ["_law_one", "_law_other"]
  src__law_put : Src K mg "_law_put" s__law_put ["_law_one", "_law_name_here", "_law_share_here"]
  src__law_reshare : Src K mg "_law_reshare" s__law_reshare ["_law_one", "_law_name_here", "_law_share_here"]
  src__law_take : Src K mg "_law_take" s__law_take ["_law_one", "_law_name_here"]
  src__law_due : Src K mg "_law_due" s__law_due ["_law_known", "_law_way", "_law_name_here", "_law_share_here"]
  src__law_deed : Src K mg "_law_deed" s__law_deed ["_law_one", "_law_known", "_law_way", "_law_name_here", "_law_share_here"]
  src__law_strange : Src K mg "_law_strange" s__law_strange ["_law_one", "_law_name_here"]
  src__law_child : Src K mg "_law_child" s__law_child ["_law_one", "_law_known", "_law_name_here"]
  src__law_told : Src K mg "_law_told" s__law_told ["_law_one", "_law_known", "_law_pool"]
  src__law_most : Src K mg "_law_most" s__law_most ["_law_cell"]
  src__law_chooser : Src K mg "_law_chooser" s__law_chooser ["_law_cell", "_law_most_here"]
  mg_Members : mg "Members" = some (.ref c_Members)
  cl_Members : Cls K c_Members
  na_Members_shares : NoAttr K c_Members "shares"
  in_Members : SrcK K c_Members "Members.__init__" s_Members_init ["self"] [[]]
  me_Members_check_name : SrcM K c_Members "check_name" "Members.check_name" s_Members_check_name ["self", "name"] [[]]
  me_Members_put : SrcM K c_Members "put" "Members.put" s_Members_put ["self", "name", "share"] [[]]
  me_Members_take : SrcM K c_Members "take" "Members.take" s_Members_take ["self", "name"] [[]]
  me_Members_reshare : SrcM K c_Members "reshare" "Members.reshare" s_Members_reshare ["self", "name", "share"] [[]]
  me_Members_names : SrcM K c_Members "names" "Members.names" s_Members_names ["self"] [[]]
  me_Members_share_of : SrcM K c_Members "share_of" "Members.share_of" s_Members_share_of ["self", "name"] [[]]
  me_Members_all_shares : SrcM K c_Members "all_shares" "Members.all_shares" s_Members_all_shares ["self"] [[]]
  me_Members_part : SrcM K c_Members "part" "Members.part" s_Members_part ["self", "name"] [[]]
  mg_Chooser : mg "Chooser" = some (.ref c_Chooser)
  mg_Starts : mg "Starts" = some (.ref c_Starts)
  cl_Starts : Cls K c_Starts
  na_Starts_reached : NoAttr K c_Starts "reached"
  na_Starts_tags : NoAttr K c_Starts "tags"
  na_Starts_greatest_steps : NoAttr K c_Starts "greatest_steps"
  na_Starts_most : NoAttr K c_Starts "most"
  na_Starts_members : NoAttr K c_Starts "members"
  na_Starts_chosen : NoAttr K c_Starts "chosen"
  in_Starts : SrcK K c_Starts "Starts.__init__" s_Starts_init ["self", "most"] [[]]
  me_Starts_enter : SrcM K c_Starts "enter" "Starts.enter" s_Starts_enter ["self", "name"] [[]]
  me_Starts_leave : SrcM K c_Starts "leave" "Starts.leave" s_Starts_leave ["self", "name"] [[]]
  me_Starts_fit_in : SrcM K c_Starts "fit_in" "Starts.fit_in" s_Starts_fit_in ["self", "name"] [[]]
  me_Starts_stands : SrcM K c_Starts "stands" "Starts.stands" s_Starts_stands ["self", "name"] [[]]
  up_Starts_up_Chooser : SrcU K c_Chooser "__init__" "Chooser.__init__" s_Starts_up_Chooser ["self", "most"]
  me_Starts_put : SrcM K c_Starts "put" "Chooser.put" s_Starts_put ["self", "name", "share"] [[]]
  me_Starts_take : SrcM K c_Starts "take" "Chooser.take" s_Starts_take ["self", "name"] [[]]
  me_Starts_reshare : SrcM K c_Starts "reshare" "Chooser.reshare" s_Starts_reshare ["self", "name", "share"] [[]]
  me_Starts_names : SrcM K c_Starts "names" "Chooser.names" s_Starts_names ["self"] [[]]
  me_Starts_share_of : SrcM K c_Starts "share_of" "Chooser.share_of" s_Starts_share_of ["self", "name"] [[]]
  me_Starts_part : SrcM K c_Starts "part" "Chooser.part" s_Starts_part ["self", "name"] [[]]
  mg_Rounds : mg "Rounds" = some (.ref c_Rounds)
  cl_Rounds : Cls K c_Rounds
  na_Rounds_queue : NoAttr K c_Rounds "queue"
  na_Rounds_rests : NoAttr K c_Rounds "rests"
  na_Rounds_turn : NoAttr K c_Rounds "turn"
  na_Rounds_most : NoAttr K c_Rounds "most"
  na_Rounds_members : NoAttr K c_Rounds "members"
  na_Rounds_chosen : NoAttr K c_Rounds "chosen"
  in_Rounds : SrcK K c_Rounds "Rounds.__init__" s_Rounds_init ["self", "most"] [[]]
  me_Rounds_enter : SrcM K c_Rounds "enter" "Rounds.enter" s_Rounds_enter ["self", "name"] [[]]
  me_Rounds_leave : SrcM K c_Rounds "leave" "Rounds.leave" s_Rounds_leave ["self", "name"] [[]]
  me_Rounds_full_rest : SrcM K c_Rounds "full_rest" "Rounds.full_rest" s_Rounds_full_rest ["self", "name"] [[]]
  me_Rounds_fit_in : SrcM K c_Rounds "fit_in" "Rounds.fit_in" s_Rounds_fit_in ["self", "name"] [[]]
  me_Rounds_rest : SrcM K c_Rounds "rest" "Rounds.rest" s_Rounds_rest ["self", "name"] [[]]
  up_Rounds_up_Chooser : SrcU K c_Chooser "__init__" "Chooser.__init__" s_Rounds_up_Chooser ["self", "most"]
  me_Rounds_put : SrcM K c_Rounds "put" "Chooser.put" s_Rounds_put ["self", "name", "share"] [[]]
  me_Rounds_take : SrcM K c_Rounds "take" "Chooser.take" s_Rounds_take ["self", "name"] [[]]
  me_Rounds_reshare : SrcM K c_Rounds "reshare" "Chooser.reshare" s_Rounds_reshare ["self", "name", "share"] [[]]
  me_Rounds_names : SrcM K c_Rounds "names" "Chooser.names" s_Rounds_names ["self"] [[]]
  me_Rounds_share_of : SrcM K c_Rounds "share_of" "Chooser.share_of" s_Rounds_share_of ["self", "name"] [[]]
  me_Rounds_part : SrcM K c_Rounds "part" "Chooser.part" s_Rounds_part ["self", "name"] [[]]
section
variable {P : Program} {w : World} {K : PySem.W.Frag} {mg : Str → Option Value} {base : Heap} {c_WheelError c_Taken c_NoClass c_NoShare c_Members c_Chooser c_Starts c_Rounds : Addr}
theorem d_divisor (T : Txt K mg c_WheelError c_Taken c_NoClass c_NoShare c_Members c_Chooser c_Starts c_Rounds) : Def P w K mg base (CXX P w) 1 "divisor" ["one", "other"] (spInt2 Sw.dv) := by
  refine T.src_divisor.okN (k := 0) sc_divisor (fun vs H Q E h => ?_) (fun f cdv A outer s H vs Q E hr h => ?_)
  · obtain ⟨a, b, rfl, _⟩ := h
    rfl
  · obtain ⟨a, b, rfl, k⟩ := h
    refine ⟨_, (pss_cons (ps_set (i := 2) sc_divisor.nd rfl (by first | exact Or.inl rfl | exact Or.inr rfl) (pe_callB call_abs rfl T.no_abs boot_abs (pa_cons (pv 0) pa_nil))) (pss_cons (ps_set (i := 3) sc_divisor.nd rfl (by first | exact Or.inl rfl | exact Or.inr rfl) (pe_callB call_abs rfl T.no_abs boot_abs (pa_cons (pv 1) pa_nil))) (pss_cons (ps_while PassesOwn.never (pt_cmpR op_ne (pv 3) pe_int (nomark _)) (pss_cons (ps_set (i := 4) sc_divisor.nd rfl (by first | exact Or.inl rfl | exact Or.inr rfl) (pe_op op_mod (pv 2) (pv 3))) (pss_cons (ps_set (i := 2) sc_divisor.nd rfl (by first | exact Or.inl rfl | exact Or.inr rfl) (pv 3)) (pss_one (ps_set (i := 3) sc_divisor.nd rfl (by first | exact Or.inl rfl | exact Or.inr rfl) (pv 4)))))) (pss_one (ps_ret (pv 2)))))), ?_⟩
    refine ⟨_, rfl, a, rfl, ?_⟩
    refine ⟨_, rfl, b, rfl, ?_⟩
    refine while_det (fun σ H' => H' = H ∧ ∃ g s r, σ = [some (.int a), some (.int b), some (.int g), some (.int s), r] ∧ 0 ≤ g ∧ 0 ≤ s ∧ Sw.dv g s = Sw.dv a b)
      (fun σ _ => match σ with | [_, _, _, some (.int s), _] => s.toNat | _ => 0) ⟨rfl, _, _, none, rfl, ?_, ?_, Sw.dv_abs a b⟩ ?_
    · split <;> omega
    · split <;> omega
    · rintro σ H' ⟨rfl, g, s, r, rfl, hg, hs, e⟩
      refine ⟨!decide (V.int s = V.int 0), fun Q hQ => ⟨_, rfl, rfl, _, rfl, hQ⟩, fun hb => ?_, fun hb => ?_⟩
      · have hs0 : s ≠ 0 := by intro z; subst z; simp at hb
        have hsp : 0 < s := by omega
        refine ⟨_, rfl, _, rfl, _, _, rfl, rfl, hsp, ?_⟩
        refine ⟨_, rfl, ?_⟩
        refine ⟨_, rfl, ?_⟩
        refine ⟨⟨rfl, s, g % s, _, rfl, hs, Int.emod_nonneg g hs0, by rw [Sw.dv_step]; exact e⟩, ?_⟩
        show (g % s).toNat < s.toNat
        have := Int.emod_lt_of_pos g hsp
        have := Int.emod_nonneg g hs0
        omega
      · have hs0 : s = 0 := by
          have : V.int s = V.int 0 := by simpa using hb
          exact V.int.inj this
        subst hs0
        rw [Sw.dv_zero g hg] at e
        refine ⟨_, rfl, ?_⟩
        show Q (.int g) H'
        rw [e]; exact k
def spRat : Sp := fun vs H Q _ => ∃ t b z, vs = [.int t, .int b] ∧ z ≤ 5000 ∧ Sw.Sz z b ∧ (b ≠ 0 → ∀ p, H p = none → Q (.ref p) (upd H p (.tup (fq ((t : Rat) / (b : Rat)))))) ∧ (b = 0 → False)
theorem d_ratio (T : Txt K mg c_WheelError c_Taken c_NoClass c_NoShare c_Members c_Chooser c_Starts c_Rounds) : Def P w K mg base (CXX P w) 2 "ratio" ["top", "bottom"] spRat := by
  have D_divisor := d_divisor (P := P) (w := w) (base := base) T
  refine T.src_ratio.okN (k := 1) sc_ratio (fun vs H Q E h => ?_) (fun f cdv A outer s H vs Q E hr h => ?_)
  · obtain ⟨t, b, z, rfl, _⟩ := h
    rfl
  · obtain ⟨t, b, z, rfl, z5, sb, k, hb⟩ := h
    refine ⟨_, (pss_cons (ps_if (pt_cmpR op_eq (pv 1) pe_int (nomark _)) (pss_one ps_never) pss_nil) (pss_cons (ps_set (i := 2) sc_ratio.nd rfl (by first | exact Or.inl rfl | exact Or.inr rfl) (pe_callX D_divisor (hr.mono (by decide)) rfl passN (pa_cons (pv 0) (pa_cons (pv 1) pa_nil)))) (pss_cons (ps_if (pt_cmpR op_lt (pv 1) pe_int (nomark _)) (pss_one (ps_set (i := 2) sc_ratio.nd rfl (by first | exact Or.inl rfl | exact Or.inr rfl) (pe_un un_neg (pv 2)))) pss_nil) (pss_one (ps_ret (pe_tup (pa_cons (pe_op op_fdivS (pv 0) (pv 2)) (pa_cons (pe_op op_fdivS (pv 1) (pv 2)) pa_nil)))))))), ?_⟩
    show tSeq _ _ _ [some (.int t), some (.int b), none] H
    refine seq_step fun R hR => ?_
    walk_at "rd"
    refine iteN hb (hR _ _ ?_)
    have k := k hb
    rw [← fq_nrm hb] at k
    have hg : 0 < Sw.dv t b := Sw.dv_pos hb
    have hz : Sw.Sz 5000 (Sw.dv t b) := (sb.dvd (Sw.dv_r t b) hb).mono z5
    refine seq_step fun R hR => ?_
    walk_at "rd"
    refine hR _ _ ?_
    refine seq_step fun R hR => ?_
    have fin : ∀ c : Int, (c = Sw.dv t b ∧ ¬ b < 0) ∨ (c = -(Sw.dv t b) ∧ b < 0) → R [some (.int t), some (.int b), some (.int c)] H := fun c hc => by
      refine hR _ _ ?_
      walk_at "rd"
      have c0 : c ≠ 0 := by rcases hc with ⟨e, _⟩ | ⟨e, _⟩ <;> omega
      have cz : Sw.Sz 5000 c := by
        rcases hc with ⟨e, _⟩ | ⟨e, _⟩
        · rw [e]; exact hz
        · rw [e]; exact hz.neg
      have d1 : c ∣ t := by
        rcases hc with ⟨e, _⟩ | ⟨e, _⟩
        · rw [e]; exact Sw.dv_l t b
        · rw [e]; exact Int.neg_dvd.mpr (Sw.dv_l t b)
      have d2 : c ∣ b := by
        rcases hc with ⟨e, _⟩ | ⟨e, _⟩
        · rw [e]; exact Sw.dv_r t b
        · rw [e]; exact Int.neg_dvd.mpr (Sw.dv_r t b)
      have e1 : t.fdiv c = Sw.rN t b := by
        rw [Int.fdiv_eq_ediv_of_dvd d1]
        unfold Sw.rN
        rcases hc with ⟨e, q⟩ | ⟨e, q⟩
        · rw [if_neg q, e]
        · rw [if_pos q, e]
      have e2 : b.fdiv c = Sw.rD t b := by
        rw [Int.fdiv_eq_ediv_of_dvd d2]
        unfold Sw.rD
        rcases hc with ⟨e, q⟩ | ⟨e, q⟩
        · rw [if_neg q, e]
        · rw [if_pos q, e]
      rw [e1, e2]
      exact ⟨⟨c0, cz⟩, ⟨c0, cz⟩, k⟩
    simp only [L2.tSeq]
    walk_at "rd"
    exact ite2 (fun c => fin _ (.inr ⟨rfl, c⟩)) fun c => fin _ (.inl ⟨rfl, c⟩)
local macro_rules | `(tactic| walk_at "rdc") => `(tactic| (walk_at "rd"; (try simp only [L2.tDPop1, L2.tClsX]); walk_at "rd"))
abbrev Rs (c : Addr) (H : Hp) (E : XK) : Prop := ∀ e, H e = none → E (.ref e) none (upd H e (excO e c none false))
theorem rs_of {c : Addr} {H : Hp} {E : XK} (kx : Rs c H E) (xc : XC K c) : ∀ e, H e = none → ∃ x x1, upd H e (excO e c none true) e = some (excO e x x1 true) ∧ XC K x ∧ E (.ref e) x1 (upd (upd H e (excO e c none true)) e (excO e x x1 false)) := fun e he => ⟨c, none, upd_same, xc, by rw [upd_upd]; exact kx e he⟩
def spChk (cS : Addr) : Sp := fun vs H Q E => ∃ s, vs = [.int s] ∧ (1 ≤ s ∧ s ≤ 1000000 → Q .non H) ∧ (¬ (1 ≤ s ∧ s ≤ 1000000) → Rs cS H E)
theorem d_check_share (T : Txt K mg c_WheelError c_Taken c_NoClass c_NoShare c_Members c_Chooser c_Starts c_Rounds) : Def P w K mg base (CXX P w) 1 "check_share" ["share"] (spChk c_NoShare) := by
  refine T.src_check_share.okX (k := 0) sc_check_share (fun vs H Q E h => ?_) (fun f cdv A outer s H vs Q E hr h => ?_)
  · obtain ⟨s, rfl, _⟩ := h
    rfl
  · obtain ⟨s, rfl, k, kx⟩ := h
    refine ⟨_, (pss_one (ps_if (pt_not (pt_chain op_le op_le pe_int (pv 0) (pe_globI rfl T.mg_GREATEST_SHARE))) (pss_one (ps_raise K rfl rfl raiseF (pe_xmk T.ex_NoShare T.kp_NoShare rfl T.mg_NoShare (pa_cons pe_str pa_nil)))) pss_nil)), ?_⟩
    show tIfS _ _ _ _ [some (.int s)] H
    walk_at "rd"
    refine ite2 (fun c1 => ite2 (fun c2 => k ⟨c1, c2⟩) fun c2 => ?_) fun c1 => ?_
    · exact rs_of (kx fun z => c2 z.2) T.xc_NoShare
    · exact rs_of (kx fun z => c1 z.1) T.xc_NoShare
def spMI (C : Addr) : Sp := fun vs H Q _ => ∃ x dx, vs = [.ref x] ∧ H x = some (.ins C dx []) ∧ ∀ psh H', But x H H' → H psh = none → Mb C H' x psh [] → Q .non H'
theorem k_Members (T : Txt K mg c_WheelError c_Taken c_NoClass c_NoShare c_Members c_Chooser c_Starts c_Rounds) : MkD P w K mg base (CXX P w) 1 c_Members ["self"] [[]] (spMI c_Members) := by
  refine T.in_Members.okN (k := 0) sc_Members_init (fun vs H Q E h => ?_) (fun f cdv A outer s H vs Q E hr h => ?_)
  · obtain ⟨x, dx, rfl, _⟩ := h
    rfl
  · obtain ⟨x, dx, rfl, hx, k⟩ := h
    refine ⟨_, (pss_one (ps_fld (pv 0) pe_dnewK rfl)), ?_⟩
    show (_ : TS) _ [some (.ref x)] H
    walk_at "rd"
    intro psh hpsh
    have nx : psh ≠ x := fun z => by rw [z, hx] at hpsh; cases hpsh
    have sn := same_new (o := .dK []) hpsh
    refine set_at (sn _ _ hx) T.cl_Members T.na_Members_shares (by simp) ?_
    refine k psh _ (fun b o n e => ?_) hpsh ⟨⟨dx, putF "shares" (.ref psh) [], upd_same, ?_, fun m hm => ?_, ?_⟩, ?_⟩
    · rw [upd_ne n]; exact sn _ _ e
    · rw [lookup_putF, if_pos rfl]
    · rw [lookup_putF, if_neg hm]; rfl
    · have := putF_len' (fs := []) (f := "shares") (v := .ref psh)
      simp only [List.length_nil] at this
      omega
    · rw [upd_ne nx]; exact upd_same
def spCk (cC C : Addr) : Sp := fun vs H Q E => ∃ p psh nm x, vs = [.ref p, .str x] ∧ Mb C H p psh nm ∧ (shOf nm x ≠ none → Q .non H) ∧ (shOf nm x = none → Rs cC H E)
theorem m_Members_check_name (T : Txt K mg c_WheelError c_Taken c_NoClass c_NoShare c_Members c_Chooser c_Starts c_Rounds) : MethD P w K mg base (CXX P w) 1 c_Members "check_name" ["self", "name"] [[]] (spCk c_NoClass c_Members) := by
  refine T.me_Members_check_name.okX (k := 0) sc_Members_check_name (fun vs H Q E h => ?_) (fun f cdv A outer s H vs Q E hr h => ?_)
  · obtain ⟨p, psh, nm, x, rfl, _⟩ := h
    rfl
  · obtain ⟨p, psh, nm, x, rfl, M, k, kx⟩ := h
    refine ⟨_, (pss_one (ps_if (pt_cmp (pc_dnotin (hu_of hr) (pv 1) (pe_fld (pv 0) rfl))) (pss_one (ps_raise K rfl rfl raiseF (pe_xmk T.ex_NoClass T.kp_NoClass rfl T.mg_NoClass (pa_cons pe_str pa_nil)))) pss_nil)), ?_⟩
    show tIfS _ _ _ _ [some (.ref p), some (.str x)] H
    obtain ⟨dx, fs, hp, hf, hno, hlen⟩ := M.ex
    walk_at "rd"
    refine fldR_at hp T.cl_Members T.na_Members_shares hf ?_
    walk_at "rd"
    refine ⟨_, DGet.k (k := Sum.inr x) M.hs, ?_⟩
    rw [valV_of]
    cases e : shOf nm x with
    | none => exact rs_of (kx e) T.xc_NoClass
    | some v => exact k (by rw [e]; simp)
def spMput (cT cS C : Addr) : Sp := fun vs H Q E => ∃ p psh nm x s, vs = [.ref p, .str x, .int s] ∧ Mb C H p psh nm ∧ nm.length < 900 ∧ (shOf nm x ≠ none → Rs cT H E) ∧ (shOf nm x = none → ¬ (1 ≤ s ∧ s ≤ 1000000) → Rs cS H E) ∧ (shOf nm x = none → 1 ≤ s ∧ s ≤ 1000000 → Q .non (upd H psh (.dK (kvsOf (nm ++ [(x, s)])))))
theorem m_Members_put (T : Txt K mg c_WheelError c_Taken c_NoClass c_NoShare c_Members c_Chooser c_Starts c_Rounds) : MethD P w K mg base (CXX P w) 2 c_Members "put" ["self", "name", "share"] [[]] (spMput c_Taken c_NoShare c_Members) := by
  have D_check_share := d_check_share (P := P) (w := w) (base := base) T
  refine T.me_Members_put.okX (k := 1) sc_Members_put (fun vs H Q E h => ?_) (fun f cdv A outer s H vs Q E hr h => ?_)
  · obtain ⟨p, psh, nm, x, s, rfl, _⟩ := h
    rfl
  · obtain ⟨p, psh, nm, x, s, rfl, M, hn, kt, ks, k⟩ := h
    refine ⟨_, (pss_cons (ps_if (pt_cmp (pc_din (hu_of hr) (pv 1) (pe_fld (pv 0) rfl))) (pss_one (ps_raise K rfl rfl raiseF (pe_xmk T.ex_Taken T.kp_Taken rfl T.mg_Taken (pa_cons pe_str pa_nil)))) pss_nil) (pss_cons (ps_expr (pe_callX D_check_share (hr.mono (by decide)) rfl passF (pa_cons (pv 2) pa_nil))) (pss_one (ps_dput (hu_of hr) (pe_fld (pv 0) rfl) (pv 1) (pv 2) rfl)))), ?_⟩
    show tSeq _ _ _ [some (.ref p), some (.str x), some (.int s)] H
    obtain ⟨dx, fs, hp, hf, hno, hlen⟩ := M.ex
    refine seq_step fun R hR => ?_
    walk_at "rd"
    refine fldR_at hp T.cl_Members T.na_Members_shares hf ?_
    walk_at "rd"
    refine ⟨_, DGet.k (k := Sum.inr x) M.hs, ?_⟩
    rw [valV_of]
    cases hx : shOf nm x with
    | some v => exact rs_of (kt (by rw [hx]; simp)) T.xc_Taken
    | none =>
      refine hR _ _ ?_
      refine seq_step fun R hR => ?_
      walk_at "rd"
      refine ⟨s, rfl, fun c => hR _ _ ?_, fun c => ks hx c⟩
      walk_at "rd"
      refine fldR_at hp T.cl_Members T.na_Members_shares hf ?_
      walk_at "rd"
      refine ⟨_, DPut.k (k := Sum.inr x) M.hs (line_lt (by rw [kvsOf_len]; omega)), ?_⟩
      rw [putN_new hx]
      exact k hx c
def spMtake (cC C : Addr) : Sp := fun vs H Q E => ∃ p psh nm x, vs = [.ref p, .str x] ∧ Mb C H p psh nm ∧ (shOf nm x = none → Rs cC H E) ∧ (shOf nm x ≠ none → Q .non (upd H psh (.dK (kvsOf (dropN nm x)))))
theorem m_Members_take (T : Txt K mg c_WheelError c_Taken c_NoClass c_NoShare c_Members c_Chooser c_Starts c_Rounds) : MethD P w K mg base (CXX P w) 2 c_Members "take" ["self", "name"] [[]] (spMtake c_NoClass c_Members) := by
  have M_Members_check_name := m_Members_check_name (P := P) (w := w) (base := base) T
  refine T.me_Members_take.okX (k := 1) sc_Members_take (fun vs H Q E h => ?_) (fun f cdv A outer s H vs Q E hr h => ?_)
  · obtain ⟨p, psh, nm, x, rfl, _⟩ := h
    rfl
  · obtain ⟨p, psh, nm, x, rfl, M, kx, k⟩ := h
    refine ⟨_, (pss_cons (ps_expr (pe_methX (dvs := []) M_Members_check_name (by simp) T.cl_Members (hr.mono (by decide)) passF (pv 0) (pa_cons (pv 1) pa_nil))) (pss_one (ps_expr (pe_dpop1 (pe_fld (pv 0) rfl) (pv 1) ⟨rfl, rfl, rfl, rfl⟩)))), ?_⟩
    show tSeq _ _ _ [some (.ref p), some (.str x)] H
    obtain ⟨dx, fs, hp, hf, hno, hlen⟩ := M.ex
    refine seq_step fun R hR => ?_
    walk_at "rd"
    refine meth_at hp (hno _ (by decide +kernel)) ⟨p, psh, nm, x, rfl, M, fun hx => hR _ _ ?_, kx⟩
    walk_at "rdc"
    refine fldR_at hp T.cl_Members T.na_Members_shares hf ?_
    walk_at "rdc"
    cases e : shOf nm x with
    | none => exact absurd e hx
    | some v =>
      exact ⟨.inl ⟨_, .inl M.hs⟩, _, M.hs, Sum.inr x, rfl, ⟨.int v, by rw [valV_of, e]; rfl⟩, by rw [dropK_of]; exact k hx⟩
def spMresh (cC cS C : Addr) : Sp := fun vs H Q E => ∃ p psh nm x s, vs = [.ref p, .str x, .int s] ∧ Mb C H p psh nm ∧ nm.length < 900 ∧ (shOf nm x = none → Rs cC H E) ∧ (shOf nm x ≠ none → ¬ (1 ≤ s ∧ s ≤ 1000000) → Rs cS H E) ∧ (shOf nm x ≠ none → 1 ≤ s ∧ s ≤ 1000000 → Q .non (upd H psh (.dK (kvsOf (putN nm x s)))))
theorem m_Members_reshare (T : Txt K mg c_WheelError c_Taken c_NoClass c_NoShare c_Members c_Chooser c_Starts c_Rounds) : MethD P w K mg base (CXX P w) 2 c_Members "reshare" ["self", "name", "share"] [[]] (spMresh c_NoClass c_NoShare c_Members) := by
  have D_check_share := d_check_share (P := P) (w := w) (base := base) T
  have M_Members_check_name := m_Members_check_name (P := P) (w := w) (base := base) T
  refine T.me_Members_reshare.okX (k := 1) sc_Members_reshare (fun vs H Q E h => ?_) (fun f cdv A outer s H vs Q E hr h => ?_)
  · obtain ⟨p, psh, nm, x, s, rfl, _⟩ := h
    rfl
  · obtain ⟨p, psh, nm, x, s, rfl, M, hn, kc, ks, k⟩ := h
    refine ⟨_, (pss_cons (ps_expr (pe_methX (dvs := []) M_Members_check_name (by simp) T.cl_Members (hr.mono (by decide)) passF (pv 0) (pa_cons (pv 1) pa_nil))) (pss_cons (ps_expr (pe_callX D_check_share (hr.mono (by decide)) rfl passF (pa_cons (pv 2) pa_nil))) (pss_one (ps_dput (hu_of hr) (pe_fld (pv 0) rfl) (pv 1) (pv 2) rfl)))), ?_⟩
    show tSeq _ _ _ [some (.ref p), some (.str x), some (.int s)] H
    obtain ⟨dx, fs, hp, hf, hno, hlen⟩ := M.ex
    refine seq_step fun R hR => ?_
    walk_at "rd"
    refine meth_at hp (hno _ (by decide +kernel)) ⟨p, psh, nm, x, rfl, M, fun hx => hR _ _ ?_, kc⟩
    refine seq_step fun R hR => ?_
    walk_at "rd"
    refine ⟨s, rfl, fun c => hR _ _ ?_, fun c => ks hx c⟩
    walk_at "rd"
    refine fldR_at hp T.cl_Members T.na_Members_shares hf ?_
    walk_at "rd"
    refine ⟨_, DPut.k (k := Sum.inr x) M.hs (line_lt (by rw [kvsOf_len]; omega)), ?_⟩
    rw [putN_old hx]
    exact k hx c
def nmV (nm : Nm) : List V := nm.map fun x => .str x.1
def spMnames (C : Addr) : Sp := fun vs H Q _ => ∃ p psh nm, vs = [.ref p] ∧ Mb C H p psh nm ∧ ∀ l, H l = none → Q (.ref l) (upd H l (.lst (nmV nm)))
theorem m_Members_names (T : Txt K mg c_WheelError c_Taken c_NoClass c_NoShare c_Members c_Chooser c_Starts c_Rounds) : MethD P w K mg base (CXX P w) 1 c_Members "names" ["self"] [[]] (spMnames c_Members) := by
  refine T.me_Members_names.okN (k := 0) sc_Members_names (fun vs H Q E h => ?_) (fun f cdv A outer s H vs Q E hr h => ?_)
  · obtain ⟨p, psh, nm, rfl, _⟩ := h
    rfl
  · obtain ⟨p, psh, nm, rfl, M, k⟩ := h
    refine ⟨_, (pss_one (ps_ret (pe_callTy (call_listD rfl) rfl T.no_list boot_list (pa_cons (pe_fld (pv 0) rfl) pa_nil)))), ?_⟩
    show tRet _ _ [some (.ref p)] H
    obtain ⟨dx, fs, hp, hf, hno, hlen⟩ := M.ex
    walk_at "rd"
    refine fldR_at hp T.cl_Members T.na_Members_shares hf ?_
    refine ⟨psh, _, rfl, M.hs, fun l hl => ?_⟩
    have e : (kvsOf nm).map (fun kv => kV kv.1) = nmV nm := by unfold L2.kvsOf nmV; rw [List.map_map]; rfl
    rw [e]
    exact k l hl
def spMsh (cC C : Addr) : Sp := fun vs H Q E => ∃ p psh nm x, vs = [.ref p, .str x] ∧ Mb C H p psh nm ∧ (shOf nm x = none → Rs cC H E) ∧ ∀ s, shOf nm x = some s → Q (.int s) H
theorem m_Members_share_of (T : Txt K mg c_WheelError c_Taken c_NoClass c_NoShare c_Members c_Chooser c_Starts c_Rounds) : MethD P w K mg base (CXX P w) 2 c_Members "share_of" ["self", "name"] [[]] (spMsh c_NoClass c_Members) := by
  have M_Members_check_name := m_Members_check_name (P := P) (w := w) (base := base) T
  refine T.me_Members_share_of.okX (k := 1) sc_Members_share_of (fun vs H Q E h => ?_) (fun f cdv A outer s H vs Q E hr h => ?_)
  · obtain ⟨p, psh, nm, x, rfl, _⟩ := h
    rfl
  · obtain ⟨p, psh, nm, x, rfl, M, kx, k⟩ := h
    refine ⟨_, (pss_cons (ps_expr (pe_methX (dvs := []) M_Members_check_name (by simp) T.cl_Members (hr.mono (by decide)) passF (pv 0) (pa_cons (pv 1) pa_nil))) (pss_one (ps_ret (pe_dget (hu_of hr) (pe_fld (pv 0) rfl) (pv 1) (fun _ _ => rfl))))), ?_⟩
    show tSeq _ _ _ [some (.ref p), some (.str x)] H
    obtain ⟨dx, fs, hp, hf, hno, hlen⟩ := M.ex
    refine seq_step fun R hR => ?_
    walk_at "rd"
    refine meth_at hp (hno _ (by decide +kernel)) ⟨p, psh, nm, x, rfl, M, fun hx => hR _ _ ?_, kx⟩
    cases e : shOf nm x with
    | none => exact absurd e hx
    | some s =>
      walk_at "rd"
      refine fldR_at hp T.cl_Members T.na_Members_shares hf ?_
      walk_at "rd"
      have hg := DGet.k (k := Sum.inr x) M.hs
      rw [valV_of, e] at hg
      exact ⟨.int s, hg, k s e⟩
def allS (nm : Nm) : Int := (nm.map (·.2)).sum
def spMall (C : Addr) : Sp := fun vs H Q _ => ∃ p psh nm, vs = [.ref p] ∧ Mb C H p psh nm ∧ Q (.int (allS nm)) H
theorem m_Members_all_shares (T : Txt K mg c_WheelError c_Taken c_NoClass c_NoShare c_Members c_Chooser c_Starts c_Rounds) : MethD P w K mg base (CXX P w) 1 c_Members "all_shares" ["self"] [[]] (spMall c_Members) := by
  refine T.me_Members_all_shares.okN (k := 0) sc_Members_all_shares (fun vs H Q E h => ?_) (fun f cdv A outer s H vs Q E hr h => ?_)
  · obtain ⟨p, psh, nm, rfl, _⟩ := h
    rfl
  · obtain ⟨p, psh, nm, rfl, M, k⟩ := h
    refine ⟨_, (pss_one (ps_ret (pe_sumV rfl (pe_fld (pv 0) rfl) rfl T.no_sum))), ?_⟩
    show tRet _ _ [some (.ref p)] H
    obtain ⟨dx, fs, hp, hf, hno, hlen⟩ := M.ex
    walk_at "rd"
    unfold tSumV
    walk_at "rd"
    refine fldR_at hp T.cl_Members T.na_Members_shares hf ?_
    exact ⟨psh, rfl, kvsOf nm, M.hs, (nm.map fun y : Str × Int => y.2 : List Int), by unfold L2.kvsOf; rw [List.map_map, List.map_map]; rfl, k⟩
def spMpart (cC C : Addr) : Sp := fun vs H Q E => ∃ p psh nm x, vs = [.ref p, .str x] ∧ Mb C H p psh nm ∧ (shOf nm x = none → Rs cC H E) ∧ ∀ s, shOf nm x = some s → 0 < allS nm ∧ allS nm < 1000000000000 ∧ ∀ q, H q = none → Q (.ref q) (upd H q (.tup (fq ((s : Rat) / (allS nm : Rat)))))
theorem m_Members_part (T : Txt K mg c_WheelError c_Taken c_NoClass c_NoShare c_Members c_Chooser c_Starts c_Rounds) : MethD P w K mg base (CXX P w) 3 c_Members "part" ["self", "name"] [[]] (spMpart c_NoClass c_Members) := by
  have M_Members_share_of := m_Members_share_of (P := P) (w := w) (base := base) T
  have M_Members_all_shares := m_Members_all_shares (P := P) (w := w) (base := base) T
  have D_ratio := d_ratio (P := P) (w := w) (base := base) T
  refine T.me_Members_part.okX (k := 2) sc_Members_part (fun vs H Q E h => ?_) (fun f cdv A outer s H vs Q E hr h => ?_)
  · obtain ⟨p, psh, nm, x, rfl, _⟩ := h
    rfl
  · obtain ⟨p, psh, nm, x, rfl, M, kx, k⟩ := h
    refine ⟨_, (pss_one (ps_ret (pe_callX D_ratio (hr.mono (by decide)) rfl passF (pa_cons (pe_methX (dvs := []) M_Members_share_of (by simp) T.cl_Members (hr.mono (by decide)) passF (pv 0) (pa_cons (pv 1) pa_nil)) (pa_cons (pe_methX0 (dvs := []) M_Members_all_shares (by simp) T.cl_Members (hr.mono (by decide)) passF (pv 0)) pa_nil))))), ?_⟩
    show tRet _ _ [some (.ref p), some (.str x)] H
    obtain ⟨dx, fs, hp, hf, hno, hlen⟩ := M.ex
    walk_at "rd"
    refine meth_at hp (hno _ (by decide +kernel)) ⟨p, psh, nm, x, rfl, M, kx, fun s hs => ?_⟩
    obtain ⟨a0, a1, k⟩ := k s hs
    refine meth_at hp (hno _ (by decide +kernel)) ⟨p, psh, nm, rfl, M, ?_⟩
    exact ⟨s, allS nm, 70, rfl, by decide, Sw.Sz.r18 (by omega) (by omega), fun _ q hq => k q hq, fun z => by omega⟩
def spUp (C Cm : Addr) : Sp := fun vs H Q _ => ∃ x dx most, vs = [.ref x, .int most] ∧ H x = some (.ins C dx []) ∧ ∀ pm psh H', But x H H' → H pm = none → H psh = none → pm ≠ x → H' x = some (.ins C dx (putF "chosen" .non (putF "members" (.ref pm) (putF "most" (.int most) [])))) → Mb Cm H' pm psh [] → Q .non H'
theorem u_Starts_up_Chooser (T : Txt K mg c_WheelError c_Taken c_NoClass c_NoShare c_Members c_Chooser c_Starts c_Rounds) : UpD P w K mg base (CXX P w) 3 c_Chooser "__init__" ["self", "most"] (spUp c_Starts c_Members) := by
  have K_Members := k_Members (P := P) (w := w) (base := base) T
  refine T.up_Starts_up_Chooser.okN (k := 2) sc_Starts_up_Chooser (fun vs H Q E h => ?_) (fun f cdv A outer s H vs Q E hr h => ?_)
  · obtain ⟨x, dx, most, rfl, _⟩ := h
    rfl
  · obtain ⟨x, dx, most, rfl, hx, k⟩ := h
    refine ⟨_, (pss_cons (ps_fld (pv 0) (pv 1) rfl) (pss_cons (ps_fld (pv 0) (pe_makeX0 (dvs := []) K_Members (by simp) (hr.mono (by decide)) passN rfl T.mg_Members) rfl) (pss_one (ps_fld (pv 0) pe_non rfl)))), ?_⟩
    show tSeq _ _ _ [some (.ref x), some (.int most)] H
    have l1 := putF_len' (fs := []) (f := "most") (v := .int most)
    simp only [List.length_nil] at l1
    refine seq_step fun R hR => ?_
    walk_at "rd"
    refine set_at hx T.cl_Starts T.na_Starts_most (by simp) (hR _ _ ?_)
    refine seq_step fun R hR => ?_
    walk_at "rd"
    intro pm dm hpm hdm _
    have nx : pm ≠ x := fun z => by rw [z, upd_same] at hpm; cases hpm
    have npm : H pm = none := by rw [upd_ne nx] at hpm; exact hpm
    refine ⟨pm, dm, rfl, upd_same, fun psh H1 bt hpsh M => ⟨rfl, ?_⟩⟩
    have s1 := bt.same (same_make hpm hdm) hpm
    have hx1 := s1 _ _ upd_same
    have l2 := putF_len' (fs := putF "most" (.int most) []) (f := "members") (v := .ref pm)
    have fpsh : upd H x (.ins c_Starts dx (putF "most" (.int most) [])) psh = none := (same_make hpm hdm).free hpsh
    have npx : psh ≠ x := fun z => by rw [z, upd_same] at fpsh; cases fpsh
    have npsh : H psh = none := by rw [upd_ne npx] at fpsh; exact fpsh
    refine set_at hx1 T.cl_Starts T.na_Starts_members (by omega) (hR _ _ ?_)
    walk_at "rd"
    refine set_at upd_same T.cl_Starts T.na_Starts_chosen (by omega) ?_
    rw [upd_upd]
    refine k pm psh _ (fun b o n e => ?_) npm npsh nx upd_same ?_
    · rw [upd_ne n]
      exact s1 _ _ (by rw [upd_ne n]; exact e)
    · obtain ⟨d2, f2, g1, g2⟩ := M.ex
      exact ⟨⟨d2, f2, by rw [upd_ne nx]; exact g1, g2⟩, by rw [upd_ne npx]; exact M.hs⟩
def spSI (C Cm : Addr) : Sp := fun vs H Q _ => ∃ x dx most, vs = [.ref x, .int most] ∧ H x = some (.ins C dx []) ∧ ∀ (a : At5) H', a.p = x → But x H H' → H a.pm = none → H a.ps = none → H a.pt = none → H a.pg = none → Sx C Cm H' a most [] (fun _ => none) (fun _ => none) 0 .non 0 → Q .non H'
theorem k_Starts (T : Txt K mg c_WheelError c_Taken c_NoClass c_NoShare c_Members c_Chooser c_Starts c_Rounds) : MkD P w K mg base (CXX P w) 4 c_Starts ["self", "most"] [[]] (spSI c_Starts c_Members) := by
  have U_Starts_up_Chooser := u_Starts_up_Chooser (P := P) (w := w) (base := base) T
  have D_ratio := d_ratio (P := P) (w := w) (base := base) T
  refine T.in_Starts.okN (k := 3) sc_Starts_init (fun vs H Q E h => ?_) (fun f cdv A outer s H vs Q E hr h => ?_)
  · obtain ⟨x, dx, most, rfl, _⟩ := h
    rfl
  · obtain ⟨x, dx, most, rfl, hx, k⟩ := h
    refine ⟨_, (pss_cons (ps_expr (pe_clsX U_Starts_up_Chooser (hr.mono (by decide)) passN rfl T.mg_Chooser (pa_cons (pv 0) (pa_cons (pv 1) pa_nil)))) (pss_cons (ps_fld (pv 0) (pe_callX D_ratio (hr.mono (by decide)) rfl passN (pa_cons pe_int (pa_cons pe_int pa_nil))) rfl) (pss_cons (ps_fld (pv 0) pe_dnewK rfl) (pss_one (ps_fld (pv 0) pe_dnewK rfl))))), ?_⟩
    show tSeq _ _ _ [some (.ref x), some (.int most)] H
    refine seq_step fun R hR => ?_
    walk_at "rdc"
    refine ⟨x, dx, most, rfl, hx, fun pm psh H1 bt npm npsh nx hx1 M => hR _ _ ?_⟩
    have l1 := putF_len' (fs := []) (f := "most") (v := .int most)
    have l2 := putF_len' (fs := putF "most" (.int most) []) (f := "members") (v := .ref pm)
    have l3 := putF_len' (fs := putF "members" (.ref pm) (putF "most" (.int most) [])) (f := "chosen") (v := .non)
    simp only [List.length_nil] at l1
    refine seq_step fun R hR => ?_
    walk_at "rd"
    refine ⟨0, 1, 1, rfl, by decide, Sw.Sz.one _, fun _ pr hpr => ?_, fun z => absurd z (by decide)⟩
    have e0 : ((0 : Int) : Rat) / ((1 : Int) : Rat) = 0 := by
      have z0 : ((0 : Int) : Rat) = 0 := rfl
      rw [z0]; grind
    rw [e0]
    have s1 := same_new (o := .tup (fq 0)) hpr
    have hprt : upd H1 pr (.tup (fq 0)) pr = some (.tup (fq 0)) := upd_same
    have hx1 := s1 _ _ hx1
    have M := M.same s1
    have bt := bt.trans s1.but
    generalize upd H1 pr (.tup (fq 0)) = H2 at s1 hprt hx1 M bt ⊢
    clear s1 hpr
    walk_at "rd"
    refine set_at hx1 T.cl_Starts T.na_Starts_reached (by omega) (hR _ _ ?_)
    generalize hfs : putF "reached" (.ref pr) (putF "chosen" .non (putF "members" (.ref pm) (putF "most" (.int most) []))) = fs1
    have l4 : fs1.length ≤ 4 := by
      have := putF_len' (fs := putF "chosen" .non (putF "members" (.ref pm) (putF "most" (.int most) []))) (f := "reached") (v := .ref pr)
      rw [hfs] at this
      omega
    have hx2 : upd H2 x (.ins c_Starts dx fs1) x = some (.ins c_Starts dx fs1) := upd_same
    have bt : But x H (upd H2 x (.ins c_Starts dx fs1)) := bt.trans but_upd
    have npx : psh ≠ x := fun z => by rw [z, hx] at npsh; cases npsh
    have nrx : pr ≠ x := ne_of hprt hx1 (by intro z; cases z)
    have hprt : upd H2 x (.ins c_Starts dx fs1) pr = some (.tup (fq 0)) := by rw [upd_ne nrx]; exact hprt
    have M : Mb c_Members (upd H2 x (.ins c_Starts dx fs1)) pm psh [] := by
      obtain ⟨d2, f2, g1, g2⟩ := M.ex
      exact ⟨⟨d2, f2, by rw [upd_ne nx]; exact g1, g2⟩, by rw [upd_ne npx]; exact M.hs⟩
    generalize upd H2 x (.ins c_Starts dx fs1) = H3 at hx2 bt hprt M ⊢
    refine seq_step fun R hR => ?_
    walk_at "rd"
    intro pt hpt
    have ntx : pt ≠ x := fun z => by rw [z, hx2] at hpt; cases hpt
    have s3 := same_new (o := .dK []) hpt
    have hptd : upd H3 pt (.dK []) pt = some (.dK []) := upd_same
    have nts := ne_of_none M.hs hpt
    refine set_at (s3 _ _ hx2) T.cl_Starts T.na_Starts_tags (by omega) (hR _ _ ?_)
    have free : ∀ {H' : Hp} {b : Addr}, But x H H' → b ≠ x → H' b = none → H b = none := fun {H' b} bt n e => by
      cases q : H b with
      | none => rfl
      | some o =>
        have := bt _ _ n q
        rw [e] at this
        cases this
    have npt := free bt ntx hpt
    have l5 := putF_len' (fs := fs1) (f := "tags") (v := .ref pt)
    have keepx : ∀ {H' : Hp} {fs : List (Str × V)} {b : Addr} {o : HO}, b ≠ x → H' b = some o → upd H' x (.ins c_Starts dx fs) b = some o := fun n e => by rw [upd_ne n]; exact e
    have bt : But x H (upd (upd H3 pt (.dK [])) x (.ins c_Starts dx (putF "tags" (.ref pt) fs1))) := (bt.trans s3.but).trans but_upd
    have hprt := keepx (fs := putF "tags" (.ref pt) fs1) nrx (s3 _ _ hprt)
    have hptd := keepx (fs := putF "tags" (.ref pt) fs1) ntx hptd
    have M : Mb c_Members (upd (upd H3 pt (.dK [])) x (.ins c_Starts dx (putF "tags" (.ref pt) fs1))) pm psh [] := by
      obtain ⟨d2, f2, g1, g2⟩ := (M.same s3).ex
      exact ⟨⟨d2, f2, keepx nx g1, g2⟩, keepx npx (s3 _ _ M.hs)⟩
    have hx4 : upd (upd H3 pt (.dK [])) x (.ins c_Starts dx (putF "tags" (.ref pt) fs1)) x = some (.ins c_Starts dx (putF "tags" (.ref pt) fs1)) := upd_same
    generalize upd (upd H3 pt (.dK [])) x (.ins c_Starts dx (putF "tags" (.ref pt) fs1)) = H4 at bt hprt hptd M hx4 ⊢
    clear s3 hpt hx2
    walk_at "rd"
    intro pg hpg
    have ngx : pg ≠ x := fun z => by rw [z, hx4] at hpg; cases hpg
    have s5 := same_new (o := .dK []) hpg
    have ngt := ne_of_none hptd hpg
    have ngs := ne_of_none M.hs hpg
    refine set_at (s5 _ _ hx4) T.cl_Starts T.na_Starts_greatest_steps (by omega) ?_
    have npg := free bt ngx hpg
    refine k ⟨x, pm, psh, pt, pg⟩ _ rfl ((bt.trans s5.but).trans but_upd) npm npsh npt npg ⟨⟨dx, _, pr, upd_same, ?_, keepx nrx (s5 _ _ hprt)⟩, ?_, ⟨[], keepx ntx (s5 _ _ hptd), fun y => .inl ⟨rfl, rfl⟩, Nat.le_refl _⟩, ⟨[], keepx ngx upd_same, fun y => .inl ⟨rfl, rfl⟩, Nat.le_refl _⟩, Nat.le_refl _, ngt, nts.symm, ngs.symm, nx.symm⟩
    · rw [← hfs]
      exact FS.mk0 _ _ _ _ _ _
    · obtain ⟨d2, f2, g1, g2⟩ := (M.same s5).ex
      exact ⟨⟨d2, f2, keepx nx g1, g2⟩, keepx npx (s5 _ _ M.hs)⟩
def spNames (C Cm : Addr) : Sp := fun vs H Q _ => ∃ a most nm tg gs ck ch N, vs = [.ref a.p] ∧ Sx C Cm H a most nm tg gs ck ch N ∧ ∀ l, H l = none → Q (.ref l) (upd H l (.lst (nmV nm)))
theorem m_Starts_names (T : Txt K mg c_WheelError c_Taken c_NoClass c_NoShare c_Members c_Chooser c_Starts c_Rounds) : MethD P w K mg base (CXX P w) 2 c_Starts "names" ["self"] [[]] (spNames c_Starts c_Members) := by
  have M_Members_names := m_Members_names (P := P) (w := w) (base := base) T
  refine T.me_Starts_names.okN (k := 1) sc_Starts_names (fun vs H Q E h => ?_) (fun f cdv A outer s H vs Q E hr h => ?_)
  · obtain ⟨a, most, nm, tg, gs, ck, ch, N, rfl, _⟩ := h
    rfl
  · obtain ⟨a, most, nm, tg, gs, ck, ch, N, rfl, S, k⟩ := h
    refine ⟨_, (pss_one (ps_ret (pe_methX0 (dvs := []) M_Members_names (by simp) T.cl_Members (hr.mono (by decide)) passN (pe_fld (pv 0) rfl)))), ?_⟩
    show tRet _ _ [some (.ref a.p)] H
    obtain ⟨dx, fs, pr, hp, ft, hr'⟩ := S.ex
    obtain ⟨dm, fm, hpm, hfm, hno, hlen⟩ := S.mb.ex
    walk_at "rd"
    refine fldR_at hp T.cl_Starts T.na_Starts_members ft.me ?_
    exact meth_at hpm (hno _ (by decide +kernel)) ⟨a.pm, a.ps, nm, rfl, S.mb, k⟩
def spFit (C : Addr) : Sp := fun vs H Q _ => ∃ p x, vs = [.ref p, .str x] ∧ Q .non H
theorem m_Starts_fit_in (T : Txt K mg c_WheelError c_Taken c_NoClass c_NoShare c_Members c_Chooser c_Starts c_Rounds) : MethD P w K mg base (CXX P w) 1 c_Starts "fit_in" ["self", "name"] [[]] (spFit c_Starts) := by
  refine T.me_Starts_fit_in.okN (k := 0) sc_Starts_fit_in (fun vs H Q E h => ?_) (fun f cdv A outer s H vs Q E hr h => ?_)
  · obtain ⟨p, x, rfl, _⟩ := h
    rfl
  · obtain ⟨p, x, rfl, k⟩ := h
    refine ⟨_, (pss_one ps_pass), ?_⟩
    show (_ : TS) _ [some (.ref p), some (.str x)] H
    walk_at "rd"
    exact k
def spEnter (C Cm : Addr) : Sp := fun vs H Q _ => ∃ a most nm tg gs ck ch N x, vs = [.ref a.p, .str x] ∧ Sx C Cm H a most nm tg gs ck ch N ∧ N < 900 ∧ ∀ H', Own a H H' → Sx C Cm H' a most nm (setS tg x 0) (setS gs x 0) ck ch (N + 2) → Q .non H'
theorem m_Starts_enter (T : Txt K mg c_WheelError c_Taken c_NoClass c_NoShare c_Members c_Chooser c_Starts c_Rounds) : MethD P w K mg base (CXX P w) 3 c_Starts "enter" ["self", "name"] [[]] (spEnter c_Starts c_Members) := by
  have D_ratio := d_ratio (P := P) (w := w) (base := base) T
  refine T.me_Starts_enter.okN (k := 2) sc_Starts_enter (fun vs H Q E h => ?_) (fun f cdv A outer s H vs Q E hr h => ?_)
  · obtain ⟨a, most, nm, tg, gs, ck, ch, N, x, rfl, _⟩ := h
    rfl
  · obtain ⟨a, most, nm, tg, gs, ck, ch, N, x, rfl, S, hN, k⟩ := h
    refine ⟨_, (pss_cons (ps_dput (hu_of hr) (pe_fld (pv 0) rfl) (pv 1) (pe_callX D_ratio (hr.mono (by decide)) rfl passN (pa_cons pe_int (pa_cons pe_int pa_nil))) rfl) (pss_one (ps_dput (hu_of hr) (pe_fld (pv 0) rfl) (pv 1) (pe_callX D_ratio (hr.mono (by decide)) rfl passN (pa_cons pe_int (pa_cons pe_int pa_nil))) rfl))), ?_⟩
    show tSeq _ _ _ [some (.ref a.p), some (.str x)] H
    refine seq_step fun R hR => ?_
    walk_at "rd"
    refine ⟨0, 1, 1, rfl, by decide, Sw.Sz.one _, fun _ q hq => ?_, fun z => absurd z (by decide)⟩
    rw [rat01]
    have sn := same_new (o := .tup (fq 0)) hq
    have hqt : upd H q (.tup (fq 0)) q = some (.tup (fq 0)) := upd_same
    have S := S.same sn
    generalize upd H q (.tup (fq 0)) = H1 at sn hqt S ⊢
    obtain ⟨dx, fs, pr, hp, ft, hr'⟩ := S.ex
    obtain ⟨kvs, hpt, hv, hkl⟩ := S.dt.ex
    walk_at "rd"
    refine fldR_at hp T.cl_Starts T.na_Starts_tags ft.ta ?_
    walk_at "rd"
    refine ⟨_, DPut.k (k := Sum.inr x) hpt (line_lt (by omega)), hR _ _ ?_⟩
    have lput := length_putK kvs (Sum.inr x : Key) (.ref q)
    have S := S.set_t (Nat.le_succ N) (RatD.put (x := x) (r := 0) hpt hv (by omega) hqt)
    have ow : Own a H _ := sn.own.trans (own_t (a := a) (H := H1) (o := .dK (putK kvs (Sum.inr x) (.ref q))))
    generalize upd H1 a.pt (.dK (putK kvs (Sum.inr x) (.ref q))) = H2 at S ow ⊢
    clear sn hqt hp ft hr' hpt hv hkl lput hq
    walk_at "rd"
    refine ⟨0, 1, 1, rfl, by decide, Sw.Sz.one _, fun _ q hq => ?_, fun z => absurd z (by decide)⟩
    rw [rat01]
    have sn := same_new (o := .tup (fq 0)) hq
    have hqt : upd H2 q (.tup (fq 0)) q = some (.tup (fq 0)) := upd_same
    have S := S.same sn
    generalize upd H2 q (.tup (fq 0)) = H3 at sn hqt S ⊢
    obtain ⟨dx, fs, pr, hp, ft, hr'⟩ := S.ex
    obtain ⟨kvs, hpg, hv, hkl⟩ := S.dg.ex
    walk_at "rd"
    refine fldR_at hp T.cl_Starts T.na_Starts_greatest_steps ft.gr ?_
    walk_at "rd"
    refine ⟨_, DPut.k (k := Sum.inr x) hpg (line_lt (by omega)), ?_⟩
    have lput := length_putK kvs (Sum.inr x : Key) (.ref q)
    exact k _ ((ow.trans sn.own).trans own_g) (S.set_g (Nat.le_succ (N + 1)) (RatD.put (x := x) (r := 0) hpg hv (by omega) hqt))
def spLeave (C Cm : Addr) : Sp := fun vs H Q _ => ∃ a most nm tg gs ck ch N x t g, vs = [.ref a.p, .str x] ∧ Sx C Cm H a most nm tg gs ck ch N ∧ tg x = some t ∧ gs x = some g ∧ ∀ H', Own a H H' → Sx C Cm H' a most nm (delS tg x) (delS gs x) ck ch N → Q .non H'
theorem m_Starts_leave (T : Txt K mg c_WheelError c_Taken c_NoClass c_NoShare c_Members c_Chooser c_Starts c_Rounds) : MethD P w K mg base (CXX P w) 1 c_Starts "leave" ["self", "name"] [[]] (spLeave c_Starts c_Members) := by
  refine T.me_Starts_leave.okN (k := 0) sc_Starts_leave (fun vs H Q E h => ?_) (fun f cdv A outer s H vs Q E hr h => ?_)
  · obtain ⟨a, most, nm, tg, gs, ck, ch, N, x, t, g, rfl, _⟩ := h
    rfl
  · obtain ⟨a, most, nm, tg, gs, ck, ch, N, x, t, g, rfl, S, ht, hg, k⟩ := h
    refine ⟨_, (pss_cons (ps_expr (pe_dpop1 (pe_fld (pv 0) rfl) (pv 1) ⟨rfl, rfl, rfl, rfl⟩)) (pss_one (ps_expr (pe_dpop1 (pe_fld (pv 0) rfl) (pv 1) ⟨rfl, rfl, rfl, rfl⟩)))), ?_⟩
    show tSeq _ _ _ [some (.ref a.p), some (.str x)] H
    obtain ⟨dx, fs, pr, hp, ft, hr'⟩ := S.ex
    obtain ⟨kvs, hpt, hv, hkl⟩ := S.dt.ex
    refine seq_step fun R hR => ?_
    walk_at "rdc"
    refine fldR_at hp T.cl_Starts T.na_Starts_tags ft.ta ?_
    walk_at "rdc"
    rcases hv x with ⟨z, _⟩ | ⟨r, q, e1, e2, e3⟩
    · rw [ht] at z; cases z
    · refine ⟨.inl ⟨_, .inl hpt⟩, _, hpt, Sum.inr x, rfl, ⟨_, e2⟩, hR _ _ ?_⟩
      have S := S.set_t (Nat.le_refl N) (RatD.del (x := x) hpt hv (Nat.le_trans (dropK_le _ _) hkl))
      have ow : Own a H (upd H a.pt (.dK (dropK kvs (Sum.inr x)))) := own_t
      generalize upd H a.pt (.dK (dropK kvs (Sum.inr x))) = H1 at S ow ⊢
      obtain ⟨dx, fs, pr, hp, ft, hr'⟩ := S.ex
      obtain ⟨kvs, hpg, hv, hkl⟩ := S.dg.ex
      walk_at "rdc"
      refine fldR_at hp T.cl_Starts T.na_Starts_greatest_steps ft.gr ?_
      walk_at "rdc"
      rcases hv x with ⟨z, _⟩ | ⟨r, q, e1, e2, e3⟩
      · rw [hg] at z; cases z
      · exact ⟨.inl ⟨_, .inl hpg⟩, _, hpg, Sum.inr x, rfl, ⟨_, e2⟩, k _ (ow.trans own_g) (S.set_g (Nat.le_refl N) (RatD.del (x := x) hpg hv (Nat.le_trans (dropK_le _ _) hkl)))⟩
def spPut (cT cS C Cm : Addr) : Sp := fun vs H Q E => ∃ a most nm tg gs ck ch N x s, vs = [.ref a.p, .str x, .int s] ∧ Sx C Cm H a most nm tg gs ck ch N ∧ N < 890 ∧ (shOf nm x ≠ none → Rs cT H E) ∧ (shOf nm x = none → ¬ (1 ≤ s ∧ s ≤ 1000000) → Rs cS H E) ∧ (shOf nm x = none → 1 ≤ s ∧ s ≤ 1000000 → ∀ H', Own a H H' → Sx C Cm H' a most (nm ++ [(x, s)]) (setS tg x 0) (setS gs x 0) ck ch (N + 3) → Q .non H')
theorem m_Starts_put (T : Txt K mg c_WheelError c_Taken c_NoClass c_NoShare c_Members c_Chooser c_Starts c_Rounds) : MethD P w K mg base (CXX P w) 4 c_Starts "put" ["self", "name", "share"] [[]] (spPut c_Taken c_NoShare c_Starts c_Members) := by
  have M_Members_put := m_Members_put (P := P) (w := w) (base := base) T
  have M_Starts_enter := m_Starts_enter (P := P) (w := w) (base := base) T
  refine T.me_Starts_put.okX (k := 3) sc_Starts_put (fun vs H Q E h => ?_) (fun f cdv A outer s H vs Q E hr h => ?_)
  · obtain ⟨a, most, nm, tg, gs, ck, ch, N, x, s, rfl, _⟩ := h
    rfl
  · obtain ⟨a, most, nm, tg, gs, ck, ch, N, x, s, rfl, S, hN, kt, ks, k⟩ := h
    refine ⟨_, (pss_cons (ps_expr (pe_methX (dvs := []) M_Members_put (by simp) T.cl_Members (hr.mono (by decide)) passF (pe_fld (pv 0) rfl) (pa_cons (pv 1) (pa_cons (pv 2) pa_nil)))) (pss_one (ps_expr (pe_methX (dvs := []) M_Starts_enter (by simp) T.cl_Starts (hr.mono (by decide)) passF (pv 0) (pa_cons (pv 1) pa_nil))))), ?_⟩
    show tSeq _ _ _ [some (.ref a.p), some (.str x), some (.int s)] H
    obtain ⟨dx, fs, pr, hp, ft, hr'⟩ := S.ex
    obtain ⟨dm, fm, hpm, hfm, hno, hlen⟩ := S.mb.ex
    have nl := S.nl
    refine seq_step fun R hR => ?_
    walk_at "rd"
    refine fldR_at hp T.cl_Starts T.na_Starts_members ft.me ?_
    refine meth_at hpm (hno _ (by decide +kernel)) ⟨a.pm, a.ps, nm, x, s, rfl, S.mb, by omega, kt, ks, fun hx hs => hR _ _ ?_⟩
    have S := S.set_s (nm' := nm ++ [(x, s)]) (Nat.le_succ N) (by simp; omega)
    have ow : Own a H (upd H a.ps (.dK (kvsOf (nm ++ [(x, s)])))) := own_s
    generalize upd H a.ps (.dK (kvsOf (nm ++ [(x, s)]))) = H1 at S ow ⊢
    obtain ⟨dx, fs, pr, hp, ft, hr'⟩ := S.ex
    walk_at "rd"
    exact meth_at hp (ft.no _ (by decide +kernel) (by decide +kernel) (by decide +kernel) (by decide +kernel) (by decide +kernel) (by decide +kernel)) ⟨a, most, _, tg, gs, ck, ch, N + 1, x, rfl, S, by omega, fun H' o' S' => k hx hs H' (ow.trans o') S'⟩
def spTake (cC C Cm : Addr) : Sp := fun vs H Q E => ∃ a most nm tg gs ck ch N x, vs = [.ref a.p, .str x] ∧ Sx C Cm H a most nm tg gs ck ch N ∧ (shOf nm x = none → Rs cC H E) ∧ (shOf nm x ≠ none → ∃ t g, tg x = some t ∧ gs x = some g ∧ ∀ H', Own a H H' → Sx C Cm H' a most (dropN nm x) (delS tg x) (delS gs x) ck ch N → Q .non H')
theorem m_Starts_take (T : Txt K mg c_WheelError c_Taken c_NoClass c_NoShare c_Members c_Chooser c_Starts c_Rounds) : MethD P w K mg base (CXX P w) 3 c_Starts "take" ["self", "name"] [[]] (spTake c_NoClass c_Starts c_Members) := by
  have M_Members_take := m_Members_take (P := P) (w := w) (base := base) T
  have M_Starts_leave := m_Starts_leave (P := P) (w := w) (base := base) T
  refine T.me_Starts_take.okX (k := 2) sc_Starts_take (fun vs H Q E h => ?_) (fun f cdv A outer s H vs Q E hr h => ?_)
  · obtain ⟨a, most, nm, tg, gs, ck, ch, N, x, rfl, _⟩ := h
    rfl
  · obtain ⟨a, most, nm, tg, gs, ck, ch, N, x, rfl, S, kx, k⟩ := h
    refine ⟨_, (pss_cons (ps_expr (pe_methX (dvs := []) M_Members_take (by simp) T.cl_Members (hr.mono (by decide)) passF (pe_fld (pv 0) rfl) (pa_cons (pv 1) pa_nil))) (pss_one (ps_expr (pe_methX (dvs := []) M_Starts_leave (by simp) T.cl_Starts (hr.mono (by decide)) passF (pv 0) (pa_cons (pv 1) pa_nil))))), ?_⟩
    show tSeq _ _ _ [some (.ref a.p), some (.str x)] H
    obtain ⟨dx, fs, pr, hp, ft, hr'⟩ := S.ex
    obtain ⟨dm, fm, hpm, hfm, hno, hlen⟩ := S.mb.ex
    have nl := S.nl
    refine seq_step fun R hR => ?_
    walk_at "rd"
    refine fldR_at hp T.cl_Starts T.na_Starts_members ft.me ?_
    refine meth_at hpm (hno _ (by decide +kernel)) ⟨a.pm, a.ps, nm, x, rfl, S.mb, kx, fun hx => hR _ _ ?_⟩
    obtain ⟨t, g, ht, hg, k⟩ := k hx
    have S := S.set_s (nm' := dropN nm x) (Nat.le_refl N) (Nat.le_trans (List.length_filter_le _ _) nl)
    have ow : Own a H (upd H a.ps (.dK (kvsOf (dropN nm x)))) := own_s
    generalize upd H a.ps (.dK (kvsOf (dropN nm x))) = H1 at S ow ⊢
    obtain ⟨dx, fs, pr, hp, ft, hr'⟩ := S.ex
    walk_at "rd"
    exact meth_at hp (ft.no _ (by decide +kernel) (by decide +kernel) (by decide +kernel) (by decide +kernel) (by decide +kernel) (by decide +kernel)) ⟨a, most, _, tg, gs, ck, ch, N, x, t, g, rfl, S, ht, hg, fun H' o' S' => k H' (ow.trans o') S'⟩
def spResh (cC cS C Cm : Addr) : Sp := fun vs H Q E => ∃ a most nm tg gs ck ch N x s, vs = [.ref a.p, .str x, .int s] ∧ Sx C Cm H a most nm tg gs ck ch N ∧ N < 890 ∧ (shOf nm x = none → Rs cC H E) ∧ (shOf nm x ≠ none → ¬ (1 ≤ s ∧ s ≤ 1000000) → Rs cS H E) ∧ (shOf nm x ≠ none → 1 ≤ s ∧ s ≤ 1000000 → ∀ H', Own a H H' → Sx C Cm H' a most (putN nm x s) tg gs ck ch N → Q .non H')
theorem m_Starts_reshare (T : Txt K mg c_WheelError c_Taken c_NoClass c_NoShare c_Members c_Chooser c_Starts c_Rounds) : MethD P w K mg base (CXX P w) 3 c_Starts "reshare" ["self", "name", "share"] [[]] (spResh c_NoClass c_NoShare c_Starts c_Members) := by
  have M_Members_reshare := m_Members_reshare (P := P) (w := w) (base := base) T
  have M_Starts_fit_in := m_Starts_fit_in (P := P) (w := w) (base := base) T
  refine T.me_Starts_reshare.okX (k := 2) sc_Starts_reshare (fun vs H Q E h => ?_) (fun f cdv A outer s H vs Q E hr h => ?_)
  · obtain ⟨a, most, nm, tg, gs, ck, ch, N, x, s, rfl, _⟩ := h
    rfl
  · obtain ⟨a, most, nm, tg, gs, ck, ch, N, x, s, rfl, S, hN, kc, ks, k⟩ := h
    refine ⟨_, (pss_cons (ps_expr (pe_methX (dvs := []) M_Members_reshare (by simp) T.cl_Members (hr.mono (by decide)) passF (pe_fld (pv 0) rfl) (pa_cons (pv 1) (pa_cons (pv 2) pa_nil)))) (pss_one (ps_expr (pe_methX (dvs := []) M_Starts_fit_in (by simp) T.cl_Starts (hr.mono (by decide)) passF (pv 0) (pa_cons (pv 1) pa_nil))))), ?_⟩
    show tSeq _ _ _ [some (.ref a.p), some (.str x), some (.int s)] H
    obtain ⟨dx, fs, pr, hp, ft, hr'⟩ := S.ex
    obtain ⟨dm, fm, hpm, hfm, hno, hlen⟩ := S.mb.ex
    have nl := S.nl
    refine seq_step fun R hR => ?_
    walk_at "rd"
    refine fldR_at hp T.cl_Starts T.na_Starts_members ft.me ?_
    refine meth_at hpm (hno _ (by decide +kernel)) ⟨a.pm, a.ps, nm, x, s, rfl, S.mb, by omega, kc, ks, fun hx hs => hR _ _ ?_⟩
    have S := S.set_s (nm' := putN nm x s) (Nat.le_refl N) (by unfold putN; rw [List.length_map]; exact nl)
    have ow : Own a H (upd H a.ps (.dK (kvsOf (putN nm x s)))) := own_s
    generalize upd H a.ps (.dK (kvsOf (putN nm x s))) = H1 at S ow ⊢
    obtain ⟨dx, fs, pr, hp, ft, hr'⟩ := S.ex
    walk_at "rd"
    exact meth_at hp (ft.no _ (by decide +kernel) (by decide +kernel) (by decide +kernel) (by decide +kernel) (by decide +kernel) (by decide +kernel)) ⟨a.p, x, rfl, k hx hs _ ow S⟩
def spShare (cC C Cm : Addr) : Sp := fun vs H Q E => ∃ a most nm tg gs ck ch N x, vs = [.ref a.p, .str x] ∧ Sx C Cm H a most nm tg gs ck ch N ∧ (shOf nm x = none → Rs cC H E) ∧ ∀ s, shOf nm x = some s → Q (.int s) H
theorem m_Starts_share_of (T : Txt K mg c_WheelError c_Taken c_NoClass c_NoShare c_Members c_Chooser c_Starts c_Rounds) : MethD P w K mg base (CXX P w) 3 c_Starts "share_of" ["self", "name"] [[]] (spShare c_NoClass c_Starts c_Members) := by
  have M_Members_share_of := m_Members_share_of (P := P) (w := w) (base := base) T
  refine T.me_Starts_share_of.okX (k := 2) sc_Starts_share_of (fun vs H Q E h => ?_) (fun f cdv A outer s H vs Q E hr h => ?_)
  · obtain ⟨a, most, nm, tg, gs, ck, ch, N, x, rfl, _⟩ := h
    rfl
  · obtain ⟨a, most, nm, tg, gs, ck, ch, N, x, rfl, S, kx, k⟩ := h
    refine ⟨_, (pss_one (ps_ret (pe_methX (dvs := []) M_Members_share_of (by simp) T.cl_Members (hr.mono (by decide)) passF (pe_fld (pv 0) rfl) (pa_cons (pv 1) pa_nil)))), ?_⟩
    show tRet _ _ [some (.ref a.p), some (.str x)] H
    obtain ⟨dx, fs, pr, hp, ft, hr'⟩ := S.ex
    obtain ⟨dm, fm, hpm, hfm, hno, hlen⟩ := S.mb.ex
    walk_at "rd"
    refine fldR_at hp T.cl_Starts T.na_Starts_members ft.me ?_
    exact meth_at hpm (hno _ (by decide +kernel)) ⟨a.pm, a.ps, nm, x, rfl, S.mb, kx, k⟩
def spPart (cC C Cm : Addr) : Sp := fun vs H Q E => ∃ a most nm tg gs ck ch N x, vs = [.ref a.p, .str x] ∧ Sx C Cm H a most nm tg gs ck ch N ∧ (shOf nm x = none → Rs cC H E) ∧ ∀ s, shOf nm x = some s → 0 < allS nm ∧ allS nm < 1000000000000 ∧ ∀ q, H q = none → Q (.ref q) (upd H q (.tup (fq ((s : Rat) / (allS nm : Rat)))))
theorem m_Starts_part (T : Txt K mg c_WheelError c_Taken c_NoClass c_NoShare c_Members c_Chooser c_Starts c_Rounds) : MethD P w K mg base (CXX P w) 4 c_Starts "part" ["self", "name"] [[]] (spPart c_NoClass c_Starts c_Members) := by
  have M_Members_part := m_Members_part (P := P) (w := w) (base := base) T
  refine T.me_Starts_part.okX (k := 3) sc_Starts_part (fun vs H Q E h => ?_) (fun f cdv A outer s H vs Q E hr h => ?_)
  · obtain ⟨a, most, nm, tg, gs, ck, ch, N, x, rfl, _⟩ := h
    rfl
  · obtain ⟨a, most, nm, tg, gs, ck, ch, N, x, rfl, S, kx, k⟩ := h
    refine ⟨_, (pss_one (ps_ret (pe_methX (dvs := []) M_Members_part (by simp) T.cl_Members (hr.mono (by decide)) passF (pe_fld (pv 0) rfl) (pa_cons (pv 1) pa_nil)))), ?_⟩
    show tRet _ _ [some (.ref a.p), some (.str x)] H
    obtain ⟨dx, fs, pr, hp, ft, hr'⟩ := S.ex
    obtain ⟨dm, fm, hpm, hfm, hno, hlen⟩ := S.mb.ex
    walk_at "rd"
    refine fldR_at hp T.cl_Starts T.na_Starts_members ft.me ?_
    exact meth_at hpm (hno _ (by decide +kernel)) ⟨a.pm, a.ps, nm, x, rfl, S.mb, kx, k⟩
def spUpR (C Cm : Addr) : Sp := fun vs H Q _ => ∃ x dx most, vs = [.ref x, .int most] ∧ H x = some (.ins C dx []) ∧ ∀ pm psh H', But x H H' → H pm = none → H psh = none → pm ≠ x → H' x = some (.ins C dx (putF "chosen" .non (putF "members" (.ref pm) (putF "most" (.int most) [])))) → Mb Cm H' pm psh [] → Q .non H'
theorem u_Rounds_up_Chooser (T : Txt K mg c_WheelError c_Taken c_NoClass c_NoShare c_Members c_Chooser c_Starts c_Rounds) : UpD P w K mg base (CXX P w) 3 c_Chooser "__init__" ["self", "most"] (spUpR c_Rounds c_Members) := by
  have K_Members := k_Members (P := P) (w := w) (base := base) T
  refine T.up_Rounds_up_Chooser.okN (k := 2) sc_Rounds_up_Chooser (fun vs H Q E h => ?_) (fun f cdv A outer s H vs Q E hr h => ?_)
  · obtain ⟨x, dx, most, rfl, _⟩ := h
    rfl
  · obtain ⟨x, dx, most, rfl, hx, k⟩ := h
    refine ⟨_, (pss_cons (ps_fld (pv 0) (pv 1) rfl) (pss_cons (ps_fld (pv 0) (pe_makeX0 (dvs := []) K_Members (by simp) (hr.mono (by decide)) passN rfl T.mg_Members) rfl) (pss_one (ps_fld (pv 0) pe_non rfl)))), ?_⟩
    show tSeq _ _ _ [some (.ref x), some (.int most)] H
    have l1 := putF_len' (fs := []) (f := "most") (v := .int most)
    simp only [List.length_nil] at l1
    refine seq_step fun R hR => ?_
    walk_at "rd"
    refine set_at hx T.cl_Rounds T.na_Rounds_most (by simp) (hR _ _ ?_)
    refine seq_step fun R hR => ?_
    walk_at "rd"
    intro pm dm hpm hdm _
    have nx : pm ≠ x := fun z => by rw [z, upd_same] at hpm; cases hpm
    have npm : H pm = none := by rw [upd_ne nx] at hpm; exact hpm
    refine ⟨pm, dm, rfl, upd_same, fun psh H1 bt hpsh M => ⟨rfl, ?_⟩⟩
    have s1 := bt.same (same_make hpm hdm) hpm
    have hx1 := s1 _ _ upd_same
    have l2 := putF_len' (fs := putF "most" (.int most) []) (f := "members") (v := .ref pm)
    have fpsh : upd H x (.ins c_Rounds dx (putF "most" (.int most) [])) psh = none := (same_make hpm hdm).free hpsh
    have npx : psh ≠ x := fun z => by rw [z, upd_same] at fpsh; cases fpsh
    have npsh : H psh = none := by rw [upd_ne npx] at fpsh; exact fpsh
    refine set_at hx1 T.cl_Rounds T.na_Rounds_members (by omega) (hR _ _ ?_)
    walk_at "rd"
    refine set_at upd_same T.cl_Rounds T.na_Rounds_chosen (by omega) ?_
    rw [upd_upd]
    refine k pm psh _ (fun b o n e => ?_) npm npsh nx upd_same ?_
    · rw [upd_ne n]
      exact s1 _ _ (by rw [upd_ne n]; exact e)
    · obtain ⟨d2, f2, g1, g2⟩ := M.ex
      exact ⟨⟨d2, f2, by rw [upd_ne nx]; exact g1, g2⟩, by rw [upd_ne npx]; exact M.hs⟩
def spRInit (C Cm : Addr) : Sp := fun vs H Q _ => ∃ x dx most, vs = [.ref x, .int most] ∧ H x = some (.ins C dx []) ∧ ∀ (a : At5) H', a.p = x → But x H H' → H a.pm = none → H a.ps = none → H a.pt = none → H a.pg = none → Rx C Cm H' a most [] [] [] none .non → Q .non H'
theorem k_Rounds (T : Txt K mg c_WheelError c_Taken c_NoClass c_NoShare c_Members c_Chooser c_Starts c_Rounds) : MkD P w K mg base (CXX P w) 4 c_Rounds ["self", "most"] [[]] (spRInit c_Rounds c_Members) := by
  have U_Rounds_up_Chooser := u_Rounds_up_Chooser (P := P) (w := w) (base := base) T
  refine T.in_Rounds.okN (k := 3) sc_Rounds_init (fun vs H Q E h => ?_) (fun f cdv A outer s H vs Q E hr h => ?_)
  · obtain ⟨x, dx, most, rfl, _⟩ := h
    rfl
  · obtain ⟨x, dx, most, rfl, hx, k⟩ := h
    refine ⟨_, (pss_cons (ps_expr (pe_clsX U_Rounds_up_Chooser (hr.mono (by decide)) passN rfl T.mg_Chooser (pa_cons (pv 0) (pa_cons (pv 1) pa_nil)))) (pss_cons (ps_fld (pv 0) (pe_lst pa_nil) rfl) (pss_cons (ps_fld (pv 0) pe_dnewK rfl) (pss_one (ps_fld (pv 0) pe_non rfl))))), ?_⟩
    show tSeq _ _ _ [some (.ref x), some (.int most)] H
    refine seq_step fun R hR => ?_
    walk_at "rdc"
    refine ⟨x, dx, most, rfl, hx, fun pm psh H1 bt npm npsh nx hx1 M => hR _ _ ?_⟩
    have l1 := putF_len' (fs := []) (f := "most") (v := .int most)
    have l2 := putF_len' (fs := putF "most" (.int most) []) (f := "members") (v := .ref pm)
    have l3 := putF_len' (fs := putF "members" (.ref pm) (putF "most" (.int most) [])) (f := "chosen") (v := .non)
    simp only [List.length_nil] at l1
    have npx : psh ≠ x := fun z => by rw [z, hx] at npsh; cases npsh
    have free : ∀ {H' : Hp} {b : Addr}, But x H H' → b ≠ x → H' b = none → H b = none := fun {H' b} bt n e => by
      cases q : H b with
      | none => rfl
      | some o =>
        have := bt _ _ n q
        rw [e] at this
        cases this
    have keepx : ∀ {H' : Hp} {fs : List (Str × V)} {b : Addr} {o : HO}, b ≠ x → H' b = some o → upd H' x (.ins c_Rounds dx fs) b = some o := fun n e => by rw [upd_ne n]; exact e
    generalize hfs0 : putF "chosen" .non (putF "members" (.ref pm) (putF "most" (.int most) [])) = fs0 at hx1 l3
    refine seq_step fun R hR => ?_
    walk_at "rd"
    intro pt hpt
    have ntx : pt ≠ x := fun z => by rw [z, hx1] at hpt; cases hpt
    have s3 := same_new (o := .lst []) hpt
    have hptd : upd H1 pt (.lst []) pt = some (.lst []) := upd_same
    refine set_at (s3 _ _ hx1) T.cl_Rounds T.na_Rounds_queue (by omega) (hR _ _ ?_)
    have npt := free bt ntx hpt
    have l4 := putF_len' (fs := fs0) (f := "queue") (v := .ref pt)
    have bt : But x H (upd (upd H1 pt (.lst [])) x (.ins c_Rounds dx (putF "queue" (.ref pt) fs0))) := (bt.trans s3.but).trans but_upd
    have hptd := keepx (fs := putF "queue" (.ref pt) fs0) ntx hptd
    have M : Mb c_Members (upd (upd H1 pt (.lst [])) x (.ins c_Rounds dx (putF "queue" (.ref pt) fs0))) pm psh [] := by
      obtain ⟨d2, f2, g1, g2⟩ := (M.same s3).ex
      exact ⟨⟨d2, f2, keepx nx g1, g2⟩, keepx npx (s3 _ _ M.hs)⟩
    have hx4 : upd (upd H1 pt (.lst [])) x (.ins c_Rounds dx (putF "queue" (.ref pt) fs0)) x = some (.ins c_Rounds dx (putF "queue" (.ref pt) fs0)) := upd_same
    generalize upd (upd H1 pt (.lst [])) x (.ins c_Rounds dx (putF "queue" (.ref pt) fs0)) = H4 at bt hptd M hx4 ⊢
    clear s3 hpt hx1
    refine seq_step fun R hR => ?_
    walk_at "rd"
    intro pg hpg
    have ngx : pg ≠ x := fun z => by rw [z, hx4] at hpg; cases hpg
    have s5 := same_new (o := .dK []) hpg
    have ngs := ne_of_none M.hs hpg
    refine set_at (s5 _ _ hx4) T.cl_Rounds T.na_Rounds_rests (by omega) (hR _ _ ?_)
    have npg := free bt ngx hpg
    have l5 := putF_len' (fs := putF "queue" (.ref pt) fs0) (f := "rests") (v := .ref pg)
    walk_at "rd"
    refine set_at upd_same T.cl_Rounds T.na_Rounds_turn (by omega) ?_
    rw [upd_upd]
    refine k ⟨x, pm, psh, pt, pg⟩ _ rfl ((bt.trans s5.but).trans but_upd) npm npsh npt npg ⟨⟨dx, _, upd_same, ?_⟩, ?_, keepx ntx (s5 _ _ hptd), keepx ngx upd_same, ngs.symm, nx.symm⟩
    · rw [← hfs0]
      exact FR.mk0 _ _ _ _ _
    · obtain ⟨d2, f2, g1, g2⟩ := (M.same s5).ex
      exact ⟨⟨d2, f2, keepx nx g1, g2⟩, keepx npx (s5 _ _ M.hs)⟩
def spREnter (C Cm : Addr) : Sp := fun vs H Q _ => ∃ a most nm q rs tu ch x, vs = [.ref a.p, .str x] ∧ Rx C Cm H a most nm q rs tu ch ∧ q.length < 900 ∧ rs.length < 900 ∧ shOf rs x = none ∧ ∀ H', Own a H H' → Rx C Cm H' a most nm (q ++ [x]) (rs ++ [(x, 0)]) tu ch → Q .non H'
theorem m_Rounds_enter (T : Txt K mg c_WheelError c_Taken c_NoClass c_NoShare c_Members c_Chooser c_Starts c_Rounds) : MethD P w K mg base (CXX P w) 1 c_Rounds "enter" ["self", "name"] [[]] (spREnter c_Rounds c_Members) := by
  refine T.me_Rounds_enter.okN (k := 0) sc_Rounds_enter (fun vs H Q E h => ?_) (fun f cdv A outer s H vs Q E hr h => ?_)
  · obtain ⟨a, most, nm, q, rs, tu, ch, x, rfl, _⟩ := h
    rfl
  · obtain ⟨a, most, nm, q, rs, tu, ch, x, rfl, S, lq, lr, hx, k⟩ := h
    refine ⟨_, (pss_cons (ps_expr (pe_bm PySem.F.plainAttrs_list PySem.F.slot_list_append PySem.F.type_list_append mt_append (pe_fld (pv 0) rfl) (pa_cons (pv 1) pa_nil))) (pss_one (ps_dput (hu_of hr) (pe_fld (pv 0) rfl) (pv 1) pe_int rfl))), ?_⟩
    show tSeq _ _ _ [some (.ref a.p), some (.str x)] H
    obtain ⟨dx, fs, hp, ft⟩ := S.ex
    refine seq_step fun R hR => ?_
    walk_at "rd"
    refine fldR_at hp T.cl_Rounds T.na_Rounds_queue ft.qu ?_
    refine ⟨tyL_at S.hq, app_at S.hq (by rw [List.length_map]; omega) (hR _ _ ?_)⟩
    have e : q.map V.str ++ [V.str x] = (q ++ [x]).map V.str := by rw [List.map_append]; rfl
    rw [e]
    have S := S.set_q (q' := q ++ [x])
    have ow : Own a H (upd H a.pt (.lst ((q ++ [x]).map V.str))) := own_t
    generalize upd H a.pt (.lst ((q ++ [x]).map V.str)) = H1 at S ow ⊢
    obtain ⟨dx, fs, hp, ft⟩ := S.ex
    walk_at "rd"
    refine fldR_at hp T.cl_Rounds T.na_Rounds_rests ft.re ?_
    walk_at "rd"
    refine ⟨_, DPut.k (k := Sum.inr x) S.hr (line_lt (by rw [kvsOf_len]; omega)), ?_⟩
    rw [putN_new hx]
    exact k _ (ow.trans own_g) S.set_r
def spRLeave (C Cm : Addr) : Sp := fun vs H Q _ => ∃ a most nm q rs tu ch x, vs = [.ref a.p, .str x] ∧ Rx C Cm H a most nm q rs tu ch ∧ shOf rs x ≠ none ∧ (tu ≠ some x → x ∈ q) ∧ q.Nodup ∧ q.length ≤ 100 ∧ (∀ y ∈ q, PyData.strOk y = true) ∧ ∀ H', Own a H H' → Rx C Cm H' a most nm (if tu = some x then q else q.erase x) (dropN rs x) (if tu = some x then none else tu) ch → Q .non H'
theorem m_Rounds_leave (T : Txt K mg c_WheelError c_Taken c_NoClass c_NoShare c_Members c_Chooser c_Starts c_Rounds) : MethD P w K mg base (CXX P w) 1 c_Rounds "leave" ["self", "name"] [[]] (spRLeave c_Rounds c_Members) := by
  refine T.me_Rounds_leave.okN (k := 0) sc_Rounds_leave (fun vs H Q E h => ?_) (fun f cdv A outer s H vs Q E hr h => ?_)
  · obtain ⟨a, most, nm, q, rs, tu, ch, x, rfl, _⟩ := h
    rfl
  · obtain ⟨a, most, nm, q, rs, tu, ch, x, rfl, S, hx, hq, nd, lq, ok, k⟩ := h
    refine ⟨_, (pss_cons (ps_if (pt_cmpR op_eq (pe_fld (pv 0) rfl) (pv 1) (nomark _)) (pss_one (ps_fld (pv 0) pe_non rfl)) (pss_one (ps_expr (pe_bm PySem.F.plainAttrs_list PySem.F.slot_list_remove PySem.F.type_list_remove (mt_remove K rfl hr.units66) (pe_fld (pv 0) rfl) (pa_cons (pv 1) pa_nil))))) (pss_one (ps_expr (pe_dpop1 (pe_fld (pv 0) rfl) (pv 1) ⟨rfl, rfl, rfl, rfl⟩)))), ?_⟩
    show tSeq _ _ _ [some (.ref a.p), some (.str x)] H
    obtain ⟨dx, fs, hp, ft⟩ := S.ex
    refine seq_step fun R hR => ?_
    have post : ∀ H1, Own a H H1 → Rx c_Rounds c_Members H1 a most nm (if tu = some x then q else q.erase x) rs (if tu = some x then none else tu) ch → R [some (.ref a.p), some (.str x)] H1 := by
      intro H1 ow S
      refine hR _ _ ?_
      obtain ⟨dx, fs, hp, ft⟩ := S.ex
      walk_at "rdc"
      refine fldR_at hp T.cl_Rounds T.na_Rounds_rests ft.re ?_
      walk_at "rdc"
      cases e : shOf rs x with
      | none => exact absurd e hx
      | some v =>
        refine ⟨.inl ⟨_, .inl S.hr⟩, _, S.hr, Sum.inr x, rfl, ⟨.int v, by rw [valV_of, e]; rfl⟩, ?_⟩
        rw [dropK_of]
        exact k _ (ow.trans own_g) S.set_r
    clear k hR
    walk_at "rd"
    refine fldR_at hp T.cl_Rounds T.na_Rounds_turn ft.tu ?_
    have gone : tu = some x → R [some (.ref a.p), some (.str x)] (upd H a.p (.ins c_Rounds dx (putF "turn" .non fs))) := fun e => by
      have S4 := S.set_p hp (ft.put_tu none)
      refine post _ own_p ?_
      rw [if_pos e, if_pos e]
      exact S4
    have stay : ¬ tu = some x → R [some (.ref a.p), some (.str x)] (upd H a.pt (.lst ((q.erase x).map V.str))) := fun e => by
      refine post _ own_t ?_
      rw [if_neg e, if_neg e]
      exact S.set_q
    cases tu with
    | none =>
      unfold optS
      walk_at "rd"
      rw [if_neg (by intro z; cases z)]
      refine fldR_at hp T.cl_Rounds T.na_Rounds_queue ft.qu ?_
      exact ⟨tyL_at S.hq, str_rm nd (hq (by simp)) lq ok S.hq (stay (by simp))⟩
    | some t =>
      unfold optS
      walk_at "rd"
      refine ite2 (fun e => ?_) fun e => ?_
      · subst e
        refine set_at hp T.cl_Rounds T.na_Rounds_turn (by have := ft.len; omega) ?_
        exact gone rfl
      · refine fldR_at hp T.cl_Rounds T.na_Rounds_queue ft.qu ?_
        have ne : ¬ (some t : Option Str) = some x := fun z => e (Option.some.inj z)
        exact ⟨tyL_at S.hq, str_rm nd (hq ne) lq ok S.hq (stay ne)⟩
def spRShare (cC C Cm : Addr) : Sp := fun vs H Q E => ∃ a most nm q rs tu ch x, vs = [.ref a.p, .str x] ∧ Rx C Cm H a most nm q rs tu ch ∧ (shOf nm x = none → Rs cC H E) ∧ ∀ s, shOf nm x = some s → Q (.int s) H
theorem m_Rounds_share_of (T : Txt K mg c_WheelError c_Taken c_NoClass c_NoShare c_Members c_Chooser c_Starts c_Rounds) : MethD P w K mg base (CXX P w) 3 c_Rounds "share_of" ["self", "name"] [[]] (spRShare c_NoClass c_Rounds c_Members) := by
  have M_Members_share_of := m_Members_share_of (P := P) (w := w) (base := base) T
  refine T.me_Rounds_share_of.okX (k := 2) sc_Rounds_share_of (fun vs H Q E h => ?_) (fun f cdv A outer s H vs Q E hr h => ?_)
  · obtain ⟨a, most, nm, q, rs, tu, ch, x, rfl, _⟩ := h
    rfl
  · obtain ⟨a, most, nm, q, rs, tu, ch, x, rfl, S, kx, k⟩ := h
    refine ⟨_, (pss_one (ps_ret (pe_methX (dvs := []) M_Members_share_of (by simp) T.cl_Members (hr.mono (by decide)) passF (pe_fld (pv 0) rfl) (pa_cons (pv 1) pa_nil)))), ?_⟩
    show tRet _ _ [some (.ref a.p), some (.str x)] H
    obtain ⟨dx, fs, hp, ft⟩ := S.ex
    obtain ⟨dm, fm, hpm, hfm, hno, hlen⟩ := S.mb.ex
    walk_at "rd"
    refine fldR_at hp T.cl_Rounds T.na_Rounds_members ft.me ?_
    exact meth_at hpm (hno _ (by decide +kernel)) ⟨a.pm, a.ps, nm, x, rfl, S.mb, kx, k⟩
def spRPart (cC C Cm : Addr) : Sp := fun vs H Q E => ∃ a most nm q rs tu ch x, vs = [.ref a.p, .str x] ∧ Rx C Cm H a most nm q rs tu ch ∧ (shOf nm x = none → Rs cC H E) ∧ ∀ s, shOf nm x = some s → 0 < allS nm ∧ allS nm < 1000000000000 ∧ ∀ q, H q = none → Q (.ref q) (upd H q (.tup (fq ((s : Rat) / (allS nm : Rat)))))
theorem m_Rounds_part (T : Txt K mg c_WheelError c_Taken c_NoClass c_NoShare c_Members c_Chooser c_Starts c_Rounds) : MethD P w K mg base (CXX P w) 4 c_Rounds "part" ["self", "name"] [[]] (spRPart c_NoClass c_Rounds c_Members) := by
  have M_Members_part := m_Members_part (P := P) (w := w) (base := base) T
  refine T.me_Rounds_part.okX (k := 3) sc_Rounds_part (fun vs H Q E h => ?_) (fun f cdv A outer s H vs Q E hr h => ?_)
  · obtain ⟨a, most, nm, q, rs, tu, ch, x, rfl, _⟩ := h
    rfl
  · obtain ⟨a, most, nm, q, rs, tu, ch, x, rfl, S, kx, k⟩ := h
    refine ⟨_, (pss_one (ps_ret (pe_methX (dvs := []) M_Members_part (by simp) T.cl_Members (hr.mono (by decide)) passF (pe_fld (pv 0) rfl) (pa_cons (pv 1) pa_nil)))), ?_⟩
    show tRet _ _ [some (.ref a.p), some (.str x)] H
    obtain ⟨dx, fs, hp, ft⟩ := S.ex
    obtain ⟨dm, fm, hpm, hfm, hno, hlen⟩ := S.mb.ex
    walk_at "rd"
    refine fldR_at hp T.cl_Rounds T.na_Rounds_members ft.me ?_
    exact meth_at hpm (hno _ (by decide +kernel)) ⟨a.pm, a.ps, nm, x, rfl, S.mb, kx, k⟩
def spRFull (C Cm : Addr) : Sp := fun vs H Q _ => ∃ a most nm q rs tu ch x s, vs = [.ref a.p, .str x] ∧ Rx C Cm H a most nm q rs tu ch ∧ shOf nm x = some s ∧ 1 ≤ s ∧ s ≤ 1000000 ∧ 1 ≤ most ∧ most ≤ 1000000 ∧ Q (.int (s * most)) H
theorem m_Rounds_full_rest (T : Txt K mg c_WheelError c_Taken c_NoClass c_NoShare c_Members c_Chooser c_Starts c_Rounds) : MethD P w K mg base (CXX P w) 4 c_Rounds "full_rest" ["self", "name"] [[]] (spRFull c_Rounds c_Members) := by
  have M_Rounds_share_of := m_Rounds_share_of (P := P) (w := w) (base := base) T
  refine T.me_Rounds_full_rest.okN (k := 3) sc_Rounds_full_rest (fun vs H Q E h => ?_) (fun f cdv A outer s H vs Q E hr h => ?_)
  · obtain ⟨a, most, nm, q, rs, tu, ch, x, s, rfl, _⟩ := h
    rfl
  · obtain ⟨a, most, nm, q, rs, tu, ch, x, s, rfl, S, hx, s0, s1, m0, m1, k⟩ := h
    refine ⟨_, (pss_one (ps_ret (pe_op op_mulL (pe_methX (dvs := []) M_Rounds_share_of (by simp) T.cl_Rounds (hr.mono (by decide)) passN (pv 0) (pa_cons (pv 1) pa_nil)) (pe_fld (pv 0) rfl)))), ?_⟩
    show tRet _ _ [some (.ref a.p), some (.str x)] H
    obtain ⟨dx, fs, hp, ft⟩ := S.ex
    walk_at "rd"
    refine S.meth (by decide +kernel) ⟨a, most, nm, q, rs, tu, ch, x, rfl, S, fun z => (by rw [hx] at z; cases z), fun s' hs' => ?_⟩
    rw [hx] at hs'
    cases hs'
    refine fldR_at hp T.cl_Rounds T.na_Rounds_most ft.mo ?_
    have zs : Sw.Sz 70 s := Sw.Sz.r18 (by omega) (by omega)
    have zm : Sw.Sz 70 most := Sw.Sz.r18 (by omega) (by omega)
    exact ⟨_, rfl, _, rfl, ⟨zs.mono (by decide), zm.mono (by decide)⟩, k⟩
def spRFit (C Cm : Addr) : Sp := fun vs H Q _ => ∃ a most nm q rs tu ch x s r, vs = [.ref a.p, .str x] ∧ Rx C Cm H a most nm q rs tu ch ∧ rs.length < 900 ∧ shOf nm x = some s ∧ shOf rs x = some r ∧ 1 ≤ s ∧ s ≤ 1000000 ∧ 1 ≤ most ∧ most ≤ 1000000 ∧ ∀ H', Own a H H' → Rx C Cm H' a most nm q (putN rs x (if s * most < r then s * most else r)) tu ch → Q .non H'
theorem m_Rounds_fit_in (T : Txt K mg c_WheelError c_Taken c_NoClass c_NoShare c_Members c_Chooser c_Starts c_Rounds) : MethD P w K mg base (CXX P w) 5 c_Rounds "fit_in" ["self", "name"] [[]] (spRFit c_Rounds c_Members) := by
  have M_Rounds_full_rest := m_Rounds_full_rest (P := P) (w := w) (base := base) T
  refine T.me_Rounds_fit_in.okN (k := 4) sc_Rounds_fit_in (fun vs H Q E h => ?_) (fun f cdv A outer s H vs Q E hr h => ?_)
  · obtain ⟨a, most, nm, q, rs, tu, ch, x, s, r, rfl, _⟩ := h
    rfl
  · obtain ⟨a, most, nm, q, rs, tu, ch, x, s, r, rfl, S, lr, hx, hr', s0, s1, m0, m1, k⟩ := h
    refine ⟨_, (pss_one (ps_dput (hu_of hr) (pe_fld (pv 0) rfl) (pv 1) (pe_callB (call_min2 rfl) rfl T.no_min boot_min (pa_cons (pe_dget (hu_of hr) (pe_fld (pv 0) rfl) (pv 1) (fun _ _ => rfl)) (pa_cons (pe_methX (dvs := []) M_Rounds_full_rest (by simp) T.cl_Rounds (hr.mono (by decide)) passN (pv 0) (pa_cons (pv 1) pa_nil)) pa_nil))) rfl)), ?_⟩
    show (_ : TS) _ [some (.ref a.p), some (.str x)] H
    obtain ⟨dx, fs, hp, ft⟩ := S.ex
    walk_at "rd"
    refine fldR_at hp T.cl_Rounds T.na_Rounds_rests ft.re ?_
    walk_at "rd"
    have hg := DGet.k (k := Sum.inr x) S.hr
    rw [valV_of, hr'] at hg
    refine ⟨.int r, hg, ?_⟩
    refine S.meth (by decide +kernel) ⟨a, most, nm, q, rs, tu, ch, x, s, rfl, S, hx, s0, s1, m0, m1, ?_⟩
    refine ⟨_, rfl, _, rfl, ?_⟩
    refine fldR_at hp T.cl_Rounds T.na_Rounds_rests ft.re ?_
    walk_at "rd"
    refine ⟨_, DPut.k (k := Sum.inr x) S.hr (line_lt (by rw [kvsOf_len]; omega)), ?_⟩
    rw [putN_old (by rw [hr']; simp)]
    exact k _ own_g S.set_r
section
variable {most : Int} {nm : Nm} {q : List Str} {rs : Nm} {tu : Option Str}
theorem ri_rs (h : Sw.RI most nm q rs tu) {x : Str} : shOf rs x ≠ none ↔ shOf nm x ≠ none := by rw [Sw.sh_mem, Sw.sh_mem, h.ks]
theorem ri_len (h : Sw.RI most nm q rs tu) : rs.length = nm.length ∧ q.length ≤ nm.length := by
  have e1 := congrArg List.length h.ks
  have e2 := h.pm.length_eq
  rw [List.length_map, List.length_map] at e1
  rw [List.length_append, List.length_map] at e2
  exact ⟨e1, by omega⟩
theorem ri_nd (h : Sw.RI most nm q rs tu) : q.Nodup := (List.nodup_append.mp (h.pm.nodup_iff.mpr h.nd)).1
theorem ri_q (h : Sw.RI most nm q rs tu) {y : Str} (hy : y ∈ q) : y ∈ nm.map (·.1) := h.pm.mem_iff.mp (List.mem_append.mpr (.inl hy))
end
def spRPut (cT cS C Cm : Addr) : Sp := fun vs H Q E => ∃ a most nm q rs tu ch x s, vs = [.ref a.p, .str x, .int s] ∧ Rx C Cm H a most nm q rs tu ch ∧ Sw.RI most nm q rs tu ∧ nm.length < 90 ∧ (shOf nm x ≠ none → Rs cT H E) ∧ (shOf nm x = none → ¬ (1 ≤ s ∧ s ≤ 1000000) → Rs cS H E) ∧ (shOf nm x = none → 1 ≤ s ∧ s ≤ 1000000 → ∀ H', Own a H H' → Rx C Cm H' a most (nm ++ [(x, s)]) (q ++ [x]) (rs ++ [(x, 0)]) tu ch → Q .non H')
theorem m_Rounds_put (T : Txt K mg c_WheelError c_Taken c_NoClass c_NoShare c_Members c_Chooser c_Starts c_Rounds) : MethD P w K mg base (CXX P w) 3 c_Rounds "put" ["self", "name", "share"] [[]] (spRPut c_Taken c_NoShare c_Rounds c_Members) := by
  have M_Members_put := m_Members_put (P := P) (w := w) (base := base) T
  have M_Rounds_enter := m_Rounds_enter (P := P) (w := w) (base := base) T
  refine T.me_Rounds_put.okX (k := 2) sc_Rounds_put (fun vs H Q E h => ?_) (fun f cdv A outer s H vs Q E hr h => ?_)
  · obtain ⟨a, most, nm, q, rs, tu, ch, x, s, rfl, _⟩ := h
    rfl
  · obtain ⟨a, most, nm, q, rs, tu, ch, x, s, rfl, S, h, nl, kt, ks, k⟩ := h
    refine ⟨_, (pss_cons (ps_expr (pe_methX (dvs := []) M_Members_put (by simp) T.cl_Members (hr.mono (by decide)) passF (pe_fld (pv 0) rfl) (pa_cons (pv 1) (pa_cons (pv 2) pa_nil)))) (pss_one (ps_expr (pe_methX (dvs := []) M_Rounds_enter (by simp) T.cl_Rounds (hr.mono (by decide)) passF (pv 0) (pa_cons (pv 1) pa_nil))))), ?_⟩
    show tSeq _ _ _ [some (.ref a.p), some (.str x), some (.int s)] H
    obtain ⟨dx, fs, hp, ft⟩ := S.ex
    obtain ⟨dm, fm, hpm, hfm, hno, hlen⟩ := S.mb.ex
    obtain ⟨l1, l2⟩ := ri_len h
    refine seq_step fun R hR => ?_
    walk_at "rd"
    refine fldR_at hp T.cl_Rounds T.na_Rounds_members ft.me ?_
    refine meth_at hpm (hno _ (by decide +kernel)) ⟨a.pm, a.ps, nm, x, s, rfl, S.mb, by omega, kt, ks, fun hx hs => hR _ _ ?_⟩
    have S := S.set_s (nm' := nm ++ [(x, s)])
    have ow : Own a H (upd H a.ps (.dK (kvsOf (nm ++ [(x, s)])))) := own_s
    generalize upd H a.ps (.dK (kvsOf (nm ++ [(x, s)]))) = H1 at S ow ⊢
    walk_at "rd"
    exact S.meth (by decide +kernel) ⟨a, most, _, q, rs, tu, ch, x, rfl, S, by omega, by omega, (by rw [Sw.sh_none, h.ks, ← Sw.sh_none]; exact hx), fun H' o' S' => k hx hs H' (ow.trans o') S'⟩
def spRTake (cC C Cm : Addr) : Sp := fun vs H Q E => ∃ a most nm q rs tu ch x, vs = [.ref a.p, .str x] ∧ Rx C Cm H a most nm q rs tu ch ∧ Sw.RI most nm q rs tu ∧ nm.length ≤ 90 ∧ (∀ y ∈ nm.map (·.1), PyData.strOk y = true) ∧ (shOf nm x = none → Rs cC H E) ∧ (shOf nm x ≠ none → ∀ H', Own a H H' → Rx C Cm H' a most (dropN nm x) (if tu = some x then q else q.erase x) (dropN rs x) (if tu = some x then none else tu) ch → Q .non H')
theorem m_Rounds_take (T : Txt K mg c_WheelError c_Taken c_NoClass c_NoShare c_Members c_Chooser c_Starts c_Rounds) : MethD P w K mg base (CXX P w) 3 c_Rounds "take" ["self", "name"] [[]] (spRTake c_NoClass c_Rounds c_Members) := by
  have M_Members_take := m_Members_take (P := P) (w := w) (base := base) T
  have M_Rounds_leave := m_Rounds_leave (P := P) (w := w) (base := base) T
  refine T.me_Rounds_take.okX (k := 2) sc_Rounds_take (fun vs H Q E h => ?_) (fun f cdv A outer s H vs Q E hr h => ?_)
  · obtain ⟨a, most, nm, q, rs, tu, ch, x, rfl, _⟩ := h
    rfl
  · obtain ⟨a, most, nm, q, rs, tu, ch, x, rfl, S, h, nl, ok, kx, k⟩ := h
    refine ⟨_, (pss_cons (ps_expr (pe_methX (dvs := []) M_Members_take (by simp) T.cl_Members (hr.mono (by decide)) passF (pe_fld (pv 0) rfl) (pa_cons (pv 1) pa_nil))) (pss_one (ps_expr (pe_methX (dvs := []) M_Rounds_leave (by simp) T.cl_Rounds (hr.mono (by decide)) passF (pv 0) (pa_cons (pv 1) pa_nil))))), ?_⟩
    show tSeq _ _ _ [some (.ref a.p), some (.str x)] H
    obtain ⟨dx, fs, hp, ft⟩ := S.ex
    obtain ⟨dm, fm, hpm, hfm, hno, hlen⟩ := S.mb.ex
    obtain ⟨l1, l2⟩ := ri_len h
    refine seq_step fun R hR => ?_
    walk_at "rd"
    refine fldR_at hp T.cl_Rounds T.na_Rounds_members ft.me ?_
    refine meth_at hpm (hno _ (by decide +kernel)) ⟨a.pm, a.ps, nm, x, rfl, S.mb, kx, fun hx => hR _ _ ?_⟩
    have S := S.set_s (nm' := dropN nm x)
    have ow : Own a H (upd H a.ps (.dK (kvsOf (dropN nm x)))) := own_s
    generalize upd H a.ps (.dK (kvsOf (dropN nm x))) = H1 at S ow ⊢
    walk_at "rd"
    refine S.meth (by decide +kernel) ⟨a, most, _, q, rs, tu, ch, x, rfl, S, (ri_rs h).mpr hx, fun ne => ?_, ri_nd h, by omega, fun y hy => ok y (ri_q h hy), fun H' o' S' => k hx H' (ow.trans o') S'⟩
    have := h.pm.mem_iff.mpr (Sw.sh_mem.mp hx)
    rcases List.mem_append.mp this with z | z
    · exact z
    · cases tu with
      | none => cases z
      | some y =>
        have : x = y := by simpa using z
        exact absurd (by rw [this]) ne
def spRResh (cC cS C Cm : Addr) : Sp := fun vs H Q E => ∃ a most nm q rs tu ch x s, vs = [.ref a.p, .str x, .int s] ∧ Rx C Cm H a most nm q rs tu ch ∧ nm.length ≤ 90 ∧ rs.length ≤ 90 ∧ 1 ≤ most ∧ most ≤ 1000000 ∧ (shOf nm x = none → Rs cC H E) ∧ (shOf nm x ≠ none → ¬ (1 ≤ s ∧ s ≤ 1000000) → Rs cS H E) ∧ (shOf nm x ≠ none → 1 ≤ s ∧ s ≤ 1000000 → ∃ r, shOf rs x = some r ∧ ∀ H', Own a H H' → Rx C Cm H' a most (putN nm x s) q (putN rs x (if s * most < r then s * most else r)) tu ch → Q .non H')
theorem m_Rounds_reshare (T : Txt K mg c_WheelError c_Taken c_NoClass c_NoShare c_Members c_Chooser c_Starts c_Rounds) : MethD P w K mg base (CXX P w) 6 c_Rounds "reshare" ["self", "name", "share"] [[]] (spRResh c_NoClass c_NoShare c_Rounds c_Members) := by
  have M_Members_reshare := m_Members_reshare (P := P) (w := w) (base := base) T
  have M_Rounds_fit_in := m_Rounds_fit_in (P := P) (w := w) (base := base) T
  refine T.me_Rounds_reshare.okX (k := 5) sc_Rounds_reshare (fun vs H Q E h => ?_) (fun f cdv A outer s H vs Q E hr h => ?_)
  · obtain ⟨a, most, nm, q, rs, tu, ch, x, s, rfl, _⟩ := h
    rfl
  · obtain ⟨a, most, nm, q, rs, tu, ch, x, s, rfl, S, nl, rl, m0, m1, kc, ks, k⟩ := h
    refine ⟨_, (pss_cons (ps_expr (pe_methX (dvs := []) M_Members_reshare (by simp) T.cl_Members (hr.mono (by decide)) passF (pe_fld (pv 0) rfl) (pa_cons (pv 1) (pa_cons (pv 2) pa_nil)))) (pss_one (ps_expr (pe_methX (dvs := []) M_Rounds_fit_in (by simp) T.cl_Rounds (hr.mono (by decide)) passF (pv 0) (pa_cons (pv 1) pa_nil))))), ?_⟩
    show tSeq _ _ _ [some (.ref a.p), some (.str x), some (.int s)] H
    obtain ⟨dx, fs, hp, ft⟩ := S.ex
    obtain ⟨dm, fm, hpm, hfm, hno, hlen⟩ := S.mb.ex
    refine seq_step fun R hR => ?_
    walk_at "rd"
    refine fldR_at hp T.cl_Rounds T.na_Rounds_members ft.me ?_
    refine meth_at hpm (hno _ (by decide +kernel)) ⟨a.pm, a.ps, nm, x, s, rfl, S.mb, by omega, kc, ks, fun hx hs => hR _ _ ?_⟩
    obtain ⟨r, hr', k⟩ := k hx hs
    obtain ⟨s0, s1⟩ := hs
    have S := S.set_s (nm' := putN nm x s)
    have ow : Own a H (upd H a.ps (.dK (kvsOf (putN nm x s)))) := own_s
    generalize upd H a.ps (.dK (kvsOf (putN nm x s))) = H1 at S ow ⊢
    walk_at "rd"
    refine S.meth (by decide +kernel) ⟨a, most, _, q, rs, tu, ch, x, s, r, rfl, S, by omega, ?_, hr', s0, s1, m0, m1, fun H' o' S' => k H' (ow.trans o') S'⟩
    rw [shOf_put, if_pos rfl]
    cases e : shOf nm x with
    | none => exact absurd e hx
    | some v => rfl
def spRNames (C Cm : Addr) : Sp := fun vs H Q _ => ∃ a most nm q rs tu ch, vs = [.ref a.p] ∧ Rx C Cm H a most nm q rs tu ch ∧ ∀ l, H l = none → Q (.ref l) (upd H l (.lst (nmV nm)))
theorem m_Rounds_names (T : Txt K mg c_WheelError c_Taken c_NoClass c_NoShare c_Members c_Chooser c_Starts c_Rounds) : MethD P w K mg base (CXX P w) 2 c_Rounds "names" ["self"] [[]] (spRNames c_Rounds c_Members) := by
  have M_Members_names := m_Members_names (P := P) (w := w) (base := base) T
  refine T.me_Rounds_names.okN (k := 1) sc_Rounds_names (fun vs H Q E h => ?_) (fun f cdv A outer s H vs Q E hr h => ?_)
  · obtain ⟨a, most, nm, q, rs, tu, ch, rfl, _⟩ := h
    rfl
  · obtain ⟨a, most, nm, q, rs, tu, ch, rfl, S, k⟩ := h
    refine ⟨_, (pss_one (ps_ret (pe_methX0 (dvs := []) M_Members_names (by simp) T.cl_Members (hr.mono (by decide)) passN (pe_fld (pv 0) rfl)))), ?_⟩
    show tRet _ _ [some (.ref a.p)] H
    obtain ⟨dx, fs, hp, ft⟩ := S.ex
    obtain ⟨dm, fm, hpm, hfm, hno, hlen⟩ := S.mb.ex
    walk_at "rd"
    refine fldR_at hp T.cl_Rounds T.na_Rounds_members ft.me ?_
    exact meth_at hpm (hno _ (by decide +kernel)) ⟨a.pm, a.ps, nm, rfl, S.mb, k⟩
theorem d__law_cell_at (T : Txt K mg c_WheelError c_Taken c_NoClass c_NoShare c_Members c_Chooser c_Starts c_Rounds) : Def P w K mg base (CXX P w) 1 "_law_cell_at" ["_law_script", "_law_k"] (spCell K) := by
  refine T.src__law_cell_at.okN (k := 0) sc__law_cell_at (fun vs H Q E h => ?_) (fun f cdv A outer s H vs Q E hr h => ?_)
  · obtain ⟨a, ns, i, rfl, _⟩ := h
    rfl
  · obtain ⟨a, ns, i, rfl, hS, hi, k⟩ := h
    refine ⟨_, (pss_cons (ps_if (pt_cmpR op_lt (pv 1) (pe_callB (call_lenK K rfl) rfl T.no_len boot_len (pa_cons (pv 0) pa_nil)) (nomark _)) (pss_one (ps_ret (pe_ix (ix_listK K rfl) (pv 0) (pv 1) (fun _ _ => rfl)))) pss_nil) (pss_one (ps_ret pe_int))), ?_⟩
    refine ⟨_, rfl, _, rfl, a, _, rfl, .inl hS, _, _, rfl, rfl, _, rfl, ?_⟩
    refine ite2 (fun h => ?_) (fun h => ?_)
    · have h' : i < (ns.map V.int).length := of_decide_eq_true h
      exact ⟨_, rfl, _, rfl, a, _, _, _, rfl, rfl, hS, cellAt_get hi (by simpa using h'), k⟩
    · have h' : ¬ i < (ns.map V.int).length := fun z => h (decide_eq_true z)
      show Q (.int 0) H
      rw [cellAt_none hi (by simpa using h')] at k
      exact k
def mixF (c k : Int) : Int := ((((c % 2147483629 + 40 + k) * (c % 2147483629 + 40 + k) + 69621 * (c % 2147483629 + 40 + k) + 7 * k) % 2147483629) * (((c % 2147483629 + 40 + k) * (c % 2147483629 + 40 + k) + 69621 * (c % 2147483629 + 40 + k) + 7 * k) % 2147483629) + 30269 * (((c % 2147483629 + 40 + k) * (c % 2147483629 + 40 + k) + 69621 * (c % 2147483629 + 40 + k) + 7 * k) % 2147483629) + k) % 2147483629
def spMixed : Sp := fun vs H Q _ => ∃ c i, vs = [.int c, .int i] ∧ 0 ≤ i ∧ i < 1000 ∧ Q (.int (mixF c i)) H
theorem d__law_mixed (T : Txt K mg c_WheelError c_Taken c_NoClass c_NoShare c_Members c_Chooser c_Starts c_Rounds) : Def P w K mg base (CXX P w) 1 "_law_mixed" ["_law_cell", "_law_k"] spMixed := by
  refine T.src__law_mixed.okN (k := 0) sc__law_mixed (fun vs H Q E h => ?_) (fun f cdv A outer s H vs Q E hr h => ?_)
  · obtain ⟨c, i, rfl, _⟩ := h
    rfl
  · obtain ⟨c, i, rfl, h0, h1, k⟩ := h
    refine ⟨_, (pss_cons (ps_set (i := 2) sc__law_mixed.nd rfl (by first | exact Or.inl rfl | exact Or.inr rfl) (pe_op op_add (pe_op op_add (pe_op op_mod (pv 0) pe_int) pe_int) (pv 1))) (pss_cons (ps_set (i := 2) sc__law_mixed.nd rfl (by first | exact Or.inl rfl | exact Or.inr rfl) (pe_op op_mod (pe_op op_add (pe_op op_add (pe_op op_mulL (pv 2) (pv 2)) (pe_op op_mulL pe_int (pv 2))) (pe_op op_mulL pe_int (pv 1))) pe_int)) (pss_one (ps_ret (pe_op op_mod (pe_op op_add (pe_op op_add (pe_op op_mulL (pv 2) (pv 2)) (pe_op op_mulL pe_int (pv 2))) (pv 1)) pe_int))))), ?_⟩
    show tSeq _ _ _ [some (.int c), some (.int i), none] H
    unfold mixF at k
    refine seq_step fun R hR => ?_
    walk_at "rd"
    refine hR _ _ ?_
    have e1 := Int.emod_nonneg c (show (2147483629 : Int) ≠ 0 by decide)
    have e2 := Int.emod_lt_of_pos c (show (0 : Int) < 2147483629 by decide)
    have z1 : Sw.Sz 70 (c % 2147483629 + 40 + i) := Sw.Sz.r18 (by omega) (by omega)
    have zi : Sw.Sz 70 i := Sw.Sz.r18 (by omega) (by omega)
    generalize c % 2147483629 + 40 + i = x at z1 k ⊢
    refine seq_step fun R hR => ?_
    walk_at "rd"
    refine ⟨⟨z1.mono (by decide), z1.mono (by decide)⟩, ⟨Sw.Sz.lit (by decide), z1.mono (by decide)⟩, ⟨Sw.Sz.lit (by decide), zi.mono (by decide)⟩, hR _ _ ?_⟩
    generalize hy : (x * x + 69621 * x + 7 * i) % 2147483629 = y at k ⊢
    have e3 : 0 ≤ y := by rw [← hy]; exact Int.emod_nonneg _ (by decide)
    have e4 : y < 2147483629 := by rw [← hy]; exact Int.emod_lt_of_pos _ (by decide)
    have z2 : Sw.Sz 70 y := Sw.Sz.r18 (by omega) (by omega)
    walk_at "rd"
    exact ⟨⟨z2.mono (by decide), z2.mono (by decide)⟩, ⟨Sw.Sz.lit (by decide), z2.mono (by decide)⟩, k⟩
def spDv0 : Sp := fun vs H Q _ => ∃ a b, vs = [.int a, .int b] ∧ 0 ≤ a ∧ 0 ≤ b ∧ Q (.int (Sw.dv a b)) H
theorem d__law_shared (T : Txt K mg c_WheelError c_Taken c_NoClass c_NoShare c_Members c_Chooser c_Starts c_Rounds) : Def P w K mg base (CXX P w) 1 "_law_shared" ["_law_one", "_law_other"] spDv0 := by
  refine T.src__law_shared.okN (k := 0) sc__law_shared (fun vs H Q E h => ?_) (fun f cdv A outer s H vs Q E hr h => ?_)
  · obtain ⟨a, b, rfl, _⟩ := h
    rfl
  · obtain ⟨a, b, rfl, h1, h2, k⟩ := h
    refine ⟨_, (pss_cons (ps_while PassesOwn.never (pt_cmpR op_ne (pv 1) pe_int (nomark _)) (pss_one (ps_par (i := 0) (j := 1) rfl sc__law_shared.nd rfl rfl (by decide) rfl rfl (pa_cons (pv 1) (pa_cons (pe_op op_mod (pv 0) (pv 1)) pa_nil)) (by with_unfolding_all rfl)))) (pss_one (ps_ret (pv 0)))), ?_⟩
    refine while_det (fun σ H' => H' = H ∧ ∃ g s, σ = [some (.int g), some (.int s)] ∧ 0 ≤ g ∧ 0 ≤ s ∧ Sw.dv g s = Sw.dv a b)
      (fun σ _ => match σ with | [_, some (.int s)] => s.toNat | _ => 0) ⟨rfl, _, _, rfl, h1, h2, rfl⟩ ?_
    rintro σ H' ⟨rfl, g, s, rfl, hg, hs, e⟩
    refine ⟨!decide (V.int s = V.int 0), fun Q hQ => ⟨_, rfl, rfl, _, rfl, hQ⟩, fun hb => ?_, fun hb => ?_⟩
    · have hs0 : s ≠ 0 := by intro z; subst z; simp at hb
      have hsp : 0 < s := by omega
      refine ⟨_, rfl, _, rfl, _, rfl, _, _, rfl, rfl, hsp, _, _, rfl, ?_⟩
      refine ⟨⟨rfl, s, g % s, rfl, hs, Int.emod_nonneg g hs0, by rw [Sw.dv_step]; exact e⟩, ?_⟩
      show (g % s).toNat < s.toNat
      have := Int.emod_lt_of_pos g hsp
      have := Int.emod_nonneg g hs0
      omega
    · have hs0 : s = 0 := by
        have : V.int s = V.int 0 := by simpa using hb
        exact V.int.inj this
      subst hs0
      rw [Sw.dv_zero g hg] at e
      walk_at "rd"
      rw [e]; exact k
def TgAll (nm : Nm) (tg gs : Str → Option Rat) : Prop := ∀ x, shOf nm x ≠ none → ∃ t g, tg x = some t ∧ gs x = some g
structure Gnm (nm : Nm) : Prop where
  nd : (nm.map (·.1)).Nodup
  sh : ∀ x s, shOf nm x = some s → 1 ≤ s ∧ s ≤ 1000000
  ok : ∀ y ∈ nm.map (·.1), PyData.strOk y = true
def Ch (cS cR cM : Addr) (H : Hp) (a : At5) (most : Int) (nm : Nm) (N : Nat) : Prop :=
  (∃ tg gs ck ch, Sx cS cM H a most nm tg gs ck ch N ∧ TgAll nm tg gs) ∨ (∃ q rs tu ch, Rx cR cM H a most nm q rs tu ch ∧ Sw.RI most nm q rs tu)
section
variable {cS cR cM : Addr} {H H' : Hp} {a : At5} {most : Int} {nm : Nm} {N : Nat}
theorem Ch.same (h : Ch cS cR cM H a most nm N) (s : Same H H') : Ch cS cR cM H' a most nm N := by
  rcases h with ⟨tg, gs, ck, ch, S, t⟩ | ⟨q, rs, tu, ch, S, r⟩
  · exact .inl ⟨tg, gs, ck, ch, S.same s, t⟩
  · exact .inr ⟨q, rs, tu, ch, S.same s, r⟩
theorem Ch.keep (h : Ch cS cR cM H a most nm N) (e : ∀ b o, (b = a.p ∨ b = a.pm ∨ b = a.ps ∨ b = a.pt ∨ b = a.pg ∨ ∃ xs, H b = some (.tup xs)) → H b = some o → H' b = some o) : Ch cS cR cM H' a most nm N := by
  rcases h with ⟨tg, gs, ck, ch, S, t⟩ | ⟨q, rs, tu, ch, S, r⟩
  · left
    obtain ⟨dx, fs, pr, h1, h2, h3⟩ := S.ex
    obtain ⟨dm, fm, m1, m2, m3, m4⟩ := S.mb.ex
    exact ⟨tg, gs, ck, ch, ⟨⟨dx, fs, pr, e _ _ (.inl rfl) h1, h2, e _ _ (.inr (.inr (.inr (.inr (.inr ⟨_, h3⟩))))) h3⟩, ⟨⟨dm, fm, e _ _ (.inr (.inl rfl)) m1, m2, m3, m4⟩, e _ _ (.inr (.inr (.inl rfl))) S.mb.hs⟩,
      S.dt.keep fun b o hb => e b o (hb.elim (fun z => .inr (.inr (.inr (.inl z)))) fun z => .inr (.inr (.inr (.inr (.inr z))))), S.dg.keep fun b o hb => e b o (hb.elim (fun z => .inr (.inr (.inr (.inr (.inl z))))) fun z => .inr (.inr (.inr (.inr (.inr z))))), S.nl, S.n1, S.n2, S.n3, S.n4⟩, t⟩
  · right
    obtain ⟨dx, fs, h1, h2⟩ := S.ex
    obtain ⟨dm, fm, m1, m2, m3, m4⟩ := S.mb.ex
    exact ⟨q, rs, tu, ch, ⟨⟨dx, fs, e _ _ (.inl rfl) h1, h2⟩, ⟨⟨dm, fm, e _ _ (.inr (.inl rfl)) m1, m2, m3, m4⟩, e _ _ (.inr (.inr (.inl rfl))) S.mb.hs⟩, e _ _ (.inr (.inr (.inr (.inl rfl)))) S.hq, e _ _ (.inr (.inr (.inr (.inr (.inl rfl))))) S.hr, S.n3, S.n4⟩, r⟩
def Off (a : At5) (b : Addr) : Prop := b ≠ a.p ∧ b ≠ a.pm ∧ b ≠ a.ps ∧ b ≠ a.pt ∧ b ≠ a.pg
theorem Off.new {b : Addr} (h : H a.p = none ∧ H a.pm = none ∧ H a.ps = none ∧ H a.pt = none ∧ H a.pg = none) {o : HO} (e : H b = some o) : Off a b := by
  obtain ⟨h1, h2, h3, h4, h5⟩ := h
  refine ⟨?_, ?_, ?_, ?_, ?_⟩ <;> (intro z; rw [z] at e; first | rw [h1] at e | rw [h2] at e | rw [h3] at e | rw [h4] at e | rw [h5] at e) <;> cases e
theorem own_off {b : Addr} {o : HO} (w : Own a H H') (f : Off a b) (e : H b = some o) : H' b = some o := w b o f.1 f.2.2.1 f.2.2.2.1 f.2.2.2.2 e
theorem Ch.at (h : Ch cS cR cM H a most nm N) : H a.p ≠ none ∧ H a.pm ≠ none ∧ H a.ps ≠ none ∧ H a.pt ≠ none ∧ H a.pg ≠ none := by
  rcases h with ⟨tg, gs, ck, ch, S, t⟩ | ⟨q, rs, tu, ch, S, r⟩
  · obtain ⟨dx, fs, pr, h1, h2, h3⟩ := S.ex
    obtain ⟨dm, fm, m1, _⟩ := S.mb.ex
    obtain ⟨kt, t1, _⟩ := S.dt.ex
    obtain ⟨kg, g1, _⟩ := S.dg.ex
    refine ⟨by rw [h1]; simp, by rw [m1]; simp, by rw [S.mb.hs]; simp, by rw [t1]; simp, by rw [g1]; simp⟩
  · obtain ⟨dx, fs, h1, h2⟩ := S.ex
    obtain ⟨dm, fm, m1, _⟩ := S.mb.ex
    refine ⟨by rw [h1]; simp, by rw [m1]; simp, by rw [S.mb.hs]; simp, by rw [S.hq]; simp, by rw [S.hr]; simp⟩
theorem Ch.free (h : Ch cS cR cM H a most nm N) {b : Addr} (e : H b = none) : Off a b := by
  obtain ⟨h1, h2, h3, h4, h5⟩ := h.at
  refine ⟨fun z => h1 (z ▸ e), fun z => h2 (z ▸ e), fun z => h3 (z ▸ e), fun z => h4 (z ▸ e), fun z => h5 (z ▸ e)⟩
theorem Ch.other (h : Ch cS cR cM H a most nm N) {b : Addr} {o o' : HO} (f : Off a b) (e : H b = some o) (nt : ∀ xs, o ≠ .tup xs) : Ch cS cR cM (upd H b o') a most nm N := by
  refine h.keep fun c u hc hu => ?_
  rw [upd_ne fun z => ?_]
  · exact hu
  · subst z
    rcases hc with z | z | z | z | z | ⟨xs, z⟩
    · exact f.1 z
    · exact f.2.1 z
    · exact f.2.2.1 z
    · exact f.2.2.2.1 z
    · exact f.2.2.2.2 z
    · rw [e] at z; exact nt xs (Option.some.inj z)
theorem Ch.own {b : At5} {most' : Int} {nm' : Nm} {N' : Nat} (h : Ch cS cR cM H a most nm N) (g : Ch cS cR cM H b most' nm' N') (w : Own b H H') (f : Off b a.p ∧ Off b a.pm ∧ Off b a.ps ∧ Off b a.pt ∧ Off b a.pg) : Ch cS cR cM H' a most nm N := by
  obtain ⟨f1, f2, f3, f4, f5⟩ := f
  refine h.keep fun c u hc hu => ?_
  rcases hc with z | z | z | z | z | ⟨xs, z⟩
  · exact own_off w (z ▸ f1) hu
  · exact own_off w (z ▸ f2) hu
  · exact own_off w (z ▸ f3) hu
  · exact own_off w (z ▸ f4) hu
  · exact own_off w (z ▸ f5) hu
  · have no : c ≠ b.p ∧ c ≠ b.ps ∧ c ≠ b.pt ∧ c ≠ b.pg := by
      rcases g with ⟨tg, gs, ck, ch, S, t⟩ | ⟨q, rs, tu, ch, S, r⟩
      · obtain ⟨dx, fs, pr, h1, h2, h3⟩ := S.ex
        obtain ⟨kt, t1, _⟩ := S.dt.ex
        obtain ⟨kg, g1, _⟩ := S.dg.ex
        exact ⟨ne_of z h1 (by intro y; cases y), ne_of z S.mb.hs (by intro y; cases y), ne_of z t1 (by intro y; cases y), ne_of z g1 (by intro y; cases y)⟩
      · obtain ⟨dx, fs, h1, h2⟩ := S.ex
        exact ⟨ne_of z h1 (by intro y; cases y), ne_of z S.mb.hs (by intro y; cases y), ne_of z S.hq (by intro y; cases y), ne_of z S.hr (by intro y; cases y)⟩
    exact w c u no.1 no.2.1 no.2.2.1 no.2.2.2 hu
end
theorem Gnm.nil : Gnm [] := ⟨.nil, fun x s e => by (cases e), fun y h => absurd h List.not_mem_nil⟩
theorem Gnm.put {nm : Nm} (h : Gnm nm) {x : Str} {s : Int} (hx : shOf nm x = none) (s0 : 1 ≤ s) (s1 : s ≤ 1000000) (ok : PyData.strOk x = true) : Gnm (nm ++ [(x, s)]) := by
  refine ⟨?_, fun y t e => ?_, fun y hy => ?_⟩
  · rw [List.map_append]
    exact List.nodup_append.mpr ⟨h.nd, by simp, fun y hy z hz => by
      have : z = x := by simpa using hz
      rw [this]
      intro e
      exact (Sw.sh_none.mp hx) (e ▸ hy)⟩
  · rw [shOf_new hx] at e
    split at e
    · cases e; exact ⟨s0, s1⟩
    · exact h.sh y t e
  · rw [List.map_append] at hy
    rcases List.mem_append.mp hy with z | z
    · exact h.ok y z
    · have : y = x := by simpa using z
      rw [this]; exact ok
theorem Gnm.drop {nm : Nm} (h : Gnm nm) (x : Str) : Gnm (dropN nm x) := by
  refine ⟨?_, fun y t e => ?_, fun y hy => ?_⟩
  · rw [Sw.fst_drop]
    exact h.nd.filter _
  · rw [shOf_drop] at e
    split at e
    · cases e
    · exact h.sh y t e
  · rw [Sw.fst_drop] at hy
    exact h.ok y (List.mem_filter.mp hy).1
theorem Gnm.resh {nm : Nm} (h : Gnm nm) {x : Str} {s : Int} (s0 : 1 ≤ s) (s1 : s ≤ 1000000) : Gnm (putN nm x s) := by
  refine ⟨?_, fun y t e => ?_, fun y hy => ?_⟩
  · rw [Sw.fst_put]; exact h.nd
  · rw [shOf_put] at e
    split at e
    · cases e' : shOf nm y with
      | none => rw [e'] at e; cases e
      | some v => rw [e'] at e; cases e; exact ⟨s0, s1⟩
    · exact h.sh y t e
  · rw [Sw.fst_put] at hy; exact h.ok y hy
theorem Gnm.mem {nm : Nm} (h : Gnm nm) : ∀ p ∈ nm, 1 ≤ p.2 ∧ p.2 ≤ 1000000 := fun p hp => by
  have : shOf nm p.1 = some p.2 := by
    have nd := h.nd
    clear h
    induction nm with
    | nil => cases hp
    | cons y r ih =>
      rw [List.map_cons, List.nodup_cons] at nd
      unfold L2.shOf
      rw [List.find?_cons]
      rcases List.mem_cons.mp hp with e | e
      · subst e; simp
      · have ne : decide (y.1 = p.1) = false := decide_eq_false fun z => nd.1 (by rw [z]; exact List.mem_map.mpr ⟨p, e, rfl⟩)
        rw [ne]
        exact ih e nd.2
  exact h.sh _ _ this
theorem allS_bd : ∀ {nm : Nm}, (∀ p ∈ nm, 1 ≤ p.2 ∧ p.2 ≤ 1000000) → (nm.length : Int) ≤ allS nm ∧ allS nm ≤ 1000000 * (nm.length : Int)
  | [], _ => ⟨Int.le_refl _, Int.le_refl _⟩
  | p :: r, h => by
    obtain ⟨i1, i2⟩ := allS_bd (nm := r) fun q hq => h q (List.mem_cons_of_mem _ hq)
    have := h p (List.mem_cons_self ..)
    unfold allS at i1 i2 ⊢
    rw [List.map_cons, List.sum_cons, List.length_cons]
    omega
def StOk (n : Nat) (z : Str) : Prop := PyData.strOk z = true ∧ z.length ≤ n
theorem ok_iff {z : Str} : PyData.strOk z = true ↔ ∀ c ∈ z.cps.toList, c < 1114112 := by
  unfold PyData.strOk
  rw [Array.all_eq_true_iff_forall_mem]
  simp
theorem StOk.app {m n : Nat} {y z : Str} (h : StOk m y) (g : StOk n z) : StOk (m + n) (y ++ z) := by
  refine ⟨?_, ?_⟩
  · rw [ok_iff]
    intro c hc
    have : (y ++ z).cps = y.cps ++ z.cps := rfl
    rw [this, Array.toList_append] at hc
    rcases List.mem_append.mp hc with q | q
    · exact (ok_iff.mp h.1) c q
    · exact (ok_iff.mp g.1) c q
  · have : (y ++ z).length = y.length + z.length := by
      show (y.cps ++ z.cps).size = _
      rw [Array.size_append]; rfl
    rw [this]
    have := h.2
    have := g.2
    omega
theorem StOk.slice {n : Nat} {z : Str} (h : StOk n z) (lo hi : Option Int) : StOk n (Txt.slice z lo hi) := by
  refine ⟨?_, Nat.le_trans (Txt.slice_le z lo hi) h.2⟩
  unfold Txt.slice
  split
  · exact h.1
  · rw [ok_iff]
    intro c hc
    have hc : c ∈ List.filterMap (fun x => z.cps[x]?) (Builtin.Str.strSliceIndices lo hi 1 z.length) := by simpa using hc
    obtain ⟨i, _, e⟩ := List.mem_filterMap.mp hc
    refine (ok_iff.mp h.1) c ?_
    exact Array.mem_toList_iff.mpr (Array.mem_of_getElem? e)
theorem StOk.mono {m n : Nat} {z : Str} (h : StOk m z) (l : m ≤ n) : StOk n z := ⟨h.1, Nat.le_trans h.2 l⟩
theorem StOk.one {c : Nat} (h : c < 1114112) : StOk 1 ⟨#[c]⟩ := by
  refine ⟨?_, Nat.le_refl _⟩
  rw [ok_iff]
  intro d hd
  have : d = c := by simpa using hd
  rw [this]
  exact h
theorem ixS_lit {H : Hp} {Q : VK} (z : Str) {i : Int} (ok : PyData.strOk z = true) (h0 : 0 ≤ i) (h1 : i < z.length) (hz : z.length ≤ 1000) (k : ∀ y, StOk 1 y → y.length = 1 → Q (.str y) H) : rIxS (.str z) (.int i) H Q := by
  have hl : z.cps.toList.length = z.length := by simp [Str.length]
  have lt : i.toNat < z.cps.toList.length := by omega
  have e := atI_nat (xs := z.cps.toList) (j := i.toNat) (List.getElem?_eq_getElem lt)
  rw [Int.toNat_of_nonneg h0] at e
  have hs : sizeLine = 16777216 := sizeLine_eq
  exact ⟨z, i, _, rfl, rfl, by omega, e, k _ (.one ((ok_iff.mp ok) _ (List.getElem_mem lt))) rfl⟩
def spName : Sp := fun vs H Q _ => ∃ (c k : Int), vs = [.int c, .int k] ∧ 0 ≤ k ∧ k < 7 ∧ ∀ z, StOk 20 z → Q (.str z) H
theorem d__law_name (T : Txt K mg c_WheelError c_Taken c_NoClass c_NoShare c_Members c_Chooser c_Starts c_Rounds) : Def P w K mg base (CXX P w) 2 "_law_name" ["_law_cell", "_law_k"] spName := by
  have D__law_mixed := d__law_mixed (P := P) (w := w) (base := base) T
  refine T.src__law_name.okN (k := 1) sc__law_name (fun vs H Q E h => ?_) (fun f cdv A outer s H vs Q E hr h => ?_)
  · obtain ⟨c, k, rfl, _⟩ := h
    rfl
  · obtain ⟨c, kk, rfl, k0, k1, k⟩ := h
    refine ⟨_, (pss_cons (ps_set (i := 2) sc__law_name.nd rfl (by first | exact Or.inl rfl | exact Or.inr rfl) pe_str) (pss_cons (ps_for PassesOwn.never rfl (pi_range1 rfl T.no_range (pa_cons (pe_op op_mod (pv 0) pe_int) pa_nil)) (pg_name (i := 3) sc__law_name.nd rfl (by first | exact Or.inl rfl | exact Or.inr rfl)) (pss_one (ps_set (i := 2) sc__law_name.nd rfl (by first | exact Or.inl rfl | exact Or.inr rfl) (pe_op op_add_str (pv 2) (pe_ix ix_str pe_str (pe_op op_mod (pe_callX D__law_mixed (hr.mono (by decide)) rfl passN (pa_cons (pv 0) (pa_cons (pv 3) pa_nil))) pe_int) (fun _ _ => rfl)))))) (pss_cons (ps_set (i := 4) sc__law_name.nd rfl (by first | exact Or.inl rfl | exact Or.inr rfl) (pe_op op_mod (pe_op op_fdivL (pv 0) pe_int) (pe_op op_add (pe_callB call_len_str rfl T.no_len boot_len (pa_cons (pv 2) pa_nil)) pe_int))) (pss_cons (ps_if (pt_cmpR op_eq (pe_op op_mod (pe_op op_fdivL (pv 0) pe_int) pe_int) pe_int (nomark _)) (pss_one (ps_ret (pe_op op_add_str (pe_op op_add_str (pe_slice sl_str (pv 2) po_none (po_some (pv 4))) (pe_op op_mulS pe_str (pe_op op_add (pv 1) pe_int))) (pe_slice sl_str (pv 2) (po_some (pv 4)) po_none)))) pss_nil) (pss_one (ps_ret (pe_op op_add_str (pe_op op_add_str (pe_slice sl_str (pv 2) po_none (po_some (pv 4))) (pe_ix ix_str pe_str (pv 1) (fun _ _ => rfl))) (pe_slice sl_str (pv 2) (po_some (pv 4)) po_none)))))))), ?_⟩
    show tSeq _ _ _ [some (.int c), some (.int kk), none, none, none] H
    refine seq_step fun R hR => ?_
    walk_at "rd"
    refine hR _ _ ?_
    clear hR
    refine seq_step fun R hR => ?_
    refine for_step fun Z hZ => ?_
    walk_at "rd"
    have n0 := Int.emod_nonneg c (show (6 : Int) ≠ 0 by decide)
    have n1 := Int.emod_lt_of_pos c (show (0 : Int) < 6 by decide)
    refine ⟨by omega, by omega, hZ _ _ ?_⟩
    clear hZ
    refine for_range (fun i σ H' => H' = H ∧ ∃ z v3, StOk i z ∧ σ = [some (.int c), some (.int kk), some (.str z), v3, none]) ⟨rfl, _, none, ⟨by decide +kernel, Nat.le_refl _⟩, rfl⟩ ?_ ?_
    · rintro i σ H1 hi ⟨rfl, z, v3, sz, rfl⟩
      show tAsg _ _ _ [some (.int c), some (.int kk), some (.str z), some (.int (0 + (i : Int))), none] H1
      refine nx_step fun N hN => ?_
      walk_at "rd"
      refine ⟨c, 0 + (i : Int), rfl, by omega, by omega, _, rfl, ?_⟩
      have m0 := Int.emod_nonneg (mixF c (0 + (i : Int))) (show (42 : Int) ≠ 0 by decide)
      have m1 := Int.emod_lt_of_pos (mixF c (0 + (i : Int))) (show (0 : Int) < 42 by decide)
      refine ixS_lit _ (by decide +kernel) m0 (Int.lt_of_lt_of_le m1 (by decide +kernel)) (by decide +kernel) fun y hy ly => ?_
      have hs : sizeLine = 16777216 := sizeLine_eq
      have zl := sz.2
      exact ⟨y, rfl, by omega, hN _ _ ⟨rfl, z ++ y, _, sz.app hy, rfl⟩⟩
    · rintro σ H1 ⟨rfl, z, v3, sz, rfl⟩
      have sz : StOk 6 z := sz.mono (by omega)
      refine hR _ _ ?_
      clear hR
      have zl := sz.2
      have hs : sizeLine = 16777216 := sizeLine_eq
      refine seq_step fun R hR => ?_
      walk_at "rd"
      refine ⟨by omega, by omega, hR _ _ ?_⟩
      clear hR
      generalize c / 6 % ((z.length : Int) + 1) = pl
      have sl := fun lo hi => sz.slice lo hi
      refine seq_step fun R hR => ?_
      walk_at "rd"
      refine ite2 (fun _ => ?_) fun _ => hR _ _ ?_
      · refine ⟨z, rfl, by omega, ?_⟩
        have zz : StOk 8 (Txt.mul (Str.ofString "z") (kk + 1)) := by
          have : kk = 0 ∨ kk = 1 ∨ kk = 2 ∨ kk = 3 ∨ kk = 4 ∨ kk = 5 ∨ kk = 6 := by omega
          rcases this with rfl | rfl | rfl | rfl | rfl | rfl | rfl <;> exact ⟨by decide +kernel, by decide +kernel⟩
        have s1 := sl none (some pl)
        have s2 := sl (some pl) none
        refine ⟨_, _, rfl, rfl, by omega, by omega, by decide +kernel, _, rfl, _, rfl, ?_, z, rfl, by omega, _, rfl, ?_, ?_⟩
        · have := s1.2
          have := zz.2
          omega
        · have := (s1.app zz).2
          have := s2.2
          omega
        · exact k _ (((s1.app zz).app s2).mono (by decide))
      · walk_at "rd"
        refine ⟨z, rfl, by omega, ?_⟩
        refine ixS_lit _ (by decide +kernel) k0 (Int.lt_trans k1 (by decide +kernel)) (by decide +kernel) fun y hy ly => ?_
        have s1 := sl none (some pl)
        have s2 := sl (some pl) none
        refine ⟨_, rfl, _, rfl, ?_, z, rfl, by omega, _, rfl, ?_, ?_⟩
        · have := s1.2
          omega
        · have := (s1.app hy).2
          have := s2.2
          omega
        · exact k _ (((s1.app hy).app s2).mono (by decide))
def spShareL : Sp := fun vs H Q _ => ∃ c, vs = [.int c] ∧ ∀ s H', Same H H' → Q (.int s) H'
theorem pickZ {K : PySem.W.Frag} {H : Hp} {t : Addr} {i : Int} {Q : VK} (xs : List Int) (h0 : 0 ≤ i) (h1 : i < xs.length) (k : ∀ z : Int, xs[i.toNat]? = some z → Q (.int z) (upd H t (.lst (xs.map V.int)))) : rIxL K (.ref t) (.int i) (upd H t (.lst (xs.map V.int))) Q := by
  have := atI_nat (xs := xs.map V.int) (j := i.toNat) (v := V.int (xs[i.toNat]'(by omega))) (by simp)
  rw [Int.toNat_of_nonneg h0] at this
  exact ixL_at (.of upd_same) this (k _ (List.getElem?_eq_getElem _))
theorem d__law_share (T : Txt K mg c_WheelError c_Taken c_NoClass c_NoShare c_Members c_Chooser c_Starts c_Rounds) : Def P w K mg base (CXX P w) 2 "_law_share" ["_law_cell"] spShareL := by
  have D__law_mixed := d__law_mixed (P := P) (w := w) (base := base) T
  refine T.src__law_share.okN (k := 1) sc__law_share (fun vs H Q E h => ?_) (fun f cdv A outer s H vs Q E hr h => ?_)
  · obtain ⟨c, rfl, _⟩ := h
    rfl
  · obtain ⟨c, rfl, k⟩ := h
    refine ⟨_, (pss_cons (ps_set (i := 1) sc__law_share.nd rfl (by first | exact Or.inl rfl | exact Or.inr rfl) (pe_op op_mod (pe_op op_fdivL (pv 0) pe_int) pe_int)) (pss_cons (ps_if (pt_cmpR op_lt (pv 1) pe_int (nomark _)) (pss_one (ps_ret (pe_op op_add pe_int (pe_op op_mod (pe_callX D__law_mixed (hr.mono (by decide)) rfl passN (pa_cons (pv 0) (pa_cons pe_int pa_nil))) pe_int)))) pss_nil) (pss_cons (ps_if (pt_cmpR op_eq (pv 1) pe_int (nomark _)) (pss_one (ps_ret (pe_op op_add pe_int (pe_op op_mod (pe_callX D__law_mixed (hr.mono (by decide)) rfl passN (pa_cons (pv 0) (pa_cons pe_int pa_nil))) (pe_op op_pow pe_int pe_int))))) pss_nil) (pss_one (ps_ret (pe_ix (ix_listK K rfl) (pe_lst (pa_cons (pe_un un_neg pe_int) (pa_cons pe_int (pa_cons (pe_op op_pow pe_int pe_int) (pa_cons (pe_op op_add (pe_op op_pow pe_int pe_int) pe_int) pa_nil))))) (pe_op op_sub (pv 1) pe_int) (fun _ _ => rfl))))))), ?_⟩
    show tSeq _ _ _ [some (.int c), none] H
    refine seq_step fun R hR => ?_
    walk_at "rd"
    refine hR _ _ ?_
    clear hR
    have w0 := Int.emod_nonneg (c / 21) (show (8 : Int) ≠ 0 by decide)
    have w1 := Int.emod_lt_of_pos (c / 21) (show (0 : Int) < 8 by decide)
    generalize c / 21 % 8 = way at w0 w1 ⊢
    refine seq_step fun R hR => ?_
    walk_at "rd"
    refine ite2 (fun _ => ⟨c, 1, rfl, by decide, by decide, _, rfl, k _ _ (Same.refl _)⟩) fun c1 => hR _ _ ?_
    clear hR
    refine seq_step fun R hR => ?_
    walk_at "rd"
    refine ite2 (fun _ => ⟨c, 2, rfl, by decide, by decide, _, rfl, k _ _ (Same.refl _)⟩) fun c2 => hR _ _ ?_
    clear hR
    walk_at "rd"
    intro p fp
    have : 4 ≤ way := by omega
    exact pickZ [-1, 0, 1000000, 1000001] (by omega) (by show way - 4 < 4; omega) fun z _ => k _ _ (same_new fp)
theorem tg_put {nm : Nm} {tg gs : Str → Option Rat} {x : Str} {s : Int} (hx : shOf nm x = none) (h : TgAll nm tg gs) : TgAll (nm ++ [(x, s)]) (setS tg x 0) (setS gs x 0) := fun y hy => by
  unfold setS
  by_cases c : y = x
  · rw [if_pos c, if_pos c]; exact ⟨_, _, rfl, rfl⟩
  · rw [shOf_new hx, if_neg c] at hy
    rw [if_neg c, if_neg c]; exact h y hy
theorem tg_drop {nm : Nm} {tg gs : Str → Option Rat} {x : Str} (h : TgAll nm tg gs) : TgAll (dropN nm x) (delS tg x) (delS gs x) := fun y hy => by
  unfold delS
  by_cases c : y = x
  · rw [shOf_drop, if_pos c] at hy; exact absurd rfl hy
  · rw [shOf_drop, if_neg c] at hy
    rw [if_neg c, if_neg c]; exact h y hy
theorem tg_resh {nm : Nm} {tg gs : Str → Option Rat} {x : Str} {s : Int} (h : TgAll nm tg gs) : TgAll (putN nm x s) tg gs := fun y hy => h y fun z => hy (by
  rw [shOf_put, z]
  split <;> rfl)
def spPutL (cS cR cM : Addr) : Sp := fun vs H Q _ => ∃ (a : At5) (most : Int) (nm : Nm) (N : Nat) (x : Str) (s : Int), vs = [.ref a.p, .str x, .int s] ∧ Ch cS cR cM H a most nm N ∧ N < 800 ∧ nm.length < 80 ∧ (shOf nm x ≠ none → ∀ H', Same H H' → Q (.str "taken") H') ∧ (shOf nm x = none → ¬ (1 ≤ s ∧ s ≤ 1000000) → ∀ H', Same H H' → Q (.str "share") H') ∧ (shOf nm x = none → 1 ≤ s ∧ s ≤ 1000000 → ∀ H', Own a H H' → Ch cS cR cM H' a most (nm ++ [(x, s)]) (N + 3) → Q (.str "done") H')
theorem d__law_put (T : Txt K mg c_WheelError c_Taken c_NoClass c_NoShare c_Members c_Chooser c_Starts c_Rounds) : Def P w K mg base (CXX P w) 5 "_law_put" ["_law_one", "_law_name_here", "_law_share_here"] (spPutL c_Starts c_Rounds c_Members) := by
  have M_Starts_put := m_Starts_put (P := P) (w := w) (base := base) T
  have M_Rounds_put := m_Rounds_put (P := P) (w := w) (base := base) T
  refine T.src__law_put.okN (k := 4) sc__law_put (fun vs H Q E h => ?_) (fun f cdv A outer s H vs Q E hr h => ?_)
  · obtain ⟨a, most, nm, N, x, s, rfl, _⟩ := h
    rfl
  · obtain ⟨a, most, nm, N, x, s, rfl, C, hN, nl, kt, ks, k⟩ := h
    refine ⟨_, (pss_cons (ps_set (i := 3) sc__law_put.nd rfl (by first | exact Or.inl rfl | exact Or.inr rfl) pe_str) (pss_cons (ps_tryM rfl rfl K rfl rfl rfl (fun _ _ => (pss_one (ps_expr (pe_alt (pe_methX (dvs := []) M_Starts_put (by simp) T.cl_Starts (hr.mono (by decide)) passT (pv 0) (pa_cons (pv 1) (pa_cons (pv 2) pa_nil))) (pe_methX (dvs := []) M_Rounds_put (by simp) T.cl_Rounds (hr.mono (by decide)) passT (pv 0) (pa_cons (pv 1) (pa_cons (pv 2) pa_nil))))))) (ph_consAs (i := 4) K rfl T.xc_Taken rfl T.mg_Taken sc__law_put.nd rfl rfl (fun _ => (pss_one (ps_set (i := 3) sc__law_put.nd rfl (by first | exact Or.inl rfl | exact Or.inr rfl) (pe_ix (ix_listK K rfl) (pe_lst (pa_cons pe_str (pa_cons pe_str pa_nil))) (pe_callTy call_int1 rfl T.no_int boot_int (pa_cons (pe_and (pe_callB (call_isinstX K rfl) rfl T.no_isinstance boot_isinstance (pa_cons (pv 4) (pa_cons (pe_glob (v := .ref c_WheelError) rfl T.mg_WheelError rfl) pa_nil))) (pe_one (pe_not (pe_callB (call_isinstX K rfl) rfl T.no_isinstance boot_isinstance (pa_cons (pv 4) (pa_cons (pe_glob (v := .ref c_NoShare) rfl T.mg_NoShare rfl) pa_nil)))))) pa_nil)) (fun _ _ => rfl))))) (ph_consAs (i := 4) K rfl T.xc_NoShare rfl T.mg_NoShare sc__law_put.nd rfl rfl (fun _ => (pss_one (ps_set (i := 3) sc__law_put.nd rfl (by first | exact Or.inl rfl | exact Or.inr rfl) (pe_ix (ix_listK K rfl) (pe_lst (pa_cons pe_str (pa_cons pe_str pa_nil))) (pe_callTy call_int1 rfl T.no_int boot_int (pa_cons (pe_and (pe_callB (call_isinstX K rfl) rfl T.no_isinstance boot_isinstance (pa_cons (pv 4) (pa_cons (pe_glob (v := .ref c_WheelError) rfl T.mg_WheelError rfl) pa_nil))) (pe_one (pe_not (pe_callB (call_isinstX K rfl) rfl T.no_isinstance boot_isinstance (pa_cons (pv 4) (pa_cons (pe_glob (v := .ref c_NoClass) rfl T.mg_NoClass rfl) pa_nil)))))) pa_nil)) (fun _ _ => rfl))))) ph_nil))) (pss_one (ps_ret (pv 3))))), ?_⟩
    show tSeq _ _ _ [some (.ref a.p), some (.str x), some (.int s), none, none] H
    refine seq_step fun R hR => ?_
    walk_at "rd"
    refine hR _ _ ?_
    clear hR
    refine seq_step fun R hR => ?_
    unfold tTryM hkMs
    walk_at "rd"
    have post : ∀ (wd : Str) (v4 : Option V) (H' : Hp), Q (.str wd) H' → R [some (.ref a.p), some (.str x), some (.int s), some (.str wd), v4] H' := fun wd v4 H' q => hR _ _ (by
      walk_at "rd"
      exact q)
    clear hR
    rcases C with ⟨tg, gs, ck, ch, S, tga⟩ | ⟨q, rs, tu, ch, S, ri⟩
    · refine .inl ?_
      walk_at "rd"
      obtain ⟨dx, fs, pr, hp, ft, hr'⟩ := S.ex
      refine meth_at hp (ft.no _ (by decide +kernel) (by decide +kernel) (by decide +kernel) (by decide +kernel) (by decide +kernel) (by decide +kernel)) ⟨a, most, nm, tg, gs, ck, ch, N, x, s, rfl, S, by omega, fun hx e he => ?_, fun hx hs e he => ?_, fun hx hs H' ow S' => ?_⟩
      · refine ⟨e, rfl, c_Taken, upd_same, hk_here T.sub_Taken_Taken ?_⟩
        have sm := same_new (o := excO e c_Taken none false) he
        have xe : upd H e (excO e c_Taken none false) e = some (excO e c_Taken none false) := upd_same
        generalize upd H e (excO e c_Taken none false) = H2 at sm xe ⊢
        unfold Hd.run
        walk_at "rd"
        intro p2 f2
        have s2 := same_new (o := .lst [.str "other", .str "taken"]) f2
        refine inst_at (s2 _ _ xe) (.inl rfl) T.xc_Taken rfl T.kit_Taken_WheelError ?_
        walk_at "rd"
        refine inst_at (s2 _ _ xe) (.inl rfl) T.xc_Taken rfl T.kit_Taken_NoShare ?_
        walk_at "rd"
        refine .inr (ixL_at (.of upd_same) (v := .str "taken") (atI_nat (j := 1) rfl) ?_)
        exact post _ _ _ (kt hx _ (sm.trans s2))
      · refine ⟨e, rfl, c_NoShare, upd_same, hk_next T.sub_NoShare_Taken (hk_here T.sub_NoShare_NoShare ?_)⟩
        have sm := same_new (o := excO e c_NoShare none false) he
        have xe : upd H e (excO e c_NoShare none false) e = some (excO e c_NoShare none false) := upd_same
        generalize upd H e (excO e c_NoShare none false) = H2 at sm xe ⊢
        unfold Hd.run
        walk_at "rd"
        intro p2 f2
        have s2 := same_new (o := .lst [.str "other", .str "share"]) f2
        refine inst_at (s2 _ _ xe) (.inl rfl) T.xc_NoShare rfl T.kit_NoShare_WheelError ?_
        walk_at "rd"
        refine inst_at (s2 _ _ xe) (.inl rfl) T.xc_NoShare rfl T.kit_NoShare_NoClass ?_
        walk_at "rd"
        refine .inr (ixL_at (.of upd_same) (v := .str "share") (atI_nat (j := 1) rfl) ?_)
        exact post _ _ _ (ks hx hs _ (sm.trans s2))
      · exact post _ _ _ (k hx hs H' ow (.inl ⟨_, _, _, _, S', tg_put hx tga⟩))
    · refine .inr ?_
      walk_at "rd"
      refine S.meth (by decide +kernel) ⟨a, most, nm, q, rs, tu, ch, x, s, rfl, S, ri, by omega, fun hx e he => ?_, fun hx hs e he => ?_, fun hx hs H' ow S' => ?_⟩
      · refine ⟨e, rfl, c_Taken, upd_same, hk_here T.sub_Taken_Taken ?_⟩
        have sm := same_new (o := excO e c_Taken none false) he
        have xe : upd H e (excO e c_Taken none false) e = some (excO e c_Taken none false) := upd_same
        generalize upd H e (excO e c_Taken none false) = H2 at sm xe ⊢
        unfold Hd.run
        walk_at "rd"
        intro p2 f2
        have s2 := same_new (o := .lst [.str "other", .str "taken"]) f2
        refine inst_at (s2 _ _ xe) (.inl rfl) T.xc_Taken rfl T.kit_Taken_WheelError ?_
        walk_at "rd"
        refine inst_at (s2 _ _ xe) (.inl rfl) T.xc_Taken rfl T.kit_Taken_NoShare ?_
        walk_at "rd"
        refine .inr (ixL_at (.of upd_same) (v := .str "taken") (atI_nat (j := 1) rfl) ?_)
        exact post _ _ _ (kt hx _ (sm.trans s2))
      · refine ⟨e, rfl, c_NoShare, upd_same, hk_next T.sub_NoShare_Taken (hk_here T.sub_NoShare_NoShare ?_)⟩
        have sm := same_new (o := excO e c_NoShare none false) he
        have xe : upd H e (excO e c_NoShare none false) e = some (excO e c_NoShare none false) := upd_same
        generalize upd H e (excO e c_NoShare none false) = H2 at sm xe ⊢
        unfold Hd.run
        walk_at "rd"
        intro p2 f2
        have s2 := same_new (o := .lst [.str "other", .str "share"]) f2
        refine inst_at (s2 _ _ xe) (.inl rfl) T.xc_NoShare rfl T.kit_NoShare_WheelError ?_
        walk_at "rd"
        refine inst_at (s2 _ _ xe) (.inl rfl) T.xc_NoShare rfl T.kit_NoShare_NoClass ?_
        walk_at "rd"
        refine .inr (ixL_at (.of upd_same) (v := .str "share") (atI_nat (j := 1) rfl) ?_)
        exact post _ _ _ (ks hx hs _ (sm.trans s2))
      · exact post _ _ _ (k hx hs H' ow (.inr ⟨_, _, _, _, S', ri.put hx hs.1 hs.2⟩))
def spReshL (cS cR cM : Addr) : Sp := fun vs H Q _ => ∃ (a : At5) (most : Int) (nm : Nm) (N : Nat) (x : Str) (s : Int), vs = [.ref a.p, .str x, .int s] ∧ Ch cS cR cM H a most nm N ∧ N < 800 ∧ nm.length < 80 ∧ 1 ≤ most ∧ most ≤ 1000000 ∧ (shOf nm x = none → ∀ H', Same H H' → Q (.str "class") H') ∧ (shOf nm x ≠ none → ¬ (1 ≤ s ∧ s ≤ 1000000) → ∀ H', Same H H' → Q (.str "share") H') ∧ (shOf nm x ≠ none → 1 ≤ s ∧ s ≤ 1000000 → ∀ H', Own a H H' → Ch cS cR cM H' a most (putN nm x s) N → Q (.str "done") H')
theorem d__law_reshare (T : Txt K mg c_WheelError c_Taken c_NoClass c_NoShare c_Members c_Chooser c_Starts c_Rounds) : Def P w K mg base (CXX P w) 7 "_law_reshare" ["_law_one", "_law_name_here", "_law_share_here"] (spReshL c_Starts c_Rounds c_Members) := by
  have M_Starts_reshare := m_Starts_reshare (P := P) (w := w) (base := base) T
  have M_Rounds_reshare := m_Rounds_reshare (P := P) (w := w) (base := base) T
  refine T.src__law_reshare.okN (k := 6) sc__law_reshare (fun vs H Q E h => ?_) (fun f cdv A outer s H vs Q E hr h => ?_)
  · obtain ⟨a, most, nm, N, x, s, rfl, _⟩ := h
    rfl
  · obtain ⟨a, most, nm, N, x, s, rfl, C, hN, nl, m0, m1, kt, ks, k⟩ := h
    refine ⟨_, (pss_cons (ps_set (i := 3) sc__law_reshare.nd rfl (by first | exact Or.inl rfl | exact Or.inr rfl) pe_str) (pss_cons (ps_tryM rfl rfl K rfl rfl rfl (fun _ _ => (pss_one (ps_expr (pe_alt (pe_methX (dvs := []) M_Starts_reshare (by simp) T.cl_Starts (hr.mono (by decide)) passT (pv 0) (pa_cons (pv 1) (pa_cons (pv 2) pa_nil))) (pe_methX (dvs := []) M_Rounds_reshare (by simp) T.cl_Rounds (hr.mono (by decide)) passT (pv 0) (pa_cons (pv 1) (pa_cons (pv 2) pa_nil))))))) (ph_consAs (i := 4) K rfl T.xc_NoClass rfl T.mg_NoClass sc__law_reshare.nd rfl rfl (fun _ => (pss_one (ps_set (i := 3) sc__law_reshare.nd rfl (by first | exact Or.inl rfl | exact Or.inr rfl) (pe_ix (ix_listK K rfl) (pe_lst (pa_cons pe_str (pa_cons pe_str pa_nil))) (pe_callTy call_int1 rfl T.no_int boot_int (pa_cons (pe_and (pe_callB (call_isinstX K rfl) rfl T.no_isinstance boot_isinstance (pa_cons (pv 4) (pa_cons (pe_glob (v := .ref c_WheelError) rfl T.mg_WheelError rfl) pa_nil))) (pe_one (pe_not (pe_callB (call_isinstX K rfl) rfl T.no_isinstance boot_isinstance (pa_cons (pv 4) (pa_cons (pe_glob (v := .ref c_Taken) rfl T.mg_Taken rfl) pa_nil)))))) pa_nil)) (fun _ _ => rfl))))) (ph_cons K rfl T.xc_NoShare rfl T.mg_NoShare (fun _ => (pss_one (ps_set (i := 3) sc__law_reshare.nd rfl (by first | exact Or.inl rfl | exact Or.inr rfl) pe_str))) ph_nil))) (pss_one (ps_ret (pv 3))))), ?_⟩
    show tSeq _ _ _ [some (.ref a.p), some (.str x), some (.int s), none, none] H
    refine seq_step fun R hR => ?_
    walk_at "rd"
    refine hR _ _ ?_
    clear hR
    refine seq_step fun R hR => ?_
    unfold tTryM hkMs
    walk_at "rd"
    have post : ∀ (wd : Str) (v4 : Option V) (H' : Hp), Q (.str wd) H' → R [some (.ref a.p), some (.str x), some (.int s), some (.str wd), v4] H' := fun wd v4 H' q => hR _ _ (by
      walk_at "rd"
      exact q)
    clear hR
    rcases C with ⟨tg, gs, ck, ch, S, tga⟩ | ⟨q, rs, tu, ch, S, ri⟩
    · refine .inl ?_
      walk_at "rd"
      obtain ⟨dx, fs, pr, hp, ft, hr'⟩ := S.ex
      refine meth_at hp (ft.no _ (by decide +kernel) (by decide +kernel) (by decide +kernel) (by decide +kernel) (by decide +kernel) (by decide +kernel)) ⟨a, most, nm, tg, gs, ck, ch, N, x, s, rfl, S, by omega, fun hx e he => ?_, fun hx hs e he => ?_, fun hx hs H' ow S' => ?_⟩
      · refine ⟨e, rfl, c_NoClass, upd_same, hk_here T.sub_NoClass_NoClass ?_⟩
        have sm := same_new (o := excO e c_NoClass none false) he
        have xe : upd H e (excO e c_NoClass none false) e = some (excO e c_NoClass none false) := upd_same
        generalize upd H e (excO e c_NoClass none false) = H2 at sm xe ⊢
        unfold Hd.run
        walk_at "rd"
        intro p2 f2
        have s2 := same_new (o := .lst [.str "other", .str "class"]) f2
        refine inst_at (s2 _ _ xe) (.inl rfl) T.xc_NoClass rfl T.kit_NoClass_WheelError ?_
        walk_at "rd"
        refine inst_at (s2 _ _ xe) (.inl rfl) T.xc_NoClass rfl T.kit_NoClass_Taken ?_
        walk_at "rd"
        refine .inr (ixL_at (.of upd_same) (v := .str "class") (atI_nat (j := 1) rfl) ?_)
        exact post _ _ _ (kt hx _ (sm.trans s2))
      · refine ⟨e, rfl, c_NoShare, upd_same, hk_next T.sub_NoShare_NoClass (hk_here T.sub_NoShare_NoShare ?_)⟩
        have sm := same_new (o := excO e c_NoShare none false) he
        generalize upd H e (excO e c_NoShare none false) = H2 at sm ⊢
        unfold Hd.run
        walk_at "rd"
        exact post _ _ _ (ks hx hs _ sm)
      · exact post _ _ _ (k hx hs H' ow (.inl ⟨_, _, _, _, S', tg_resh tga⟩))
    · refine .inr ?_
      walk_at "rd"
      obtain ⟨l1, l2⟩ := ri_len ri
      refine S.meth (by decide +kernel) ⟨a, most, nm, q, rs, tu, ch, x, s, rfl, S, by omega, by omega, m0, m1, fun hx e he => ?_, fun hx hs e he => ?_, fun hx hs => ?_⟩
      · refine ⟨e, rfl, c_NoClass, upd_same, hk_here T.sub_NoClass_NoClass ?_⟩
        have sm := same_new (o := excO e c_NoClass none false) he
        have xe : upd H e (excO e c_NoClass none false) e = some (excO e c_NoClass none false) := upd_same
        generalize upd H e (excO e c_NoClass none false) = H2 at sm xe ⊢
        unfold Hd.run
        walk_at "rd"
        intro p2 f2
        have s2 := same_new (o := .lst [.str "other", .str "class"]) f2
        refine inst_at (s2 _ _ xe) (.inl rfl) T.xc_NoClass rfl T.kit_NoClass_WheelError ?_
        walk_at "rd"
        refine inst_at (s2 _ _ xe) (.inl rfl) T.xc_NoClass rfl T.kit_NoClass_Taken ?_
        walk_at "rd"
        refine .inr (ixL_at (.of upd_same) (v := .str "class") (atI_nat (j := 1) rfl) ?_)
        exact post _ _ _ (kt hx _ (sm.trans s2))
      · refine ⟨e, rfl, c_NoShare, upd_same, hk_next T.sub_NoShare_NoClass (hk_here T.sub_NoShare_NoShare ?_)⟩
        have sm := same_new (o := excO e c_NoShare none false) he
        generalize upd H e (excO e c_NoShare none false) = H2 at sm ⊢
        unfold Hd.run
        walk_at "rd"
        exact post _ _ _ (ks hx hs _ sm)
      · obtain ⟨v, hv⟩ : ∃ v, shOf nm x = some v := by
          cases e : shOf nm x with
          | none => exact absurd e hx
          | some v => exact ⟨v, rfl⟩
        obtain ⟨r, hr1, _⟩ := ri.bd x v hv
        exact ⟨r, hr1, fun H' ow S' => post _ _ _ (k hx hs H' ow (.inr ⟨_, _, _, _, S', ri.resh hx hr1 hs.1 hs.2⟩))⟩
def spTakeL (cS cR cM : Addr) : Sp := fun vs H Q _ => ∃ (a : At5) (most : Int) (nm : Nm) (N : Nat) (x : Str), vs = [.ref a.p, .str x] ∧ Ch cS cR cM H a most nm N ∧ nm.length < 80 ∧ (∀ y ∈ nm.map (·.1), PyData.strOk y = true) ∧ (shOf nm x = none → ∀ H', Same H H' → Q (.str "class") H') ∧ (shOf nm x ≠ none → ∀ H', Own a H H' → Ch cS cR cM H' a most (dropN nm x) N → Q (.str "done") H')
theorem d__law_take (T : Txt K mg c_WheelError c_Taken c_NoClass c_NoShare c_Members c_Chooser c_Starts c_Rounds) : Def P w K mg base (CXX P w) 4 "_law_take" ["_law_one", "_law_name_here"] (spTakeL c_Starts c_Rounds c_Members) := by
  have M_Starts_take := m_Starts_take (P := P) (w := w) (base := base) T
  have M_Rounds_take := m_Rounds_take (P := P) (w := w) (base := base) T
  refine T.src__law_take.okN (k := 3) sc__law_take (fun vs H Q E h => ?_) (fun f cdv A outer s H vs Q E hr h => ?_)
  · obtain ⟨a, most, nm, N, x, rfl, _⟩ := h
    rfl
  · obtain ⟨a, most, nm, N, x, rfl, C, nl, ok, kt, k⟩ := h
    refine ⟨_, (pss_cons (ps_set (i := 2) sc__law_take.nd rfl (by first | exact Or.inl rfl | exact Or.inr rfl) pe_str) (pss_cons (ps_try rfl rfl K rfl rfl rfl T.xc_NoClass rfl T.mg_NoClass (fun _ _ => (pss_one (ps_expr (pe_alt (pe_methX (dvs := []) M_Starts_take (by simp) T.cl_Starts (hr.mono (by decide)) passT (pv 0) (pa_cons (pv 1) pa_nil)) (pe_methX (dvs := []) M_Rounds_take (by simp) T.cl_Rounds (hr.mono (by decide)) passT (pv 0) (pa_cons (pv 1) pa_nil)))))) (fun _ => (pss_one (ps_set (i := 2) sc__law_take.nd rfl (by first | exact Or.inl rfl | exact Or.inr rfl) pe_str)))) (pss_one (ps_ret (pv 2))))), ?_⟩
    show tSeq _ _ _ [some (.ref a.p), some (.str x), none] H
    refine seq_step fun R hR => ?_
    walk_at "rd"
    refine hR _ _ ?_
    clear hR
    refine seq_step fun R hR => ?_
    have post : ∀ (wd : Str) (H' : Hp), Q (.str wd) H' → R [some (.ref a.p), some (.str x), some (.str wd)] H' := fun wd H' q => hR _ _ (by
      walk_at "rd"
      exact q)
    clear hR
    walk_at "rd"
    rcases C with ⟨tg, gs, ck, ch, S, tga⟩ | ⟨q, rs, tu, ch, S, ri⟩
    · refine .inl ?_
      walk_at "rd"
      obtain ⟨dx, fs, pr, hp, ft, hr'⟩ := S.ex
      refine meth_at hp (ft.no _ (by decide +kernel) (by decide +kernel) (by decide +kernel) (by decide +kernel) (by decide +kernel) (by decide +kernel)) ⟨a, most, nm, tg, gs, ck, ch, N, x, rfl, S, fun hx e he => ?_, fun hx => ?_⟩
      · refine ⟨e, rfl, c_NoClass, upd_same, T.sub_NoClass_NoClass, ?_⟩
        walk_at "rd"
        exact post _ _ (kt hx _ (same_new he))
      · obtain ⟨t, g, h1, h2⟩ := tga x hx
        exact ⟨t, g, h1, h2, fun H' ow S' => post _ _ (k hx H' ow (.inl ⟨_, _, _, _, S', tg_drop tga⟩))⟩
    · refine .inr ?_
      walk_at "rd"
      refine S.meth (by decide +kernel) ⟨a, most, nm, q, rs, tu, ch, x, rfl, S, ri, by omega, ok, fun hx e he => ?_, fun hx H' ow S' => ?_⟩
      · refine ⟨e, rfl, c_NoClass, upd_same, T.sub_NoClass_NoClass, ?_⟩
        walk_at "rd"
        exact post _ _ (kt hx _ (same_new he))
      · exact post _ _ (k hx H' ow (.inr ⟨_, _, _, _, S', ri.take hx⟩))
def dueF (nm : Nm) (way : Int) (x : Str) (s : Int) : Str :=
  if way = 0 ∧ shOf nm x ≠ none then "taken" else if way ≠ 0 ∧ shOf nm x = none then "class" else if way < 2 ∧ ¬ (1 ≤ s ∧ s ≤ 1000000) then "share" else "done"
def spDue : Sp := fun vs H Q _ => ∃ (kd : Addr) (nm : Nm) (way : Int) (x : Str) (s : Int), vs = [.ref kd, .int way, .str x, .int s] ∧ H kd = some (.dK (kvsOf nm)) ∧ Q (.str (dueF nm way x s)) H
theorem d__law_due (T : Txt K mg c_WheelError c_Taken c_NoClass c_NoShare c_Members c_Chooser c_Starts c_Rounds) : Def P w K mg base (CXX P w) 1 "_law_due" ["_law_known", "_law_way", "_law_name_here", "_law_share_here"] spDue := by
  refine T.src__law_due.okN (k := 0) sc__law_due (fun vs H Q E h => ?_) (fun f cdv A outer s H vs Q E hr h => ?_)
  · obtain ⟨kd, nm, way, x, s, rfl, _⟩ := h
    rfl
  · obtain ⟨kd, nm, way, x, s, rfl, hk, k⟩ := h
    refine ⟨_, (pss_cons (ps_if (PW.pt (pw_and (pt_cmpR op_eq (pv 1) pe_int (nomark _)) (pw_and1 (pt_cmp (pc_din (hu_of hr) (pv 2) (pv 0)))))) (pss_one (ps_ret pe_str)) pss_nil) (pss_cons (ps_if (PW.pt (pw_and (pt_cmpR op_ne (pv 1) pe_int (nomark _)) (pw_and1 (pt_cmp (pc_dnotin (hu_of hr) (pv 2) (pv 0)))))) (pss_one (ps_ret pe_str)) pss_nil) (pss_cons (ps_if (PW.pt (pw_and (pt_cmpR op_lt (pv 1) pe_int (nomark _)) (pw_and1 (pt_not (pt_chain op_le op_le pe_int (pv 3) (pe_op op_pow pe_int pe_int)))))) (pss_one (ps_ret pe_str)) pss_nil) (pss_one (ps_ret pe_str))))), ?_⟩
    show tSeq _ _ _ [some (.ref kd), some (.int way), some (.str x), some (.int s)] H
    have hg := DGet.k (k := Sum.inr x) hk
    rw [valV_of] at hg
    have hg : DGet H kd (V.str x) (Option.map V.int (shOf nm x)) := hg
    have si : ∀ {o : Option Int}, (Option.map V.int o).isSome = true ↔ o ≠ none := fun {o} => by cases o <;> simp
    unfold dueF at k
    refine seq_step fun R hR => ?_
    have k1 : ¬ (way = 0 ∧ shOf nm x ≠ none) → R [some (.ref kd), some (.int way), some (.str x), some (.int s)] H := fun c1 => by
      rw [if_neg c1] at k
      refine hR _ _ ?_
      clear hR
      refine seq_step fun R hR => ?_
      have k2 : ¬ (way ≠ 0 ∧ shOf nm x = none) → R [some (.ref kd), some (.int way), some (.str x), some (.int s)] H := fun c2 => by
        rw [if_neg c2] at k
        refine hR _ _ ?_
        clear hR
        refine seq_step fun R hR => ?_
        have k3 : ¬ (way < 2 ∧ ¬ (1 ≤ s ∧ s ≤ 1000000)) → R [some (.ref kd), some (.int way), some (.str x), some (.int s)] H := fun c3 => by
          rw [if_neg c3] at k
          refine hR _ _ ?_
          walk_at "rd"
          exact k
        clear hR
        walk_at "rd"
        refine ite2 (fun d1 => ?_) fun d1 => k3 fun z => d1 z.1
        refine ite2 (fun d2 => ?_) fun d2 => ?_
        · refine ite2 (fun d3 => k3 fun z => z.2 ⟨d2, d3⟩) fun d3 => ?_
          rw [if_pos ⟨d1, fun z => d3 z.2⟩] at k
          exact k
        · rw [if_pos ⟨d1, fun z => d2 z.1⟩] at k
          exact k
      clear hR
      walk_at "rd"
      refine ite2 (fun d1 => k2 fun z => z.1 d1) fun d1 => ⟨_, hg, ite2 (fun d2 => ?_) fun d2 => k2 fun z => d2 ?_⟩
      · have : shOf nm x = none := by
          cases e : shOf nm x with
          | none => rfl
          | some v => rw [e] at d2; cases d2
        rw [if_pos ⟨d1, this⟩] at k
        exact k
      · rw [z.2]; rfl
    clear hR
    walk_at "rd"
    refine ite2 (fun c => ?_) fun c => k1 fun z => c z.1
    refine ⟨_, hg, ite2 (fun d => ?_) fun d => k1 fun z => d (si.mpr z.2)⟩
    rw [if_pos ⟨c, si.mp d⟩] at k
    exact k
def opF (nm : Nm) (way : Int) (x : Str) (s : Int) : Nm := if way = 0 then nm ++ [(x, s)] else if way = 1 then putN nm x s else dropN nm x
def OwK (a : At5) (kd : Addr) (H H' : Hp) : Prop := ∀ b o, b ≠ a.p → b ≠ a.ps → b ≠ a.pt → b ≠ a.pg → b ≠ kd → H b = some o → H' b = some o
inductive DueC (nm : Nm) (way : Int) (x : Str) (s : Int) : Str → Prop
  | taken : way = 0 → shOf nm x ≠ none → DueC nm way x s "taken"
  | cls : way ≠ 0 → shOf nm x = none → DueC nm way x s "class"
  | share : way < 2 → ¬ (1 ≤ s ∧ s ≤ 1000000) → (way = 0 → shOf nm x = none) → (way ≠ 0 → shOf nm x ≠ none) → DueC nm way x s "share"
  | done : (way < 2 → 1 ≤ s ∧ s ≤ 1000000) → (way = 0 → shOf nm x = none) → (way ≠ 0 → shOf nm x ≠ none) → DueC nm way x s "done"
theorem due_c (nm : Nm) (way : Int) (x : Str) (s : Int) : DueC nm way x s (dueF nm way x s) := by
  unfold dueF
  by_cases c1 : way = 0 ∧ shOf nm x ≠ none
  · rw [if_pos c1]; exact .taken c1.1 c1.2
  · rw [if_neg c1]
    have h0 : way = 0 → shOf nm x = none := fun z => Classical.byContradiction fun y => c1 ⟨z, y⟩
    by_cases c2 : way ≠ 0 ∧ shOf nm x = none
    · rw [if_pos c2]; exact .cls c2.1 c2.2
    · rw [if_neg c2]
      have h1 : way ≠ 0 → shOf nm x ≠ none := fun z y => c2 ⟨z, y⟩
      by_cases c3 : way < 2 ∧ ¬ (1 ≤ s ∧ s ≤ 1000000)
      · rw [if_pos c3]; exact .share c3.1 c3.2 h0 h1
      · rw [if_neg c3]
        exact .done (fun z => Classical.byContradiction fun y => c3 ⟨z, y⟩) h0 h1
def spDeed (cS cR cM : Addr) : Sp := fun vs H Q _ => ∃ (a : At5) (most : Int) (nm : Nm) (N : Nat) (kd : Addr) (way : Int) (x : Str) (s : Int), vs = [.ref a.p, .ref kd, .int way, .str x, .int s] ∧ Ch cS cR cM H a most nm N ∧ H kd = some (.dK (kvsOf nm)) ∧ Off a kd ∧ N < 800 ∧ nm.length < 80 ∧ Gnm nm ∧ 1 ≤ most ∧ most ≤ 1000000 ∧ 0 ≤ way ∧ way < 3 ∧ PyData.strOk x = true ∧
  ∀ nm' N' H', OwK a kd H H' → Ch cS cR cM H' a most nm' N' → N' ≤ N + 3 → H' kd = some (.dK (kvsOf nm')) → Gnm nm' → nm'.length ≤ nm.length + 1 → Q (.bl true) H'
theorem d__law_deed (T : Txt K mg c_WheelError c_Taken c_NoClass c_NoShare c_Members c_Chooser c_Starts c_Rounds) : Def P w K mg base (CXX P w) 8 "_law_deed" ["_law_one", "_law_known", "_law_way", "_law_name_here", "_law_share_here"] (spDeed c_Starts c_Rounds c_Members) := by
  have D__law_due := d__law_due (P := P) (w := w) (base := base) T
  have D__law_put := d__law_put (P := P) (w := w) (base := base) T
  have D__law_reshare := d__law_reshare (P := P) (w := w) (base := base) T
  have D__law_take := d__law_take (P := P) (w := w) (base := base) T
  refine T.src__law_deed.okN (k := 7) sc__law_deed (fun vs H Q E h => ?_) (fun f cdv A outer s H vs Q E hr h => ?_)
  · obtain ⟨a, most, nm, N, kd, way, x, s, rfl, _⟩ := h
    rfl
  · obtain ⟨a, most, nm, N, kd, way, x, s, rfl, C, hk, off, hN, nl, G, m0, m1, w0, w1, ok, k⟩ := h
    refine ⟨_, (pss_cons (ps_set (i := 5) sc__law_deed.nd rfl (by first | exact Or.inl rfl | exact Or.inr rfl) (pe_callX D__law_due (hr.mono (by decide)) rfl passN (pa_cons (pv 1) (pa_cons (pv 2) (pa_cons (pv 3) (pa_cons (pv 4) pa_nil)))))) (pss_cons (ps_if (PW.pt (pw_and (pt_cmpR op_eq (pv 2) pe_int (nomark _)) (pw_and1 (pt_cmpR op_ne (pe_callX D__law_put (hr.mono (by decide)) rfl passN (pa_cons (pv 0) (pa_cons (pv 3) (pa_cons (pv 4) pa_nil)))) (pv 5) (nomark _))))) (pss_one (ps_ret pe_bl)) pss_nil) (pss_cons (ps_if (PW.pt (pw_and (pt_cmpR op_eq (pv 2) pe_int (nomark _)) (pw_and1 (pt_cmpR op_ne (pe_callX D__law_reshare (hr.mono (by decide)) rfl passN (pa_cons (pv 0) (pa_cons (pv 3) (pa_cons (pv 4) pa_nil)))) (pv 5) (nomark _))))) (pss_one (ps_ret pe_bl)) pss_nil) (pss_cons (ps_if (PW.pt (pw_and (pt_cmpR op_eq (pv 2) pe_int (nomark _)) (pw_and1 (pt_cmpR op_ne (pe_callX D__law_take (hr.mono (by decide)) rfl passN (pa_cons (pv 0) (pa_cons (pv 3) pa_nil))) (pv 5) (nomark _))))) (pss_one (ps_ret pe_bl)) pss_nil) (pss_cons (ps_if (PW.pt (pw_and (pt_cmpR op_eq (pv 5) pe_str (nomark _)) (pw_and1 (pt_cmpR op_lt (pv 2) pe_int (nomark _))))) (pss_one (ps_dput (hu_of hr) (pv 1) (pv 3) (pv 4) rfl)) pss_nil) (pss_cons (ps_if (PW.pt (pw_and (pt_cmpR op_eq (pv 5) pe_str (nomark _)) (pw_and1 (pt_cmpR op_eq (pv 2) pe_int (nomark _))))) (pss_one (ps_expr (pe_dpop1 (pv 1) (pv 3) ⟨rfl, rfl, rfl, rfl⟩))) pss_nil) (pss_one (ps_ret pe_bl)))))))), ?_⟩
    show tSeq _ _ _ [some (.ref a.p), some (.ref kd), some (.int way), some (.str x), some (.int s), none] H
    refine seq_step fun R hR => ?_
    walk_at "rd"
    refine ⟨kd, nm, way, x, s, rfl, hk, hR _ _ ?_⟩
    clear hR
    have dc := due_c nm way x s
    generalize dueF nm way x s = due at dc ⊢
    refine seq_step fun R1 hR1 => ?_
    -- behind all three
    have a1 : (way = 0 → ∀ H1 N1, Own a H H1 → Ch c_Starts c_Rounds c_Members H1 a most (if due = "done" then opF nm way x s else nm) N1 → N1 ≤ N + 3 → R1 [some (.ref a.p), some (.ref kd), some (.int way), some (.str x), some (.int s), some (.str due)] H1) ∧ (way ≠ 0 → R1 [some (.ref a.p), some (.ref kd), some (.int way), some (.str x), some (.int s), some (.str due)] H) := by
      have go : ∀ H1, ((way = 0 ∧ ∃ N1, Own a H H1 ∧ Ch c_Starts c_Rounds c_Members H1 a most (if due = "done" then opF nm way x s else nm) N1 ∧ N1 ≤ N + 3) ∨ (way ≠ 0 ∧ H1 = H)) → R1 [some (.ref a.p), some (.ref kd), some (.int way), some (.str x), some (.int s), some (.str due)] H1 := by
        intro H1 h1
        refine hR1 _ _ ?_
        clear hR1
        refine seq_step fun R2 hR2 => ?_
        have a2 : ∀ H1, ((way < 2 ∧ ∃ N1, Own a H H1 ∧ Ch c_Starts c_Rounds c_Members H1 a most (if due = "done" then opF nm way x s else nm) N1 ∧ N1 ≤ N + 3) ∨ (way = 2 ∧ H1 = H)) → R2 [some (.ref a.p), some (.ref kd), some (.int way), some (.str x), some (.int s), some (.str due)] H1 := by
          intro H1 h1
          refine hR2 _ _ ?_
          clear hR2
          refine seq_step fun R3 hR3 => ?_
          have a3 : ∀ H1 N1, Own a H H1 → Ch c_Starts c_Rounds c_Members H1 a most (if due = "done" then opF nm way x s else nm) N1 → N1 ≤ N + 3 → R3 [some (.ref a.p), some (.ref kd), some (.int way), some (.str x), some (.int s), some (.str due)] H1 := by
            intro H1 N1 ow C1 hN1
            refine hR3 _ _ ?_
            clear hR3 h1
            have hk1 := own_off ow off hk
            have okw : OwK a kd H H1 := fun b o n1 n2 n3 n4 _ e => ow b o n1 n2 n3 n4 e
            refine seq_step fun R4 hR4 => ?_
            have up : ∀ (nm' : Nm), (if due = "done" then opF nm way x s else nm) = nm' → Gnm nm' → nm'.length ≤ nm.length + 1 → OwK a kd H (upd H1 kd (.dK (kvsOf nm'))) ∧ Ch c_Starts c_Rounds c_Members (upd H1 kd (.dK (kvsOf nm'))) a most nm' N1 := fun nm' e1 _ _ => by
              rw [e1] at C1
              exact ⟨fun b o n1 n2 n3 n4 n5 e => by rw [upd_ne n5]; exact ow b o n1 n2 n3 n4 e, C1.other off hk1 (by intro xs z; cases z)⟩
            by_cases dn : due = "done"
            · rw [if_pos dn] at C1 up
              subst dn
              cases dc with
              | done d1 d2 d3 =>
              by_cases w2 : way < 2
              · have hs := d1 w2
                have eo : opF nm way x s = if way = 0 then nm ++ [(x, s)] else putN nm x s := by
                  unfold opF
                  by_cases z : way = 0
                  · rw [if_pos z, if_pos z]
                  · rw [if_neg z, if_neg z, if_pos (show way = 1 by omega)]
                have gp : Gnm (opF nm way x s) ∧ (opF nm way x s).length ≤ nm.length + 1 ∧ putK (kvsOf nm) (Sum.inr x : Key) (.int s) = kvsOf (opF nm way x s) := by
                  rw [eo]
                  by_cases z : way = 0
                  · rw [if_pos z]
                    exact ⟨G.put (d2 z) hs.1 hs.2 ok, by simp, putN_new (d2 z)⟩
                  · rw [if_neg z]
                    exact ⟨G.resh hs.1 hs.2, by unfold putN; rw [List.length_map]; omega, putN_old (d3 z)⟩
                obtain ⟨g1, g2, g3⟩ := gp
                obtain ⟨u1, u2⟩ := up _ rfl g1 g2
                walk_at "rd"
                refine ite2 (fun _ => ?_) fun z => absurd w2 z
                have lk := kvsOf_len nm
                have dp := DPut.k (k := Sum.inr x) (v := .int s) hk1 (line_lt (by omega))
                rw [g3] at dp
                refine ⟨_, dp, hR4 _ _ ?_⟩
                clear hR4
                refine seq_step fun R5 hR5 => ?_
                walk_at "rd"
                refine ite2 (fun z => absurd z (by omega)) fun _ => hR5 _ _ ?_
                walk_at "rd"
                exact k _ N1 _ u1 u2 hN1 upd_same g1 g2
              · have w2' : way = 2 := by omega
                have eo : opF nm way x s = dropN nm x := by
                  unfold opF
                  rw [if_neg (by omega), if_neg (by omega)]
                have g1 : Gnm (opF nm way x s) := by rw [eo]; exact G.drop x
                have g2 : (opF nm way x s).length ≤ nm.length + 1 := by
                  rw [eo]
                  exact Nat.le_trans (List.length_filter_le _ _) (by omega)
                obtain ⟨u1, u2⟩ := up _ rfl g1 g2
                walk_at "rd"
                refine ite2 (fun z => absurd z w2) fun _ => hR4 _ _ ?_
                clear hR4
                refine seq_step fun R5 hR5 => ?_
                walk_at "rdc"
                refine ite2 (fun _ => ?_) fun z => absurd w2' z
                obtain ⟨v, hv⟩ : ∃ v, shOf nm x = some v := by
                  cases e : shOf nm x with
                  | none => exact absurd e (d3 (by omega))
                  | some v => exact ⟨v, rfl⟩
                rw [eo] at u1 u2 g1 g2
                refine ⟨.inl ⟨_, .inl hk1⟩, _, hk1, Sum.inr x, rfl, ⟨.int v, by rw [valV_of, hv]; rfl⟩, ?_⟩
                rw [dropK_of]
                refine hR5 _ _ ?_
                walk_at "rd"
                exact k _ N1 _ u1 u2 hN1 upd_same g1 g2
            · walk_at "rd"
              refine ite2 (fun z => absurd z dn) fun _ => hR4 _ _ ?_
              clear hR4
              rw [if_neg dn] at C1
              refine seq_step fun R5 hR5 => ?_
              walk_at "rd"
              refine ite2 (fun z => absurd z dn) fun _ => hR5 _ _ ?_
              walk_at "rd"
              exact k nm N1 H1 okw C1 hN1 hk1 G (by omega)
          clear hR3
          walk_at "rd"
          rcases h1 with ⟨w2, N1, o, c, l⟩ | ⟨w2, e1⟩
          · refine ite2 (fun z => absurd z (by omega)) fun _ => a3 H1 N1 o c l
          · subst e1
            refine ite2 (fun _ => ?_) fun z => absurd w2 z
            refine ⟨a, most, nm, N, x, rfl, C, nl, G.ok, fun hx H' sm => ?_, fun hx H' ow C' => ?_⟩
            · cases dc with
              | taken z _ => omega
              | cls _ _ => exact ⟨rfl, iteP rfl (a3 H' N sm.own (by rw [if_neg (by decide +kernel)]; exact C.same sm) (by omega))⟩
              | share z _ _ _ => omega
              | done _ _ z => exact absurd hx (z (by omega))
            · cases dc with
              | taken z _ => omega
              | cls _ z => exact absurd z hx
              | share z _ _ _ => omega
              | done _ _ z => exact ⟨rfl, iteP rfl (a3 H' N ow (by rw [if_pos rfl]; unfold opF; rw [if_neg (by omega), if_neg (by omega)]; exact C') (by omega))⟩
        clear hR2
        walk_at "rd"
        rcases h1 with ⟨w2, N1, o, c, l⟩ | ⟨w2, e1⟩
        · refine ite2 (fun z => absurd z (by omega)) fun _ => a2 H1 (.inl ⟨by omega, N1, o, c, l⟩)
        · subst e1
          refine ite2 (fun w3 => ?_) fun w3 => a2 H1 (.inr ⟨by omega, rfl⟩)
          refine ⟨a, most, nm, N, x, s, rfl, C, hN, nl, m0, m1, fun hx H' sm => ?_, fun hx hs H' sm => ?_, fun hx hs H' ow C' => ?_⟩
          · cases dc with
            | taken z _ => omega
            | cls _ _ => exact ⟨rfl, iteP rfl (a2 H' (.inl ⟨by omega, N, sm.own, by rw [if_neg (by decide +kernel)]; exact C.same sm, by omega⟩))⟩
            | share _ _ _ z => exact absurd hx (z w2)
            | done _ _ z => exact absurd hx (z w2)
          · cases dc with
            | taken z _ => omega
            | cls _ z => exact absurd z hx
            | share _ _ _ _ => exact ⟨rfl, iteP rfl (a2 H' (.inl ⟨by omega, N, sm.own, by rw [if_neg (by decide +kernel)]; exact C.same sm, by omega⟩))⟩
            | done z _ _ => exact absurd (z (by omega)) hs
          · cases dc with
            | taken z _ => omega
            | cls _ z => exact absurd z hx
            | share _ z _ _ => exact absurd hs z
            | done _ _ _ => exact ⟨rfl, iteP rfl (a2 H' (.inl ⟨by omega, N, ow, by rw [if_pos rfl]; unfold opF; rw [if_neg (by omega), if_pos w3]; exact C', by omega⟩))⟩
      exact ⟨fun z H1 N1 o c l => go H1 (.inl ⟨z, N1, o, c, l⟩), fun z => go H (.inr ⟨z, rfl⟩)⟩
    clear hR1
    walk_at "rd"
    refine ite2 (fun w3 => ?_) fun w3 => a1.2 w3
    have b1 := a1.1 w3
    refine ⟨a, most, nm, N, x, s, rfl, C, hN, nl, fun hx H' sm => ?_, fun hx hs H' sm => ?_, fun hx hs H' ow C' => ?_⟩
    · cases dc with
      | taken _ _ => exact ⟨rfl, iteP rfl (b1 H' N sm.own (by rw [if_neg (by decide +kernel)]; exact C.same sm) (by omega))⟩
      | cls z _ => exact absurd w3 z
      | share _ _ z _ => exact absurd (z w3) hx
      | done _ z _ => exact absurd (z w3) hx
    · cases dc with
      | taken _ z => exact absurd hx z
      | cls z _ => exact absurd w3 z
      | share _ _ _ _ => exact ⟨rfl, iteP rfl (b1 H' N sm.own (by rw [if_neg (by decide +kernel)]; exact C.same sm) (by omega))⟩
      | done z _ _ => exact absurd (z (by omega)) hs
    · cases dc with
      | taken _ z => exact absurd hx z
      | cls z _ => exact absurd w3 z
      | share _ z _ _ => exact absurd hs z
      | done _ _ _ => exact ⟨rfl, iteP rfl (b1 H' (N + 3) ow (by rw [if_pos rfl]; unfold opF; rw [if_pos w3]; exact C') (by omega))⟩
def spStrange (cS cR cM : Addr) : Sp := fun vs H Q _ => ∃ (a : At5) (most : Int) (nm : Nm) (N : Nat) (x : Str), vs = [.ref a.p, .str x] ∧ Ch cS cR cM H a most nm N ∧ shOf nm x = none ∧ ∀ H', Same H H' → Q (.bl true) H'
theorem d__law_strange (T : Txt K mg c_WheelError c_Taken c_NoClass c_NoShare c_Members c_Chooser c_Starts c_Rounds) : Def P w K mg base (CXX P w) 5 "_law_strange" ["_law_one", "_law_name_here"] (spStrange c_Starts c_Rounds c_Members) := by
  have M_Starts_share_of := m_Starts_share_of (P := P) (w := w) (base := base) T
  have M_Rounds_share_of := m_Rounds_share_of (P := P) (w := w) (base := base) T
  have M_Starts_part := m_Starts_part (P := P) (w := w) (base := base) T
  have M_Rounds_part := m_Rounds_part (P := P) (w := w) (base := base) T
  refine T.src__law_strange.okN (k := 4) sc__law_strange (fun vs H Q E h => ?_) (fun f cdv A outer s H vs Q E hr h => ?_)
  · obtain ⟨a, most, nm, N, x, rfl, _⟩ := h
    rfl
  · obtain ⟨a, most, nm, N, x, rfl, C, hx, k⟩ := h
    refine ⟨_, (pss_cons (ps_set (i := 2) sc__law_strange.nd rfl (by first | exact Or.inl rfl | exact Or.inr rfl) pe_str) (pss_cons (ps_try rfl rfl K rfl rfl rfl T.xc_NoClass rfl T.mg_NoClass (fun _ _ => (pss_one (ps_expr (pe_alt (pe_methX (dvs := []) M_Starts_share_of (by simp) T.cl_Starts (hr.mono (by decide)) passT (pv 0) (pa_cons (pv 1) pa_nil)) (pe_methX (dvs := []) M_Rounds_share_of (by simp) T.cl_Rounds (hr.mono (by decide)) passT (pv 0) (pa_cons (pv 1) pa_nil)))))) (fun _ => (pss_one (ps_set (i := 2) sc__law_strange.nd rfl (by first | exact Or.inl rfl | exact Or.inr rfl) (pe_op op_add_str (pv 2) pe_str))))) (pss_cons (ps_try rfl rfl K rfl rfl rfl T.xc_NoClass rfl T.mg_NoClass (fun _ _ => (pss_one (ps_expr (pe_alt (pe_methX (dvs := []) M_Starts_part (by simp) T.cl_Starts (hr.mono (by decide)) passT (pv 0) (pa_cons (pv 1) pa_nil)) (pe_methX (dvs := []) M_Rounds_part (by simp) T.cl_Rounds (hr.mono (by decide)) passT (pv 0) (pa_cons (pv 1) pa_nil)))))) (fun _ => (pss_one (ps_set (i := 2) sc__law_strange.nd rfl (by first | exact Or.inl rfl | exact Or.inr rfl) (pe_op op_add_str (pv 2) pe_str))))) (pss_one (ps_ret (pe_cmpR op_eq (pv 2) pe_str (nomark _))))))), ?_⟩
    show tSeq _ _ _ [some (.ref a.p), some (.str x), none] H
    refine seq_step fun R hR => ?_
    walk_at "rd"
    refine hR _ _ ?_
    clear hR
    refine seq_step fun R hR => ?_
    have post1 : ∀ (H' : Hp), Same H H' → R [some (.ref a.p), some (.str x), some (.str (Str.ofString "" ++ Str.ofString "share"))] H' := by
      intro H1 s1
      refine hR _ _ ?_
      clear hR
      have C := C.same s1
      refine seq_step fun R hR => ?_
      have post2 : ∀ (H' : Hp), Same H H' → R [some (.ref a.p), some (.str x), some (.str (Str.ofString "" ++ Str.ofString "share" ++ Str.ofString "part"))] H' := by
        intro H1 s1
        refine hR _ _ ?_
        clear hR
        walk_at "rd"
        exact k _ s1
      clear hR
      walk_at "rd"
      rcases C with ⟨tg, gs, ck, ch, S, tga⟩ | ⟨q, rs, tu, ch, S, ri⟩
      · refine .inl ?_
        walk_at "rd"
        obtain ⟨dx, fs, pr, hp, ft, hr'⟩ := S.ex
        refine meth_at hp (ft.no _ (by decide +kernel) (by decide +kernel) (by decide +kernel) (by decide +kernel) (by decide +kernel) (by decide +kernel)) ⟨a, most, nm, tg, gs, ck, ch, N, x, rfl, S, fun _ e he => ?_, fun s hs => by rw [hx] at hs; cases hs⟩
        refine ⟨e, rfl, c_NoClass, upd_same, T.sub_NoClass_NoClass, ?_⟩
        walk_at "rd"
        exact ⟨by decide +kernel, post2 _ (s1.trans (same_new he))⟩
      · refine .inr ?_
        walk_at "rd"
        refine S.meth (by decide +kernel) ⟨a, most, nm, q, rs, tu, ch, x, rfl, S, fun _ e he => ?_, fun s hs => by rw [hx] at hs; cases hs⟩
        refine ⟨e, rfl, c_NoClass, upd_same, T.sub_NoClass_NoClass, ?_⟩
        walk_at "rd"
        exact ⟨by decide +kernel, post2 _ (s1.trans (same_new he))⟩
    clear hR
    walk_at "rd"
    rcases C with ⟨tg, gs, ck, ch, S, tga⟩ | ⟨q, rs, tu, ch, S, ri⟩
    · refine .inl ?_
      walk_at "rd"
      obtain ⟨dx, fs, pr, hp, ft, hr'⟩ := S.ex
      refine meth_at hp (ft.no _ (by decide +kernel) (by decide +kernel) (by decide +kernel) (by decide +kernel) (by decide +kernel) (by decide +kernel)) ⟨a, most, nm, tg, gs, ck, ch, N, x, rfl, S, fun _ e he => ?_, fun s hs => by rw [hx] at hs; cases hs⟩
      refine ⟨e, rfl, c_NoClass, upd_same, T.sub_NoClass_NoClass, ?_⟩
      walk_at "rd"
      exact ⟨by decide +kernel, post1 _ (same_new he)⟩
    · refine .inr ?_
      walk_at "rd"
      refine S.meth (by decide +kernel) ⟨a, most, nm, q, rs, tu, ch, x, rfl, S, fun _ e he => ?_, fun s hs => by rw [hx] at hs; cases hs⟩
      refine ⟨e, rfl, c_NoClass, upd_same, T.sub_NoClass_NoClass, ?_⟩
      walk_at "rd"
      exact ⟨by decide +kernel, post1 _ (same_new he)⟩
def spChild (cS cR cM : Addr) : Sp := fun vs H Q _ => ∃ (a : At5) (most : Int) (nm : Nm) (N : Nat) (kd : Addr) (x : Str), vs = [.ref a.p, .ref kd, .str x] ∧ Ch cS cR cM H a most nm N ∧ H kd = some (.dK (kvsOf nm)) ∧ nm.length < 80 ∧ Gnm nm ∧ ∀ H', Same H H' → Q (.bl true) H'
theorem d__law_child (T : Txt K mg c_WheelError c_Taken c_NoClass c_NoShare c_Members c_Chooser c_Starts c_Rounds) : Def P w K mg base (CXX P w) 6 "_law_child" ["_law_one", "_law_known", "_law_name_here"] (spChild c_Starts c_Rounds c_Members) := by
  have M_Starts_share_of := m_Starts_share_of (P := P) (w := w) (base := base) T
  have M_Rounds_share_of := m_Rounds_share_of (P := P) (w := w) (base := base) T
  have M_Starts_part := m_Starts_part (P := P) (w := w) (base := base) T
  have M_Rounds_part := m_Rounds_part (P := P) (w := w) (base := base) T
  have D__law_strange := d__law_strange (P := P) (w := w) (base := base) T
  have D__law_shared := d__law_shared (P := P) (w := w) (base := base) T
  refine T.src__law_child.okN (k := 5) sc__law_child (fun vs H Q E h => ?_) (fun f cdv A outer s H vs Q E hr h => ?_)
  · obtain ⟨a, most, nm, N, kd, x, rfl, _⟩ := h
    rfl
  · obtain ⟨a, most, nm, N, kd, x, rfl, C, hk, nl, G, k⟩ := h
    refine ⟨_, (pss_cons (ps_if (pt_cmp (pc_dnotin (hu_of hr) (pv 2) (pv 1))) (pss_one (ps_ret (pe_callX D__law_strange (hr.mono (by decide)) rfl passN (pa_cons (pv 0) (pa_cons (pv 2) pa_nil))))) pss_nil) (pss_cons (ps_set (i := 3) sc__law_child.nd rfl (by first | exact Or.inl rfl | exact Or.inr rfl) (pe_alt (pe_methX (dvs := []) M_Starts_share_of (by simp) T.cl_Starts (hr.mono (by decide)) passN (pv 0) (pa_cons (pv 2) pa_nil)) (pe_methX (dvs := []) M_Rounds_share_of (by simp) T.cl_Rounds (hr.mono (by decide)) passN (pv 0) (pa_cons (pv 2) pa_nil)))) (pss_cons (ps_if (PW.pt (pw_or (pt_not (pt_val (pe_callB (call_isinstK K rfl) rfl T.no_isinstance boot_isinstance (pa_cons (pv 3) (pa_cons (pe_bltn (v := .ty "int") rfl T.no_int boot_int rfl) pa_nil))))) (pw_or (pt_val (pe_callB (call_isinstK K rfl) rfl T.no_isinstance boot_isinstance (pa_cons (pv 3) (pa_cons (pe_bltn (v := .ty "bool") rfl T.no_bool boot_bool rfl) pa_nil)))) (pw_or1 (pt_cmpR op_ne (pv 3) (pe_dget (hu_of hr) (pv 1) (pv 2) (fun _ _ => rfl)) (nomark _)))))) (pss_one (ps_ret pe_bl)) pss_nil) (pss_cons (ps_set (i := 4) sc__law_child.nd rfl (by first | exact Or.inl rfl | exact Or.inr rfl) (pe_alt (pe_methX (dvs := []) M_Starts_part (by simp) T.cl_Starts (hr.mono (by decide)) passN (pv 0) (pa_cons (pv 2) pa_nil)) (pe_methX (dvs := []) M_Rounds_part (by simp) T.cl_Rounds (hr.mono (by decide)) passN (pv 0) (pa_cons (pv 2) pa_nil)))) (pss_cons (ps_if (PW.pt (pw_or (pt_not (pt_val (pe_callB (call_isinstK K rfl) rfl T.no_isinstance boot_isinstance (pa_cons (pv 4) (pa_cons (pe_bltn (v := .ty "tuple") rfl T.no_tuple boot_tuple rfl) pa_nil))))) (pw_or1 (pt_cmpR op_ne (pe_callB (call_lenK K rfl) rfl T.no_len boot_len (pa_cons (pv 4) pa_nil)) pe_int (nomark _))))) (pss_one (ps_ret pe_bl)) pss_nil) (pss_cons (ps_for PassesOwn.never rfl (pi_tupK K rfl (pv 4)) (pg_name (i := 5) sc__law_child.nd rfl (by first | exact Or.inl rfl | exact Or.inr rfl)) (pss_one (ps_if (PW.pt (pw_or (pt_not (pt_val (pe_callB (call_isinstK K rfl) rfl T.no_isinstance boot_isinstance (pa_cons (pv 5) (pa_cons (pe_bltn (v := .ty "int") rfl T.no_int boot_int rfl) pa_nil))))) (pw_or (pt_val (pe_callB (call_isinstK K rfl) rfl T.no_isinstance boot_isinstance (pa_cons (pv 5) (pa_cons (pe_bltn (v := .ty "bool") rfl T.no_bool boot_bool rfl) pa_nil)))) (pw_or1 (pt_cmpR op_lt (pv 5) pe_int (nomark _)))))) (pss_one (ps_ret pe_bl)) pss_nil))) (pss_one (ps_ret (pe_and (pe_cmpR op_eq (pe_callX D__law_shared (hr.mono (by decide)) rfl passN (pa_cons (pe_ix (ix_tupK K rfl) (pv 4) pe_int (fun _ _ => rfl)) (pa_cons (pe_ix (ix_tupK K rfl) (pv 4) pe_int (fun _ _ => rfl)) pa_nil))) pe_int (nomark _)) (pe_one (pe_cmpR op_eq (pe_op op_mulL (pe_ix (ix_tupK K rfl) (pv 4) pe_int (fun _ _ => rfl)) (pe_sumV rfl (pv 1) rfl T.no_sum)) (pe_op op_mulL (pe_ix (ix_tupK K rfl) (pv 4) pe_int (fun _ _ => rfl)) (pv 3)) (nomark _)))))))))))), ?_⟩
    show tSeq _ _ _ [some (.ref a.p), some (.ref kd), some (.str x), none, none, none] H
    have hg := DGet.k (k := Sum.inr x) hk
    rw [valV_of] at hg
    have hg : DGet H kd (V.str x) (Option.map V.int (shOf nm x)) := hg
    refine seq_step fun R hR => ?_
    walk_at "rd"
    refine ⟨_, hg, ?_⟩
    cases hx : shOf nm x with
    | none =>
      refine iteP rfl ?_
      exact ⟨a, most, nm, N, x, rfl, C, hx, k⟩
    | some s =>
      have al : 0 < allS nm ∧ allS nm < 1000000000000 := by
        have b := allS_bd G.mem
        have l : nm ≠ [] := fun z => by rw [z] at hx; cases hx
        have := List.length_pos_iff.mpr l
        omega
      have hs := G.sh x s hx
      refine ite2 (fun z => by cases z) fun _ => hR _ _ ?_
      clear hR
      have C0 := C
      refine seq_step fun R hR => ?_
      have p1 : R [some (.ref a.p), some (.ref kd), some (.str x), some (.int s), none, none] H := by
        refine hR _ _ ?_
        clear hR
        refine seq_step fun R hR => ?_
        walk_at "rd"
        rw [hx] at hg
        refine ⟨_, _, _, _, true, rfl, rfl, .int s, kit_int_int, ?_⟩
        walk_at "rd"
        refine ⟨_, _, _, _, false, rfl, rfl, .int s, kit_int_bool, ?_⟩
        walk_at "rd"
        refine ⟨_, hg, rfl, ?_⟩
        refine iteP rfl (hR _ _ ?_)
        clear hR
        refine seq_step fun R hR => ?_
        have p2 : ∀ q, H q = none → 0 < allS nm → allS nm < 1000000000000 → R [some (.ref a.p), some (.ref kd), some (.str x), some (.int s), some (.ref q), none] (upd H q (.tup (fq ((s : Rat) / (allS nm : Rat))))) := by
          intro q hq a0 a1
          refine hR _ _ ?_
          clear hR
          have sm := same_new (o := .tup (fq ((s : Rat) / (allS nm : Rat)))) hq
          have hq1 : upd H q (.tup (fq ((s : Rat) / (allS nm : Rat)))) q = some (.tup (fq ((s : Rat) / (allS nm : Rat)))) := upd_same
          generalize upd H q (.tup (fq ((s : Rat) / (allS nm : Rat)))) = H1 at sm hq1 ⊢
          have cr := Sw.q_cross (q := (s : Rat) / (allS nm : Rat)) (by omega) rfl
          have zq : Sw.SzQ 70 ((s : Rat) / (allS nm : Rat)) := .of (by omega) rfl (Sw.Sz.r18 (by omega) (by omega)) (Sw.Sz.r18 (by omega) (by omega))
          generalize (s : Rat) / (allS nm : Rat) = r at cr hq1 zq
          have d0 := Sw.q_den_pos r
          have n0 : 0 < r.num := by
            have e1 : 0 < (r.den : Int) * s := Int.mul_pos d0 (by omega)
            rw [← cr] at e1
            exact Int.pos_of_mul_pos_left e1 (by omega)
          have hT : SqT K H1 q (fq r) := .of hq1
          refine seq_step fun R hR => ?_
          walk_at "rd"
          refine ⟨_, _, _, _, true, rfl, rfl, .tup hq1, kit_tuple, ?_⟩
          walk_at "rd"
          refine lenT_at hT ⟨rfl, ?_⟩
          rw [if_pos (show (V.int ((fq r).length : Nat) : V) = V.int 2 from rfl)]
          refine hR _ _ ?_
          clear hR
          refine seq_step fun R hR => ?_
          refine for_step fun Z hZ => ?_
          walk_at "rd"
          refine ⟨⟨_, hT⟩, hZ _ _ ?_⟩
          refine for_tup (K := K) (a := q) (xs := fq r) (fun i σ H' => H' = H1 ∧ ∃ v1, σ = [some (.ref a.p), some (.ref kd), some (.str x), some (.int s), some (.ref q), v1]) ⟨rfl, none, rfl⟩ (fun i σ H' _ ⟨e, _⟩ => by rw [e]; exact hT) ?_ ?_
          · rintro i y σ H' hy ⟨rfl, v1, rfl⟩
            obtain ⟨n, hn, rfl⟩ : ∃ n : Int, 1 ≤ n ∧ y = V.int n := by
              have := List.mem_of_getElem? hy
              unfold fq at this
              simp at this
              rcases this with z | z
              · exact ⟨_, n0, z⟩
              · exact ⟨_, by omega, z⟩
            show tIfS _ _ _ _ [some (.ref a.p), some (.ref kd), some (.str x), some (.int s), some (.ref q), some (.int n)] _
            refine nx_step fun R hR => ?_
            walk_at "rd"
            refine ⟨_, _, _, _, true, rfl, rfl, .int n, kit_int_int, ?_⟩
            walk_at "rd"
            refine ⟨_, _, _, _, false, rfl, rfl, .int n, kit_int_bool, ?_⟩
            walk_at "rd"
            rw [if_neg (by omega)]
            exact hR _ _ ⟨rfl, _, rfl⟩
          · rintro σ H' ⟨rfl, v1, rfl⟩
            refine hR _ _ ?_
            walk_at "rd"
            refine ixT_at hT (v := .int r.num) rfl ?_
            refine ixT_at hT (v := .int (r.den : Int)) rfl ?_
            walk_at "rd"
            refine ⟨_, _, rfl, by omega, by omega, ?_⟩
            rw [Sw.q_low r]
            walk_at "rd"
            unfold tSumV
            walk_at "rd"
            refine ixT_at hT (v := .int r.num) rfl ?_
            have zA : Sw.Sz 70 (allS nm) := Sw.Sz.r18 (by omega) (by omega)
            have zs : Sw.Sz 70 s := Sw.Sz.r18 (by omega) (by omega)
            refine ⟨kvsOf nm, sm _ _ hk, nm.map (·.2), by unfold L2.kvsOf; rw [List.map_map, List.map_map]; rfl, _, rfl, ?_, ?_⟩
            · exact ⟨zq.n.mono (by decide), zA.mono (by decide)⟩
            · refine ixT_at hT (v := .int (r.den : Int)) rfl ⟨_, rfl, ?_, ?_⟩
              · exact ⟨zq.d.mono (by decide), zs.mono (by decide)⟩
              · have cr : r.num * (nm.map (·.2)).sum = (r.den : Int) * s := cr
                rw [decide_eq_true cr]
                exact k _ sm
        clear hR
        walk_at "rd"
        rcases C with ⟨tg, gs, ck, ch, S, tga⟩ | ⟨q, rs, tu, ch, S, ri⟩
        · refine .inl ?_
          walk_at "rd"
          obtain ⟨dx, fs, pr, hp, ft, hr'⟩ := S.ex
          refine meth_at hp (ft.no _ (by decide +kernel) (by decide +kernel) (by decide +kernel) (by decide +kernel) (by decide +kernel) (by decide +kernel)) ⟨a, most, nm, tg, gs, ck, ch, N, x, rfl, S, fun z => absurd (hx ▸ z) (by simp), fun s' hs => ?_⟩
          rw [hx] at hs
          cases hs
          exact ⟨al.1, al.2, fun q hq => p2 q hq al.1 al.2⟩
        · refine .inr ?_
          walk_at "rd"
          refine S.meth (by decide +kernel) ⟨a, most, nm, q, rs, tu, ch, x, rfl, S, fun z => absurd (hx ▸ z) (by simp), fun s' hs => ?_⟩
          rw [hx] at hs
          cases hs
          exact ⟨al.1, al.2, fun q hq => p2 q hq al.1 al.2⟩
      clear hR
      walk_at "rd"
      rcases C with ⟨tg, gs, ck, ch, S, tga⟩ | ⟨q, rs, tu, ch, S, ri⟩
      · refine .inl ?_
        walk_at "rd"
        obtain ⟨dx, fs, pr, hp, ft, hr'⟩ := S.ex
        refine meth_at hp (ft.no _ (by decide +kernel) (by decide +kernel) (by decide +kernel) (by decide +kernel) (by decide +kernel) (by decide +kernel)) ⟨a, most, nm, tg, gs, ck, ch, N, x, rfl, S, fun z => absurd (hx ▸ z) (by simp), fun s' hs => ?_⟩
        rw [hx] at hs
        cases hs
        exact p1
      · refine .inr ?_
        walk_at "rd"
        refine S.meth (by decide +kernel) ⟨a, most, nm, q, rs, tu, ch, x, rfl, S, fun z => absurd (hx ▸ z) (by simp), fun s' hs => ?_⟩
        rw [hx] at hs
        cases hs
        exact p1
theorem shaped_strs (l : List Str) (h : ∀ x ∈ l, PyData.strOk x = true) : PySem.SeqAt.shaped (.list (l.map PyData.str)) = true := by
  have c : PyData.canLayAll0 (l.map PyData.str) = true := by
    induction l with
    | nil => rfl
    | cons x r ih =>
      simp only [List.map_cons, PyData.canLayAll0, PyData.canLay0, Bool.and_eq_true]
      exact ⟨h x (by simp), ih fun y hy => h y (List.mem_cons_of_mem _ hy)⟩
  have d := depth_all (f := PyData.str) (n := 0) (fun _ => by simp [PyData.depth]) l
  unfold PySem.SeqAt.shaped
  rw [Bool.and_eq_true, decide_eq_true_eq]
  refine ⟨by simpa only [PyData.canLay0] using c, ?_⟩
  simp only [PyData.depth]
  omega
theorem kt_all {K : PySem.W.Frag} (l : List Str) (H : Hp) (p : Addr) (h : H p = some (.lst (l.map V.str))) : Deep K H (.ref p) (.list (l.map PyData.str)) := .lst (.of h) (strs_deep l)
theorem nmV_eq (nm : Nm) : nmV nm = (nm.map (·.1)).map V.str := by unfold nmV; rw [List.map_map]; rfl
theorem kvs_keys (nm : Nm) : (kvsOf nm).map (fun kv => kV kv.1) = (nm.map (·.1)).map V.str := by unfold L2.kvsOf; rw [List.map_map, List.map_map]; rfl
def spTold (cS cR cM : Addr) : Sp := fun vs H Q _ => ∃ (a : At5) (most : Int) (nm : Nm) (N : Nat) (kd pl : Addr) (xs : List Str), vs = [.ref a.p, .ref kd, .ref pl] ∧ Ch cS cR cM H a most nm N ∧ H kd = some (.dK (kvsOf nm)) ∧ H pl = some (.lst (xs.map V.str)) ∧ nm.length < 80 ∧ xs.length < 80 ∧ Gnm nm ∧ ∀ H', Same H H' → Q (.bl true) H'
theorem d__law_told (T : Txt K mg c_WheelError c_Taken c_NoClass c_NoShare c_Members c_Chooser c_Starts c_Rounds) : Def P w K mg base (CXX P w) 7 "_law_told" ["_law_one", "_law_known", "_law_pool"] (spTold c_Starts c_Rounds c_Members) := by
  have M_Starts_names := m_Starts_names (P := P) (w := w) (base := base) T
  have M_Rounds_names := m_Rounds_names (P := P) (w := w) (base := base) T
  have D__law_child := d__law_child (P := P) (w := w) (base := base) T
  refine T.src__law_told.okN (k := 6) sc__law_told (fun vs H Q E h => ?_) (fun f cdv A outer s H vs Q E hr h => ?_)
  · obtain ⟨a, most, nm, N, kd, pl, xs, rfl, _⟩ := h
    rfl
  · obtain ⟨a, most, nm, N, kd, pl, xs, rfl, C, hk, hpl, nl, xl, G, k⟩ := h
    refine ⟨_, (pss_cons (ps_set (i := 3) sc__law_told.nd rfl (by first | exact Or.inl rfl | exact Or.inr rfl) (pe_alt (pe_methX0 (dvs := []) M_Starts_names (by simp) T.cl_Starts (hr.mono (by decide)) passN (pv 0)) (pe_methX0 (dvs := []) M_Rounds_names (by simp) T.cl_Rounds (hr.mono (by decide)) passN (pv 0)))) (pss_cons (ps_if (PW.pt (pw_or (pt_not (pt_val (pe_callB (call_isinstK K rfl) rfl T.no_isinstance boot_isinstance (pa_cons (pv 3) (pa_cons (pe_bltn (v := .ty "list") rfl T.no_list boot_list rfl) pa_nil))))) (pw_or1 (pt_cmpR (op_neDK K rfl hr.units) (pv 3) (pe_callTy (call_listD rfl) rfl T.no_list boot_list (pa_cons (pv 1) pa_nil)) (nomark _))))) (pss_one (ps_ret pe_bl)) pss_nil) (pss_cons (ps_expr (pe_bm0 PySem.F.plainAttrs_list PySem.F.slot_list_reverse PySem.F.type_list_reverse mt_reverse (pv 3))) (pss_cons (ps_expr (pe_bm PySem.F.plainAttrs_list PySem.F.slot_list_append PySem.F.type_list_append mt_append (pv 3) (pa_cons pe_str pa_nil))) (pss_cons (ps_if (pt_cmpR (op_neDK K rfl hr.units) (pe_alt (pe_methX0 (dvs := []) M_Starts_names (by simp) T.cl_Starts (hr.mono (by decide)) passN (pv 0)) (pe_methX0 (dvs := []) M_Rounds_names (by simp) T.cl_Rounds (hr.mono (by decide)) passN (pv 0))) (pe_callTy (call_listD rfl) rfl T.no_list boot_list (pa_cons (pv 1) pa_nil)) (nomark _)) (pss_one (ps_ret pe_bl)) pss_nil) (pss_one (ps_ret (pe_callB (call_allK K rfl rfl) rfl T.no_all boot_all (pa_cons (pe_lc ["_law_name_here"] [("_law_one", 0), ("_law_known", 1)] rfl (by with_unfolding_all rfl) (by decide +kernel) rfl (by decide +kernel) (by exact ⟨rfl, ⟨rfl, True.intro⟩⟩) (by with_unfolding_all rfl) ⟨⟨rfl, rfl, rfl⟩, ⟨⟨rfl, rfl, rfl⟩, True.intro⟩⟩ (pi_listK K rfl (pv 2)) (fun _ _ _ => (pg_name (i := 0) (show (["_law_name_here", "_law_one", "_law_known"] : List Str).Nodup from by decide +kernel) rfl (by first | exact Or.inl rfl | exact Or.inr rfl))) (fun _ _ _ => pifs_nil) (fun _ _ _ => (pe_callX D__law_child (hr.mono (by decide)) rfl passN (pa_cons (pv 1) (pa_cons (pv 2) (pa_cons (pv 0) pa_nil)))))) pa_nil))))))))), ?_⟩
    show tSeq _ _ _ [some (.ref a.p), some (.ref kd), some (.ref pl), none] H
    refine seq_step fun R hR => ?_
    have p1 : ∀ l, H l = none → R [some (.ref a.p), some (.ref kd), some (.ref pl), some (.ref l)] (upd H l (.lst (nmV nm))) := by
      intro l hl
      refine hR _ _ ?_
      clear hR
      refine seq_step fun R hR => ?_
      have hl1 : upd H l (.lst (nmV nm)) l = some (.lst ((nm.map (·.1)).map V.str)) := by rw [upd_same, nmV_eq]
      have s1 := same_new (o := .lst (nmV nm)) hl
      generalize upd H l (.lst (nmV nm)) = H1 at s1 hl1 ⊢
      have okl : ∀ y ∈ nm.map (·.1), PyData.strOk y = true := G.ok
      walk_at "rd"
      refine ⟨_, _, _, _, true, rfl, rfl, .lst hl1, kit_list, ?_⟩
      walk_at "rd"
      refine ⟨kd, _, rfl, s1 _ _ hk, fun m fm => ?_⟩
      rw [kvs_keys]
      have s2 := same_new (o := .lst ((nm.map (·.1)).map V.str)) fm
      refine ne_same (kt_all _ _ l (s2 _ _ hl1)) (kt_all _ _ m upd_same) (shaped_strs _ okl) ⟨_, rfl, ?_⟩
      refine ite2 (fun z => by cases z) fun _ => hR _ _ ?_
      clear hR
      have hl2 := s2 _ _ hl1
      have s2 := s1.trans s2
      generalize upd H1 m (.lst ((nm.map (·.1)).map V.str)) = H2 at s2 hl2 ⊢
      clear hl1 s1 fm
      refine seq_step fun R hR => ?_
      walk_at "rd"
      refine ⟨tyL_at hl2, l, _, rfl, rfl, hl2, hR _ _ ?_⟩
      clear hR
      have lr : ((nm.map (·.1)).map V.str).reverse.length = nm.length := by rw [List.length_reverse, List.length_map, List.length_map]
      generalize ((nm.map (·.1)).map V.str).reverse = ys at lr ⊢
      have s3 : Same H (upd H2 l (.lst ys)) := fun b o e => by rw [upd_ne (ne_of_none e hl)]; exact s2 _ _ e
      have hl3 : upd H2 l (.lst ys) l = some (.lst ys) := upd_same
      generalize upd H2 l (.lst ys) = H3 at s3 hl3 ⊢
      clear hl2 s2
      refine seq_step fun R hR => ?_
      walk_at "rd"
      refine ⟨tyL_at hl3, app_at hl3 (by rw [lr]; omega) (hR _ _ ?_)⟩
      clear hR
      generalize ys ++ [V.str (Str.ofString "zz")] = zs
      have s4 : Same H (upd H3 l (.lst zs)) := fun b o e => by rw [upd_ne (ne_of_none e hl)]; exact s3 _ _ e
      generalize upd H3 l (.lst zs) = H4 at s4 ⊢
      clear hl3 s3 lr
      have C4 := C.same s4
      refine seq_step fun R hR => ?_
      have p2 : ∀ l2, H4 l2 = none → rLstD [V.ref kd] (upd H4 l2 (.lst (nmV nm))) fun y H2 => rNeD K (V.ref l2) y H2 fun x H' => ∃ k, x = V.bl k ∧ if k = true then Q (V.bl false) H' else R [some (V.ref a.p), some (V.ref kd), some (V.ref pl), some (V.ref l)] H' := by
        intro l2 hl2
        have hl1 : upd H4 l2 (.lst (nmV nm)) l2 = some (.lst ((nm.map (·.1)).map V.str)) := by rw [upd_same, nmV_eq]
        have s5 := s4.trans (same_new (o := .lst (nmV nm)) hl2)
        generalize upd H4 l2 (.lst (nmV nm)) = H5 at s5 hl1 ⊢
        refine ⟨kd, _, rfl, s5 _ _ hk, fun m fm => ?_⟩
        rw [kvs_keys]
        have s2 := same_new (o := .lst ((nm.map (·.1)).map V.str)) fm
        refine ne_same (kt_all _ _ l2 (s2 _ _ hl1)) (kt_all _ _ m upd_same) (shaped_strs _ okl) ⟨_, rfl, ?_⟩
        refine ite2 (fun z => by cases z) fun _ => hR _ _ ?_
        clear hR
        have s6 := s5.trans s2
        generalize upd H5 m (.lst ((nm.map (·.1)).map V.str)) = H6 at s6 ⊢
        clear s2 s5 fm hl1
        walk_at "rd"
        refine ⟨⟨_, .of (s6 _ _ hpl)⟩, fun D hD => ?_⟩
        show CompG _ _ _ _ D [none, some (.ref a.p), some (.ref kd)] _ _
        refine comp_walk (xs := xs.map V.str) (fun m τ H' => (∃ v1, τ = [v1, some (.ref a.p), some (.ref kd)]) ∧ Same H6 H' ∧ H' D = some (.lst ((List.replicate m true).map V.bl))) ⟨⟨none, rfl⟩, same_new hD, upd_same⟩ (fun m τ H' _ ⟨_, s', _⟩ => .of (s' _ _ (s6 _ _ hpl))) ?_ ?_
        · rintro m y τ H' hy ⟨⟨v1, rfl⟩, s', hDl⟩
          obtain ⟨n, hn, rfl⟩ : ∃ n, xs[m]? = some n ∧ V.str n = y := by
            rw [List.getElem?_map] at hy
            cases e : xs[m]? with
            | none => rw [e] at hy; cases hy
            | some n => rw [e] at hy; exact ⟨n, rfl, Option.some.inj hy⟩
          have hm : m < xs.length := (List.getElem?_eq_some_iff.mp hn).1
          walk_at "rd"
          unfold tYes
          walk_at "rd"
          have s7 := s6.trans s'
          refine ⟨a, most, nm, N, kd, n, rfl, C.same s7, s7 _ _ hk, nl, G, fun H7 s8 => ⟨_, s8 _ _ hDl, line_lt (by rw [List.length_map, List.length_replicate]; omega), fun b o e => ?_, ?_⟩⟩
          · rw [upd_ne (ne_of_none e hD)]; exact s8 _ _ (s' _ _ e)
          · rw [upd_same, List.replicate_succ', List.map_append]; rfl
        · rintro τ H' ⟨_, s', hDl⟩
          refine ⟨D, _, rfl, .of hDl, ?_⟩
          rw [show (List.replicate (xs.map V.str).length true).all id = true from by rw [List.all_replicate]; simp]
          exact k _ (s6.trans s')
      clear hR
      walk_at "rd"
      rcases C4 with ⟨tg, gs, ck, ch, S, tga⟩ | ⟨q, rs, tu, ch, S, ri⟩
      · refine .inl ?_
        walk_at "rd"
        obtain ⟨dx, fs, pr, hp, ft, hr'⟩ := S.ex
        exact meth_at hp (ft.no _ (by decide +kernel) (by decide +kernel) (by decide +kernel) (by decide +kernel) (by decide +kernel) (by decide +kernel)) ⟨a, most, nm, tg, gs, ck, ch, N, rfl, S, p2⟩
      · refine .inr ?_
        walk_at "rd"
        exact S.meth (by decide +kernel) ⟨a, most, nm, q, rs, tu, ch, rfl, S, p2⟩
    clear hR
    walk_at "rd"
    rcases C with ⟨tg, gs, ck, ch, S, tga⟩ | ⟨q, rs, tu, ch, S, ri⟩
    · refine .inl ?_
      walk_at "rd"
      obtain ⟨dx, fs, pr, hp, ft, hr'⟩ := S.ex
      exact meth_at hp (ft.no _ (by decide +kernel) (by decide +kernel) (by decide +kernel) (by decide +kernel) (by decide +kernel) (by decide +kernel)) ⟨a, most, nm, tg, gs, ck, ch, N, rfl, S, p1⟩
    · refine .inr ?_
      walk_at "rd"
      exact S.meth (by decide +kernel) ⟨a, most, nm, q, rs, tu, ch, rfl, S, p1⟩
def mostF (c : Int) : Int := if c / 2 % 4 = 0 then 1 else if c / 2 % 4 = 1 then 7 else if c / 2 % 4 = 2 then 1000000 else 1 + c / 8 % 1000000
theorem mostF_bd (c : Int) : 1 ≤ mostF c ∧ mostF c ≤ 1000000 := by
  unfold mostF
  have e0 := Int.emod_nonneg (c / 8) (show (1000000 : Int) ≠ 0 by decide)
  have e1 := Int.emod_lt_of_pos (c / 8) (show (0 : Int) < 1000000 by decide)
  split
  · omega
  · split
    · omega
    · split <;> omega
def spMost : Sp := fun vs H Q _ => ∃ c : Int, vs = [.int c] ∧ ∀ H', Same H H' → Q (.int (mostF c)) H'
theorem d__law_most (T : Txt K mg c_WheelError c_Taken c_NoClass c_NoShare c_Members c_Chooser c_Starts c_Rounds) : Def P w K mg base (CXX P w) 1 "_law_most" ["_law_cell"] spMost := by
  refine T.src__law_most.okN (k := 0) sc__law_most (fun vs H Q E h => ?_) (fun f cdv A outer s H vs Q E hr h => ?_)
  · obtain ⟨c, rfl, _⟩ := h
    rfl
  · obtain ⟨c, rfl, k⟩ := h
    refine ⟨_, (pss_one (ps_ret (pe_ix (ix_listK K rfl) (pe_lst (pa_cons pe_int (pa_cons pe_int (pa_cons (pe_op op_pow pe_int pe_int) (pa_cons (pe_op op_add pe_int (pe_op op_mod (pe_op op_fdivL (pv 0) pe_int) (pe_op op_pow pe_int pe_int))) pa_nil))))) (pe_op op_mod (pe_op op_fdivL (pv 0) pe_int) pe_int) (fun _ _ => rfl)))), ?_⟩
    show tRet _ _ [some (.int c)] H
    walk_at "rd"
    intro p fp
    have w0 := Int.emod_nonneg (c / 2) (show (4 : Int) ≠ 0 by decide)
    have w1 := Int.emod_lt_of_pos (c / 2) (show (0 : Int) < 4 by decide)
    refine pickZ [1, 7, 1000000, 1 + c / 8 % 1000000] (by omega) (by show c / 2 % 4 < 4; omega) fun z hz => ?_
    have : z = mostF c := by
      unfold mostF
      have : c / 2 % 4 = 0 ∨ c / 2 % 4 = 1 ∨ c / 2 % 4 = 2 ∨ c / 2 % 4 = 3 := by omega
      rcases this with e | e | e | e <;> (rw [e] at hz ⊢; simpa using hz.symm)
    rw [this]
    exact k _ (same_new fp)
theorem Ch.ins {cS cR cM : Addr} {H : Hp} {a : At5} {most : Int} {nm : Nm} {N : Nat} (h : Ch cS cR cM H a most nm N) : ∃ C dx fs, (C = cS ∨ C = cR) ∧ H a.p = some (.ins C dx fs) := by
  rcases h with ⟨tg, gs, ck, ch, S, t⟩ | ⟨q, rs, tu, ch, S, r⟩
  · obtain ⟨dx, fs, pr, h1, _⟩ := S.ex
    exact ⟨_, _, _, .inl rfl, h1⟩
  · obtain ⟨dx, fs, h1, _⟩ := S.ex
    exact ⟨_, _, _, .inr rfl, h1⟩
def New (a : At5) (H : Hp) : Prop := H a.p = none ∧ H a.pm = none ∧ H a.ps = none ∧ H a.pt = none ∧ H a.pg = none
def spChooser (cS cR cM : Addr) : Sp := fun vs H Q _ => ∃ (c m : Int), vs = [.int c, .int m] ∧ 1 ≤ m ∧ ∀ (a : At5) H', Same H H' → New a H → Ch cS cR cM H' a m [] 0 → Q (.ref a.p) H'
theorem d__law_chooser (T : Txt K mg c_WheelError c_Taken c_NoClass c_NoShare c_Members c_Chooser c_Starts c_Rounds) : Def P w K mg base (CXX P w) 6 "_law_chooser" ["_law_cell", "_law_most_here"] (spChooser c_Starts c_Rounds c_Members) := by
  have K_Starts := k_Starts (P := P) (w := w) (base := base) T
  have K_Rounds := k_Rounds (P := P) (w := w) (base := base) T
  refine T.src__law_chooser.okN (k := 5) sc__law_chooser (fun vs H Q E h => ?_) (fun f cdv A outer s H vs Q E hr h => ?_)
  · obtain ⟨c, m, rfl, _⟩ := h
    rfl
  · obtain ⟨c, m, rfl, m1, k⟩ := h
    refine ⟨_, (pss_cons (ps_if (pt_cmpR op_eq (pe_op op_mod (pv 0) pe_int) pe_int (nomark _)) (pss_one (ps_ret (pe_makeX (dvs := []) K_Starts (by simp) (hr.mono (by decide)) passN rfl T.mg_Starts (pa_cons (pv 1) pa_nil)))) pss_nil) (pss_one (ps_ret (pe_makeX (dvs := []) K_Rounds (by simp) (hr.mono (by decide)) passN rfl T.mg_Rounds (pa_cons (pv 1) pa_nil))))), ?_⟩
    show tSeq _ _ _ [some (.int c), some (.int m)] H
    refine seq_step fun R hR => ?_
    walk_at "rd"
    have no : ∀ {H1 : Hp} {b : Addr}, Same H H1 → H1 b = none → H b = none := fun {H1 b} s e => by
      cases z : H b with
      | none => rfl
      | some o => rw [s _ _ z] at e; cases e
    refine ite2 (fun _ => ?_) fun _ => hR _ _ ?_
    · intro x dx hx hdx ne
      refine ⟨x, dx, m, rfl, upd_same, fun a H2 ea bt n1 n2 n3 n4 S => ⟨rfl, ?_⟩⟩
      subst ea
      exact k a H2 (bt.same (same_make hx hdx) hx) ⟨hx, no (same_make hx hdx) n1, no (same_make hx hdx) n2, no (same_make hx hdx) n3, no (same_make hx hdx) n4⟩ (.inl ⟨_, _, _, _, S, fun y hy => absurd rfl hy⟩)
    · walk_at "rd"
      intro x dx hx hdx ne
      refine ⟨x, dx, m, rfl, upd_same, fun a H2 ea bt n1 n2 n3 n4 S => ⟨rfl, ?_⟩⟩
      subst ea
      exact k a H2 (bt.same (same_make hx hdx) hx) ⟨hx, no (same_make hx hdx) n1, no (same_make hx hdx) n2, no (same_make hx hdx) n3, no (same_make hx hdx) n4⟩ (.inr ⟨_, _, _, _, S, .nil m1⟩)
local macro_rules | `(tactic| walk_at "rdc") => `(tactic| (walk_at "rd"; (try simp only [L2.tDPop1, L2.tClsX]); walk_at "rd"))
def Offs (b a : At5) : Prop := Off b a.p ∧ Off b a.pm ∧ Off b a.ps ∧ Off b a.pt ∧ Off b a.pg
theorem offs_new {a b : At5} {H : Hp} (h : New b H) (g : H a.p ≠ none ∧ H a.pm ≠ none ∧ H a.ps ≠ none ∧ H a.pt ≠ none ∧ H a.pg ≠ none) : Offs b a ∧ Offs a b := by
  obtain ⟨h1, h2, h3, h4, h5⟩ := h
  obtain ⟨g1, g2, g3, g4, g5⟩ := g
  have ne : ∀ {x y : Addr}, H x = none → H y ≠ none → x ≠ y := fun h g e => g (e ▸ h)
  exact ⟨⟨⟨(ne h1 g1).symm, (ne h2 g1).symm, (ne h3 g1).symm, (ne h4 g1).symm, (ne h5 g1).symm⟩, ⟨(ne h1 g2).symm, (ne h2 g2).symm, (ne h3 g2).symm, (ne h4 g2).symm, (ne h5 g2).symm⟩, ⟨(ne h1 g3).symm, (ne h2 g3).symm, (ne h3 g3).symm, (ne h4 g3).symm, (ne h5 g3).symm⟩, ⟨(ne h1 g4).symm, (ne h2 g4).symm, (ne h3 g4).symm, (ne h4 g4).symm, (ne h5 g4).symm⟩, ⟨(ne h1 g5).symm, (ne h2 g5).symm, (ne h3 g5).symm, (ne h4 g5).symm, (ne h5 g5).symm⟩⟩,
    ⟨⟨ne h1 g1, ne h1 g2, ne h1 g3, ne h1 g4, ne h1 g5⟩, ⟨ne h2 g1, ne h2 g2, ne h2 g3, ne h2 g4, ne h2 g5⟩, ⟨ne h3 g1, ne h3 g2, ne h3 g3, ne h3 g4, ne h3 g5⟩, ⟨ne h4 g1, ne h4 g2, ne h4 g3, ne h4 g4, ne h4 g5⟩, ⟨ne h5 g1, ne h5 g2, ne h5 g3, ne h5 g4, ne h5 g5⟩⟩⟩
theorem ownK_off {a : At5} {kd c : Addr} {H H' : Hp} {o : HO} (w : OwK a kd H H') (f : Off a c) (n : c ≠ kd) (e : H c = some o) : H' c = some o := w c o f.1 f.2.2.1 f.2.2.2.1 f.2.2.2.2 n e
theorem Ch.ownK {cS cR cM : Addr} {H H' : Hp} {a b : At5} {most most' : Int} {nm nm' : Nm} {N N' : Nat} {kd : Addr} {kvs : List (Key × V)} (h : Ch cS cR cM H a most nm N) (g : Ch cS cR cM H b most' nm' N') (w : OwK b kd H H') (f : Offs b a) (fk : Off a kd) (hk : H kd = some (.dK kvs)) : Ch cS cR cM H' a most nm N := by
  obtain ⟨f1, f2, f3, f4, f5⟩ := f
  refine h.keep fun c u hc hu => ?_
  rcases hc with z | z | z | z | z | ⟨xs, z⟩
  · exact ownK_off w (z ▸ f1) (z ▸ fk.1.symm) hu
  · exact ownK_off w (z ▸ f2) (z ▸ fk.2.1.symm) hu
  · exact ownK_off w (z ▸ f3) (z ▸ fk.2.2.1.symm) hu
  · exact ownK_off w (z ▸ f4) (z ▸ fk.2.2.2.1.symm) hu
  · exact ownK_off w (z ▸ f5) (z ▸ fk.2.2.2.2.symm) hu
  · have no : c ≠ b.p ∧ c ≠ b.ps ∧ c ≠ b.pt ∧ c ≠ b.pg := by
      rcases g with ⟨tg, gs, ck, ch, S, t⟩ | ⟨q, rs, tu, ch, S, r⟩
      · obtain ⟨dx, fs, pr, h1, h2, h3⟩ := S.ex
        obtain ⟨kt, t1, _⟩ := S.dt.ex
        obtain ⟨kg, g1, _⟩ := S.dg.ex
        exact ⟨ne_of z h1 (by intro y; cases y), ne_of z S.mb.hs (by intro y; cases y), ne_of z t1 (by intro y; cases y), ne_of z g1 (by intro y; cases y)⟩
      · obtain ⟨dx, fs, h1, h2⟩ := S.ex
        exact ⟨ne_of z h1 (by intro y; cases y), ne_of z S.mb.hs (by intro y; cases y), ne_of z S.hq (by intro y; cases y), ne_of z S.hr (by intro y; cases y)⟩
    exact w c u no.1 no.2.1 no.2.2.1 no.2.2.2 (ne_of z hk (by intro y; cases y)) hu
theorem seq_new {K : PySem.W.Frag} {b : At5} {H H' : Hp} {l : Addr} {xs : List V} (n : New b H) (s : Same H H') (h : SqL K H l xs) : ∀ H2, Own b H' H2 → SqL K H2 l xs := by
  intro H2 ow
  rcases h with (h | ⟨o, h⟩) | h
  · exact .inl (.inl (own_off ow (.new n h) (s _ _ h)))
  · exact .inl (.inr ⟨o, own_off ow (.new n h) (s _ _ h)⟩)
  · exact .inr h
structure Jc (cS cR cM : Addr) (H : Hp) (a b : At5) (kd pl : Addr) (most : Int) (xs : List Str) (x3 : Str) (i : Nat) : Prop where
  C : ∃ nm N, Ch cS cR cM H a most nm N ∧ H kd = some (.dK (kvsOf nm)) ∧ Gnm nm ∧ N ≤ 3 * i ∧ nm.length ≤ i
  B : Ch cS cR cM H b 1 [(x3, 5)] 3
  hp : H pl = some (.lst (xs.map V.str))
theorem Jc.same {cS cR cM : Addr} {H H' : Hp} {a b : At5} {kd pl : Addr} {most : Int} {xs : List Str} {x3 : Str} {i : Nat} (J : Jc cS cR cM H a b kd pl most xs x3 i) (s : Same H H') : Jc cS cR cM H' a b kd pl most xs x3 i := by
  obtain ⟨nm, N, h1, h2, h3⟩ := J.C
  exact ⟨⟨nm, N, h1.same s, s _ _ h2, h3⟩, J.B.same s, s _ _ J.hp⟩
theorem inst_ch (T : Txt K mg c_WheelError c_Taken c_NoClass c_NoShare c_Members c_Chooser c_Starts c_Rounds) {H : Hp} {a : At5} {most : Int} {nm : Nm} {N : Nat} {Q : VK} (h : Ch c_Starts c_Rounds c_Members H a most nm N) (k : Q (.bl true) H) : rInst K [.ref a.p, .ref c_Chooser] H Q := by
  obtain ⟨C, dx, fs, hc, hp⟩ := h.ins
  rcases hc with rfl | rfl
  · exact ⟨_, _, _, _, _, rfl, rfl, .ins hp T.cl_Starts T.ic_Starts T.ikg T.ikt T.io_Starts, T.kin_Starts_Chooser, k⟩
  · exact ⟨_, _, _, _, _, rfl, rfl, .ins hp T.cl_Rounds T.ic_Rounds T.ikg T.ikt T.io_Rounds, T.kin_Rounds_Chooser, k⟩
theorem most_ch (T : Txt K mg c_WheelError c_Taken c_NoClass c_NoShare c_Members c_Chooser c_Starts c_Rounds) {H : Hp} {a : At5} {most : Int} {nm : Nm} {N : Nat} {Q : VK} (h : Ch c_Starts c_Rounds c_Members H a most nm N) (k : Q (.int most) H) : rFld K "most" (.ref a.p) H Q := by
  rcases h with ⟨tg, gs, ck, ch, S, tga⟩ | ⟨q, rs, tu, ch, S, ri⟩
  · obtain ⟨dx, fs, pr, hp', ft, hr'⟩ := S.ex
    exact fldR_at hp' T.cl_Starts T.na_Starts_most ft.mo k
  · obtain ⟨dx, fs, hp', ft⟩ := S.ex
    exact fldR_at hp' T.cl_Rounds T.na_Rounds_most ft.mo k
theorem names_ch {H : Hp} {b : At5} {most : Int} {nm : Nm} {N : Nat} {Q : VK} {v0 v1 v2 v3 v5 v6 v7 : Option V} (h : Ch c_Starts c_Rounds c_Members H b most nm N) (k : ∀ l, H l = none → Q (.ref l) (upd H l (.lst (nmV nm)))) :
    tOrE (tMethX c_Starts "names" (spNames c_Starts c_Members) [] EX0 (tVar 4) tNil) (tMethX c_Rounds "names" (spRNames c_Rounds c_Members) [] EX0 (tVar 4) tNil) [v0, v1, v2, v3, some (.ref b.p), v5, v6, v7] H Q := by
  rcases h with ⟨tg, gs, ck, ch, S, tga⟩ | ⟨q, rs, tu, ch, S, ri⟩
  · refine .inl ?_
    walk_at "rd"
    obtain ⟨dx, fs, pr, hp, ft, hr'⟩ := S.ex
    exact meth_at hp (ft.no _ (by decide +kernel) (by decide +kernel) (by decide +kernel) (by decide +kernel) (by decide +kernel) (by decide +kernel)) ⟨b, most, nm, tg, gs, ck, ch, N, rfl, S, k⟩
  · refine .inr ?_
    walk_at "rd"
    exact S.meth (by decide +kernel) ⟨b, most, nm, q, rs, tu, ch, rfl, S, k⟩
theorem share_ch {H : Hp} {b : At5} {most : Int} {nm : Nm} {N : Nat} {Q : VK} {v0 v1 v3 v5 v6 v7 : Option V} {pl : Addr} {xs : List V} {x : Str} {s : Int} (h : Ch c_Starts c_Rounds c_Members H b most nm N) (hp : H pl = some (.lst xs)) (hx : atI xs 3 = some (.str x)) (hs : shOf nm x = some s) (k : Q (.int s) H) :
    tOrE (tMethX c_Starts "share_of" (spShare c_NoClass c_Starts c_Members) [] EX0 (tVar 4) (tCons (tOp (rIxL K) (tVar 2) (tC (.int 3))) tNil)) (tMethX c_Rounds "share_of" (spRShare c_NoClass c_Rounds c_Members) [] EX0 (tVar 4) (tCons (tOp (rIxL K) (tVar 2) (tC (.int 3))) tNil)) [v0, v1, some (.ref pl), v3, some (.ref b.p), v5, v6, v7] H Q := by
  have kk : ∀ s', shOf nm x = some s' → Q (.int s') H := fun s' e => by
    rw [hs] at e
    cases e
    exact k
  rcases h with ⟨tg, gs, ck, ch, S, tga⟩ | ⟨q, rs, tu, ch, S, ri⟩
  · refine .inl ?_
    walk_at "rd"
    obtain ⟨dx, fs, pr, hp', ft, hr'⟩ := S.ex
    exact meth_at hp' (ft.no _ (by decide +kernel) (by decide +kernel) (by decide +kernel) (by decide +kernel) (by decide +kernel) (by decide +kernel)) (ixL_at (.of hp) hx ⟨b, most, nm, tg, gs, ck, ch, N, x, rfl, S, fun z => absurd (hs ▸ z) (by simp), kk⟩)
  · refine .inr ?_
    walk_at "rd"
    exact S.meth (by decide +kernel) (ixL_at (.of hp) hx ⟨b, most, nm, q, rs, tu, ch, x, rfl, S, fun z => absurd (hs ▸ z) (by simp), kk⟩)
theorem ok_law {f : Addr} {fd : FuncData} (F : Fun K "law" "law" s_law f fd) (T : Txt K mg c_WheelError c_Taken c_NoClass c_NoShare c_Members c_Chooser c_Starts c_Rounds) : FnOk P w K mg base CX0 9 f fd ["_law_script"] (spLaw K) := by
  have D__law_cell_at := d__law_cell_at (P := P) (w := w) (base := base) T
  have D__law_name := d__law_name (P := P) (w := w) (base := base) T
  have D__law_most := d__law_most (P := P) (w := w) (base := base) T
  have D__law_chooser := d__law_chooser (P := P) (w := w) (base := base) T
  have D__law_told := d__law_told (P := P) (w := w) (base := base) T
  have D__law_deed := d__law_deed (P := P) (w := w) (base := base) T
  have D__law_share := d__law_share (P := P) (w := w) (base := base) T
  have D__law_mixed := d__law_mixed (P := P) (w := w) (base := base) T
  have M_Starts_put := m_Starts_put (P := P) (w := w) (base := base) T
  have M_Rounds_put := m_Rounds_put (P := P) (w := w) (base := base) T
  have M_Starts_names := m_Starts_names (P := P) (w := w) (base := base) T
  have M_Rounds_names := m_Rounds_names (P := P) (w := w) (base := base) T
  have M_Starts_share_of := m_Starts_share_of (P := P) (w := w) (base := base) T
  have M_Rounds_share_of := m_Rounds_share_of (P := P) (w := w) (base := base) T
  refine F.ok sc_law (fun vs H Q E h => ?_) (fun cdv A outer s H vs Q E hr h => ?_)
  · obtain ⟨a, ns, rfl, _⟩ := h
    rfl
  · obtain ⟨sc, ns, rfl, hS, hlen, k⟩ := h
    refine ⟨_, (pss_cons (ps_set (i := 1) sc_law.nd rfl (by first | exact Or.inl rfl | exact Or.inr rfl) (pe_callX D__law_cell_at (hr.mono (by decide)) rfl passN (pa_cons (pv 0) (pa_cons pe_int pa_nil)))) (pss_cons (ps_setL (i0 := 2) ["_law_k"] [("_law_first", 1)] rfl (by with_unfolding_all rfl) (by decide +kernel) rfl (by decide +kernel) (by exact ⟨rfl, True.intro⟩) (by with_unfolding_all rfl) ⟨⟨rfl, rfl, rfl⟩, True.intro⟩ (pi_range1 rfl T.no_range (pa_cons pe_int pa_nil)) (fun _ _ _ => (pg_name (i := 0) (show (["_law_k", "_law_first"] : List Str).Nodup from by decide +kernel) rfl (by first | exact Or.inl rfl | exact Or.inr rfl))) (fun _ _ _ => pifs_nil) (fun _ _ _ => (pe_callX D__law_name (hr.mono (by decide)) rfl passN (pa_cons (pe_op op_fdivL (pv 1) pe_int) (pa_cons (pv 0) pa_nil)))) (by with_unfolding_all rfl) sc_law.nd rfl (by first | exact Or.inl rfl | exact Or.inr rfl)) (pss_cons (ps_set (i := 3) sc_law.nd rfl (by first | exact Or.inl rfl | exact Or.inr rfl) (pe_callX D__law_chooser (hr.mono (by decide)) rfl passN (pa_cons (pv 1) (pa_cons (pe_callX D__law_most (hr.mono (by decide)) rfl passN (pa_cons (pv 1) pa_nil)) pa_nil)))) (pss_cons (ps_set (i := 4) sc_law.nd rfl (by first | exact Or.inl rfl | exact Or.inr rfl) (pe_callX D__law_chooser (hr.mono (by decide)) rfl passN (pa_cons (pe_op op_add (pv 1) pe_int) (pa_cons pe_int pa_nil)))) (pss_cons (ps_expr (pe_alt (pe_methX (dvs := []) M_Starts_put (by simp) T.cl_Starts (hr.mono (by decide)) passN (pv 4) (pa_cons (pe_ix (ix_listK K rfl) (pv 2) pe_int (fun _ _ => rfl)) (pa_cons pe_int pa_nil))) (pe_methX (dvs := []) M_Rounds_put (by simp) T.cl_Rounds (hr.mono (by decide)) passN (pv 4) (pa_cons (pe_ix (ix_listK K rfl) (pv 2) pe_int (fun _ _ => rfl)) (pa_cons pe_int pa_nil))))) (pss_cons (ps_set (i := 5) sc_law.nd rfl (by first | exact Or.inl rfl | exact Or.inr rfl) pe_dnewK) (pss_cons (ps_if (PW.pt (pw_or (pt_not (pt_val (pe_callB (call_isinstK K rfl) rfl T.no_isinstance boot_isinstance (pa_cons (pv 3) (pa_cons (pe_glob (v := .ref c_Chooser) rfl T.mg_Chooser rfl) pa_nil))))) (pw_or (pt_not (pt_val (pe_callB (call_isinstK K rfl) rfl T.no_isinstance boot_isinstance (pa_cons (pv 4) (pa_cons (pe_glob (v := .ref c_Chooser) rfl T.mg_Chooser rfl) pa_nil))))) (pw_or1 (pt_not (pt_val (pe_callX D__law_told (hr.mono (by decide)) rfl passN (pa_cons (pv 3) (pa_cons (pv 5) (pa_cons (pv 2) pa_nil)))))))))) (pss_one (ps_ret pe_bl)) pss_nil) (pss_cons (ps_for PassesOwn.never rfl (pi_listK K rfl (pe_slice (sl_listK K rfl) (pv 0) (po_some pe_int) (po_some pe_int))) (pg_name (i := 6) sc_law.nd rfl (by first | exact Or.inl rfl | exact Or.inr rfl)) (pss_cons (ps_set (i := 7) sc_law.nd rfl (by first | exact Or.inl rfl | exact Or.inr rfl) (pe_ix (ix_listK K rfl) (pv 2) (pe_op op_mod (pe_op op_fdivL (pv 6) pe_int) pe_int) (fun _ _ => rfl))) (pss_cons (ps_if (pt_not (pt_val (pe_callX D__law_deed (hr.mono (by decide)) rfl passN (pa_cons (pv 3) (pa_cons (pv 5) (pa_cons (pe_ix (ix_listK K rfl) (pe_lst (pa_cons pe_int (pa_cons pe_int (pa_cons pe_int (pa_cons pe_int (pa_cons pe_int (pa_cons pe_int pa_nil))))))) (pe_op op_mod (pe_callX D__law_mixed (hr.mono (by decide)) rfl passN (pa_cons (pv 6) (pa_cons pe_int pa_nil))) pe_int) (fun _ _ => rfl)) (pa_cons (pv 7) (pa_cons (pe_callX D__law_share (hr.mono (by decide)) rfl passN (pa_cons (pv 6) pa_nil)) pa_nil)))))))) (pss_one (ps_ret pe_bl)) pss_nil) (pss_one (ps_if (pt_not (pt_val (pe_callX D__law_told (hr.mono (by decide)) rfl passN (pa_cons (pv 3) (pa_cons (pv 5) (pa_cons (pv 2) pa_nil)))))) (pss_one (ps_ret pe_bl)) pss_nil))))) (pss_one (ps_ret (pe_and (pe_cmpR (op_eqDK K rfl hr.units) (pe_alt (pe_methX0 (dvs := []) M_Starts_names (by simp) T.cl_Starts (hr.mono (by decide)) passN (pv 4)) (pe_methX0 (dvs := []) M_Rounds_names (by simp) T.cl_Rounds (hr.mono (by decide)) passN (pv 4))) (pe_lst (pa_cons (pe_ix (ix_listK K rfl) (pv 2) pe_int (fun _ _ => rfl)) pa_nil)) (nomark _)) (pe_and (pe_cmpR op_eq (pe_alt (pe_methX (dvs := []) M_Starts_share_of (by simp) T.cl_Starts (hr.mono (by decide)) passN (pv 4) (pa_cons (pe_ix (ix_listK K rfl) (pv 2) pe_int (fun _ _ => rfl)) pa_nil)) (pe_methX (dvs := []) M_Rounds_share_of (by simp) T.cl_Rounds (hr.mono (by decide)) passN (pv 4) (pa_cons (pe_ix (ix_listK K rfl) (pv 2) pe_int (fun _ _ => rfl)) pa_nil))) pe_int (nomark _)) (pe_one (pe_cmpR op_eq (pe_fld (pv 3) rfl) (pe_callX D__law_most (hr.mono (by decide)) rfl passN (pa_cons (pv 1) pa_nil)) (nomark _))))))))))))))), ?_⟩
    show tSeq _ _ _ [some (.ref sc), none, none, none, none, none, none, none] H
    refine seq_step fun R hR => ?_
    walk_at "rd"
    refine spCell_of hS (by omega) (hR _ _ ?_)
    clear hR
    generalize cellI ns 0 = c
    refine seq_step fun R hR => ?_
    walk_at "rd"
    intro D hD
    show CompG _ _ _ _ D [none, some (.int c)] _ _
    refine comp_range (fun i τ H' => (∃ v, τ = [v, some (.int c)]) ∧ Same H H' ∧ ∃ xs : List Str, H' D = some (.lst (xs.map V.str)) ∧ xs.length = i ∧ ∀ x ∈ xs, StOk 20 x) ⟨⟨none, rfl⟩, same_new hD, [], upd_same, rfl, fun x h => absurd h List.not_mem_nil⟩ ?_ ?_
    · rintro i τ H' hi ⟨⟨v, rfl⟩, s', xs, hDl, lx, ax⟩
      walk_at "rd"
      simp only [tYes, if_true]
      walk_at "rd"
      refine ⟨c / 32, 0 + (i : Int), rfl, by omega, by omega, fun z hz => ?_⟩
      refine ⟨_, hDl, line_lt (by rw [List.length_map]; omega), fun b o e => ?_, xs ++ [z], ?_, ?_, fun y hy => ?_⟩
      · rw [upd_ne (ne_of_none e hD)]; exact s' _ _ e
      · rw [upd_same, List.map_append]; rfl
      · rw [List.length_append, lx]; rfl
      · rcases List.mem_append.mp hy with y1 | y1
        · exact ax y y1
        · have : y = z := by simpa using y1
          rw [this]; exact hz
    rintro τ H1 ⟨_, s1, xs, hpl, lx, ax⟩
    have hS := s1.seq hS
    refine hR _ _ ?_
    clear hR s1
    obtain ⟨m1, m2⟩ := mostF_bd c
    generalize hm : mostF c = most at m1 m2
    refine seq_step fun R hR => ?_
    walk_at "rd"
    refine ⟨c, rfl, fun H2 s2 => ⟨c, mostF c, rfl, (mostF_bd c).1, fun a H3 s3 na C => hR _ _ ?_⟩⟩
    clear hR
    rw [hm] at C
    have hS := (s2.trans s3).seq hS
    have oap : Off a D := .new na (s2 _ _ hpl)
    have hpl := (s2.trans s3) _ _ hpl
    clear s2 s3 na
    refine seq_step fun R hR => ?_
    walk_at "rd"
    refine ⟨c + 1, 1, rfl, by decide, fun b H4 s4 nb B => hR _ _ ?_⟩
    clear hR
    obtain ⟨oba, oab⟩ := offs_new nb C.at
    have obp : Off b D := .new nb hpl
    have hS := seq_new nb s4 hS
    have hpl := s4 _ _ hpl
    have C := C.same s4
    clear s4 nb
    obtain ⟨x3, e3⟩ : ∃ x, xs[3]? = some x := ⟨xs[3], List.getElem?_eq_getElem (by omega)⟩
    have ok3 := ax x3 (List.mem_of_getElem? e3)
    have at3 : atI (xs.map V.str) 3 = some (.str x3) := atI_nat (j := 3) (by rw [List.getElem?_map, e3]; rfl)
    refine seq_step fun R hR => ?_
    have p1 : ∀ H5, Own b H4 H5 → Ch c_Starts c_Rounds c_Members H5 b 1 [(x3, 5)] 3 → R [some (.ref sc), some (.int c), some (.ref D), some (.ref a.p), some (.ref b.p), none, none, none] H5 := by
      intro H5 ow B5
      refine hR _ _ ?_
      clear hR
      have hS := hS _ ow
      have hpl := own_off ow obp hpl
      have C := C.own B ow oba
      clear B ow
      refine seq_step fun R hR => ?_
      walk_at "rd"
      intro kd hkd
      refine hR _ _ ?_
      clear hR
      have oak := C.free hkd
      have obk := B5.free hkd
      have s6 := same_new (o := .dK []) hkd
      have J : Jc c_Starts c_Rounds c_Members (upd H5 kd (.dK [])) a b kd D most xs x3 0 := ⟨⟨[], 0, C.same s6, upd_same, .nil, by decide, by decide⟩, B5.same s6, s6 _ _ hpl⟩
      have hS := s6.seq hS
      generalize upd H5 kd (.dK []) = H6 at J hS ⊢
      clear C B5 s6 hpl hkd
      have pk : D ≠ kd := fun z => by
        have e := J.hp
        obtain ⟨nm, N, _, h2, _⟩ := J.C
        rw [z, h2] at e
        cases e
      refine seq_step fun R hR => ?_
      obtain ⟨nm0, N0, C0, hk0, G0, _, l0⟩ := J.C
      walk_at "rd"
      refine inst_ch T C0 ⟨_, rfl, ?_⟩
      rw [if_neg (by decide)]
      refine inst_ch T J.B ⟨_, rfl, ?_⟩
      rw [if_neg (by decide)]
      refine ⟨a, most, nm0, N0, kd, D, xs, rfl, C0, hk0, J.hp, by omega, by omega, G0, fun H7 s7 => ⟨_, rfl, ?_⟩⟩
      rw [if_neg (by decide)]
      refine hR _ _ ?_
      clear hR C0 hk0 G0 l0
      have J := J.same s7
      have hS := s7.seq hS
      clear s7
      refine seq_step fun R hR => ?_
      refine for_step fun Z hZ => ?_
      walk_at "rd"
      obtain ⟨ms, em, hm'⟩ := cutV_ints ns (some 1) (some 61)
      have hm60 : ms.length ≤ 60 := by
        have e : (ms.map V.int).length = ms.length := List.length_map _
        rw [← e, ← em]
        unfold cutV
        rw [List.length_take]
        refine Nat.le_trans (Nat.min_le_left _ _) ?_
        rw [show (some (61 : Int)) = some ((61 : Nat) : Int) from rfl, show (some (1 : Int)) = some ((1 : Nat) : Int) from rfl, HT.sIx_nat, HT.sIx_nat]
        omega
      refine slL_at hS fun pc hpc => ?_
      walk_at "rd"
      refine ⟨⟨_, .of upd_same⟩, hZ _ _ ?_⟩
      have s3 := same_new (o := .lst (cutV (ns.map V.int) (some 1) (some 61))) hpc
      obtain ⟨nm1, N1, C1, hk1, _⟩ := J.C
      have oac := C1.free hpc
      have obc := J.B.free hpc
      have kc : pc ≠ kd := fun z => by rw [z, hk1] at hpc; cases hpc
      clear C1 hk1
      have J := J.same s3
      have hc : (upd H7 pc (.lst (cutV (ns.map V.int) (some 1) (some 61)))) pc = some (.lst (ms.map V.int)) := by rw [upd_same, em]
      generalize upd H7 pc (.lst (cutV (ns.map V.int) (some 1) (some 61))) = H8 at J hc ⊢
      refine for_list (K := K) (a := pc) (xs := ms.map V.int) (fun i σ H' => ∃ v6 v7, σ = [some (.ref sc), some (.int c), some (.ref D), some (.ref a.p), some (.ref b.p), some (.ref kd), v6, v7] ∧ H' pc = some (.lst (ms.map V.int)) ∧ Jc c_Starts c_Rounds c_Members H' a b kd D most xs x3 i) ⟨none, none, rfl, hc, J⟩ (fun i σ H' _ ⟨_, _, _, h, _⟩ => .of h) ?_ ?_
      · rintro i x σ H9 hx ⟨v6, v7, rfl, hc, J⟩
        obtain ⟨z, rfl⟩ : ∃ z, x = V.int z := by
          rw [List.getElem?_map] at hx
          cases e : ms[i]? with
          | none => rw [e] at hx; cases hx
          | some z => rw [e] at hx; cases hx; exact ⟨z, rfl⟩
        have hi : i < 60 := by
          have := (List.getElem?_eq_some_iff.mp hx).1
          rw [List.length_map] at this
          omega
        show tSeq _ _ _ [some (.ref sc), some (.int c), some (.ref D), some (.ref a.p), some (.ref b.p), some (.ref kd), some (.int z), v7] _
        refine nx_step fun Nx hN => ?_
        refine seq_step fun R1 hR1 => ?_
        walk_at "rd"
        have z0 := Int.emod_nonneg (z / 3) (show (7 : Int) ≠ 0 by decide)
        have z1 := Int.emod_lt_of_pos (z / 3) (show (0 : Int) < 7 by decide)
        obtain ⟨y, ey, hy⟩ : ∃ y, atI (xs.map V.str) (z / 3 % 7) = some (.str y) ∧ y ∈ xs := by
          have lt : (z / 3 % 7).toNat < xs.length := by omega
          have := atI_nat (xs := xs.map V.str) (j := (z / 3 % 7).toNat) (v := V.str (xs[(z / 3 % 7).toNat]'lt)) (by simp)
          rw [Int.toNat_of_nonneg z0] at this
          exact ⟨_, this, List.getElem_mem lt⟩
        refine ixL_at (.of J.hp) ey (hR1 _ _ ?_)
        clear hR1 z0 z1
        have oy := ax y hy
        refine seq_step fun R1 hR1 => ?_
        walk_at "rd"
        intro p fp
        have x0 := Int.emod_nonneg (mixF z 9) (show (6 : Int) ≠ 0 by decide)
        have x1 := Int.emod_lt_of_pos (mixF z 9) (show (0 : Int) < 6 by decide)
        refine ⟨z, 9, rfl, by decide, by decide, _, rfl, ?_⟩
        refine pickZ [0, 0, 0, 1, 1, 2] x0 x1 fun way hw => ⟨z, rfl, fun sh H10 s10 => ?_⟩
        have hw := List.mem_of_getElem? hw
        have w01 : 0 ≤ way ∧ way < 3 := by
          simp only [List.mem_cons, List.not_mem_nil, or_false] at hw
          omega
        have s10 := (same_new (o := .lst (([0, 0, 0, 1, 1, 2] : List Int).map V.int)) fp).trans s10
        have J := J.same s10
        have hc := s10 _ _ hc
        clear s10 hw x0 x1
        obtain ⟨nm, N, C, hk, G, n1, n2⟩ := J.C
        refine ⟨a, most, nm, N, kd, way, y, sh, rfl, C, hk, oak, by omega, by omega, G, m1, m2, w01.1, w01.2, oy.1, fun nm' N' H11 ow C' hN' hk' G' l' => ⟨_, rfl, ?_⟩⟩
        rw [if_neg (by decide)]
        have J' : Jc c_Starts c_Rounds c_Members H11 a b kd D most xs x3 (i + 1) := ⟨⟨nm', N', C', hk', G', by omega, by omega⟩, J.B.ownK C ow oab obk hk, ownK_off ow oap pk J.hp⟩
        have hc := ownK_off ow oac kc hc
        refine hR1 _ _ ?_
        clear hR1 J ow
        walk_at "rd"
        refine ⟨a, most, nm', N', kd, D, xs, rfl, C', hk', J'.hp, by omega, by omega, G', fun H12 s12 => ⟨_, rfl, ?_⟩⟩
        rw [if_neg (by decide)]
        exact hN _ _ ⟨_, _, rfl, s12 _ _ hc, J'.same s12⟩
      · rintro σ H' ⟨v6, v7, rfl, hc, J⟩
        refine hR _ _ ?_
        clear hR
        walk_at "rd"
        refine names_ch J.B fun l hl => ?_
        have h1 : upd H' l (.lst (nmV [(x3, 5)])) l = some (.lst ([x3].map V.str)) := upd_same
        have s1 := same_new (o := .lst (nmV [(x3, 5)])) hl
        have J := J.same s1
        generalize upd H' l (.lst (nmV [(x3, 5)])) = H10 at J h1 ⊢
        refine ixL_at (.of J.hp) at3 fun p2 f2 => ?_
        have s2 := same_new (o := .lst [.str x3]) f2
        refine eq_same (kt_all [x3] _ l (s2 _ _ h1)) (kt_all [x3] _ p2 upd_same) (shaped_strs [x3] fun y hy => by
          have : y = x3 := by simpa using hy
          rw [this]; exact ok3.1) ⟨_, rfl, ?_⟩
        rw [if_pos rfl]
        have J := J.same s2
        refine share_ch J.B J.hp at3 (show shOf [(x3, 5)] x3 = some 5 from by unfold L2.shOf; simp) ⟨rfl, ?_⟩
        rw [if_pos rfl]
        obtain ⟨nm, N, C, _⟩ := J.C
        refine most_ch T C ⟨c, rfl, fun H11 _ => ⟨rfl, ?_⟩⟩
        rw [hm, decide_eq_true rfl]
        exact k _
    clear hR
    walk_at "rd"
    rcases B with ⟨tg, gs, ck, ch, S, tga⟩ | ⟨q, rs, tu, ch, S, ri⟩
    · refine .inl ?_
      walk_at "rd"
      obtain ⟨dx, fs, pr, hp, ft, hr'⟩ := S.ex
      refine meth_at hp (ft.no _ (by decide +kernel) (by decide +kernel) (by decide +kernel) (by decide +kernel) (by decide +kernel) (by decide +kernel)) (ixL_at (.of hpl) at3 ?_)
      exact ⟨b, 1, [], tg, gs, ck, ch, 0, x3, 5, rfl, S, by decide, fun z => absurd rfl z, fun _ z => absurd (by decide) z, fun hx _ H5 ow S' => p1 H5 ow (.inl ⟨_, _, _, _, S', tg_put hx tga⟩)⟩
    · refine .inr ?_
      walk_at "rd"
      refine S.meth (by decide +kernel) (ixL_at (.of hpl) at3 ?_)
      exact ⟨b, 1, [], q, rs, tu, ch, x3, 5, rfl, S, ri, by decide, fun z => absurd rfl z, fun _ z => absurd (by decide) z, fun hx _ H5 ow S' => p1 H5 ow (.inr ⟨_, _, _, _, S', ri.put hx (by decide) (by decide)⟩)⟩
end
theorem all_mk {l : PySem.W.OpenLaw} {w : World} {K : PySem.W.Frag} {h : Heap} {mg : Str → Option Value} {fa f1 f2 f3 f4 f5 f6 f7 f8 f9 f10 f11 f12 f13 f14 f15 f16 f17 f18 f19 f20 f21 : Addr} (X : K.In h) (G : h.Ns mainGlobals mg) (hfa : mg "law" = some (.ref fa))
    {od1 an1 od2 an2 od3 an3 od4 an4 od5 an5 od6 an6 od7 an7 od8 an8 od9 an9 od10 an10 od11 an11 od12 an12 od13 an13 od14 an14 od15 an15 od16 an16 od17 an17 od18 an18 od19 an19 od20 an20 od21 an21 : Option Addr} {sl1 sl2 sl3 sl4 sl5 sl6 sl7 sl8 sl9 sl10 sl11 sl12 sl13 sl14 sl15 sl16 sl17 sl18 sl19 sl20 sl21 : Array (Option Value)} {oc1 kV1 dc1 pm1 cd1 ct1 oc2 kV2 dc2 pm2 cd2 ct2 oc3 kV3 dc3 pm3 cd3 ct3 oc4 kV4 dc4 pm4 cd4 ct4 oc5 kV5 dc5 pm5 cd5 ct5 oc6 kV6 dc6 pm6 cd6 ct6 oc7 kV7 dc7 pm7 cd7 ct7 oc8 kV8 dc8 pm8 cd8 ct8 oc9 kV9 dc9 pm9 cd9 ct9 oc10 kV10 dc10 pm10 cd10 ct10 oc11 kV11 dc11 pm11 cd11 ct11 oc12 kV12 dc12 pm12 cd12 ct12 oc13 kV13 dc13 pm13 cd13 ct13 oc14 kV14 dc14 pm14 cd14 ct14 oc15 kV15 dc15 pm15 cd15 ct15 oc16 kV16 dc16 pm16 cd16 ct16 oc17 kV17 dc17 pm17 cd17 ct17 oc18 kV18 dc18 pm18 cd18 ct18 oc19 kV19 dc19 pm19 cd19 ct19 oc20 kV20 dc20 pm20 cd20 ct20 oc21 kV21 dc21 pm21 cd21 ct21 : Value}
    {tk_GREATEST_SHARE : Tok}
    {c_WheelError c_Taken c_NoClass c_NoShare : Addr}
    {cd_WheelError cd_Taken cd_NoClass cd_NoShare : ClassData}
    (b_WheelError : PySem.W.nsIn K mainGlobals "WheelError" = some (some (.ref c_WheelError)))
    (hd_WheelError : PySem.W.hasDictIn K c_WheelError = true)
    (ga_WheelError : PySem.W.findIn K (.ref c_WheelError) "__getattribute__" = some (some (.builtin "BaseException.__getattribute__")))
    (gn_WheelError : PySem.W.findIn K (.ref c_WheelError) "__getattr__" = some none)
    (sa_WheelError : PySem.W.findIn K (.ref c_WheelError) "__setattr__" = some (some (.builtin "object.__setattr__")))
    (cl_WheelError : PySem.W.findIn K (.ref c_WheelError) "__class__" = some (some (.builtin "object.__class__")))
    (be_WheelError : PySem.W.mroIn K c_WheelError (.type "BaseException") = some true)
    (ob_WheelError : PySem.W.mroIn K c_WheelError (.type "object") = some true)
    (kp_WheelError : PySem.W.keepIn K (.ref c_WheelError) = true)
    (ci_WheelError : PySem.W.clsIn K c_WheelError = some cd_WheelError)
    (ti_WheelError : PySem.W.typeIn K (.ref c_WheelError) = some (.type "type"))
    (ex_WheelError : PySem.W.excIn K c_WheelError bmV "ValueError.__new__" = true)
    (b_Taken : PySem.W.nsIn K mainGlobals "Taken" = some (some (.ref c_Taken)))
    (hd_Taken : PySem.W.hasDictIn K c_Taken = true)
    (ga_Taken : PySem.W.findIn K (.ref c_Taken) "__getattribute__" = some (some (.builtin "BaseException.__getattribute__")))
    (gn_Taken : PySem.W.findIn K (.ref c_Taken) "__getattr__" = some none)
    (sa_Taken : PySem.W.findIn K (.ref c_Taken) "__setattr__" = some (some (.builtin "object.__setattr__")))
    (cl_Taken : PySem.W.findIn K (.ref c_Taken) "__class__" = some (some (.builtin "object.__class__")))
    (be_Taken : PySem.W.mroIn K c_Taken (.type "BaseException") = some true)
    (ob_Taken : PySem.W.mroIn K c_Taken (.type "object") = some true)
    (kp_Taken : PySem.W.keepIn K (.ref c_Taken) = true)
    (ci_Taken : PySem.W.clsIn K c_Taken = some cd_Taken)
    (ti_Taken : PySem.W.typeIn K (.ref c_Taken) = some (.type "type"))
    (ex_Taken : PySem.W.excIn K c_Taken bmV "ValueError.__new__" = true)
    (b_NoClass : PySem.W.nsIn K mainGlobals "NoClass" = some (some (.ref c_NoClass)))
    (hd_NoClass : PySem.W.hasDictIn K c_NoClass = true)
    (ga_NoClass : PySem.W.findIn K (.ref c_NoClass) "__getattribute__" = some (some (.builtin "BaseException.__getattribute__")))
    (gn_NoClass : PySem.W.findIn K (.ref c_NoClass) "__getattr__" = some none)
    (sa_NoClass : PySem.W.findIn K (.ref c_NoClass) "__setattr__" = some (some (.builtin "object.__setattr__")))
    (cl_NoClass : PySem.W.findIn K (.ref c_NoClass) "__class__" = some (some (.builtin "object.__class__")))
    (be_NoClass : PySem.W.mroIn K c_NoClass (.type "BaseException") = some true)
    (ob_NoClass : PySem.W.mroIn K c_NoClass (.type "object") = some true)
    (kp_NoClass : PySem.W.keepIn K (.ref c_NoClass) = true)
    (ci_NoClass : PySem.W.clsIn K c_NoClass = some cd_NoClass)
    (ti_NoClass : PySem.W.typeIn K (.ref c_NoClass) = some (.type "type"))
    (ex_NoClass : PySem.W.excIn K c_NoClass bmV "ValueError.__new__" = true)
    (b_NoShare : PySem.W.nsIn K mainGlobals "NoShare" = some (some (.ref c_NoShare)))
    (hd_NoShare : PySem.W.hasDictIn K c_NoShare = true)
    (ga_NoShare : PySem.W.findIn K (.ref c_NoShare) "__getattribute__" = some (some (.builtin "BaseException.__getattribute__")))
    (gn_NoShare : PySem.W.findIn K (.ref c_NoShare) "__getattr__" = some none)
    (sa_NoShare : PySem.W.findIn K (.ref c_NoShare) "__setattr__" = some (some (.builtin "object.__setattr__")))
    (cl_NoShare : PySem.W.findIn K (.ref c_NoShare) "__class__" = some (some (.builtin "object.__class__")))
    (be_NoShare : PySem.W.mroIn K c_NoShare (.type "BaseException") = some true)
    (ob_NoShare : PySem.W.mroIn K c_NoShare (.type "object") = some true)
    (kp_NoShare : PySem.W.keepIn K (.ref c_NoShare) = true)
    (ci_NoShare : PySem.W.clsIn K c_NoShare = some cd_NoShare)
    (ti_NoShare : PySem.W.typeIn K (.ref c_NoShare) = some (.type "type"))
    (ex_NoShare : PySem.W.excIn K c_NoShare bmV "ValueError.__new__" = true)
    (kg : PySem.W.specialIn K (.builtin "object.__class__") "__get__" = some (some (.builtin "getset_descriptor.__get__")))
    (kt : PySem.W.takesIn K (.builtin "object.__class__") = some true)
    (s_Taken_WheelError : PySem.W.subIn K (.ref c_Taken) (.ref c_WheelError) = some true)
    (n_Taken_WheelError : (Value.ref c_Taken == Value.ref c_WheelError) = false)
    (s_Taken_Taken : PySem.W.subIn K (.ref c_Taken) (.ref c_Taken) = some true)
    (s_Taken_NoClass : PySem.W.subIn K (.ref c_Taken) (.ref c_NoClass) = some false)
    (n_Taken_NoClass : (Value.ref c_Taken == Value.ref c_NoClass) = false)
    (s_Taken_NoShare : PySem.W.subIn K (.ref c_Taken) (.ref c_NoShare) = some false)
    (n_Taken_NoShare : (Value.ref c_Taken == Value.ref c_NoShare) = false)
    (v_Taken_VE : PySem.W.subIn K (.ref c_Taken) (.type "ValueError") = some true)
    (s_NoClass_WheelError : PySem.W.subIn K (.ref c_NoClass) (.ref c_WheelError) = some true)
    (n_NoClass_WheelError : (Value.ref c_NoClass == Value.ref c_WheelError) = false)
    (s_NoClass_Taken : PySem.W.subIn K (.ref c_NoClass) (.ref c_Taken) = some false)
    (n_NoClass_Taken : (Value.ref c_NoClass == Value.ref c_Taken) = false)
    (s_NoClass_NoClass : PySem.W.subIn K (.ref c_NoClass) (.ref c_NoClass) = some true)
    (s_NoClass_NoShare : PySem.W.subIn K (.ref c_NoClass) (.ref c_NoShare) = some false)
    (n_NoClass_NoShare : (Value.ref c_NoClass == Value.ref c_NoShare) = false)
    (v_NoClass_VE : PySem.W.subIn K (.ref c_NoClass) (.type "ValueError") = some true)
    (s_NoShare_WheelError : PySem.W.subIn K (.ref c_NoShare) (.ref c_WheelError) = some true)
    (n_NoShare_WheelError : (Value.ref c_NoShare == Value.ref c_WheelError) = false)
    (s_NoShare_Taken : PySem.W.subIn K (.ref c_NoShare) (.ref c_Taken) = some false)
    (n_NoShare_Taken : (Value.ref c_NoShare == Value.ref c_Taken) = false)
    (s_NoShare_NoClass : PySem.W.subIn K (.ref c_NoShare) (.ref c_NoClass) = some false)
    (n_NoShare_NoClass : (Value.ref c_NoShare == Value.ref c_NoClass) = false)
    (s_NoShare_NoShare : PySem.W.subIn K (.ref c_NoShare) (.ref c_NoShare) = some true)
    (v_NoShare_VE : PySem.W.subIn K (.ref c_NoShare) (.type "ValueError") = some true)
    (a1 : PySem.W.nsIn K mainGlobals "divisor" = some (some (.ref f1))) (l1 : K.lookup f1 = some ⟨oc1, od1, .func (PySem.W.fnOf "divisor" "divisor" (defArgs s_divisor) (defBody s_divisor) (defScope s_divisor) .none kV1 dc1 pm1 an1 cd1 ct1), sl1⟩) (c1 : PySem.W.codeIn K cd1 "divisor" = true) (k1 : PySem.W.keepIn K (.ref f1) = true)
    (a2 : PySem.W.nsIn K mainGlobals "ratio" = some (some (.ref f2))) (l2 : K.lookup f2 = some ⟨oc2, od2, .func (PySem.W.fnOf "ratio" "ratio" (defArgs s_ratio) (defBody s_ratio) (defScope s_ratio) .none kV2 dc2 pm2 an2 cd2 ct2), sl2⟩) (c2 : PySem.W.codeIn K cd2 "ratio" = true) (k2 : PySem.W.keepIn K (.ref f2) = true)
    (a3 : PySem.W.nsIn K mainGlobals "under" = some (some (.ref f3))) (l3 : K.lookup f3 = some ⟨oc3, od3, .func (PySem.W.fnOf "under" "under" (defArgs s_under) (defBody s_under) (defScope s_under) .none kV3 dc3 pm3 an3 cd3 ct3), sl3⟩) (c3 : PySem.W.codeIn K cd3 "under" = true) (k3 : PySem.W.keepIn K (.ref f3) = true)
    (a4 : PySem.W.nsIn K mainGlobals "greater" = some (some (.ref f4))) (l4 : K.lookup f4 = some ⟨oc4, od4, .func (PySem.W.fnOf "greater" "greater" (defArgs s_greater) (defBody s_greater) (defScope s_greater) .none kV4 dc4 pm4 an4 cd4 ct4), sl4⟩) (c4 : PySem.W.codeIn K cd4 "greater" = true) (k4 : PySem.W.keepIn K (.ref f4) = true)
    (a5 : PySem.W.nsIn K mainGlobals "check_share" = some (some (.ref f5))) (l5 : K.lookup f5 = some ⟨oc5, od5, .func (PySem.W.fnOf "check_share" "check_share" (defArgs s_check_share) (defBody s_check_share) (defScope s_check_share) .none kV5 dc5 pm5 an5 cd5 ct5), sl5⟩) (c5 : PySem.W.codeIn K cd5 "check_share" = true) (k5 : PySem.W.keepIn K (.ref f5) = true)
    (a6 : PySem.W.nsIn K mainGlobals "_law_cell_at" = some (some (.ref f6))) (l6 : K.lookup f6 = some ⟨oc6, od6, .func (PySem.W.fnOf "_law_cell_at" "_law_cell_at" (defArgs s__law_cell_at) (defBody s__law_cell_at) (defScope s__law_cell_at) .none kV6 dc6 pm6 an6 cd6 ct6), sl6⟩) (c6 : PySem.W.codeIn K cd6 "_law_cell_at" = true) (k6 : PySem.W.keepIn K (.ref f6) = true)
    (a7 : PySem.W.nsIn K mainGlobals "_law_mixed" = some (some (.ref f7))) (l7 : K.lookup f7 = some ⟨oc7, od7, .func (PySem.W.fnOf "_law_mixed" "_law_mixed" (defArgs s__law_mixed) (defBody s__law_mixed) (defScope s__law_mixed) .none kV7 dc7 pm7 an7 cd7 ct7), sl7⟩) (c7 : PySem.W.codeIn K cd7 "_law_mixed" = true) (k7 : PySem.W.keepIn K (.ref f7) = true)
    (a8 : PySem.W.nsIn K mainGlobals "_law_name" = some (some (.ref f8))) (l8 : K.lookup f8 = some ⟨oc8, od8, .func (PySem.W.fnOf "_law_name" "_law_name" (defArgs s__law_name) (defBody s__law_name) (defScope s__law_name) .none kV8 dc8 pm8 an8 cd8 ct8), sl8⟩) (c8 : PySem.W.codeIn K cd8 "_law_name" = true) (k8 : PySem.W.keepIn K (.ref f8) = true)
    (a9 : PySem.W.nsIn K mainGlobals "_law_share" = some (some (.ref f9))) (l9 : K.lookup f9 = some ⟨oc9, od9, .func (PySem.W.fnOf "_law_share" "_law_share" (defArgs s__law_share) (defBody s__law_share) (defScope s__law_share) .none kV9 dc9 pm9 an9 cd9 ct9), sl9⟩) (c9 : PySem.W.codeIn K cd9 "_law_share" = true) (k9 : PySem.W.keepIn K (.ref f9) = true)
    (a10 : PySem.W.nsIn K mainGlobals "_law_shared" = some (some (.ref f10))) (l10 : K.lookup f10 = some ⟨oc10, od10, .func (PySem.W.fnOf "_law_shared" "_law_shared" (defArgs s__law_shared) (defBody s__law_shared) (defScope s__law_shared) .none kV10 dc10 pm10 an10 cd10 ct10), sl10⟩) (c10 : PySem.W.codeIn K cd10 "_law_shared" = true) (k10 : PySem.W.keepIn K (.ref f10) = true)
    (a11 : PySem.W.nsIn K mainGlobals "_law_put" = some (some (.ref f11))) (l11 : K.lookup f11 = some ⟨oc11, od11, .func (PySem.W.fnOf "_law_put" "_law_put" (defArgs s__law_put) (defBody s__law_put) (defScope s__law_put) .none kV11 dc11 pm11 an11 cd11 ct11), sl11⟩) (c11 : PySem.W.codeIn K cd11 "_law_put" = true) (k11 : PySem.W.keepIn K (.ref f11) = true)
    (a12 : PySem.W.nsIn K mainGlobals "_law_reshare" = some (some (.ref f12))) (l12 : K.lookup f12 = some ⟨oc12, od12, .func (PySem.W.fnOf "_law_reshare" "_law_reshare" (defArgs s__law_reshare) (defBody s__law_reshare) (defScope s__law_reshare) .none kV12 dc12 pm12 an12 cd12 ct12), sl12⟩) (c12 : PySem.W.codeIn K cd12 "_law_reshare" = true) (k12 : PySem.W.keepIn K (.ref f12) = true)
    (a13 : PySem.W.nsIn K mainGlobals "_law_take" = some (some (.ref f13))) (l13 : K.lookup f13 = some ⟨oc13, od13, .func (PySem.W.fnOf "_law_take" "_law_take" (defArgs s__law_take) (defBody s__law_take) (defScope s__law_take) .none kV13 dc13 pm13 an13 cd13 ct13), sl13⟩) (c13 : PySem.W.codeIn K cd13 "_law_take" = true) (k13 : PySem.W.keepIn K (.ref f13) = true)
    (a14 : PySem.W.nsIn K mainGlobals "_law_due" = some (some (.ref f14))) (l14 : K.lookup f14 = some ⟨oc14, od14, .func (PySem.W.fnOf "_law_due" "_law_due" (defArgs s__law_due) (defBody s__law_due) (defScope s__law_due) .none kV14 dc14 pm14 an14 cd14 ct14), sl14⟩) (c14 : PySem.W.codeIn K cd14 "_law_due" = true) (k14 : PySem.W.keepIn K (.ref f14) = true)
    (a15 : PySem.W.nsIn K mainGlobals "_law_deed" = some (some (.ref f15))) (l15 : K.lookup f15 = some ⟨oc15, od15, .func (PySem.W.fnOf "_law_deed" "_law_deed" (defArgs s__law_deed) (defBody s__law_deed) (defScope s__law_deed) .none kV15 dc15 pm15 an15 cd15 ct15), sl15⟩) (c15 : PySem.W.codeIn K cd15 "_law_deed" = true) (k15 : PySem.W.keepIn K (.ref f15) = true)
    (a16 : PySem.W.nsIn K mainGlobals "_law_strange" = some (some (.ref f16))) (l16 : K.lookup f16 = some ⟨oc16, od16, .func (PySem.W.fnOf "_law_strange" "_law_strange" (defArgs s__law_strange) (defBody s__law_strange) (defScope s__law_strange) .none kV16 dc16 pm16 an16 cd16 ct16), sl16⟩) (c16 : PySem.W.codeIn K cd16 "_law_strange" = true) (k16 : PySem.W.keepIn K (.ref f16) = true)
    (a17 : PySem.W.nsIn K mainGlobals "_law_child" = some (some (.ref f17))) (l17 : K.lookup f17 = some ⟨oc17, od17, .func (PySem.W.fnOf "_law_child" "_law_child" (defArgs s__law_child) (defBody s__law_child) (defScope s__law_child) .none kV17 dc17 pm17 an17 cd17 ct17), sl17⟩) (c17 : PySem.W.codeIn K cd17 "_law_child" = true) (k17 : PySem.W.keepIn K (.ref f17) = true)
    (a18 : PySem.W.nsIn K mainGlobals "_law_told" = some (some (.ref f18))) (l18 : K.lookup f18 = some ⟨oc18, od18, .func (PySem.W.fnOf "_law_told" "_law_told" (defArgs s__law_told) (defBody s__law_told) (defScope s__law_told) .none kV18 dc18 pm18 an18 cd18 ct18), sl18⟩) (c18 : PySem.W.codeIn K cd18 "_law_told" = true) (k18 : PySem.W.keepIn K (.ref f18) = true)
    (a19 : PySem.W.nsIn K mainGlobals "_law_most" = some (some (.ref f19))) (l19 : K.lookup f19 = some ⟨oc19, od19, .func (PySem.W.fnOf "_law_most" "_law_most" (defArgs s__law_most) (defBody s__law_most) (defScope s__law_most) .none kV19 dc19 pm19 an19 cd19 ct19), sl19⟩) (c19 : PySem.W.codeIn K cd19 "_law_most" = true) (k19 : PySem.W.keepIn K (.ref f19) = true)
    (a20 : PySem.W.nsIn K mainGlobals "_law_chooser" = some (some (.ref f20))) (l20 : K.lookup f20 = some ⟨oc20, od20, .func (PySem.W.fnOf "_law_chooser" "_law_chooser" (defArgs s__law_chooser) (defBody s__law_chooser) (defScope s__law_chooser) .none kV20 dc20 pm20 an20 cd20 ct20), sl20⟩) (c20 : PySem.W.codeIn K cd20 "_law_chooser" = true) (k20 : PySem.W.keepIn K (.ref f20) = true)
    (a21 : PySem.W.nsIn K mainGlobals "law" = some (some (.ref f21))) (l21 : K.lookup f21 = some ⟨oc21, od21, .func (PySem.W.fnOf "law" "law" (defArgs s_law) (defBody s_law) (defScope s_law) .none kV21 dc21 pm21 an21 cd21 ct21), sl21⟩) (c21 : PySem.W.codeIn K cd21 "law" = true) (k21 : PySem.W.keepIn K (.ref f21) = true)
    (z1 : PySem.W.nsIn K mainGlobals "abs" = some none)
    (z2 : PySem.W.nsIn K mainGlobals "len" = some none)
    (z3 : PySem.W.nsIn K mainGlobals "range" = some none)
    (z4 : PySem.W.nsIn K mainGlobals "int" = some none)
    (z5 : PySem.W.nsIn K mainGlobals "isinstance" = some none)
    (z6 : PySem.W.nsIn K mainGlobals "sum" = some none)
    (z7 : PySem.W.nsIn K mainGlobals "bool" = some none)
    (z8 : PySem.W.nsIn K mainGlobals "tuple" = some none)
    (z9 : PySem.W.nsIn K mainGlobals "all" = some none)
    (z10 : PySem.W.nsIn K mainGlobals "list" = some none)
    (z11 : PySem.W.nsIn K mainGlobals "min" = some none)
    (v_GREATEST_SHARE : PySem.W.nsIn K mainGlobals "GREATEST_SHARE" = some (some (.int 1000000 tk_GREATEST_SHARE)))
    {c_Members : Addr}
    (b_Members : PySem.W.nsIn K mainGlobals "Members" = some (some (.ref c_Members)))
    (pg_Members : PySem.W.plainGet K c_Members Str.empty = true)
    (hd_Members : PySem.W.hasDictIn K c_Members = true)
    (po_Members : PySem.W.plainOver K c_Members = true)
    (sa_Members : PySem.W.findIn K (.ref c_Members) "__setattr__" = some (some (.builtin "object.__setattr__")))
    (mk_Members : PySem.W.makesIn K c_Members = true)
    (kc_Members : PySem.W.keepIn K (.ref c_Members) = true)
    (na_Members_shares : PySem.W.findIn K (.ref c_Members) "shares" = some none)
    {i_Members_init : Addr} {od_Members_init an_Members_init : Option Addr} {sl_Members_init : Array (Option Value)} {oc_Members_init kV_Members_init dc_Members_init pm_Members_init co_Members_init ct_Members_init : Value}
    (a_Members_init : PySem.W.findIn K (.ref c_Members) "__init__" = some (some (.ref i_Members_init)))
    (i_Members_init_fn : PySem.W.isFn K (.ref i_Members_init) = true)
    (l_Members_init : K.lookup i_Members_init = some ⟨oc_Members_init, od_Members_init, .func (PySem.W.fnOf "__init__" "Members.__init__" (defArgs s_Members_init) (defBody s_Members_init) (defScope s_Members_init) .none kV_Members_init dc_Members_init pm_Members_init an_Members_init co_Members_init ct_Members_init), sl_Members_init⟩)
    (c_Members_init_cd : PySem.W.codeIn K co_Members_init "Members.__init__" = true)
    (k_Members_init : PySem.W.keepIn K (.ref i_Members_init) = true)
    {i_Members_check_name : Addr} {od_Members_check_name an_Members_check_name : Option Addr} {sl_Members_check_name : Array (Option Value)} {oc_Members_check_name kV_Members_check_name dc_Members_check_name pm_Members_check_name co_Members_check_name ct_Members_check_name : Value}
    (a_Members_check_name : PySem.W.findIn K (.ref c_Members) "check_name" = some (some (.ref i_Members_check_name)))
    (i_Members_check_name_fn : PySem.W.isFn K (.ref i_Members_check_name) = true)
    (l_Members_check_name : K.lookup i_Members_check_name = some ⟨oc_Members_check_name, od_Members_check_name, .func (PySem.W.fnOf "check_name" "Members.check_name" (defArgs s_Members_check_name) (defBody s_Members_check_name) (defScope s_Members_check_name) .none kV_Members_check_name dc_Members_check_name pm_Members_check_name an_Members_check_name co_Members_check_name ct_Members_check_name), sl_Members_check_name⟩)
    (c_Members_check_name_cd : PySem.W.codeIn K co_Members_check_name "Members.check_name" = true)
    (k_Members_check_name : PySem.W.keepIn K (.ref i_Members_check_name) = true)
    {i_Members_put : Addr} {od_Members_put an_Members_put : Option Addr} {sl_Members_put : Array (Option Value)} {oc_Members_put kV_Members_put dc_Members_put pm_Members_put co_Members_put ct_Members_put : Value}
    (a_Members_put : PySem.W.findIn K (.ref c_Members) "put" = some (some (.ref i_Members_put)))
    (i_Members_put_fn : PySem.W.isFn K (.ref i_Members_put) = true)
    (l_Members_put : K.lookup i_Members_put = some ⟨oc_Members_put, od_Members_put, .func (PySem.W.fnOf "put" "Members.put" (defArgs s_Members_put) (defBody s_Members_put) (defScope s_Members_put) .none kV_Members_put dc_Members_put pm_Members_put an_Members_put co_Members_put ct_Members_put), sl_Members_put⟩)
    (c_Members_put_cd : PySem.W.codeIn K co_Members_put "Members.put" = true)
    (k_Members_put : PySem.W.keepIn K (.ref i_Members_put) = true)
    {i_Members_take : Addr} {od_Members_take an_Members_take : Option Addr} {sl_Members_take : Array (Option Value)} {oc_Members_take kV_Members_take dc_Members_take pm_Members_take co_Members_take ct_Members_take : Value}
    (a_Members_take : PySem.W.findIn K (.ref c_Members) "take" = some (some (.ref i_Members_take)))
    (i_Members_take_fn : PySem.W.isFn K (.ref i_Members_take) = true)
    (l_Members_take : K.lookup i_Members_take = some ⟨oc_Members_take, od_Members_take, .func (PySem.W.fnOf "take" "Members.take" (defArgs s_Members_take) (defBody s_Members_take) (defScope s_Members_take) .none kV_Members_take dc_Members_take pm_Members_take an_Members_take co_Members_take ct_Members_take), sl_Members_take⟩)
    (c_Members_take_cd : PySem.W.codeIn K co_Members_take "Members.take" = true)
    (k_Members_take : PySem.W.keepIn K (.ref i_Members_take) = true)
    {i_Members_reshare : Addr} {od_Members_reshare an_Members_reshare : Option Addr} {sl_Members_reshare : Array (Option Value)} {oc_Members_reshare kV_Members_reshare dc_Members_reshare pm_Members_reshare co_Members_reshare ct_Members_reshare : Value}
    (a_Members_reshare : PySem.W.findIn K (.ref c_Members) "reshare" = some (some (.ref i_Members_reshare)))
    (i_Members_reshare_fn : PySem.W.isFn K (.ref i_Members_reshare) = true)
    (l_Members_reshare : K.lookup i_Members_reshare = some ⟨oc_Members_reshare, od_Members_reshare, .func (PySem.W.fnOf "reshare" "Members.reshare" (defArgs s_Members_reshare) (defBody s_Members_reshare) (defScope s_Members_reshare) .none kV_Members_reshare dc_Members_reshare pm_Members_reshare an_Members_reshare co_Members_reshare ct_Members_reshare), sl_Members_reshare⟩)
    (c_Members_reshare_cd : PySem.W.codeIn K co_Members_reshare "Members.reshare" = true)
    (k_Members_reshare : PySem.W.keepIn K (.ref i_Members_reshare) = true)
    {i_Members_names : Addr} {od_Members_names an_Members_names : Option Addr} {sl_Members_names : Array (Option Value)} {oc_Members_names kV_Members_names dc_Members_names pm_Members_names co_Members_names ct_Members_names : Value}
    (a_Members_names : PySem.W.findIn K (.ref c_Members) "names" = some (some (.ref i_Members_names)))
    (i_Members_names_fn : PySem.W.isFn K (.ref i_Members_names) = true)
    (l_Members_names : K.lookup i_Members_names = some ⟨oc_Members_names, od_Members_names, .func (PySem.W.fnOf "names" "Members.names" (defArgs s_Members_names) (defBody s_Members_names) (defScope s_Members_names) .none kV_Members_names dc_Members_names pm_Members_names an_Members_names co_Members_names ct_Members_names), sl_Members_names⟩)
    (c_Members_names_cd : PySem.W.codeIn K co_Members_names "Members.names" = true)
    (k_Members_names : PySem.W.keepIn K (.ref i_Members_names) = true)
    {i_Members_share_of : Addr} {od_Members_share_of an_Members_share_of : Option Addr} {sl_Members_share_of : Array (Option Value)} {oc_Members_share_of kV_Members_share_of dc_Members_share_of pm_Members_share_of co_Members_share_of ct_Members_share_of : Value}
    (a_Members_share_of : PySem.W.findIn K (.ref c_Members) "share_of" = some (some (.ref i_Members_share_of)))
    (i_Members_share_of_fn : PySem.W.isFn K (.ref i_Members_share_of) = true)
    (l_Members_share_of : K.lookup i_Members_share_of = some ⟨oc_Members_share_of, od_Members_share_of, .func (PySem.W.fnOf "share_of" "Members.share_of" (defArgs s_Members_share_of) (defBody s_Members_share_of) (defScope s_Members_share_of) .none kV_Members_share_of dc_Members_share_of pm_Members_share_of an_Members_share_of co_Members_share_of ct_Members_share_of), sl_Members_share_of⟩)
    (c_Members_share_of_cd : PySem.W.codeIn K co_Members_share_of "Members.share_of" = true)
    (k_Members_share_of : PySem.W.keepIn K (.ref i_Members_share_of) = true)
    {i_Members_all_shares : Addr} {od_Members_all_shares an_Members_all_shares : Option Addr} {sl_Members_all_shares : Array (Option Value)} {oc_Members_all_shares kV_Members_all_shares dc_Members_all_shares pm_Members_all_shares co_Members_all_shares ct_Members_all_shares : Value}
    (a_Members_all_shares : PySem.W.findIn K (.ref c_Members) "all_shares" = some (some (.ref i_Members_all_shares)))
    (i_Members_all_shares_fn : PySem.W.isFn K (.ref i_Members_all_shares) = true)
    (l_Members_all_shares : K.lookup i_Members_all_shares = some ⟨oc_Members_all_shares, od_Members_all_shares, .func (PySem.W.fnOf "all_shares" "Members.all_shares" (defArgs s_Members_all_shares) (defBody s_Members_all_shares) (defScope s_Members_all_shares) .none kV_Members_all_shares dc_Members_all_shares pm_Members_all_shares an_Members_all_shares co_Members_all_shares ct_Members_all_shares), sl_Members_all_shares⟩)
    (c_Members_all_shares_cd : PySem.W.codeIn K co_Members_all_shares "Members.all_shares" = true)
    (k_Members_all_shares : PySem.W.keepIn K (.ref i_Members_all_shares) = true)
    {i_Members_part : Addr} {od_Members_part an_Members_part : Option Addr} {sl_Members_part : Array (Option Value)} {oc_Members_part kV_Members_part dc_Members_part pm_Members_part co_Members_part ct_Members_part : Value}
    (a_Members_part : PySem.W.findIn K (.ref c_Members) "part" = some (some (.ref i_Members_part)))
    (i_Members_part_fn : PySem.W.isFn K (.ref i_Members_part) = true)
    (l_Members_part : K.lookup i_Members_part = some ⟨oc_Members_part, od_Members_part, .func (PySem.W.fnOf "part" "Members.part" (defArgs s_Members_part) (defBody s_Members_part) (defScope s_Members_part) .none kV_Members_part dc_Members_part pm_Members_part an_Members_part co_Members_part ct_Members_part), sl_Members_part⟩)
    (c_Members_part_cd : PySem.W.codeIn K co_Members_part "Members.part" = true)
    (k_Members_part : PySem.W.keepIn K (.ref i_Members_part) = true)
    {c_Chooser : Addr}
    (b_Chooser : PySem.W.nsIn K mainGlobals "Chooser" = some (some (.ref c_Chooser)))
    {c_Starts : Addr}
    (b_Starts : PySem.W.nsIn K mainGlobals "Starts" = some (some (.ref c_Starts)))
    (pg_Starts : PySem.W.plainGet K c_Starts Str.empty = true)
    (hd_Starts : PySem.W.hasDictIn K c_Starts = true)
    (po_Starts : PySem.W.plainOver K c_Starts = true)
    (sa_Starts : PySem.W.findIn K (.ref c_Starts) "__setattr__" = some (some (.builtin "object.__setattr__")))
    (mk_Starts : PySem.W.makesIn K c_Starts = true)
    (kc_Starts : PySem.W.keepIn K (.ref c_Starts) = true)
    (na_Starts_reached : PySem.W.findIn K (.ref c_Starts) "reached" = some none)
    (na_Starts_tags : PySem.W.findIn K (.ref c_Starts) "tags" = some none)
    (na_Starts_greatest_steps : PySem.W.findIn K (.ref c_Starts) "greatest_steps" = some none)
    (na_Starts_most : PySem.W.findIn K (.ref c_Starts) "most" = some none)
    (na_Starts_members : PySem.W.findIn K (.ref c_Starts) "members" = some none)
    (na_Starts_chosen : PySem.W.findIn K (.ref c_Starts) "chosen" = some none)
    {i_Starts_init : Addr} {od_Starts_init an_Starts_init : Option Addr} {sl_Starts_init : Array (Option Value)} {oc_Starts_init kV_Starts_init dc_Starts_init pm_Starts_init co_Starts_init ct_Starts_init : Value}
    (a_Starts_init : PySem.W.findIn K (.ref c_Starts) "__init__" = some (some (.ref i_Starts_init)))
    (i_Starts_init_fn : PySem.W.isFn K (.ref i_Starts_init) = true)
    (l_Starts_init : K.lookup i_Starts_init = some ⟨oc_Starts_init, od_Starts_init, .func (PySem.W.fnOf "__init__" "Starts.__init__" (defArgs s_Starts_init) (defBody s_Starts_init) (defScope s_Starts_init) .none kV_Starts_init dc_Starts_init pm_Starts_init an_Starts_init co_Starts_init ct_Starts_init), sl_Starts_init⟩)
    (c_Starts_init_cd : PySem.W.codeIn K co_Starts_init "Starts.__init__" = true)
    (k_Starts_init : PySem.W.keepIn K (.ref i_Starts_init) = true)
    {i_Starts_enter : Addr} {od_Starts_enter an_Starts_enter : Option Addr} {sl_Starts_enter : Array (Option Value)} {oc_Starts_enter kV_Starts_enter dc_Starts_enter pm_Starts_enter co_Starts_enter ct_Starts_enter : Value}
    (a_Starts_enter : PySem.W.findIn K (.ref c_Starts) "enter" = some (some (.ref i_Starts_enter)))
    (i_Starts_enter_fn : PySem.W.isFn K (.ref i_Starts_enter) = true)
    (l_Starts_enter : K.lookup i_Starts_enter = some ⟨oc_Starts_enter, od_Starts_enter, .func (PySem.W.fnOf "enter" "Starts.enter" (defArgs s_Starts_enter) (defBody s_Starts_enter) (defScope s_Starts_enter) .none kV_Starts_enter dc_Starts_enter pm_Starts_enter an_Starts_enter co_Starts_enter ct_Starts_enter), sl_Starts_enter⟩)
    (c_Starts_enter_cd : PySem.W.codeIn K co_Starts_enter "Starts.enter" = true)
    (k_Starts_enter : PySem.W.keepIn K (.ref i_Starts_enter) = true)
    {i_Starts_leave : Addr} {od_Starts_leave an_Starts_leave : Option Addr} {sl_Starts_leave : Array (Option Value)} {oc_Starts_leave kV_Starts_leave dc_Starts_leave pm_Starts_leave co_Starts_leave ct_Starts_leave : Value}
    (a_Starts_leave : PySem.W.findIn K (.ref c_Starts) "leave" = some (some (.ref i_Starts_leave)))
    (i_Starts_leave_fn : PySem.W.isFn K (.ref i_Starts_leave) = true)
    (l_Starts_leave : K.lookup i_Starts_leave = some ⟨oc_Starts_leave, od_Starts_leave, .func (PySem.W.fnOf "leave" "Starts.leave" (defArgs s_Starts_leave) (defBody s_Starts_leave) (defScope s_Starts_leave) .none kV_Starts_leave dc_Starts_leave pm_Starts_leave an_Starts_leave co_Starts_leave ct_Starts_leave), sl_Starts_leave⟩)
    (c_Starts_leave_cd : PySem.W.codeIn K co_Starts_leave "Starts.leave" = true)
    (k_Starts_leave : PySem.W.keepIn K (.ref i_Starts_leave) = true)
    {i_Starts_fit_in : Addr} {od_Starts_fit_in an_Starts_fit_in : Option Addr} {sl_Starts_fit_in : Array (Option Value)} {oc_Starts_fit_in kV_Starts_fit_in dc_Starts_fit_in pm_Starts_fit_in co_Starts_fit_in ct_Starts_fit_in : Value}
    (a_Starts_fit_in : PySem.W.findIn K (.ref c_Starts) "fit_in" = some (some (.ref i_Starts_fit_in)))
    (i_Starts_fit_in_fn : PySem.W.isFn K (.ref i_Starts_fit_in) = true)
    (l_Starts_fit_in : K.lookup i_Starts_fit_in = some ⟨oc_Starts_fit_in, od_Starts_fit_in, .func (PySem.W.fnOf "fit_in" "Starts.fit_in" (defArgs s_Starts_fit_in) (defBody s_Starts_fit_in) (defScope s_Starts_fit_in) .none kV_Starts_fit_in dc_Starts_fit_in pm_Starts_fit_in an_Starts_fit_in co_Starts_fit_in ct_Starts_fit_in), sl_Starts_fit_in⟩)
    (c_Starts_fit_in_cd : PySem.W.codeIn K co_Starts_fit_in "Starts.fit_in" = true)
    (k_Starts_fit_in : PySem.W.keepIn K (.ref i_Starts_fit_in) = true)
    {i_Starts_stands : Addr} {od_Starts_stands an_Starts_stands : Option Addr} {sl_Starts_stands : Array (Option Value)} {oc_Starts_stands kV_Starts_stands dc_Starts_stands pm_Starts_stands co_Starts_stands ct_Starts_stands : Value}
    (a_Starts_stands : PySem.W.findIn K (.ref c_Starts) "stands" = some (some (.ref i_Starts_stands)))
    (i_Starts_stands_fn : PySem.W.isFn K (.ref i_Starts_stands) = true)
    (l_Starts_stands : K.lookup i_Starts_stands = some ⟨oc_Starts_stands, od_Starts_stands, .func (PySem.W.fnOf "stands" "Starts.stands" (defArgs s_Starts_stands) (defBody s_Starts_stands) (defScope s_Starts_stands) .none kV_Starts_stands dc_Starts_stands pm_Starts_stands an_Starts_stands co_Starts_stands ct_Starts_stands), sl_Starts_stands⟩)
    (c_Starts_stands_cd : PySem.W.codeIn K co_Starts_stands "Starts.stands" = true)
    (k_Starts_stands : PySem.W.keepIn K (.ref i_Starts_stands) = true)
    {i_Starts_up_Chooser : Addr} {od_Starts_up_Chooser an_Starts_up_Chooser : Option Addr} {sl_Starts_up_Chooser : Array (Option Value)} {oc_Starts_up_Chooser kV_Starts_up_Chooser dc_Starts_up_Chooser pm_Starts_up_Chooser co_Starts_up_Chooser ct_Starts_up_Chooser : Value}
    (a_Starts_up_Chooser : PySem.W.findIn K (.ref c_Chooser) "__init__" = some (some (.ref i_Starts_up_Chooser)))
    (i_Starts_up_Chooser_fn : PySem.W.isFn K (.ref i_Starts_up_Chooser) = true)
    (l_Starts_up_Chooser : K.lookup i_Starts_up_Chooser = some ⟨oc_Starts_up_Chooser, od_Starts_up_Chooser, .func (PySem.W.fnOf "__init__" "Chooser.__init__" (defArgs s_Starts_up_Chooser) (defBody s_Starts_up_Chooser) (defScope s_Starts_up_Chooser) .none kV_Starts_up_Chooser dc_Starts_up_Chooser pm_Starts_up_Chooser an_Starts_up_Chooser co_Starts_up_Chooser ct_Starts_up_Chooser), sl_Starts_up_Chooser⟩)
    (c_Starts_up_Chooser_cd : PySem.W.codeIn K co_Starts_up_Chooser "Chooser.__init__" = true)
    (r_Starts_up_Chooser : PySem.W.readsIn K c_Chooser (.type "type") = true)
    (q_Starts_up_Chooser : PySem.W.findCls K (.ref c_Chooser) (.type "type") "__init__" = some (.val (.ref i_Starts_up_Chooser)))
    (g_Starts_up_Chooser : PySem.W.specialIn K (.ref c_Chooser) "__getattribute__" = some (some (.builtin "type.__getattribute__")))
    (k_Starts_up_Chooser : PySem.W.keepIn K (.ref i_Starts_up_Chooser) = true)
    {i_Starts_put : Addr} {od_Starts_put an_Starts_put : Option Addr} {sl_Starts_put : Array (Option Value)} {oc_Starts_put kV_Starts_put dc_Starts_put pm_Starts_put co_Starts_put ct_Starts_put : Value}
    (a_Starts_put : PySem.W.findIn K (.ref c_Starts) "put" = some (some (.ref i_Starts_put)))
    (i_Starts_put_fn : PySem.W.isFn K (.ref i_Starts_put) = true)
    (l_Starts_put : K.lookup i_Starts_put = some ⟨oc_Starts_put, od_Starts_put, .func (PySem.W.fnOf "put" "Chooser.put" (defArgs s_Starts_put) (defBody s_Starts_put) (defScope s_Starts_put) .none kV_Starts_put dc_Starts_put pm_Starts_put an_Starts_put co_Starts_put ct_Starts_put), sl_Starts_put⟩)
    (c_Starts_put_cd : PySem.W.codeIn K co_Starts_put "Chooser.put" = true)
    (k_Starts_put : PySem.W.keepIn K (.ref i_Starts_put) = true)
    {i_Starts_take : Addr} {od_Starts_take an_Starts_take : Option Addr} {sl_Starts_take : Array (Option Value)} {oc_Starts_take kV_Starts_take dc_Starts_take pm_Starts_take co_Starts_take ct_Starts_take : Value}
    (a_Starts_take : PySem.W.findIn K (.ref c_Starts) "take" = some (some (.ref i_Starts_take)))
    (i_Starts_take_fn : PySem.W.isFn K (.ref i_Starts_take) = true)
    (l_Starts_take : K.lookup i_Starts_take = some ⟨oc_Starts_take, od_Starts_take, .func (PySem.W.fnOf "take" "Chooser.take" (defArgs s_Starts_take) (defBody s_Starts_take) (defScope s_Starts_take) .none kV_Starts_take dc_Starts_take pm_Starts_take an_Starts_take co_Starts_take ct_Starts_take), sl_Starts_take⟩)
    (c_Starts_take_cd : PySem.W.codeIn K co_Starts_take "Chooser.take" = true)
    (k_Starts_take : PySem.W.keepIn K (.ref i_Starts_take) = true)
    {i_Starts_reshare : Addr} {od_Starts_reshare an_Starts_reshare : Option Addr} {sl_Starts_reshare : Array (Option Value)} {oc_Starts_reshare kV_Starts_reshare dc_Starts_reshare pm_Starts_reshare co_Starts_reshare ct_Starts_reshare : Value}
    (a_Starts_reshare : PySem.W.findIn K (.ref c_Starts) "reshare" = some (some (.ref i_Starts_reshare)))
    (i_Starts_reshare_fn : PySem.W.isFn K (.ref i_Starts_reshare) = true)
    (l_Starts_reshare : K.lookup i_Starts_reshare = some ⟨oc_Starts_reshare, od_Starts_reshare, .func (PySem.W.fnOf "reshare" "Chooser.reshare" (defArgs s_Starts_reshare) (defBody s_Starts_reshare) (defScope s_Starts_reshare) .none kV_Starts_reshare dc_Starts_reshare pm_Starts_reshare an_Starts_reshare co_Starts_reshare ct_Starts_reshare), sl_Starts_reshare⟩)
    (c_Starts_reshare_cd : PySem.W.codeIn K co_Starts_reshare "Chooser.reshare" = true)
    (k_Starts_reshare : PySem.W.keepIn K (.ref i_Starts_reshare) = true)
    {i_Starts_names : Addr} {od_Starts_names an_Starts_names : Option Addr} {sl_Starts_names : Array (Option Value)} {oc_Starts_names kV_Starts_names dc_Starts_names pm_Starts_names co_Starts_names ct_Starts_names : Value}
    (a_Starts_names : PySem.W.findIn K (.ref c_Starts) "names" = some (some (.ref i_Starts_names)))
    (i_Starts_names_fn : PySem.W.isFn K (.ref i_Starts_names) = true)
    (l_Starts_names : K.lookup i_Starts_names = some ⟨oc_Starts_names, od_Starts_names, .func (PySem.W.fnOf "names" "Chooser.names" (defArgs s_Starts_names) (defBody s_Starts_names) (defScope s_Starts_names) .none kV_Starts_names dc_Starts_names pm_Starts_names an_Starts_names co_Starts_names ct_Starts_names), sl_Starts_names⟩)
    (c_Starts_names_cd : PySem.W.codeIn K co_Starts_names "Chooser.names" = true)
    (k_Starts_names : PySem.W.keepIn K (.ref i_Starts_names) = true)
    {i_Starts_share_of : Addr} {od_Starts_share_of an_Starts_share_of : Option Addr} {sl_Starts_share_of : Array (Option Value)} {oc_Starts_share_of kV_Starts_share_of dc_Starts_share_of pm_Starts_share_of co_Starts_share_of ct_Starts_share_of : Value}
    (a_Starts_share_of : PySem.W.findIn K (.ref c_Starts) "share_of" = some (some (.ref i_Starts_share_of)))
    (i_Starts_share_of_fn : PySem.W.isFn K (.ref i_Starts_share_of) = true)
    (l_Starts_share_of : K.lookup i_Starts_share_of = some ⟨oc_Starts_share_of, od_Starts_share_of, .func (PySem.W.fnOf "share_of" "Chooser.share_of" (defArgs s_Starts_share_of) (defBody s_Starts_share_of) (defScope s_Starts_share_of) .none kV_Starts_share_of dc_Starts_share_of pm_Starts_share_of an_Starts_share_of co_Starts_share_of ct_Starts_share_of), sl_Starts_share_of⟩)
    (c_Starts_share_of_cd : PySem.W.codeIn K co_Starts_share_of "Chooser.share_of" = true)
    (k_Starts_share_of : PySem.W.keepIn K (.ref i_Starts_share_of) = true)
    {i_Starts_part : Addr} {od_Starts_part an_Starts_part : Option Addr} {sl_Starts_part : Array (Option Value)} {oc_Starts_part kV_Starts_part dc_Starts_part pm_Starts_part co_Starts_part ct_Starts_part : Value}
    (a_Starts_part : PySem.W.findIn K (.ref c_Starts) "part" = some (some (.ref i_Starts_part)))
    (i_Starts_part_fn : PySem.W.isFn K (.ref i_Starts_part) = true)
    (l_Starts_part : K.lookup i_Starts_part = some ⟨oc_Starts_part, od_Starts_part, .func (PySem.W.fnOf "part" "Chooser.part" (defArgs s_Starts_part) (defBody s_Starts_part) (defScope s_Starts_part) .none kV_Starts_part dc_Starts_part pm_Starts_part an_Starts_part co_Starts_part ct_Starts_part), sl_Starts_part⟩)
    (c_Starts_part_cd : PySem.W.codeIn K co_Starts_part "Chooser.part" = true)
    (k_Starts_part : PySem.W.keepIn K (.ref i_Starts_part) = true)
    {c_Rounds : Addr}
    (b_Rounds : PySem.W.nsIn K mainGlobals "Rounds" = some (some (.ref c_Rounds)))
    (pg_Rounds : PySem.W.plainGet K c_Rounds Str.empty = true)
    (hd_Rounds : PySem.W.hasDictIn K c_Rounds = true)
    (po_Rounds : PySem.W.plainOver K c_Rounds = true)
    (sa_Rounds : PySem.W.findIn K (.ref c_Rounds) "__setattr__" = some (some (.builtin "object.__setattr__")))
    (mk_Rounds : PySem.W.makesIn K c_Rounds = true)
    (kc_Rounds : PySem.W.keepIn K (.ref c_Rounds) = true)
    (na_Rounds_queue : PySem.W.findIn K (.ref c_Rounds) "queue" = some none)
    (na_Rounds_rests : PySem.W.findIn K (.ref c_Rounds) "rests" = some none)
    (na_Rounds_turn : PySem.W.findIn K (.ref c_Rounds) "turn" = some none)
    (na_Rounds_most : PySem.W.findIn K (.ref c_Rounds) "most" = some none)
    (na_Rounds_members : PySem.W.findIn K (.ref c_Rounds) "members" = some none)
    (na_Rounds_chosen : PySem.W.findIn K (.ref c_Rounds) "chosen" = some none)
    {i_Rounds_init : Addr} {od_Rounds_init an_Rounds_init : Option Addr} {sl_Rounds_init : Array (Option Value)} {oc_Rounds_init kV_Rounds_init dc_Rounds_init pm_Rounds_init co_Rounds_init ct_Rounds_init : Value}
    (a_Rounds_init : PySem.W.findIn K (.ref c_Rounds) "__init__" = some (some (.ref i_Rounds_init)))
    (i_Rounds_init_fn : PySem.W.isFn K (.ref i_Rounds_init) = true)
    (l_Rounds_init : K.lookup i_Rounds_init = some ⟨oc_Rounds_init, od_Rounds_init, .func (PySem.W.fnOf "__init__" "Rounds.__init__" (defArgs s_Rounds_init) (defBody s_Rounds_init) (defScope s_Rounds_init) .none kV_Rounds_init dc_Rounds_init pm_Rounds_init an_Rounds_init co_Rounds_init ct_Rounds_init), sl_Rounds_init⟩)
    (c_Rounds_init_cd : PySem.W.codeIn K co_Rounds_init "Rounds.__init__" = true)
    (k_Rounds_init : PySem.W.keepIn K (.ref i_Rounds_init) = true)
    {i_Rounds_enter : Addr} {od_Rounds_enter an_Rounds_enter : Option Addr} {sl_Rounds_enter : Array (Option Value)} {oc_Rounds_enter kV_Rounds_enter dc_Rounds_enter pm_Rounds_enter co_Rounds_enter ct_Rounds_enter : Value}
    (a_Rounds_enter : PySem.W.findIn K (.ref c_Rounds) "enter" = some (some (.ref i_Rounds_enter)))
    (i_Rounds_enter_fn : PySem.W.isFn K (.ref i_Rounds_enter) = true)
    (l_Rounds_enter : K.lookup i_Rounds_enter = some ⟨oc_Rounds_enter, od_Rounds_enter, .func (PySem.W.fnOf "enter" "Rounds.enter" (defArgs s_Rounds_enter) (defBody s_Rounds_enter) (defScope s_Rounds_enter) .none kV_Rounds_enter dc_Rounds_enter pm_Rounds_enter an_Rounds_enter co_Rounds_enter ct_Rounds_enter), sl_Rounds_enter⟩)
    (c_Rounds_enter_cd : PySem.W.codeIn K co_Rounds_enter "Rounds.enter" = true)
    (k_Rounds_enter : PySem.W.keepIn K (.ref i_Rounds_enter) = true)
    {i_Rounds_leave : Addr} {od_Rounds_leave an_Rounds_leave : Option Addr} {sl_Rounds_leave : Array (Option Value)} {oc_Rounds_leave kV_Rounds_leave dc_Rounds_leave pm_Rounds_leave co_Rounds_leave ct_Rounds_leave : Value}
    (a_Rounds_leave : PySem.W.findIn K (.ref c_Rounds) "leave" = some (some (.ref i_Rounds_leave)))
    (i_Rounds_leave_fn : PySem.W.isFn K (.ref i_Rounds_leave) = true)
    (l_Rounds_leave : K.lookup i_Rounds_leave = some ⟨oc_Rounds_leave, od_Rounds_leave, .func (PySem.W.fnOf "leave" "Rounds.leave" (defArgs s_Rounds_leave) (defBody s_Rounds_leave) (defScope s_Rounds_leave) .none kV_Rounds_leave dc_Rounds_leave pm_Rounds_leave an_Rounds_leave co_Rounds_leave ct_Rounds_leave), sl_Rounds_leave⟩)
    (c_Rounds_leave_cd : PySem.W.codeIn K co_Rounds_leave "Rounds.leave" = true)
    (k_Rounds_leave : PySem.W.keepIn K (.ref i_Rounds_leave) = true)
    {i_Rounds_full_rest : Addr} {od_Rounds_full_rest an_Rounds_full_rest : Option Addr} {sl_Rounds_full_rest : Array (Option Value)} {oc_Rounds_full_rest kV_Rounds_full_rest dc_Rounds_full_rest pm_Rounds_full_rest co_Rounds_full_rest ct_Rounds_full_rest : Value}
    (a_Rounds_full_rest : PySem.W.findIn K (.ref c_Rounds) "full_rest" = some (some (.ref i_Rounds_full_rest)))
    (i_Rounds_full_rest_fn : PySem.W.isFn K (.ref i_Rounds_full_rest) = true)
    (l_Rounds_full_rest : K.lookup i_Rounds_full_rest = some ⟨oc_Rounds_full_rest, od_Rounds_full_rest, .func (PySem.W.fnOf "full_rest" "Rounds.full_rest" (defArgs s_Rounds_full_rest) (defBody s_Rounds_full_rest) (defScope s_Rounds_full_rest) .none kV_Rounds_full_rest dc_Rounds_full_rest pm_Rounds_full_rest an_Rounds_full_rest co_Rounds_full_rest ct_Rounds_full_rest), sl_Rounds_full_rest⟩)
    (c_Rounds_full_rest_cd : PySem.W.codeIn K co_Rounds_full_rest "Rounds.full_rest" = true)
    (k_Rounds_full_rest : PySem.W.keepIn K (.ref i_Rounds_full_rest) = true)
    {i_Rounds_fit_in : Addr} {od_Rounds_fit_in an_Rounds_fit_in : Option Addr} {sl_Rounds_fit_in : Array (Option Value)} {oc_Rounds_fit_in kV_Rounds_fit_in dc_Rounds_fit_in pm_Rounds_fit_in co_Rounds_fit_in ct_Rounds_fit_in : Value}
    (a_Rounds_fit_in : PySem.W.findIn K (.ref c_Rounds) "fit_in" = some (some (.ref i_Rounds_fit_in)))
    (i_Rounds_fit_in_fn : PySem.W.isFn K (.ref i_Rounds_fit_in) = true)
    (l_Rounds_fit_in : K.lookup i_Rounds_fit_in = some ⟨oc_Rounds_fit_in, od_Rounds_fit_in, .func (PySem.W.fnOf "fit_in" "Rounds.fit_in" (defArgs s_Rounds_fit_in) (defBody s_Rounds_fit_in) (defScope s_Rounds_fit_in) .none kV_Rounds_fit_in dc_Rounds_fit_in pm_Rounds_fit_in an_Rounds_fit_in co_Rounds_fit_in ct_Rounds_fit_in), sl_Rounds_fit_in⟩)
    (c_Rounds_fit_in_cd : PySem.W.codeIn K co_Rounds_fit_in "Rounds.fit_in" = true)
    (k_Rounds_fit_in : PySem.W.keepIn K (.ref i_Rounds_fit_in) = true)
    {i_Rounds_rest : Addr} {od_Rounds_rest an_Rounds_rest : Option Addr} {sl_Rounds_rest : Array (Option Value)} {oc_Rounds_rest kV_Rounds_rest dc_Rounds_rest pm_Rounds_rest co_Rounds_rest ct_Rounds_rest : Value}
    (a_Rounds_rest : PySem.W.findIn K (.ref c_Rounds) "rest" = some (some (.ref i_Rounds_rest)))
    (i_Rounds_rest_fn : PySem.W.isFn K (.ref i_Rounds_rest) = true)
    (l_Rounds_rest : K.lookup i_Rounds_rest = some ⟨oc_Rounds_rest, od_Rounds_rest, .func (PySem.W.fnOf "rest" "Rounds.rest" (defArgs s_Rounds_rest) (defBody s_Rounds_rest) (defScope s_Rounds_rest) .none kV_Rounds_rest dc_Rounds_rest pm_Rounds_rest an_Rounds_rest co_Rounds_rest ct_Rounds_rest), sl_Rounds_rest⟩)
    (c_Rounds_rest_cd : PySem.W.codeIn K co_Rounds_rest "Rounds.rest" = true)
    (k_Rounds_rest : PySem.W.keepIn K (.ref i_Rounds_rest) = true)
    {i_Rounds_up_Chooser : Addr} {od_Rounds_up_Chooser an_Rounds_up_Chooser : Option Addr} {sl_Rounds_up_Chooser : Array (Option Value)} {oc_Rounds_up_Chooser kV_Rounds_up_Chooser dc_Rounds_up_Chooser pm_Rounds_up_Chooser co_Rounds_up_Chooser ct_Rounds_up_Chooser : Value}
    (a_Rounds_up_Chooser : PySem.W.findIn K (.ref c_Chooser) "__init__" = some (some (.ref i_Rounds_up_Chooser)))
    (i_Rounds_up_Chooser_fn : PySem.W.isFn K (.ref i_Rounds_up_Chooser) = true)
    (l_Rounds_up_Chooser : K.lookup i_Rounds_up_Chooser = some ⟨oc_Rounds_up_Chooser, od_Rounds_up_Chooser, .func (PySem.W.fnOf "__init__" "Chooser.__init__" (defArgs s_Rounds_up_Chooser) (defBody s_Rounds_up_Chooser) (defScope s_Rounds_up_Chooser) .none kV_Rounds_up_Chooser dc_Rounds_up_Chooser pm_Rounds_up_Chooser an_Rounds_up_Chooser co_Rounds_up_Chooser ct_Rounds_up_Chooser), sl_Rounds_up_Chooser⟩)
    (c_Rounds_up_Chooser_cd : PySem.W.codeIn K co_Rounds_up_Chooser "Chooser.__init__" = true)
    (r_Rounds_up_Chooser : PySem.W.readsIn K c_Chooser (.type "type") = true)
    (q_Rounds_up_Chooser : PySem.W.findCls K (.ref c_Chooser) (.type "type") "__init__" = some (.val (.ref i_Rounds_up_Chooser)))
    (g_Rounds_up_Chooser : PySem.W.specialIn K (.ref c_Chooser) "__getattribute__" = some (some (.builtin "type.__getattribute__")))
    (k_Rounds_up_Chooser : PySem.W.keepIn K (.ref i_Rounds_up_Chooser) = true)
    {i_Rounds_put : Addr} {od_Rounds_put an_Rounds_put : Option Addr} {sl_Rounds_put : Array (Option Value)} {oc_Rounds_put kV_Rounds_put dc_Rounds_put pm_Rounds_put co_Rounds_put ct_Rounds_put : Value}
    (a_Rounds_put : PySem.W.findIn K (.ref c_Rounds) "put" = some (some (.ref i_Rounds_put)))
    (i_Rounds_put_fn : PySem.W.isFn K (.ref i_Rounds_put) = true)
    (l_Rounds_put : K.lookup i_Rounds_put = some ⟨oc_Rounds_put, od_Rounds_put, .func (PySem.W.fnOf "put" "Chooser.put" (defArgs s_Rounds_put) (defBody s_Rounds_put) (defScope s_Rounds_put) .none kV_Rounds_put dc_Rounds_put pm_Rounds_put an_Rounds_put co_Rounds_put ct_Rounds_put), sl_Rounds_put⟩)
    (c_Rounds_put_cd : PySem.W.codeIn K co_Rounds_put "Chooser.put" = true)
    (k_Rounds_put : PySem.W.keepIn K (.ref i_Rounds_put) = true)
    {i_Rounds_take : Addr} {od_Rounds_take an_Rounds_take : Option Addr} {sl_Rounds_take : Array (Option Value)} {oc_Rounds_take kV_Rounds_take dc_Rounds_take pm_Rounds_take co_Rounds_take ct_Rounds_take : Value}
    (a_Rounds_take : PySem.W.findIn K (.ref c_Rounds) "take" = some (some (.ref i_Rounds_take)))
    (i_Rounds_take_fn : PySem.W.isFn K (.ref i_Rounds_take) = true)
    (l_Rounds_take : K.lookup i_Rounds_take = some ⟨oc_Rounds_take, od_Rounds_take, .func (PySem.W.fnOf "take" "Chooser.take" (defArgs s_Rounds_take) (defBody s_Rounds_take) (defScope s_Rounds_take) .none kV_Rounds_take dc_Rounds_take pm_Rounds_take an_Rounds_take co_Rounds_take ct_Rounds_take), sl_Rounds_take⟩)
    (c_Rounds_take_cd : PySem.W.codeIn K co_Rounds_take "Chooser.take" = true)
    (k_Rounds_take : PySem.W.keepIn K (.ref i_Rounds_take) = true)
    {i_Rounds_reshare : Addr} {od_Rounds_reshare an_Rounds_reshare : Option Addr} {sl_Rounds_reshare : Array (Option Value)} {oc_Rounds_reshare kV_Rounds_reshare dc_Rounds_reshare pm_Rounds_reshare co_Rounds_reshare ct_Rounds_reshare : Value}
    (a_Rounds_reshare : PySem.W.findIn K (.ref c_Rounds) "reshare" = some (some (.ref i_Rounds_reshare)))
    (i_Rounds_reshare_fn : PySem.W.isFn K (.ref i_Rounds_reshare) = true)
    (l_Rounds_reshare : K.lookup i_Rounds_reshare = some ⟨oc_Rounds_reshare, od_Rounds_reshare, .func (PySem.W.fnOf "reshare" "Chooser.reshare" (defArgs s_Rounds_reshare) (defBody s_Rounds_reshare) (defScope s_Rounds_reshare) .none kV_Rounds_reshare dc_Rounds_reshare pm_Rounds_reshare an_Rounds_reshare co_Rounds_reshare ct_Rounds_reshare), sl_Rounds_reshare⟩)
    (c_Rounds_reshare_cd : PySem.W.codeIn K co_Rounds_reshare "Chooser.reshare" = true)
    (k_Rounds_reshare : PySem.W.keepIn K (.ref i_Rounds_reshare) = true)
    {i_Rounds_names : Addr} {od_Rounds_names an_Rounds_names : Option Addr} {sl_Rounds_names : Array (Option Value)} {oc_Rounds_names kV_Rounds_names dc_Rounds_names pm_Rounds_names co_Rounds_names ct_Rounds_names : Value}
    (a_Rounds_names : PySem.W.findIn K (.ref c_Rounds) "names" = some (some (.ref i_Rounds_names)))
    (i_Rounds_names_fn : PySem.W.isFn K (.ref i_Rounds_names) = true)
    (l_Rounds_names : K.lookup i_Rounds_names = some ⟨oc_Rounds_names, od_Rounds_names, .func (PySem.W.fnOf "names" "Chooser.names" (defArgs s_Rounds_names) (defBody s_Rounds_names) (defScope s_Rounds_names) .none kV_Rounds_names dc_Rounds_names pm_Rounds_names an_Rounds_names co_Rounds_names ct_Rounds_names), sl_Rounds_names⟩)
    (c_Rounds_names_cd : PySem.W.codeIn K co_Rounds_names "Chooser.names" = true)
    (k_Rounds_names : PySem.W.keepIn K (.ref i_Rounds_names) = true)
    {i_Rounds_share_of : Addr} {od_Rounds_share_of an_Rounds_share_of : Option Addr} {sl_Rounds_share_of : Array (Option Value)} {oc_Rounds_share_of kV_Rounds_share_of dc_Rounds_share_of pm_Rounds_share_of co_Rounds_share_of ct_Rounds_share_of : Value}
    (a_Rounds_share_of : PySem.W.findIn K (.ref c_Rounds) "share_of" = some (some (.ref i_Rounds_share_of)))
    (i_Rounds_share_of_fn : PySem.W.isFn K (.ref i_Rounds_share_of) = true)
    (l_Rounds_share_of : K.lookup i_Rounds_share_of = some ⟨oc_Rounds_share_of, od_Rounds_share_of, .func (PySem.W.fnOf "share_of" "Chooser.share_of" (defArgs s_Rounds_share_of) (defBody s_Rounds_share_of) (defScope s_Rounds_share_of) .none kV_Rounds_share_of dc_Rounds_share_of pm_Rounds_share_of an_Rounds_share_of co_Rounds_share_of ct_Rounds_share_of), sl_Rounds_share_of⟩)
    (c_Rounds_share_of_cd : PySem.W.codeIn K co_Rounds_share_of "Chooser.share_of" = true)
    (k_Rounds_share_of : PySem.W.keepIn K (.ref i_Rounds_share_of) = true)
    {i_Rounds_part : Addr} {od_Rounds_part an_Rounds_part : Option Addr} {sl_Rounds_part : Array (Option Value)} {oc_Rounds_part kV_Rounds_part dc_Rounds_part pm_Rounds_part co_Rounds_part ct_Rounds_part : Value}
    (a_Rounds_part : PySem.W.findIn K (.ref c_Rounds) "part" = some (some (.ref i_Rounds_part)))
    (i_Rounds_part_fn : PySem.W.isFn K (.ref i_Rounds_part) = true)
    (l_Rounds_part : K.lookup i_Rounds_part = some ⟨oc_Rounds_part, od_Rounds_part, .func (PySem.W.fnOf "part" "Chooser.part" (defArgs s_Rounds_part) (defBody s_Rounds_part) (defScope s_Rounds_part) .none kV_Rounds_part dc_Rounds_part pm_Rounds_part an_Rounds_part co_Rounds_part ct_Rounds_part), sl_Rounds_part⟩)
    (c_Rounds_part_cd : PySem.W.codeIn K co_Rounds_part "Chooser.part" = true)
    (k_Rounds_part : PySem.W.keepIn K (.ref i_Rounds_part) = true)
    {cd_Chooser : ClassData}
    (ci_Chooser : PySem.W.clsIn K c_Chooser = some cd_Chooser)
    (ti_Chooser : PySem.W.typeIn K (.ref c_Chooser) = some (.type "type"))
    (ic_Starts : PySem.W.findIn K (.ref c_Starts) "__class__" = some (some (.builtin "object.__class__")))
    (io_Starts : PySem.W.mroIn K c_Starts (.type "object") = some true)
    (s_Starts_Chooser : PySem.W.subIn K (.ref c_Starts) (.ref c_Chooser) = some true)
    (n_Starts_Chooser : (Value.ref c_Starts == Value.ref c_Chooser) = false)
    (ic_Rounds : PySem.W.findIn K (.ref c_Rounds) "__class__" = some (some (.builtin "object.__class__")))
    (io_Rounds : PySem.W.mroIn K c_Rounds (.type "object") = some true)
    (s_Rounds_Chooser : PySem.W.subIn K (.ref c_Rounds) (.ref c_Chooser) = some true)
    (n_Rounds_Chooser : (Value.ref c_Rounds == Value.ref c_Chooser) = false)
    : ∃ fd : FuncData, (∀ (s : Shared) (v : Value), BindsTo s fd ⟨[v], []⟩ [("_law_script", v)]) ∧ ∀ base : Heap, K.In base → base.Ns mainGlobals mg → FnOk l.prog w K mg base CX0 9 fa fd ["_law_script"] (spLaw K) := by
  have e := hfa.symm.trans (PySem.W.mg_of X G a21)
  cases e
  have xc_WheelError : XC K c_WheelError := ⟨hd_WheelError, ga_WheelError, gn_WheelError, sa_WheelError, cl_WheelError, kg, kt, be_WheelError, ob_WheelError, xc_plain ex_WheelError⟩
  have xc_Taken : XC K c_Taken := ⟨hd_Taken, ga_Taken, gn_Taken, sa_Taken, cl_Taken, kg, kt, be_Taken, ob_Taken, xc_plain ex_Taken⟩
  have xc_NoClass : XC K c_NoClass := ⟨hd_NoClass, ga_NoClass, gn_NoClass, sa_NoClass, cl_NoClass, kg, kt, be_NoClass, ob_NoClass, xc_plain ex_NoClass⟩
  have xc_NoShare : XC K c_NoShare := ⟨hd_NoShare, ga_NoShare, gn_NoShare, sa_NoShare, cl_NoShare, kg, kt, be_NoShare, ob_NoShare, xc_plain ex_NoShare⟩
  have F1 := fun_mk (st := s_divisor) l1 c1 k1
  have F2 := fun_mk (st := s_ratio) l2 c2 k2
  have F3 := fun_mk (st := s_under) l3 c3 k3
  have F4 := fun_mk (st := s_greater) l4 c4 k4
  have F5 := fun_mk (st := s_check_share) l5 c5 k5
  have F6 := fun_mk (st := s__law_cell_at) l6 c6 k6
  have F7 := fun_mk (st := s__law_mixed) l7 c7 k7
  have F8 := fun_mk (st := s__law_name) l8 c8 k8
  have F9 := fun_mk (st := s__law_share) l9 c9 k9
  have F10 := fun_mk (st := s__law_shared) l10 c10 k10
  have F11 := fun_mk (st := s__law_put) l11 c11 k11
  have F12 := fun_mk (st := s__law_reshare) l12 c12 k12
  have F13 := fun_mk (st := s__law_take) l13 c13 k13
  have F14 := fun_mk (st := s__law_due) l14 c14 k14
  have F15 := fun_mk (st := s__law_deed) l15 c15 k15
  have F16 := fun_mk (st := s__law_strange) l16 c16 k16
  have F17 := fun_mk (st := s__law_child) l17 c17 k17
  have F18 := fun_mk (st := s__law_told) l18 c18 k18
  have F19 := fun_mk (st := s__law_most) l19 c19 k19
  have F20 := fun_mk (st := s__law_chooser) l20 c20 k20
  have F_Members_init := funE_mk (st := s_Members_init) l_Members_init c_Members_init_cd
  have B_Members_init := (fun_mk (st := s_Members_init) l_Members_init c_Members_init_cd k_Members_init).binds (ps := ["self"]) (fun _ _ _ _ _ _ => L2.el1 (fun _ => rfl))
  have F_Members_check_name := funE_mk (st := s_Members_check_name) l_Members_check_name c_Members_check_name_cd
  have B_Members_check_name := (fun_mk (st := s_Members_check_name) l_Members_check_name c_Members_check_name_cd k_Members_check_name).binds (ps := ["self", "name"]) (fun _ _ _ _ _ _ => L2.el2 (fun _ _ => rfl))
  have F_Members_put := funE_mk (st := s_Members_put) l_Members_put c_Members_put_cd
  have B_Members_put := (fun_mk (st := s_Members_put) l_Members_put c_Members_put_cd k_Members_put).binds (ps := ["self", "name", "share"]) (fun _ _ _ _ _ _ => L2.el3 (fun _ _ _ => rfl))
  have F_Members_take := funE_mk (st := s_Members_take) l_Members_take c_Members_take_cd
  have B_Members_take := (fun_mk (st := s_Members_take) l_Members_take c_Members_take_cd k_Members_take).binds (ps := ["self", "name"]) (fun _ _ _ _ _ _ => L2.el2 (fun _ _ => rfl))
  have F_Members_reshare := funE_mk (st := s_Members_reshare) l_Members_reshare c_Members_reshare_cd
  have B_Members_reshare := (fun_mk (st := s_Members_reshare) l_Members_reshare c_Members_reshare_cd k_Members_reshare).binds (ps := ["self", "name", "share"]) (fun _ _ _ _ _ _ => L2.el3 (fun _ _ _ => rfl))
  have F_Members_names := funE_mk (st := s_Members_names) l_Members_names c_Members_names_cd
  have B_Members_names := (fun_mk (st := s_Members_names) l_Members_names c_Members_names_cd k_Members_names).binds (ps := ["self"]) (fun _ _ _ _ _ _ => L2.el1 (fun _ => rfl))
  have F_Members_share_of := funE_mk (st := s_Members_share_of) l_Members_share_of c_Members_share_of_cd
  have B_Members_share_of := (fun_mk (st := s_Members_share_of) l_Members_share_of c_Members_share_of_cd k_Members_share_of).binds (ps := ["self", "name"]) (fun _ _ _ _ _ _ => L2.el2 (fun _ _ => rfl))
  have F_Members_all_shares := funE_mk (st := s_Members_all_shares) l_Members_all_shares c_Members_all_shares_cd
  have B_Members_all_shares := (fun_mk (st := s_Members_all_shares) l_Members_all_shares c_Members_all_shares_cd k_Members_all_shares).binds (ps := ["self"]) (fun _ _ _ _ _ _ => L2.el1 (fun _ => rfl))
  have F_Members_part := funE_mk (st := s_Members_part) l_Members_part c_Members_part_cd
  have B_Members_part := (fun_mk (st := s_Members_part) l_Members_part c_Members_part_cd k_Members_part).binds (ps := ["self", "name"]) (fun _ _ _ _ _ _ => L2.el2 (fun _ _ => rfl))
  have F_Starts_init := funE_mk (st := s_Starts_init) l_Starts_init c_Starts_init_cd
  have B_Starts_init := (fun_mk (st := s_Starts_init) l_Starts_init c_Starts_init_cd k_Starts_init).binds (ps := ["self", "most"]) (fun _ _ _ _ _ _ => L2.el2 (fun _ _ => rfl))
  have F_Starts_enter := funE_mk (st := s_Starts_enter) l_Starts_enter c_Starts_enter_cd
  have B_Starts_enter := (fun_mk (st := s_Starts_enter) l_Starts_enter c_Starts_enter_cd k_Starts_enter).binds (ps := ["self", "name"]) (fun _ _ _ _ _ _ => L2.el2 (fun _ _ => rfl))
  have F_Starts_leave := funE_mk (st := s_Starts_leave) l_Starts_leave c_Starts_leave_cd
  have B_Starts_leave := (fun_mk (st := s_Starts_leave) l_Starts_leave c_Starts_leave_cd k_Starts_leave).binds (ps := ["self", "name"]) (fun _ _ _ _ _ _ => L2.el2 (fun _ _ => rfl))
  have F_Starts_fit_in := funE_mk (st := s_Starts_fit_in) l_Starts_fit_in c_Starts_fit_in_cd
  have B_Starts_fit_in := (fun_mk (st := s_Starts_fit_in) l_Starts_fit_in c_Starts_fit_in_cd k_Starts_fit_in).binds (ps := ["self", "name"]) (fun _ _ _ _ _ _ => L2.el2 (fun _ _ => rfl))
  have F_Starts_stands := funE_mk (st := s_Starts_stands) l_Starts_stands c_Starts_stands_cd
  have B_Starts_stands := (fun_mk (st := s_Starts_stands) l_Starts_stands c_Starts_stands_cd k_Starts_stands).binds (ps := ["self", "name"]) (fun _ _ _ _ _ _ => L2.el2 (fun _ _ => rfl))
  have F_Starts_up_Chooser := funE_mk (st := s_Starts_up_Chooser) l_Starts_up_Chooser c_Starts_up_Chooser_cd
  have B_Starts_up_Chooser := (fun_mk (st := s_Starts_up_Chooser) l_Starts_up_Chooser c_Starts_up_Chooser_cd k_Starts_up_Chooser).binds (ps := ["self", "most"]) (fun _ _ _ _ _ _ => L2.el2 (fun _ _ => rfl))
  have F_Starts_put := funE_mk (st := s_Starts_put) l_Starts_put c_Starts_put_cd
  have B_Starts_put := (fun_mk (st := s_Starts_put) l_Starts_put c_Starts_put_cd k_Starts_put).binds (ps := ["self", "name", "share"]) (fun _ _ _ _ _ _ => L2.el3 (fun _ _ _ => rfl))
  have F_Starts_take := funE_mk (st := s_Starts_take) l_Starts_take c_Starts_take_cd
  have B_Starts_take := (fun_mk (st := s_Starts_take) l_Starts_take c_Starts_take_cd k_Starts_take).binds (ps := ["self", "name"]) (fun _ _ _ _ _ _ => L2.el2 (fun _ _ => rfl))
  have F_Starts_reshare := funE_mk (st := s_Starts_reshare) l_Starts_reshare c_Starts_reshare_cd
  have B_Starts_reshare := (fun_mk (st := s_Starts_reshare) l_Starts_reshare c_Starts_reshare_cd k_Starts_reshare).binds (ps := ["self", "name", "share"]) (fun _ _ _ _ _ _ => L2.el3 (fun _ _ _ => rfl))
  have F_Starts_names := funE_mk (st := s_Starts_names) l_Starts_names c_Starts_names_cd
  have B_Starts_names := (fun_mk (st := s_Starts_names) l_Starts_names c_Starts_names_cd k_Starts_names).binds (ps := ["self"]) (fun _ _ _ _ _ _ => L2.el1 (fun _ => rfl))
  have F_Starts_share_of := funE_mk (st := s_Starts_share_of) l_Starts_share_of c_Starts_share_of_cd
  have B_Starts_share_of := (fun_mk (st := s_Starts_share_of) l_Starts_share_of c_Starts_share_of_cd k_Starts_share_of).binds (ps := ["self", "name"]) (fun _ _ _ _ _ _ => L2.el2 (fun _ _ => rfl))
  have F_Starts_part := funE_mk (st := s_Starts_part) l_Starts_part c_Starts_part_cd
  have B_Starts_part := (fun_mk (st := s_Starts_part) l_Starts_part c_Starts_part_cd k_Starts_part).binds (ps := ["self", "name"]) (fun _ _ _ _ _ _ => L2.el2 (fun _ _ => rfl))
  have F_Rounds_init := funE_mk (st := s_Rounds_init) l_Rounds_init c_Rounds_init_cd
  have B_Rounds_init := (fun_mk (st := s_Rounds_init) l_Rounds_init c_Rounds_init_cd k_Rounds_init).binds (ps := ["self", "most"]) (fun _ _ _ _ _ _ => L2.el2 (fun _ _ => rfl))
  have F_Rounds_enter := funE_mk (st := s_Rounds_enter) l_Rounds_enter c_Rounds_enter_cd
  have B_Rounds_enter := (fun_mk (st := s_Rounds_enter) l_Rounds_enter c_Rounds_enter_cd k_Rounds_enter).binds (ps := ["self", "name"]) (fun _ _ _ _ _ _ => L2.el2 (fun _ _ => rfl))
  have F_Rounds_leave := funE_mk (st := s_Rounds_leave) l_Rounds_leave c_Rounds_leave_cd
  have B_Rounds_leave := (fun_mk (st := s_Rounds_leave) l_Rounds_leave c_Rounds_leave_cd k_Rounds_leave).binds (ps := ["self", "name"]) (fun _ _ _ _ _ _ => L2.el2 (fun _ _ => rfl))
  have F_Rounds_full_rest := funE_mk (st := s_Rounds_full_rest) l_Rounds_full_rest c_Rounds_full_rest_cd
  have B_Rounds_full_rest := (fun_mk (st := s_Rounds_full_rest) l_Rounds_full_rest c_Rounds_full_rest_cd k_Rounds_full_rest).binds (ps := ["self", "name"]) (fun _ _ _ _ _ _ => L2.el2 (fun _ _ => rfl))
  have F_Rounds_fit_in := funE_mk (st := s_Rounds_fit_in) l_Rounds_fit_in c_Rounds_fit_in_cd
  have B_Rounds_fit_in := (fun_mk (st := s_Rounds_fit_in) l_Rounds_fit_in c_Rounds_fit_in_cd k_Rounds_fit_in).binds (ps := ["self", "name"]) (fun _ _ _ _ _ _ => L2.el2 (fun _ _ => rfl))
  have F_Rounds_rest := funE_mk (st := s_Rounds_rest) l_Rounds_rest c_Rounds_rest_cd
  have B_Rounds_rest := (fun_mk (st := s_Rounds_rest) l_Rounds_rest c_Rounds_rest_cd k_Rounds_rest).binds (ps := ["self", "name"]) (fun _ _ _ _ _ _ => L2.el2 (fun _ _ => rfl))
  have F_Rounds_up_Chooser := funE_mk (st := s_Rounds_up_Chooser) l_Rounds_up_Chooser c_Rounds_up_Chooser_cd
  have B_Rounds_up_Chooser := (fun_mk (st := s_Rounds_up_Chooser) l_Rounds_up_Chooser c_Rounds_up_Chooser_cd k_Rounds_up_Chooser).binds (ps := ["self", "most"]) (fun _ _ _ _ _ _ => L2.el2 (fun _ _ => rfl))
  have F_Rounds_put := funE_mk (st := s_Rounds_put) l_Rounds_put c_Rounds_put_cd
  have B_Rounds_put := (fun_mk (st := s_Rounds_put) l_Rounds_put c_Rounds_put_cd k_Rounds_put).binds (ps := ["self", "name", "share"]) (fun _ _ _ _ _ _ => L2.el3 (fun _ _ _ => rfl))
  have F_Rounds_take := funE_mk (st := s_Rounds_take) l_Rounds_take c_Rounds_take_cd
  have B_Rounds_take := (fun_mk (st := s_Rounds_take) l_Rounds_take c_Rounds_take_cd k_Rounds_take).binds (ps := ["self", "name"]) (fun _ _ _ _ _ _ => L2.el2 (fun _ _ => rfl))
  have F_Rounds_reshare := funE_mk (st := s_Rounds_reshare) l_Rounds_reshare c_Rounds_reshare_cd
  have B_Rounds_reshare := (fun_mk (st := s_Rounds_reshare) l_Rounds_reshare c_Rounds_reshare_cd k_Rounds_reshare).binds (ps := ["self", "name", "share"]) (fun _ _ _ _ _ _ => L2.el3 (fun _ _ _ => rfl))
  have F_Rounds_names := funE_mk (st := s_Rounds_names) l_Rounds_names c_Rounds_names_cd
  have B_Rounds_names := (fun_mk (st := s_Rounds_names) l_Rounds_names c_Rounds_names_cd k_Rounds_names).binds (ps := ["self"]) (fun _ _ _ _ _ _ => L2.el1 (fun _ => rfl))
  have F_Rounds_share_of := funE_mk (st := s_Rounds_share_of) l_Rounds_share_of c_Rounds_share_of_cd
  have B_Rounds_share_of := (fun_mk (st := s_Rounds_share_of) l_Rounds_share_of c_Rounds_share_of_cd k_Rounds_share_of).binds (ps := ["self", "name"]) (fun _ _ _ _ _ _ => L2.el2 (fun _ _ => rfl))
  have F_Rounds_part := funE_mk (st := s_Rounds_part) l_Rounds_part c_Rounds_part_cd
  have B_Rounds_part := (fun_mk (st := s_Rounds_part) l_Rounds_part c_Rounds_part_cd k_Rounds_part).binds (ps := ["self", "name"]) (fun _ _ _ _ _ _ => L2.el2 (fun _ _ => rfl))
  have T : Txt K mg c_WheelError c_Taken c_NoClass c_NoShare c_Members c_Chooser c_Starts c_Rounds := ⟨PySem.W.mg_of X G b_WheelError, xc_WheelError, kp_WheelError, ex_WheelError, PySem.W.mg_of X G b_Taken, xc_Taken, kp_Taken, ex_Taken, PySem.W.mg_of X G b_NoClass, xc_NoClass, kp_NoClass, ex_NoClass, PySem.W.mg_of X G b_NoShare, xc_NoShare, kp_NoShare, ex_NoShare, s_Taken_WheelError, kit_of n_Taken_WheelError ci_WheelError ti_WheelError s_Taken_WheelError, s_Taken_Taken, kit_self, s_Taken_NoClass, kit_of n_Taken_NoClass ci_NoClass ti_NoClass s_Taken_NoClass, s_Taken_NoShare, kit_of n_Taken_NoShare ci_NoShare ti_NoShare s_Taken_NoShare, kit_ve v_Taken_VE, s_NoClass_WheelError, kit_of n_NoClass_WheelError ci_WheelError ti_WheelError s_NoClass_WheelError, s_NoClass_Taken, kit_of n_NoClass_Taken ci_Taken ti_Taken s_NoClass_Taken, s_NoClass_NoClass, kit_self, s_NoClass_NoShare, kit_of n_NoClass_NoShare ci_NoShare ti_NoShare s_NoClass_NoShare, kit_ve v_NoClass_VE, s_NoShare_WheelError, kit_of n_NoShare_WheelError ci_WheelError ti_WheelError s_NoShare_WheelError, s_NoShare_Taken, kit_of n_NoShare_Taken ci_Taken ti_Taken s_NoShare_Taken, s_NoShare_NoClass, kit_of n_NoShare_NoClass ci_NoClass ti_NoClass s_NoShare_NoClass, s_NoShare_NoShare, kit_self, kit_ve v_NoShare_VE, ic_Starts, io_Starts, kit_of n_Starts_Chooser ci_Chooser ti_Chooser s_Starts_Chooser, ic_Rounds, io_Rounds, kit_of n_Rounds_Chooser ci_Chooser ti_Chooser s_Rounds_Chooser, kg, kt, PySem.W.mg_none_of X G z1, PySem.W.mg_none_of X G z2, PySem.W.mg_none_of X G z3, PySem.W.mg_none_of X G z4, PySem.W.mg_none_of X G z5, PySem.W.mg_none_of X G z6, PySem.W.mg_none_of X G z7, PySem.W.mg_none_of X G z8, PySem.W.mg_none_of X G z9, PySem.W.mg_none_of X G z10, PySem.W.mg_none_of X G z11, ⟨_, PySem.W.mg_of X G v_GREATEST_SHARE⟩, ⟨_, _, F1, F1.binds (ps := ["one", "other"]) (fun _ _ _ _ _ _ => L2.el2 (fun _ _ => rfl)), PySem.W.mg_of X G a1⟩, ⟨_, _, F2, F2.binds (ps := ["top", "bottom"]) (fun _ _ _ _ _ _ => L2.el2 (fun _ _ => rfl)), PySem.W.mg_of X G a2⟩, ⟨_, _, F3, F3.binds (ps := ["one", "other"]) (fun _ _ _ _ _ _ => L2.el2 (fun _ _ => rfl)), PySem.W.mg_of X G a3⟩, ⟨_, _, F4, F4.binds (ps := ["one", "other"]) (fun _ _ _ _ _ _ => L2.el2 (fun _ _ => rfl)), PySem.W.mg_of X G a4⟩, ⟨_, _, F5, F5.binds (ps := ["share"]) (fun _ _ _ _ _ _ => L2.el1 (fun _ => rfl)), PySem.W.mg_of X G a5⟩, ⟨_, _, F6, F6.binds (ps := ["_law_script", "_law_k"]) (fun _ _ _ _ _ _ => L2.el2 (fun _ _ => rfl)), PySem.W.mg_of X G a6⟩, ⟨_, _, F7, F7.binds (ps := ["_law_cell", "_law_k"]) (fun _ _ _ _ _ _ => L2.el2 (fun _ _ => rfl)), PySem.W.mg_of X G a7⟩, ⟨_, _, F8, F8.binds (ps := ["_law_cell", "_law_k"]) (fun _ _ _ _ _ _ => L2.el2 (fun _ _ => rfl)), PySem.W.mg_of X G a8⟩, ⟨_, _, F9, F9.binds (ps := ["_law_cell"]) (fun _ _ _ _ _ _ => L2.el1 (fun _ => rfl)), PySem.W.mg_of X G a9⟩, ⟨_, _, F10, F10.binds (ps := ["_law_one", "_law_other"]) (fun _ _ _ _ _ _ => L2.el2 (fun _ _ => rfl)), PySem.W.mg_of X G a10⟩, ⟨_, _, F11, F11.binds (ps := ["_law_one", "_law_name_here", "_law_share_here"]) (fun _ _ _ _ _ _ => L2.el3 (fun _ _ _ => rfl)), PySem.W.mg_of X G a11⟩, ⟨_, _, F12, F12.binds (ps := ["_law_one", "_law_name_here", "_law_share_here"]) (fun _ _ _ _ _ _ => L2.el3 (fun _ _ _ => rfl)), PySem.W.mg_of X G a12⟩, ⟨_, _, F13, F13.binds (ps := ["_law_one", "_law_name_here"]) (fun _ _ _ _ _ _ => L2.el2 (fun _ _ => rfl)), PySem.W.mg_of X G a13⟩, ⟨_, _, F14, F14.binds (ps := ["_law_known", "_law_way", "_law_name_here", "_law_share_here"]) (fun _ _ _ _ _ _ => L2.el4 (fun _ _ _ _ => rfl)), PySem.W.mg_of X G a14⟩, ⟨_, _, F15, F15.binds (ps := ["_law_one", "_law_known", "_law_way", "_law_name_here", "_law_share_here"]) (fun _ _ _ _ _ _ => L2.el5 (fun _ _ _ _ _ => rfl)), PySem.W.mg_of X G a15⟩, ⟨_, _, F16, F16.binds (ps := ["_law_one", "_law_name_here"]) (fun _ _ _ _ _ _ => L2.el2 (fun _ _ => rfl)), PySem.W.mg_of X G a16⟩, ⟨_, _, F17, F17.binds (ps := ["_law_one", "_law_known", "_law_name_here"]) (fun _ _ _ _ _ _ => L2.el3 (fun _ _ _ => rfl)), PySem.W.mg_of X G a17⟩, ⟨_, _, F18, F18.binds (ps := ["_law_one", "_law_known", "_law_pool"]) (fun _ _ _ _ _ _ => L2.el3 (fun _ _ _ => rfl)), PySem.W.mg_of X G a18⟩, ⟨_, _, F19, F19.binds (ps := ["_law_cell"]) (fun _ _ _ _ _ _ => L2.el1 (fun _ => rfl)), PySem.W.mg_of X G a19⟩, ⟨_, _, F20, F20.binds (ps := ["_law_cell", "_law_most_here"]) (fun _ _ _ _ _ _ => L2.el2 (fun _ _ => rfl)), PySem.W.mg_of X G a20⟩, PySem.W.mg_of X G b_Members, ⟨pg_Members, hd_Members, po_Members, sa_Members⟩, na_Members_shares, ⟨⟨_, _, F_Members_init, ⟨mk_Members, a_Members_init, i_Members_init_fn, kc_Members⟩, (fun dvs h => by simp only [List.mem_cons, List.not_mem_nil, or_false] at h; subst h; exact BindsV.nil B_Members_init)⟩⟩, ⟨⟨_, _, F_Members_check_name, ⟨a_Members_check_name, i_Members_check_name_fn, k_Members_check_name⟩, (fun dvs h => by simp only [List.mem_cons, List.not_mem_nil, or_false] at h; subst h; exact BindsV.nil B_Members_check_name)⟩⟩, ⟨⟨_, _, F_Members_put, ⟨a_Members_put, i_Members_put_fn, k_Members_put⟩, (fun dvs h => by simp only [List.mem_cons, List.not_mem_nil, or_false] at h; subst h; exact BindsV.nil B_Members_put)⟩⟩, ⟨⟨_, _, F_Members_take, ⟨a_Members_take, i_Members_take_fn, k_Members_take⟩, (fun dvs h => by simp only [List.mem_cons, List.not_mem_nil, or_false] at h; subst h; exact BindsV.nil B_Members_take)⟩⟩, ⟨⟨_, _, F_Members_reshare, ⟨a_Members_reshare, i_Members_reshare_fn, k_Members_reshare⟩, (fun dvs h => by simp only [List.mem_cons, List.not_mem_nil, or_false] at h; subst h; exact BindsV.nil B_Members_reshare)⟩⟩, ⟨⟨_, _, F_Members_names, ⟨a_Members_names, i_Members_names_fn, k_Members_names⟩, (fun dvs h => by simp only [List.mem_cons, List.not_mem_nil, or_false] at h; subst h; exact BindsV.nil B_Members_names)⟩⟩, ⟨⟨_, _, F_Members_share_of, ⟨a_Members_share_of, i_Members_share_of_fn, k_Members_share_of⟩, (fun dvs h => by simp only [List.mem_cons, List.not_mem_nil, or_false] at h; subst h; exact BindsV.nil B_Members_share_of)⟩⟩, ⟨⟨_, _, F_Members_all_shares, ⟨a_Members_all_shares, i_Members_all_shares_fn, k_Members_all_shares⟩, (fun dvs h => by simp only [List.mem_cons, List.not_mem_nil, or_false] at h; subst h; exact BindsV.nil B_Members_all_shares)⟩⟩, ⟨⟨_, _, F_Members_part, ⟨a_Members_part, i_Members_part_fn, k_Members_part⟩, (fun dvs h => by simp only [List.mem_cons, List.not_mem_nil, or_false] at h; subst h; exact BindsV.nil B_Members_part)⟩⟩, PySem.W.mg_of X G b_Chooser, PySem.W.mg_of X G b_Starts, ⟨pg_Starts, hd_Starts, po_Starts, sa_Starts⟩, na_Starts_reached, na_Starts_tags, na_Starts_greatest_steps, na_Starts_most, na_Starts_members, na_Starts_chosen, ⟨⟨_, _, F_Starts_init, ⟨mk_Starts, a_Starts_init, i_Starts_init_fn, kc_Starts⟩, (fun dvs h => by simp only [List.mem_cons, List.not_mem_nil, or_false] at h; subst h; exact BindsV.nil B_Starts_init)⟩⟩, ⟨⟨_, _, F_Starts_enter, ⟨a_Starts_enter, i_Starts_enter_fn, k_Starts_enter⟩, (fun dvs h => by simp only [List.mem_cons, List.not_mem_nil, or_false] at h; subst h; exact BindsV.nil B_Starts_enter)⟩⟩, ⟨⟨_, _, F_Starts_leave, ⟨a_Starts_leave, i_Starts_leave_fn, k_Starts_leave⟩, (fun dvs h => by simp only [List.mem_cons, List.not_mem_nil, or_false] at h; subst h; exact BindsV.nil B_Starts_leave)⟩⟩, ⟨⟨_, _, F_Starts_fit_in, ⟨a_Starts_fit_in, i_Starts_fit_in_fn, k_Starts_fit_in⟩, (fun dvs h => by simp only [List.mem_cons, List.not_mem_nil, or_false] at h; subst h; exact BindsV.nil B_Starts_fit_in)⟩⟩, ⟨⟨_, _, F_Starts_stands, ⟨a_Starts_stands, i_Starts_stands_fn, k_Starts_stands⟩, (fun dvs h => by simp only [List.mem_cons, List.not_mem_nil, or_false] at h; subst h; exact BindsV.nil B_Starts_stands)⟩⟩, ⟨⟨_, _, F_Starts_up_Chooser, ⟨⟨_, r_Starts_up_Chooser, q_Starts_up_Chooser⟩, g_Starts_up_Chooser, k_Starts_up_Chooser⟩, BindsV.nil B_Starts_up_Chooser⟩⟩, ⟨⟨_, _, F_Starts_put, ⟨a_Starts_put, i_Starts_put_fn, k_Starts_put⟩, (fun dvs h => by simp only [List.mem_cons, List.not_mem_nil, or_false] at h; subst h; exact BindsV.nil B_Starts_put)⟩⟩, ⟨⟨_, _, F_Starts_take, ⟨a_Starts_take, i_Starts_take_fn, k_Starts_take⟩, (fun dvs h => by simp only [List.mem_cons, List.not_mem_nil, or_false] at h; subst h; exact BindsV.nil B_Starts_take)⟩⟩, ⟨⟨_, _, F_Starts_reshare, ⟨a_Starts_reshare, i_Starts_reshare_fn, k_Starts_reshare⟩, (fun dvs h => by simp only [List.mem_cons, List.not_mem_nil, or_false] at h; subst h; exact BindsV.nil B_Starts_reshare)⟩⟩, ⟨⟨_, _, F_Starts_names, ⟨a_Starts_names, i_Starts_names_fn, k_Starts_names⟩, (fun dvs h => by simp only [List.mem_cons, List.not_mem_nil, or_false] at h; subst h; exact BindsV.nil B_Starts_names)⟩⟩, ⟨⟨_, _, F_Starts_share_of, ⟨a_Starts_share_of, i_Starts_share_of_fn, k_Starts_share_of⟩, (fun dvs h => by simp only [List.mem_cons, List.not_mem_nil, or_false] at h; subst h; exact BindsV.nil B_Starts_share_of)⟩⟩, ⟨⟨_, _, F_Starts_part, ⟨a_Starts_part, i_Starts_part_fn, k_Starts_part⟩, (fun dvs h => by simp only [List.mem_cons, List.not_mem_nil, or_false] at h; subst h; exact BindsV.nil B_Starts_part)⟩⟩, PySem.W.mg_of X G b_Rounds, ⟨pg_Rounds, hd_Rounds, po_Rounds, sa_Rounds⟩, na_Rounds_queue, na_Rounds_rests, na_Rounds_turn, na_Rounds_most, na_Rounds_members, na_Rounds_chosen, ⟨⟨_, _, F_Rounds_init, ⟨mk_Rounds, a_Rounds_init, i_Rounds_init_fn, kc_Rounds⟩, (fun dvs h => by simp only [List.mem_cons, List.not_mem_nil, or_false] at h; subst h; exact BindsV.nil B_Rounds_init)⟩⟩, ⟨⟨_, _, F_Rounds_enter, ⟨a_Rounds_enter, i_Rounds_enter_fn, k_Rounds_enter⟩, (fun dvs h => by simp only [List.mem_cons, List.not_mem_nil, or_false] at h; subst h; exact BindsV.nil B_Rounds_enter)⟩⟩, ⟨⟨_, _, F_Rounds_leave, ⟨a_Rounds_leave, i_Rounds_leave_fn, k_Rounds_leave⟩, (fun dvs h => by simp only [List.mem_cons, List.not_mem_nil, or_false] at h; subst h; exact BindsV.nil B_Rounds_leave)⟩⟩, ⟨⟨_, _, F_Rounds_full_rest, ⟨a_Rounds_full_rest, i_Rounds_full_rest_fn, k_Rounds_full_rest⟩, (fun dvs h => by simp only [List.mem_cons, List.not_mem_nil, or_false] at h; subst h; exact BindsV.nil B_Rounds_full_rest)⟩⟩, ⟨⟨_, _, F_Rounds_fit_in, ⟨a_Rounds_fit_in, i_Rounds_fit_in_fn, k_Rounds_fit_in⟩, (fun dvs h => by simp only [List.mem_cons, List.not_mem_nil, or_false] at h; subst h; exact BindsV.nil B_Rounds_fit_in)⟩⟩, ⟨⟨_, _, F_Rounds_rest, ⟨a_Rounds_rest, i_Rounds_rest_fn, k_Rounds_rest⟩, (fun dvs h => by simp only [List.mem_cons, List.not_mem_nil, or_false] at h; subst h; exact BindsV.nil B_Rounds_rest)⟩⟩, ⟨⟨_, _, F_Rounds_up_Chooser, ⟨⟨_, r_Rounds_up_Chooser, q_Rounds_up_Chooser⟩, g_Rounds_up_Chooser, k_Rounds_up_Chooser⟩, BindsV.nil B_Rounds_up_Chooser⟩⟩, ⟨⟨_, _, F_Rounds_put, ⟨a_Rounds_put, i_Rounds_put_fn, k_Rounds_put⟩, (fun dvs h => by simp only [List.mem_cons, List.not_mem_nil, or_false] at h; subst h; exact BindsV.nil B_Rounds_put)⟩⟩, ⟨⟨_, _, F_Rounds_take, ⟨a_Rounds_take, i_Rounds_take_fn, k_Rounds_take⟩, (fun dvs h => by simp only [List.mem_cons, List.not_mem_nil, or_false] at h; subst h; exact BindsV.nil B_Rounds_take)⟩⟩, ⟨⟨_, _, F_Rounds_reshare, ⟨a_Rounds_reshare, i_Rounds_reshare_fn, k_Rounds_reshare⟩, (fun dvs h => by simp only [List.mem_cons, List.not_mem_nil, or_false] at h; subst h; exact BindsV.nil B_Rounds_reshare)⟩⟩, ⟨⟨_, _, F_Rounds_names, ⟨a_Rounds_names, i_Rounds_names_fn, k_Rounds_names⟩, (fun dvs h => by simp only [List.mem_cons, List.not_mem_nil, or_false] at h; subst h; exact BindsV.nil B_Rounds_names)⟩⟩, ⟨⟨_, _, F_Rounds_share_of, ⟨a_Rounds_share_of, i_Rounds_share_of_fn, k_Rounds_share_of⟩, (fun dvs h => by simp only [List.mem_cons, List.not_mem_nil, or_false] at h; subst h; exact BindsV.nil B_Rounds_share_of)⟩⟩, ⟨⟨_, _, F_Rounds_part, ⟨a_Rounds_part, i_Rounds_part_fn, k_Rounds_part⟩, (fun dvs h => by simp only [List.mem_cons, List.not_mem_nil, or_false] at h; subst h; exact BindsV.nil B_Rounds_part)⟩⟩⟩
  exact ⟨PySem.W.fnOf "law" "law" (defArgs s_law) (defBody s_law) (defScope s_law) .none kV21 dc21 pm21 an21 cd21 ct21, fun s v => .of_eq rfl, fun base _ _ => ok_law (fun_mk (st := s_law) l21 c21 k21) T⟩
theorem walk {l : PySem.W.OpenLaw} {q : Program} {loose : List Str} {XP : (Str → Option Value) → Heap → Prop} {YP : World → Heap → Prop} {d : DefRec} {K : Params → PySem.W.Frag} (hn : l.most = some 63) (hdf : d.params.defaults = [])
    (hY : ∀ (w : World) (h : Heap), YP w h → (K w.params).In h)
    (F : ∀ (w : World) (mg : Str → Option Value) (fa : Addr) (h : Heap), (K w.params).In h → h.Ns mainGlobals mg → mg d.name = some (.ref fa) →
      ∃ fd : FuncData, (∀ (s : Shared) (u : Value), BindsTo s fd ⟨[u], []⟩ [("_law_script", u)]) ∧ ∀ base : Heap, (K w.params).In base → base.Ns mainGlobals mg → FnOk l.prog w (K w.params) mg base CX0 9 fa fd ["_law_script"] (spLaw (K w.params))) :
    PySem.W.WalkO q loose XP YP l.row.toRowW d [] (fun f vs => PySem.call f vs) :=
  L2.walk_of (n := 63) (k := 9) (x := "_law_script") (CX := fun _ => CX0) (sp := fun w => spLaw (K w.params)) hn (by decide) hdf ⟨rfl, by decide, by decide⟩ hY F (fun _ _ a ns hl _ hS => ⟨a, ns, rfl, hS, hl, fun _ => rfl⟩) fun _ _ _ _ _ z => z
end K51
theorem PySem.W.Fast.te4753119844338878138 : True := trivial
theorem PySem.W.Fast.tw3847820430284198499 : True := trivial
theorem PySem.W.Fast.tw3862698402117718784 : True := trivial
theorem PySem.W.Fast.tw355165731209226555 : True := trivial
theorem PySem.W.Fast.tw16496803709541717820 : True := trivial
theorem PySem.W.Fast.tw8725078240128280214 : True := trivial
theorem PySem.W.Fast.tw5019701897436554518 : True := trivial
theorem PySem.W.Fast.tw16073308223124095705 : True := trivial
theorem PySem.W.Fast.tw17753801202375766611 : True := trivial
theorem PySem.W.Fast.tw15793423786672429913 : True := trivial
theorem PySem.W.Fast.tw8797042322714903150 : True := trivial
theorem PySem.W.Fast.tw1094870519093479038 : True := trivial
theorem PySem.W.Fast.tw11270710044001877406 : True := trivial
theorem PySem.W.Fast.tw3022922036254539628 : True := trivial
open PySem PySem.W PyProof.Rows
set_option maxRecDepth 100000 in
set_option maxHeartbeats 0 in
theorem PySem.Challenge.cw_sharewheel_k51_children_holds : PySem.Challenge.rw_sharewheel_k51_children.Holds := by
  w_on; o_law; k_head; (case hw => w_witness2)
  k_fill
  refine K51.walk (l := PySem.Challenge.rw_sharewheel_k51_children) rfl rfl (fun w h Y => PySem.W.kIn_of Y) ?F
  case F =>
    intro w mg fa h KX G hmg
    refine' K51.all_mk KX G hmg ?b_WheelError ?hd_WheelError ?ga_WheelError ?gn_WheelError ?sa_WheelError ?cl_WheelError ?be_WheelError ?ob_WheelError ?kp_WheelError ?ci_WheelError ?ti_WheelError ?ex_WheelError ?b_Taken ?hd_Taken ?ga_Taken ?gn_Taken ?sa_Taken ?cl_Taken ?be_Taken ?ob_Taken ?kp_Taken ?ci_Taken ?ti_Taken ?ex_Taken ?b_NoClass ?hd_NoClass ?ga_NoClass ?gn_NoClass ?sa_NoClass ?cl_NoClass ?be_NoClass ?ob_NoClass ?kp_NoClass ?ci_NoClass ?ti_NoClass ?ex_NoClass ?b_NoShare ?hd_NoShare ?ga_NoShare ?gn_NoShare ?sa_NoShare ?cl_NoShare ?be_NoShare ?ob_NoShare ?kp_NoShare ?ci_NoShare ?ti_NoShare ?ex_NoShare ?kg ?kt ?s_Taken_WheelError ?n_Taken_WheelError ?s_Taken_Taken ?s_Taken_NoClass ?n_Taken_NoClass ?s_Taken_NoShare ?n_Taken_NoShare ?v_Taken_VE ?s_NoClass_WheelError ?n_NoClass_WheelError ?s_NoClass_Taken ?n_NoClass_Taken ?s_NoClass_NoClass ?s_NoClass_NoShare ?n_NoClass_NoShare ?v_NoClass_VE ?s_NoShare_WheelError ?n_NoShare_WheelError ?s_NoShare_Taken ?n_NoShare_Taken ?s_NoShare_NoClass ?n_NoShare_NoClass ?s_NoShare_NoShare ?v_NoShare_VE ?a1 ?l1 ?c1 ?k1 ?a2 ?l2 ?c2 ?k2 ?a3 ?l3 ?c3 ?k3 ?a4 ?l4 ?c4 ?k4 ?a5 ?l5 ?c5 ?k5 ?a6 ?l6 ?c6 ?k6 ?a7 ?l7 ?c7 ?k7 ?a8 ?l8 ?c8 ?k8 ?a9 ?l9 ?c9 ?k9 ?a10 ?l10 ?c10 ?k10 ?a11 ?l11 ?c11 ?k11 ?a12 ?l12 ?c12 ?k12 ?a13 ?l13 ?c13 ?k13 ?a14 ?l14 ?c14 ?k14 ?a15 ?l15 ?c15 ?k15 ?a16 ?l16 ?c16 ?k16 ?a17 ?l17 ?c17 ?k17 ?a18 ?l18 ?c18 ?k18 ?a19 ?l19 ?c19 ?k19 ?a20 ?l20 ?c20 ?k20 ?a21 ?l21 ?c21 ?k21 ?z1 ?z2 ?z3 ?z4 ?z5 ?z6 ?z7 ?z8 ?z9 ?z10 ?z11 ?v_GREATEST_SHARE ?b_Members ?pg_Members ?hd_Members ?po_Members ?sa_Members ?mk_Members ?kc_Members ?na_Members_shares ?a_Members_init ?i_Members_init_fn ?l_Members_init ?c_Members_init_cd ?k_Members_init ?a_Members_check_name ?i_Members_check_name_fn ?l_Members_check_name ?c_Members_check_name_cd ?k_Members_check_name ?a_Members_put ?i_Members_put_fn ?l_Members_put ?c_Members_put_cd ?k_Members_put ?a_Members_take ?i_Members_take_fn ?l_Members_take ?c_Members_take_cd ?k_Members_take ?a_Members_reshare ?i_Members_reshare_fn ?l_Members_reshare ?c_Members_reshare_cd ?k_Members_reshare ?a_Members_names ?i_Members_names_fn ?l_Members_names ?c_Members_names_cd ?k_Members_names ?a_Members_share_of ?i_Members_share_of_fn ?l_Members_share_of ?c_Members_share_of_cd ?k_Members_share_of ?a_Members_all_shares ?i_Members_all_shares_fn ?l_Members_all_shares ?c_Members_all_shares_cd ?k_Members_all_shares ?a_Members_part ?i_Members_part_fn ?l_Members_part ?c_Members_part_cd ?k_Members_part ?b_Chooser ?b_Starts ?pg_Starts ?hd_Starts ?po_Starts ?sa_Starts ?mk_Starts ?kc_Starts ?na_Starts_reached ?na_Starts_tags ?na_Starts_greatest_steps ?na_Starts_most ?na_Starts_members ?na_Starts_chosen ?a_Starts_init ?i_Starts_init_fn ?l_Starts_init ?c_Starts_init_cd ?k_Starts_init ?a_Starts_enter ?i_Starts_enter_fn ?l_Starts_enter ?c_Starts_enter_cd ?k_Starts_enter ?a_Starts_leave ?i_Starts_leave_fn ?l_Starts_leave ?c_Starts_leave_cd ?k_Starts_leave ?a_Starts_fit_in ?i_Starts_fit_in_fn ?l_Starts_fit_in ?c_Starts_fit_in_cd ?k_Starts_fit_in ?a_Starts_stands ?i_Starts_stands_fn ?l_Starts_stands ?c_Starts_stands_cd ?k_Starts_stands ?a_Starts_up_Chooser ?i_Starts_up_Chooser_fn ?l_Starts_up_Chooser ?c_Starts_up_Chooser_cd ?r_Starts_up_Chooser ?q_Starts_up_Chooser ?g_Starts_up_Chooser ?k_Starts_up_Chooser ?a_Starts_put ?i_Starts_put_fn ?l_Starts_put ?c_Starts_put_cd ?k_Starts_put ?a_Starts_take ?i_Starts_take_fn ?l_Starts_take ?c_Starts_take_cd ?k_Starts_take ?a_Starts_reshare ?i_Starts_reshare_fn ?l_Starts_reshare ?c_Starts_reshare_cd ?k_Starts_reshare ?a_Starts_names ?i_Starts_names_fn ?l_Starts_names ?c_Starts_names_cd ?k_Starts_names ?a_Starts_share_of ?i_Starts_share_of_fn ?l_Starts_share_of ?c_Starts_share_of_cd ?k_Starts_share_of ?a_Starts_part ?i_Starts_part_fn ?l_Starts_part ?c_Starts_part_cd ?k_Starts_part ?b_Rounds ?pg_Rounds ?hd_Rounds ?po_Rounds ?sa_Rounds ?mk_Rounds ?kc_Rounds ?na_Rounds_queue ?na_Rounds_rests ?na_Rounds_turn ?na_Rounds_most ?na_Rounds_members ?na_Rounds_chosen ?a_Rounds_init ?i_Rounds_init_fn ?l_Rounds_init ?c_Rounds_init_cd ?k_Rounds_init ?a_Rounds_enter ?i_Rounds_enter_fn ?l_Rounds_enter ?c_Rounds_enter_cd ?k_Rounds_enter ?a_Rounds_leave ?i_Rounds_leave_fn ?l_Rounds_leave ?c_Rounds_leave_cd ?k_Rounds_leave ?a_Rounds_full_rest ?i_Rounds_full_rest_fn ?l_Rounds_full_rest ?c_Rounds_full_rest_cd ?k_Rounds_full_rest ?a_Rounds_fit_in ?i_Rounds_fit_in_fn ?l_Rounds_fit_in ?c_Rounds_fit_in_cd ?k_Rounds_fit_in ?a_Rounds_rest ?i_Rounds_rest_fn ?l_Rounds_rest ?c_Rounds_rest_cd ?k_Rounds_rest ?a_Rounds_up_Chooser ?i_Rounds_up_Chooser_fn ?l_Rounds_up_Chooser ?c_Rounds_up_Chooser_cd ?r_Rounds_up_Chooser ?q_Rounds_up_Chooser ?g_Rounds_up_Chooser ?k_Rounds_up_Chooser ?a_Rounds_put ?i_Rounds_put_fn ?l_Rounds_put ?c_Rounds_put_cd ?k_Rounds_put ?a_Rounds_take ?i_Rounds_take_fn ?l_Rounds_take ?c_Rounds_take_cd ?k_Rounds_take ?a_Rounds_reshare ?i_Rounds_reshare_fn ?l_Rounds_reshare ?c_Rounds_reshare_cd ?k_Rounds_reshare ?a_Rounds_names ?i_Rounds_names_fn ?l_Rounds_names ?c_Rounds_names_cd ?k_Rounds_names ?a_Rounds_share_of ?i_Rounds_share_of_fn ?l_Rounds_share_of ?c_Rounds_share_of_cd ?k_Rounds_share_of ?a_Rounds_part ?i_Rounds_part_fn ?l_Rounds_part ?c_Rounds_part_cd ?k_Rounds_part ?ci_Chooser ?ti_Chooser ?ic_Starts ?io_Starts ?s_Starts_Chooser ?n_Starts_Chooser ?ic_Rounds ?io_Rounds ?s_Rounds_Chooser ?n_Rounds_Chooser
    (case b_WheelError => k_is)
    (case hd_WheelError => k_is)
    (case ga_WheelError => k_is)
    (case gn_WheelError => k_is)
    (case sa_WheelError => k_is)
    (case cl_WheelError => k_is)
    (case be_WheelError => k_is)
    (case ob_WheelError => k_is)
    (case kp_WheelError => k_is)
    (case ci_WheelError => k_is)
    (case ti_WheelError => k_is)
    (case ex_WheelError => k_exc)
    (case b_Taken => k_is)
    (case hd_Taken => k_is)
    (case ga_Taken => k_is)
    (case gn_Taken => k_is)
    (case sa_Taken => k_is)
    (case cl_Taken => k_is)
    (case be_Taken => k_is)
    (case ob_Taken => k_is)
    (case kp_Taken => k_is)
    (case ci_Taken => k_is)
    (case ti_Taken => k_is)
    (case ex_Taken => k_exc)
    (case b_NoClass => k_is)
    (case hd_NoClass => k_is)
    (case ga_NoClass => k_is)
    (case gn_NoClass => k_is)
    (case sa_NoClass => k_is)
    (case cl_NoClass => k_is)
    (case be_NoClass => k_is)
    (case ob_NoClass => k_is)
    (case kp_NoClass => k_is)
    (case ci_NoClass => k_is)
    (case ti_NoClass => k_is)
    (case ex_NoClass => k_exc)
    (case b_NoShare => k_is)
    (case hd_NoShare => k_is)
    (case ga_NoShare => k_is)
    (case gn_NoShare => k_is)
    (case sa_NoShare => k_is)
    (case cl_NoShare => k_is)
    (case be_NoShare => k_is)
    (case ob_NoShare => k_is)
    (case kp_NoShare => k_is)
    (case ci_NoShare => k_is)
    (case ti_NoShare => k_is)
    (case ex_NoShare => k_exc)
    (case kg => k_is)
    (case kt => k_is)
    (case s_Taken_WheelError => k_is)
    (case n_Taken_WheelError => rfl)
    (case s_Taken_Taken => k_is)
    (case s_Taken_NoClass => k_is)
    (case n_Taken_NoClass => rfl)
    (case s_Taken_NoShare => k_is)
    (case n_Taken_NoShare => rfl)
    (case v_Taken_VE => k_is)
    (case s_NoClass_WheelError => k_is)
    (case n_NoClass_WheelError => rfl)
    (case s_NoClass_Taken => k_is)
    (case n_NoClass_Taken => rfl)
    (case s_NoClass_NoClass => k_is)
    (case s_NoClass_NoShare => k_is)
    (case n_NoClass_NoShare => rfl)
    (case v_NoClass_VE => k_is)
    (case s_NoShare_WheelError => k_is)
    (case n_NoShare_WheelError => rfl)
    (case s_NoShare_Taken => k_is)
    (case n_NoShare_Taken => rfl)
    (case s_NoShare_NoClass => k_is)
    (case n_NoShare_NoClass => rfl)
    (case s_NoShare_NoShare => k_is)
    (case v_NoShare_VE => k_is)
    (case a1 => k_is)
    (case l1 => k_is)
    (case c1 => k_is)
    (case k1 => k_is)
    (case a2 => k_is)
    (case l2 => k_is)
    (case c2 => k_is)
    (case k2 => k_is)
    (case a3 => k_is)
    (case l3 => k_is)
    (case c3 => k_is)
    (case k3 => k_is)
    (case a4 => k_is)
    (case l4 => k_is)
    (case c4 => k_is)
    (case k4 => k_is)
    (case a5 => k_is)
    (case l5 => k_is)
    (case c5 => k_is)
    (case k5 => k_is)
    (case a6 => k_is)
    (case l6 => k_is)
    (case c6 => k_is)
    (case k6 => k_is)
    (case a7 => k_is)
    (case l7 => k_is)
    (case c7 => k_is)
    (case k7 => k_is)
    (case a8 => k_is)
    (case l8 => k_is)
    (case c8 => k_is)
    (case k8 => k_is)
    (case a9 => k_is)
    (case l9 => k_is)
    (case c9 => k_is)
    (case k9 => k_is)
    (case a10 => k_is)
    (case l10 => k_is)
    (case c10 => k_is)
    (case k10 => k_is)
    (case a11 => k_is)
    (case l11 => k_is)
    (case c11 => k_is)
    (case k11 => k_is)
    (case a12 => k_is)
    (case l12 => k_is)
    (case c12 => k_is)
    (case k12 => k_is)
    (case a13 => k_is)
    (case l13 => k_is)
    (case c13 => k_is)
    (case k13 => k_is)
    (case a14 => k_is)
    (case l14 => k_is)
    (case c14 => k_is)
    (case k14 => k_is)
    (case a15 => k_is)
    (case l15 => k_is)
    (case c15 => k_is)
    (case k15 => k_is)
    (case a16 => k_is)
    (case l16 => k_is)
    (case c16 => k_is)
    (case k16 => k_is)
    (case a17 => k_is)
    (case l17 => k_is)
    (case c17 => k_is)
    (case k17 => k_is)
    (case a18 => k_is)
    (case l18 => k_is)
    (case c18 => k_is)
    (case k18 => k_is)
    (case a19 => k_is)
    (case l19 => k_is)
    (case c19 => k_is)
    (case k19 => k_is)
    (case a20 => k_is)
    (case l20 => k_is)
    (case c20 => k_is)
    (case k20 => k_is)
    (case a21 => k_is)
    (case l21 => k_is)
    (case c21 => k_is)
    (case k21 => k_is)
    (case z1 => k_is)
    (case z2 => k_is)
    (case z3 => k_is)
    (case z4 => k_is)
    (case z5 => k_is)
    (case z6 => k_is)
    (case z7 => k_is)
    (case z8 => k_is)
    (case z9 => k_is)
    (case z10 => k_is)
    (case z11 => k_is)
    (case v_GREATEST_SHARE => k_is)
    (case b_Members => k_is)
    (case pg_Members => k_is)
    (case hd_Members => k_is)
    (case po_Members => k_is)
    (case sa_Members => k_is)
    (case mk_Members => k_is)
    (case kc_Members => k_is)
    (case na_Members_shares => k_is)
    (case a_Members_init => k_is)
    (case i_Members_init_fn => k_is)
    (case l_Members_init => k_is)
    (case c_Members_init_cd => k_is)
    (case k_Members_init => k_is)
    (case a_Members_check_name => k_is)
    (case i_Members_check_name_fn => k_is)
    (case l_Members_check_name => k_is)
    (case c_Members_check_name_cd => k_is)
    (case k_Members_check_name => k_is)
    (case a_Members_put => k_is)
    (case i_Members_put_fn => k_is)
    (case l_Members_put => k_is)
    (case c_Members_put_cd => k_is)
    (case k_Members_put => k_is)
    (case a_Members_take => k_is)
    (case i_Members_take_fn => k_is)
    (case l_Members_take => k_is)
    (case c_Members_take_cd => k_is)
    (case k_Members_take => k_is)
    (case a_Members_reshare => k_is)
    (case i_Members_reshare_fn => k_is)
    (case l_Members_reshare => k_is)
    (case c_Members_reshare_cd => k_is)
    (case k_Members_reshare => k_is)
    (case a_Members_names => k_is)
    (case i_Members_names_fn => k_is)
    (case l_Members_names => k_is)
    (case c_Members_names_cd => k_is)
    (case k_Members_names => k_is)
    (case a_Members_share_of => k_is)
    (case i_Members_share_of_fn => k_is)
    (case l_Members_share_of => k_is)
    (case c_Members_share_of_cd => k_is)
    (case k_Members_share_of => k_is)
    (case a_Members_all_shares => k_is)
    (case i_Members_all_shares_fn => k_is)
    (case l_Members_all_shares => k_is)
    (case c_Members_all_shares_cd => k_is)
    (case k_Members_all_shares => k_is)
    (case a_Members_part => k_is)
    (case i_Members_part_fn => k_is)
    (case l_Members_part => k_is)
    (case c_Members_part_cd => k_is)
    (case k_Members_part => k_is)
    (case b_Chooser => k_is)
    (case b_Starts => k_is)
    (case pg_Starts => k_is)
    (case hd_Starts => k_is)
    (case po_Starts => k_is)
    (case sa_Starts => k_is)
    (case mk_Starts => k_is)
    (case kc_Starts => k_is)
    (case na_Starts_reached => k_is)
    (case na_Starts_tags => k_is)
    (case na_Starts_greatest_steps => k_is)
    (case na_Starts_most => k_is)
    (case na_Starts_members => k_is)
    (case na_Starts_chosen => k_is)
    (case a_Starts_init => k_is)
    (case i_Starts_init_fn => k_is)
    (case l_Starts_init => k_is)
    (case c_Starts_init_cd => k_is)
    (case k_Starts_init => k_is)
    (case a_Starts_enter => k_is)
    (case i_Starts_enter_fn => k_is)
    (case l_Starts_enter => k_is)
    (case c_Starts_enter_cd => k_is)
    (case k_Starts_enter => k_is)
    (case a_Starts_leave => k_is)
    (case i_Starts_leave_fn => k_is)
    (case l_Starts_leave => k_is)
    (case c_Starts_leave_cd => k_is)
    (case k_Starts_leave => k_is)
    (case a_Starts_fit_in => k_is)
    (case i_Starts_fit_in_fn => k_is)
    (case l_Starts_fit_in => k_is)
    (case c_Starts_fit_in_cd => k_is)
    (case k_Starts_fit_in => k_is)
    (case a_Starts_stands => k_is)
    (case i_Starts_stands_fn => k_is)
    (case l_Starts_stands => k_is)
    (case c_Starts_stands_cd => k_is)
    (case k_Starts_stands => k_is)
    (case a_Starts_up_Chooser => k_is)
    (case i_Starts_up_Chooser_fn => k_is)
    (case l_Starts_up_Chooser => k_is)
    (case c_Starts_up_Chooser_cd => k_is)
    (case r_Starts_up_Chooser => k_is)
    (case q_Starts_up_Chooser => k_is)
    (case g_Starts_up_Chooser => k_is)
    (case k_Starts_up_Chooser => k_is)
    (case a_Starts_put => k_is)
    (case i_Starts_put_fn => k_is)
    (case l_Starts_put => k_is)
    (case c_Starts_put_cd => k_is)
    (case k_Starts_put => k_is)
    (case a_Starts_take => k_is)
    (case i_Starts_take_fn => k_is)
    (case l_Starts_take => k_is)
    (case c_Starts_take_cd => k_is)
    (case k_Starts_take => k_is)
    (case a_Starts_reshare => k_is)
    (case i_Starts_reshare_fn => k_is)
    (case l_Starts_reshare => k_is)
    (case c_Starts_reshare_cd => k_is)
    (case k_Starts_reshare => k_is)
    (case a_Starts_names => k_is)
    (case i_Starts_names_fn => k_is)
    (case l_Starts_names => k_is)
    (case c_Starts_names_cd => k_is)
    (case k_Starts_names => k_is)
    (case a_Starts_share_of => k_is)
    (case i_Starts_share_of_fn => k_is)
    (case l_Starts_share_of => k_is)
    (case c_Starts_share_of_cd => k_is)
    (case k_Starts_share_of => k_is)
    (case a_Starts_part => k_is)
    (case i_Starts_part_fn => k_is)
    (case l_Starts_part => k_is)
    (case c_Starts_part_cd => k_is)
    (case k_Starts_part => k_is)
    (case b_Rounds => k_is)
    (case pg_Rounds => k_is)
    (case hd_Rounds => k_is)
    (case po_Rounds => k_is)
    (case sa_Rounds => k_is)
    (case mk_Rounds => k_is)
    (case kc_Rounds => k_is)
    (case na_Rounds_queue => k_is)
    (case na_Rounds_rests => k_is)
    (case na_Rounds_turn => k_is)
    (case na_Rounds_most => k_is)
    (case na_Rounds_members => k_is)
    (case na_Rounds_chosen => k_is)
    (case a_Rounds_init => k_is)
    (case i_Rounds_init_fn => k_is)
    (case l_Rounds_init => k_is)
    (case c_Rounds_init_cd => k_is)
    (case k_Rounds_init => k_is)
    (case a_Rounds_enter => k_is)
    (case i_Rounds_enter_fn => k_is)
    (case l_Rounds_enter => k_is)
    (case c_Rounds_enter_cd => k_is)
    (case k_Rounds_enter => k_is)
    (case a_Rounds_leave => k_is)
    (case i_Rounds_leave_fn => k_is)
    (case l_Rounds_leave => k_is)
    (case c_Rounds_leave_cd => k_is)
    (case k_Rounds_leave => k_is)
    (case a_Rounds_full_rest => k_is)
    (case i_Rounds_full_rest_fn => k_is)
    (case l_Rounds_full_rest => k_is)
    (case c_Rounds_full_rest_cd => k_is)
    (case k_Rounds_full_rest => k_is)
    (case a_Rounds_fit_in => k_is)
    (case i_Rounds_fit_in_fn => k_is)
    (case l_Rounds_fit_in => k_is)
    (case c_Rounds_fit_in_cd => k_is)
    (case k_Rounds_fit_in => k_is)
    (case a_Rounds_rest => k_is)
    (case i_Rounds_rest_fn => k_is)
    (case l_Rounds_rest => k_is)
    (case c_Rounds_rest_cd => k_is)
    (case k_Rounds_rest => k_is)
    (case a_Rounds_up_Chooser => k_is)
    (case i_Rounds_up_Chooser_fn => k_is)
    (case l_Rounds_up_Chooser => k_is)
    (case c_Rounds_up_Chooser_cd => k_is)
    (case r_Rounds_up_Chooser => k_is)
    (case q_Rounds_up_Chooser => k_is)
    (case g_Rounds_up_Chooser => k_is)
    (case k_Rounds_up_Chooser => k_is)
    (case a_Rounds_put => k_is)
    (case i_Rounds_put_fn => k_is)
    (case l_Rounds_put => k_is)
    (case c_Rounds_put_cd => k_is)
    (case k_Rounds_put => k_is)
    (case a_Rounds_take => k_is)
    (case i_Rounds_take_fn => k_is)
    (case l_Rounds_take => k_is)
    (case c_Rounds_take_cd => k_is)
    (case k_Rounds_take => k_is)
    (case a_Rounds_reshare => k_is)
    (case i_Rounds_reshare_fn => k_is)
    (case l_Rounds_reshare => k_is)
    (case c_Rounds_reshare_cd => k_is)
    (case k_Rounds_reshare => k_is)
    (case a_Rounds_names => k_is)
    (case i_Rounds_names_fn => k_is)
    (case l_Rounds_names => k_is)
    (case c_Rounds_names_cd => k_is)
    (case k_Rounds_names => k_is)
    (case a_Rounds_share_of => k_is)
    (case i_Rounds_share_of_fn => k_is)
    (case l_Rounds_share_of => k_is)
    (case c_Rounds_share_of_cd => k_is)
    (case k_Rounds_share_of => k_is)
    (case a_Rounds_part => k_is)
    (case i_Rounds_part_fn => k_is)
    (case l_Rounds_part => k_is)
    (case c_Rounds_part_cd => k_is)
    (case k_Rounds_part => k_is)
    (case ci_Chooser => k_is)
    (case ti_Chooser => k_is)
    (case ic_Starts => k_is)
    (case io_Starts => k_is)
    (case s_Starts_Chooser => k_is)
    (case n_Starts_Chooser => rfl)
    (case ic_Rounds => k_is)
    (case io_Rounds => k_is)
    (case s_Rounds_Chooser => k_is)
    (case n_Rounds_Chooser => rfl)
