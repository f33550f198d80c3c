import PyProof.Rows.All
import Wide.All
import OpenK.AllK
import Wide.FinOn
import Lean
import PyProof.EqAt
import PyProof.EqKinds
import PyProof.TupleCall
import PySem.Challenge.RW_sharewheel_k19_whole_clipped_by_lines
set_option Elab.async false
set_option linter.all false
set_option maxRecDepth 100000
namespace L2
open PySem PySem.Spec PyProof.Rows
abbrev Key := Sum Int Str
def keyIs : Key → Value → Bool
  | .inl k, v => Value.isInt k v
  | .inr x, v => Value.isStrOf x v
def keyH (w : World) : Key → Int
  | .inl k => hashInt k
  | .inr x => hashStr w x
theorem keyIs_shape : ∀ {k : Key} {v : Value}, keyIs k v = true → (∃ i t, k = Sum.inl i ∧ v = Value.int i t) ∨ (∃ x t, k = Sum.inr x ∧ v = Value.str x t)
  | .inl i, v, h => by
    obtain ⟨t, e⟩ := Value.isInt_shape (k := i) (v := v) h
    exact .inl ⟨i, t, rfl, e⟩
  | .inr x, v, h => by
    obtain ⟨t, e⟩ := Value.isStrOf_shape (x := x) (v := v) h
    exact .inr ⟨x, t, rfl, e⟩
theorem keyIs_int (i : Int) (t : Tok) : keyIs (.inl i) (.int i t) = true := by simp [keyIs, Value.isInt]
theorem keyIs_str (x : Str) (t : Tok) : keyIs (.inr x) (.str x t) = true := by simp [keyIs, Value.isStrOf]
theorem key_ll (a b : Int) : decide ((Sum.inl a : Key) = Sum.inl b) = (a == b) := by
  by_cases e : a = b
  · subst e; simp
  · have h : ¬ (Sum.inl a : Key) = Sum.inl b := fun q => e (Sum.inl.inj q)
    rw [decide_eq_false h]
    exact (beq_eq_false_iff_ne.mpr e).symm
theorem key_rr (a b : Str) : decide ((Sum.inr a : Key) = Sum.inr b) = decide (a = b) := by
  by_cases e : a = b
  · subst e; simp
  · have h : ¬ (Sum.inr a : Key) = Sum.inr b := fun q => e (Sum.inr.inj q)
    rw [decide_eq_false h, decide_eq_false e]
theorem key_lr (a : Int) (b : Str) : decide ((Sum.inl a : Key) = Sum.inr b) = false := decide_eq_false (fun q => nomatch q)
theorem key_rl (a : Str) (b : Int) : decide ((Sum.inr a : Key) = Sum.inl b) = false := decide_eq_false (fun q => nomatch q)
def mixKind (prog : Program) (w : World) : PySem.KeyKind prog w Key where
  is := keyIs
  hash := keyH w
  inj := fun v a b ha hb => by
    rcases keyIs_shape ha with ⟨i, t, rfl, rfl⟩ | ⟨x, t, rfl, rfl⟩
    · rcases keyIs_shape hb with ⟨j, u, rfl, e⟩ | ⟨y, u, rfl, e⟩
      · injection e with e1 _; rw [e1]
      · exact nomatch e
    · rcases keyIs_shape hb with ⟨j, u, rfl, e⟩ | ⟨y, u, rfl, e⟩
      · exact nomatch e
      · injection e with e1 _; rw [e1]
  byValue := fun k v h => by
    rcases keyIs_shape h with ⟨i, t, rfl, rfl⟩ | ⟨x, t, rfl, rfl⟩ <;> rfl
  pyHash := fun hv h => by
    rcases keyIs_shape hv with ⟨i, t, rfl, rfl⟩ | ⟨x, t, rfl, rfl⟩
    · exact wpAny_pyHash_int h
    · exact wpAny_pyHash_str h
  eqBool := fun hu hv h => by
    rcases keyIs_shape hu with ⟨i, t, rfl, rfl⟩ | ⟨x, t, rfl, rfl⟩
    · rcases keyIs_shape hv with ⟨j, u, rfl, rfl⟩ | ⟨y, u, rfl, rfl⟩
      · rw [key_ll] at h; exact wpAny_eqBool_int h
      · rw [key_lr] at h; exact SeqAt.EqAt.int_str i t y u _ _ _ _ h
    · rcases keyIs_shape hv with ⟨j, u, rfl, rfl⟩ | ⟨y, u, rfl, rfl⟩
      · rw [key_rl] at h; exact SeqAt.EqAt.str_int x t j u _ _ _ _ h
      · rw [key_rr] at h; exact wpAny_eqBool_str h
  «strs» := fun k x t v h => by
    rcases keyIs_shape h with ⟨i, u, rfl, e⟩ | ⟨y, u, rfl, e⟩
    · exact nomatch e
    · injection e with e1 _
      subst e1
      cases v <;> rfl
theorem mixKind_int (prog : Program) (w : World) (i : Int) (t : Tok) : (mixKind prog w).is (.inl i) (.int i t) = true := keyIs_int i t
theorem mixKind_str (prog : Program) (w : World) (x : Str) (t : Tok) : (mixKind prog w).is (.inr x) (.str x t) = true := keyIs_str x t
end L2
namespace L2
open PySem PySem.Spec PyProof.Rows
inductive V where
  | non | bl (b : Bool) | int (i : Int) | str (x : Str) | byt (b : Array UInt8) | flt (b : UInt64) | ref (a : Addr) | ty (n : String)
  deriving DecidableEq
def RelV : V → Value → Prop
  | .non, u => u = Value.none
  | .bl b, u => u = Value.bool b
  | .int i, u => ∃ t, u = Value.int i t
  | .str x, u => ∃ t, u = Value.str x t
  | .byt b, u => ∃ t, u = Value.bytes b t
  | .flt b, u => ∃ t, u = Value.float b t
  | .ref a, u => u = Value.ref a
  | .ty n, u => u = Value.type n
abbrev Vals : List V → List Value → Prop := Paired RelV
theorem Vals.length {xs : List V} {us : List Value} (r : Vals xs us) : xs.length = us.length := Paired.length r
theorem Vals.get : ∀ {xs : List V} {us : List Value} {i : Nat} {x : V}, Vals xs us → xs[i]? = some x → ∃ u, us[i]? = some u ∧ RelV x u
  | _, _, _, _, .nil, e => by simp at e
  | _, _, 0, _, .cons r _, e => by simp at e; subst e; exact ⟨_, rfl, r⟩
  | _, _, i + 1, x, .cons _ t, e => by
    obtain ⟨u, h1, h2⟩ := Vals.get (i := i) (x := x) t (by simpa using e)
    exact ⟨u, by simpa using h1, h2⟩
theorem Vals.set {x : V} {u : Value} (r : RelV x u) : ∀ {xs : List V} {us : List Value} (i : Nat), Vals xs us → Vals (xs.set i x) (us.set i u)
  | _, _, _, .nil => .nil
  | _, _, 0, .cons _ t => .cons r t
  | _, _, i + 1, .cons q t => .cons q (Vals.set r i t)
theorem Vals.append : ∀ {xs ys : List V} {us ws : List Value}, Vals xs us → Vals ys ws → Vals (xs ++ ys) (us ++ ws)
  | _, _, _, _, .nil, s => s
  | _, _, _, _, .cons r t, s => .cons r (Vals.append t s)
theorem Vals.take : ∀ {xs : List V} {us : List Value} (n : Nat), Vals xs us → Vals (xs.take n) (us.take n)
  | _, _, 0, _ => .nil
  | _, _, _ + 1, .nil => .nil
  | _, _, n + 1, .cons r t => .cons r (Vals.take n t)
theorem Vals.drop : ∀ {xs : List V} {us : List Value} (n : Nat), Vals xs us → Vals (xs.drop n) (us.drop n)
  | _, _, 0, r => r
  | _, _, _ + 1, .nil => .nil
  | _, _, n + 1, .cons _ t => Vals.drop n t
theorem Vals.none_of : ∀ {xs : List V} {us : List Value} {i : Nat}, Vals xs us → xs[i]? = none → us[i]? = none := fun {xs us i} r e => by
  have h1 := r.length
  have h2 : xs.length ≤ i := List.getElem?_eq_none_iff.mp e
  exact List.getElem?_eq_none_iff.mpr (by omega)
def RelO : Option V → Option Value → Prop
  | some v, some u => RelV v u
  | none, none => True
  | _, _ => False
def KV {κ : Type} : List (κ × V) → List (κ × Value) → Prop := Paired fun (p : κ × V) (q : κ × Value) => p.1 = q.1 ∧ RelV p.2 q.2
def kV : Key → V
  | .inl i => .int i
  | .inr x => .str x
inductive HO where
  /-- a list -/
  | lst (xs : List V)
  /-- a tuple (never changes) -/
  | tup (xs : List V)
  /-- a dict whose keys are ints and texts; one whose keys are tuples of ints and texts (the empty one is both) -/
  | dK (kvs : List (Key × V)) | dT (kvs : List (List Key × V))
  /-- a set of ints: its members, its size -/
  | set (S : Int → Bool) (n : Nat)
  /-- an instance of the class at C, its dict at dx, its attributes -/
  | ins (C dx : Addr) (fs : List (Str × V))
  /-- the dict of the instance at x -/
  | own (x : Addr)
  /-- the dict of an exception -/
  | xd (fs : List (Str × V))
  /-- a bound method, f of x -/
  | met (f x : Addr)
  /-- a range object lo, lo + 1, .. below hi -/
  | rng (lo hi : Int)
  /-- a thing that is known to the object (the script; a dict while a loop walks it): read, never written while it is so -/
  | frz (o : Obj) (u : HO)
  /-- a code object's table -/
  | tbl (ps : Array Value)
  /-- any other thing, by what is true of its one object (a def of one's own: SetO a S n := HO.ext fun h => ..) -/
  | ext (φ : Heap → Prop)
abbrev Hp := Addr → Option HO
def upd (H : Hp) (a : Addr) (o : HO) : Hp := fun b => if b = a then some o else H b
theorem upd_same {H : Hp} {a : Addr} {o : HO} : upd H a o a = some o := by unfold upd; rw [if_pos rfl]
theorem upd_ne {H : Hp} {a b : Addr} {o : HO} (h : b ≠ a) : upd H a o b = H b := by unfold upd; rw [if_neg h]
theorem upd_upd {H : Hp} {a : Addr} {o u : HO} : upd (upd H a o) a u = upd H a u := by
  funext b; unfold upd; split <;> rfl
theorem ne_of {H : Hp} {a b : Addr} {o u : HO} (h : H a = some o) (h' : H b = some u) (d : o ≠ u) : a ≠ b := by
  intro e; subst e; rw [h] at h'; exact d (Option.some.inj h')
theorem ne_of_none {H : Hp} {a b : Addr} {o : HO} (h : H a = some o) (h' : H b = none) : a ≠ b := by
  intro e; subst e; rw [h] at h'; cases h'
section
variable (P : Program) (w : World)
def ObjOk (H : Hp) (h : Heap) (a : Addr) : HO → Prop
  | .lst xs => xs.length ≤ sizeLine ∧ ∃ (its : List Value) (n : Nat), Vals xs its ∧ h.get? a = some { cls := .type "list", data := .seq its.toArray n }
  | .tup xs => xs.length ≤ sizeLine ∧ ∃ its : List Value, Vals xs its ∧ IsTup h a its.toArray
  | .dK kvs => kvs.length ≤ sizeLine ∧ (a == sysModules) = false ∧ ∃ vs, KV kvs vs ∧ h.DictOf (mixKind P w) a vs
  | .dT kvs => kvs.length ≤ sizeLine ∧ (a == sysModules) = false ∧ ∃ xs : List (List Key × Addr × Value),
      Paired (fun (p : List Key × V) (q : List Key × Addr × Value) => p.1 = q.1 ∧ H q.2.1 = some (.tup (p.1.map kV)) ∧ RelV p.2 q.2.2) kvs xs ∧
      ∃ o es ep, h.get? a = some o ∧ o.ExactDict ∧ o.data = .dict es ep ∧ es.toList = xs.map (entryOfKey (tupleKind (mixKind P w))) ∧ (xs.map (·.1)).Nodup
  | .set S n => h.SetOf (intKind P w) a S n
  | .ins C dx fs => H dx = some (.own a) ∧ fs.length ≤ 1000 ∧ dx ≠ a ∧ h.get? a = some (PySem.W.instObj C dx) ∧
      ∃ mA, h.Ns1 dx mA ∧ (∀ f, RelO (fs.lookup f) (mA f)) ∧ PySem.Within mA (fs.map (·.1))
  | .own _ => ∃ o, h.get? a = some o
  | .xd fs => ∃ mA, h.Ns1 a mA ∧ ∀ f, RelO (fs.lookup f) (mA f)
  | .rng lo hi => ∃ t u v, h.get? a = some { cls := .type "range", data := .fields #[.int lo t, .int hi u, .int 1 v] }
  | .frz o u => h.get? a = some o ∧ ObjOk H h a u
  | .tbl ps => h.get? a = some { cls := .none, data := .fields ps }
  | .met f x => h.get? a = some (PySem.W.methodObj (.ref f) (.ref x))
  | .ext φ => φ h ∧ (∃ o, h.get? a = some o) ∧ ∀ h1 h2 : Heap, φ h1 → (∀ o, h1.get? a = some o → h2.get? a = some o) → φ h2
def HOk (H : Hp) (h : Heap) : Prop := ∀ a o, H a = some o → ObjOk P w H h a o
end
section
variable {P : Program} {w : World} {H H' : Hp} {h h' : Heap} {a : Addr} {o : HO}
theorem ObjOk.lt (x : ObjOk P w H h a o) : a < h.objs.size := by
  cases o with
  | lst xs => obtain ⟨_, _, _, _, e⟩ := x; exact Heap.lt_size e
  | tup xs => obtain ⟨_, _, _, p⟩ := x; exact p.lt
  | dK kvs => obtain ⟨_, _, _, _, o, _, _, e, _⟩ := x; exact Heap.lt_size e
  | dT kvs => obtain ⟨_, _, _, _, o, _, _, e, _⟩ := x; exact Heap.lt_size e
  | set S n => obtain ⟨o, _, _, _, e, _⟩ := x; exact Heap.lt_size e
  | ins C dx fs => obtain ⟨_, _, _, e, _⟩ := x; exact Heap.lt_size e
  | own y => obtain ⟨_, e⟩ := x; exact Heap.lt_size e
  | xd fs => obtain ⟨_, ⟨_, _, _, e, _⟩, _⟩ := x; exact Heap.lt_size e
  | rng lo hi => obtain ⟨_, _, _, e⟩ := x; exact Heap.lt_size e
  | frz ob u => obtain ⟨e, _⟩ := x; exact Heap.lt_size e
  | tbl ps => exact Heap.lt_size (show h.get? a = some _ from x)
  | met f y => exact Heap.lt_size (show h.get? a = some _ from x)
  | ext φ => obtain ⟨_, ⟨_, e⟩, _⟩ := x; exact Heap.lt_size e
theorem Paired.mapP {α β : Type} {F G : α → β → Prop} : ∀ {l₁ : List α} {l₂ : List β}, Paired F l₁ l₂ → (∀ a b, F a b → G a b) → Paired G l₁ l₂
  | _, _, .nil, _ => .nil
  | _, _, .cons r t, f => .cons (f _ _ r) (Paired.mapP t f)
theorem ObjOk.stay (x : ObjOk P w H h a o) (k : ∀ b u, (b = a ∨ H b = some (.own a)) → h.get? b = some u → h'.get? b = some u)
    (ho : ∀ b, H b = some (.own a) → H' b = some (.own a)) (ht : ∀ b xs, H b = some (.tup xs) → H' b = some (.tup xs)) : ObjOk P w H' h' a o := by
  induction o with
  | lst xs => obtain ⟨z, its, n, r, e⟩ := x; exact ⟨z, its, n, r, k _ _ (.inl rfl) e⟩
  | tup xs => obtain ⟨z, its, r, ob, e, c⟩ := x; exact ⟨z, its, r, ob, k _ _ (.inl rfl) e, c⟩
  | dK kvs => obtain ⟨z, y, vs, r, ob, es, ep, e, c⟩ := x; exact ⟨z, y, vs, r, ob, es, ep, k _ _ (.inl rfl) e, c⟩
  | dT kvs =>
    obtain ⟨z, y, xs, r, ob, es, ep, e, c⟩ := x
    exact ⟨z, y, xs, Paired.mapP r fun p q z => ⟨z.1, ht _ _ z.2.1, z.2.2⟩, ob, es, ep, k _ _ (.inl rfl) e, c⟩
  | set S n => obtain ⟨ob, es, ep, t, e, c⟩ := x; exact ⟨ob, es, ep, t, k _ _ (.inl rfl) e, c⟩
  | ins C dx fs =>
    obtain ⟨d, z, ne, e, mA, ⟨od, es, ep, e2, c⟩, r⟩ := x
    exact ⟨ho _ d, z, ne, k _ _ (.inl rfl) e, mA, ⟨od, es, ep, k _ _ (.inr d) e2, c⟩, r⟩
  | own y => obtain ⟨ob, e⟩ := x; exact ⟨ob, k _ _ (.inl rfl) e⟩
  | xd fs => obtain ⟨mA, ⟨od, es, ep, e, c⟩, r⟩ := x; exact ⟨mA, ⟨od, es, ep, k _ _ (.inl rfl) e, c⟩, r⟩
  | rng lo hi => obtain ⟨t, u, v, e⟩ := x; exact ⟨t, u, v, k _ _ (.inl rfl) e⟩
  | frz ob u ih => obtain ⟨e, q⟩ := x; exact ⟨k _ _ (.inl rfl) e, ih q⟩
  | tbl ps =>
    have e : h.get? a = some { cls := .none, data := .fields ps } := x
    show h'.get? a = some { cls := .none, data := .fields ps }
    exact k a _ (.inl rfl) e
  | met f y =>
    have e : h.get? a = some (PySem.W.methodObj (.ref f) (.ref y)) := x
    show h'.get? a = some (PySem.W.methodObj (.ref f) (.ref y))
    exact k a _ (.inl rfl) e
  | ext φ => obtain ⟨p, ⟨o, e⟩, st⟩ := x; exact ⟨st _ _ p fun o q => k _ _ (.inl rfl) q, ⟨o, k _ _ (.inl rfl) e⟩, st⟩
theorem HOk.lt (x : HOk P w H h) (e : H a = some o) : a < h.objs.size := (x a o e).lt
theorem HOk.fresh (x : HOk P w H h) (e : h.objs.size ≤ a) : H a = none := by
  cases q : H a with
  | none => rfl
  | some u => exact absurd (Nat.lt_of_lt_of_le (x.lt q) e) (Nat.lt_irrefl _)
theorem HOk.kept (x : HOk P w H h) (k : ∀ b u, h.get? b = some u → h'.get? b = some u) : HOk P w H h' := fun a o e =>
  (x a o e).stay (fun b u _ q => k b u q) (fun _ q => q) fun _ _ q => q
theorem HOk.laid (x : HOk P w H h) (k : ∀ b u, h.get? b = some u → h'.get? b = some u) (hp : h.objs.size ≤ a) (new : ObjOk P w (upd H a o) h' a o) : HOk P w (upd H a o) h' := fun b u e => by
  have hn := x.fresh hp
  by_cases hb : b = a
  · subst hb; rw [upd_same] at e; cases e; exact new
  · rw [upd_ne hb] at e
    exact (x b u e).stay (fun c v _ q => k c v q) (fun c q => by rw [upd_ne (ne_of_none q hn)]; exact q) fun c xs q => by rw [upd_ne (ne_of_none q hn)]; exact q
end
def Rd (H : Hp) (a : Addr) (u : HO) : Prop := H a = some u ∨ ∃ o, H a = some (.frz o u)
theorem Rd.of {H : Hp} {a : Addr} {u : HO} (h : H a = some u) : Rd H a u := .inl h
theorem Rd.ok {P : Program} {w : World} {H : Hp} {h : Heap} {a : Addr} {u : HO} (r : Rd H a u) (x : HOk P w H h) : ObjOk P w H h a u := by
  rcases r with r | ⟨o, r⟩
  · exact x a u r
  · obtain ⟨_, q⟩ := x a _ r
    exact q
def Mut : Option HO → Prop
  | some (.lst _) => True
  | some (.dK _) => True
  | some (.dT _) => True
  | some (.set _ _) => True
  | some (.ins _ _ _) => True
  | some (.ext _) => True
  | _ => False
section
variable {P : Program} {w : World} {H : Hp} {h h' : Heap} {x e : Addr} {o' : HO}
theorem HOk.write (ok : HOk P w H h) (mu : Mut (H x)) (he : e = x ∨ H e = some (.own x)) (k : ∀ b u, b ≠ e → h.get? b = some u → h'.get? b = some u) (heo : ∃ u, h'.get? e = some u)
    (new : ObjOk P w (upd H x o') h' x o') : HOk P w (upd H x o') h' := fun b u q => by
  have nown : ∀ c y, H c = some (.own y) → c ≠ x := fun c y r z => by subst z; rw [r] at mu; exact mu
  have ntup : ∀ c xs, H c = some (.tup xs) → c ≠ x := fun c xs r z => by subst z; rw [r] at mu; exact mu
  by_cases hb : b = x
  · subst hb; rw [upd_same] at q; cases q; exact new
  · rw [upd_ne hb] at q
    by_cases hbe : b = e
    · have q' : H b = some (.own x) := by
        rcases he with z | z
        · exact absurd (hbe.trans z) hb
        · rw [hbe]; exact z
      rw [q] at q'; cases q'
      obtain ⟨v, hv⟩ := heo
      exact ⟨v, by rw [hbe]; exact hv⟩
    · refine (ok b u q).stay (fun c v hc r => k c v ?_ r) (fun c r => by rw [upd_ne (nown c b r)]; exact r) fun c xs r => by rw [upd_ne (ntup c xs r)]; exact r
      rcases hc with rfl | hc
      · exact hbe
      · rintro rfl
        rcases he with z | z
        · exact nown c b hc z
        · rw [hc] at z; cases z; exact hb rfl
end
structure Un (fs ex : List Addr) (H H' : Hp) (h h' : Heap) : Prop where
  keep : ∀ b o, h.get? b = some o → H b = none → b ∉ fs → b ∉ ex → h'.get? b = some o
  slot : ∀ b o, h.get? b = some o → H b = none → b ∈ fs → b ∉ ex → ∃ sl, h'.get? b = some { o with slots := sl }
  free : ∀ b o, h.get? b = some o → H b = none → b ∉ ex → H' b = none
  there : ∀ b o, h.get? b = some o → b ∉ ex → ∃ o', h'.get? b = some o'
  tups : ∀ b xs, H b = some (.tup xs) → H' b = some (.tup xs)
  frzs : ∀ b o u, H b = some (.frz o u) → H' b = some (.frz o u)
  tbls : ∀ b ps, H b = some (.tbl ps) → ∃ more, H' b = some (.tbl (ps ++ more))
section
variable {fs fs' ex ex' : List Addr} {H H1 H2 : Hp} {h h1 h2 h' : Heap} {a x e : Addr} {o : HO}
theorem Un.any (u : Un fs ex H H1 h h1) {b : Addr} {ob : Obj} (q : h.get? b = some ob) (n : H b = none) (hx : b ∉ ex) : ∃ sl, h1.get? b = some { ob with slots := sl } := by
  by_cases hb : b ∈ fs
  · exact u.slot b ob q n hb hx
  · exact ⟨ob.slots, u.keep b ob q n hb hx⟩
theorem Un.trans (a : Un fs ex H H1 h h1) (b : Un fs ex H1 H2 h1 h2) : Un fs ex H H2 h h2 where
  keep := fun c ob q n hc hx => b.keep c ob (a.keep c ob q n hc hx) (a.free c ob q n hx) hc hx
  slot := fun c ob q n hc hx => by
    obtain ⟨sl, e1⟩ := a.slot c ob q n hc hx
    obtain ⟨sl', e2⟩ := b.slot c _ e1 (a.free c ob q n hx) hc hx
    exact ⟨sl', e2⟩
  free := fun c ob q n hx => by
    obtain ⟨o', e1⟩ := a.there c ob q hx
    exact b.free c o' e1 (a.free c ob q n hx) hx
  there := fun c ob q hx => by
    obtain ⟨o', e1⟩ := a.there c ob q hx
    exact b.there c o' e1 hx
  tups := fun c xs q => b.tups c xs (a.tups c xs q)
  frzs := fun c ob xs q => b.frzs c ob xs (a.frzs c ob xs q)
  tbls := fun c ps q => by
    obtain ⟨m1, e1⟩ := a.tbls c ps q
    obtain ⟨m2, e2⟩ := b.tbls c _ e1
    exact ⟨m1 ++ m2, by rw [e2, Array.append_assoc]⟩
theorem Un.kept (k : ∀ b u, h.get? b = some u → h'.get? b = some u) : Un fs ex H H h h' :=
  ⟨fun b ob q _ _ _ => k b ob q, fun b ob q _ _ _ => ⟨ob.slots, k b ob q⟩, fun _ _ _ n _ => n, fun b ob q _ => ⟨ob, k b ob q⟩, fun _ _ q => q, fun _ _ _ q => q, fun _ ps q => ⟨#[], by rw [q]; simp⟩⟩
theorem Un.refl : Un fs ex H H h h := Un.kept fun _ _ q => q
theorem Un.laid (k : ∀ b u, h.get? b = some u → h'.get? b = some u) (hp : h.objs.size ≤ a) (hn : H a = none) : Un fs ex H (upd H a o) h h' where
  keep := fun b u q _ _ _ => k b u q
  slot := fun b u q _ _ _ => ⟨u.slots, k b u q⟩
  free := fun b u q n _ => by rw [upd_ne (Nat.ne_of_lt (Nat.lt_of_lt_of_le (Heap.lt_size q) hp))]; exact n
  there := fun b u q _ => ⟨u, k b u q⟩
  tups := fun b xs q => by rw [upd_ne (ne_of_none q hn)]; exact q
  frzs := fun b u xs q => by rw [upd_ne (ne_of_none q hn)]; exact q
  tbls := fun b ps q => ⟨#[], by rw [upd_ne (ne_of_none q hn), q]; simp⟩
theorem Un.write (mu : Mut (H x)) (he : e = x ∨ H e = some (.own x)) (k : ∀ b u, b ≠ e → h.get? b = some u → h'.get? b = some u) (heo : ∃ u, h'.get? e = some u) : Un fs ex H (upd H x o) h h' := by
  have hx : ∀ b, H b = none → b ≠ x := fun b n z => by subst z; rw [n] at mu; exact mu
  have hb : ∀ b, H b = none → b ≠ e := fun b n z => by
    subst z
    rcases he with r | r
    · exact hx b n r
    · rw [n] at r; cases r
  have hm : ∀ b u, H b = some u → ¬ Mut (some u) → b ≠ x := fun b u q nm z => by subst z; rw [q] at mu; exact nm mu
  refine ⟨fun b u q n _ _ => k b u (hb b n) q, fun b u q n _ _ => ⟨u.slots, k b u (hb b n) q⟩, fun b u q n _ => by rw [upd_ne (hx b n)]; exact n, fun b u q _ => ?_,
    fun b xs q => by rw [upd_ne (hm b _ q fun z => z)]; exact q, fun b u xs q => by rw [upd_ne (hm b _ q fun z => z)]; exact q, fun b ps q => ⟨#[], by rw [upd_ne (hm b _ q fun z => z), q]; simp⟩⟩
  by_cases hbe : b = e
  · subst hbe; exact heo
  · exact ⟨u, k b u hbe q⟩
theorem Un.mono (u : Un fs ex H H1 h h1) (hs : ∀ b ∈ fs, b ∈ fs') (hx : ∀ b ∈ ex, b ∈ ex') : Un fs' ex' H H1 h h1 :=
  ⟨fun b ob q n hb he => u.keep b ob q n (fun z => hb (hs b z)) fun z => he (hx b z), fun _ _ q n _ he => u.any q n fun z => he (hx _ z), fun b ob q n he => u.free b ob q n fun z => he (hx b z), fun b ob q he => u.there b ob q fun z => he (hx b z), u.tups, u.frzs, u.tbls⟩
end
def trk (h : Heap) (H : Hp) : List Addr := (List.range h.objs.size).filter fun a => (H a).isSome
def hidT (h : Heap) (H : Hp) : Heap := PySem.W.hideAll h (trk h H)
theorem hidT_size (h : Heap) (H : Hp) : (hidT h H).objs.size = h.objs.size := PySem.W.hideAll_size _ _
theorem hidT_get {h : Heap} {H : Hp} {b : Addr} {o : Obj} (e : h.get? b = some o) (n : H b = none) : (hidT h H).get? b = some o :=
  PySem.W.hideAll_get _ e fun hm => by
    have q : (H b).isSome = true := (List.mem_filter.mp hm).2
    rw [n] at q; simp at q
theorem of_hidT {h : Heap} {H : Hp} {b : Addr} {o : Obj} (e : (hidT h H).get? b = some o) : h.get? b = some o ∧ H b = none := by
  have e' : h.get? b = some o := PySem.W.of_hideAll (trk h H) e
  refine ⟨e', ?_⟩
  cases q : H b with
  | none => rfl
  | some x =>
    have hm : b ∈ trk h H := List.mem_filter.mpr ⟨List.mem_range.mpr (Heap.lt_size e'), by simp [q]⟩
    have z : (hidT h H).get? b = none := PySem.W.hideAll_none (trk h H) hm
    rw [z] at e; cases e
def allNews (g h : Heap) (L : Addr) : List (Addr × Obj) := (List.range h.objs.size).filterMap fun a => if a = L ∨ (g.get? a).isSome = true then none else (h.get? a).map fun o => (a, o)
def rest (g h : Heap) (L d : Addr) : List (Addr × Obj) := (allNews g h L).filter fun p => decide (p.1 ≠ d)
end L2
namespace L2
open PySem PySem.Spec PyProof.Rows
structure Mod (K : PySem.W.Frag) (mg : Str → Option Value) (base : Heap) : Prop where
  kin : K.In base
  glob : base.Ns mainGlobals mg
  blt : ∃ mb, base.Ns builtinsNs mb ∧ ∀ x : Str, x ≠ "__name__" → mb x = bootBuiltins x
  nolimit : base.NoLimit
structure Cx where
  prog : Program
  w : World
  K : PySem.W.Frag
  mg : Str → Option Value
  base : Heap
  A : Around
  N : List Str
  s₀ : Shared
  H₀ : Hp
  env : Env
  outer : List Env
  stack : List Env
  ex : List Addr
  fn : Str → Bool
  calm : Bool
  pn : List (Addr × Obj)
  xe : Value → Shared → Prop
def frs (l : List Env) : List Addr := l.filterMap (·.frame)
abbrev Cx.fs (X : Cx) : List Addr := frs X.outer
def Vis (sc : Scope) (x : Str) : Prop := sc.names.lookup x = some .local ∨ sc.names.lookup x = some .cell ∨ sc.names.lookup x = some .free
def Loc (sc : Scope) (x : Str) : Prop := sc.names.lookup x = some .local ∨ sc.names.lookup x = some .cell
def Look (env : Env) (h : Heap) (m : Str → Option Value) (x : Str) (u : Value) : Prop :=
  (env.kindOf x = some .local ∧ m x = some u) ∨ ((env.kindOf x = some .cell ∨ env.kindOf x = some .free) ∧ ∃ c, env.cells.lookup x = some c ∧ h.IsCell c (some u))
structure Cx.Ok (X : Cx) : Prop where
  mod : Mod X.K X.mg X.base
  kind : X.env.scope.kind = .function
  glob : X.env.globals = mainGlobals
  blt : X.env.builtins = builtinsNs
  above : X.s₀.heap.objs.size ≤ X.env.locals
  inj : ∀ x y c, X.env.cells.lookup x = some c → X.env.cells.lookup y = some c → x = y
  has : ∀ x, (X.env.kindOf x = some .cell ∨ X.env.kindOf x = some .free) → ∃ c, X.env.cells.lookup x = some c
  cab : ∀ x c, X.fn x = true → X.env.cells.lookup x = some c → X.s₀.heap.objs.size ≤ c
  hd : X.calm = true → X.A.handled = none
  frames : X.A.frames = some X.stack
  stk : X.stack = X.outer ∨ (X.stack = X.env :: X.outer ∧ X.env.frame = some X.env.locals)
  exf : ∀ b ∈ X.ex, b ≠ X.env.locals ∧ ∀ x c, X.env.cells.lookup x = some c → c ≠ b
  bs : ∀ b o, X.base.get? b = some o → X.s₀.heap.get? b = some o ∧ X.H₀ b = none
  bsz : X.base.objs.size ≤ X.s₀.heap.objs.size
  noex : ∀ b o, X.base.get? b = some o → b ∉ X.ex
  exfs : ∀ b ∈ X.ex, b ∉ X.fs
  funs : X.s₀.heap.FunFrames X.base X.outer
  frf : ∀ b ∈ X.fs, X.H₀ b = none
structure Inv (X : Cx) (pins : List (Addr × Obj)) (σ : List (Option V)) (H : Hp) (s : Shared) : Prop where
  ok : X.Ok
  os : s.os = X.s₀.os
  bare : AllBare s.gens
  base : Un X.fs X.ex X.H₀ H X.s₀.heap s.heap
  loc : ∃ m, s.heap.Ns X.env.locals m ∧ ∀ (i : Nat) (x : Str) (v : V), X.N[i]? = some x → σ[i]? = some (some v) → Vis X.env.scope x → ∃ u, RelV v u ∧ Look X.env s.heap m x u
  cell : ∀ x c, X.env.cells.lookup x = some c → ∃ v, s.heap.IsCell c v
  free : H X.env.locals = none
  freeC : ∀ x c, X.env.cells.lookup x = some c → H c = none
  pin : ∀ p ∈ X.pn ++ pins, s.heap.get? p.1 = some p.2 ∧ H p.1 = none ∧ p.1 ≠ X.env.locals ∧ p.1 ∉ X.fs ∧ ∀ v, p.2.data ≠ .cell v
  hok : HOk X.prog X.w H s.heap
  len : σ.length = X.N.length
section
variable {X : Cx} {pins : List (Addr × Obj)} {σ : List (Option V)} {H H' : Hp} {s : Shared} {h' : Heap}
theorem Cx.Ok.nofr (ok : X.Ok) {b : Addr} {o : Obj} (e : X.base.get? b = some o) : b ∉ X.fs := fun hb => by
  have := (ok.funs.mem hb).1
  rw [e] at this; cases this
theorem Inv.bs (I : Inv X pins σ H s) : ∀ b o, X.base.get? b = some o → s.heap.get? b = some o ∧ H b = none := fun b o e =>
  ⟨I.base.keep b o (I.ok.bs b o e).1 (I.ok.bs b o e).2 (I.ok.nofr e) (I.ok.noex b o e), I.base.free b o (I.ok.bs b o e).1 (I.ok.bs b o e).2 (I.ok.noex b o e)⟩
theorem Inv.bk (I : Inv X pins σ H s) : ∀ b o, X.base.get? b = some o → s.heap.get? b = some o := fun b o e => (I.bs b o e).1
theorem Inv.mod (I : Inv X pins σ H s) : Mod X.K X.mg X.base := I.ok.mod
theorem Inv.kIn (I : Inv X pins σ H s) : X.K.In s.heap := I.ok.mod.kin.keeps I.bk
theorem Inv.nolimit (I : Inv X pins σ H s) : s.heap.NoLimit := I.ok.mod.nolimit.keeps I.bk
theorem Inv.fr (I : Inv X pins σ H s) : ∃ m, Fr X.base X.env.locals s.heap m :=
  let ⟨m, hn, _⟩ := I.loc
  ⟨m, hn, I.bk, Nat.le_trans I.ok.bsz I.ok.above⟩
theorem Inv.lt (I : Inv X pins σ H s) : X.env.locals < s.heap.objs.size := let ⟨_, hn, _⟩ := I.loc; hn.lt
theorem Inv.sz (I : Inv X pins σ H s) : X.s₀.heap.objs.size ≤ s.heap.objs.size := Nat.le_trans I.ok.above (Nat.le_of_lt I.lt)
theorem Inv.nofs (I : Inv X pins σ H s) {a : Addr} (h : s.heap.objs.size ≤ a) : a ∉ X.fs := fun hb => by
  obtain ⟨_, o, ho, _⟩ := I.ok.funs.mem hb
  exact absurd (Nat.lt_of_lt_of_le (Heap.lt_size ho) (Nat.le_trans I.sz h)) (Nat.lt_irrefl _)
theorem Inv.cne (I : Inv X pins σ H s) : ∀ x c, X.env.cells.lookup x = some c → c ≠ X.env.locals := fun x c e z => by
  obtain ⟨v, o, ho, hd⟩ := I.cell x c e
  obtain ⟨m, ⟨o', es, ep, ho', hd', _⟩, _⟩ := I.loc
  rw [z, ho'] at ho; cases ho; rw [hd'] at hd; cases hd
theorem Inv.funs (I : Inv X pins σ H s) : s.heap.FunFrames X.base X.outer := by
  have all : ∀ (l : List Env), (∀ b ∈ frs l, b ∈ X.fs) → X.s₀.heap.FunFrames X.base l → s.heap.FunFrames X.base l := by
    intro l
    induction l with
    | nil => intro _ _; trivial
    | cons env r ih =>
      intro hs hl
      obtain ⟨hk, ⟨L, o, hf, hn, ho, hd⟩, hr⟩ := hl
      have hL : L ∈ X.fs := hs L (by unfold frs; rw [List.filterMap_cons, hf]; exact List.mem_cons_self)
      obtain ⟨sl, e⟩ := I.base.slot L o ho (I.ok.frf L hL) hL fun z => I.ok.exfs L z hL
      exact ⟨hk, ⟨L, _, hf, hn, e, hd⟩, ih (fun b hb => hs b (by unfold frs; rw [List.filterMap_cons, hf]; exact List.mem_cons_of_mem _ hb)) hr⟩
  exact all X.outer (fun _ hb => hb) I.ok.funs
theorem Inv.stack (I : Inv X pins σ H s) : s.heap.FunFrames X.base X.stack := by
  rcases I.ok.stk with e | ⟨e, hf⟩
  · rw [e]; exact I.funs
  · rw [e]
    obtain ⟨m, hn, _⟩ := I.loc
    refine .cons (by rw [I.ok.kind]; decide) hf hn ?_ I.funs
    exact Heap.get?_none_of_le (Nat.le_trans I.ok.bsz I.ok.above)
theorem Inv.stkSub (I : Inv X pins σ H s) : ∀ b ∈ frs X.stack, b ∈ X.env.locals :: X.fs := fun b hb => by
  rcases I.ok.stk with e | ⟨e, hf⟩
  · rw [e] at hb; exact List.mem_cons_of_mem _ hb
  · rw [e] at hb
    unfold frs at hb
    rw [List.filterMap_cons, hf] at hb
    exact hb
theorem Inv.stkFree (I : Inv X pins σ H s) : ∀ b ∈ frs X.stack, H b = none := fun b hb => by
  rcases List.mem_cons.mp (I.stkSub b hb) with e | hb
  · rw [e]; exact I.free
  · obtain ⟨_, o, ho, _⟩ := I.ok.funs.mem hb
    exact I.base.free b o ho (I.ok.frf b hb) fun z => I.ok.exfs b z hb
theorem Inv.step {g' : Array GenState} {t' : Nat} {d' : Drawn} {ch : List Addr} (I : Inv X pins σ H s)
    (hch : ∀ b ∈ ch, (b ∈ X.ex ∨ X.s₀.heap.objs.size ≤ b) ∧ b ≠ X.env.locals ∧ (∀ x c, X.env.cells.lookup x = some c → c ≠ b) ∧ ∀ p ∈ X.pn ++ pins, p.1 ≠ b)
    (keep : ∀ b o, b ≠ X.env.locals → b ∉ X.fs → b ∉ ch → s.heap.get? b = some o → H b = none → h'.get? b = some o)
    (slot : ∀ b o, b ≠ X.env.locals → b ∈ X.fs → b ∉ ch → s.heap.get? b = some o → H b = none → ∃ sl, h'.get? b = some { o with slots := sl }) (free : ∀ b o, b ∉ ch → s.heap.get? b = some o → H b = none → H' b = none)
    (there : ∀ b o, b ∉ ch → s.heap.get? b = some o → ∃ o', h'.get? b = some o')
    (tups : ∀ b xs, H b = some (.tup xs) → H' b = some (.tup xs)) (frzs : ∀ b o u, H b = some (.frz o u) → H' b = some (.frz o u)) (tbls : ∀ b ps, H b = some (.tbl ps) → ∃ more, H' b = some (.tbl (ps ++ more)))
    (ns : ∀ m, s.heap.Ns X.env.locals m → h'.Ns X.env.locals m) (hok : HOk X.prog X.w H' h') (hg : AllBare g') :
    Inv X pins σ H' { s with heap := h', gens := g', drawn := d', toks := t' } := by
  have neL : ∀ b o, X.s₀.heap.get? b = some o → b ≠ X.env.locals := fun b o e => Nat.ne_of_lt (Nat.lt_of_lt_of_le (Heap.lt_size e) I.ok.above)
  have neC : ∀ b o, X.s₀.heap.get? b = some o → b ∉ X.ex → b ∉ ch := fun b o e hx hb => by
    rcases (hch b hb).1 with z | z
    · exact hx z
    · exact absurd (Nat.lt_of_lt_of_le (Heap.lt_size e) z) (Nat.lt_irrefl _)
  have cellK : ∀ x c, X.env.cells.lookup x = some c → ∀ v, s.heap.IsCell c v → h'.IsCell c v := fun x c e v ⟨o, ho, hd⟩ => by
    have nch : c ∉ ch := fun z => (hch c z).2.2.1 x c e rfl
    by_cases hc : c ∈ X.fs
    · obtain ⟨sl, q⟩ := slot c o (I.cne x c e) hc nch ho (I.freeC x c e)
      exact ⟨_, q, hd⟩
    · exact ⟨o, keep c o (I.cne x c e) hc nch ho (I.freeC x c e), hd⟩
  refine ⟨I.ok, I.os, hg, ⟨fun b o e n hb hx => ?_, fun b o e n hb hx => ?_, fun b o e n hx => ?_, fun b o e hx => ?_, fun b xs e => tups b xs (I.base.tups b xs e), fun b o xs e => frzs b o xs (I.base.frzs b o xs e), fun b ps e => ?_⟩, ?_, fun x c e => ?_, ?_, fun x c e => ?_, fun p hp => ?_, hok, I.len⟩
  · exact keep b o (neL b o e) hb (neC b o e hx) (I.base.keep b o e n hb hx) (I.base.free b o e n hx)
  · obtain ⟨sl, e1⟩ := I.base.slot b o e n hb hx
    obtain ⟨sl', e2⟩ := slot b _ (neL b o e) hb (neC b o e hx) e1 (I.base.free b o e n hx)
    exact ⟨sl', e2⟩
  · obtain ⟨o', e1⟩ := I.base.there b o e hx
    exact free b o' (neC b o e hx) e1 (I.base.free b o e n hx)
  · obtain ⟨o', e1⟩ := I.base.there b o e hx
    exact there b o' (neC b o e hx) e1
  · obtain ⟨m1, e1⟩ := I.base.tbls b ps e
    obtain ⟨m2, e2⟩ := tbls b _ e1
    exact ⟨m1 ++ m2, by rw [e2, Array.append_assoc]⟩
  · obtain ⟨m, hn, hl⟩ := I.loc
    refine ⟨m, ns m hn, fun i x v e1 e2 e3 => ?_⟩
    obtain ⟨u, r, l⟩ := hl i x v e1 e2 e3
    refine ⟨u, r, ?_⟩
    rcases l with l | ⟨k, c, e, z⟩
    · exact .inl l
    · exact .inr ⟨k, c, e, cellK x c e _ z⟩
  · obtain ⟨v, z⟩ := I.cell x c e
    exact ⟨v, cellK x c e v z⟩
  · obtain ⟨m, ⟨o, _, _, ho, _⟩, _⟩ := I.loc
    exact free _ o (fun z => (hch _ z).2.1 rfl) ho I.free
  · obtain ⟨v, o, ho, hd⟩ := I.cell x c e
    exact free c o (fun z => (hch c z).2.2.1 x c e rfl) ho (I.freeC x c e)
  · obtain ⟨e, n, ne, nf, d⟩ := I.pin p hp
    have nch : p.1 ∉ ch := fun z => (hch p.1 z).2.2.2 p hp rfl
    exact ⟨keep p.1 p.2 ne nf nch e n, free p.1 p.2 nch e n, ne, nf, d⟩
theorem Inv.un {t' : Nat} (I : Inv X pins σ H s) (u : Un X.fs [] H H' s.heap h') (hok : HOk X.prog X.w H' h') : Inv X pins σ H' { s with heap := h', toks := t' } := by
  obtain ⟨m, ⟨o, es, ep, ho, r⟩, _⟩ := id I.loc
  obtain ⟨sl, hL⟩ := u.any ho I.free (by simp)
  exact I.step (g' := s.gens) (d' := s.drawn) (ch := []) (fun _ z => nomatch z) (fun b o _ hb _ e n => u.keep b o e n hb (by simp)) (fun b o _ hb _ e n => u.slot b o e n hb (by simp)) (fun b o _ e n => u.free b o e n (by simp)) (fun b o _ e => u.there b o e (by simp)) u.tups u.frzs u.tbls (fun m' hm => by
    obtain ⟨o', es', ep', ho', r'⟩ := hm
    rw [ho] at ho'; cases ho'
    exact ⟨_, es', ep', hL, r'⟩) hok I.bare
theorem Inv.call {g' : Array GenState} {t' : Nat} {d' : Drawn} {ch : List Addr} (I : Inv X pins σ H s) (u : Un (frs X.stack) ch H H' s.heap h') (hok : HOk X.prog X.w H' h') (hg : AllBare g')
    (hch : ∀ b ∈ ch, (b ∈ X.ex ∨ X.s₀.heap.objs.size ≤ b) ∧ b ≠ X.env.locals ∧ (∀ x c, X.env.cells.lookup x = some c → c ≠ b) ∧ ∀ p ∈ X.pn ++ pins, p.1 ≠ b) :
    Inv X pins σ H' { s with heap := h', gens := g', drawn := d', toks := t' } := by
  obtain ⟨m, ⟨o, es, ep, ho, r⟩, _⟩ := id I.loc
  obtain ⟨sl, hL⟩ := u.any ho I.free fun z => (hch _ z).2.1 rfl
  exact I.step (ch := ch) hch (fun b o hL hb hc e n => u.keep b o e n (fun z => (List.mem_cons.mp (I.stkSub b z)).elim hL hb) hc) (fun b o _ _ hc e n => u.any e n hc) (fun b o hc e n => u.free b o e n hc) (fun b o hc e => u.there b o e hc) u.tups u.frzs u.tbls (fun m' hm => by
    obtain ⟨o', es', ep', ho', r'⟩ := hm
    rw [ho] at ho'; cases ho'
    exact ⟨_, es', ep', hL, r'⟩) hok hg
theorem Inv.turned {t' : Nat} {it : Addr} (I : Inv X pins σ H s) (k : ∀ b o, b ≠ it → s.heap.get? b = some o → h'.get? b = some o) (hn : H it = none) (hL : it ≠ X.env.locals)
    (h1 : it ∈ X.ex ∨ X.s₀.heap.objs.size ≤ it) (h2 : ∀ x c, X.env.cells.lookup x = some c → c ≠ it) (h3 : ∀ p ∈ X.pn ++ pins, p.1 ≠ it) : Inv X pins σ H { s with heap := h', toks := t' } := by
  have nit : ∀ b u, H b = some u → b ≠ it := fun b u e z => by rw [z, hn] at e; cases e
  refine I.step (g' := s.gens) (d' := s.drawn) (ch := [it]) (fun b hb => ?_) (fun b o _ _ hc e _ => k b o (fun z => hc (by simp [z])) e) (fun b o _ _ hc e _ => ⟨o.slots, k b o (fun z => hc (by simp [z])) e⟩) (fun _ _ _ _ n => n)
    (fun b o hc e => ⟨o, k b o (fun z => hc (by simp [z])) e⟩) (fun _ _ e => e) (fun _ _ _ e => e) (fun b ps e => ⟨#[], by rw [e]; simp⟩) (fun m hm => ?_) (fun b u e => ?_) I.bare
  · have e : b = it := by simpa using hb
    subst e
    exact ⟨h1, hL, h2, h3⟩
  · obtain ⟨o, es, ep, ho, r⟩ := hm
    exact ⟨o, es, ep, k _ o (Ne.symm hL) ho, r⟩
  · refine (I.hok b u e).stay (fun c v hc q => k c v ?_ q) (fun _ q => q) fun _ _ q => q
    rcases hc with z | z
    · rw [z]; exact nit b u e
    · exact nit c _ z
theorem Inv.tok (I : Inv X pins σ H s) (t : Nat) : Inv X pins σ H { s with toks := t } := I.un (h' := s.heap) (t' := t) Un.refl I.hok
theorem Inv.kept {t' : Nat} (I : Inv X pins σ H s) (k : ∀ b u, s.heap.get? b = some u → h'.get? b = some u) : Inv X pins σ H { s with heap := h', toks := t' } := I.un (Un.kept k) (I.hok.kept k)
theorem Inv.laid {a : Addr} {o : HO} {t' : Nat} (I : Inv X pins σ H s) (k : ∀ b u, s.heap.get? b = some u → h'.get? b = some u) (hp : s.heap.objs.size ≤ a) (new : ObjOk X.prog X.w (upd H a o) h' a o) :
    Inv X pins σ (upd H a o) { s with heap := h', toks := t' } := I.un (Un.laid k hp (I.hok.fresh hp)) (I.hok.laid k hp new)
theorem Inv.write {x e : Addr} {o : HO} {t' : Nat} (I : Inv X pins σ H s) (mu : Mut (H x)) (he : e = x ∨ H e = some (.own x)) (k : ∀ b u, b ≠ e → s.heap.get? b = some u → h'.get? b = some u) (heo : ∃ u, h'.get? e = some u)
    (new : ObjOk X.prog X.w (upd H x o) h' x o) : Inv X pins σ (upd H x o) { s with heap := h', toks := t' } := I.un (Un.write mu he k heo) (I.hok.write mu he k heo new)
theorem Inv.pins_of {pins' : List (Addr × Obj)} (I : Inv X pins σ H s) (h : ∀ p ∈ pins', s.heap.get? p.1 = some p.2 ∧ H p.1 = none ∧ p.1 ≠ X.env.locals ∧ p.1 ∉ X.fs ∧ ∀ v, p.2.data ≠ .cell v) : Inv X pins' σ H s :=
  ⟨I.ok, I.os, I.bare, I.base, I.loc, I.cell, I.free, I.freeC, fun p hp => (List.mem_append.mp hp).elim (fun z => I.pin p (List.mem_append_left _ z)) (h p), I.hok, I.len⟩
theorem nodup_ix {N : List Str} (hN : N.Nodup) {i j : Nat} {x : Str} (a : N[i]? = some x) (b : N[j]? = some x) : i = j := by
  obtain ⟨h1, e1⟩ := List.getElem?_eq_some_iff.mp a
  obtain ⟨h2, e2⟩ := List.getElem?_eq_some_iff.mp b
  exact (List.getElem_inj hN).mp (e1.trans e2.symm)
theorem store_ok2 {M : Model} {A : Around} {E : Value → Shared → Prop} {i : Nat} {x : Str} {v : V} {u : Value} {Q : Unit → Shared → Prop} (I : Inv X pins σ H s) (hN : X.N.Nodup) (hi : X.N[i]? = some x) (hx : Loc X.env.scope x) (r : RelV v u)
    (h : ∀ s', Inv X pins (σ.set i (some v)) H s' → (∃ a, Heap.SameBut a s.heap s'.heap ∧ (a = X.env.locals ∨ X.env.cells.lookup x = some a)) → Q () s') (hf : X.fn x = true ∨ X.env.scope.names.lookup x = some .local := by first | exact .inl rfl | exact .inr rfl | assumption) : wpAny M A (storeName X.env x u) Q E s := by
  obtain ⟨m, hn, hl⟩ := id I.loc
  have hcls : (X.env.scope.kind == .class || (X.env.scope.kind == .module && X.env.locals != X.env.globals)) = false := by rw [I.ok.kind]; rfl
  have hiσ : i < σ.length := by rw [I.len]; exact (List.getElem?_eq_some_iff.mp hi).1
  have cne := I.cne
  have tracked : ∀ {a : Addr} {h' : Heap}, (∃ o, s.heap.get? a = some o ∧ H a = none) → Heap.SameBut a s.heap h' → HOk X.prog X.w H h' := fun {a h'} ha hs b ob e => by
    obtain ⟨_, _, hfree⟩ := ha
    refine (I.hok b ob e).stay (fun c w' hc q => (hs.2 c ?_).trans q) (fun _ q => q) fun _ _ q => q
    rintro rfl
    rcases hc with rfl | hc
    · rw [hfree] at e; cases e
    · rw [hfree] at hc; cases hc
  rcases hx with hk | hk
  · refine wpAny_storeName_local hk hn (fun h' hn' hs => ?_) hcls
    obtain ⟨oL, _, _, hoL, _⟩ := id hn
    refine h _ ⟨I.ok, I.os, I.bare, ⟨fun b o e n hb hx => ?_, fun b o e n hb hx => ?_, I.base.free, fun b o e hx => ?_, I.base.tups, I.base.frzs, I.base.tbls⟩, ⟨_, hn', fun j y v' e1 e2 e3 => ?_⟩, fun y c e => ?_, I.free, I.freeC, fun p hp => ?_, tracked ⟨oL, hoL, I.free⟩ hs, by simpa using I.len⟩ ⟨_, hs, .inl rfl⟩
    · exact (hs.2 b (Nat.ne_of_lt (Nat.lt_of_lt_of_le (Heap.lt_size e) I.ok.above))).trans (I.base.keep b o e n hb hx)
    · obtain ⟨sl, e1⟩ := I.base.slot b o e n hb hx
      exact ⟨sl, (hs.2 b (Nat.ne_of_lt (Nat.lt_of_lt_of_le (Heap.lt_size e) I.ok.above))).trans e1⟩
    · obtain ⟨o', e1⟩ := I.base.there b o e hx
      exact ⟨o', (hs.2 b (Nat.ne_of_lt (Nat.lt_of_lt_of_le (Heap.lt_size e) I.ok.above))).trans e1⟩
    · by_cases hj : j = i
      · subst hj
        rw [hi] at e1; cases e1
        rw [List.getElem?_set_self hiσ] at e2
        cases e2
        exact ⟨u, r, .inl ⟨hk, by simp⟩⟩
      · rw [List.getElem?_set_ne (Ne.symm hj)] at e2
        obtain ⟨u', r', q⟩ := hl j y v' e1 e2 e3
        refine ⟨u', r', ?_⟩
        rcases q with ⟨k, e⟩ | ⟨k, c, e, z⟩
        · refine .inl ⟨k, ?_⟩
          have : y ≠ x := fun e => hj (nodup_ix hN e1 (e ▸ hi))
          simp [this, e]
        · exact .inr ⟨k, c, e, z.sameBut hs (cne y c e)⟩
    · obtain ⟨w', z⟩ := I.cell y c e
      exact ⟨w', z.sameBut hs (cne y c e)⟩
    · obtain ⟨e, n, ne, nf, d⟩ := I.pin p hp
      exact ⟨(hs.2 p.1 ne).trans e, n, ne, nf, d⟩
  · have hfn : X.fn x = true := by
      rcases hf with z | z
      · exact z
      · rw [z] at hk; cases hk
    obtain ⟨c, hc⟩ := I.ok.has x (.inl hk)
    obtain ⟨w', z⟩ := I.cell x c hc
    refine wpAny_storeName_cell I.ok.kind hk hc z (fun h' hc' hs => ?_)
    obtain ⟨oc, hoc, hocd⟩ := id z
    refine h { s with heap := h' } ⟨I.ok, I.os, I.bare, ⟨fun b o e n hb hx => ?_, fun b o e n hb hx => ?_, I.base.free, fun b o e hx => ?_, I.base.tups, I.base.frzs, I.base.tbls⟩, ⟨m, hn.sameBut hs (Ne.symm (cne x c hc)), fun j y v' e1 e2 e3 => ?_⟩, fun y c' e => ?_, I.free, I.freeC, fun p hp => ?_, tracked ⟨oc, hoc, I.freeC x c hc⟩ hs, by simpa using I.len⟩ ⟨c, hs, .inr hc⟩
    · exact (hs.2 b (Nat.ne_of_lt (Nat.lt_of_lt_of_le (Heap.lt_size e) (I.ok.cab x c hfn hc)))).trans (I.base.keep b o e n hb hx)
    · obtain ⟨sl, e1⟩ := I.base.slot b o e n hb hx
      exact ⟨sl, (hs.2 b (Nat.ne_of_lt (Nat.lt_of_lt_of_le (Heap.lt_size e) (I.ok.cab x c hfn hc)))).trans e1⟩
    · obtain ⟨o', e1⟩ := I.base.there b o e hx
      exact ⟨o', (hs.2 b (Nat.ne_of_lt (Nat.lt_of_lt_of_le (Heap.lt_size e) (I.ok.cab x c hfn hc)))).trans e1⟩
    · by_cases hj : j = i
      · subst hj
        rw [hi] at e1; cases e1
        rw [List.getElem?_set_self hiσ] at e2
        cases e2
        exact ⟨u, r, .inr ⟨.inl hk, c, hc, hc'⟩⟩
      · rw [List.getElem?_set_ne (Ne.symm hj)] at e2
        obtain ⟨u', r', q⟩ := hl j y v' e1 e2 e3
        refine ⟨u', r', ?_⟩
        rcases q with q | ⟨k, c', e, z'⟩
        · exact .inl q
        · refine .inr ⟨k, c', e, z'.sameBut hs ?_⟩
          rintro rfl
          exact hj (nodup_ix hN e1 (I.ok.inj _ _ _ e hc ▸ hi))
    · by_cases hcc : c' = c
      · subst hcc; exact ⟨_, hc'⟩
      · obtain ⟨w2, z2⟩ := I.cell y c' e
        exact ⟨w2, z2.sameBut hs hcc⟩
    · obtain ⟨e, n, ne, nf, d⟩ := I.pin p hp
      refine ⟨(hs.2 p.1 ?_).trans e, n, ne, nf, d⟩
      intro q
      rw [q, hoc] at e
      have q' : oc = p.2 := Option.some.inj e
      exact d w' (by rw [← q']; exact hocd)
theorem store_ok {M : Model} {A : Around} {E : Value → Shared → Prop} {i : Nat} {x : Str} {v : V} {u : Value} {Q : Unit → Shared → Prop} (I : Inv X pins σ H s) (hN : X.N.Nodup) (hi : X.N[i]? = some x) (hx : Loc X.env.scope x) (r : RelV v u)
    (h : ∀ s', Inv X pins (σ.set i (some v)) H s' → Q () s') (hf : X.fn x = true ∨ X.env.scope.names.lookup x = some .local := by first | exact .inl rfl | exact .inr rfl | assumption) : wpAny M A (storeName X.env x u) Q E s :=
  store_ok2 I hN hi hx r (fun s' I' _ => h s' I') hf
theorem Inv.call' {s' : Shared} {ch : List Addr} (I : Inv X pins σ H s) (ho : s'.os = s.os) (u : Un (frs X.stack) ch H H' s.heap s'.heap) (hok : HOk X.prog X.w H' s'.heap) (hg : AllBare s'.gens)
    (hch : ∀ b ∈ ch, (b ∈ X.ex ∨ X.s₀.heap.objs.size ≤ b) ∧ b ≠ X.env.locals ∧ (∀ x c, X.env.cells.lookup x = some c → c ≠ b) ∧ ∀ p ∈ X.pn ++ pins, p.1 ≠ b) : Inv X pins σ H' s' := by
  obtain ⟨h', g', d', t', o'⟩ := s'
  have e : o' = s.os := ho
  subst e
  exact I.call (g' := g') (t' := t') (d' := d') u hok hg hch
end
abbrev XK := Value → Option Addr → Hp → Prop
abbrev St := List (Option V)
abbrev VK := V → Hp → Prop
abbrev TE := St → Hp → VK → Prop
abbrev TT := St → Hp → (Bool → Hp → Prop) → Prop
abbrev TA := St → Hp → (List V → Hp → Prop) → Prop
structure Ends where
  nx : St → Hp → Prop
  rt : VK
  bk : St → Hp → Prop := fun _ _ => False
  ct : St → Hp → Prop := fun _ _ => False
abbrev TS := Ends → St → Hp → Prop
def EP (X : Cx) (pins : List (Addr × Obj)) (σ : St) (Q : VK) (u : Value) (s' : Shared) : Prop := ∃ v H', Inv X pins σ H' s' ∧ RelV v u ∧ Q v H'
def TP (X : Cx) (pins : List (Addr × Obj)) (σ : St) (Q : Bool → Hp → Prop) (b : Bool) (s' : Shared) : Prop := ∃ H', Inv X pins σ H' s' ∧ Q b H'
def AP (X : Cx) (pins : List (Addr × Obj)) (σ : St) (Q : List V → Hp → Prop) (us : List Value) (s' : Shared) : Prop := ∃ vs H', Inv X pins σ H' s' ∧ Vals vs us ∧ Q vs H'
def SP (X : Cx) (pins : List (Addr × Obj)) (D : Ends) (f : Flow) (s' : Shared) : Prop :=
  match f with
  | .next => ∃ σ' H', Inv X pins σ' H' s' ∧ D.nx σ' H'
  | .brk => ∃ σ' H', Inv X pins σ' H' s' ∧ D.bk σ' H'
  | .cont => ∃ σ' H', Inv X pins σ' H' s' ∧ D.ct σ' H'
  | .ret u => ∃ v σ' H', Inv X pins σ' H' s' ∧ RelV v u ∧ D.rt v H'
def PE (X : Cx) (e : Expr) (t : TE) : Prop :=
  ∀ (pins : List (Addr × Obj)) (s : Shared) (σ : St) (H : Hp) (Q : VK), Inv X pins σ H s → t σ H Q → wpAny (model X.prog X.w) X.A (eval e X.env) (EP X pins σ Q) X.xe s
def PT (X : Cx) (e : Expr) (t : TT) : Prop :=
  ∀ (pins : List (Addr × Obj)) (s : Shared) (σ : St) (H : Hp) (Q : Bool → Hp → Prop), Inv X pins σ H s → t σ H Q → wpAny (model X.prog X.w) X.A (isTrue e X.env (eval e X.env)) (TP X pins σ Q) X.xe s
def PW (X : Cx) (e : Expr) (t : TT) : Prop :=
  ∀ (whole : Sem Value) (pins : List (Addr × Obj)) (s : Shared) (σ : St) (H : Hp) (Q : Bool → Hp → Prop), Inv X pins σ H s → t σ H Q → wpAny (model X.prog X.w) X.A (isTrue e X.env whole) (TP X pins σ Q) X.xe s
theorem PW.pt {X : Cx} {e : Expr} {t : TT} (h : PW X e t) : PT X e t := h _
def PA (X : Cx) (es : List Expr) (t : TA) : Prop :=
  ∀ (pos : Pos) (pins : List (Addr × Obj)) (s : Shared) (σ : St) (H : Hp) (Q : List V → Hp → Prop), Inv X pins σ H s → t σ H Q → wpAny (model X.prog X.w) X.A (spliced (backTo pos (starEach es X.env))) (AP X pins σ Q) X.xe s
def PS (X : Cx) (st : Stmt) (t : TS) : Prop :=
  ∀ (pins : List (Addr × Obj)) (s : Shared) (σ : St) (H : Hp) (D : Ends), Inv X pins σ H s → t D σ H → wpAny (model X.prog X.w) X.A (exec st X.env) (SP X pins D) X.xe s
def PSs (X : Cx) (st : List Stmt) (t : TS) : Prop :=
  ∀ (pins : List (Addr × Obj)) (s : Shared) (σ : St) (H : Hp) (D : Ends), Inv X pins σ H s → t D σ H → wpAny (model X.prog X.w) X.A (execs st X.env) (SP X pins D) X.xe s
theorem thn {α : Type} {t : Sem α} {Q Q' : α → Shared → Prop} {M : Model} {A : Around} {E : Value → Shared → Prop} {s : Shared} (h : wpAny M A t Q E s) (hQ : ∀ a s, Q a s → Q' a s) : wpAny M A t Q' E s := wpAny_mono h hQ fun _ _ x => x
end L2
namespace L2
open PySem PySem.Spec PyProof.Rows
section
variable {X : Cx}
def tVar (i : Nat) : TE := fun σ H Q => ∃ v, σ[i]? = some (some v) ∧ Q v H
def tC (v : V) : TE := fun _ H Q => Q v H
theorem pe_var {i : Nat} {x : Str} {pos : Pos} (hN : X.N[i]? = some x) (hv : Vis X.env.scope x) (hd : (x == ("__debug__" : Str)) = false := by decide) (hcd : (x == ("__classdict__" : Str)) = false := by decide) : PE X (.Name x pos) (tVar i) := by
  intro pins s σ H Q I h
  obtain ⟨v, e, h⟩ := h
  obtain ⟨m, hn, hl⟩ := I.loc
  obtain ⟨u, r, l⟩ := hl i x v hN e hv
  have fin : EP X pins σ Q u s := ⟨v, H, I, r, h⟩
  rcases l with ⟨hk, hm⟩ | ⟨hk, c, hc, hcell⟩
  · exact wpAny_Name (wpAny_loadName_local I.ok.kind hk hn hm fin) hd
  · rcases hk with hk | hk
    · exact wpAny_Name (wpAny_loadName_cell I.ok.kind hk hc hcell fin) hd
    · exact wpAny_Name (wpAny_loadName_free I.ok.kind hk hc hcell fin hcd) hd
theorem pe_int {i j pos} : PE X (.Constant (.int i) j pos) (tC (.int i)) := fun _ _ _ H _ I h => wpAny_Constant_int ⟨.int i, H, I.tok _, ⟨_, rfl⟩, h⟩
theorem pe_bl {b j pos} : PE X (.Constant (.bool b) j pos) (tC (.bl b)) := fun _ _ _ H _ I h => Constant_bool ⟨.bl b, H, I, rfl, h⟩
theorem pe_non {j pos} : PE X (.Constant .none j pos) (tC .non) := fun _ _ _ H _ I h => Constant_none ⟨.non, H, I, rfl, h⟩
theorem pe_str {x j pos} : PE X (.Constant (.str x) j pos) (tC (.str x)) := fun _ _ _ H _ I h => Calls.Constant_str ⟨.str x, H, I.tok _, ⟨_, rfl⟩, h⟩
def Gl (X : Cx) (x : Str) : Prop := X.env.kindOf x = some .globalImplicit
theorem ld_glob {E : Value → Shared → Prop} {pins : List (Addr × Obj)} {s : Shared} {σ : St} {H : Hp} {x : Str} {u : Value} {pos : Pos} {Q : Value → Shared → Prop} (I : Inv X pins σ H s) (hg : Gl X x) (hm : X.mg x = some u) (h : Q u s)
    (hd : (x == ("__debug__" : Str)) = false := by decide) : wpAny (model X.prog X.w) X.A (eval (.Name x pos) X.env) Q E s :=
  Calls.Name_function_global I.ok.kind hg (Calls.loadGlobal_global (by rw [I.ok.glob]; exact I.mod.glob.keeps I.bk) hm h) hd
theorem ld_blt {E : Value → Shared → Prop} {pins : List (Addr × Obj)} {s : Shared} {σ : St} {H : Hp} {x : Str} {u : Value} {pos : Pos} {Q : Value → Shared → Prop} (I : Inv X pins σ H s) (hg : Gl X x) (hm : X.mg x = none) (hv : bootBuiltins x = some u) (h : Q u s)
    (hn : x ≠ "__name__" := by decide) (hd : (x == ("__debug__" : Str)) = false := by decide) : wpAny (model X.prog X.w) X.A (eval (.Name x pos) X.env) Q E s := by
  obtain ⟨mb, h1, h2⟩ := I.mod.blt
  exact Calls.Name_function_global I.ok.kind hg (Calls.loadGlobal_builtin (by rw [I.ok.glob]; exact I.mod.glob.keeps I.bk) hm (by rw [I.ok.blt]; exact h1.keeps I.bk) ((h2 x hn).trans hv) h) hd
theorem pe_bltn {x : Str} {v : V} {u : Value} {pos : Pos} (hg : Gl X x) (hm : X.mg x = none) (hv : bootBuiltins x = some u) (r : RelV v u) (hn : x ≠ "__name__" := by decide) (hd : (x == ("__debug__" : Str)) = false := by decide) : PE X (.Name x pos) (tC v) :=
  fun _ _ _ H _ I h => ld_blt I hg hm hv ⟨v, H, I, r, h⟩ hn hd
variable {a b : Expr} {ta tb : TE} {pos : Pos}
def PC (X : Cx) (op : CmpOp) (a b : Expr) (t : TE) : Prop :=
  ∀ (pins : List (Addr × Obj)) (s : Shared) (σ : St) (H : Hp) (Q : VK), Inv X pins σ H s → t σ H Q →
    wpAny (model X.prog X.w) X.A (eval a X.env) (fun v s₁ => wpAny (model X.prog X.w) X.A (eval b X.env) (fun u s₂ => wpAny (model X.prog X.w) X.A (compareOp op v u) (EP X pins σ Q) X.xe s₂) X.xe s₁) X.xe s
theorem nobehind (b : Expr) {op : CmpOp} (h : op ≠ .In) (h2 : op ≠ .NotIn) : behindInMarks op b = false := by
  have e1 : (op == CmpOp.In) = false := by cases op <;> first | rfl | exact absurd rfl h
  have e2 : (op == CmpOp.NotIn) = false := by cases op <;> first | rfl | exact absurd rfl h2
  cases b <;> simp [behindInMarks, e1, e2]
def tB (t : TE) : TT := fun σ H Q => t σ H fun x H1 => ∃ c, x = .bl c ∧ Q c H1
theorem pe_cmp {op : CmpOp} {t : TE} (h : PC X op a b t) (h1 : behindInMarks op b = false := by first | exact nobehind _ (by decide) (by decide) | rfl) : PE X (.Compare a [op] [b] pos) t := fun pins s σ H Q I hw => wpAny_Compare1 (h pins s σ H Q I hw) h1
theorem pt_cmp {op : CmpOp} {t : TE} (h : PC X op a b t) (h1 : behindInMarks op b = false := by first | exact nobehind _ (by decide) (by decide) | rfl) : PT X (.Compare a [op] [b] pos) (tB t) := by
  intro pins s σ H Q I hw
  refine wpAny_isTrue_Compare1 (thn (h pins s σ H _ I hw) fun v s1 h1 => thn h1 fun u s2 h2 => thn h2 fun c s3 ⟨x, H1, I1, r1, q1⟩ => ?_) h1
  obtain ⟨d, rfl, q⟩ := q1
  cases r1
  exact wpAny_truthy_bool ⟨H1, I1, q⟩
theorem pt_val {e : Expr} {t : TE} (h : PE X e t) (he : ∀ whole, isTrue e X.env whole = (do let v ← whole; standAt e.pos; holding [v] (truthy v)) := by intro _; rfl) : PT X e (tB t) := by
  intro pins s σ H Q I hw
  refine isTrue_plain (thn (h pins s σ H _ I hw) fun v s1 ⟨x, H1, I1, r1, q1⟩ => ?_) (he _)
  obtain ⟨d, rfl, q⟩ := q1
  cases r1
  exact wpAny_truthy_bool ⟨H1, I1, q⟩
variable {tA tB' : TT} {rest : List Expr}
def tAnd (t u : TT) : TT := fun σ H Q => t σ H fun c H1 => if c = true then u σ H1 Q else Q false H1
def tOr (t u : TT) : TT := fun σ H Q => t σ H fun c H1 => if c = true then Q true H1 else u σ H1 Q
def tNot (t : TT) : TT := fun σ H Q => t σ H fun c H1 => Q (!c) H1
theorem pw_and1 (ha : PT X a tA) : PW X (.BoolOp .And [a] pos) tA := by
  intro wh pins s σ H Q I h
  refine isTrue_and (thn (ha pins s σ H Q I h) fun c s1 e => ?_)
  cases c with
  | true => exact isTrue_and_nil e
  | false => exact e
theorem pw_or1 (ha : PT X a tA) : PW X (.BoolOp .Or [a] pos) tA := by
  intro wh pins s σ H Q I h
  refine isTrue_or (thn (ha pins s σ H Q I h) fun c s1 e => ?_)
  cases c with
  | false => exact isTrue_or_nil e
  | true => exact e
theorem pw_and (ha : PT X a tA) (hb : PW X (.BoolOp .And (b :: rest) pos) tB') : PW X (.BoolOp .And (a :: b :: rest) pos) (tAnd tA tB') := by
  intro wh pins s σ H Q I h
  refine isTrue_and (thn (ha pins s σ H _ I h) fun c s1 ⟨H1, I1, q1⟩ => ?_)
  cases c with
  | true => exact hb wh pins s1 σ H1 Q I1 q1
  | false => exact ⟨H1, I1, q1⟩
theorem pw_or (ha : PT X a tA) (hb : PW X (.BoolOp .Or (b :: rest) pos) tB') : PW X (.BoolOp .Or (a :: b :: rest) pos) (tOr tA tB') := by
  intro wh pins s σ H Q I h
  refine isTrue_or (thn (ha pins s σ H _ I h) fun c s1 ⟨H1, I1, q1⟩ => ?_)
  cases c with
  | true => exact ⟨H1, I1, q1⟩
  | false => exact hb wh pins s1 σ H1 Q I1 q1
theorem pt_not (ha : PT X a tA) : PT X (.UnaryOp .Not a pos) (tNot tA) := by
  intro pins s σ H Q I h
  exact isTrue_not (ha pins s σ H (fun c H1 => Q (!c) H1) I h)
def tAndV (ta tb : TE) : TE := fun σ H Q => ta σ H fun x H1 => ∃ c, x = .bl c ∧ if c = true then tb σ H1 Q else Q (.bl false) H1
def tOrV (ta tb : TE) : TE := fun σ H Q => ta σ H fun x H1 => ∃ c, x = .bl c ∧ if c = true then Q (.bl true) H1 else tb σ H1 Q
def tNotV (ta : TE) : TE := fun σ H Q => ta σ H fun x H1 => ∃ c, x = .bl c ∧ Q (.bl (!c)) H1
theorem pe_one {op} {t : TE} (h : PE X a t) : PE X (.BoolOp op [a] pos) t := fun pins s σ H Q I hw => BoolOp_one (h pins s σ H Q I hw)
theorem pe_and (ha : PE X a ta) (hb : PE X (.BoolOp .And (b :: rest) pos) tb) : PE X (.BoolOp .And (a :: b :: rest) pos) (tAndV ta tb) := by
  intro pins s σ H Q I h
  refine BoolOp_and (thn (ha pins s σ H _ I h) fun v s1 ⟨x, H1, I1, r1, q1⟩ => ?_)
  obtain ⟨c, rfl, q1⟩ := q1
  cases r1
  refine wpAny_truthy_bool ?_
  cases c with
  | true => exact hb pins s1 σ H1 Q I1 q1
  | false => exact ⟨.bl false, H1, I1, rfl, q1⟩
theorem pe_not (ha : PE X a ta) : PE X (.UnaryOp .Not a pos) (tNotV ta) := by
  intro pins s σ H Q I h
  refine UnaryOp_ (thn (ha pins s σ H _ I h) fun v s1 ⟨x, H1, I1, r1, q1⟩ => ?_)
  obtain ⟨c, rfl, q1⟩ := q1
  cases r1
  exact not_of (wpAny_truthy_bool ⟨.bl (!c), H1, I1, rfl, q1⟩)
def tIf (t : TT) (ta tb : TE) : TE := fun σ H Q => t σ H fun c H1 => if c = true then ta σ H1 Q else tb σ H1 Q
theorem pe_ifExp {c : Expr} (hc : PT X c tA) (ha : PE X a ta) (hb : PE X b tb) : PE X (.IfExp c a b pos) (tIf tA ta tb) := by
  intro pins s σ H Q I h
  refine wpAny_IfExp (thn (hc pins s σ H _ I h) fun d s1 ⟨H1, I1, q1⟩ => ?_)
  cases d with
  | true => exact ha pins s1 σ H1 Q I1 q1
  | false => exact hb pins s1 σ H1 Q I1 q1
end
end L2
namespace L2
open PySem PySem.Spec PyProof.Rows
def SqL (K : PySem.W.Frag) (H : Hp) (a : Addr) (xs : List V) : Prop :=
  Rd H a (.lst xs) ∨
    ∃ (o : Obj) (its : Array Value) (n : Nat), K.lookup a = some o ∧ o.cls = .type "list" ∧ o.dict = none ∧ o.data = .seq its n ∧ its.size ≤ sizeLine ∧ Vals xs its.toList
def SqT (K : PySem.W.Frag) (H : Hp) (a : Addr) (xs : List V) : Prop :=
  Rd H a (.tup xs) ∨
    ∃ (o : Obj) (its : Array Value) (n : Nat), K.lookup a = some o ∧ o.cls = .type "tuple" ∧ o.data = .seq its n ∧ its.size ≤ sizeLine ∧ Vals xs its.toList
def absV : Value → Option V
  | .none => some .non
  | .bool b => some (.bl b)
  | .int i _ => some (.int i)
  | .str x _ => some (.str x)
  | .bytes b _ => some (.byt b)
  | .float b _ => some (.flt b)
  | .ref a => some (.ref a)
  | .type n => some (.ty n)
  | _ => none
theorem RelV.abs {x : V} {u : Value} (r : RelV x u) : absV u = some x := by
  cases x with
  | non => cases r; rfl
  | bl _ => cases r; rfl
  | int _ => obtain ⟨t, rfl⟩ := r; rfl
  | str _ => obtain ⟨t, rfl⟩ := r; rfl
  | byt _ => obtain ⟨t, rfl⟩ := r; rfl
  | flt _ => obtain ⟨t, rfl⟩ := r; rfl
  | ref _ => cases r; rfl
  | ty _ => cases r; rfl
theorem RelV.inj {x y : V} {u : Value} (r : RelV x u) (q : RelV y u) : x = y := Option.some.inj (r.abs.symm.trans q.abs)
theorem Vals.inj : ∀ {xs ys : List V} {us : List Value}, Vals xs us → Vals ys us → xs = ys
  | _, _, _, .nil, .nil => rfl
  | _, _, _, .cons r t, .cons r' t' => by rw [r.inj r', Vals.inj t t']
section
variable {X : Cx} {pins : List (Addr × Obj)} {σ : St} {H : Hp} {s : Shared} {a : Addr} {xs ys : List V}
theorem SqL.of {K : PySem.W.Frag} (h : H a = some (.lst xs)) : SqL K H a xs := .inl (.inl h)
theorem SqT.of {K : PySem.W.Frag} (h : H a = some (.tup xs)) : SqT K H a xs := .inl (.inl h)
theorem Inv.list (I : Inv X pins σ H s) (h : SqL X.K H a xs) : ∃ its : List Value, Vals xs its ∧ PlainL s.heap a its.toArray ∧ xs.length ≤ sizeLine := by
  rcases h with h | ⟨o, its, n, hk, hc, hd, hs, hz, r⟩
  · obtain ⟨z, its, n, r, e⟩ := h.ok I.hok
    exact ⟨its, r, ⟨_, n, e, rfl, rfl, rfl⟩, z⟩
  · refine ⟨its.toList, r, ⟨o, n, I.kIn a o hk, hc, hd, by simpa using hs⟩, ?_⟩
    have e := r.length
    simp only [Array.length_toList] at e
    omega
theorem Inv.tuple (I : Inv X pins σ H s) (h : SqT X.K H a xs) : ∃ its : List Value, Vals xs its ∧ IsTup s.heap a its.toArray ∧ xs.length ≤ sizeLine := by
  rcases h with h | ⟨o, its, n, hk, hc, hs, hz, r⟩
  · obtain ⟨z, its, r, p⟩ := h.ok I.hok
    exact ⟨its, r, p, z⟩
  · refine ⟨its.toList, r, ⟨o, I.kIn a o hk, hc, n, by simpa using hs⟩, ?_⟩
    have e := r.length
    simp only [Array.length_toList] at e
    omega
theorem Inv.list_inj (I : Inv X pins σ H s) (h : SqL X.K H a xs) (h' : SqL X.K H a ys) : xs = ys := by
  obtain ⟨its, r, ⟨o, n, e, _, _, d⟩, _⟩ := I.list h
  obtain ⟨its', r', ⟨o', n', e', _, _, d'⟩, _⟩ := I.list h'
  rw [e] at e'; cases e'
  rw [d] at d'
  injection d' with d1 _
  have : its = its' := by simpa using congrArg Array.toList d1
  subst this
  exact r.inj r'
theorem Inv.tuple_inj (I : Inv X pins σ H s) (h : SqT X.K H a xs) (h' : SqT X.K H a ys) : xs = ys := by
  obtain ⟨its, r, ⟨o, e, _, n, d⟩, _⟩ := I.tuple h
  obtain ⟨its', r', ⟨o', e', _, n', d'⟩, _⟩ := I.tuple h'
  rw [e] at e'; cases e'
  rw [d] at d'
  injection d' with d1 _
  have : its = its' := by simpa using congrArg Array.toList d1
  subst this
  exact r.inj r'
end
abbrev Cx.wish (X : Cx) (E : Value → Shared → Prop) : Cx := { X with xe := E }
abbrev Cx.nox (X : Cx) : Cx := X.wish fun _ _ => False
theorem Cx.Ok.wish {X : Cx} (ok : X.Ok) (E : Value → Shared → Prop) : (X.wish E).Ok :=
  ⟨ok.mod, ok.kind, ok.glob, ok.blt, ok.above, ok.inj, ok.has, ok.cab, ok.hd, ok.frames, ok.stk, ok.exf, ok.bs, ok.bsz, ok.noex, ok.exfs, ok.funs, ok.frf⟩
theorem Cx.Ok.unwish {X : Cx} {E : Value → Shared → Prop} (ok : (X.wish E).Ok) : X.Ok :=
  ⟨ok.mod, ok.kind, ok.glob, ok.blt, ok.above, ok.inj, ok.has, ok.cab, ok.hd, ok.frames, ok.stk, ok.exf, ok.bs, ok.bsz, ok.noex, ok.exfs, ok.funs, ok.frf⟩
section
variable {X : Cx} {pins : List (Addr × Obj)} {σ : St} {H : Hp} {s : Shared} {E : Value → Shared → Prop}
theorem Inv.wish (I : Inv X pins σ H s) (E : Value → Shared → Prop) : Inv (X.wish E) pins σ H s := ⟨I.ok.wish E, I.os, I.bare, I.base, I.loc, I.cell, I.free, I.freeC, I.pin, I.hok, I.len⟩
theorem Inv.unwish (I : Inv (X.wish E) pins σ H s) : Inv X pins σ H s := ⟨I.ok.unwish, I.os, I.bare, I.base, I.loc, I.cell, I.free, I.freeC, I.pin, I.hok, I.len⟩
theorem SP.unwish {D : Ends} {f : Flow} {s' : Shared} (h : SP (X.wish E) pins D f s') : SP X pins D f s' := by
  cases f with
  | next => obtain ⟨σ', H', I, q⟩ := h; exact ⟨σ', H', I.unwish, q⟩
  | brk => obtain ⟨σ', H', I, q⟩ := h; exact ⟨σ', H', I.unwish, q⟩
  | cont => obtain ⟨σ', H', I, q⟩ := h; exact ⟨σ', H', I.unwish, q⟩
  | ret u => obtain ⟨v, σ', H', I, r, q⟩ := h; exact ⟨v, σ', H', I.unwish, r, q⟩
theorem PE.nox {e : Expr} {t : TE} (h : PE X.nox e t) : PE X e t := fun pins s σ H Q I hw =>
  wpAny_mono (h pins s σ H Q (I.wish _) hw) (fun _ _ ⟨v, H', I', r, q⟩ => ⟨v, H', I'.unwish, r, q⟩) fun _ _ z => False.elim z
theorem PT.nox {e : Expr} {t : TT} (h : PT X.nox e t) : PT X e t := fun pins s σ H Q I hw =>
  wpAny_mono (h pins s σ H Q (I.wish _) hw) (fun _ _ ⟨H', I', q⟩ => ⟨H', I'.unwish, q⟩) fun _ _ z => False.elim z
theorem PSs.nox {st : List Stmt} {t : TS} (h : PSs X.nox st t) : PSs X st t := fun pins s σ H D I hw =>
  wpAny_mono (h pins s σ H D (I.wish _) hw) (fun _ _ q => q.unwish) fun _ _ z => False.elim z
end
section
variable {X : Cx} {st : Stmt} {rest : List Stmt} {t u : TS} {e : Expr} {te : TE} {pos : Pos}
def tNext : TS := fun D σ H => D.nx σ H
def tSeq (t u : TS) : TS := fun D σ H => t { D with nx := u D } σ H
theorem pss_nil : PSs X [] tNext := fun _ _ σ H _ I h => wpAny_execs_nil ⟨σ, H, I, h⟩
theorem pss_cons (h1 : PS X st t) (h2 : PSs X rest u) : PSs X (st :: rest) (tSeq t u) := by
  intro pins s σ H D I h
  refine wpAny_execs_cons (thn (h1 pins s σ H { D with nx := u D } I h) fun f s1 q => ?_)
  cases f with
  | next =>
    obtain ⟨σ', H', I', q⟩ := q
    exact h2 pins s1 σ' H' D I' q
  | ret v => exact q
  | brk => exact q
  | cont => exact q
theorem pss_one (h1 : PS X st t) : PSs X [st] t := by
  intro pins s σ H D I h
  refine wpAny_execs_cons (thn (h1 pins s σ H D I h) fun f s1 q => ?_)
  cases f with
  | next => exact wpAny_execs_nil q
  | ret v => exact q
  | brk => exact q
  | cont => exact q
theorem Inv.quiet {pins : List (Addr × Obj)} {σ : St} {H : Hp} {s : Shared} (I : Inv X pins σ H s) : interactive X.env = false := by simp [interactive, I.ok.kind]
def tDrop (te : TE) : TS := fun D σ H => te σ H fun _ H1 => D.nx σ H1
theorem ps_expr (he : PE X e te) (hs : swapsWith e none pos.line X.env = pure false := by rfl) : PS X (.Expr e pos) (tDrop te) := by
  intro pins s σ H D I h
  exact wpAny_Expr_any (thn (he pins s σ H _ I h) fun v s1 ⟨x, H1, I1, r1, q1⟩ => ⟨σ, H1, I1, q1⟩) I.quiet hs
def tRet (te : TE) : TS := fun D σ H => te σ H D.rt
theorem ps_ret (he : PE X e te) : PS X (.Return (some e) pos) (tRet te) := by
  intro pins s σ H D I h
  exact wpAny_Return_some (thn (he pins s σ H _ I h) fun v s1 ⟨x, H1, I1, r1, q1⟩ => ⟨x, σ, H1, I1, r1, q1⟩)
def tRetN : TS := fun D _ H => D.rt .non H
def tIfS (c : TT) (t u : TS) : TS := fun D σ H => c σ H fun b H1 => if b = true then t D σ H1 else u D σ H1
theorem ps_if {c : Expr} {a b : List Stmt} {tc : TT} (hc : PT X c tc) (ha : PSs X a t) (hb : PSs X b u) : PS X (.If c a b pos) (tIfS tc t u) := by
  intro pins s σ H D I h
  refine wpAny_If (thn (hc pins s σ H _ I h) fun d s1 ⟨H1, I1, q1⟩ => ?_)
  cases d with
  | true => exact ha pins s1 σ H1 D I1 q1
  | false => exact hb pins s1 σ H1 D I1 q1
end
abbrev TG := V → St → Hp → (St → Hp → Prop) → Prop
abbrev TGs := List V → St → Hp → (St → Hp → Prop) → Prop
def PG (X : Cx) (target : Expr) (t : TG) : Prop :=
  ∀ (pins : List (Addr × Obj)) (s : Shared) (σ : St) (H : Hp) (v : V) (u : Value) (Q : St → Hp → Prop), Inv X pins σ H s → RelV v u → t v σ H Q →
    wpAny (model X.prog X.w) X.A (assign target X.env u) (fun _ s' => ∃ σ' H', Inv X pins σ' H' s' ∧ Q σ' H') X.xe s
def PGs (X : Cx) (ts : List Expr) (t : TGs) : Prop :=
  ∀ (pins : List (Addr × Obj)) (s : Shared) (σ : St) (H : Hp) (vs : List V) (us : List Value) (Q : St → Hp → Prop), Inv X pins σ H s → Vals vs us → t vs σ H Q →
    wpAny (model X.prog X.w) X.A (assignInOrder ((assignEach ts X.env).map (·.2)) us) (fun _ s' => ∃ σ' H', Inv X pins σ' H' s' ∧ Q σ' H') X.xe s
section
variable {X : Cx} {pos : Pos}
def gName (i : Nat) : TG := fun v σ H Q => Q (σ.set i (some v)) H
theorem pg_name {i : Nat} {x : Str} (hN : X.N.Nodup) (hi : X.N[i]? = some x) (hx : Loc X.env.scope x) (hf : X.fn x = true ∨ X.env.scope.names.lookup x = some .local := by first | exact .inl rfl | exact .inr rfl | assumption) : PG X (.Name x pos) (gName i) := by
  intro pins s σ H v u Q I r h
  exact wpAny_assign_Name (store_ok I hN hi hx r (fun s' I' => ⟨_, H, I', h⟩) hf)
def gNil : TGs := fun vs σ H Q => vs = [] ∧ Q σ H
def gCons (t : TG) (u : TGs) : TGs := fun vs σ H Q => ∃ v r, vs = v :: r ∧ t v σ H fun σ' H' => u r σ' H' Q
theorem pgs_nil : PGs X [] gNil := by
  intro pins s σ H vs us Q I r h
  obtain ⟨e, h⟩ := h
  subst e
  cases r
  exact assignInOrder_nil ⟨σ, H, I, h⟩
theorem pgs_cons {e : Expr} {es : List Expr} {t : TG} {u : TGs} (h1 : PG X e t) (h2 : PGs X es u)
    (hs : (assignEach (e :: es) X.env).map (·.2) = assign e X.env :: (assignEach es X.env).map (·.2) := by rfl) : PGs X (e :: es) (gCons t u) := by
  intro pins s σ H vs us Q I r h
  obtain ⟨v, vr, e1, h⟩ := h
  subst e1
  cases r with
  | cons r rr =>
    rw [hs]
    refine assignInOrder_cons (thn (h1 pins s σ H _ _ _ I r h) fun _ s1 ⟨σ1, H1, I1, q1⟩ => ?_)
    exact h2 pins s1 σ1 H1 _ _ Q I1 rr q1
def gTup (K : PySem.W.Frag) (n : Nat) (t : TGs) : TG := fun v σ H Q => ∃ a xs, v = .ref a ∧ SqT K H a xs ∧ xs.length = n ∧ t xs σ H Q
theorem pg_tup {es : List Expr} {k : Nat} {t : TGs} {n : Nat} (hc : X.calm = true) (h : PGs X es t)
    (hn : (assignEach es X.env).length = n := by rfl) (hst : (assignEach es X.env).findIdx? (·.1) = none := by rfl) : PG X (.Tuple es k pos) (gTup X.K n t) := by
  intro pins s σ H v u Q I r hw
  obtain ⟨a, xs, e1, hq, hl, hw⟩ := hw
  subst e1
  cases r
  obtain ⟨its, rv, ht, hz⟩ := I.tuple hq
  refine assign_Tuple_tuple (I.ok.hd hc) ht (by simp [hn, ← hl, rv.length]) hst fun h' hx => ?_
  have I1 : Inv X pins σ H { s with heap := h' } := I.kept (t' := s.toks) fun b o e => hx b o (Nat.ne_of_lt (Heap.lt_size e)) e
  exact h pins _ σ H xs _ Q I1 (by simpa using rv) hw
def tAsg (te : TE) (g : TG) : TS := fun D σ H => te σ H fun x H1 => g x σ H1 D.nx
theorem ps_asg {tg e : Expr} {te : TE} {g : TG} (he : PE X e te) (hg : PG X tg g) (hs : swapsWithSole [tg] e pos.line X.env = pure false := by rfl) (hw : swappedStores [tg] e X.env = pure none := by rfl)
    (h1 : (assignEach [tg] X.env).map (·.2) = [assign tg X.env] := by rfl) : PS X (.Assign [tg] e pos) (tAsg te g) := by
  intro pins s σ H D I h
  refine wpAny_Assign_stores (thn (he pins s σ H _ I h) fun v s1 ⟨x, H1, I1, r1, q1⟩ => ?_) hs hw
  rw [h1]
  exact thn (hg pins s1 σ H1 x v _ I1 r1 q1) fun _ s2 q => q
theorem ps_set {i : Nat} {x : Str} {e : Expr} {te : TE} {pos' : Pos} (hN : X.N.Nodup) (hi : X.N[i]? = some x) (hx : Loc X.env.scope x) (he : PE X e te) (hs : swapsWith e (some (.Name x pos')) pos.line X.env = pure false := by rfl) (hf : X.fn x = true ∨ X.env.scope.names.lookup x = some .local := by first | exact .inl rfl | exact .inr rfl | assumption) :
    PS X (.Assign [.Name x pos'] e pos) (tAsg te (gName i)) := by
  intro pins s σ H D I h
  refine wpAny_Assign_Name (thn (he pins s σ H _ I h) fun v s1 ⟨y, H1, I1, r1, q1⟩ => ?_) hs
  exact store_ok I1 hN hi hx r1 (fun s2 I2 => ⟨_, H1, I2, q1⟩) hf
def tPar (i j : Nat) (ta : TA) : TS := fun D σ H => ta σ H fun vs H1 => ∃ v w, vs = [v, w] ∧ D.nx ((σ.set i (some v)).set j (some w)) H1
theorem ps_par {i j : Nat} {x y : Str} {a b : Expr} {ta : TA} {px py pt : Pos} {kt k2 pt2} (hc : X.calm = true) (hN : X.N.Nodup) (hi : X.N[i]? = some x) (hj : X.N[j]? = some y) (hij : i ≠ j)
    (hx : X.env.scope.names.lookup x = some .local) (hy : X.env.scope.names.lookup y = some .local) (ha : PA X [a, b] ta)
    (hw : swappedStores [.Tuple [.Name x px, .Name y py] kt pt] (.Tuple [a, b] k2 pt2) X.env = pure (some [x, y]))
    (hs : swapsWithSole [.Tuple [.Name x px, .Name y py] kt pt] (.Tuple [a, b] k2 pt2) pos.line X.env = pure false := by rfl) :
    PS X (.Assign [.Tuple [.Name x px, .Name y py] kt pt] (.Tuple [a, b] k2 pt2) pos) (tPar i j ta) := by
  intro pins s σ H D I h
  rw [exec_Assign_arm]
  refine wpAny_bind (wpAny_standAt ?_)
  rw [hs]
  refine wpAny_bind (wpAny_pure ?_)
  rw [if_neg (by decide)]
  refine wpAny_bind (Tuple_ (thn (ha _ pins s σ H _ I h) fun us s1 ⟨vs, H1, I1, r1, q1⟩ => ?_))
  obtain ⟨v, w, e1, q1⟩ := q1
  subst e1
  obtain ⟨u1, u2, rfl, rv, rw'⟩ : ∃ u1 u2, us = [u1, u2] ∧ RelV v u1 ∧ RelV w u2 := by
    cases r1 with
    | cons p q =>
      cases q with
      | cons p' q' =>
        cases q'
        exact ⟨_, _, rfl, p, p'⟩
  refine wpAny_newObj_type ?_ (by show 2 ≤ sizeLine; decide)
  have I2 : Inv X pins σ H1 { s1 with heap := s1.heap.push { cls := .type "tuple", data := .seq [u1, u2].toArray } } := I1.kept (t' := s1.toks) fun b o e => Heap.get?_push_of_some _ e
  rw [hw]
  refine wpAny_bind (wpAny_pure ?_)
  show wpAny (model X.prog X.w) X.A (do rule "assign.swapped-stores"; let items ← unpackItems (.ref s1.heap.objs.size) 2 none; assignInOrder [fun v => bindName X.env y v, fun v => bindName X.env x v] items.reverse; pure Flow.next) _ _ _
  refine wpAny_bind (wpAny_rule (wpAny_bind (unpackItems_tuple (items := #[u1, u2]) (I.ok.hd hc) (IsTup.new s1.heap _) fun h' hx' => ?_)))
  have I3 := I2.kept (h' := h') (t' := s1.toks) fun b o e => hx' b o (Nat.ne_of_lt (Heap.lt_size e)) e
  show wpAny _ _ (assignInOrder [fun v => bindName X.env y v, fun v => bindName X.env x v] [u2, u1] >>= fun _ => pure Flow.next) _ _ _
  refine wpAny_bind (assignInOrder_cons (wpAny_bindName (store_ok I3 hN hj (.inl hy) rw' (fun s2 I4 => ?_) (.inr hy))))
  refine assignInOrder_cons (wpAny_bindName (store_ok I4 hN hi (.inl hx) rv (fun s3 I5 => assignInOrder_nil (wpAny_pure ?_)) (.inr hx)))
  rw [List.set_comm _ _ (Ne.symm hij)] at I5
  exact ⟨_, H1, I5, q1⟩
end
section
variable {X : Cx} {pos : Pos}
def tWhile (c : TT) (tb : TS) : TS := fun D σ H => ∃ W : Nat → St → Hp → Prop, (∃ m, W m σ H) ∧ ∀ m σ H, W m σ H →
  c σ H fun b H1 => if b = true then ∃ N : St → Hp → Prop, (∀ σ' H', N σ' H' → ∃ m', m' < m ∧ W m' σ' H') ∧ tb { D with nx := N, ct := N, bk := D.nx } σ H1 else D.nx σ H1
theorem ps_while {c : Expr} {body : List Stmt} {tc : TT} {tb : TS} (hp : PassesOwn (model X.prog X.w) X.A X.env X.xe) (hc : PT X c tc) (hb : PSs X body tb) : PS X (.While c body [] pos) (tWhile tc tb) := by
  intro pins s σ H D I h
  obtain ⟨W, ⟨m0, w0⟩, turn⟩ := h
  refine wpAny_While (codeAny_whileLoop (fun n s' => ∃ σ' H', Inv X pins σ' H' s' ∧ W n σ' H') ?_ m0 ⟨σ, H, I, w0⟩)
  rintro n s1 ⟨σ1, H1, I1, w1⟩
  refine wpAny_passesOwn hp (thn (hc pins s1 σ1 H1 _ I1 (turn n σ1 H1 w1)) fun b s2 ⟨H2, I2, q2⟩ => ?_)
  cases b with
  | true =>
    obtain ⟨N, hN, q2⟩ := q2
    rw [if_pos rfl]
    refine wpAny_passesOwn hp (thn (hb pins s2 σ1 H2 _ I2 q2) fun f s3 q3 => ?_)
    cases f with
    | next =>
      obtain ⟨σ3, H3, I3, n3⟩ := q3
      obtain ⟨m', hm, w3⟩ := hN σ3 H3 n3
      exact ⟨m', hm, σ3, H3, I3, w3⟩
    | cont =>
      obtain ⟨σ3, H3, I3, n3⟩ := q3
      obtain ⟨m', hm, w3⟩ := hN σ3 H3 n3
      exact ⟨m', hm, σ3, H3, I3, w3⟩
    | brk => exact q3
    | ret v => exact q3
  | false =>
    rw [if_neg Bool.false_ne_true]
    exact wpAny_execs_nil ⟨σ1, H2, I2, q2⟩
end
structure It where
  go : Nat → Hp → Prop
  yld : Nat → Hp → V → Hp → Prop
  stop : Nat → Hp → Prop
def FpOk (X : Cx) (pins : List (Addr × Obj)) (H : Hp) (b : Addr) : Prop :=
  H b = none ∧ b ≠ X.env.locals ∧ b ∉ X.fs ∧ (b ∈ X.ex ∨ X.s₀.heap.objs.size ≤ b) ∧ (∀ x c, X.env.cells.lookup x = some c → c ≠ b) ∧ ∀ p ∈ X.pn ++ pins, p.1 ≠ b
theorem Inv.fpOk {X : Cx} {pins : List (Addr × Obj)} {σ : St} {H H' : Hp} {s : Shared} {b : Addr} (I : Inv X pins σ H s) (hb : s.heap.objs.size ≤ b) (hn : H' b = none) : FpOk X pins H' b := by
  refine ⟨hn, Nat.ne_of_gt (Nat.lt_of_lt_of_le I.lt hb), I.nofs hb, .inr (Nat.le_trans I.sz hb), fun x c e z => ?_, fun p hp z => ?_⟩
  · obtain ⟨v, q⟩ := I.cell x c e
    exact absurd (Nat.lt_of_lt_of_le q.lt (by rw [z]; exact hb)) (Nat.lt_irrefl _)
  · exact absurd (Nat.lt_of_lt_of_le (Heap.lt_size (I.pin p hp).1) (by rw [z]; exact hb)) (Nat.lt_irrefl _)
structure Turn (P : Program) (w : World) (K : PySem.W.Frag) (tg : Expr) (J : It) (fp : List Addr) (it : Addr) (tn : Nat → Heap → Prop) : Prop where
  mem : it ∈ fp
  obj : ∀ i h, tn i h → ∀ b ∈ fp, ∃ o, h.get? b = some o ∧ ∀ v, o.data ≠ .cell v
  keep : ∀ i h h', tn i h → (∀ b ∈ fp, ∀ o, h.get? b = some o → h'.get? b = some o) → tn i h'
  item : ∀ (X : Cx), X.prog = P → X.w = w → X.K = K → X.calm = true → ∀ (i : Nat) (pins : List (Addr × Obj)) (s : Shared) (σ : St) (H : Hp) (E : Value → Shared → Prop), Inv X pins σ H s → (∀ b ∈ fp, FpOk X pins H b) → tn i s.heap → J.go i H →
    wpAny (model P w) X.A (pyNext (.ref it)) (fun r s1 => ∃ u, r = some u ∧
      wpAny (model P w) X.A (letOwnedTupleGo tg (.ref it) u) (fun _ s2 => ∃ x H', Inv X pins σ H' s2 ∧ RelV x u ∧ J.yld i H x H' ∧ tn (i + 1) s2.heap ∧ ∀ b ∈ fp, H' b = none) E s1) E s
  done : ∀ (X : Cx), X.prog = P → X.w = w → X.K = K → X.calm = true → ∀ (i : Nat) (pins : List (Addr × Obj)) (s : Shared) (σ : St) (H : Hp) (E : Value → Shared → Prop), Inv X pins σ H s → (∀ b ∈ fp, FpOk X pins H b) → tn i s.heap → J.stop i H →
    wpAny (model P w) X.A (pyNext (.ref it)) (fun r s1 => r = none ∧ Inv X pins σ H s1) E s
  self : ∀ (A : Around) (i : Nat) (s : Shared) (Q : Value → Shared → Prop) (E : Value → Shared → Prop), tn i s.heap → Q (.ref it) s → wpAny (model P w) A (pyIter (.ref it)) Q E s
abbrev TI := St → Hp → (It → Hp → Prop) → Prop
def PIE (X : Cx) (pins : List (Addr × Obj)) (σ : St) (tg : Expr) (R : It → Hp → Prop) (itv : Value) (s2 : Shared) : Prop :=
  ∃ (it : Addr) (fp : List Addr) (tn : Nat → Heap → Prop) (J : It) (H' : Hp), itv = .ref it ∧ Inv X pins σ H' s2 ∧ Turn X.prog X.w X.K tg J fp it tn ∧ tn 0 s2.heap ∧ (∀ b ∈ fp, FpOk X pins H' b) ∧ R J H'
def PI (X : Cx) (tg iter : Expr) (wi : TI) : Prop :=
  ∀ (pins : List (Addr × Obj)) (s : Shared) (σ : St) (H : Hp) (R : It → Hp → Prop), Inv X pins σ H s → wi σ H R →
    wpAny (model X.prog X.w) X.A (eval iter X.env) (fun v s1 => wpAny (model X.prog X.w) X.A (pyIter v) (PIE X pins σ tg R) X.xe s1) X.xe s
theorem go_of {M : Model} {A : Around} {E : Value → Shared → Prop} {s : Shared} {tg : Expr} {it : Addr} {u : Value} {o : Obj} {n : String} {vs : Array Value} {Q : Unit → Shared → Prop} (ho : s.heap.get? it = some o) (hc : o.cls = .type n) (hd : o.data = .fields vs)
    (hn : ["enumerate", "zip", "dict_itemiterator", "dict_reverseitemiterator", "odict_iterator", "itertools.zip_longest", "itertools.pairwise"].contains n = false) (hQ : Q () s) : wpAny M A (letOwnedTupleGo tg (.ref it) u) Q E s := by
  unfold letOwnedTupleGo
  cases tg <;> first
    | exact wpAny_pure hQ
    | (cases u <;> first
        | exact wpAny_pure hQ
        | (refine wpAny_bind (wpAny_load ho ?_)
           rw [hc, hd]
           show wpAny M A (if (["enumerate", "zip", "dict_itemiterator", "dict_reverseitemiterator", "odict_iterator", "itertools.zip_longest", "itertools.pairwise"].contains n && vs[0]? == some (rawInt _)) = true then _ else _) Q E s
           rw [if_neg (by intro h; rw [hn, Bool.false_and] at h; cases h)]
           exact wpAny_pure hQ))
def Itl (K : PySem.W.Frag) (a : Addr) : It :=
  ⟨fun i H => ∃ xs x, SqL K H a xs ∧ xs[i]? = some x, fun i H x H' => H' = H ∧ ∀ xs, SqL K H a xs → xs[i]? = some x, fun i H => ∃ xs, SqL K H a xs ∧ xs.length ≤ i⟩
def Itt (K : PySem.W.Frag) (a : Addr) : It :=
  ⟨fun i H => ∃ xs x, SqT K H a xs ∧ xs[i]? = some x, fun i H x H' => H' = H ∧ ∀ xs, SqT K H a xs → xs[i]? = some x, fun i H => ∃ xs, SqT K H a xs ∧ xs.length ≤ i⟩
def Itr (lo : Int) (n : Nat) : It := ⟨fun i _ => i < n, fun i H x H' => H' = H ∧ x = .int (lo + i), fun i _ => n ≤ i⟩
theorem turn_list {P : Program} {w : World} {K : PySem.W.Frag} {tg : Expr} (a it : Addr) : Turn P w K tg (Itl K a) [it] it (fun i h => h.IsListIter it a i) where
  mem := by simp
  obj := fun i h st b hb => by
    have e : b = it := by simpa using hb
    subst e
    obtain ⟨o, e, c, d⟩ := st
    exact ⟨o, e, fun v z => by rw [d] at z; cases z⟩
  keep := fun i h h' st k => st.at fun o e => k it (by simp) o e
  item := by
    intro X hP hw hK hc i pins s σ H E I hf st hg
    subst hP hw hK
    obtain ⟨xs, x, hq, hx⟩ := hg
    obtain ⟨its, rv, p, hz⟩ := I.list hq
    obtain ⟨u, hu, ru⟩ := rv.get hx
    obtain ⟨f0, f1, f2, f3, f4, f5⟩ := hf it (by simp)
    refine wpAny_pyNext_list_item st p.isList (x := u) (by simpa using hu) fun h' st' sb => ?_
    have I1 : Inv X pins σ H { s with heap := h' } := I.turned (t' := s.toks) (fun b o hb e => (sb.2 b hb).trans e) f0 f1 f3 f4 f5
    obtain ⟨o, e, c, d⟩ := id st'
    exact ⟨u, rfl, go_of (s := { s with heap := h' }) e c d (by decide) ⟨x, H, I1, ru, ⟨rfl, fun ys hy => by rw [I.list_inj hy hq]; exact hx⟩, st', fun b hb => (hf b hb).1⟩⟩
  done := by
    intro X hP hw hK hc i pins s σ H E I hf st hg
    subst hP hw hK
    obtain ⟨xs, hq, hx⟩ := hg
    obtain ⟨its, rv, p, hz⟩ := I.list hq
    obtain ⟨f0, f1, f2, f3, f4, f5⟩ := hf it (by simp)
    have hl := rv.length
    exact wpAny_pyNext_list_end (I.ok.hd hc) st p.isList (by simp; omega) fun h' eb => ⟨rfl, I.turned (t' := s.toks) (fun b o hb e => eb b o hb e) f0 f1 f3 f4 f5⟩
  self := fun _ _ _ _ _ st h => wpAny_pyIter_listiter st h
theorem turn_tuple {P : Program} {w : World} {K : PySem.W.Frag} {tg : Expr} (a it : Addr) : Turn P w K tg (Itt K a) [it] it (fun i h => h.IsTupleIter it a i) where
  mem := by simp
  obj := fun i h st b hb => by
    have e : b = it := by simpa using hb
    subst e
    obtain ⟨o, e, c, d⟩ := st
    exact ⟨o, e, fun v z => by rw [d] at z; cases z⟩
  keep := fun i h h' st k => st.at fun o e => k it (by simp) o e
  item := by
    intro X hP hw hK hc i pins s σ H E I hf st hg
    subst hP hw hK
    obtain ⟨xs, x, hq, hx⟩ := hg
    obtain ⟨its, rv, p, hz⟩ := I.tuple hq
    obtain ⟨u, hu, ru⟩ := rv.get hx
    obtain ⟨f0, f1, f2, f3, f4, f5⟩ := hf it (by simp)
    refine wpAny_pyNext_tuple_item st (show s.heap.IsTuple a its.toArray from p) (x := u) (by simpa using hu) fun h' st' sb => ?_
    have I1 : Inv X pins σ H { s with heap := h' } := I.turned (t' := s.toks) (fun b o hb e => (sb.2 b hb).trans e) f0 f1 f3 f4 f5
    obtain ⟨o, e, c, d⟩ := id st'
    exact ⟨u, rfl, go_of (s := { s with heap := h' }) e c d (by decide) ⟨x, H, I1, ru, ⟨rfl, fun ys hy => by rw [I.tuple_inj hy hq]; exact hx⟩, st', fun b hb => (hf b hb).1⟩⟩
  done := by
    intro X hP hw hK hc i pins s σ H E I hf st hg
    subst hP hw hK
    obtain ⟨xs, hq, hx⟩ := hg
    obtain ⟨its, rv, p, hz⟩ := I.tuple hq
    obtain ⟨f0, f1, f2, f3, f4, f5⟩ := hf it (by simp)
    have hl := rv.length
    exact wpAny_pyNext_tuple_end (I.ok.hd hc) st (show s.heap.IsTuple a its.toArray from p) (by simp; omega) fun h' eb => ⟨rfl, I.turned (t' := s.toks) (fun b o hb e => eb b o hb e) f0 f1 f3 f4 f5⟩
  self := fun _ _ _ _ _ st h => wpAny_pyIter_tupleiter st h
theorem turn_range {P : Program} {w : World} {K : PySem.W.Frag} {tg : Expr} (it : Addr) (lo : Int) (n : Nat) : Turn P w K tg (Itr lo n) [it] it (fun i h => IsRangeIter h it (lo + (i : Nat) * 1) ((n : Int) - (i : Nat)) 1) where
  mem := by simp
  obj := fun i h st b hb => by
    have e : b = it := by simpa using hb
    subst e
    exact ⟨_, st, fun v z => by
      have z' : Data.fields _ = Data.cell v := z
      cases z'⟩
  keep := fun i h h' st k => k it (by simp) _ st
  item := by
    intro X hP hw hK hc i pins s σ H E I hf st hg
    subst hP hw hK
    obtain ⟨f0, f1, f2, f3, f4, f5⟩ := hf it (by simp)
    have W := Walks.range (prog := X.prog) (w := X.w) (I.ok.hd hc) it lo 1 n
    refine W.item i s _ _ hg st fun v h' tk hv st' kk => ?_
    obtain ⟨t, rfl⟩ := hv
    have I1 : Inv X pins σ H { s with heap := h', toks := tk } := I.turned (fun b o hb e => kk b o (by simpa using hb) e) f0 f1 f3 f4 f5
    refine ⟨_, rfl, go_of (s := { s with heap := h', toks := tk }) (n := "range_iterator") st' rfl rfl (by decide) ⟨.int (lo + i), H, I1, ⟨t, ?_⟩, ⟨rfl, rfl⟩, st', fun b hb => (hf b hb).1⟩⟩
    rw [Int.mul_one]
  done := by
    intro X hP hw hK hc i pins s σ H E I hf st hg
    subst hP hw hK
    obtain ⟨f0, f1, f2, f3, f4, f5⟩ := hf it (by simp)
    exact wpAny_pyNext_range_end (I.ok.hd hc) st (by have : n ≤ i := hg; omega) fun h' eb => ⟨rfl, I.turned (t' := s.toks) (fun b o hb e => eb b o hb e) f0 f1 f3 f4 f5⟩
  self := fun _ _ _ _ _ st h => wpAny_pyIter_rangeiter st h
end L2
namespace L2
open PySem PySem.Spec PyProof.Rows
section
variable {X : Cx} {tg : Expr}
def iList (K : PySem.W.Frag) (tl : TE) : TI := fun σ H R => tl σ H fun x H1 => ∃ a, x = .ref a ∧ (∃ xs, SqL K H1 a xs) ∧ R (Itl K a) H1
def iTup (K : PySem.W.Frag) (tl : TE) : TI := fun σ H R => tl σ H fun x H1 => ∃ a, x = .ref a ∧ (∃ xs, SqT K H1 a xs) ∧ R (Itt K a) H1
theorem pi_list {l : Expr} {tl : TE} (hl : PE X l tl) : PI X tg l (iList X.K tl) := by
  intro pins s σ H R I h
  refine thn (hl pins s σ H _ I h) fun v s1 ⟨x, H1, I1, r1, q1⟩ => ?_
  obtain ⟨a, e, ⟨xs, hq⟩, q⟩ := q1
  subst e
  cases r1
  obtain ⟨its, rv, p, hz⟩ := I1.list hq
  refine wpAny_pyIter_list p.isList ?_
  refine ⟨s1.heap.objs.size, [s1.heap.objs.size], _, _, H1, rfl, I1.kept (t' := s1.toks) fun b o e => Heap.get?_push_of_some _ e, turn_list a _, ⟨_, Heap.get?_push_size _ rfl, rfl, rfl⟩, fun b hb => ?_, q⟩
  have e : b = s1.heap.objs.size := by simpa using hb
  subst e
  exact I1.fpOk (Nat.le_refl _) (I1.hok.fresh (Nat.le_refl _))
theorem pi_tup {l : Expr} {tl : TE} (hl : PE X l tl) : PI X tg l (iTup X.K tl) := by
  intro pins s σ H R I h
  refine thn (hl pins s σ H _ I h) fun v s1 ⟨x, H1, I1, r1, q1⟩ => ?_
  obtain ⟨a, e, ⟨xs, hq⟩, q⟩ := q1
  subst e
  cases r1
  obtain ⟨its, rv, p, hz⟩ := I1.tuple hq
  refine wpAny_pyIter_tuple (show s1.heap.IsTuple a its.toArray from p) ?_
  refine ⟨s1.heap.objs.size, [s1.heap.objs.size], _, _, H1, rfl, I1.kept (t' := s1.toks) fun b o e => Heap.get?_push_of_some _ e, turn_tuple a _, ⟨_, Heap.get?_push_size _ rfl, rfl, rfl⟩, fun b hb => ?_, q⟩
  have e : b = s1.heap.objs.size := by simpa using hb
  subst e
  exact I1.fpOk (Nat.le_refl _) (I1.hok.fresh (Nat.le_refl _))
theorem range_it {pins : List (Addr × Obj)} {σ : St} {H : Hp} {s : Shared} {R : It → Hp → Prop} {E : Value → Shared → Prop} {lo hi : Int} {t u v : Tok} {tk : Nat} (I : Inv X pins σ H s) (h1 : -(2 ^ 62) ≤ lo) (h2 : lo < 2 ^ 62) (h3 : -(2 ^ 62) ≤ hi) (h4 : hi < 2 ^ 62)
    (q : R (Itr lo (hi - lo).toNat) H) : wpAny (model X.prog X.w) X.A (pyIter (.ref s.heap.objs.size)) (PIE X pins σ tg R) E { s with heap := s.heap.push { cls := .type "range", data := .fields #[.int lo t, .int hi u, .int 1 v] }, toks := tk } := by
  refine wpAny_pyIter_range (IsRange.new ..) (small_one h1 h2 h3 h4) ?_
  have I1 : Inv X pins σ H { s with heap := s.heap.push { cls := .type "range", data := .fields #[.int lo t, .int hi u, .int 1 v] }, toks := tk } := I.kept fun b o e => Heap.get?_push_of_some _ e
  refine ⟨(s.heap.push { cls := .type "range", data := .fields #[.int lo t, .int hi u, .int 1 v] }).objs.size, [(s.heap.push { cls := .type "range", data := .fields #[.int lo t, .int hi u, .int 1 v] }).objs.size], _, _, H, rfl,
    I1.kept (t' := tk) fun b o e => Heap.get?_push_of_some _ e, turn_range _ lo (hi - lo).toNat, ?_, fun b hb => ?_, q⟩
  · have e1 : lo + ((0 : Nat) : Int) * 1 = lo := by simp
    have e2 : (((hi - lo).toNat : Nat) : Int) - ((0 : Nat) : Int) = Builtin.Range.rangeSize lo hi 1 := by rw [rangeSize_one]; split <;> omega
    show IsRangeIter _ _ (lo + ((0 : Nat) : Int) * 1) ((((hi - lo).toNat : Nat) : Int) - ((0 : Nat) : Int)) 1
    rw [e1, e2]
    exact Heap.get?_push_size _ rfl
  · have e : b = (s.heap.push { cls := .type "range", data := .fields #[.int lo t, .int hi u, .int 1 v] }).objs.size := by simpa using hb
    subst e
    exact I1.fpOk (Nat.le_refl _) (I1.hok.fresh (Nat.le_refl _))
def iRng1 (ta : TA) : TI := fun σ H R => ta σ H fun vs H1 => ∃ j : Int, vs = [.int j] ∧ -(2 ^ 62) ≤ j ∧ j < 2 ^ 62 ∧ R (Itr 0 j.toNat) H1
def iRng2 (ta : TA) : TI := fun σ H R => ta σ H fun vs H1 => ∃ i j : Int, vs = [.int i, .int j] ∧ (-(2 ^ 62) ≤ i ∧ i < 2 ^ 62 ∧ -(2 ^ 62) ≤ j ∧ j < 2 ^ 62) ∧ R (Itr i (j - i).toNat) H1
theorem pi_range1 {a : Expr} {ta : TA} {p pos : Pos} (hg : Gl X "range") (hm : X.mg "range" = none) (ha : PA X [a] ta) (hs : starEach [a] X.env = [(false, eval a X.env)] := by rfl) : PI X tg (.Call (.Name "range" p) [a] [] pos) (iRng1 ta) := by
  intro pins s σ H R I h
  refine Call_ (ld_blt I hg hm boot_range (PyProof.Rows.callWith_type1 (thn (ha pos pins s σ H _ I h) fun us s1 ⟨vs, H1, I1, r1, q1⟩ => ?_) hs rfl))
  obtain ⟨j, e, q1, q2, q⟩ := q1
  subst e
  cases r1 with
  | cons r rr =>
    cases rr
    obtain ⟨t, rfl⟩ := r
    exact call_range_1 (range_it I1 (by omega) (by omega) q1 q2 (by simpa using q))
def tFor (wi : TI) (g : TG) (tb : TS) : TS := fun D σ H => wi σ H fun J H1 => ∃ W : Nat → Nat → St → Hp → Prop, (∃ m, W 0 m σ H1) ∧ ∀ i m σ H, W i m σ H →
  (J.stop i H ∧ D.nx σ H) ∨ (J.go i H ∧ ∃ N : St → Hp → Prop, (∀ σ' H', N σ' H' → ∃ m', m' < m ∧ W (i + 1) m' σ' H') ∧ ∀ x H', J.yld i H x H' → g x σ H' fun σ2 H2 => tb { D with nx := N, ct := N, bk := D.nx } σ2 H2)
def pinsAt (fp : List Addr) (h : Heap) : List (Addr × Obj) := fp.filterMap fun b => (h.get? b).map fun o => (b, o)
theorem mem_pinsAt {fp : List Addr} {h : Heap} {b : Addr} {o : Obj} (hb : b ∈ fp) (e : h.get? b = some o) : (b, o) ∈ pinsAt fp h := List.mem_filterMap.mpr ⟨b, hb, by rw [e]; rfl⟩
theorem of_pinsAt {fp : List Addr} {h : Heap} {p : Addr × Obj} (hp : p ∈ pinsAt fp h) : p.1 ∈ fp ∧ h.get? p.1 = some p.2 := by
  obtain ⟨b, hb, e⟩ := List.mem_filterMap.mp hp
  cases q : h.get? b with
  | none => rw [q] at e; cases e
  | some o =>
    rw [q] at e
    have e' : (b, o) = p := Option.some.inj e
    subst e'
    exact ⟨hb, q⟩
theorem Inv.pinned {pins : List (Addr × Obj)} {σ : St} {H : Hp} {s : Shared} {fp : List Addr} (I : Inv X pins σ H s) (hf : ∀ b ∈ fp, FpOk X pins H b) (ho : ∀ b ∈ fp, ∃ o, s.heap.get? b = some o ∧ ∀ v, o.data ≠ .cell v) : Inv X (pins ++ pinsAt fp s.heap) σ H s :=
  I.pins_of fun p hp => (List.mem_append.mp hp).elim (fun z => I.pin p (List.mem_append_right _ z)) fun z => by
    obtain ⟨hb, e⟩ := of_pinsAt z
    obtain ⟨f0, f1, f2, _⟩ := hf p.1 hb
    obtain ⟨o, e', d⟩ := ho p.1 hb
    rw [e] at e'; cases e'
    exact ⟨e, f0, f1, f2, d⟩
theorem Inv.unpinned {pins pl : List (Addr × Obj)} {σ : St} {H : Hp} {s : Shared} (I : Inv X (pins ++ pl) σ H s) : Inv X pins σ H s := I.pins_of fun p hp => I.pin p (List.mem_append_right _ (List.mem_append_left _ hp))
theorem ps_for {iter : Expr} {body : List Stmt} {wi : TI} {g : TG} {tb : TS} {pos : Pos} (hp : PassesOwn (model X.prog X.w) X.A X.env X.xe) (hc : X.calm = true) (hi : PI X tg iter wi) (hg : PG X tg g) (hb : PSs X body tb)
    (hs : ∀ x, foldedSetIterable iter X.env x = pure x := by intro _; rfl) : PS X (.For tg iter body [] pos) (tFor wi g tb) := by
  intro pins s σ H D I h
  refine wpAny_For (thn (hi pins s σ H _ I h) fun v s1 h1 => thn h1 fun itv s2 h2 => ?_) hs
  obtain ⟨it, fp, tn, J, H2, e, I2, T, st2, f2, W, ⟨m0, w0⟩, turn⟩ := h2
  subst e
  -- what stays true of the iterator's objects through the loop
  have stat : ∀ {H' : Hp}, (∀ b ∈ fp, H' b = none) → ∀ b ∈ fp, FpOk X pins H' b := fun hn b hb => ⟨hn b hb, (f2 b hb).2⟩
  refine codeAny_forLoop_any (fun n s' => ∃ i σ' H', Inv X pins σ' H' s' ∧ tn i s'.heap ∧ (∀ b ∈ fp, H' b = none) ∧ W i n σ' H') ?_ m0 ⟨0, σ, H2, I2, st2, fun b hb => (f2 b hb).1, w0⟩
  rintro n s3 ⟨i, σ3, H3, I3, st3, fr3, w3⟩
  rcases turn i n σ3 H3 w3 with ⟨stop, qn⟩ | ⟨go, N, hN, step⟩
  · refine wpAny_passesOwn hp (thn (T.done X rfl rfl rfl hc i pins s3 σ3 H3 X.xe I3 (stat fr3) st3 stop) fun r s4 ⟨hr, I4⟩ => ?_)
    subst hr
    exact wpAny_execs_nil ⟨σ3, H3, I4, qn⟩
  · refine wpAny_passesOwn hp (thn (T.item X rfl rfl rfl hc i pins s3 σ3 H3 X.xe I3 (stat fr3) st3 go) fun r s4 ⟨u, hr, h4⟩ => ?_)
    subst hr
    refine wpAny_passesOwn hp (thn h4 fun _ s5 ⟨x, H5, I5, r5, y5, st5, fr5⟩ => ?_)
    have I5' := I5.pinned (stat fr5) (T.obj _ _ st5)
    refine wpAny_passesOwn hp (thn (hg _ s5 σ3 H5 x u _ I5' r5 (step x H5 y5)) fun _ s6 ⟨σ6, H6, I6, q6⟩ => ?_)
    refine wpAny_passesOwn hp (thn (hb _ s6 σ6 H6 _ I6 q6) fun f s7 q7 => ?_)
    have again : ∀ {σ7 : St} {H7 : Hp}, Inv X (pins ++ pinsAt fp s5.heap) σ7 H7 s7 → N σ7 H7 → ∃ m, m < n ∧ ∃ i σ' H', Inv X pins σ' H' s7 ∧ tn i s7.heap ∧ (∀ b ∈ fp, H' b = none) ∧ W i m σ' H' := fun {σ7 H7} I7 n7 => by
      obtain ⟨m', hm, w7⟩ := hN σ7 H7 n7
      refine ⟨m', hm, i + 1, σ7, H7, I7.unpinned, T.keep _ _ _ st5 fun b hb o e => (I7.pin (b, o) (List.mem_append_right _ (List.mem_append_right _ (mem_pinsAt hb e)))).1, fun b hb => ?_, w7⟩
      obtain ⟨o, e, d⟩ := T.obj _ _ st5 b hb
      exact (I7.pin (b, o) (List.mem_append_right _ (List.mem_append_right _ (mem_pinsAt hb e)))).2.1
    cases f with
    | next => obtain ⟨σ7, H7, I7, n7⟩ := q7; exact again I7 n7
    | cont => obtain ⟨σ7, H7, I7, n7⟩ := q7; exact again I7 n7
    | brk => obtain ⟨σ7, H7, I7, q7⟩ := q7; exact ⟨σ7, H7, I7.unpinned, q7⟩
    | ret v => obtain ⟨x7, σ7, H7, I7, r7, q7⟩ := q7; exact ⟨x7, σ7, H7, I7.unpinned, r7, q7⟩
end
theorem for_list {K : PySem.W.Frag} {a : Addr} {xs : List V} {g : TG} {tb : TS} {D : Ends} {σ : St} {H : Hp} (Pv : Nat → St → Hp → Prop) (h0 : Pv 0 σ H) (hl : ∀ i σ H, i ≤ xs.length → Pv i σ H → SqL K H a xs)
    (hs : ∀ i x σ H, xs[i]? = some x → Pv i σ H → g x σ H fun σ2 H2 => tb { D with nx := Pv (i + 1), ct := Pv (i + 1), bk := D.nx } σ2 H2) (hd : ∀ σ H, Pv xs.length σ H → D.nx σ H) :
    ∃ W : Nat → Nat → St → Hp → Prop, (∃ m, W 0 m σ H) ∧ ∀ i m σ H, W i m σ H →
      ((Itl K a).stop i H ∧ D.nx σ H) ∨ ((Itl K a).go i H ∧ ∃ N : St → Hp → Prop, (∀ σ' H', N σ' H' → ∃ m', m' < m ∧ W (i + 1) m' σ' H') ∧ ∀ x H', (Itl K a).yld i H x H' → g x σ H' fun σ2 H2 => tb { D with nx := N, ct := N, bk := D.nx } σ2 H2) := by
  refine ⟨fun i m σ H => m = xs.length - i ∧ i ≤ xs.length ∧ Pv i σ H, ⟨xs.length, by simp, Nat.zero_le _, h0⟩, ?_⟩
  rintro i m σ H ⟨rfl, hi, p⟩
  have q := hl i σ H hi p
  by_cases hlt : i < xs.length
  · refine .inr ⟨⟨xs, xs[i], q, by simp [hlt]⟩, Pv (i + 1), fun σ' H' p' => ⟨xs.length - (i + 1), by omega, rfl, hlt, p'⟩, fun x H' y => ?_⟩
    obtain ⟨e, y⟩ := y
    subst e
    exact hs i x σ _ (y xs q) p
  · have e : i = xs.length := by omega
    subst e
    exact .inl ⟨⟨xs, q, Nat.le_refl _⟩, hd σ H p⟩
theorem for_range {lo : Int} {n : Nat} {g : TG} {tb : TS} {D : Ends} {σ : St} {H : Hp} (Pv : Nat → St → Hp → Prop) (h0 : Pv 0 σ H)
    (hs : ∀ i σ H, i < n → Pv i σ H → g (.int (lo + i)) σ H fun σ2 H2 => tb { D with nx := Pv (i + 1), ct := Pv (i + 1), bk := D.nx } σ2 H2) (hd : ∀ σ H, Pv n σ H → D.nx σ H) :
    ∃ W : Nat → Nat → St → Hp → Prop, (∃ m, W 0 m σ H) ∧ ∀ i m σ H, W i m σ H →
      ((Itr lo n).stop i H ∧ D.nx σ H) ∨ ((Itr lo n).go i H ∧ ∃ N : St → Hp → Prop, (∀ σ' H', N σ' H' → ∃ m', m' < m ∧ W (i + 1) m' σ' H') ∧ ∀ x H', (Itr lo n).yld i H x H' → g x σ H' fun σ2 H2 => tb { D with nx := N, ct := N, bk := D.nx } σ2 H2) := by
  refine ⟨fun i m σ H => m = n - i ∧ i ≤ n ∧ Pv i σ H, ⟨n, by simp, Nat.zero_le _, h0⟩, ?_⟩
  rintro i m σ H ⟨rfl, hi, p⟩
  by_cases hlt : i < n
  · refine .inr ⟨hlt, Pv (i + 1), fun σ' H' p' => ⟨n - (i + 1), by omega, rfl, hlt, p'⟩, fun x H' y => ?_⟩
    obtain ⟨e, y⟩ := y
    subst e y
    exact hs i σ _ hlt p
  · have e : i = n := by omega
    subst e
    exact .inl ⟨Nat.le_refl _, hd σ H p⟩
end L2
namespace L2
open PySem PySem.Spec PyProof.Rows
abbrev R2 := V → V → Hp → VK → Prop
def OpR (X : Cx) (f : Value → Value → Sem Value) (r : R2) : Prop :=
  ∀ (pins : List (Addr × Obj)) (s : Shared) (σ : St) (H : Hp) (x y : V) (v u : Value) (Q : VK), Inv X pins σ H s → RelV x v → RelV y u → r x y H Q →
    wpAny (model X.prog X.w) X.A (f v u) (EP X pins σ Q) X.xe s
def UnR (X : Cx) (f : Value → Sem Value) (r : V → Hp → VK → Prop) : Prop :=
  ∀ (pins : List (Addr × Obj)) (s : Shared) (σ : St) (H : Hp) (x : V) (v : Value) (Q : VK), Inv X pins σ H s → RelV x v → r x H Q →
    wpAny (model X.prog X.w) X.A (f v) (EP X pins σ Q) X.xe s
def CallR (X : Cx) (f : Value) (r : List V → Hp → VK → Prop) : Prop :=
  ∀ (pins : List (Addr × Obj)) (s : Shared) (σ : St) (H : Hp) (xs : List V) (us : List Value) (Q : VK), Inv X pins σ H s → Vals xs us → r xs H Q →
    wpAny (model X.prog X.w) X.A (call f us) (EP X pins σ Q) X.xe s
def tOp (r : R2) (ta tb : TE) : TE := fun σ H Q => ta σ H fun x H1 => tb σ H1 fun y H2 => r x y H2 Q
def tUn (r : V → Hp → VK → Prop) (ta : TE) : TE := fun σ H Q => ta σ H fun x H1 => r x H1 Q
def rI (C : Int → Int → Prop) (g : Int → Int → V) : R2 := fun x y H Q => ∃ i j, x = .int i ∧ y = .int j ∧ C i j ∧ Q (g i j) H
def rI0 (g : Int → Int → V) : R2 := fun x y H Q => ∃ i j, x = .int i ∧ y = .int j ∧ Q (g i j) H
def rU (g : Int → V) : V → Hp → VK → Prop := fun x H Q => ∃ i, x = .int i ∧ Q (g i) H
section
variable {X : Cx} {a b c : Expr} {ta tb tc : TE} {pos : Pos}
theorem binT (ha : PE X a ta) (hb : PE X b tb) {pins : List (Addr × Obj)} {s : Shared} {σ : St} {H : Hp} {R : V → V → Hp → Prop} (I : Inv X pins σ H s)
    (h : ta σ H fun x H1 => tb σ H1 fun y H2 => R x y H2) {Q : Value → Shared → Prop} {f : Value → Value → Sem Value}
    (hf : ∀ v u s2 x y H2, Inv X pins σ H2 s2 → RelV x v → RelV y u → R x y H2 → wpAny (model X.prog X.w) X.A (f v u) Q X.xe s2) :
    wpAny (model X.prog X.w) X.A (eval a X.env) (fun v s₁ => wpAny (model X.prog X.w) X.A (eval b X.env) (fun u s₂ => wpAny (model X.prog X.w) X.A (f v u) Q X.xe s₂) X.xe s₁) X.xe s := by
  refine thn (ha pins s σ H _ I h) fun v s1 ⟨x, H1, I1, r1, q1⟩ => ?_
  refine thn (hb pins s1 σ H1 _ I1 q1) fun u s2 ⟨y, H2, I2, r2, q2⟩ => ?_
  exact hf v u s2 x y H2 I2 r1 r2 q2
theorem pe_op {op : Operator} {r : R2} (ho : OpR X (binaryOp op) r) (ha : PE X a ta) (hb : PE X b tb) : PE X (.BinOp a op b pos) (tOp r ta tb) := by
  intro pins s σ H Q I h
  exact wpAny_BinOp (binT ha hb I h fun v u s2 x y H2 I2 rx ry q => ho pins s2 σ H2 x y v u Q I2 rx ry q)
theorem pe_un {op : UnaryOp} {r : V → Hp → VK → Prop} (ho : UnR X (unaryOp op) r) (ha : PE X a ta) : PE X (.UnaryOp op a pos) (tUn r ta) := by
  intro pins s σ H Q I h
  exact UnaryOp_ (thn (ha pins s σ H _ I h) fun v s1 ⟨x, H1, I1, r1, q1⟩ => ho pins s1 σ H1 x v Q I1 r1 q1)
theorem opI {f : Value → Value → Sem Value} {C : Int → Int → Prop} {g : Int → Int → Int}
    (rule : ∀ (i j : Int) (t u : Tok) (s : Shared) (Q : Value → Shared → Prop) (E : Value → Shared → Prop), C i j → Q (.int (g i j) s.toks) { s with toks := s.toks + 1 } → wpAny (model X.prog X.w) X.A (f (.int i t) (.int j u)) Q E s) :
    OpR X f (rI C fun i j => .int (g i j)) := by
  intro pins s σ H x y v u Q I rx ry h
  obtain ⟨i, j, rfl, rfl, hc, q⟩ := h
  obtain ⟨t, rfl⟩ := rx
  obtain ⟨t', rfl⟩ := ry
  exact rule i j t t' s _ _ hc ⟨.int (g i j), H, I.tok _, ⟨_, rfl⟩, q⟩
theorem opI0 {f : Value → Value → Sem Value} {g : Int → Int → Int}
    (rule : ∀ (i j : Int) (t u : Tok) (s : Shared) (Q : Value → Shared → Prop) (E : Value → Shared → Prop), Q (.int (g i j) s.toks) { s with toks := s.toks + 1 } → wpAny (model X.prog X.w) X.A (f (.int i t) (.int j u)) Q E s) :
    OpR X f (rI0 fun i j => .int (g i j)) := by
  intro pins s σ H x y v u Q I rx ry h
  obtain ⟨i, j, rfl, rfl, q⟩ := h
  obtain ⟨t, rfl⟩ := rx
  obtain ⟨t', rfl⟩ := ry
  exact rule i j t t' s _ _ ⟨.int (g i j), H, I.tok _, ⟨_, rfl⟩, q⟩
theorem opB0 {f : Value → Value → Sem Value} {g : Int → Int → Bool}
    (rule : ∀ (i j : Int) (t u : Tok) (s : Shared) (Q : Value → Shared → Prop) (E : Value → Shared → Prop), Q (.bool (g i j)) s → wpAny (model X.prog X.w) X.A (f (.int i t) (.int j u)) Q E s) :
    OpR X f (rI0 fun i j => .bl (g i j)) := by
  intro pins s σ H x y v u Q I rx ry h
  obtain ⟨i, j, rfl, rfl, q⟩ := h
  obtain ⟨t, rfl⟩ := rx
  obtain ⟨t', rfl⟩ := ry
  exact rule i j t t' s _ _ ⟨.bl (g i j), H, I, rfl, q⟩
def CPow (i j : Int) : Prop := 0 ≤ j ∧ j ≤ 1000000 ∧ i.natAbs < 2 ^ 64
def CMul (i j : Int) : Prop := (-(2 ^ 64) < i ∧ i < 2 ^ 64) ∨ (-(2 ^ 64) < j ∧ j < 2 ^ 64)
theorem CMul.ok {i j : Int} (h : CMul i j) : IntMulOk i j := by
  rcases h with ⟨h1, h2⟩ | ⟨h1, h2⟩
  · exact .of_left (intBits_le_64 h1 h2)
  · exact .of_right (intBits_le_64 h1 h2)
theorem op_add : OpR X (binaryOp .Add) (rI0 fun i j => .int (i + j)) := opI0 fun _ _ _ _ _ _ _ q => add_int q
theorem op_sub : OpR X (binaryOp .Sub) (rI0 fun i j => .int (i - j)) := opI0 fun _ _ _ _ _ _ _ q => sub_int q
theorem op_mod : OpR X (binaryOp .Mod) (rI (fun _ j => 0 < j) fun i j => .int (i % j)) := opI fun i j _ _ _ _ _ hc q => by
  have h1 : (0 : Int) < j := hc
  exact mod_int' (by omega) (by rw [Int.fmod_eq_emod_of_nonneg i (by omega)]; exact q)
theorem op_pow : OpR X (binaryOp .Pow) (rI CPow fun i j => .int (i ^ j.toNat)) := opI fun _ _ _ _ _ _ _ hc q => pow_int_small hc.1 hc.2.1 hc.2.2 q
theorem unI {f : Value → Sem Value} {g : Int → Int}
    (rule : ∀ (i : Int) (t : Tok) (s : Shared) (Q : Value → Shared → Prop) (E : Value → Shared → Prop), Q (.int (g i) s.toks) { s with toks := s.toks + 1 } → wpAny (model X.prog X.w) X.A (f (.int i t)) Q E s) :
    UnR X f (rU fun i => .int (g i)) := by
  intro pins s σ H x v Q I rx h
  obtain ⟨i, rfl, q⟩ := h
  obtain ⟨t, rfl⟩ := rx
  exact rule i t s _ _ ⟨.int (g i), H, I.tok _, ⟨_, rfl⟩, q⟩
theorem un_neg : UnR X (unaryOp .USub) (rU fun i => .int (-i)) := unI fun _ _ _ _ _ q => neg_int q
end
def scal : V → V → Bool
  | .non, .non => true | .non, .int _ => true | .int _, .non => true | .non, .bl _ => true | .bl _, .non => true | .non, .str _ => true | .str _, .non => true
  | .int _, .int _ => true | .bl _, .bl _ => true | .str _, .str _ => true | .byt _, .byt _ => true
  | .int _, .str _ => true | .str _, .int _ => true | .bl _, .str _ => true | .str _, .bl _ => true
  | _, _ => false
def rEq : R2 := fun x y H Q => scal x y = true ∧ Q (.bl (decide (x = y))) H
def rNe : R2 := fun x y H Q => scal x y = true ∧ Q (.bl (!decide (x = y))) H
theorem dec_int {i j : Int} : decide (V.int i = V.int j) = (i == j) := by
  rw [Bool.eq_iff_iff]
  simp
theorem dec_bl {i j : Bool} : decide (V.bl i = V.bl j) = (i == j) := by
  rw [Bool.eq_iff_iff]
  simp
theorem dec_str {i j : Str} : decide (V.str i = V.str j) = (i == j) := by
  rw [Bool.eq_iff_iff]
  simp
theorem dec_byt {i j : Array UInt8} : decide (V.byt i = V.byt j) = (i.toList == j.toList) := by
  rw [Bool.eq_iff_iff]
  cases i
  cases j
  simp
section
variable {X : Cx} {a b c : Expr} {ta tb tc : TE} {pos : Pos}
theorem fin_bl {pins : List (Addr × Obj)} {σ : St} {H : Hp} {s : Shared} {Q : VK} {k k' : Bool} (I : Inv X pins σ H s) (q : Q (.bl k) H) (e : k = k') : EP X pins σ Q (.bool k') s := by
  subst e
  exact ⟨.bl k, H, I, rfl, q⟩
theorem op_eq : OpR X (compareOp .Eq) rEq := by
  intro pins s σ H x y v u Q I rx ry h
  obtain ⟨hs, q⟩ := h
  cases x with
  | non =>
    cases rx
    cases y with
    | non => cases ry; exact PySem.EqNone.eq_none_none (fin_bl I q (by simp))
    | bl j => cases ry; exact PySem.EqNone.eq_none_bool (fin_bl I q (by simp))
    | int j => obtain ⟨t', rfl⟩ := ry; exact PySem.EqNone.eq_none_int (fin_bl I q (by simp))
    | str j => obtain ⟨t', rfl⟩ := ry; exact PySem.EqNone.eq_none_str (fin_bl I q (by simp))
    | _ => exact absurd (show false = true from hs) Bool.false_ne_true
  | bl i =>
    cases rx
    cases y with
    | non => cases ry; exact PySem.EqNone.eq_bool_none (fin_bl I q (by simp))
    | bl j => cases ry; exact eq_bool (fin_bl I q dec_bl)
    | str j => obtain ⟨t', rfl⟩ := ry; exact PySem.EqMixed.eq_bool_str (fin_bl I q (by simp))
    | _ => exact absurd (show false = true from hs) Bool.false_ne_true
  | int i =>
    obtain ⟨t, rfl⟩ := rx
    cases y with
    | non => cases ry; exact PySem.EqNone.eq_int_none (fin_bl I q (by simp))
    | int j => obtain ⟨t', rfl⟩ := ry; exact eq_int (fin_bl I q dec_int)
    | str j => obtain ⟨t', rfl⟩ := ry; exact PySem.EqMixed.eq_int_str (fin_bl I q (by simp))
    | _ => exact absurd (show false = true from hs) Bool.false_ne_true
  | str i =>
    obtain ⟨t, rfl⟩ := rx
    cases y with
    | non => cases ry; exact PySem.EqNone.eq_str_none (fin_bl I q (by simp))
    | bl j => cases ry; exact PySem.EqMixed.eq_str_bool (fin_bl I q (by simp))
    | int j => obtain ⟨t', rfl⟩ := ry; exact PySem.EqMixed.eq_str_int (fin_bl I q (by simp))
    | str j => obtain ⟨t', rfl⟩ := ry; exact eq_str (fin_bl I q dec_str)
    | _ => exact absurd (show false = true from hs) Bool.false_ne_true
  | byt i =>
    obtain ⟨t, rfl⟩ := rx
    cases y with
    | byt j => obtain ⟨t', rfl⟩ := ry; exact PySem.W.eq_bytes (fin_bl I q dec_byt)
    | _ => exact absurd (show false = true from hs) Bool.false_ne_true
  | _ => cases y <;> exact absurd (show false = true from hs) Bool.false_ne_true
theorem op_ne : OpR X (compareOp .NotEq) rNe := by
  intro pins s σ H x y v u Q I rx ry h
  obtain ⟨hs, q⟩ := h
  cases x with
  | non =>
    cases rx
    cases y with
    | non => cases ry; exact PySem.EqNone.ne_none_none (fin_bl I q (by simp))
    | bl j => cases ry; exact PySem.EqNone.ne_none_bool (fin_bl I q (by simp))
    | int j => obtain ⟨t', rfl⟩ := ry; exact PySem.EqNone.ne_none_int (fin_bl I q (by simp))
    | str j => obtain ⟨t', rfl⟩ := ry; exact PySem.EqNone.ne_none_str (fin_bl I q (by simp))
    | _ => exact absurd (show false = true from hs) Bool.false_ne_true
  | bl i =>
    cases rx
    cases y with
    | non => cases ry; exact PySem.EqNone.ne_bool_none (fin_bl I q (by simp))
    | bl j => cases ry; exact ne_bool (fin_bl I q (congrArg not dec_bl))
    | str j => obtain ⟨t', rfl⟩ := ry; exact PySem.EqMixed.ne_bool_str (fin_bl I q (by simp))
    | _ => exact absurd (show false = true from hs) Bool.false_ne_true
  | int i =>
    obtain ⟨t, rfl⟩ := rx
    cases y with
    | non => cases ry; exact PySem.EqNone.ne_int_none (fin_bl I q (by simp))
    | int j => obtain ⟨t', rfl⟩ := ry; exact ne_int (fin_bl I q (congrArg not dec_int))
    | str j => obtain ⟨t', rfl⟩ := ry; exact PySem.EqMixed.ne_int_str (fin_bl I q (by simp))
    | _ => exact absurd (show false = true from hs) Bool.false_ne_true
  | str i =>
    obtain ⟨t, rfl⟩ := rx
    cases y with
    | non => cases ry; exact PySem.EqNone.ne_str_none (fin_bl I q (by simp))
    | bl j => cases ry; exact PySem.EqMixed.ne_str_bool (fin_bl I q (by simp))
    | int j => obtain ⟨t', rfl⟩ := ry; exact PySem.EqMixed.ne_str_int (fin_bl I q (by simp))
    | str j => obtain ⟨t', rfl⟩ := ry; exact ne_str (fin_bl I q (congrArg not dec_str))
    | _ => exact absurd (show false = true from hs) Bool.false_ne_true
  | byt i =>
    obtain ⟨t, rfl⟩ := rx
    cases y with
    | byt j => obtain ⟨t', rfl⟩ := ry; exact PySem.W.ne_bytes (fin_bl I q (congrArg not dec_byt))
    | _ => exact absurd (show false = true from hs) Bool.false_ne_true
  | _ => cases y <;> exact absurd (show false = true from hs) Bool.false_ne_true
theorem op_lt : OpR X (compareOp .Lt) (rI0 fun i j => .bl (decide (i < j))) := opB0 fun _ _ _ _ _ _ _ q => lt_int q
theorem op_gt : OpR X (compareOp .Gt) (rI0 fun i j => .bl (decide (j < i))) := opB0 fun _ _ _ _ _ _ _ q => gt_int q
theorem op_isN : OpR X (compareOp .Is) (fun x y H Q => y = .non ∧ Q (.bl (decide (x = .non))) H) := by
  intro pins s σ H x y v u Q I rx ry h
  obtain ⟨rfl, q⟩ := h
  cases ry
  refine is_none_gen (fin_bl I q ?_)
  cases x <;> first
    | (cases rx; rfl)
    | (obtain ⟨t, rfl⟩ := rx; rfl)
theorem op_notN : OpR X (compareOp .IsNot) (fun x y H Q => y = .non ∧ Q (.bl (!decide (x = .non))) H) := by
  intro pins s σ H x y v u Q I rx ry h
  obtain ⟨rfl, q⟩ := h
  cases ry
  refine isnot_none_gen (fin_bl I q ?_)
  cases x <;> first
    | (cases rx; rfl)
    | (obtain ⟨t, rfl⟩ := rx; rfl)
theorem nomark (b : Expr) {op : CmpOp} (h : op ≠ .In := by decide) (h2 : op ≠ .NotIn := by decide) : behindInMarks op b = false := by
  have e1 : (op == CmpOp.In) = false := by cases op <;> first | rfl | exact absurd rfl h
  have e2 : (op == CmpOp.NotIn) = false := by cases op <;> first | rfl | exact absurd rfl h2
  cases b <;> simp [behindInMarks, e1, e2]
theorem pe_cmpR {op : CmpOp} {r : R2} (ho : OpR X (compareOp op) r) (ha : PE X a ta) (hb : PE X b tb) (hm : behindInMarks op b = false) : PE X (.Compare a [op] [b] pos) (tOp r ta tb) := by
  intro pins s σ H Q I h
  exact wpAny_Compare1 (binT ha hb I h fun v u s2 x y H2 I2 rx ry q => ho pins s2 σ H2 x y v u Q I2 rx ry q) hm
def tTest (t : TE) : TT := fun σ H Q => t σ H fun x H' => ∃ k, x = .bl k ∧ Q k H'
theorem pt_cmpR {op : CmpOp} {r : R2} (ho : OpR X (compareOp op) r) (ha : PE X a ta) (hb : PE X b tb) (hm : behindInMarks op b = false) : PT X (.Compare a [op] [b] pos) (tTest (tOp r ta tb)) := by
  intro pins s σ H Q I h
  refine wpAny_isTrue_Compare1 (thn (ha pins s σ H _ I h) fun v s1 ⟨x, H1, I1, r1, q1⟩ => thn (hb pins s1 σ H1 _ I1 q1) fun u s2 ⟨y, H2, I2, r2, q2⟩ =>
    thn (ho pins s2 σ H2 x y v u _ I2 r1 r2 q2) fun c s3 ⟨z, H3, I3, r3, k, e, q3⟩ => ?_) hm
  subst e
  cases r3
  exact wpAny_truthy_bool ⟨H3, I3, q3⟩
def tChain (r r' : R2) (ta tb tc : TE) : TE := fun σ H Q => ta σ H fun x H1 => tb σ H1 fun y H2 => r x y H2 fun z H3 => ∃ k, z = .bl k ∧
  (if k = true then tc σ H3 fun w' H4 => r' y w' H4 Q else Q (.bl false) H3)
def TruV (K : PySem.W.Frag) (x : V) (H : Hp) (k : Bool) : Prop :=
  match x with
  | .non => k = false
  | .bl b => k = b
  | .int i => k = (i != 0)
  | .str y => y.length ≤ sizeLine ∧ k = ((y.length : Int) != 0)
  | .byt y => y.size ≤ sizeLine ∧ k = ((y.size : Int) != 0)
  | .ref p => (∃ xs, SqL K H p xs ∧ k = !xs.isEmpty) ∨ (∃ xs, SqT K H p xs ∧ k = !xs.isEmpty) ∨ ∃ kvs, H p = some (.dK kvs) ∧ k = !kvs.isEmpty
  | _ => False
theorem line63 : (sizeLine : Nat) < 2 ^ 63 := by rw [sizeLine_eq]; decide
theorem vals1 {x : V} {us : List Value} (r : Vals [x] us) : ∃ u, us = [u] ∧ RelV x u := by
  cases r with
  | cons r1 r2 => cases r2; exact ⟨_, rfl, r1⟩
theorem call_abs : CallR X (.builtin "abs") (fun xs H Q => ∃ i, xs = [.int i] ∧ Q (.int (if i < 0 then -i else i)) H) := by
  intro pins s σ H xs us Q I r h
  obtain ⟨i, rfl, q⟩ := h
  obtain ⟨u, rfl, t, rfl⟩ := vals1 r
  exact call_abs_int fun u tk => ⟨.int (if i < 0 then -i else i), H, I.tok _, ⟨_, rfl⟩, q⟩
end
end L2
namespace L2
open PySem PySem.Spec PyProof.Rows
structure ObjM (h : Heap) (x dx C : Addr) (mA : Str → Option Value) : Prop where
  obj : h.get? x = some (PySem.W.instObj C dx)
  ns : h.Ns1 dx mA
  ne : dx ≠ x
theorem lookIn_ns {h : Heap} {dx : Addr} {mA : Str → Option Value} (n : h.Ns1 dx mA) : ∃ od, h.get? dx = some od ∧ ∀ name, PySem.W.lookIn name od = some (mA name) := by
  obtain ⟨o, es, ep, ho, hd, hk, _, hm⟩ := n
  refine ⟨o, ho, fun name => ?_⟩
  have e := hm name
  unfold nsFind findBy at e
  rw [← Array.find?_toList] at e
  unfold PySem.W.lookIn
  rw [hd]
  dsimp only
  split
  · rename_i y q
    rw [q] at e
    exact congrArg some e
  · rename_i q
    rw [q] at e
    have a : es.toList.any (·.refKey) = false := by
      rw [List.any_eq_false]
      intro y hy
      obtain ⟨z, t, hkey⟩ := hk y (Array.mem_toList_iff.mp hy)
      simp [DictEntry.refKey, hkey]
    have a' : ¬ es.toList.any (·.refKey) = true := by rw [a]; exact Bool.false_ne_true
    rw [if_neg a']
    exact congrArg some e
theorem ObjM.look {h : Heap} {x dx C : Addr} {mA : Str → Option Value} (I : ObjM h x dx C mA) : ∃ od, PySem.W.InstAt h x (PySem.W.instObj C dx) C (some od) ∧ ∀ name, PySem.W.lookIn name od = some (mA name) :=
  let ⟨od, ho, hl⟩ := lookIn_ns I.ns
  ⟨od, ⟨I.obj, rfl, rfl, ho⟩, hl⟩
section
variable {prog : Program} {w : World} {A : Around} {E : Value → Shared → Prop} {s : Shared} {K : PySem.W.Frag} {x dx C f : Addr} {mA : Str → Option Value} {name : Str} {v : Value}
theorem get_map {expr : Bool} {Q : Value → Shared → Prop} (X : K.In s.heap) (I : ObjM s.heap x dx C mA) (hg : PySem.W.plainGet K C name = true) (hh : PySem.W.hasDictIn K C = true)
    (ha : PySem.W.findIn K (.ref C) name = some none) (hv : mA name = some v) (hv' : PySem.W.handedIn v = true) (h : Q v { s with toks := s.toks + 1 }) :
    wpAny (model prog w) A (getAttr (.ref x) name expr) Q E s := by
  obtain ⟨od, J, hl⟩ := I.look
  exact PySem.W.get_value X J (PySem.W.plainGet_of hg).1 (PySem.W.findObj_own hh ha rfl (by rw [hl, hv])) hv' h
theorem get_meth {pl : Sem Bool} {Q : Value × List Value → Shared → Prop} (X : K.In s.heap) (I : ObjM s.heap x dx C mA) (hg : PySem.W.plainGet K C name = true)
    (hf : PySem.W.findIn K (.ref C) name = some (some (.ref f))) (ht : PySem.W.isFn K (.ref f) = true) (hv : mA name = none) (h : Q (.ref f, [.ref x]) s) :
    wpAny (model prog w) A (getMethod (.ref x) name pl) Q E s := by
  obtain ⟨od, J, hl⟩ := I.look
  exact PySem.W.method_fn X J (PySem.W.plainGet_of hg).1 (PySem.W.plainGet_of hg).2 hf (beq_iff_eq.mp ht) (by show (PySem.W.lookIn name od).map (·.isSome) = some false; rw [hl, hv]; rfl) h
theorem set_map {ns : List Str} {Q : Unit → Shared → Prop} (X : K.In s.heap) (I : ObjM s.heap x dx C mA)
    (hs : PySem.W.findIn K (.ref C) "__setattr__" = some (some (.builtin "object.__setattr__"))) (hp : PySem.W.plainOver K C = true) (ht : PySem.W.takerIn K C name = some none) (hh : PySem.W.hasDictIn K C = true)
    (hw : PySem.Within mA ns) (hsz : ns.length ≤ sizeLine)
    (h : ∀ h', ObjM h' x dx C (fun y => if y = name then some v else mA y) → Heap.SameBut dx s.heap h' → Q () { s with heap := h', toks := s.toks + 2 }) :
    wpAny (model prog w) A (setAttr (.ref x) name v) Q E s := by
  obtain ⟨od, J, hl⟩ := I.look
  refine PySem.W.set_plain X J hs (PySem.W.osa_open (s := { s with toks := s.toks + 1 }) (r := none) X J hp ht fun b => ?_)
  obtain ⟨cd, hc, hd'⟩ := PySem.W.any_some hh
  have hx : s.heap.get? x = some ⟨.ref C, some dx, .plain, #[]⟩ := I.obj
  refine wpAny_bind (wpAny_pure (wpAny_bind (wpAny_bind (wpAny_loadPart hx (wpAny_bind (PySem.W.Looks.here (s := { s with toks := s.toks + 1 }) (PySem.W.looks_clsIn X hc) ?_))))))
  rw [hd']
  refine wpAny_pure (a := some dx) (wpAny_bind (wpAny_pure (wpAny_bind ?_)))
  refine wpAny_nsSet1 (s := { s with toks := s.toks + 1 }) I.ns fun h' hn2 hs2 => ?_
  obtain ⟨oD, esD, epD, hoD, hdD, hcD⟩ := hn2.count (PySem.Within.cons name v hw)
  refine wpAny_bind (wpAny_lookBehind hoD (by rw [hdD]; exact pastItsLine_dict (Nat.le_trans hcD (by rw [List.length_cons]; omega))) ?_)
  exact wpAny_pure (h _ ⟨(hs2.2 _ (Ne.symm I.ne)).trans I.obj, hn2, I.ne⟩ hs2)
theorem make_map {R : Result → Shared → Prop} {vs : List Value} {kw : List (Str × Value)} (X : K.In s.heap) (hm : PySem.W.makesIn K C = true)
    (hi : PySem.W.findIn K (.ref C) "__init__" = some (some (.ref f))) (hf : PySem.W.typeIn K (.ref f) = some (.type "function"))
    (h : codeAny (model prog w) (A.under (.builtin "type.__call__" ⟨.ref C :: vs, kw⟩)) (.call (.ref f) ⟨.ref (s.heap.objs.size + 1) :: vs, kw⟩) (PySem.W.InitBack (s.heap.objs.size + 1) R)
      { s with heap := (s.heap.push PySem.W.emptyDict).push (PySem.W.instObj C s.heap.objs.size) }) :
    codeAny (model prog w) A (.call (.ref C) ⟨vs, kw⟩) R s := by
  obtain ⟨hh, g, d, t, os⟩ := s
  exact PySem.W.make_core (PySem.W.makes_of X hm) (PySem.W.looks_findIn X hi) (fun self => PySem.W.bind_fn X self hf) (.inl rfl) h
end
def putF (f : Str) (v : V) : List (Str × V) → List (Str × V)
  | [] => [(f, v)]
  | (g, x) :: r => if g = f then (g, v) :: r else (g, x) :: putF f v r
theorem lookup_putF (f g : Str) (v : V) : ∀ fs : List (Str × V), (putF f v fs).lookup g = if g = f then some v else fs.lookup g
  | [] => by
    show List.lookup g [(f, v)] = _
    by_cases h : g = f
    · have hb : (g == f) = true := beq_iff_eq.mpr h
      simp only [List.lookup, hb, if_pos h]
    · have hb : (g == f) = false := beq_eq_false_iff_ne.mpr h
      simp only [List.lookup, hb, if_neg h]
  | (k, x) :: r => by
    have ih := lookup_putF f g v r
    rw [show putF f v ((k, x) :: r) = (if k = f then (k, v) :: r else (k, x) :: putF f v r) from rfl]
    by_cases hk : k = f
    · rw [if_pos hk]
      by_cases h : g = k
      · have hb : (g == k) = true := beq_iff_eq.mpr h
        simp only [List.lookup, hb, if_pos (h.trans hk)]
      · have hb : (g == k) = false := beq_eq_false_iff_ne.mpr h
        simp only [List.lookup, hb, if_neg (fun e : g = f => h (e.trans hk.symm))]
    · rw [if_neg hk]
      by_cases h : g = k
      · have hb : (g == k) = true := beq_iff_eq.mpr h
        simp only [List.lookup, hb, if_neg (fun e : g = f => hk (h.symm.trans e))]
      · have hb : (g == k) = false := beq_eq_false_iff_ne.mpr h
        simp only [List.lookup, hb]
        exact ih
theorem keys_putF (f : Str) (v : V) : ∀ fs : List (Str × V), f ∈ (putF f v fs).map (·.1) ∧ ∀ g, g ∈ fs.map (·.1) → g ∈ (putF f v fs).map (·.1)
  | [] => ⟨by simp [putF], fun g h => by simp at h⟩
  | (k, x) :: r => by
    obtain ⟨i1, i2⟩ := keys_putF f v r
    rw [show putF f v ((k, x) :: r) = (if k = f then (k, v) :: r else (k, x) :: putF f v r) from rfl]
    by_cases hk : k = f
    · rw [if_pos hk]
      subst hk
      exact ⟨by simp, fun g h => by simpa using h⟩
    · rw [if_neg hk]
      refine ⟨?_, fun g h => ?_⟩
      · rw [List.map_cons]
        exact List.mem_cons_of_mem _ i1
      · rw [List.map_cons] at h ⊢
        rcases List.mem_cons.mp h with e | e
        · exact List.mem_cons.mpr (.inl e)
        · exact List.mem_cons_of_mem _ (i2 g e)
theorem length_putF (f : Str) (v : V) : ∀ fs : List (Str × V), (putF f v fs).length ≤ fs.length + 1
  | [] => by simp [putF]
  | (k, x) :: r => by
    have ih := length_putF f v r
    rw [show putF f v ((k, x) :: r) = (if k = f then (k, v) :: r else (k, x) :: putF f v r) from rfl]
    by_cases hk : k = f
    · rw [if_pos hk, List.length_cons, List.length_cons]; omega
    · rw [if_neg hk, List.length_cons, List.length_cons]; omega
theorem RelO.some_of {v : V} {o : Option Value} (r : RelO (some v) o) : ∃ u, o = some u ∧ RelV v u := by
  cases o with
  | none => exact (show False from r).elim
  | some u => exact ⟨u, rfl, r⟩
theorem RelO.none_of {o : Option Value} (r : RelO none o) : o = none := by
  cases o with
  | none => rfl
  | some u => exact (show False from r).elim
theorem handed_of {v : V} {u : Value} (r : RelV v u) : PySem.W.handedIn u = true := by
  cases v with
  | non => cases (show u = Value.none from r); rfl
  | bl b => cases (show u = Value.bool b from r); rfl
  | int i => obtain ⟨t, e⟩ := (show ∃ t, u = Value.int i t from r); cases e; rfl
  | str x => obtain ⟨t, e⟩ := (show ∃ t, u = Value.str x t from r); cases e; rfl
  | byt b => obtain ⟨t, e⟩ := (show ∃ t, u = Value.bytes b t from r); cases e; rfl
  | flt b => obtain ⟨t, e⟩ := (show ∃ t, u = Value.float b t from r); cases e; rfl
  | ref a => cases (show u = Value.ref a from r); rfl
  | ty n => cases (show u = Value.type n from r); rfl
section
variable {P : Program} {w : World} {H H' : Hp} {h h' : Heap} {a C dx : Addr} {fs fs' : List (Str × V)}
theorem ins_get (hok : HOk P w H h) (e : H a = some (.ins C dx fs)) : ∃ mA, ObjM h a dx C mA ∧ (∀ f, RelO (fs.lookup f) (mA f)) ∧ PySem.Within mA (fs.map (·.1)) ∧ fs.length ≤ 1000 ∧ H dx = some (.own a) := by
  obtain ⟨d, z, ne, ob, mA, n, r, q⟩ := (show ObjOk P w H h a (.ins C dx fs) from hok a _ e)
  exact ⟨mA, ⟨ob, n, ne⟩, r, q, z, d⟩
end
structure Cls (K : PySem.W.Frag) (C : Addr) : Prop where
  pg : PySem.W.plainGet K C Str.empty = true
  hd : PySem.W.hasDictIn K C = true
  po : PySem.W.plainOver K C = true
  sa : PySem.W.findIn K (.ref C) "__setattr__" = some (some (.builtin "object.__setattr__"))
theorem Cls.get {K : PySem.W.Frag} {C : Addr} (c : Cls K C) (f : Str) : PySem.W.plainGet K C f = true := c.pg
def NoAttr (K : PySem.W.Frag) (C : Addr) (f : Str) : Prop := PySem.W.findIn K (.ref C) f = some none
theorem NoAttr.taker {K : PySem.W.Frag} {C : Addr} {f : Str} (n : NoAttr K C f) : PySem.W.takerIn K C f = some none := by
  unfold PySem.W.takerIn
  rw [show PySem.W.findIn K (.ref C) f = some none from n]
  rfl
structure Meth (K : PySem.W.Frag) (C : Addr) (m : Str) (f : Addr) : Prop where
  at_ : PySem.W.findIn K (.ref C) m = some (some (.ref f))
  fn : PySem.W.isFn K (.ref f) = true
  kp : PySem.W.keepIn K (.ref f) = true
section
variable {X : Cx} {pins : List (Addr × Obj)} {σ : St} {H : Hp} {s : Shared} {a C dx : Addr} {fs : List (Str × V)} {f : Str} {v : V} {A : Around} {E : Value → Shared → Prop}
theorem getattr_ok {b : Bool} {Q : Value → Shared → Prop} (I : Inv X pins σ H s) (e : H a = some (.ins C dx fs)) (c : Cls X.K C) (n : NoAttr X.K C f) (l : fs.lookup f = some v)
    (h : ∀ u s', Inv X pins σ H s' → RelV v u → Q u s') : wpAny (model X.prog X.w) A (getAttr (.ref a) f b) Q E s := by
  obtain ⟨mA, O, r, _, _, _⟩ := ins_get I.hok e
  obtain ⟨u, hu, ru⟩ := RelO.some_of (v := v) (o := mA f) (by rw [← l]; exact r f)
  exact get_map I.kIn O (c.get f) c.hd n hu (handed_of ru) (h u _ (I.tok _) ru)
theorem getmeth_ok {m : Str} {g : Addr} {pl : Sem Bool} {Q : Value × List Value → Shared → Prop} (I : Inv X pins σ H s) (e : H a = some (.ins C dx fs)) (c : Cls X.K C) (k : Meth X.K C m g) (l : fs.lookup m = none)
    (h : Q (.ref g, [.ref a]) s) : wpAny (model X.prog X.w) A (getMethod (.ref a) m pl) Q E s := by
  obtain ⟨mA, O, r, _, _, _⟩ := ins_get I.hok e
  have hn : mA m = none := RelO.none_of (by rw [← l]; exact r m)
  exact get_meth I.kIn O (c.get m) k.at_ k.fn hn h
theorem setattr_ok {y : V} {u : Value} {Q : Unit → Shared → Prop} (I : Inv X pins σ H s) (e : H a = some (.ins C dx fs)) (c : Cls X.K C) (n : NoAttr X.K C f) (hl : fs.length < 1000) (ry : RelV y u)
    (h : ∀ s', Inv X pins σ (upd H a (.ins C dx (putF f y fs))) s' → Q () s') : wpAny (model X.prog X.w) A (setAttr (.ref a) f u) Q E s := by
  obtain ⟨mA, O, r, wi, _, ho⟩ := ins_get I.hok e
  have hz : (fs.map (·.1)).length ≤ sizeLine := by rw [List.length_map, sizeLine_eq]; omega
  refine set_map I.kIn O c.sa c.po n.taker c.hd wi hz fun h' O' sb => h _ ?_
  have hd : ∃ o, h'.get? dx = some o := let ⟨o, _, _, e', _⟩ := O'.ns; ⟨o, e'⟩
  refine I.write (x := a) (e := dx) (by rw [e]; exact True.intro) (.inr ho) (fun b q hb z => (sb.2 b hb).trans z) hd ?_
  refine ⟨by rw [upd_ne O.ne]; exact ho, ?_, O.ne, O'.obj, _, O'.ns, fun g => ?_, fun g hg => ?_⟩
  · have := length_putF f y fs; omega
  · show RelO ((putF f y fs).lookup g) (if g = f then some u else mA g)
    rw [lookup_putF]
    by_cases q : g = f
    · rw [if_pos q, if_pos q]; exact ry
    · rw [if_neg q, if_neg q]; exact r g
  · by_cases q : g = f
    · rw [q]; exact (keys_putF f y fs).1
    · refine (keys_putF f y fs).2 g (wi g fun z => hg ?_)
      show (if g = f then some u else mA g) = none
      rw [if_neg q]; exact z
theorem Inv.made (I : Inv X pins σ H s) : Inv X pins σ (upd (upd H s.heap.objs.size (.own (s.heap.objs.size + 1))) (s.heap.objs.size + 1) (.ins C s.heap.objs.size []))
    { s with heap := (s.heap.push PySem.W.emptyDict).push (PySem.W.instObj C s.heap.objs.size) } := by
  have e1 : (s.heap.push PySem.W.emptyDict).get? s.heap.objs.size = some PySem.W.emptyDict := Heap.get?_push_size s.heap rfl
  have e2 : ((s.heap.push PySem.W.emptyDict).push (PySem.W.instObj C s.heap.objs.size)).get? (s.heap.objs.size + 1) = some (PySem.W.instObj C s.heap.objs.size) := by
    have := Heap.get?_push_size (s.heap.push PySem.W.emptyDict) (o := PySem.W.instObj C s.heap.objs.size) rfl
    rwa [Heap.size_push] at this
  have e3 : (s.heap.push PySem.W.emptyDict).Ns s.heap.objs.size (fun _ => none) := ⟨PySem.W.emptyDict, #[], _, e1, rfl, (fun e he => absurd he (by simp)), fun _ => rfl⟩
  have I1 := I.laid (a := s.heap.objs.size) (o := .own (s.heap.objs.size + 1)) (h' := s.heap.push PySem.W.emptyDict) (t' := s.toks) (fun b u q => Heap.get?_push_of_some _ q) (Nat.le_refl _) ⟨_, e1⟩
  refine I1.laid (a := s.heap.objs.size + 1) (o := .ins C s.heap.objs.size []) (t' := s.toks) (fun b u q => Heap.get?_push_of_some _ q) (Nat.le_of_eq (Heap.size_push _ _)) ?_
  have ne : s.heap.objs.size ≠ s.heap.objs.size + 1 := Nat.ne_of_lt (Nat.lt_succ_self _)
  refine ⟨by rw [upd_ne ne, upd_same], Nat.zero_le _, ne, e2, fun _ => none, (Heap.Ns1.of_empty e3).at fun o q => Heap.get?_push_of_some _ q, fun _ => True.intro, fun y hy => absurd rfl hy⟩
theorem attr_of {prog : Program} {w : World} {env : Env} {e : Expr} {f : Str} {pos : Pos} {s : Shared} {Q : Value → Shared → Prop} (hb : attributeBase e f env (eval e env) = eval e env)
    (h : wpAny (model prog w) A (eval e env) (fun o s₁ => wpAny (model prog w) A (getAttr o f true) Q E s₁) E s) : wpAny (model prog w) A (eval (.Attribute e f pos) env) Q E s :=
  Attribute_any_ h (by rw [arm_eval_Attribute, hb])
end
def tFld (K : PySem.W.Frag) (ta : TE) (f : Str) : TE := fun σ H Q => ta σ H fun x H1 => ∃ a C dx fs v, x = .ref a ∧ H1 a = some (.ins C dx fs) ∧ Cls K C ∧ NoAttr K C f ∧ fs.lookup f = some v ∧ Q v H1
def sFld (K : PySem.W.Frag) (ta tv : TE) (f : Str) : TS := fun D σ H => tv σ H fun y H1 => ta σ H1 fun x H2 => ∃ a C dx fs, x = .ref a ∧ H2 a = some (.ins C dx fs) ∧ Cls K C ∧ NoAttr K C f ∧ fs.length < 1000 ∧
  D.nx σ (upd H2 a (.ins C dx (putF f y fs)))
section
variable {X : Cx} {o e value : Expr} {f : Str} {pos pos' tpos : Pos} {ta tv : TE}
theorem pe_fld (he : PE X e ta) (hb : attributeBase e f X.env (eval e X.env) = eval e X.env) : PE X (.Attribute e f pos) (tFld X.K ta f) := by
  intro pins s σ H Q I h
  refine attr_of hb (thn (he pins s σ H _ I h) fun u s1 ⟨x, H1, I1, rx, a, C, dx, fs, v, ex, ea, c, n, l, q⟩ => ?_)
  subst ex
  obtain rfl : u = Value.ref a := rx
  exact getattr_ok I1 ea c n l fun u' s2 I2 ru => ⟨v, H1, I2, ru, q⟩
theorem ps_fld (ha : PE X o ta) (hv : PE X value tv) (hs : swapsWith value (some (.Attribute o f pos')) pos.line X.env = pure false) : PS X (.Assign [.Attribute o f pos'] value pos) (sFld X.K ta tv f) := by
  intro pins s σ H D I h
  refine plainObj_wpAny_Assign_Attribute (thn (hv pins s σ H _ I h) fun u s1 ⟨y, H1, I1, ry, q⟩ => thn (ha pins s1 σ H1 _ I1 q) fun ov s2 ⟨x, H2, I2, rx, a, C, dx, fs, ex, ea, c, n, l, q2⟩ => ?_) hs
  subst ex
  obtain rfl : ov = Value.ref a := rx
  exact setattr_ok I2 ea c n l ry fun s3 I3 => ⟨σ, _, I3, q2⟩
end
section
variable {X : Cx} {pins : List (Addr × Obj)} {σ : St} {H : Hp} {s : Shared} {A : Around} {E : Value → Shared → Prop} {Q : Value → Shared → Prop} {c : Value} {b : Bool}
inductive TyOf (K : PySem.W.Frag) (H : Hp) : V → Value → Prop where
  | non : TyOf K H .non (.type "NoneType")
  | bl (x : Bool) : TyOf K H (.bl x) (.type "bool")
  | int (i : Int) : TyOf K H (.int i) (.type "int")
  | str (x : Str) : TyOf K H (.str x) (.type "str")
  | flt (x : UInt64) : TyOf K H (.flt x) (.type "float")
  | lst {a : Addr} {xs : List V} (e : H a = some (.lst xs)) : TyOf K H (.ref a) (.type "list")
  | frz {a : Addr} {o : Obj} {xs : List V} (e : H a = some (.frz o (.lst xs))) : TyOf K H (.ref a) (.type "list")
  | tup {a : Addr} {xs : List V} (e : H a = some (.tup xs)) : TyOf K H (.ref a) (.type "tuple")
  | dK {a : Addr} {kvs : List (Key × V)} (e : H a = some (.dK kvs)) : TyOf K H (.ref a) (.type "dict")
  | dT {a : Addr} {kvs : List (List Key × V)} (e : H a = some (.dT kvs)) : TyOf K H (.ref a) (.type "dict")
  | ins {a C dx : Addr} {fs : List (Str × V)} (e : H a = some (.ins C dx fs)) (cl : Cls K C) (ha : PySem.W.findIn K (.ref C) "__class__" = some (some (.builtin "object.__class__")))
      (hn : PySem.W.specialIn K (.builtin "object.__class__") "__get__" = some (some (.builtin "getset_descriptor.__get__"))) (htk : PySem.W.takesIn K (.builtin "object.__class__") = some true)
      (hm : PySem.W.mroIn K C (.type "object") = some true) : TyOf K H (.ref a) (.ref C)
theorem isinst_ok {x : V} {u t : Value} (I : Inv X pins σ H s) (rx : RelV x u) (ty : TyOf X.K H x t) (e : PySem.W.kitOne X.K t c = some b) (h : ∀ tk, Q (.bool b) { s with toks := tk }) :
    wpAny (model X.prog X.w) A (call (.builtin "isinstance") [u, c]) Q E s := by
  cases ty with
  | non => cases (show u = Value.none from rx); exact PySem.W.kia_one PySem.W.kitx_none I.kIn True.intro e (fun z => nomatch z) h
  | bl y => cases (show u = Value.bool y from rx); exact PySem.W.kia_one PySem.W.kitx_bool I.kIn True.intro e (fun z => nomatch z) h
  | int i => obtain ⟨t, q⟩ := (show ∃ t, u = Value.int i t from rx); cases q; exact PySem.W.kia_one PySem.W.kitx_int I.kIn True.intro e (fun z => nomatch z) h
  | str y => obtain ⟨t, q⟩ := (show ∃ t, u = Value.str y t from rx); cases q; exact PySem.W.kia_one PySem.W.kitx_str I.kIn True.intro e (fun z => nomatch z) h
  | flt y => obtain ⟨t, q⟩ := (show ∃ t, u = Value.float y t from rx); cases q; exact PySem.W.kia_one PySem.W.kitx_float I.kIn True.intro e (fun z => nomatch z) h
  | @lst a xs ea =>
    cases (show u = Value.ref a from rx)
    obtain ⟨_, _, n, _, h1⟩ := (show ObjOk X.prog X.w H s.heap a (.lst xs) from I.hok a _ ea)
    exact PySem.W.kia_one PySem.W.kitx_list I.kIn ⟨_, h1, rfl⟩ e (fun z => nomatch z) h
  | @frz a ob xs ea =>
    cases (show u = Value.ref a from rx)
    obtain ⟨_, _, _, n, _, h1⟩ := (show ObjOk X.prog X.w H s.heap a (.frz ob (.lst xs)) from I.hok a _ ea)
    exact PySem.W.kia_one PySem.W.kitx_list I.kIn ⟨_, h1, rfl⟩ e (fun z => nomatch z) h
  | @tup a xs ea =>
    cases (show u = Value.ref a from rx)
    obtain ⟨_, _, _, p⟩ := (show ObjOk X.prog X.w H s.heap a (.tup xs) from I.hok a _ ea)
    obtain ⟨o, h1, h2, _⟩ := p
    exact PySem.W.kia_one PySem.W.kitx_tuple I.kIn ⟨o, h1, h2⟩ e (fun z => nomatch z) h
  | @dK a kvs ea =>
    cases (show u = Value.ref a from rx)
    obtain ⟨_, _, vs, _, p⟩ := (show ObjOk X.prog X.w H s.heap a (.dK kvs) from I.hok a _ ea)
    obtain ⟨o, es, ep, h1, h2, _⟩ := p
    exact PySem.W.kia_one PySem.W.kitx_dict I.kIn ⟨o, h1, h2.1⟩ e (fun z => nomatch z) h
  | @dT a kvs ea =>
    cases (show u = Value.ref a from rx)
    obtain ⟨_, _, xs, _, o, es, ep, h1, h2, _⟩ := (show ObjOk X.prog X.w H s.heap a (.dT kvs) from I.hok a _ ea)
    exact PySem.W.kia_one PySem.W.kitx_dict I.kIn ⟨o, h1, h2.1⟩ e (fun z => nomatch z) h
  | @ins a C dx fs ea cl ha hn htk hm =>
    cases (show u = Value.ref a from rx)
    obtain ⟨mA, O, _⟩ := ins_get I.hok ea
    obtain ⟨od, J, _⟩ := O.look
    exact PySem.W.kia_one (PySem.W.kitx_own (cl.get _) cl.hd ha hn htk hm) I.kIn J e (fun z => nomatch z) h
end
end L2
namespace L2
open PySem PySem.Spec PyProof.Rows
structure Room (k : Nat) (A : Around) : Prop where
  hd : A.handled = none
  dp : A.depth + 3 * k + 5 < recursionLimit
  un : A.units + 16 * k + 200 < cLine
theorem Room.mono {j k : Nat} {A : Around} (r : Room k A) (h : j ≤ k) : Room j A := ⟨r.hd, by have := r.dp; omega, by have := r.un; omega⟩
theorem Room.deeper {k : Nat} {A : Around} (r : Room (k + 1) A) (env : Env) : Room k (A.deeper env) :=
  ⟨r.hd, by have := r.dp; show A.depth + 1 + 3 * k + 5 < _; omega, by have := r.un; show A.units + 3 + 16 * k + 200 < _; omega⟩
theorem Room.in1 {k : Nat} {A : Around} (r : Room (k + 1) A) : Room k A.in1 :=
  ⟨r.hd, by have := r.dp; show A.depth + 3 * k + 5 < _; omega, by have := r.un; show A.units + 1 + 16 * k + 200 < _; omega⟩
theorem make_depth {A : Around} {C : Addr} {us : List Value} {kw : List (Str × Value)} : (A.under (.builtin "type.__call__" ⟨.ref C :: us, kw⟩)).depth = A.depth + 1 := by
  first | rfl | simp [Around.under, Code.weight, Code.isCreation, Code.isGuard, Code.isCaller, Code.frames, Code.isFrame, guardIds]
theorem make_units {A : Around} {C : Addr} {us : List Value} {kw : List (Str × Value)} : (A.under (.builtin "type.__call__" ⟨.ref C :: us, kw⟩)).units = A.units + 1 := by
  first | rfl | simp [Around.under, Code.cUnits, Code.frames, Code.isFrame]
theorem Room.make {k : Nat} {A : Around} (r : Room (k + 1) A) (C : Addr) (us : List Value) (kw : List (Str × Value)) : Room k (A.under (.builtin "type.__call__" ⟨.ref C :: us, kw⟩)) :=
  ⟨r.hd, by have := r.dp; rw [make_depth]; omega, by have := r.un; rw [make_units]; omega⟩
theorem Room.depth {k : Nat} {A : Around} (r : Room k A) : A.depth < recursionLimit := by have := r.dp; omega
theorem Room.units {k : Nat} {A : Around} (r : Room k A) : A.units + 64 < cLine := by have := r.un; omega
def tNil : TA := fun _ H Q => Q [] H
def tCons (ta : TE) (tr : TA) : TA := fun σ H Q => ta σ H fun x H1 => tr σ H1 fun xs H2 => Q (x :: xs) H2
section
variable {X : Cx} {e : Expr} {es : List Expr} {te : TE} {t : TA} {pos : Pos}
theorem pa_nil : PA X [] tNil := fun _ _ _ _ H Q I h => Calls.spliced_nil ⟨[], H, I, .nil, h⟩
theorem pa_cons (ha : PE X e te) (hr : PA X es t) (hs : starEach (e :: es) X.env = (false, eval e X.env) :: starEach es X.env := by rfl) : PA X (e :: es) (tCons te t) := by
  intro pos pins s σ H Q I h
  rw [hs]
  show wpAny _ _ (spliced ((false, eval e X.env) :: backTo pos (starEach es X.env))) _ _ s
  refine Calls.spliced_cons (thn (ha pins s σ H _ I h) fun u s1 ⟨x, H1, I1, r1, q1⟩ => ?_)
  exact thn (hr pos pins s1 σ H1 _ I1 q1) fun us s2 ⟨xs, H2, I2, r2, q2⟩ => ⟨x :: xs, H2, I2, .cons r1 r2, q2⟩
def tTup (t : TA) : TE := fun σ H Q => t σ H fun xs H1 => xs.length ≤ sizeLine ∧ ∀ p, H1 p = none → Q (.ref p) (upd H1 p (.tup xs))
def tLst (t : TA) : TE := fun σ H Q => t σ H fun xs H1 => xs.length ≤ sizeLine ∧ ∀ p, H1 p = none → Q (.ref p) (upd H1 p (.lst xs))
theorem pe_tup {x1} (h : PA X es t) : PE X (.Tuple es x1 pos) (tTup t) := by
  intro pins s σ H Q I hq
  refine wpAny_Tuple_spliced (thn (h pos pins s σ H _ I hq) fun us s1 ⟨xs, H1, I1, r, z, q⟩ => ⟨by rw [← r.length]; exact z, ?_⟩)
  have hf : H1 s1.heap.objs.size = none := I1.hok.fresh (Nat.le_refl _)
  refine ⟨.ref s1.heap.objs.size, upd H1 s1.heap.objs.size (.tup xs), I1.laid (t' := s1.toks) (fun b u e => Heap.get?_push_of_some _ e) (Nat.le_refl _) ?_, rfl, q _ hf⟩
  exact ⟨z, us, r, ⟨_, Heap.get?_push_size _ rfl, rfl, _, rfl⟩⟩
theorem pe_lst (h : PA X es t) : PE X (.List es pos) (tLst t) := by
  intro pins s σ H Q I hq
  refine wpAny_List_spliced (thn (h pos pins s σ H _ I hq) fun us s1 ⟨xs, H1, I1, r, z, q⟩ => ⟨by rw [← r.length]; exact z, ?_⟩)
  have hf : H1 s1.heap.objs.size = none := I1.hok.fresh (Nat.le_refl _)
  refine ⟨.ref s1.heap.objs.size, upd H1 s1.heap.objs.size (.lst xs), I1.laid (t' := s1.toks) (fun b u e => Heap.get?_push_of_some _ e) (Nat.le_refl _) ?_, rfl, q _ hf⟩
  exact ⟨z, us, 0, r, Heap.get?_push_size _ rfl⟩
end
abbrev Sp := List V → Hp → VK → XK → Prop
abbrev CXT := List Env → Hp → Shared → XK → Value → Shared → Prop
structure Env0 (P : Program) (w : World) (K : PySem.W.Frag) (mg : Str → Option Value) (base : Heap) (A : Around) (outer : List Env) (s : Shared) (H : Hp) : Prop where
  frames : A.frames = some outer
  mod : Mod K mg base
  bs : ∀ b o, base.get? b = some o → s.heap.get? b = some o ∧ H b = none
  bsz : base.objs.size ≤ s.heap.objs.size
  funs : s.heap.FunFrames base outer
  frf : ∀ b ∈ frs outer, H b = none
  hok : HOk P w H s.heap
  bare : AllBare s.gens
def CE (outer : List Env) (P : Program) (w : World) (H : Hp) (s : Shared) (Q : VK) (u : Value) (s' : Shared) : Prop :=
  ∃ v H', s'.os = s.os ∧ AllBare s'.gens ∧ Un (frs outer) [] H H' s.heap s'.heap ∧ HOk P w H' s'.heap ∧ RelV v u ∧ Q v H'
def CR (CX : CXT) (outer : List Env) (P : Program) (w : World) (H : Hp) (s : Shared) (Q : VK) (E : XK) (r : Result) (s' : Shared) : Prop :=
  match r with
  | .ok (.ret u) => CE outer P w H s Q u s'
  | .ok _ => False
  | .error e => CX outer H s E e s'
structure FnOk (P : Program) (w : World) (K : PySem.W.Frag) (mg : Str → Option Value) (base : Heap) (CX : CXT) (k : Nat) (f : Addr) (fd : FuncData) (ps : List Str) (sp : Sp) : Prop where
  len : ∀ vs H Q E, sp vs H Q E → vs.length = ps.length
  run : ∀ (A : Around) (outer : List Env) (s : Shared) (H : Hp) (args : Args) (us : List Value) (vs : List V) (Q : VK) (E : XK), Room k A → Env0 P w K mg base A outer s H → BindsTo s fd args (ps.zip us) → Vals vs us → sp vs H Q E →
    codeAny (model P w) A (.call (.ref f) args) (CR CX outer P w H s Q E) s
theorem FnOk.mono {P : Program} {w : World} {K : PySem.W.Frag} {mg : Str → Option Value} {base : Heap} {CX : CXT} {j k : Nat} {f : Addr} {fd : FuncData} {ps : List Str} {sp : Sp} (F : FnOk P w K mg base CX j f fd ps sp) (h : j ≤ k) :
    FnOk P w K mg base CX k f fd ps sp := ⟨F.len, fun A outer s H args us vs Q E hr => F.run A outer s H args us vs Q E (hr.mono h)⟩
theorem Env0.make {P : Program} {w : World} {K : PySem.W.Frag} {mg : Str → Option Value} {base : Heap} {A : Around} {outer : List Env} {s : Shared} {H : Hp} (e : Env0 P w K mg base A outer s H) (C : Addr) (us : List Value) (kw : List (Str × Value)) :
    Env0 P w K mg base (A.under (.builtin "type.__call__" ⟨.ref C :: us, kw⟩)) outer s H := ⟨by first | exact e.frames | (simpa [Around.under, Code.envs, Code.isFrame, pushEnvs] using e.frames), e.mod, e.bs, e.bsz, e.funs, e.frf, e.hok, e.bare⟩
theorem Env0.in1 {P : Program} {w : World} {K : PySem.W.Frag} {mg : Str → Option Value} {base : Heap} {A : Around} {outer : List Env} {s : Shared} {H : Hp} (e : Env0 P w K mg base A outer s H) :
    Env0 P w K mg base A.in1 outer s H := ⟨e.frames, e.mod, e.bs, e.bsz, e.funs, e.frf, e.hok, e.bare⟩
section
variable {X : Cx} {pins : List (Addr × Obj)} {σ : St} {H : Hp} {s s' : Shared}
theorem Inv.env0 (I : Inv X pins σ H s) : Env0 X.prog X.w X.K X.mg X.base X.A X.stack s H :=
  ⟨I.ok.frames, I.ok.mod, I.bs, Nat.le_trans I.ok.bsz I.sz, I.stack, I.stkFree, I.hok, I.bare⟩
theorem Inv.after {Q : VK} {u : Value} (I : Inv X pins σ H s) (h : CE X.stack X.prog X.w H s Q u s') : EP X pins σ Q u s' := by
  obtain ⟨v, H', os, bare, un, hok, r, q⟩ := h
  obtain ⟨hh, g, d, t, os'⟩ := s'
  obtain rfl : os' = s.os := os
  exact ⟨v, H', I.call (h' := hh) (g' := g) (d' := d) (t' := t) (ch := []) un hok bare (fun b z => absurd z (by simp)), r, q⟩
end
def tCall (sp : Sp) (dvs : List V) (E : XK) (t : TA) : TE := fun σ H Q => t σ H fun vs H1 => sp (vs ++ dvs) H1 Q E
def Binds (K : PySem.W.Frag) (fd : FuncData) (ps : List Str) (ds : List Value) : Prop :=
  ∀ (s : Shared) (us : List Value), K.In s.heap → (us ++ ds).length = ps.length → BindsTo s fd ⟨us, []⟩ (ps.zip (us ++ ds))
theorem Binds.all {K : PySem.W.Frag} {fd : FuncData} {ps : List Str} (h : ∀ us : List Value, us.length = ps.length → bindArgs fd ⟨us, []⟩ = pure (ps.zip us)) : Binds K fd ps [] := fun s us _ hl => by
  rw [List.append_nil] at hl ⊢
  exact .of_eq (h us hl)
section
variable {X : Cx} {CX : CXT} {k : Nat} {f C : Addr} {fd : FuncData} {ps : List Str} {sp : Sp} {dvs : List V} {ds : List Value} {E : XK} {x m : Str} {p pos apos : Pos} {e o : Expr} {es : List Expr} {ta : TE} {t : TA}
structure Mk (K : PySem.W.Frag) (C f : Addr) : Prop where
  makes : PySem.W.makesIn K C = true
  init : PySem.W.findIn K (.ref C) "__init__" = some (some (.ref f))
  fn : PySem.W.isFn K (.ref f) = true
  kp : PySem.W.keepIn K (.ref C) = true
end
section
variable {X : Cx} {CX : CXT} {k : Nat} {f C : Addr} {fd : FuncData} {ps ks : List Str} {sp : Sp} {E : XK} {x m : Str} {p pos apos kpos : Pos} {e o : Expr} {es : List Expr} {kws : List Keyword} {te ta : TE} {t tk : TA} {nm : Option Str}
variable {g : List Value → List Value → List Value} {gV : List V → List V → List V}
end
structure FnScope (N P : List Str) (sc : Scope) : Prop where
  kind : sc.kind = .function
  co : sc.isCoroutine = false
  gen : sc.isGenerator = false
  nd : N.Nodup
  pre : N.take P.length = P
  par : ∀ x ∈ P, sc.names.lookup x = some .local ∨ sc.names.lookup x = some .cell
  nofree : ∀ y ∈ sc.names, y.2 ≠ .free
theorem bindL_out {kindOf : Str → Option NameKind} {x : Str} : ∀ {binds : List (Str × Value)} {m : Str → Option Value}, (∀ v, (x, v) ∉ binds) → bindL kindOf binds m x = m x
  | [], _, _ => rfl
  | (n, v) :: r, m, h => by
    unfold bindL
    rw [bindL_out fun w hw => h w (List.mem_cons_of_mem _ hw)]
    split
    · have : x ≠ n := by rintro rfl; exact h v List.mem_cons_self
      simp [this]
    · rfl
theorem bindC_out {kindOf : Str → Option NameKind} {x : Str} : ∀ {binds : List (Str × Value)} {m : Str → Option Value}, (∀ v, (x, v) ∉ binds) → bindC kindOf binds m x = m x
  | [], _, _ => rfl
  | (n, v) :: r, m, h => by
    unfold bindC
    rw [bindC_out fun w hw => h w (List.mem_cons_of_mem _ hw)]
    split
    · rfl
    · have : x ≠ n := by rintro rfl; exact h v List.mem_cons_self
      simp [this]
theorem bindL_get {kindOf : Str → Option NameKind} {x : Str} {v : Value} : ∀ {P : List Str} {vs : List Value} {i : Nat} {m : Str → Option Value}, P.Nodup → P[i]? = some x → vs[i]? = some v → kindOf x = some .local →
    bindL kindOf (P.zip vs) m x = some v
  | [], _, _, _, _, h, _, _ => by simp at h
  | _ :: _, [], _, _, _, _, h, _ => by simp at h
  | p :: P, w :: vs, 0, m, nd, h1, h2, hk => by
    simp at h1 h2; subst h1; subst h2
    show bindL kindOf ((p, w) :: P.zip vs) m p = _
    unfold bindL
    rw [bindL_out fun v hv => (List.nodup_cons.mp nd).1 (List.of_mem_zip hv).1, if_pos hk]
    simp
  | p :: P, w :: vs, i + 1, m, nd, h1, h2, hk => by
    show bindL kindOf ((p, w) :: P.zip vs) m x = _
    unfold bindL
    exact bindL_get (i := i) (List.nodup_cons.mp nd).2 (by simpa using h1) (by simpa using h2) hk
theorem bindC_get {kindOf : Str → Option NameKind} {x : Str} {v : Value} : ∀ {P : List Str} {vs : List Value} {i : Nat} {m : Str → Option Value}, P.Nodup → P[i]? = some x → vs[i]? = some v → kindOf x ≠ some .local →
    bindC kindOf (P.zip vs) m x = some v
  | [], _, _, _, _, h, _, _ => by simp at h
  | _ :: _, [], _, _, _, _, h, _ => by simp at h
  | p :: P, w :: vs, 0, m, nd, h1, h2, hk => by
    simp at h1 h2; subst h1; subst h2
    show bindC kindOf ((p, w) :: P.zip vs) m p = _
    unfold bindC
    rw [bindC_out fun v hv => (List.nodup_cons.mp nd).1 (List.of_mem_zip hv).1, if_neg hk]
    simp
  | p :: P, w :: vs, i + 1, m, nd, h1, h2, hk => by
    show bindC kindOf ((p, w) :: P.zip vs) m x = _
    unfold bindC
    exact bindC_get (i := i) (List.nodup_cons.mp nd).2 (by simpa using h1) (by simpa using h2) hk
def start (N : List Str) (vs : List V) : St := vs.map some ++ List.replicate (N.length - vs.length) none
def cxOf (CX : CXT) (P : Program) (w : World) (K : PySem.W.Frag) (mg : Str → Option Value) (base : Heap) (N : List Str) (qual : Str) (scope : Scope) (f : Addr) (cd : Value) (A : Around) (outer : List Env) (s : Shared) (H : Hp) (E : XK) : Cx where
  prog := P
  w := w
  K := K
  mg := mg
  base := base
  A := A.deeper (envOfC qual scope s.heap.objs.size f cd)
  N := N
  s₀ := s
  H₀ := H
  env := envOfC qual scope s.heap.objs.size f cd
  outer := outer
  stack := envOfC qual scope s.heap.objs.size f cd :: outer
  ex := []
  calm := true
  fn := fun _ => true
  pn := []
  xe := fun e s' => wpAny (model P w) (A.deeper (envOfC qual scope s.heap.objs.size f cd)) (leaving (envOfC qual scope s.heap.objs.size f cd) e) (fun _ s'' => CX outer H s E e s'') (fun e' s'' => CX outer H s E e' s'') s'
theorem cell_has {sc : Scope} {n : Nat} {x : Str} (h : sc.names.lookup x = some .cell) : ∃ c, (cellsFrom n sc.names []).lookup x = some c := by
  have q := PySem.W.cellsFrom_some sc.names n [] (.inl h)
  exact Option.isSome_iff_exists.mp q
theorem inv_start {CX : CXT} {P : Program} {w : World} {K : PySem.W.Frag} {mg : Str → Option Value} {base : Heap} {N ps : List Str} {qual : Str} {scope : Scope} {f : Addr} {cd : Value} {A : Around} {outer : List Env} {s s1 : Shared} {H : Hp} {E : XK} {us : List Value} {vs : List V}
    (S : FnScope N ps scope) (hd : A.handled = none) (e0 : Env0 P w K mg base A outer s H) (hl : vs.length = ps.length) (r : Vals vs us)
    (x : InCallC s s.heap.objs.size (bindL (envOfC qual scope s.heap.objs.size f cd).kindOf (ps.zip us) fun _ => none) (cellsFrom (s.heap.objs.size + 1) scope.names []) (bindC (envOfC qual scope s.heap.objs.size f cd).kindOf (ps.zip us) fun _ => none) s1) :
    Inv (cxOf CX P w K mg base N qual scope f cd A outer s H E) [] (start N vs) H s1 := by
  have hpl : ps.length ≤ N.length := by have := congrArg List.length S.pre; rw [List.length_take] at this; omega
  obtain ⟨h1, tk, rfl, hk⟩ := x.done
  have noA : ∀ b : Addr, b ∉ (cxOf CX P w K mg base N qual scope f cd A outer s H E).ex := fun b z => absurd (show b ∈ ([] : List Addr) from z) (by simp)
  refine ⟨⟨e0.mod, S.kind, rfl, rfl, Nat.le_refl _, fun y z c h1 h2 => ?_, fun y hy => ?_, fun y c _ h => ?_, fun _ => hd, Around.frames_deeper e0.frames, .inr ⟨rfl, rfl⟩, fun b z => absurd z (noA b), e0.bs, e0.bsz, fun b _ _ => noA b, fun b z => absurd z (noA b), e0.funs, e0.frf⟩,
    rfl, e0.bare, Un.kept hk, ⟨_, x.toInCall.ns, fun i y v h1 h2 h3 => ?_⟩, fun y c h => ⟨_, x.cell y c h⟩, e0.hok.fresh (Nat.le_refl _), fun y c h => ?_, fun p hp => absurd (show p ∈ ([] : List (Addr × Obj)) from hp) (by simp), e0.hok.kept hk, ?_⟩
  · exact name_of_addr x.apart (PySem.mem_of_lookup h1) (PySem.mem_of_lookup h2)
  · have hy : scope.names.lookup y = some .cell ∨ scope.names.lookup y = some .free := hy
    rcases hy with hy | hy
    · exact cell_has hy
    · exact absurd rfl (S.nofree _ (PySem.mem_of_lookup hy))
  · exact Nat.le_of_lt (x.above y c (PySem.mem_of_lookup h))
  · have hi : i < vs.length := by
      unfold start at h2
      by_cases hi : i < vs.length
      · exact hi
      · rw [List.getElem?_append_right (by simpa using hi)] at h2
        rw [List.getElem?_replicate] at h2
        split at h2 <;> cases h2
    have ha : vs[i]? = some v := by
      unfold start at h2
      rw [List.getElem?_append_left (by simpa using hi), List.getElem?_map] at h2
      cases e : vs[i]? with
      | none => rw [e] at h2; cases h2
      | some a => rw [e] at h2; cases h2; rfl
    obtain ⟨u, hu, rv⟩ := r.get ha
    have hp : ps[i]? = some y := by
      rw [← S.pre, List.getElem?_take_of_lt (by omega)]; exact h1
    have ndP : ps.Nodup := by rw [← S.pre]; exact S.nd.sublist (List.take_sublist _ _)
    refine ⟨u, rv, ?_⟩
    rcases S.par y (List.mem_of_getElem? hp) with k | k
    · exact .inl ⟨k, bindL_get ndP hp hu k⟩
    · obtain ⟨c, e⟩ := cell_has (n := s.heap.objs.size + 1) k
      refine .inr ⟨.inl k, c, e, ?_⟩
      have q := x.cell y c e
      rw [bindC_get ndP hp hu (by show scope.names.lookup y ≠ _; rw [k]; decide)] at q
      exact q
  · exact e0.hok.fresh (Nat.le_of_lt (x.above y c (PySem.mem_of_lookup h)))
  · unfold start
    show _ = N.length
    rw [List.length_append, List.length_map, List.length_replicate]
    omega
theorem fn_of {CX : CXT} {P : Program} {w : World} {K : PySem.W.Frag} {mg : Str → Option Value} {base : Heap} {k : Nat} {f : Addr} {name qual : Str} {params : Arguments} {body : List Stmt} {scope : Scope} {dV kV doc pm cdv ct oc : Value} {an od : Option Addr}
    {osl : Array (Option Value)} {N ps : List Str} {sp : Sp} (lk : K.lookup f = some ⟨oc, od, .func (PySem.W.fnOf name qual params body scope dV kV doc pm an cdv ct), osl⟩) (hcd : PySem.W.codeIn K cdv qual = true) (S : FnScope N ps scope)
    (len : ∀ vs H Q E, sp vs H Q E → vs.length = ps.length)
    (hbody : ∀ (A : Around) (outer : List Env) (s : Shared) (H : Hp) (vs : List V) (Q : VK) (E : XK), Room k (A.deeper (envOfC qual scope s.heap.objs.size f cdv)) → sp vs H Q E →
      ∃ t, PSs (cxOf CX P w K mg base N qual scope f cdv A outer s H E) body t ∧ t { nx := fun _ H' => Q .non H', rt := Q } (start N vs) H) :
    FnOk P w K mg base CX (k + 1) f (PySem.W.fnOf name qual params body scope dV kV doc pm an cdv ct) ps sp := by
  refine ⟨len, fun A outer s H args us vs Q E hr e0 hb r hsp => ?_⟩
  have hl := len _ _ _ _ hsp
  have KX : K.In s.heap := e0.mod.kin.keeps fun b o e => (e0.bs b o e).1
  have lim : s.heap.NoLimit := e0.mod.nolimit.keeps fun b o e => (e0.bs b o e).1
  have hkind : ∀ y ∈ ps.zip us, scope.names.lookup y.1 = some .local ∨ (scope.names.lookup y.1 = some .cell ∧ ((cellsFrom (s.heap.objs.size + 1) scope.names []).lookup y.1).isSome = true) := fun ⟨n, v⟩ hy => by
    rcases S.par n (List.of_mem_zip hy).1 with q | q
    · exact .inl q
    · exact .inr ⟨q, PySem.W.cellsFrom_some _ _ _ (.inl q)⟩
  refine codeAny_call_function hr.depth (KX _ _ lk) rfl S.co S.gen rfl (PySem.W.codeRec_of KX hcd) (hb _ _ _ _ ?_)
  refine wpAny_newFunctionEnv_cells S.kind hkind fun env he s1 x => ?_
  subst he
  refine ⟨lim.keeps x.toInCall.keep, codeAny_func ?_⟩
  obtain ⟨t, ht, hq⟩ := hbody A outer s H vs Q E (hr.deeper _) hsp
  have I : Inv (cxOf CX P w K mg base N qual scope f cdv A outer s H E) [] (start N vs) H s1 := inv_start S hr.hd e0 hl r x
  refine wpAny_mono (ht [] s1 (start N vs) H _ I hq) (fun fl s' hs => ?_) fun e s' hs => hs
  have fin : ∀ {σ' : St} {H' : Hp} {v : V} {u : Value}, Inv (cxOf CX P w K mg base N qual scope f cdv A outer s H E) [] σ' H' s' → RelV v u → Q v H' → CE outer P w H s Q u s' :=
    fun {σ' H' v u} J rv q => ⟨v, H', J.os, J.bare, J.base, J.hok, rv, q⟩
  cases fl with
  | ret u =>
    obtain ⟨v, σ', H', J, rv, q⟩ := hs
    exact fin J rv q
  | next =>
    obtain ⟨σ', H', J, q⟩ := hs
    exact fin (v := V.non) (u := Value.none) J rfl q
  | brk =>
    obtain ⟨_, _, _, q⟩ := hs
    exact False.elim q
  | cont =>
    obtain ⟨_, _, _, q⟩ := hs
    exact False.elim q
end L2
namespace L2
open PySem PySem.Spec PyProof.Rows
section
variable {X : Cx} {x : Str} {p pos : Pos} {e : Expr} {es : List Expr} {t : TA} {id T : String} {r : List V → Hp → VK → Prop}
def tCB (r : List V → Hp → VK → Prop) (t : TA) : TE := fun σ H Q => t σ H fun vs H1 => r vs H1 Q
theorem pe_callB (hc : CallR X (.builtin id) r) (hg : Gl X x) (hm : X.mg x = none) (hv : bootBuiltins x = some (.builtin id)) (ha : PA X (e :: es) t) (hn : x ≠ "__name__" := by decide) (hdb : (x == ("__debug__" : Str)) = false := by decide)
    (he : starEach (e :: es) X.env = (false, eval e X.env) :: starEach es X.env := by rfl) (hpl : (backTo pos (starEach es X.env)).any (·.1) = false := by rfl) : PE X (.Call (.Name x p) (e :: es) [] pos) (tCB r t) := by
  intro pins s σ H Q I h
  refine wpAny_Call_Name_kw (ld_blt I hg hm hv ?_ hn hdb)
  exact PyProof.Rows.callWith_builtin1 (thn (ha pos pins s σ H _ I h) fun us s1 ⟨vs, H1, I1, r1, q1⟩ => hc pins s1 σ H1 vs us Q I1 r1 q1) he hpl
theorem pe_callTy (hc : CallR X (.type T) r) (hg : Gl X x) (hm : X.mg x = none) (hv : bootBuiltins x = some (.type T)) (ha : PA X (e :: es) t) (hn : x ≠ "__name__" := by decide) (hdb : (x == ("__debug__" : Str)) = false := by decide)
    (he : starEach (e :: es) X.env = (false, eval e X.env) :: starEach es X.env := by rfl) (hpl : (backTo pos (starEach es X.env)).any (·.1) = false := by rfl) : PE X (.Call (.Name x p) (e :: es) [] pos) (tCB r t) := by
  intro pins s σ H Q I h
  refine wpAny_Call_Name_kw (ld_blt I hg hm hv ?_ hn hdb)
  exact PyProof.Rows.callWith_type1 (thn (ha pos pins s σ H _ I h) fun us s1 ⟨vs, H1, I1, r1, q1⟩ => hc pins s1 σ H1 vs us Q I1 r1 q1) he hpl
end
end L2
namespace HT
open PySem PyProof.Rows
section
open PySem.SeqAt
open PySem.AutoSeq1 (wpAny_loadPart')
open PySem.MeetsSeq PySem.MeetsSeq2 PySem.MeetsSeq3
end
section
variable {prog : Program} {w : World} {A : Around} {E : Value → Shared → Prop} {s : Shared}
def sIx (n d : Nat) : Option Int → Nat
  | none => d
  | some v => if v < 0 then (v + (n : Int)).toNat else min v.toNat n
theorem sIx_none (n d : Nat) : sIx n d none = d := rfl
theorem sIx_nat (n d k : Nat) : sIx n d (some (k : Int)) = min k n := by
  show (if (k : Int) < 0 then ((k : Int) + (n : Int)).toNat else min (k : Int).toNat n) = min k n
  rw [if_neg (by omega), Int.toNat_natCast]
end
end HT
namespace L2
open PySem PySem.Spec PyProof.Rows
abbrev TO := St → Hp → (Option Int → Hp → Prop) → Prop
def PO (X : Cx) (e : Option Expr) (t : TO) : Prop :=
  ∀ (pins : List (Addr × Obj)) (s : Shared) (σ : St) (H : Hp) (Q : Option Int → Hp → Prop), Inv X pins σ H s → t σ H Q →
    wpAny (model X.prog X.w) X.A (evalPart e X.env) (fun u s' => ∃ o H', Inv X pins σ H' s' ∧ IsPart u o ∧ Q o H') X.xe s
def tNoPart : TO := fun _ H Q => Q none H
def tPart (t : TE) : TO := fun σ H Q => t σ H fun x H1 => ∃ i, x = .int i ∧ Q (some i) H1
section
variable {X : Cx} {e : Expr} {te : TE} {lo hi : Option Expr} {tl th : TO} {pos p2 : Pos}
theorem po_none : PO X none tNoPart := by
  intro pins s σ H Q I h
  rw [evalPart_none]
  exact wpAny_pure ⟨none, H, I, .none, h⟩
theorem po_some (h : PE X e te) : PO X (some e) (tPart te) := by
  intro pins s σ H Q I hw
  rw [evalPart_some]
  refine thn (h pins s σ H _ I hw) fun u s1 ⟨x, H1, I1, r1, q1⟩ => ?_
  obtain ⟨i, rfl, q⟩ := q1
  obtain ⟨t, rfl⟩ := r1
  exact ⟨some i, H1, I1, .int i t, q⟩
def SlR (X : Cx) (r : V → Option Int → Option Int → Hp → VK → Prop) : Prop :=
  ∀ (pins : List (Addr × Obj)) (s : Shared) (σ : St) (H : Hp) (x : V) (v vl vu : Value) (lo hi : Option Int) (sl : Addr) (Q : VK), Inv X pins σ H s → RelV x v → s.heap.IsSliceOf sl vl vu .none → IsPart vl lo → IsPart vu hi → r x lo hi H Q →
    ∃ T id, typeLookup (.type T) "__getitem__" = pure (some (.builtin id)) ∧ s.TypeIs v T ∧ wpAny (model X.prog X.w) X.A (getItem v (.ref sl)) (EP X pins σ Q) X.xe s
def tSl (r : V → Option Int → Option Int → Hp → VK → Prop) (te : TE) (tl th : TO) : TE := fun σ H Q => te σ H fun x H1 => tl σ H1 fun l H2 => th σ H2 fun u H3 => r x l u H3 Q
theorem pe_slice {r : V → Option Int → Option Int → Hp → VK → Prop} (hr : SlR X r) (he : PE X e te) (hl : PO X lo tl) (hu : PO X hi th) : PE X (.Subscript e (.Slice lo hi none p2) pos) (tSl r te tl th) := by
  intro pins s σ H Q I h
  refine Subscript_ (thn (he pins s σ H _ I h) fun v s1 ⟨x, H1, I1, r1, q1⟩ => ?_)
  refine wpAny_Slice (thn (hl pins s1 σ H1 _ I1 q1) fun vl s2 ⟨l, H2, I2, pl, q2⟩ => thn (hu pins s2 σ H2 _ I2 q2) fun vu s3 ⟨u, H3, I3, pu, q3⟩ => ?_)
  rw [evalPart_none]
  refine wpAny_pure ?_
  have I4 : Inv X pins σ H3 { s3 with heap := s3.heap.push { cls := .type "slice", data := .fields #[vl, vu, .none] } } := I3.kept (t' := s3.toks) fun b ob q => Heap.get?_push_of_some _ q
  obtain ⟨T, id, hT, ht, hg⟩ := hr pins { s3 with heap := s3.heap.push { cls := .type "slice", data := .fields #[vl, vu, .none] } } σ H3 x v vl vu l u s3.heap.objs.size Q I4 r1 (Heap.IsSliceOf.new ..) pl pu q3
  show wpAny (model X.prog X.w) X.A (subscriptTail e (.Slice lo hi none p2) v (.ref s3.heap.objs.size)) (EP X pins σ Q) X.xe { s3 with heap := s3.heap.push { cls := .type "slice", data := .fields #[vl, vu, .none] } }
  exact tail_any (ops := [.ref s3.heap.objs.size, v]) ht hT hg (by with_unfolding_all rfl)
def cutV (xs : List V) (lo hi : Option Int) : List V := (xs.drop (HT.sIx xs.length 0 lo)).take (HT.sIx xs.length xs.length hi - HT.sIx xs.length 0 lo)
theorem cutV_length (xs : List V) (lo hi : Option Int) : (cutV xs lo hi).length ≤ xs.length := by
  unfold cutV
  rw [List.length_take, List.length_drop]
  omega
end
end L2
namespace L2
open PySem PySem.Spec PyProof.Rows
def ixN (n : Nat) (i : Int) : Option Nat := if 0 ≤ i then (if i < n then some i.toNat else none) else if -(n : Int) ≤ i then some (i + n).toNat else none
def atI {α : Type} (xs : List α) (i : Int) : Option α := (ixN xs.length i).bind fun j => xs[j]?
theorem ixN_seq {n : Nat} {i : Int} {j : Nat} (h : ixN n i = some j) : seqIndex? i n = some j ∧ j < n ∧ -(n : Int) ≤ i ∧ i < n := by
  unfold ixN at h
  by_cases h0 : 0 ≤ i
  · rw [if_pos h0] at h
    by_cases h1 : i < n
    · rw [if_pos h1] at h
      have e : i.toNat = j := Option.some.inj h
      exact ⟨by rw [seqIndex_of h0 h1, e], by omega, by omega, h1⟩
    · rw [if_neg h1] at h; cases h
  · rw [if_neg h0] at h
    by_cases h1 : -(n : Int) ≤ i
    · rw [if_pos h1] at h
      have e : (i + n).toNat = j := Option.some.inj h
      exact ⟨by rw [seqIndex_neg (by omega) h1, e], by omega, h1, by omega⟩
    · rw [if_neg h1] at h; cases h
theorem atI_get {α : Type} {xs : List α} {i : Int} {v : α} (h : atI xs i = some v) : ∃ j, seqIndex? i xs.length = some j ∧ xs[j]? = some v ∧ j < xs.length ∧ -(xs.length : Int) ≤ i ∧ i < xs.length := by
  unfold atI at h
  cases e : ixN xs.length i with
  | none => rw [e] at h; cases h
  | some j =>
    rw [e] at h
    obtain ⟨h1, h2, h3, h4⟩ := ixN_seq e
    exact ⟨j, h1, h, h2, h3, h4⟩
theorem atI_nat {α : Type} {xs : List α} {j : Nat} {v : α} (h : xs[j]? = some v) : atI xs (j : Int) = some v := by
  have hj : j < xs.length := (List.getElem?_eq_some_iff.mp h).1
  have e : ixN xs.length (j : Int) = some j := by
    unfold ixN
    rw [if_pos (by omega), if_pos (by omega)]; simp
  unfold atI; rw [e]; exact h
def PlainIx (b : Expr) : Prop := ∀ o i, subscripted b false o i = operate [o, i] (getItem o i)
def IxR (X : Cx) (r : R2) : Prop :=
  ∀ (value slice : Expr) (pins : List (Addr × Obj)) (s : Shared) (σ : St) (H : Hp) (x y : V) (v u : Value) (Q : VK), Inv X pins σ H s → RelV x v → RelV y u → r x y H Q →
    subscripted slice false v u = operate [v, u] (getItem v u) → wpAny (model X.prog X.w) X.A (subscriptTail value slice v u) (EP X pins σ Q) X.xe s
def MtR (X : Cx) (id : String) (r : V → List V → Hp → VK → Prop) : Prop :=
  ∀ (pins : List (Addr × Obj)) (s : Shared) (σ : St) (H : Hp) (x : V) (xs : List V) (v : Value) (us : List Value) (Q : VK), Inv X pins σ H s → RelV x v → Vals xs us → r x xs H Q →
    wpAny (model X.prog X.w) X.A (call (.builtin id) (v :: us)) (EP X pins σ Q) X.xe s
section
variable {X : Cx} {a b : Expr} {ta tb : TE} {pos : Pos}
theorem pe_ix {r : R2} (hr : IxR X r) (ha : PE X a ta) (hb : PE X b tb) (hs : PlainIx b) : PE X (.Subscript a b pos) (tOp r ta tb) := by
  intro pins s σ H Q I h
  exact Subscript_ (binT ha hb I h fun v u s2 x y H2 I2 rx ry q => hr a b pins s2 σ H2 x y v u Q I2 rx ry q (hs _ _))
def rIxL (K : PySem.W.Frag) : R2 := fun x y H Q => ∃ p xs i v, x = .ref p ∧ y = .int i ∧ SqL K H p xs ∧ atI xs i = some v ∧ Q v H
def rIxT (K : PySem.W.Frag) : R2 := fun x y H Q => ∃ p xs i v, x = .ref p ∧ y = .int i ∧ SqT K H p xs ∧ atI xs i = some v ∧ Q v H
theorem ix_list : IxR X (rIxL X.K) := by
  intro value slice pins s σ H x y v u Q I rx ry h hs
  obtain ⟨p, xs, i, z, rfl, rfl, hq, he, q⟩ := h
  cases rx
  obtain ⟨t, rfl⟩ := ry
  obtain ⟨its, r, pl, hz⟩ := I.list hq
  obtain ⟨j, h1, h2, h3, h4, h5⟩ := atI_get he
  obtain ⟨w, ew, rw'⟩ := r.get h2
  have hl := r.length
  have hn := line63
  have fin : EP X pins σ Q w s := ⟨z, H, I, rw', q⟩
  by_cases h0 : 0 ≤ i
  · have hj : i.toNat = j := by
      rw [seqIndex_of h0 h5] at h1
      exact Option.some.inj h1
    exact item_listR pl.isList h0 (by omega) (by rw [hj]; simpa using ew) fin hs
  · have hj : (i + (its.toArray.size : Int)).toNat = j := by
      rw [seqIndex_neg (by omega) h4] at h1
      rw [List.size_toArray, ← hl]
      exact Option.some.inj h1
    exact subscriptTail_builtinR (x := w) pl.isList.typeIs slot_list_getitem.lookup
      (wpAny_getItem_list_neg (Q := fun r s' => r = w ∧ EP X pins σ Q r s') pl.isList (by omega) (by rw [List.size_toArray] <;> omega) (by omega) (by rw [hj]; simpa using ew) ⟨rfl, fin⟩) hs
theorem ix_tup : IxR X (rIxT X.K) := by
  intro value slice pins s σ H x y v u Q I rx ry h hs
  obtain ⟨p, xs, i, z, rfl, rfl, hq, he, q⟩ := h
  cases rx
  obtain ⟨t, rfl⟩ := ry
  obtain ⟨its, r, pl, hz⟩ := I.tuple hq
  obtain ⟨j, h1, h2, h3, h4, h5⟩ := atI_get he
  obtain ⟨w, ew, rw'⟩ := r.get h2
  have hl := r.length
  have hn := line63
  have fin : EP X pins σ Q w s := ⟨z, H, I, rw', q⟩
  exact subscriptTail_builtinR (x := w) pl.typeIs slot_tuple_getitem.lookup
    (getItem_tuple (j := j) (Q := fun r s' => r = w ∧ EP X pins σ Q r s') pl (by omega) (by omega) (by rw [List.size_toArray, ← hl]; exact h1) (by simpa using ew) ⟨rfl, fin⟩) hs
theorem Inv.lst {pins : List (Addr × Obj)} {σ : St} {H : Hp} {s : Shared} {p : Addr} {xs : List V} (I : Inv X pins σ H s) (h : H p = some (.lst xs)) :
    ∃ (its : List Value) (n : Nat), Vals xs its ∧ s.heap.get? p = some { cls := .type "list", data := .seq its.toArray n } ∧ xs.length ≤ sizeLine := by
  obtain ⟨z, its, n, r, e⟩ := I.hok p _ h
  exact ⟨its, n, r, e, z⟩
theorem slice_bounds (lo hi : Option Int) (n : Nat) : (sliceBounds lo hi none n).1 = ((HT.sIx n 0 lo : Nat) : Int) ∧ (sliceBounds lo hi none n).2.1 = ((HT.sIx n n hi : Nat) : Int) ∧ (sliceBounds lo hi none n).2.2 = 1 := by
  refine ⟨?_, ?_, rfl⟩
  · cases lo with
    | none => simp [sliceBounds, HT.sIx]
    | some i =>
      simp only [sliceBounds, HT.sIx, Option.getD_none, show (1 : Int) > 0 by decide, if_true]
      by_cases h : i < 0
      · simp only [h, if_true] <;> omega
      · simp only [h, if_false] <;> omega
  · cases hi with
    | none => simp [sliceBounds, HT.sIx]
    | some i =>
      simp only [sliceBounds, HT.sIx, Option.getD_none, show (1 : Int) > 0 by decide, if_true]
      by_cases h : i < 0
      · simp only [h, if_true] <;> omega
      · simp only [h, if_false] <;> omega
theorem slicePick_cut (its : List Value) (lo hi : Option Int) : slicePick its.toArray lo hi none = ((its.drop (HT.sIx its.length 0 lo)).take (HT.sIx its.length its.length hi - HT.sIx its.length 0 lo)).toArray := by
  obtain ⟨h1, h2, h3⟩ := slice_bounds lo hi its.toArray.size
  unfold slicePick
  rw [h1, h2, h3]
  simp only [sliceRange_one, pick_run, List.size_toArray] <;> rfl
def rSlL (K : PySem.W.Frag) : V → Option Int → Option Int → Hp → VK → Prop := fun x lo hi H Q => ∃ a xs, x = .ref a ∧ SqL K H a xs ∧ ∀ p, H p = none → Q (.ref p) (upd H p (.lst (cutV xs lo hi)))
theorem sl_list : SlR X (rSlL X.K) := by
  intro pins s σ H x v vl vu lo hi sl Q I rx hs pl pu h
  obtain ⟨a, xs, rfl, hx, q⟩ := h
  cases rx
  obtain ⟨its, r, ht, hz⟩ := I.list hx
  have hlen := r.length
  refine ⟨"list", _, slot_list_getitem.lookup, ht.isList.typeIs, ?_⟩
  refine wpAny_getItem_list_slice ht.isList hs pl pu .none (by simp) ?_ (by rw [List.size_toArray] <;> omega)
  rw [slicePick_cut, ← hlen]
  refine ⟨.ref s.heap.objs.size, _, I.laid (t' := s.toks) (o := .lst (cutV xs lo hi)) (fun b ob q => Heap.get?_push_of_some _ q) (Nat.le_refl _) ?_, rfl, q _ (I.hok.fresh (Nat.le_refl _))⟩
  exact ⟨Nat.le_trans (cutV_length xs lo hi) hz, _, 0, (r.drop (HT.sIx xs.length 0 lo)).take (HT.sIx xs.length xs.length hi - HT.sIx xs.length 0 lo), Heap.get?_push_size _ rfl⟩
theorem call_len_seq : CallR X (.builtin "len") (fun xs H Q => ∃ p ys, xs = [.ref p] ∧ (SqL X.K H p ys ∨ SqT X.K H p ys) ∧ Q (.int ys.length) H) := by
  intro pins s σ H xs us Q I r h
  obtain ⟨p, ys, rfl, hq, q⟩ := h
  obtain ⟨u, rfl, rx⟩ := vals1 r
  cases rx
  have hn := line63
  rcases hq with hq | hq
  · obtain ⟨its, r', pl, hz⟩ := I.list hq
    have hlen := r'.length
    exact Calls.call_len_list pl.isList (by simp only [List.size_toArray] <;> omega) ⟨.int ys.length, H, I.tok _, ⟨s.toks + 1, by rw [List.size_toArray, hlen]⟩, q⟩
  · obtain ⟨its, r', pl, hz⟩ := I.tuple hq
    have hlen := r'.length
    exact len_tuple pl (by simp only [List.size_toArray] <;> omega) ⟨.int ys.length, H, I.tok _, ⟨s.toks + 1, by rw [List.size_toArray, hlen]⟩, q⟩
theorem call_list_of : CallR X (.type "list") (fun xs H Q => ∃ p ys, xs = [.ref p] ∧ (SqL X.K H p ys ∨ SqT X.K H p ys) ∧ ∀ l, H l = none → Q (.ref l) (upd H l (.lst ys))) := by
  intro pins s σ H xs us Q I r h
  obtain ⟨p, ys, rfl, hq, q⟩ := h
  obtain ⟨u, rfl, rx⟩ := vals1 r
  cases rx
  have fin : ∀ (its : List Value), Vals ys its → ys.length ≤ sizeLine → ∀ (h' : Heap) (c' : Nat), (∀ b o', s.heap.get? b = some o' → h'.get? b = some o') →
      h'.get? s.heap.objs.size = some { cls := .type "list", dict := none, data := .seq its.toArray c', slots := #[] } → EP X pins σ Q (.ref s.heap.objs.size) { s with heap := h' } := fun its r' hz h' c' kp e =>
    ⟨.ref s.heap.objs.size, _, I.laid (t' := s.toks) kp (Nat.le_refl _) (show ObjOk X.prog X.w _ h' _ (.lst ys) from ⟨hz, its, c', r', e⟩), rfl, q _ (I.hok.fresh (Nat.le_refl _))⟩
  rcases hq with hq | hq
  · obtain ⟨its, r', pl, hz⟩ := I.list hq
    have hlen := r'.length
    obtain ⟨o, ho, hc, n, hd⟩ := pl.isList
    exact call_list_seq p (.inl rfl) ho hc hd (fun h' c' kp e => fin its r' hz h' c' kp e) (by simp only [List.size_toArray] <;> omega)
  · obtain ⟨its, r', pl, hz⟩ := I.tuple hq
    have hlen := r'.length
    obtain ⟨o, ho, hc, n, hd⟩ := pl
    exact call_list_seq p (.inr rfl) ho hc hd (fun h' c' kp e => fin its r' hz h' c' kp e) (by simp only [List.size_toArray] <;> omega)
def tyV (K : PySem.W.Frag) (T : String) (x : V) (H : Hp) : Prop := match x with
  | .str _ => T = "str"
  | .int _ => T = "int"
  | .ref p => (T = "list" ∧ ∃ xs, SqL K H p xs) ∨ (T = "tuple" ∧ ∃ o, K.lookup p = some o ∧ o.cls = .type "tuple" ∧ o.dict = none) ∨
      (T = "dict" ∧ ((∃ kvs, H p = some (.dK kvs)) ∨ ∃ kvs, H p = some (.dT kvs))) ∨ (T = "set" ∧ ∃ S n, H p = some (.set S n))
  | _ => False
theorem tyV_is {pins : List (Addr × Obj)} {σ : St} {H : Hp} {s : Shared} {T : String} {x : V} {v : Value} (I : Inv X pins σ H s) (r : RelV x v) (ty : tyV X.K T x H) :
    s.TypeIs v T ∧ ∀ a, v = .ref a → ∃ ob, s.heap.get? a = some ob ∧ ob.dict = none := by
  cases x with
  | str z =>
    obtain ⟨t, rfl⟩ := r
    cases (show T = "str" from ty)
    exact ⟨typeIs_str s z t, fun _ e => nomatch e⟩
  | int i =>
    obtain ⟨t, rfl⟩ := r
    cases (show T = "int" from ty)
    exact ⟨typeIs_int s i t, fun _ e => nomatch e⟩
  | ref p =>
    cases r
    rcases ty with ⟨rfl, xs, hq⟩ | ⟨rfl, o, hk, hc, hd⟩ | ⟨rfl, hk⟩ | ⟨rfl, S, n, hk⟩
    · obtain ⟨its, _, pl, _⟩ := I.list hq
      refine ⟨pl.isList.typeIs, fun a e => ?_⟩
      cases e
      obtain ⟨o, n, e, c, hd, _⟩ := pl
      exact ⟨o, e, hd⟩
    · refine ⟨⟨o, I.kIn p o hk, hc⟩, fun a e => ?_⟩
      cases e
      exact ⟨o, I.kIn _ o hk, hd⟩
    · have z : ∃ o, s.heap.get? p = some o ∧ o.ExactDict := by
        rcases hk with ⟨kvs, hk⟩ | ⟨kvs, hk⟩
        · obtain ⟨_, _, _, _, o, _, _, e, ex, _⟩ := I.hok p _ hk
          exact ⟨o, e, ex⟩
        · obtain ⟨_, _, _, _, o, _, _, e, ex, _⟩ := I.hok p _ hk
          exact ⟨o, e, ex⟩
      obtain ⟨o, e, ex⟩ := z
      refine ⟨⟨o, e, ex.1⟩, fun a e2 => ?_⟩
      cases e2
      exact ⟨o, e, ex.2.1⟩
    · obtain ⟨o, _, _, _, e, ex, _⟩ := I.hok p _ hk
      refine ⟨⟨o, e, ex.1⟩, fun a e2 => ?_⟩
      cases e2
      exact ⟨o, e, ex.2.1⟩
  | _ => exact False.elim ty
def tBM0 (K : PySem.W.Frag) (T : String) (r : V → List V → Hp → VK → Prop) (to : TE) : TE := fun σ H Q => to σ H fun x H1 => tyV K T x H1 ∧ r x [] H1 Q
def tBM (K : PySem.W.Frag) (T : String) (r : V → List V → Hp → VK → Prop) (to : TE) (t : TA) : TE := fun σ H Q => to σ H fun x H1 => tyV K T x H1 ∧ t σ H1 fun xs H2 => r x xs H2 Q
variable {o e : Expr} {es : List Expr} {to : TE} {t : TA} {name : Str} {apos cpos : Pos} {T id : String} {r : V → List V → Hp → VK → Prop}
theorem pe_bm (pa : PlainAttrs T) (slot : Slot T name id) (hty : typeOf (.builtin id) = pure (.type "method_descriptor")) (hm : MtR X id r) (ho : PE X o to) (ha : PA X (e :: es) t)
    (hbase : attributeBase o name X.env (eval o X.env) = eval o X.env := by rfl)
    (hfew : ((backTo cpos (starEach (e :: es) X.env)).all (fun x => !x.1) && (backToKw cpos (keywordEach [] X.env)).all (fun x => x.1.isSome)
      && decide ((e :: es).length + ([] : List Keyword).length + (if ([] : List Keyword).isEmpty then 0 else 1) < 30)) = true := by rfl)
    (hline : (apos.endLine == cpos.line) = true := by rfl) (hs : starEach (e :: es) X.env = (false, eval e X.env) :: starEach es X.env := by rfl) (hplain : (backTo cpos (starEach es X.env)).any (·.1) = false := by rfl) :
    PE X (.Call (.Attribute o name apos) (e :: es) [] cpos) (tBM X.K T r to t) := by
  intro pins s σ H Q I h
  refine wpAny_Call_method_late hbase hfew hline rfl (thn (ho pins s σ H _ I h) fun v s1 ⟨x, H1, I1, r1, ty, q1⟩ => ?_)
  obtain ⟨h1, h2⟩ := tyV_is I1 r1 ty
  refine ⟨T, id, pa, slot, hty, h1, h2, ?_⟩
  have hA := ha cpos pins s1 σ H1 _ I1 q1
  rw [hs] at hA ⊢
  refine Calls.callWith_builtin (by show (false || (backTo cpos (starEach es X.env)).any (·.1)) = false; rw [hplain] <;> rfl) (Calls.evalArgs_plain ?_)
  exact thn hA fun us s2 ⟨vs, H2, I2, r2, q2⟩ => hm pins s2 σ H2 x vs v us Q I2 r1 r2 q2
/- xs.append(e), list.index on a module's tuple .. are MtR facts of 06m -/
end
end L2
namespace L2
open PySem PySem.Spec PyProof.Rows
def MtM (X : Cx) (id : String) (r : V → List V → Hp → VK → Prop) : Prop :=
  ∀ (pins : List (Addr × Obj)) (s : Shared) (σ : St) (H : Hp) (x : V) (xs : List V) (v : Value) (us : List Value) (Q : VK), Inv X pins σ H s → RelV x v → Vals xs us → r x xs H Q →
    wpAny (model X.prog X.w) X.A (call (.builtin id) (v :: us)) (EP X pins σ Q) X.xe s
theorem Vals.one : ∀ {x : V} {us : List Value}, Vals [x] us → ∃ u, us = [u] ∧ RelV x u
  | _, _, .cons r .nil => ⟨_, rfl, r⟩
theorem Vals.two : ∀ {x y : V} {us : List Value}, Vals [x, y] us → ∃ u v, us = [u, v] ∧ RelV x u ∧ RelV y v
  | _, _, _, .cons r (.cons q .nil) => ⟨_, _, rfl, r, q⟩
theorem Vals.zero : ∀ {us : List Value}, Vals [] us → us = []
  | _, .nil => rfl
theorem Vals.reverse {xs : List V} {us : List Value} (h : Vals xs us) : Vals xs.reverse us.reverse := by
  induction h with
  | nil => exact .nil
  | cons r t ih => rw [List.reverse_cons, List.reverse_cons]; exact Vals.append ih (.cons r .nil)
section
variable {X : Cx} {pins : List (Addr × Obj)} {σ : St} {H : Hp} {s : Shared} {l b : Addr} {xs ys zs : List V}
theorem Inv.lset {its its' : List Value} {n : Nat} {f : Array Value → Array Value} {t' : Nat} (I : Inv X pins σ H s) (hH : H l = some (.lst xs))
    (e : s.heap.get? l = some { cls := .type "list", data := .seq its.toArray n }) (hf : f its.toArray = its'.toArray) (hv : Vals ys its') (hz : ys.length ≤ sizeLine) :
    Inv X pins σ (upd H l (.lst ys)) { s with heap := s.heap.update l (Obj.mapSeq f), toks := t' } := by
  have q := PySem.IsL.update e f
  rw [hf] at q
  refine I.write (x := l) (e := l) (by rw [hH]; exact trivial) (.inl rfl) (fun b' u hb hu => (Heap.get?_update_other s.heap (Obj.mapSeq f) (Ne.symm hb)).trans hu) ⟨_, q⟩ ?_
  exact ⟨hz, its', _, hv, q⟩
theorem Inv.lnew {its : List Value} {t' : Nat} (I : Inv X pins σ H s) (hv : Vals ys its) (hz : ys.length ≤ sizeLine) :
    Inv X pins σ (upd H s.heap.objs.size (.lst ys)) { s with heap := s.heap.push { cls := .type "list", data := .seq its.toArray }, toks := t' } :=
  I.laid (fun _ _ q => Heap.get?_push_of_some _ q) (Nat.le_refl _) ⟨hz, its, 0, hv, Heap.get?_push_size _ rfl⟩
theorem Inv.fresh (I : Inv X pins σ H s) : H s.heap.objs.size = none := I.hok.fresh (Nat.le_refl _)
theorem Inv.lstM (I : Inv X pins σ H s) (hH : H l = some (.lst xs)) : xs.length ≤ sizeLine ∧ ∃ (its : List Value) (n : Nat), Vals xs its ∧ xs.length = its.length ∧ s.heap.get? l = some { cls := .type "list", data := .seq its.toArray n } := by
  obtain ⟨z, its, n, r, e⟩ := I.hok l _ hH
  exact ⟨z, its, n, r, r.length, e⟩
end
section
variable {X : Cx}
def rAppend : V → List V → Hp → VK → Prop := fun x vs H Q => ∃ l xs y, x = .ref l ∧ vs = [y] ∧ H l = some (.lst xs) ∧ xs.length < sizeLine ∧ Q .non (upd H l (.lst (xs ++ [y])))
theorem mt_append : MtM X "list.append" rAppend := by
  intro pins s σ H x vs v us Q I rx rv h
  obtain ⟨l, xs, y, rfl, rfl, hH, hz, q⟩ := h
  cases rx
  obtain ⟨u, rfl, ru⟩ := rv.one
  obtain ⟨z, its, n, r, hl, e⟩ := I.lstM hH
  refine call_meets F.slot_list_append ⟨_, e, rfl⟩ F.entry_list_append (F.args_list_append_2 _ _) (PySem.list_append l its.toArray n u (by rw [List.size_toArray]; omega)) ⟨e, ?_⟩
  refine ⟨.non, _, I.lset (its' := its ++ [u]) hH e (by simp) (r.append (.cons ru .nil)) ?_, rfl, q⟩
  rw [List.length_append, List.length_singleton]
  omega
def rCat : R2 := fun x y H Q => ∃ l b xs zs, x = .ref l ∧ y = .ref b ∧ H l = some (.lst xs) ∧ H b = some (.lst zs) ∧ xs.length + zs.length ≤ sizeLine ∧ ∀ p, H p = none → Q (.ref p) (upd H p (.lst (xs ++ zs)))
theorem op_cat : OpR X (binaryOp .Add) rCat := by
  intro pins s σ H x y v u Q I rx ry h
  obtain ⟨l, b, xs, zs, rfl, rfl, hH, hB, hz, q⟩ := h
  cases rx
  cases ry
  obtain ⟨z, its, n, r, hl, e⟩ := I.lstM hH
  obtain ⟨z2, its2, n2, r2, hl2, e2⟩ := I.lstM hB
  refine PySem.P.add_list e e2 ?_ (by rw [List.size_toArray, List.size_toArray]; omega)
  have ea : its.toArray ++ its2.toArray = (its ++ its2).toArray := by simp
  rw [ea]
  exact ⟨.ref _, _, I.lnew (t' := s.toks) (r.append r2) (by rw [List.length_append]; omega), rfl, q _ I.fresh⟩
end
section
variable {prog : Program} {w : World} {A : Around} {E : Value → Shared → Prop} {s : Shared}
end
section
variable {X : Cx}
end
end L2
namespace Att
open PySem PySem.W PySem.Calls PyProof.Rows
theorem ints_of_wellAll {P : Params} {h : Heap} : ∀ (ns : List Int) (vs : List Value), WellAll P h vs (ns.map WData.int) → IntsAre vs ns := by
  intro ns
  induction ns with
  | nil =>
    intro vs w
    rw [List.map_nil] at w
    cases w
    exact .nil
  | cons n ns ih =>
    intro vs w
    rw [List.map_cons] at w
    cases w with
    | cons a b =>
      cases a
      exact .cons _ _ (ih _ b)
theorem script_of {l : OpenLaw} {n : Nat} (hn : l.most = some n) {P : Params} {h : Heap} {args : List WData} {vals : List Value}
    (hpre : l.row.toRowW.claim.pre args = true) (hwl : WellAll P h vals args) :
    ∃ a vs ns, vals = [Value.ref a] ∧ args = [WData.list (ns.map WData.int)] ∧ h.get? a = some { cls := .type "list", data := .seq vs.toArray } ∧ IntsAre vs ns ∧ ns.length ≤ n := by
  have hsh : WShape.hasAll [] args [.list .int] = true := (pre_splitW hpre).1
  have hc : l.pre.holds [] { args := args } = true := (pre_splitW hpre).2
  obtain ⟨d, r, rfl, h1, h2⟩ := hasAllW_cons hsh
  obtain rfl := hasAllW_nil h2
  obtain ⟨xs, rfl, h3⟩ := hasW_list h1
  obtain ⟨ns, rfl⟩ := items_int h3
  have hlen : ns.length ≤ n := by
    unfold OpenLaw.pre at hc
    have h4 : (WTm.not (.lt (.lit (.int (n : Int))) (.len (.arg 0)))).holds [] { args := [.list (ns.map .int)] } = true := by
      have h4 := (holds_andW hc).1
      rw [hn] at h4
      exact h4
    have h5 := condW_of h4 (w_not (w_lt w_lit (w_len_list (w_arg rfl))))
    rw [List.length_map] at h5
    refine Nat.le_of_not_lt fun q => ?_
    have q' : (n : Int) < ((ns.length : Nat) : Int) := by omega
    first
      | (rw [decide_eq_true q'] at h5; exact absurd h5 (by decide))
      | (simp at h5; omega)
  cases hwl with
  | cons w1 w2 =>
    cases w2
    cases w1 with
    | list ho hall => exact ⟨_, _, ns, rfl, rfl, ho, ints_of_wellAll ns _ hall, hlen⟩
theorem post_true (l : OpenLaw) (args : List WData) : l.row.toRowW.claim.post args (.bool true) args = true :=
  postW_of (r := l.row.toRowW) (X := (true == true))
    (show WShape.has [] (.bool true) .bool = true by first | rfl | decide | simp [WShape.has, WShape.arms, WShape.armsAll])
    (show (WTm.eq .res (.lit (.bool true))).value [] { args := args, res := some (.bool true), after := args } = some (.bool (true == true)) from w_eq_bool (w_res rfl) w_lit) rfl
theorem attach_call {l : OpenLaw} {n : Nat} {q : Program} {loose : List Str} {XP : (Str → Option Value) → Heap → Prop} {YP : World → Heap → Prop} {d : DefRec}
    (hn : l.most = some n) (hdf : d.params.defaults = [])
    (call : ∀ (w : World) (s₀ s₁ : Shared) (mg mb : Str → Option Value) (fa : Addr) (o : Obj) (pm cd doc : Value) (a : Addr) (vs : List Value) (ns : List Int),
      Ground q loose [] XP w s₀ mg mb s₁.heap → YP w s₁.heap →
      s₁.heap.get? fa = some o → o.data = .func (docDef d.name d.params d.body d.scope pm cd doc) → s₁.heap.CodeRec cd d.name → mg d.name = some (.ref fa) →
      s₁.heap.get? a = some { cls := .type "list", data := .seq vs.toArray } → IntsAre vs ns → ns.length ≤ n → s₁.gens = #[] →
      codeAny (model l.prog w) callerA (.call (.ref fa) ⟨[.ref a], []⟩) (fun r s' => r = .ok (.ret (.bool true)) ∧ OldK s₁.heap s'.heap ∧ s'.os = s₁.os ∧ AllBare s'.gens) s₁) :
    WalkO q loose XP YP l.row.toRowW d [] (fun f vs => PySem.call f vs) := by
  intro w s₀ s₁ mg mb G Y fa o pm cd doc dV kV ho hd hcd hD hmg hg args vals as hpre hlay hrd hwl hlo
  obtain rfl : dV = .none := Dflts.none hD hdf
  obtain rfl : kV = .none := Dflts.noKw hD
  obtain ⟨a, vs, ns, rfl, rfl, hobj, hints, hlen⟩ := script_of hn hpre hwl
  refine enter_call (codeAny_mono (call w s₀ s₁ mg mb fa o pm cd doc a vs ns G Y ho (fd_plain hd) hcd hmg hobj hints hlen hg) fun r s' hq => ?_)
  obtain ⟨rfl, h2, h3, h4⟩ := hq
  exact ⟨.inl ⟨.bool true, .bool true, [], rfl, fun _ => rfl, .bool true, post_true l _, fun _ => ⟨List.Pairwise.nil, fun _ hm => (nomatch hm)⟩⟩, h2, h3, h4⟩
section
variable {prog : Program} {w : World} {A : Around} {E : Value → Shared → Prop} {s : Shared} {K : Frag}
end
end Att
namespace L2
open PySem PySem.Spec PyProof.Rows
theorem vals_ints : ∀ {vs : List Value} {ns : List Int}, IntsAre vs ns → Vals (ns.map V.int) vs
  | _, _, .nil => .nil
  | _, _, .cons n t h => .cons ⟨t, rfl⟩ (vals_ints h)
def Only (H : Hp) : Prop := ∀ b, H b = none ∨ ∃ o xs, H b = some (.frz o (.lst xs))
theorem law_call {P : Program} {w : World} {K : PySem.W.Frag} {mg mb : Str → Option Value} {CX : CXT} {k : Nat} {fa a : Addr} {fd : FuncData} {x : Str} {sp : Sp} {s₁ : Shared} {vs : List Value} {ns : List Int}
    (KX : K.In s₁.heap) (hns : s₁.heap.Ns mainGlobals mg) (hb : s₁.heap.Ns builtinsNs mb) (hbb : ∀ x : Str, x ≠ "__name__" → mb x = bootBuiltins x) (hlim : s₁.heap.NoLimit) (hg : s₁.gens = #[])
    (ha : s₁.heap.get? a = some { cls := .type "list", data := .seq vs.toArray }) (hi : IntsAre vs ns) (hl : ns.length ≤ sizeLine) (hr : Room k callerA)
    (F : ∀ base : Heap, K.In base → base.Ns mainGlobals mg → FnOk P w K mg base CX k fa fd [x] sp) (hbind : ∀ (s : Shared) (u : Value), BindsTo s fd ⟨[u], []⟩ [(x, u)])
    (hsp : ∀ H : Hp, Only H → SqL K H a (ns.map V.int) → sp [.ref a] H (fun v _ => v = .bl true) fun _ _ _ => False)
    (hCX : ∀ H e s', CX [] H s₁ (fun _ _ _ => False) e s' → False) :
    codeAny (model P w) callerA (.call (.ref fa) ⟨[.ref a], []⟩) (fun r s' => r = .ok (.ret (.bool true)) ∧ OldK s₁.heap s'.heap ∧ s'.os = s₁.os ∧ AllBare s'.gens) s₁ := by
  have rv := vals_ints hi
  have lenV := hi.length
  -- from an abstract heap in which nothing but the script may be tracked
  have core : ∀ H : Hp, Only H → SqL K H a (ns.map V.int) → HOk P w H s₁.heap → (∀ b, H b ≠ none → b = a) → (H a ≠ none → K.lookup a = none) →
      codeAny (model P w) callerA (.call (.ref fa) ⟨[.ref a], []⟩) (fun r s' => r = .ok (.ret (.bool true)) ∧ OldK s₁.heap s'.heap ∧ s'.os = s₁.os ∧ AllBare s'.gens) s₁ := by
    intro H hO hS hok hA hK
    have base_of : ∀ {b : Addr} {o : Obj}, s₁.heap.get? b = some o → H b = none → (hidT s₁.heap H).get? b = some o := fun e n => hidT_get e n
    have noA : ∀ {b : Addr} {o : Obj} {es : Array DictEntry} {ep : Nat}, s₁.heap.get? b = some o → o.data = .dict es ep → H b = none := fun {b o es ep} e d => by
      cases q : H b with
      | none => rfl
      | some u =>
        have e' : b = a := hA b (by rw [q]; simp)
        subst e'
        rw [ha] at e; cases e
        have d' : Data.seq vs.toArray _ = Data.dict es ep := d
        cases d'
    have nsK : ∀ {b : Addr} {m : Str → Option Value}, s₁.heap.Ns b m → (hidT s₁.heap H).Ns b m := fun {b m} ⟨o, es, ep, e, d, r⟩ => ⟨o, es, ep, base_of e (noA e d), d, r⟩
    have hKb : K.In (hidT s₁.heap H) := fun b o e => base_of (KX b o e) (by
      cases q : H b with
      | none => rfl
      | some u =>
        have e' : b = a := hA b (by rw [q]; simp)
        subst e'
        rw [hK (by rw [q]; simp)] at e; cases e)
    have hM : Mod K mg (hidT s₁.heap H) := ⟨hKb, nsK hns, ⟨mb, nsK hb, hbb⟩, let ⟨mc, h1, h2⟩ := hlim; ⟨mc, nsK h1, h2⟩⟩
    have e0 : Env0 P w K mg (hidT s₁.heap H) callerA [] s₁ H := ⟨rfl, hM, fun b o e => of_hidT e, Nat.le_of_eq (hidT_size _ _), trivial, fun b hb => absurd (show b ∈ ([] : List Addr) from hb) (by simp), hok, .of_eq hg⟩
    refine codeAny_mono ((F _ hKb (nsK hns)).run callerA [] s₁ H ⟨[.ref a], []⟩ [.ref a] [.ref a] _ _ hr e0 (hbind s₁ (.ref a)) (.cons rfl .nil) (hsp H hO hS)) fun r s' h => ?_
    cases r with
    | error e => exact (hCX H e s' h).elim
    | ok fl =>
      cases fl with
      | next => exact False.elim h
      | brk => exact False.elim h
      | cont => exact False.elim h
      | ret u =>
        obtain ⟨v, H', os, bare, un, hok', r', q⟩ := h
        have q' : v = .bl true := q
        subst q'
        obtain rfl : u = Value.bool true := r'
        refine ⟨rfl, OldK.of_keep fun b o e => ?_, os, bare⟩
        cases q : H b with
        | none => exact un.keep b o e q (by intro z; exact absurd (show b ∈ ([] : List Addr) from z) (by simp)) (by simp)
        | some u =>
          rcases hO b with z | ⟨ob, xs, z⟩
          · rw [q] at z; cases z
          · have z2 := un.frzs b ob _ z
            obtain ⟨e1, _⟩ := hok b _ z
            obtain ⟨e2, _⟩ := hok' b _ z2
            rw [e] at e1; cases e1
            exact e2
  cases hk : K.lookup a with
  | some o =>
    -- the script is one of the module's own objects
    have e := KX a o hk
    rw [ha] at e
    cases e
    refine core (fun _ => none) (fun _ => .inl rfl) (.inr ⟨_, vs.toArray, _, hk, rfl, rfl, rfl, by rw [List.size_toArray, lenV]; exact hl, by simpa using rv⟩) (fun b u z => by have z' : (none : Option HO) = some u := z; cases z') (fun b z => absurd rfl z) fun z => absurd rfl z
  | none =>
    refine core (fun b => if b = a then some (.frz { cls := .type "list", data := .seq vs.toArray } (.lst (ns.map V.int))) else none) (fun b => ?_) (.inl (.inr ⟨{ cls := .type "list", data := .seq vs.toArray }, if_pos rfl⟩)) (fun b u z => ?_) (fun b z => ?_) fun _ => hk
    · by_cases hb : b = a
      · exact .inr ⟨_, _, if_pos hb⟩
      · exact .inl (if_neg hb)
    · by_cases hb : b = a
      · have z' := (if_pos hb).symm.trans z
        cases z'
        subst hb
        exact ⟨ha, by rw [List.length_map]; exact hl, vs, _, rv, ha⟩
      · have z' := (if_neg hb).symm.trans z
        cases z'
    · by_cases hb : b = a
      · exact hb
      · exact absurd (if_neg hb) z
end L2
namespace L2
open PySem PySem.Spec PyProof.Rows
abbrev KOf {K : PySem.W.Frag} {h : Heap} (_ : K.In h) : PySem.W.Frag := K
theorem walk_of {l : PySem.W.OpenLaw} {n k : Nat} {q : Program} {loose : List Str} {XP : (Str → Option Value) → Heap → Prop} {YP : World → Heap → Prop} {d : DefRec} {K : Params → PySem.W.Frag} {CX : World → CXT} {sp : World → Sp} {x : Str}
    (hn : l.most = some n) (hn2 : n ≤ sizeLine) (hdf : d.params.defaults = []) (hr : Room k callerA)
    (hY : ∀ (w : World) (h : Heap), YP w h → (K w.params).In h)
    (F : ∀ (w : World) (mg : Str → Option Value) (fa : Addr) (h : Heap), (K w.params).In h → h.Ns mainGlobals mg → mg d.name = some (.ref fa) →
      ∃ fd : FuncData, (∀ (s : Shared) (u : Value), BindsTo s fd ⟨[u], []⟩ [(x, u)]) ∧
        ∀ base : Heap, (K w.params).In base → base.Ns mainGlobals mg → FnOk l.prog w (K w.params) mg base (CX w) k fa fd [x] (sp w))
    (hsp : ∀ (w : World) (H : Hp) (a : Addr) (ns : List Int), ns.length ≤ n → Only H → SqL (K w.params) H a (ns.map V.int) → sp w [.ref a] H (fun v _ => v = .bl true) fun _ _ _ => False)
    (hCX : ∀ (w : World) (H : Hp) (s : Shared) (e : Value) (s' : Shared), CX w [] H s (fun _ _ _ => False) e s' → False) :
    PySem.W.WalkO q loose XP YP l.row.toRowW d [] (fun f vs => PySem.call f vs) := by
  refine Att.attach_call hn hdf fun w s₀ s₁ mg mb fa o pm cd doc a vs ns G Y ho hd hcd hmg hobj hints hlen hg => ?_
  have KX := hY w _ Y
  obtain ⟨fd, hb, hF⟩ := F w mg fa _ KX G.T.g hmg
  exact law_call KX G.T.g G.T.b G.T.builtins G.T.nolimit hg hobj hints (Nat.le_trans hlen hn2) hr hF hb (fun H hO hS => hsp w H a ns hlen hO hS) fun H e s' => hCX w H s₁ e s'
end L2
/- THE LAST THEOREM (shape; LID, My.* are yours):
   My.Adr: a structure of the addresses that your layer names (classes, functions); My.Txt K t: a structure (Prop) of the equations over K;
   My.txt_mk : {K} {implicit addresses ..} (e1 : nsIn K mainGlobals "law" = some (some (.ref f))) (e2 : K.lookup f = some ⟨oc, od, .func (fnOf "law" "law" params body scope dV kV doc pm an cdv ct), sl⟩) (e3 : codeIn K cdv "law" = true) .. : ∃ t, My.Txt K t
set_option maxRecDepth 100000 in
set_option maxHeartbeats 0 in
theorem PySem.Challenge.cw_LID_holds : PySem.Challenge.rw_LID.Holds := by
  w_on; o_law; k_head; (case hw => w_witness2)
  k_fill
  refine L2.walk_of (l := PySem.Challenge.rw_LID) (n := 63) (k := 40) (x := "script") (CX := fun w => ..) (sp := fun _ => My.sp_law) rfl (by decide) rfl ⟨rfl, by decide, by decide⟩ (fun w h Y => PySem.W.kIn_of Y) ?F ?S ?C
  case F =>
    intro w mg fa h KX G hmg
    have T : ∃ t, My.Txt (L2.KOf KX) t := by
      dsimp only [L2.KOf]                          -- K must stand as «<heap const> w.params» for k_is
      refine' My.txt_mk ?e1 ?e2 ?e3 ..
      (case e1 => PySem.W.k_is)                    -- in the order: a name -> its address -> its object -> its parts
      (case e2 => PySem.W.k_is)
      ..
    obtain ⟨t, T⟩ := T
    have e0 := hmg.symm.trans (PySem.W.mg_of KX G T.law)
    cases e0                                       -- fa is the law's own address
    exact ⟨_, fun s u => .of_eq rfl, fun base kb nb => My.law_fn T kb nb⟩     -- if «.of_eq rfl» comes too early: refine' ⟨_, ?b, fun base kb nb => My.law_fn T kb nb⟩; exact fun s u => .of_eq rfl
  case S => exact fun w H a ns hl hO hS => ..
  case C => exact ..
(the tactic k_is has no namespace: write k_is) -/
namespace L2
open PySem PySem.Spec PyProof.Rows
def inClass (s : Stmt) (j : Nat) : Stmt := match s with
  | .ClassDef _ _ _ body _ _ _ _ _ _ _ => body.getD j (.Pass ⟨0, 0, 0, 0⟩)
  | _ => .Pass ⟨0, 0, 0, 0⟩
def defArgs (s : Stmt) : Arguments := match s with
  | .FunctionDef _ a _ _ _ _ _ _ _ _ => a
  | _ => { posonlyargs := [], args := [], vararg := none, kwonlyargs := [], kw_defaults := [], kwarg := none, defaults := [] }
def defBody (s : Stmt) : List Stmt := match s with
  | .FunctionDef _ _ b _ _ _ _ _ _ _ => b
  | _ => []
def defScope (s : Stmt) : Scope := match s with
  | .FunctionDef _ _ _ _ _ _ sc _ _ _ => sc
  | _ => { kind := .function, names := [], isGenerator := false, isCoroutine := false }
abbrev CX0 : CXT := fun _ _ _ _ _ _ => False
abbrev E0 : XK := fun _ _ _ => False
structure Fun (K : PySem.W.Frag) (x qual : Str) (st : Stmt) (f : Addr) (fd : FuncData) : Prop where
  ex : ∃ (oc : Value) (od : Option Addr) (kV doc pm : Value) (an : Option Addr) (cdv ct : Value) (osl : Array (Option Value)),
    fd = PySem.W.fnOf x qual (defArgs st) (defBody st) (defScope st) .none kV doc pm an cdv ct ∧ K.lookup f = some ⟨oc, od, .func fd, osl⟩ ∧ PySem.W.codeIn K cdv qual = true
  kp : PySem.W.keepIn K (.ref f) = true
section
variable {P : Program} {w : World} {K : PySem.W.Frag} {mg : Str → Option Value} {base : Heap}
theorem Fun.ok {x qual : Str} {st : Stmt} {f : Addr} {fd : FuncData} {N ps : List Str} {k : Nat} {sp : Sp} (F : Fun K x qual st f fd) (S : FnScope N ps (defScope st)) (len : ∀ vs H Q E, sp vs H Q E → vs.length = ps.length)
    (hbody : ∀ (cdv : Value) (A : Around) (outer : List Env) (s : Shared) (H : Hp) (vs : List V) (Q : VK) (E : XK), Room k (A.deeper (envOfC qual (defScope st) s.heap.objs.size f cdv)) → sp vs H Q E →
      ∃ t, PSs (cxOf CX0 P w K mg base N qual (defScope st) f cdv A outer s H E).nox (defBody st) t ∧ t { nx := fun _ H' => Q .non H', rt := Q } (start N vs) H) : FnOk P w K mg base CX0 (k + 1) f fd ps sp := by
  obtain ⟨oc, od, kV, doc, pm, an, cdv, ct, osl, rfl, lk, hcd⟩ := F.ex
  refine fn_of lk hcd S len fun A outer s H vs Q E hr hsp => ?_
  obtain ⟨t, h, q⟩ := hbody cdv A outer s H vs Q E hr hsp
  exact ⟨t, h.nox, q⟩
theorem Fun.binds {x qual : Str} {st : Stmt} {f : Addr} {fd : FuncData} {ps : List Str} (F : Fun K x qual st f fd)
    (h : ∀ (kV doc pm : Value) (an : Option Addr) (cdv ct : Value) (us : List Value), us.length = ps.length → bindArgs (PySem.W.fnOf x qual (defArgs st) (defBody st) (defScope st) .none kV doc pm an cdv ct) ⟨us, []⟩ = pure (ps.zip us)) : Binds K fd ps [] := by
  obtain ⟨oc, od, kV, doc, pm, an, cdv, ct, osl, rfl, lk, hcd⟩ := F.ex
  exact .all (h kV doc pm an cdv ct)
theorem fun_mk {x qual : Str} {st : Stmt} {f : Addr} {oc : Value} {od an : Option Addr} {osl : Array (Option Value)} {kV doc pm cdv ct : Value} (l : K.lookup f = some ⟨oc, od, .func (PySem.W.fnOf x qual (defArgs st) (defBody st) (defScope st) .none kV doc pm an cdv ct), osl⟩)
    (c : PySem.W.codeIn K cdv qual = true) (k : PySem.W.keepIn K (.ref f) = true) : Fun K x qual st f (PySem.W.fnOf x qual (defArgs st) (defBody st) (defScope st) .none kV doc pm an cdv ct) := ⟨⟨oc, od, kV, doc, pm, an, cdv, ct, osl, rfl, l, c⟩, k⟩
end
theorem hu_of {A : Around} {k : Nat} (hr : Room k A) : A.units + 1 < cLine := Nat.lt_of_le_of_lt (Nat.add_le_add_left (by decide : 1 ≤ 64) _) hr.units
section
variable {X : Cx}
theorem pv (i : Nat) {x : Str} {pos : Pos} (hN : X.N[i]? = some x := by rfl) (hv : Vis X.env.scope x := by first | exact Or.inl rfl | exact Or.inr (Or.inl rfl) | exact Or.inr (Or.inr rfl)) (hd : (x == ("__debug__" : Str)) = false := by decide)
    (hcd : (x == ("__classdict__" : Str)) = false := by decide) : PE X (.Name x pos) (tVar i) := pe_var hN hv hd hcd
end
theorem ite2 {c A B : Prop} [Decidable c] (h1 : c → A) (h2 : ¬ c → B) : if c then A else B := by
  by_cases h : c
  · rw [if_pos h]
    exact h1 h
  · rw [if_neg h]
    exact h2 h
def Same (H H' : Hp) : Prop := ∀ b o, H b = some o → H' b = some o
theorem Same.refl (H : Hp) : Same H H := fun _ _ h => h
theorem Same.trans {H H1 H2 : Hp} (a : Same H H1) (b : Same H1 H2) : Same H H2 := fun c o h => b c o (a c o h)
theorem Same.free {H H' : Hp} (e : Same H H') {l : Addr} (h : H' l = Option.none) : H l = Option.none := by
  cases q : H l with
  | none => rfl
  | some o =>
    rw [e l o q] at h
    cases h
theorem Same.seq {K : PySem.W.Frag} {H H' : Hp} {a : Addr} {xs : List V} (e : Same H H') (h : SqL K H a xs) : SqL K H' a xs := by
  rcases h with (h | ⟨o, h⟩) | h
  · exact .inl (.inl (e _ _ h))
  · exact .inl (.inr ⟨o, e _ _ h⟩)
  · exact .inr h
end L2
set_option maxHeartbeats 4000000
namespace Sw
def dv (a b : Int) : Int := (Int.gcd a b : Nat)
theorem dv_nn (a b : Int) : 0 ≤ dv a b := Int.natCast_nonneg _
theorem dv_l (a b : Int) : dv a b ∣ a := Int.gcd_dvd_left a b
theorem dv_r (a b : Int) : dv a b ∣ b := Int.gcd_dvd_right a b
theorem dv_comm (a b : Int) : dv a b = dv b a := by unfold dv; rw [Int.gcd_comm]
theorem dv_negl (a b : Int) : dv (-a) b = dv a b := by unfold dv; rw [Int.neg_gcd]
theorem dv_negr (a b : Int) : dv a (-b) = dv a b := by unfold dv; rw [Int.gcd_neg]
theorem dv_zero (a : Int) (h : 0 ≤ a) : dv a 0 = a := by
  unfold dv; rw [Int.gcd_zero_right]; omega
theorem dv_eq0 {a b : Int} (h : dv a b = 0) : a = 0 ∧ b = 0 := by
  unfold dv at h
  exact Int.gcd_eq_zero_iff.mp (by omega)
theorem dv_pos {a b : Int} (h : b ≠ 0) : 0 < dv a b := by
  have := dv_nn a b
  rcases Int.lt_or_eq_of_le this with q | q
  · exact q
  · exact absurd (dv_eq0 q.symm).2 h
theorem dv_dvd {a b c : Int} (h1 : c ∣ a) (h2 : c ∣ b) : c ∣ dv a b := Int.dvd_coe_gcd h1 h2
theorem dv_ext {a b c d : Int} (h : ∀ x : Int, (x ∣ a ∧ x ∣ b) ↔ (x ∣ c ∧ x ∣ d)) : dv a b = dv c d := by
  have h1 : dv a b ∣ dv c d := dv_dvd ((h _).mp ⟨dv_l a b, dv_r a b⟩).1 ((h _).mp ⟨dv_l a b, dv_r a b⟩).2
  have h2 : dv c d ∣ dv a b := dv_dvd ((h _).mpr ⟨dv_l c d, dv_r c d⟩).1 ((h _).mpr ⟨dv_l c d, dv_r c d⟩).2
  exact Int.dvd_antisymm (dv_nn _ _) (dv_nn _ _) h1 h2
theorem dv_step (a b : Int) : dv b (a % b) = dv a b := by
  refine dv_ext fun x => ⟨fun ⟨h1, h2⟩ => ⟨?_, h1⟩, fun ⟨h1, h2⟩ => ⟨h2, ?_⟩⟩
  · have e := Int.mul_ediv_add_emod a b
    rw [← e]
    exact Int.dvd_add (Int.dvd_trans h1 (Int.dvd_mul_right b _)) h2
  · rw [Int.emod_def]
    exact Int.dvd_sub h1 (Int.dvd_trans h2 (Int.dvd_mul_right b _))
theorem dv_abs (a b : Int) : dv (if a < 0 then -a else a) (if b < 0 then -b else b) = dv a b := by
  split <;> split <;> simp only [dv_negl, dv_negr]
theorem dv_scale (g a b : Int) (h : 0 ≤ g) : dv (g * a) (g * b) = g * dv a b := by
  unfold dv; rw [Int.gcd_mul_left]
  have : ((g.natAbs * a.gcd b : Nat) : Int) = (g.natAbs : Int) * (a.gcd b : Nat) := by simp
  rw [this]; congr 1; omega
theorem dv_quot {a b : Int} (h : dv a b ≠ 0) : dv (a / dv a b) (b / dv a b) = 1 := by
  have hp : 0 < dv a b := by have := dv_nn a b; omega
  have e1 : a = dv a b * (a / dv a b) := (Int.mul_ediv_cancel' (dv_l a b)).symm
  have e2 : b = dv a b * (b / dv a b) := (Int.mul_ediv_cancel' (dv_r a b)).symm
  have e : dv a b = dv a b * dv (a / dv a b) (b / dv a b) := by
    have := dv_scale (dv a b) (a / dv a b) (b / dv a b) (Int.le_of_lt hp)
    rw [← e1, ← e2] at this
    exact this
  have e' : dv a b * 1 = dv a b * dv (a / dv a b) (b / dv a b) := by rw [Int.mul_one]; exact e
  exact (Int.eq_of_mul_eq_mul_left (by omega) e').symm
structure Fr (n d : Int) : Prop where
  pos : 0 < d
  low : dv n d = 1
theorem cop_dvd {n d x : Int} (h : dv n d = 1) (q : d ∣ n * x) : d ∣ x := by
  have h' : Nat.Coprime d.natAbs n.natAbs := by
    unfold dv at h
    have : Int.gcd n d = 1 := by omega
    unfold Nat.Coprime
    rw [Nat.gcd_comm]; exact this
  have q' : d.natAbs ∣ n.natAbs * x.natAbs := by rw [← Int.natAbs_mul]; exact Int.natAbs_dvd_natAbs.mpr q
  exact Int.natAbs_dvd_natAbs.mp (h'.dvd_of_dvd_mul_left q')
theorem Fr.uniq {n d m e : Int} (h : Fr n d) (k : Fr m e) (q : n * e = m * d) : n = m ∧ d = e := by
  have h1 : d ∣ e := cop_dvd h.low ⟨m, by rw [q, Int.mul_comm]⟩
  have h2 : e ∣ d := cop_dvd k.low ⟨n, by rw [← q, Int.mul_comm]⟩
  have e1 : d = e := Int.dvd_antisymm (Int.le_of_lt h.pos) (Int.le_of_lt k.pos) h1 h2
  subst e1
  have := h.pos
  exact ⟨Int.eq_of_mul_eq_mul_right (by omega) q, rfl⟩
def rN (t b : Int) : Int := if b < 0 then t / (-(dv t b)) else t / dv t b
def rD (t b : Int) : Int := if b < 0 then b / (-(dv t b)) else b / dv t b
theorem rN_mul {t b : Int} : rN t b * (if b < 0 then -(dv t b) else dv t b) = t := by
  unfold rN
  split
  · exact Int.ediv_mul_cancel (Int.neg_dvd.mpr (dv_l t b))
  · exact Int.ediv_mul_cancel (dv_l t b)
theorem rD_mul {t b : Int} : rD t b * (if b < 0 then -(dv t b) else dv t b) = b := by
  unfold rD
  split
  · exact Int.ediv_mul_cancel (Int.neg_dvd.mpr (dv_r t b))
  · exact Int.ediv_mul_cancel (dv_r t b)
theorem rat_cross {t b : Int} (h : b ≠ 0) : rN t b * b = rD t b * t := by
  have e1 := rN_mul (t := t) (b := b)
  have e2 := rD_mul (t := t) (b := b)
  generalize (if b < 0 then -(dv t b) else dv t b) = c at e1 e2
  calc rN t b * b = rN t b * (rD t b * c) := by rw [e2]
    _ = rD t b * (rN t b * c) := by rw [← Int.mul_assoc, ← Int.mul_assoc, Int.mul_comm (rN t b)]
    _ = rD t b * t := by rw [e1]
theorem rat_fr {t b : Int} (h : b ≠ 0) : Fr (rN t b) (rD t b) := by
  have hp := dv_pos (a := t) h
  refine ⟨?_, ?_⟩
  · unfold rD
    by_cases hb : b < 0
    · rw [if_pos hb, Int.ediv_neg]
      obtain ⟨k, hk⟩ := dv_r t b
      have : b / dv t b = k := Int.ediv_eq_of_eq_mul_right (by omega) hk
      rw [this]
      rcases Int.lt_or_le k 0 with q | q
      · omega
      · have := Int.mul_nonneg (Int.le_of_lt hp) q; omega
    · rw [if_neg hb]
      obtain ⟨k, hk⟩ := dv_r t b
      have : b / dv t b = k := Int.ediv_eq_of_eq_mul_right (by omega) hk
      rw [this]
      rcases Int.lt_or_le 0 k with q | q
      · exact q
      · have := Int.mul_nonneg_of_nonpos_of_nonpos (a := -(dv t b)) (b := k) (by omega) q
        rw [Int.neg_mul] at this
        omega
  · have q := dv_quot (a := t) (b := b) (by omega)
    unfold rN rD
    by_cases hb : b < 0
    · rw [if_pos hb, if_pos hb, Int.ediv_neg, Int.ediv_neg, dv_negl, dv_negr]; exact q
    · rw [if_neg hb, if_neg hb]; exact q
def Sz (n : Nat) (x : Int) : Prop := x.natAbs < 2 ^ n
theorem Sz.mono {m n : Nat} {x : Int} (h : Sz m x) (hm : m ≤ n) : Sz n x := Nat.lt_of_lt_of_le h (Nat.pow_le_pow_right (by decide) hm)
theorem Sz.mul {m n : Nat} {x y : Int} (h : Sz m x) (k : Sz n y) : Sz (m + n) (x * y) := by
  unfold Sz at *
  rw [Int.natAbs_mul, Nat.pow_add]
  by_cases hy : y.natAbs = 0
  · rw [hy, Nat.mul_zero]; exact Nat.mul_pos (Nat.two_pow_pos m) (Nat.two_pow_pos n)
  · exact Nat.mul_lt_mul_of_lt_of_lt h k
theorem Sz.add {n : Nat} {x y : Int} (h : Sz n x) (k : Sz n y) : Sz (n + 1) (x + y) := by
  unfold Sz at *
  rw [Nat.pow_succ]; omega
theorem Sz.sub {n : Nat} {x y : Int} (h : Sz n x) (k : Sz n y) : Sz (n + 1) (x - y) := by
  unfold Sz at *
  rw [Nat.pow_succ]; omega
theorem Sz.neg {n : Nat} {x : Int} (h : Sz n x) : Sz n (-x) := by unfold Sz at *; omega
theorem Sz.le {n : Nat} {x y : Int} (h : Sz n y) (k : x.natAbs ≤ y.natAbs) : Sz n x := Nat.lt_of_le_of_lt k h
theorem Sz.zero (n : Nat) : Sz n 0 := Nat.two_pow_pos n
theorem Sz.of {n : Nat} {x : Int} (h1 : -(2 ^ n : Nat) < x) (h2 : x < (2 ^ n : Nat)) : Sz n x := by unfold Sz; omega
theorem Sz.div {n : Nat} {x y : Int} (h : Sz n x) : Sz n (x / y) := by
  unfold Sz at *
  rcases Int.le_total 0 x with q | q
  · have := Int.natAbs_ediv_le_natAbs x y
    omega
  · have := Int.natAbs_ediv_le_natAbs x y
    omega
theorem Sz.dvd {n : Nat} {x y : Int} (h : Sz n y) (d : x ∣ y) (hy : y ≠ 0) : Sz n x := by
  refine h.le ?_
  exact Nat.le_of_dvd (by omega) (Int.natAbs_dvd_natAbs.mpr d)
end Sw
namespace Sw
theorem Sz.lit {x : Int} (h : x.natAbs < 1606938044258990275541962092341162602522202993782792835301376) : Sz 5000 x := by
  have e : (2 : Nat) ^ 200 = 1606938044258990275541962092341162602522202993782792835301376 := by decide
  exact Nat.lt_of_lt_of_le (by rw [e]; exact h) (Nat.pow_le_pow_right (by decide) (by decide : 200 ≤ 5000))
end Sw
namespace Sw
end Sw
namespace Sw
theorem Sz.r18 {x : Int} (h1 : -100000000000000000000 < x) (h2 : x < 100000000000000000000) : Sz 70 x := by
  have e : (2 : Nat) ^ 70 = 1180591620717411303424 := by decide
  unfold Sz; rw [e]; omega
theorem Sz.one (n : Nat) : Sz (n + 1) 1 := by
  unfold Sz
  exact Nat.lt_of_lt_of_le (by decide : Int.natAbs 1 < 2 ^ 1) (Nat.pow_le_pow_right (by decide) (by omega))
end Sw
namespace L2
open PySem PySem.Spec PyProof.Rows
theorem bits_of_sz {n : Nat} {x : Int} (h : Sw.Sz n x) : Builtin.Int.intBits x ≤ n := by
  unfold Builtin.Int.intBits
  split
  · exact Nat.zero_le _
  · rename_i hx
    have hx' : x ≠ 0 := by simpa using hx
    have : x.natAbs.log2 < n := (Nat.log2_lt (by omega)).mpr h
    omega
def CMulL (i j : Int) : Prop := Sw.Sz 5000 i ∧ Sw.Sz 5000 j
def CDivL (i j : Int) : Prop := 0 < j ∧ Sw.Sz 5000 j
def CDivS (i j : Int) : Prop := j ≠ 0 ∧ Sw.Sz 5000 j
theorem pylong_of {i j : Int} (h0 : j ≠ 0) (h : Sw.Sz 5000 j) : Builtin.divisionGoesByPylong i j = false := by
  refine PyProof.noPylong_of_log2 ?_
  have : j.natAbs.log2 < 5000 := (Nat.log2_lt (by omega)).mpr h
  omega
section
variable {X : Cx}
theorem op_mulL : OpR X (binaryOp .Mult) (rI CMulL fun i j => .int (i * j)) := opI fun _ _ _ _ _ _ _ hc q =>
  mul_int q (IntMulOk.of_bits (Nat.le_trans (bits_of_sz hc.1) (by decide)) (Nat.le_trans (bits_of_sz hc.2) (by decide)))
theorem op_fdivL : OpR X (binaryOp .FloorDiv) (rI CDivL fun i j => .int (i / j)) := opI fun i j _ _ _ _ _ hc q => by
  have h1 : (0 : Int) < j := hc.1
  exact floordiv_int (by omega) (by rw [Int.fdiv_eq_ediv_of_nonneg i (by omega)]; exact q) (.inl (pylong_of (by omega) hc.2))
theorem op_fdivS : OpR X (binaryOp .FloorDiv) (rI CDivS fun i j => .int (i.fdiv j)) := opI fun _ _ _ _ _ _ _ hc q => floordiv_int hc.1 q (.inl (pylong_of hc.1 hc.2))
def clsV : V → Option Value
  | .ty n => some (.type n)
  | .ref a => some (.ref a)
  | _ => none
theorem call_isinst : CallR X (.builtin "isinstance") (fun xs H Q => ∃ x c t cv b, xs = [x, c] ∧ clsV c = some cv ∧ TyOf X.K H x t ∧ PySem.W.kitOne X.K t cv = some b ∧ Q (.bl b) H) := by
  intro pins s σ H xs us Q I r h
  obtain ⟨x, c, t, cv, b, rfl, hc, ty, e, q⟩ := h
  obtain ⟨u, v, rfl, rx, rc⟩ := Vals.two r
  have ec : v = cv := by
    cases c with
    | ty n => cases (show v = Value.type n from rc); exact Option.some.inj hc
    | ref a => cases (show v = Value.ref a from rc); exact Option.some.inj hc
    | _ => cases hc
  subst ec
  exact isinst_ok I rx ty e fun tk => ⟨.bl b, H, I.tok _, rfl, q⟩
structure Def (P : Program) (w : World) (K : PySem.W.Frag) (mg : Str → Option Value) (base : Heap) (CX : CXT) (k : Nat) (x : Str) (ps : List Str) (sp : Sp) : Prop where
  ex : ∃ (f : Addr) (fd : FuncData), FnOk P w K mg base CX k f fd ps sp ∧ Binds K fd ps [] ∧ PySem.W.keepIn K (.ref f) = true ∧ mg x = some (.ref f)
structure Src (K : PySem.W.Frag) (mg : Str → Option Value) (x : Str) (st : Stmt) (ps : List Str) : Prop where
  ex : ∃ (f : Addr) (fd : FuncData), Fun K x x st f fd ∧ Binds K fd ps [] ∧ mg x = some (.ref f)
theorem Src.ok {P : Program} {w : World} {K : PySem.W.Frag} {mg : Str → Option Value} {base : Heap} {x : Str} {st : Stmt} {N ps : List Str} {k : Nat} {sp : Sp} (F : Src K mg x st ps) (S : FnScope N ps (defScope st)) (len : ∀ vs H Q E, sp vs H Q E → vs.length = ps.length)
    (hbody : ∀ (f : Addr) (cdv : Value) (A : Around) (outer : List Env) (s : Shared) (H : Hp) (vs : List V) (Q : VK) (E : XK), Room k (A.deeper (envOfC x (defScope st) s.heap.objs.size f cdv)) → sp vs H Q E →
      ∃ t, PSs (cxOf CX0 P w K mg base N x (defScope st) f cdv A outer s H E).nox (defBody st) t ∧ t { nx := fun _ H' => Q .non H', rt := Q } (start N vs) H) : Def P w K mg base CX0 (k + 1) x ps sp := by
  obtain ⟨f, fd, F, b, m⟩ := F.ex
  exact ⟨f, fd, F.ok S len (hbody f), b, F.kp, m⟩
end
end L2
namespace L2
theorem while_det {c : TT} {tb : TS} {D : Ends} {σ : St} {H : Hp} (Pv : St → Hp → Prop) (μ : St → Hp → Nat) (h0 : Pv σ H)
    (hs : ∀ σ H, Pv σ H → ∃ b : Bool, (∀ Q : Bool → Hp → Prop, Q b H → c σ H Q) ∧ (b = true → tb { D with nx := fun σ' H' => Pv σ' H' ∧ μ σ' H' < μ σ H, ct := fun σ' H' => Pv σ' H' ∧ μ σ' H' < μ σ H, bk := D.nx } σ H) ∧ (b = false → D.nx σ H)) : tWhile c tb D σ H := by
  refine ⟨fun m σ H => m = μ σ H ∧ Pv σ H, ⟨_, rfl, h0⟩, ?_⟩
  rintro m σ H ⟨rfl, p⟩
  obtain ⟨b, hc, h1, h2⟩ := hs σ H p
  refine hc _ ?_
  cases b with
  | true => exact ⟨_, fun σ' H' ⟨p', l⟩ => ⟨_, l, rfl, p'⟩, h1 rfl⟩
  | false => exact h2 rfl
end L2
namespace L2
open PySem PySem.Spec PyProof.Rows
def spLaw (K : PySem.W.Frag) : Sp := fun vs H Q _ => ∃ (a : Addr) (ns : List Int), vs = [.ref a] ∧ SqL K H a (ns.map V.int) ∧ ns.length ≤ 63 ∧ ∀ H', Q (.bl true) H'
end L2
namespace L2
open PySem PySem.Spec PyProof.Rows
def spInt1 (g : Int → Int) : Sp := fun vs H Q _ => ∃ a, vs = [.int a] ∧ Q (.int (g a)) H
def spInt2 (g : Int → Int → Int) : Sp := fun vs H Q _ => ∃ a b, vs = [.int a, .int b] ∧ Q (.int (g a b)) H
def cellI (ns : List Int) (k : Int) : Int := (ns[k.toNat]?).getD 0
def spCell (K : PySem.W.Frag) : Sp := fun vs H Q _ => ∃ a ns k, vs = [.ref a, .int k] ∧ SqL K H a (ns.map V.int) ∧ 0 ≤ k ∧ Q (.int (cellI ns k)) H
theorem cellAt_get {ns : List Int} {k : Int} (h0 : 0 ≤ k) (h : k < ns.length) : atI (ns.map V.int) k = some (V.int (cellI ns k)) := by
  have e : ((k.toNat : Nat) : Int) = k := by omega
  have hl : k.toNat < ns.length := by omega
  have q : (ns.map V.int)[k.toNat]? = some (V.int (cellI ns k)) := by
    rw [List.getElem?_map]
    unfold cellI
    rw [List.getElem?_eq_getElem hl]
    rfl
  have := atI_nat q
  rw [e] at this
  exact this
theorem cellAt_none {ns : List Int} {k : Int} (h0 : 0 ≤ k) (h : ¬ k < ns.length) : cellI ns k = 0 := by
  unfold cellI
  rw [List.getElem?_eq_none (by omega)]
  rfl
def spWhole : Sp := fun vs H Q _ => ∃ n, vs = [.int n] ∧ Q (.bl true) H
theorem kit_int_bool {K : PySem.W.Frag} : PySem.W.kitOne K (.type "int") (.type "bool") = some false := by first | rfl | decide
end L2
namespace L2
theorem seq_step {t u : TS} {D : Ends} {σ : St} {H : Hp} (h : ∀ R : St → Hp → Prop, (∀ σ H, u D σ H → R σ H) → t { D with nx := R } σ H) : tSeq t u D σ H := h (u D) fun _ _ x => x
end L2
namespace L2
open PySem PySem.Spec PyProof.Rows
theorem spCell_of {K : PySem.W.Frag} {H : Hp} {a : Addr} {ns : List Int} {k : Int} {Q : VK} {E : XK} (hS : SqL K H a (ns.map V.int)) (h0 : 0 ≤ k) (q : Q (.int (cellI ns k)) H) : spCell K [.ref a, .int k] H Q E := ⟨a, ns, k, rfl, hS, h0, q⟩
end L2
namespace L2
theorem cmulL_lit {a b : Int} (h1 : a.natAbs < 1606938044258990275541962092341162602522202993782792835301376) (h2 : b.natAbs < 1606938044258990275541962092341162602522202993782792835301376) : CMulL a b := ⟨Sw.Sz.lit h1, Sw.Sz.lit h2⟩
theorem cdivL_lit {a b : Int} (h0 : 0 < b) (h2 : b.natAbs < 1606938044258990275541962092341162602522202993782792835301376) : CDivL a b := ⟨h0, Sw.Sz.lit h2⟩
end L2
namespace L2
open PySem
theorem line_lit {n : Nat} (h : n ≤ 1000) : n ≤ sizeLine := Nat.le_trans h (by decide)
theorem line_lt {n : Nat} (h : n < 1000) : n < sizeLine := Nat.lt_of_lt_of_le h (by decide)
end L2
namespace L2
open PySem
theorem ixT_at {K : PySem.W.Frag} {H : Hp} {p : Addr} {xs : List V} {i : Int} {v : V} {Q : VK} (hT : SqT K H p xs) (h : atI xs i = some v) (q : Q v H) : rIxT K (.ref p) (.int i) H Q := ⟨p, xs, i, v, rfl, rfl, hT, h, q⟩
theorem ixL_at {K : PySem.W.Frag} {H : Hp} {p : Addr} {xs : List V} {i : Int} {v : V} {Q : VK} (hT : SqL K H p xs) (h : atI xs i = some v) (q : Q v H) : rIxL K (.ref p) (.int i) H Q := ⟨p, xs, i, v, rfl, rfl, hT, h, q⟩
end L2
namespace L2
open PySem PySem.Spec PyProof.Rows
theorem kit_tuple {K : PySem.W.Frag} : PySem.W.kitOne K (.type "tuple") (.type "tuple") = some true := by rfl
theorem kit_list {K : PySem.W.Frag} : PySem.W.kitOne K (.type "list") (.type "list") = some true := by rfl
end L2
namespace L2
theorem iteN {c A B : Prop} [Decidable c] (hc : ¬ c) (h : B) : if c then A else B := by rw [if_neg hc]; exact h
end L2
namespace L2
end L2
namespace L2
open PySem PySem.Spec PyProof.Rows
mutual
inductive Deep (K : PySem.W.Frag) (H : Hp) : V → PyData → Prop
  | non : Deep K H .non .none
  | bl (b : Bool) : Deep K H (.bl b) (.bool b)
  | int (i : Int) : Deep K H (.int i) (.int i)
  | str (x : Str) : Deep K H (.str x) (.str x)
  | tup {a : Addr} {xs : List V} {ds : List PyData} : SqT K H a xs → DeepAll K H xs ds → Deep K H (.ref a) (.tuple ds)
  | lst {a : Addr} {xs : List V} {ds : List PyData} : SqL K H a xs → DeepAll K H xs ds → Deep K H (.ref a) (.list ds)
inductive DeepAll (K : PySem.W.Frag) (H : Hp) : List V → List PyData → Prop
  | nil : DeepAll K H [] []
  | cons {x : V} {d : PyData} {xs : List V} {ds : List PyData} : Deep K H x d → DeepAll K H xs ds → DeepAll K H (x :: xs) (d :: ds)
end
section
variable {X : Cx} {pins : List (Addr × Obj)} {σ : St} {H : Hp} {s : Shared}
mutual
theorem deep_reads (I : Inv X pins σ H s) : ∀ {x : V} {d : PyData} {u : Value}, Deep X.K H x d → RelV x u → ∃ as, Reads s.heap u d as
  | _, _, u, .non, r => by cases (show u = Value.none from r); exact ⟨_, .none⟩
  | _, _, u, .bl b, r => by cases (show u = Value.bool b from r); exact ⟨_, .bool b⟩
  | _, _, u, .int i, r => by obtain ⟨t, rfl⟩ := (show ∃ t, u = Value.int i t from r); exact ⟨_, .int i t⟩
  | _, _, u, .str x, r => by obtain ⟨t, rfl⟩ := (show ∃ t, u = Value.str x t from r); exact ⟨_, .str x t⟩
  | _, _, u, .tup (a := a) q h, r => by
    cases (show u = Value.ref a from r)
    obtain ⟨its, rv, ⟨o, e, c, n, d⟩, hz⟩ := I.tuple q
    obtain ⟨as, ra⟩ := deep_readsAll I h rv
    exact ⟨as, reads_tuple_at e c d (by simpa using ra)⟩
  | _, _, u, .lst (a := a) q h, r => by
    cases (show u = Value.ref a from r)
    obtain ⟨its, rv, ⟨o, n, e, c, _, d⟩, hz⟩ := I.list q
    obtain ⟨as, ra⟩ := deep_readsAll I h rv
    exact ⟨_, reads_list_at e c d (by simpa using ra)⟩
theorem deep_readsAll (I : Inv X pins σ H s) : ∀ {xs : List V} {ds : List PyData} {us : List Value}, DeepAll X.K H xs ds → Vals xs us → ∃ as, ReadsAll s.heap us ds as
  | _, _, _, .nil, .nil => ⟨_, .nil⟩
  | _, _, _, .cons d h, .cons r t => by
    obtain ⟨as, q⟩ := deep_reads I d r
    obtain ⟨bs, p⟩ := deep_readsAll I h t
    exact ⟨_, .cons q p⟩
end
end
section
variable {X : Cx}
def rEqD (K : PySem.W.Frag) : R2 := fun x y H Q => ∃ d e, Deep K H x d ∧ Deep K H y e ∧ PySem.SeqAt.shaped d = true ∧ PySem.SeqAt.shaped e = true ∧ Q (.bl (PyData.eqv d e)) H
def rNeD (K : PySem.W.Frag) : R2 := fun x y H Q => ∃ d e, Deep K H x d ∧ Deep K H y e ∧ PySem.SeqAt.shaped d = true ∧ PySem.SeqAt.shaped e = true ∧ Q (.bl (!PyData.eqv d e)) H
theorem op_eqD (hu : X.A.units + 64 < cLine) : OpR X (compareOp .Eq) (rEqD X.K) := by
  intro pins s σ H x y v u Q I rx ry h
  obtain ⟨d, e, hd, he, sd, se, q⟩ := h
  obtain ⟨as, ra⟩ := deep_reads I hd rx
  obtain ⟨bs, rb⟩ := deep_reads I he ry
  exact eq_dataH ra rb sd se hu ⟨.bl _, H, I, rfl, q⟩
theorem op_neD (hu : X.A.units + 64 < cLine) : OpR X (compareOp .NotEq) (rNeD X.K) := by
  intro pins s σ H x y v u Q I rx ry h
  obtain ⟨d, e, hd, he, sd, se, q⟩ := h
  obtain ⟨as, ra⟩ := deep_reads I hd rx
  obtain ⟨bs, rb⟩ := deep_reads I he ry
  exact ne_dataH ra rb sd se hu ⟨.bl _, H, I, rfl, q⟩
end
theorem Same.seqT {K : PySem.W.Frag} {H H' : Hp} {a : Addr} {xs : List V} (e : Same H H') (h : SqT K H a xs) : SqT K H' a xs := by
  rcases h with h | h
  · refine .inl ?_
    rcases h with h | ⟨o, h⟩
    · exact .inl (e _ _ h)
    · exact .inr ⟨o, e _ _ h⟩
  · exact .inr h
mutual
theorem Deep.same {K : PySem.W.Frag} {H H' : Hp} (e : Same H H') : ∀ {x : V} {d : PyData}, Deep K H x d → Deep K H' x d
  | _, _, .non => .non
  | _, _, .bl b => .bl b
  | _, _, .int i => .int i
  | _, _, .str x => .str x
  | _, _, .tup q h => .tup (e.seqT q) (DeepAll.same e h)
  | _, _, .lst q h => .lst (e.seq q) (DeepAll.same e h)
theorem DeepAll.same {K : PySem.W.Frag} {H H' : Hp} (e : Same H H') : ∀ {xs : List V} {ds : List PyData}, DeepAll K H xs ds → DeepAll K H' xs ds
  | _, _, .nil => .nil
  | _, _, .cons d h => .cons (Deep.same e d) (DeepAll.same e h)
end
theorem DeepAll.ints {K : PySem.W.Frag} {H : Hp} : ∀ ns : List Int, DeepAll K H (ns.map V.int) (ns.map PyData.int)
  | [] => .nil
  | n :: r => .cons (.int n) (DeepAll.ints r)
theorem same_new {H : Hp} {a : Addr} {o : HO} (h : H a = none) : Same H (upd H a o) := fun b u e => by rw [upd_ne (ne_of_none e h)]; exact e
end L2
namespace L2
open PySem PySem.Spec PyProof.Rows
def Ite (K : PySem.W.Frag) (a : Addr) : It :=
  ⟨fun i H => ∃ xs x, SqL K H a xs ∧ xs[i]? = some x,
   fun i H y H' => ∃ p x, y = .ref p ∧ H p = none ∧ (∀ xs, SqL K H a xs → xs[i]? = some x) ∧ H' = upd H p (.tup [.int i, x]),
   fun i H => ∃ xs, SqL K H a xs ∧ xs.length ≤ i⟩
theorem turn_enum {P : Program} {w : World} {K : PySem.W.Frag} {elts : List Expr} {x1} {pos : Pos} (a e it : Addr) (hei : e ≠ it) :
    Turn P w K (.Tuple elts x1 pos) (Ite K a) [e, it] e (fun i h => (∃ old, IsEnum h e it ((i : Nat) : Int) old) ∧ h.IsListIter it a i) where
  mem := by simp
  obj := fun i h st b hb => by
    obtain ⟨⟨old, he⟩, hit⟩ := st
    rcases List.mem_cons.mp hb with rfl | hb
    · exact ⟨_, he, fun v z => by cases z⟩
    · have e : b = it := by simpa using hb
      subst e
      obtain ⟨o, e, c, d⟩ := hit
      exact ⟨o, e, fun v z => by rw [d] at z; cases z⟩
  keep := fun i h h' st k => by
    obtain ⟨⟨old, he⟩, hit⟩ := st
    exact ⟨⟨old, k e (by simp) _ he⟩, hit.at fun o q => k it (by simp) o q⟩
  item := by
    intro X hP hw hK hc i pins s σ H E I hf st hg
    subst hP hw hK
    obtain ⟨⟨old, he⟩, hit⟩ := st
    obtain ⟨xs, x, hq, hx⟩ := hg
    obtain ⟨its, rv, p, hz⟩ := I.list hq
    obtain ⟨u, hu, ru⟩ := rv.get hx
    obtain ⟨f0, f1, f2, f3, f4, f5⟩ := hf e (by simp)
    obtain ⟨g0, g1, g2, g3, g4, g5⟩ := hf it (by simp)
    have hes : e < s.heap.objs.size := Heap.lt_size he
    have his : it < s.heap.objs.size := by obtain ⟨o, q, _⟩ := id hit; exact Heap.lt_size q
    refine wpAny_pyNext_enum_item he hit p.isList (x := u) (by simpa using hu) hei fun h1 heo hit1 ht1 hz1 hk1 => ?_
    refine ⟨.ref s.heap.objs.size, rfl, wpAny_letOwnedTupleGo_enum heo fun h2 he2 hs2 => ?_⟩
    have hs2' : Heap.SameBut e h1 h2 := hs2
    have hit2 : h2.IsListIter it a (i + 1) := hit1.at fun o q => (hs2'.2 it (Ne.symm hei)).trans q
    have fresh : H s.heap.objs.size = none := I.hok.fresh (Nat.le_refl _)
    have htup : h2.get? s.heap.objs.size = some { cls := .type "tuple", data := .seq #[.int i s.toks, u] } := (hs2'.2 _ (Nat.ne_of_gt hes)).trans ht1
    have nit : ∀ b v, H b = some v → b ≠ e ∧ b ≠ it := fun b v q => ⟨fun z => (by rw [z, f0] at q; cases q), fun z => (by rw [z, g0] at q; cases q)⟩
    have k2 : ∀ b o, b ≠ e → b ≠ it → s.heap.get? b = some o → h2.get? b = some o := fun b o n1 n2 q => (hs2'.2 b n1).trans (hk1 b o n1 n2 q)
    have up : ∀ b o, H b = some o → (upd H s.heap.objs.size (.tup [.int i, x])) b = some o := fun b o q => by rw [upd_ne (ne_of_none q fresh)]; exact q
    have I2 : Inv X pins σ (upd H s.heap.objs.size (.tup [.int i, x])) { s with heap := h2, toks := s.toks + 1 } := by
      refine I.step (g' := s.gens) (d' := s.drawn) (ch := [e, it]) (fun b hb => ?_) (fun b o _ _ hc q _ => k2 b o (fun z => hc (by simp [z])) (fun z => hc (by simp [z])) q)
        (fun b o _ _ hc q _ => ⟨o.slots, k2 b o (fun z => hc (by simp [z])) (fun z => hc (by simp [z])) q⟩) (fun b o _ q n => by rw [upd_ne (Nat.ne_of_lt (Heap.lt_size q))]; exact n)
        (fun b o hc q => ?_) (fun b ys q => up b _ q) (fun b ob v q => up b _ q) (fun b ps q => ⟨#[], by rw [up b _ q]; simp⟩) (fun m hm => ?_) (fun b v q => ?_) I.bare
      · rcases List.mem_cons.mp hb with rfl | hb
        · exact ⟨f3, f1, f4, f5⟩
        · have z : b = it := by simpa using hb
          subst z
          exact ⟨g3, g1, g4, g5⟩
      · exact ⟨o, k2 b o (fun z => hc (by simp [z])) (fun z => hc (by simp [z])) q⟩
      · obtain ⟨o, es, ep, ho, r⟩ := hm
        exact ⟨o, es, ep, k2 _ o (Ne.symm f1) (Ne.symm g1) ho, r⟩
      · by_cases hb : b = s.heap.objs.size
        · subst hb
          rw [upd_same] at q
          cases q
          exact ⟨by show 2 ≤ sizeLine; decide, [.int i s.toks, u], .cons ⟨_, rfl⟩ (.cons ru .nil), _, htup, rfl, _, rfl⟩
        · rw [upd_ne hb] at q
          refine (I.hok b v q).stay (fun c v' hc q' => ?_) (fun c z => up c _ z) fun c ys z => up c _ z
          have hcn : c ≠ e ∧ c ≠ it := by
            rcases hc with z | z
            · rw [z]; exact nit b v q
            · exact nit c _ z
          exact k2 c v' hcn.1 hcn.2 q'
    refine ⟨.ref s.heap.objs.size, _, I2, rfl, ⟨s.heap.objs.size, x, rfl, fresh, fun ys hy => by rw [I.list_inj hy hq]; exact hx, rfl⟩, ⟨⟨u, by simpa using he2⟩, hit2⟩, fun b hb => ?_⟩
    rw [upd_ne]
    · exact (hf b hb).1
    · intro z
      rcases List.mem_cons.mp hb with y | y
      · rw [y] at z; exact absurd z (Nat.ne_of_lt hes)
      · have y : b = it := by simpa using y
        rw [y] at z; exact absurd z (Nat.ne_of_lt his)
  done := by
    intro X hP hw hK hc i pins s σ H E I hf st hg
    subst hP hw hK
    obtain ⟨⟨old, he⟩, hit⟩ := st
    obtain ⟨xs, hq, hx⟩ := hg
    obtain ⟨its, rv, p, hz⟩ := I.list hq
    obtain ⟨g0, g1, g2, g3, g4, g5⟩ := hf it (by simp)
    have hl := rv.length
    exact wpAny_pyNext_enum_end (I.ok.hd hc) he hit p.isList (by simp; omega) fun h' eb => ⟨rfl, I.turned (t' := s.toks) (fun b o hb q => eb b o hb q) g0 g1 g3 g4 g5⟩
  self := fun _ _ _ _ _ st h => by
    obtain ⟨⟨old, he⟩, _⟩ := st
    exact wpAny_pyIter_enum he h
section
variable {X : Cx}
def iEnum (K : PySem.W.Frag) (ta : TA) : TI := fun σ H R => ta σ H fun vs H1 => ∃ a, vs = [.ref a] ∧ (∃ xs, SqL K H1 a xs) ∧ R (Ite K a) H1
theorem pi_enum {l : Expr} {ta : TA} {p pos tpos : Pos} {elts : List Expr} {x1} (hg : Gl X "enumerate") (hm : X.mg "enumerate" = none) (ha : PA X [l] ta) (hs : starEach [l] X.env = [(false, eval l X.env)] := by rfl) :
    PI X (.Tuple elts x1 tpos) (.Call (.Name "enumerate" p) [l] [] pos) (iEnum X.K ta) := by
  intro pins s σ H R I h
  refine Call_ (ld_blt I hg hm boot_enumerate (PyProof.Rows.callWith_type1 (thn (ha pos pins s σ H _ I h) fun us s1 ⟨vs, H1, I1, r1, q1⟩ => ?_) hs rfl))
  obtain ⟨a, rfl, ⟨xs, hq⟩, q⟩ := q1
  obtain ⟨u, rfl, r⟩ := Vals.one r1
  cases r
  obtain ⟨its, rv, p, hz⟩ := I1.list hq
  refine call_enumerate_list p.isList fun h' he hit hsz hk => ?_
  refine wpAny_pyIter_enum he ?_
  refine ⟨s1.heap.objs.size + 1, [s1.heap.objs.size + 1, s1.heap.objs.size], _, _, H1, rfl, I1.kept (t' := s1.toks) hk, turn_enum a _ _ (Nat.succ_ne_self _), ⟨⟨_, he⟩, hit⟩, fun b hb => ?_, q⟩
  rcases List.mem_cons.mp hb with e | e
  · subst e; exact I1.fpOk (Nat.le_succ _) (I1.hok.fresh (Nat.le_succ _))
  · have e : b = s1.heap.objs.size := by simpa using e
    subst e
    exact I1.fpOk (Nat.le_refl _) (I1.hok.fresh (Nat.le_refl _))
end
theorem for_enum {K : PySem.W.Frag} {a : Addr} {xs : List V} {g : TG} {tb : TS} {D : Ends} {σ : St} {H : Hp} (Pv : Nat → St → Hp → Prop) (h0 : Pv 0 σ H) (hl : ∀ i σ H, i ≤ xs.length → Pv i σ H → SqL K H a xs)
    (hs : ∀ i x σ H p, xs[i]? = some x → Pv i σ H → H p = none → g (.ref p) σ (upd H p (.tup [.int i, x])) fun σ2 H2 => tb { D with nx := Pv (i + 1), ct := Pv (i + 1), bk := D.nx } σ2 H2) (hd : ∀ σ H, Pv xs.length σ H → D.nx σ H) :
    ∃ W : Nat → Nat → St → Hp → Prop, (∃ m, W 0 m σ H) ∧ ∀ i m σ H, W i m σ H →
      ((Ite K a).stop i H ∧ D.nx σ H) ∨ ((Ite K a).go i H ∧ ∃ N : St → Hp → Prop, (∀ σ' H', N σ' H' → ∃ m', m' < m ∧ W (i + 1) m' σ' H') ∧ ∀ x H', (Ite K a).yld i H x H' → g x σ H' fun σ2 H2 => tb { D with nx := N, ct := N, bk := D.nx } σ2 H2) := by
  refine ⟨fun i m σ H => m = xs.length - i ∧ i ≤ xs.length ∧ Pv i σ H, ⟨xs.length, by simp, Nat.zero_le _, h0⟩, ?_⟩
  rintro i m σ H ⟨rfl, hi, p⟩
  have q := hl i σ H hi p
  by_cases hlt : i < xs.length
  · refine .inr ⟨⟨xs, xs[i], q, by simp [hlt]⟩, Pv (i + 1), fun σ' H' p' => ⟨xs.length - (i + 1), by omega, rfl, hlt, p'⟩, fun y H' z => ?_⟩
    obtain ⟨b, x, rfl, hb, hx, rfl⟩ := z
    exact hs i x σ H b (hx xs q) p hb
  · have e : i = xs.length := by omega
    subst e
    exact .inl ⟨⟨xs, q, Nat.le_refl _⟩, hd σ H p⟩
section
variable {prog : Program} {w : World} {A : Around} {R : Result → Shared → Prop} {s : Shared}
theorem codeAny_compLoop_go {elt target iter : Expr} {ifs : List Expr} {scope : Scope} {pos : Pos} {it acc : Value} {env : Env} (I : Nat → Shared → Prop)
    (turn : ∀ n s, I n s → wpAny (model prog w) A (pyNext it) (fun r s₁ => match r with
      | none => R (.ok .next) s₁
      | some v => wpAny (model prog w) A (letOwnedTupleGo target it v) (fun _ s₁' => wpAny (model prog w) A (assign target env v) (fun _ s₂ =>
          wpAny (model prog w) A (forIn ifs true fun c r => if r = true then do let ok ← isTrue c env (eval c env); pure (ForInStep.yield ok) else pure (ForInStep.yield r)) (fun ok s₃ =>
            if ok = true then wpAny (model prog w) A (eval elt env) (fun x s₄ =>
              wpAny (model prog w) A (call (.builtin "list.append") [acc, x]) (fun _ s₅ => ∃ m, m < n ∧ I m s₅) (notedBy (model prog w) A env fun e s' => R (.error e) s') s₄) (notedBy (model prog w) A env fun e s' => R (.error e) s') s₃
            else ∃ m, m < n ∧ I m s₃) (notedBy (model prog w) A env fun e s' => R (.error e) s') s₂) (notedBy (model prog w) A env fun e s' => R (.error e) s') s₁') (notedBy (model prog w) A env fun e s' => R (.error e) s') s₁) (notedBy (model prog w) A env fun e s' => R (.error e) s') s)
    (n : Nat) (h : I n s) :
    codeAny (model prog w) A (.compLoop (.ListComp elt [⟨target, iter, ifs, 0⟩] scope pos) 0 it acc env) R s := by
  refine codeAny_loop rfl I (fun n s hI => ?_) n h
  show wpAny _ A ((compTurn (.ListComp elt [⟨target, iter, ifs, 0⟩] scope pos) 0 it acc env).onRaise (fun x => do noteFrame x env; theTreesLotGoes x)) _ _ s
  refine wpAny_noted ?_
  rw [compTurn_list]
  refine wpAny_bind (wpAny_standAt (wpAny_bind (wpAny_mono (turn n s hI) (fun r s₁ h₁ => ?_) fun _ _ h' => h')))
  cases r with
  | none => exact wpAny_pure h₁
  | some v =>
    refine wpAny_bind (wpAny_mono h₁ (fun _ s₁' h₁' => ?_) fun _ _ h' => h')
    refine wpAny_bind (wpAny_mono h₁' (fun _ s₂ h₂ => wpAny_bind (wpAny_mono h₂ (fun ok s₃ h₃ => ?_) fun _ _ h' => h')) fun _ _ h' => h')
    cases ok with
    | false => exact wpAny_pure ⟨rfl, h₃⟩
    | true =>
      exact wpAny_bind (wpAny_bind (wpAny_mono h₃ (fun x s₄ h₄ => wpAny_bind (wpAny_mono h₄ (fun _ s₅ h₅ => wpAny_pure (wpAny_pure ⟨rfl, h₅⟩)) fun _ _ h' => h')) fun _ _ h' => h'))
end
def cxComp (X : Cx) (scope : Scope) (cl : List (Str × Addr)) (N : List Str) (fp : List Addr) (s : Shared) (H : Hp) : Cx :=
  { X with N := N, s₀ := s, H₀ := H, env := compEnvC scope cl s.heap.objs.size X.env, outer := X.stack, stack := X.stack, ex := fp, fn := fun _ => false, pn := [], xe := fun _ _ => False }
def FrOk (X : Cx) (sc : Scope) : List (Str × Nat) → Prop
  | [] => True
  | p :: r => (X.N[p.2]? = some p.1 ∧ sc.names.lookup p.1 = some .cell ∧ X.env.kindOf p.1 = some .cell) ∧ FrOk X sc r
theorem FrOk.mem {X : Cx} {sc : Scope} : ∀ {l : List (Str × Nat)}, FrOk X sc l → ∀ p ∈ l, X.N[p.2]? = some p.1 ∧ sc.names.lookup p.1 = some .cell ∧ X.env.kindOf p.1 = some .cell
  | [], _, p, hp => nomatch hp
  | q :: r, h, p, hp => by
    rcases List.mem_cons.mp hp with e | hp
    · rw [e]; exact h.1
    · exact FrOk.mem h.2 p hp
def PIfs (X : Cx) (ifs : List Expr) (t : TT) : Prop :=
  ∀ (pins : List (Addr × Obj)) (s : Shared) (σ : St) (H : Hp) (Q : Bool → Hp → Prop), Inv X pins σ H s → t σ H Q →
    wpAny (model X.prog X.w) X.A (forIn ifs true fun c r => if r = true then do let ok ← isTrue c X.env (eval c X.env); pure (ForInStep.yield ok) else pure (ForInStep.yield r)) (TP X pins σ Q) X.xe s
def tYes : TT := fun _ H Q => Q true H
theorem pifs_nil {X : Cx} : PIfs X [] tYes := fun _ _ _ H _ I h => wpAny_tests_nil ⟨H, I, h⟩
theorem pifs_one {X : Cx} {c : Expr} {t : TT} (hc : PT X c t) : PIfs X [c] t := fun pins s σ H Q I h => wpAny_tests_one (hc pins s σ H Q I h)
def tComp (nt : Nat) (fr : List (Str × Nat)) (wi : TI) (g : TG) (tc : TT) (te : TE) : TE := fun σ H Q => wi σ H fun J H1 => ∀ D, H1 D = none → ∃ W : Nat → Nat → St → Hp → Prop,
  (∃ m, W 0 m (List.replicate nt none ++ fr.map fun p => (σ[p.2]?).join) (upd H1 D (.lst []))) ∧ ∀ i m τ H', W i m τ H' →
    (J.stop i H' ∧ Q (.ref D) H') ∨ (J.go i H' ∧ ∃ N : St → Hp → Prop, (∀ τ' H'', N τ' H'' → ∃ m', m' < m ∧ W (i + 1) m' τ' H'') ∧
      ∀ x H2, J.yld i H' x H2 → g x τ H2 fun τ2 H3 => tc τ2 H3 fun b H4 => if b = true then te τ2 H4 fun y H5 => ∃ ys, H5 D = some (.lst ys) ∧ ys.length < sizeLine ∧ N τ2 (upd H5 D (.lst (ys ++ [y]))) else N τ2 H4)
section
variable {X : Cx}
theorem cx_start {scope : Scope} {cl : List (Str × Addr)} {ts : List Str} {fr : List (Str × Nat)} {fp : List Addr} {pins : List (Addr × Obj)} {σ : St} {H : Hp} {s : Shared} {h' : Heap} {m : Str → Option Value} {t' : Nat} (I : Inv X pins σ H s)
    (hkind : scope.kind = .function) (hcl : ∀ x c, cl.lookup x = some c → X.env.cells.lookup x = some c)
    (hhas : ∀ x, ((relabel scope X.env).names.lookup x = some .cell ∨ (relabel scope X.env).names.lookup x = some .free) → ∃ c, cl.lookup x = some c) (hfr : FrOk X (relabel scope X.env) fr)
    (hfp : ∀ b ∈ fp, FpOk X pins H b ∧ b < s.heap.objs.size) (hn : h'.Ns s.heap.objs.size m) (hk : ∀ b o, s.heap.get? b = some o → h'.get? b = some o) :
    Inv (cxComp X scope cl (ts ++ fr.map (·.1)) fp s H) [] (List.replicate ts.length none ++ fr.map fun p => (σ[p.2]?).join) H { s with heap := h', toks := t' } := by
  have cellK : ∀ c v, s.heap.IsCell c v → h'.IsCell c v := fun c v ⟨o, ho, hd⟩ => ⟨o, hk c o ho, hd⟩
  refine ⟨⟨I.ok.mod, hkind, I.ok.glob, I.ok.blt, Nat.le_refl _, fun x y c h1 h2 => I.ok.inj x y c (hcl x c h1) (hcl y c h2), hhas, fun x c h => (by cases h), I.ok.hd, I.ok.frames, .inl rfl, fun b hb => ?_, I.bs, Nat.le_trans I.ok.bsz I.sz, fun b o e hb => ?_, fun b hb z => ?_, I.stack, I.stkFree⟩,
    rfl, I.bare, Un.kept hk, ⟨m, hn, fun i x v e1 e2 e3 => ?_⟩, fun x c e => ?_, I.hok.fresh (Nat.le_refl _), fun x c e => I.freeC x c (hcl x c e), fun p hp => absurd (show p ∈ ([] : List (Addr × Obj)) from hp) (by simp), I.hok.kept hk, ?_⟩
  · obtain ⟨f, lt⟩ := hfp b hb
    exact ⟨Nat.ne_of_lt lt, fun x c e => f.2.2.2.2.1 x c (hcl x c e)⟩
  · obtain ⟨f, lt⟩ := hfp b hb
    rcases f.2.2.2.1 with z | z
    · exact I.ok.noex b o e z
    · exact absurd (Nat.lt_of_lt_of_le (Heap.lt_size e) (Nat.le_trans I.ok.bsz z)) (Nat.lt_irrefl _)
  · obtain ⟨f, lt⟩ := hfp b hb
    rcases List.mem_cons.mp (I.stkSub b z) with y | y
    · exact f.2.1 y
    · exact f.2.2.1 y
  · have hlen : (List.replicate ts.length (none : Option V)).length = ts.length := by simp
    by_cases hi : i < ts.length
    · rw [List.getElem?_append_left (by rw [hlen]; exact hi), List.getElem?_replicate, if_pos hi] at e2
      cases e2
    · rw [List.getElem?_append_right (by rw [hlen]; omega), hlen, List.getElem?_map] at e2
      have e1' : (ts ++ fr.map (·.1))[i]? = some x := e1
      rw [List.getElem?_append_right (by omega), List.getElem?_map] at e1'
      cases ep : fr[i - ts.length]? with
      | none => rw [ep] at e2; cases e2
      | some p =>
        rw [ep] at e1' e2
        have ex : p.1 = x := Option.some.inj e1'
        have ev : (σ[p.2]?).join = some v := Option.some.inj e2
        obtain ⟨a1, a2, a3⟩ := hfr.mem p (List.mem_of_getElem? ep)
        have ev' : σ[p.2]? = some (some v) := by
          cases q : σ[p.2]? with
          | none => rw [q] at ev; cases ev
          | some o => rw [q] at ev; cases o with
            | none => cases ev
            | some v' => cases ev; rfl
        obtain ⟨m', hn', hl'⟩ := I.loc
        obtain ⟨u, ru, lk⟩ := hl' p.2 p.1 v a1 ev' (.inr (.inl a3))
        subst ex
        refine ⟨u, ru, ?_⟩
        rcases lk with ⟨z, _⟩ | ⟨_, c, ec, z⟩
        · rw [z] at a3; cases a3
        · obtain ⟨c', ec'⟩ := hhas p.1 (.inl a2)
          have ecc : c' = c := Option.some.inj ((hcl _ _ ec').symm.trans ec)
          exact .inr ⟨.inl a2, c', ec', (by rw [ecc]; exact cellK _ _ z)⟩
  · obtain ⟨v, z⟩ := I.cell x c (hcl x c e)
    exact ⟨v, cellK _ _ z⟩
  · show _ = (ts ++ fr.map (·.1)).length
    simp
theorem pe_comp {elt target iter : Expr} {ifs : List Expr} {scope : Scope} {pos : Pos} {cl : List (Str × Addr)} {ts : List Str} {fr : List (Str × Nat)} {wi : TI} {g : TG} {tc : TT} {te : TE} (hcalm : X.calm = true)
    (hclos : closureFor scope X.env = pure cl) (hcell : ∀ y ∈ scope.names, y.2 ≠ .cell) (hkind : scope.kind = .function) (hnames : ∀ y ∈ scope.names, y.2 = .local → scope.names.lookup y.1 = some .local)
    (hcl : ∀ x c, cl.lookup x = some c → X.env.cells.lookup x = some c)
    (hhas : ∀ x, ((relabel scope X.env).names.lookup x = some .cell ∨ (relabel scope X.env).names.lookup x = some .free) → ∃ c, cl.lookup x = some c) (hfr : FrOk X (relabel scope X.env) fr)
    (hi : PI X target iter wi) (hg : ∀ fp s H, PG (cxComp X scope cl (ts ++ fr.map (·.1)) fp s H) target g) (hc : ∀ fp s H, PIfs (cxComp X scope cl (ts ++ fr.map (·.1)) fp s H) ifs tc)
    (he : ∀ fp s H, PE (cxComp X scope cl (ts ++ fr.map (·.1)) fp s H) elt te) (hs : ∀ x, foldedSetIterable iter X.env x = pure x := by intro _; rfl) :
    PE X (.ListComp elt [⟨target, iter, ifs, 0⟩] scope pos) (tComp ts.length fr wi g tc te) := by
  intro pins s σ H Q I h
  rw [eval_ListComp]
  refine wpAny_comprehension_free (use := none) rfl hs hclos hkind hnames (thn (hi pins s σ H _ I h) fun xv s1 h1 => thn h1 fun itv s2 h2 => ?_)
  obtain ⟨it, fp, tn, J, H2, rfl, I2, T, st2, f2, hR⟩ := h2
  have D0 : H2 s2.heap.objs.size = none := I2.hok.fresh (Nat.le_refl _)
  obtain ⟨W, ⟨m0, w0⟩, turn⟩ := hR s2.heap.objs.size D0
  refine wpAny_newObj_type (wpAny_newFunctionEnv hcell (by intro y hy; simp at hy) (fun h₁ hns₁ hsb₁ => ?_) hkind)
  dsimp only at hns₁ hsb₁ ⊢
  have I3 : Inv X pins σ (upd H2 s2.heap.objs.size (.lst [])) { s2 with heap := s2.heap.push { cls := .type "list", dict := none, data := .seq ([] : List Value).toArray } } :=
    I2.laid (t' := s2.toks) (fun _ _ q => Heap.get?_push_of_some _ q) (Nat.le_refl _) ⟨Nat.zero_le _, [], 0, .nil, Heap.get?_push_size _ rfl⟩
  have kp3 : ∀ b o, s2.heap.get? b = some o → (s2.heap.push { cls := .type "list", dict := none, data := .seq ([] : List Value).toArray }).get? b = some o := fun b o q => Heap.get?_push_of_some _ q
  have sz3 : (s2.heap.push { cls := .type "list", dict := none, data := .seq ([] : List Value).toArray }).objs.size = s2.heap.objs.size + 1 := Heap.size_push ..
  generalize s2.heap.push { cls := .type "list", dict := none, data := .seq ([] : List Value).toArray } = hp3 at hns₁ hsb₁ I3 kp3 sz3 ⊢
  have kp : ∀ b o, hp3.get? b = some o → h₁.get? b = some o := fun b o e => hsb₁.extBut b o (Nat.ne_of_lt (Heap.lt_size e)) (Heap.get?_push_of_some _ e)
  have flt : ∀ b ∈ fp, b < s2.heap.objs.size := fun b hb => by
    obtain ⟨o, e, _⟩ := T.obj _ _ st2 b hb
    exact Heap.lt_size e
  have fr3 : ∀ b ∈ fp, (upd H2 s2.heap.objs.size (.lst [])) b = none := fun b hb => by rw [upd_ne (Nat.ne_of_lt (flt b hb))]; exact (f2 b hb).1
  have f3 : ∀ b ∈ fp, FpOk X pins (upd H2 s2.heap.objs.size (.lst [])) b ∧ b < hp3.objs.size := fun b hb => ⟨⟨fr3 b hb, (f2 b hb).2⟩, by rw [sz3]; exact Nat.lt_succ_of_lt (flt b hb)⟩
  have I4 := cx_start (ts := ts) (t' := s2.toks + ([] : List (Str × Value)).length) I3 hkind hcl hhas hfr f3 hns₁ kp
  have st4 : tn 0 h₁ := T.keep _ _ _ st2 fun b hb o e => kp b o (kp3 b o e)
  have loop : codeAny (model X.prog X.w) X.A (.compLoop (.ListComp elt [⟨target, iter, ifs, 0⟩] scope pos) 0 (.ref it) (.ref s2.heap.objs.size) (compEnvC scope cl hp3.objs.size X.env))
      (compPost (model X.prog X.w) X.A X.xe none (EP X pins σ Q) (.ref s2.heap.objs.size) hp3.objs.size) { s2 with heap := h₁, toks := s2.toks + ([] : List (Str × Value)).length } := by
    refine codeAny_compLoop_go (fun n s' => ∃ i τ H', Inv (cxComp X scope cl (ts ++ fr.map (·.1)) fp { s2 with heap := hp3 } (upd H2 s2.heap.objs.size (.lst []))) [] τ H' s' ∧ tn i s'.heap ∧ (∀ b ∈ fp, H' b = none) ∧ W i n τ H') ?_ m0 ⟨0, _, _, I4, st4, fr3, w0⟩
    rintro n s5 ⟨i, τ, H5, I5, st5, fr5, w5⟩
    have stat : ∀ {H' : Hp}, (∀ b ∈ fp, H' b = none) → ∀ b ∈ fp, FpOk (cxComp X scope cl (ts ++ fr.map (·.1)) fp { s2 with heap := hp3 } (upd H2 s2.heap.objs.size (.lst []))) [] H' b :=
      fun hn b hb => ⟨hn b hb, (I5.ok.exf b hb).1, I5.ok.exfs b hb, .inl hb, (I5.ok.exf b hb).2, fun p hp => absurd (show p ∈ ([] : List (Addr × Obj)) from hp) (by simp)⟩
    rcases turn i n τ H5 w5 with ⟨stop, qn⟩ | ⟨go, Nn, hN, step⟩
    · refine thn (T.done (cxComp X scope cl (ts ++ fr.map (·.1)) fp { s2 with heap := hp3 } (upd H2 s2.heap.objs.size (.lst []))) rfl rfl rfl hcalm i [] s5 τ H5 _ I5 (stat fr5) st5 stop) fun r s6 ⟨hr, I6⟩ => ?_
      subst hr
      obtain ⟨m, hn, _⟩ := I6.loc
      refine ⟨m, hn, fun h' hs' => ⟨.ref s2.heap.objs.size, H5, ?_, rfl, qn⟩⟩
      have neC : ∀ b o, hp3.get? b = some o → b ≠ hp3.objs.size := fun b o e => Nat.ne_of_lt (Heap.lt_size e)
      have hs'' : Heap.SameBut hp3.objs.size s6.heap h' := hs'
      refine I3.call' (s' := { s6 with heap := h' }) (ch := fp) I6.os ⟨fun b o e n hb hx => ?_, fun b o e n hb hx => ?_, I6.base.free, fun b o e hx => ?_, I6.base.tups, I6.base.frzs, I6.base.tbls⟩ (fun b ob e => ?_) I6.bare (fun b hb => ?_)
      · exact (hs''.2 b (neC b o e)).trans (I6.base.keep b o e n hb hx)
      · obtain ⟨sl, q⟩ := I6.base.slot b o e n hb hx
        exact ⟨sl, (hs''.2 b (neC b o e)).trans q⟩
      · obtain ⟨o', q⟩ := I6.base.there b o e hx
        exact ⟨o', (hs''.2 b (neC b o e)).trans q⟩
      · refine (I6.hok b ob e).stay (fun c v hc q => (hs''.2 c ?_).trans q) (fun _ q => q) fun _ _ q => q
        intro z
        have fz : H5 hp3.objs.size = none := I6.free
        rcases hc with y | y
        · rw [← y, z, fz] at e; cases e
        · rw [z, fz] at y; cases y
      · exact ⟨(f2 b hb).2.2.2.1, (f2 b hb).2.1, (f2 b hb).2.2.2.2.1, (f2 b hb).2.2.2.2.2⟩
    · refine thn (T.item (cxComp X scope cl (ts ++ fr.map (·.1)) fp { s2 with heap := hp3 } (upd H2 s2.heap.objs.size (.lst []))) rfl rfl rfl hcalm i [] s5 τ H5 _ I5 (stat fr5) st5 go) fun r s6 ⟨u, hr, h6⟩ => ?_
      subst hr
      refine thn h6 fun _ s7 ⟨x, H7, I7, r7, y7, st7, fr7⟩ => ?_
      have I7' := I7.pinned (stat fr7) (T.obj _ _ st7)
      refine wpAny_mono (hg fp _ _ _ s7 τ H7 x u _ I7' r7 (step x H7 y7)) (fun _ s8 ⟨τ8, H8, I8, q8⟩ => ?_) fun _ _ z => False.elim z
      have again : ∀ {τ9 : St} {H9 : Hp} {s9 : Shared}, Inv (cxComp X scope cl (ts ++ fr.map (·.1)) fp { s2 with heap := hp3 } (upd H2 s2.heap.objs.size (.lst []))) ([] ++ pinsAt fp s7.heap) τ9 H9 s9 → Nn τ9 H9 →
          ∃ m, m < n ∧ ∃ i τ H', Inv (cxComp X scope cl (ts ++ fr.map (·.1)) fp { s2 with heap := hp3 } (upd H2 s2.heap.objs.size (.lst []))) [] τ H' s9 ∧ tn i s9.heap ∧ (∀ b ∈ fp, H' b = none) ∧ W i m τ H' := fun {τ9 H9 s9} I9 n9 => by
        obtain ⟨m', hm, w9⟩ := hN τ9 H9 n9
        refine ⟨m', hm, i + 1, τ9, H9, I9.unpinned, T.keep _ _ _ st7 fun b hb o e => (I9.pin (b, o) (List.mem_append_right _ (List.mem_append_right _ (mem_pinsAt hb e)))).1, fun b hb => ?_, w9⟩
        obtain ⟨o, e, d⟩ := T.obj _ _ st7 b hb
        exact (I9.pin (b, o) (List.mem_append_right _ (List.mem_append_right _ (mem_pinsAt hb e)))).2.1
      refine wpAny_mono (hc fp _ _ _ s8 τ8 H8 _ I8 q8) (fun ok s9 ⟨H9, I9, q9⟩ => ?_) fun _ _ z => False.elim z
      cases ok with
      | false => exact again I9 q9
      | true =>
        refine wpAny_mono (he fp _ _ _ s9 τ8 H9 _ I9 q9) (fun y s10 ⟨v, H10, I10, rv, ys, hD, hl, qN⟩ => ?_) fun _ _ z => False.elim z
        refine wpAny_mono (mt_append (X := cxComp X scope cl (ts ++ fr.map (·.1)) fp { s2 with heap := hp3 } (upd H2 s2.heap.objs.size (.lst []))) _ s10 τ8 H10 (.ref s2.heap.objs.size) [v] (.ref s2.heap.objs.size) [y] (fun _ H => Nn τ8 H) I10 rfl (.cons rv .nil) ⟨_, ys, v, rfl, rfl, hD, hl, qN⟩) (fun _ s11 ⟨_, H11, I11, _, q11⟩ => again I11 q11) fun _ _ z => False.elim z
  exact codeAny_compStart_list loop (T.self X.A 0 _ _ _ st4 loop)
end
end L2
namespace L2
open PySem PySem.Spec PyProof.Rows
section
variable {X : Cx} {tg : Expr}
theorem ix_listK (K : PySem.W.Frag) (h : X.K = K) : IxR X (rIxL K) := h ▸ ix_list
theorem ix_tupK (K : PySem.W.Frag) (h : X.K = K) : IxR X (rIxT K) := h ▸ ix_tup
theorem sl_listK (K : PySem.W.Frag) (h : X.K = K) : SlR X (rSlL K) := h ▸ sl_list
def rLen (K : PySem.W.Frag) : List V → Hp → VK → Prop := fun xs H Q => ∃ p ys, xs = [.ref p] ∧ (SqL K H p ys ∨ SqT K H p ys) ∧ Q (.int ys.length) H
theorem call_lenK (K : PySem.W.Frag) (h : X.K = K) : CallR X (.builtin "len") (rLen K) := h ▸ call_len_seq
def rLst (K : PySem.W.Frag) : List V → Hp → VK → Prop := fun xs H Q => ∃ p ys, xs = [.ref p] ∧ (SqL K H p ys ∨ SqT K H p ys) ∧ ∀ l, H l = none → Q (.ref l) (upd H l (.lst ys))
theorem call_listK (K : PySem.W.Frag) (h : X.K = K) : CallR X (.type "list") (rLst K) := h ▸ call_list_of
def rInst (K : PySem.W.Frag) : List V → Hp → VK → Prop := fun xs H Q => ∃ x c t cv b, xs = [x, c] ∧ clsV c = some cv ∧ TyOf K H x t ∧ PySem.W.kitOne K t cv = some b ∧ Q (.bl b) H
theorem call_isinstK (K : PySem.W.Frag) (h : X.K = K) : CallR X (.builtin "isinstance") (rInst K) := h ▸ call_isinst
theorem pg_tupK (K : PySem.W.Frag) (h : X.K = K) {es : List Expr} {k : Nat} {pos : Pos} {t : TGs} {n : Nat} (hc : X.calm = true) (hq : PGs X es t)
    (hn : (assignEach es X.env).length = n := by rfl) (hst : (assignEach es X.env).findIdx? (·.1) = none := by rfl) : PG X (.Tuple es k pos) (gTup K n t) := h ▸ pg_tup hc hq hn hst
theorem pi_listK (K : PySem.W.Frag) (h : X.K = K) {l : Expr} {tl : TE} (hl : PE X l tl) : PI X tg l (iList K tl) := h ▸ pi_list hl
theorem pi_tupK (K : PySem.W.Frag) (h : X.K = K) {l : Expr} {tl : TE} (hl : PE X l tl) : PI X tg l (iTup K tl) := h ▸ pi_tup hl
theorem pi_enumK (K : PySem.W.Frag) (h : X.K = K) {l : Expr} {ta : TA} {p pos tpos : Pos} {elts : List Expr} {x1} (hg : Gl X "enumerate") (hm : X.mg "enumerate" = none) (ha : PA X [l] ta) (hs : starEach [l] X.env = [(false, eval l X.env)] := by rfl) :
    PI X (.Tuple elts x1 tpos) (.Call (.Name "enumerate" p) [l] [] pos) (iEnum K ta) := h ▸ pi_enum hg hm ha hs
end
def ClOk (env : Env) : List (Str × Addr) → Prop
  | [] => True
  | p :: r => env.cells.lookup p.1 = some p.2 ∧ ClOk env r
theorem ClOk.get {env : Env} : ∀ {cl : List (Str × Addr)}, ClOk env cl → ∀ x c, cl.lookup x = some c → env.cells.lookup x = some c
  | [], _, x, c, e => by cases e
  | p :: r, h, x, c, e => by
    obtain ⟨k, a⟩ := p
    rw [List.lookup_cons] at e
    by_cases q : x = k
    · subst q
      rw [beq_self_eq_true] at e
      cases e
      exact h.1
    · rw [beq_eq_false_iff_ne.mpr q] at e
      exact ClOk.get h.2 x c e
def clAll (ns : List (Str × NameKind)) (cl : List (Str × Addr)) : Bool := ns.all fun y => match y.2 with
  | .cell => (cl.lookup y.1).isSome
  | .free => (cl.lookup y.1).isSome
  | _ => true
theorem clAll_get {ns : List (Str × NameKind)} {cl : List (Str × Addr)} (h : clAll ns cl = true) (x : Str) (q : ns.lookup x = some .cell ∨ ns.lookup x = some .free) : ∃ c, cl.lookup x = some c := by
  unfold clAll at h
  rw [List.all_eq_true] at h
  rcases q with q | q
  · have := h _ (PySem.mem_of_lookup q)
    exact Option.isSome_iff_exists.mp this
  · have := h _ (PySem.mem_of_lookup q)
    exact Option.isSome_iff_exists.mp this
theorem pe_lc {X : Cx} {elt target iter : Expr} {ifs : List Expr} {scope : Scope} {pos : Pos} {cl : List (Str × Addr)} (ts : List Str) (fr : List (Str × Nat)) {wi : TI} {g : TG} {tc : TT} {te : TE} (hcalm : X.calm = true)
    (hclos : closureFor scope X.env = pure cl) (hcell : ∀ y ∈ scope.names, y.2 ≠ .cell) (hkind : scope.kind = .function) (hnames : ∀ y ∈ scope.names, y.2 = .local → scope.names.lookup y.1 = some .local)
    (hcl : ClOk X.env cl) (hhas : clAll (relabel scope X.env).names cl = true) (hfr : FrOk X (relabel scope X.env) fr)
    (hi : PI X target iter wi) (hg : ∀ fp s H, PG (cxComp X scope cl (ts ++ fr.map (·.1)) fp s H) target g) (hc : ∀ fp s H, PIfs (cxComp X scope cl (ts ++ fr.map (·.1)) fp s H) ifs tc)
    (he : ∀ fp s H, PE (cxComp X scope cl (ts ++ fr.map (·.1)) fp s H) elt te) (hs : ∀ x, foldedSetIterable iter X.env x = pure x := by intro _; rfl) :
    PE X (.ListComp elt [⟨target, iter, ifs, 0⟩] scope pos) (tComp ts.length fr wi g tc te) :=
  pe_comp hcalm hclos hcell hkind hnames hcl.get (fun x q => clAll_get hhas x q) hfr hi hg hc he hs
end L2
namespace L2
open PySem PySem.Spec PyProof.Rows
def rAny (K : PySem.W.Frag) : List V → Hp → VK → Prop := fun xs H Q => ∃ (p : Addr) (bs : List Bool), xs = [.ref p] ∧ SqL K H p (bs.map V.bl) ∧ Q (.bl (bs.any id)) H
theorem bools_of {bs : List Bool} : ∀ {us : List Value}, Vals (bs.map V.bl) us → us = bs.map Value.bool := by
  induction bs with
  | nil => intro us r; cases r; rfl
  | cons b r ih =>
    intro us h
    cases h with
    | cons h1 h2 => rw [show _ = Value.bool b from h1, ih h2]; rfl
theorem range_any {bs : List Bool} (f : Nat → Bool) (h : ∀ i, i < bs.length → f i = bs.getD i false) : (List.range bs.length).any f = bs.any id := by
  rw [Bool.eq_iff_iff, List.any_eq_true, List.any_eq_true]
  constructor
  · rintro ⟨i, hi, q⟩
    have hi := List.mem_range.mp hi
    rw [h i hi] at q
    exact ⟨bs[i], List.getElem_mem hi, by simpa [List.getD_eq_getElem?_getD, hi] using q⟩
  · rintro ⟨b, hb, q⟩
    obtain ⟨i, hi, e⟩ := List.getElem_of_mem hb
    refine ⟨i, List.mem_range.mpr hi, ?_⟩
    rw [h i hi]
    rw [← e] at q
    simpa [List.getD_eq_getElem?_getD, hi] using q
section
variable {X : Cx}
theorem walk_bools {pins : List (Addr × Obj)} {s : Shared} {σ : St} {H : Hp} {p : Addr} {bs : List Bool} {Q : Value → Shared → Prop} (I : Inv X pins σ H s) (hc : X.calm = true) (hq : SqL X.K H p (bs.map V.bl))
    (h : ∀ s₂ : Shared, (∀ (h' : Heap) (tk : Nat), (∀ b o, b ∉ [s.heap.objs.size] → s₂.heap.get? b = some o → h'.get? b = some o) → Inv X pins σ H { s₂ with heap := h', toks := tk }) →
      (s₂.heap.IsListIter s.heap.objs.size p 0 ∧ s₂.heap.IsList p (bs.map Value.bool).toArray) → p ≠ s.heap.objs.size → Q (.ref s.heap.objs.size) s₂) (E : Value → Shared → Prop) :
    wpAny (model X.prog X.w) X.A.in1 (pyIter (.ref p)) Q E s := by
  obtain ⟨its, rv, hp, hz⟩ := I.list hq
  rw [bools_of rv] at hp
  have hl := hp.isList
  have hlt : p < s.heap.objs.size := by obtain ⟨_, e, _⟩ := id hl; exact Heap.lt_size e
  refine wpAny_pyIter_list hl (h _ (fun h' tk hk => I.kept (t' := tk) fun b o e => ?_) ⟨⟨_, Heap.get?_push_size _ rfl, rfl, rfl⟩, hl.push _⟩ (Nat.ne_of_lt hlt))
  exact hk b o (by simp [Nat.ne_of_lt (Heap.lt_size e)]) (Heap.get?_push_of_some _ e)
theorem truth_bools {A : Around} {bs : List Bool} : TruthOf X.prog X.w A (fun i v => (bs.map Value.bool).toArray[i]? = some v) (fun i => bs.getD i false) := by
  intro i v s Q E hP hQ
  have e : bs[i]?.map Value.bool = some v := by simpa using hP
  cases q : bs[i]? with
  | none => rw [q] at e; cases e
  | some b =>
    rw [q] at e
    cases e
    dsimp only at hQ
    rw [List.getD_eq_getElem?_getD, q] at hQ
    exact wpAny_truthy_bool hQ
theorem call_anyK (K : PySem.W.Frag) (h : X.K = K) (hc : X.calm = true) : CallR X (.builtin "any") (rAny K) := by
  subst h
  intro pins s σ H xs us Q I r h
  obtain ⟨p, bs, rfl, hq, q⟩ := h
  obtain ⟨u, rfl, ru⟩ := vals1 r
  cases (show u = Value.ref p from ru)
  refine call_any_walk (walk_bools I hc hq (fun s₂ J st hne => ⟨_, _, _, _, _, _, _, rfl, Walks.list (A := X.A.in1) (I.ok.hd hc) _ p hne _, st, truth_bools, fun h' tk hk => ⟨.bl _, H, J h' tk hk, ?_, q⟩⟩) _)
  show Value.bool _ = Value.bool _
  congr 1
  rw [List.size_toArray, List.length_map]
  exact range_any _ fun i hi => rfl
end
end L2
namespace L2
open PySem PySem.Spec PyProof.Rows
def CompG (J : It) (g : TG) (tc : TT) (te : TE) (D : Addr) (τ : St) (H : Hp) (Q : VK) : Prop :=
  ∃ W : Nat → Nat → St → Hp → Prop, (∃ m, W 0 m τ H) ∧ ∀ i m τ H', W i m τ H' →
    (J.stop i H' ∧ Q (.ref D) H') ∨ (J.go i H' ∧ ∃ N : St → Hp → Prop, (∀ τ' H'', N τ' H'' → ∃ m', m' < m ∧ W (i + 1) m' τ' H'') ∧
      ∀ x H2, J.yld i H' x H2 → g x τ H2 fun τ2 H3 => tc τ2 H3 fun b H4 => if b = true then te τ2 H4 fun y H5 => ∃ ys, H5 D = some (.lst ys) ∧ ys.length < sizeLine ∧ N τ2 (upd H5 D (.lst (ys ++ [y]))) else N τ2 H4)
theorem tComp_eq {nt : Nat} {fr : List (Str × Nat)} {wi : TI} {g : TG} {tc : TT} {te : TE} {σ : St} {H : Hp} {Q : VK} :
    tComp nt fr wi g tc te σ H Q = wi σ H fun J H1 => ∀ D, H1 D = none → CompG J g tc te D (List.replicate nt none ++ fr.map fun p => (σ[p.2]?).join) (upd H1 D (.lst [])) Q := rfl
theorem comp_enum {K : PySem.W.Frag} {a : Addr} {xs : List V} {g : TG} {tc : TT} {te : TE} {D : Addr} {τ : St} {H : Hp} {Q : VK} (Pv : Nat → St → Hp → Prop) (h0 : Pv 0 τ H) (hl : ∀ i τ H, i ≤ xs.length → Pv i τ H → SqL K H a xs)
    (hs : ∀ i x τ H p, xs[i]? = some x → Pv i τ H → H p = none → g (.ref p) τ (upd H p (.tup [.int i, x])) fun τ2 H3 => tc τ2 H3 fun b H4 => if b = true then te τ2 H4 fun y H5 => ∃ ys, H5 D = some (.lst ys) ∧ ys.length < sizeLine ∧ Pv (i + 1) τ2 (upd H5 D (.lst (ys ++ [y]))) else Pv (i + 1) τ2 H4)
    (hd : ∀ τ H, Pv xs.length τ H → Q (.ref D) H) :
    CompG (Ite K a) g tc te D τ H Q := by
  refine ⟨fun i m τ H => m = xs.length - i ∧ i ≤ xs.length ∧ Pv i τ H, ⟨xs.length, by simp, Nat.zero_le _, h0⟩, ?_⟩
  rintro i m τ H ⟨rfl, hi, p⟩
  have q := hl i τ H hi p
  by_cases hlt : i < xs.length
  · refine .inr ⟨⟨xs, xs[i], q, by simp [hlt]⟩, Pv (i + 1), fun τ' H' p' => ⟨xs.length - (i + 1), by omega, rfl, hlt, p'⟩, fun y H2 z => ?_⟩
    obtain ⟨b, x, rfl, hb, hx, rfl⟩ := z
    exact hs i x τ H b (hx xs q) p hb
  · have e : i = xs.length := by omega
    subst e
    exact .inl ⟨⟨xs, q, Nat.le_refl _⟩, hd τ H p⟩
abbrev Q4 := Int × Int × Int × Int
def q4 (q : Q4) : List V := [.int q.1, .int q.2.1, .int q.2.2.1, .int q.2.2.2]
def q4D (q : Q4) : PyData := .tuple [.int q.1, .int q.2.1, .int q.2.2.1, .int q.2.2.2]
abbrev Tups (H : Hp) : List Addr → List Q4 → Prop := Paired fun p q => H p = some (.tup (q4 q))
theorem Tups.len {H : Hp} {ps : List Addr} {qs : List Q4} (h : Tups H ps qs) : ps.length = qs.length := Paired.length h
theorem Tups.nil {H : Hp} : Tups H [] [] := Paired.nil
theorem Tups.same {H H' : Hp} {ps : List Addr} {qs : List Q4} (h : Tups H ps qs) (e : Same H H') : Tups H' ps qs := Paired.mapP h fun _ _ q => e _ _ q
theorem Tups.keep {H H' : Hp} {ps : List Addr} {qs : List Q4} (h : Tups H ps qs) (e : ∀ p xs, H p = some (.tup xs) → H' p = some (.tup xs)) : Tups H' ps qs := Paired.mapP h fun _ _ q => e _ _ q
theorem Tups.snoc {H : Hp} {t : Addr} {q : Q4} (ht : H t = some (.tup (q4 q))) : ∀ {ps : List Addr} {qs : List Q4}, Tups H ps qs → Tups H (ps ++ [t]) (qs ++ [q])
  | _, _, Paired.nil => .cons ht .nil
  | _, _, Paired.cons a b => .cons a (Tups.snoc ht b)
theorem Tups.take {H : Hp} : ∀ {ps : List Addr} {qs : List Q4} (n : Nat), Tups H ps qs → Tups H (ps.take n) (qs.take n)
  | _, _, 0, _ => .nil
  | _, _, _ + 1, Paired.nil => .nil
  | _, _, n + 1, Paired.cons a b => .cons a (Tups.take n b)
theorem Tups.get {H : Hp} : ∀ {ps : List Addr} {qs : List Q4} {i : Nat} {p : Addr}, Tups H ps qs → ps[i]? = some p → ∃ q, qs[i]? = some q ∧ H p = some (.tup (q4 q))
  | _, _, _, _, Paired.nil, e => by simp at e
  | _, _, 0, _, Paired.cons a _, e => by simp at e; subst e; exact ⟨_, rfl, a⟩
  | _, _, i + 1, _, Paired.cons _ b, e => by
    obtain ⟨q, h1, h2⟩ := Tups.get (i := i) b (by simpa using e)
    exact ⟨q, by simpa using h1, h2⟩
theorem Tups.deep {K : PySem.W.Frag} {H : Hp} : ∀ {ps : List Addr} {qs : List Q4}, Tups H ps qs → DeepAll K H (ps.map V.ref) (qs.map q4D)
  | _, _, Paired.nil => .nil
  | _, _, Paired.cons a b => .cons (.tup (.of a) (.cons (.int _) (.cons (.int _) (.cons (.int _) (.cons (.int _) .nil))))) (Tups.deep b)
structure Row (H : Hp) (l : Addr) (ps : List Addr) (qs : List Q4) : Prop where
  hl : H l = some (.lst (ps.map V.ref))
  r : Tups H ps qs
theorem Row.same {H H' : Hp} {l : Addr} {ps : List Addr} {qs : List Q4} (R : Row H l ps qs) (e : Same H H') : Row H' l ps qs := ⟨e _ _ R.hl, R.r.same e⟩
theorem Row.deep {K : PySem.W.Frag} {H : Hp} {l : Addr} {ps : List Addr} {qs : List Q4} (R : Row H l ps qs) : Deep K H (.ref l) (.list (qs.map q4D)) := .lst (.of R.hl) R.r.deep
structure RowI (H₀ H : Hp) (p : Addr) (ms : List V) (l : Addr) (ps : List Addr) (qs : List Q4) : Prop where
  sm : Same H₀ H
  hp : H p = some (.lst ms)
  hl : H l = some (.lst (ps.map V.ref))
  r : Tups H ps qs
theorem RowI.same {H₀ H H' : Hp} {p : Addr} {ms : List V} {l : Addr} {ps : List Addr} {qs : List Q4} (I : RowI H₀ H p ms l ps qs) (e : Same H H') : RowI H₀ H' p ms l ps qs := ⟨I.sm.trans e, e _ _ I.hp, e _ _ I.hl, I.r.same e⟩
theorem RowI.snoc {H₀ H : Hp} {p : Addr} {ms : List V} {l t : Addr} {ps : List Addr} {qs : List Q4} {q : Q4} (I : RowI H₀ H p ms l ps qs) (h0 : H₀ l = none) (hpl : p ≠ l) (ht : H t = some (.tup (q4 q))) :
    RowI H₀ (upd H l (.lst (ps.map V.ref ++ [.ref t]))) p ms l (ps ++ [t]) (qs ++ [q]) := by
  have kt : ∀ b xs, H b = some (.tup xs) → upd H l (.lst (ps.map V.ref ++ [.ref t])) b = some (.tup xs) := fun b xs e => by
    rw [upd_ne (ne_of e I.hl (by intro z; cases z))]; exact e
  refine ⟨fun b o e => ?_, by rw [upd_ne hpl]; exact I.hp, by rw [upd_same]; simp, Tups.snoc (kt _ _ ht) (I.r.keep kt)⟩
  rw [upd_ne (ne_of_none e h0)]; exact I.sm _ _ e
theorem cutV_ints (ns : List Int) (lo hi : Option Int) : ∃ ms : List Int, cutV (ns.map V.int) lo hi = ms.map V.int ∧ ms.length ≤ ns.length := by
  refine ⟨(ns.drop (HT.sIx (ns.map V.int).length 0 lo)).take (HT.sIx (ns.map V.int).length (ns.map V.int).length hi - HT.sIx (ns.map V.int).length 0 lo), ?_, ?_⟩
  · unfold cutV; rw [List.map_take, List.map_drop]
  · rw [List.length_take, List.length_drop]; omega
mutual
theorem eqv_refl : ∀ d : PyData, d.canLay0 = true → PyData.eqv d d = true
  | .none, _ => rfl
  | .bool b, _ => by simp [PyData.eqv]
  | .int i, _ => by simp [PyData.eqv]
  | .str x, _ => by simp [PyData.eqv]
  | .list xs, h => by
    have h : PyData.canLayAll0 xs = true := by simpa only [PyData.canLay0] using h
    simpa only [PyData.eqv] using eqvAll_refl xs h
  | .tuple xs, h => by
    have h : PyData.canLayAll0 xs = true := by simpa only [PyData.canLay0] using h
    simpa only [PyData.eqv] using eqvAll_refl xs h
  | .dict _, h => by simp [PyData.canLay0] at h
theorem eqvAll_refl : ∀ ds : List PyData, PyData.canLayAll0 ds = true → PyData.eqvAll ds ds = true
  | [], _ => rfl
  | d :: r, h => by
    simp only [PyData.canLayAll0, Bool.and_eq_true] at h
    simp only [PyData.eqvAll, Bool.and_eq_true]
    exact ⟨eqv_refl d h.1, eqvAll_refl r h.2⟩
end
theorem canLay_all {α : Type} {f : α → PyData} (h : ∀ a, (f a).canLay0 = true) : ∀ l : List α, PyData.canLayAll0 (l.map f) = true
  | [] => rfl
  | a :: r => by simp only [List.map_cons, PyData.canLayAll0, h a, canLay_all h r, Bool.and_self]
theorem depth_all {α : Type} {f : α → PyData} {n : Nat} (h : ∀ a, (f a).depth ≤ n) : ∀ l : List α, PyData.depthAll (l.map f) ≤ n
  | [] => Nat.zero_le _
  | a :: r => by
    have h1 := h a
    have h2 := depth_all h r
    simp only [List.map_cons, PyData.depthAll]
    omega
theorem shaped_list {α : Type} {f : α → PyData} {n : Nat} (h : ∀ a, (f a).canLay0 = true) (hd : ∀ a, (f a).depth ≤ n) (hn : n < 64) (l : List α) : PySem.SeqAt.shaped (.list (l.map f)) = true := by
  unfold PySem.SeqAt.shaped
  rw [Bool.and_eq_true, decide_eq_true_eq]
  refine ⟨by simpa only [PyData.canLay0] using canLay_all h l, ?_⟩
  have := depth_all hd l
  simp only [PyData.depth]
  omega
theorem q4D_lay (q : Q4) : (q4D q).canLay0 = true := rfl
theorem q4D_depth (q : Q4) : (q4D q).depth ≤ 1 := by simp [q4D, PyData.depth, PyData.depthAll]
theorem shaped_row (qs : List Q4) : PySem.SeqAt.shaped (.list (qs.map q4D)) = true := shaped_list q4D_lay q4D_depth (by decide) qs
end L2
namespace L2
open PySem PySem.Spec PyProof.Rows
theorem Tups.mem {H : Hp} : ∀ {ps : List Addr} {qs : List Q4}, Tups H ps qs → ∀ x ∈ ps.map V.ref, ∃ p q, x = V.ref p ∧ q ∈ qs ∧ H p = some (.tup (q4 q))
  | _, _, Paired.nil, x, hx => by simp at hx
  | _, _, Paired.cons (b := q) a b, x, hx => by
    rw [List.map_cons] at hx
    rcases List.mem_cons.mp hx with e | hx
    · exact ⟨_, q, e, by simp, a⟩
    · obtain ⟨p, q, h1, h2, h3⟩ := Tups.mem b x hx
      exact ⟨p, q, h1, List.mem_cons_of_mem _ h2, h3⟩
end L2
namespace L2
open PySem PySem.Spec PyProof.Rows
section
variable {X : Cx}
theorem op_eqDK (K : PySem.W.Frag) (h : X.K = K) (hu : X.A.units + 64 < cLine) : OpR X (compareOp .Eq) (rEqD K) := h ▸ op_eqD hu
theorem op_neDK (K : PySem.W.Frag) (h : X.K = K) (hu : X.A.units + 64 < cLine) : OpR X (compareOp .NotEq) (rNeD K) := h ▸ op_neD hu
end
theorem eq_at {K : PySem.W.Frag} {H : Hp} {x y : V} {d e : PyData} {Q : VK} (hx : Deep K H x d) (hy : Deep K H y e) (sd : PySem.SeqAt.shaped d = true) (se : PySem.SeqAt.shaped e = true) (q : Q (.bl (PyData.eqv d e)) H) : rEqD K x y H Q := ⟨d, e, hx, hy, sd, se, q⟩
theorem ne_at {K : PySem.W.Frag} {H : Hp} {x y : V} {d e : PyData} {Q : VK} (hx : Deep K H x d) (hy : Deep K H y e) (sd : PySem.SeqAt.shaped d = true) (se : PySem.SeqAt.shaped e = true) (q : Q (.bl (!PyData.eqv d e)) H) : rNeD K x y H Q := ⟨d, e, hx, hy, sd, se, q⟩
theorem ne_same {K : PySem.W.Frag} {H : Hp} {x y : V} {d : PyData} {Q : VK} (hx : Deep K H x d) (hy : Deep K H y d) (sd : PySem.SeqAt.shaped d = true) (q : Q (.bl false) H) : rNeD K x y H Q := by
  refine ne_at hx hy sd sd ?_
  rw [eqv_refl d (PySem.SeqAt.canLay_of_shaped sd)]; exact q
theorem eq_same {K : PySem.W.Frag} {H : Hp} {x y : V} {d : PyData} {Q : VK} (hx : Deep K H x d) (hy : Deep K H y d) (sd : PySem.SeqAt.shaped d = true) (q : Q (.bl true) H) : rEqD K x y H Q := by
  refine eq_at hx hy sd sd ?_
  rw [eqv_refl d (PySem.SeqAt.canLay_of_shaped sd)]; exact q
theorem lst_at {K : PySem.W.Frag} {H : Hp} {p : Addr} {ys : List V} {Q : VK} (h : SqL K H p ys) (q : ∀ l, H l = none → Q (.ref l) (upd H l (.lst ys))) : rLst K [.ref p] H Q := ⟨p, ys, rfl, .inl h, q⟩
theorem len_at {K : PySem.W.Frag} {H : Hp} {p : Addr} {ys : List V} {Q : VK} (h : SqL K H p ys) (q : Q (.int ys.length) H) : rLen K [.ref p] H Q := ⟨p, ys, rfl, .inl h, q⟩
theorem slL_at {K : PySem.W.Frag} {H : Hp} {p : Addr} {xs : List V} {lo hi : Option Int} {Q : VK} (h : SqL K H p xs) (q : ∀ l, H l = none → Q (.ref l) (upd H l (.lst (cutV xs lo hi)))) : rSlL K (.ref p) lo hi H Q := ⟨p, xs, rfl, h, q⟩
theorem Row.copy {H : Hp} {l l' : Addr} {ps : List Addr} {qs : List Q4} (R : Row H l ps qs) (h : H l' = none) : Row (upd H l' (.lst (ps.map V.ref))) l' ps qs := ⟨upd_same, R.r.same (same_new h)⟩
theorem cut_take (xs : List V) (n : Nat) (h : n ≤ xs.length) : cutV xs none (some (n : Int)) = xs.take n := by
  unfold cutV
  rw [HT.sIx_none, HT.sIx_nat]
  simp [Nat.min_eq_left h]
end L2
namespace L2
open PySem PySem.Spec PyProof.Rows
def XTr (B : Heap) (e : Addr) (h : Heap) (vs : Array Value) : Option Value → Prop
  | none => vs[1]? = some Value.none
  | some f => ∃ T oT ts, vs[1]? = some (.ref T) ∧ B.get? T = none ∧ T ≠ e ∧ h.get? T = some oT ∧ oT.data = .fields ts ∧ ts[3]? = some f
structure XAt (B : Heap) (e : Addr) (cls : Value) (dct : Option Addr) (fl : Option Value) (h : Heap) : Prop where
  stay : B.StaysIn h
  new : B.get? e = none
  ex : ∃ oe vs, h.get? e = some oe ∧ oe.cls = cls ∧ oe.dict = dct ∧ oe.data = .fields vs ∧ 1 < vs.size ∧ XTr B e h vs fl
structure UpS (h h' : Heap) : Prop where
  sl : ∀ b o, h.get? b = some o → (∀ vs, o.data ≠ .fields vs) → ∃ sl, h'.get? b = some { o with slots := sl }
  th : ∀ b o, h.get? b = some o → ∃ o', h'.get? b = some o'
theorem UpS.refl (h : Heap) : UpS h h := ⟨fun _ o e _ => ⟨o.slots, e⟩, fun _ o e => ⟨o, e⟩⟩
theorem UpS.trans {h h1 h2 : Heap} (a : UpS h h1) (b : UpS h1 h2) : UpS h h2 := by
  refine ⟨fun c o e n => ?_, fun c o e => ?_⟩
  · obtain ⟨s1, e1⟩ := a.sl c o e n
    obtain ⟨s2, e2⟩ := b.sl c _ e1 n
    exact ⟨s2, e2⟩
  · obtain ⟨o1, e1⟩ := a.th c o e
    exact b.th c o1 e1
theorem UpS.funs {h h' B : Heap} {l : List Env} (u : UpS h h') (f : h.FunFrames B l) : h'.FunFrames B l := f.of_keeps fun b o e n => by
  obtain ⟨sl, q⟩ := u.sl b o e n
  exact ⟨_, q, rfl⟩
section
variable {M : Model} {A : Around} {E : Value → Shared → Prop} {s : Shared} {B : Heap} {env : Env} {outer : List Env} {L e : Addr} {cls : Value} {dct : Option Addr}
theorem entry_at {fl : Option Value} {head : Value} {b1 : Bool} {Q : Unit → Shared → Prop} (fr : A.frames = some (env :: outer)) (ff : s.heap.FunFrames B (env :: outer)) (hf : env.frame = some L) (x : XAt B e cls dct fl s.heap)
    (h : ∀ h', XAt B e cls dct (some (rawInt L)) h' → UpS s.heap h' → Q () { s with heap := h' }) :
    wpAny M A (do let a ← frameOf env; let pl ← entryPlaceOf L b1; let b ← EntryCells.newEntry head a .none (rawInt L) .none pl; setField (.ref e) 1 b) Q E s := by
  obtain ⟨stay, new, oe, vs, oe1, oe2, oe3, oe4, oe5, _⟩ := x
  have nf : e ∉ (env :: outer).filterMap (·.frame) := fun z => by
    obtain ⟨_, o, q, n⟩ := ff.mem z
    rw [oe1] at q
    cases q
    exact n vs oe4
  refine wpAny_bind (wpAny_frameOf_fun fr ff hf fun h1 sl => wpAny_bind (wpAny_entryPlaceOf fun pl ip => ?_))
  have e1 : h1.get? e = some oe := (sl.2.1 e nf).trans oe1
  have st1 : B.StaysIn h1 := fun b o q => (sl.2.1 b fun z => by rw [(ff.mem z).1] at q; cases q).trans (stay b o q)
  unfold EntryCells.newEntry newFields
  refine wpAny_bind (wpAny_newObj_type ?_ (ip.sizeOk5 _ _ _ _ _))
  generalize hT : ({ cls := .type "traceback", dict := none, data := .fields ([head, .ref L, .none, rawInt L, .none] ++ (if pl.isEmpty then List.replicate 6 Value.none else pl)).toArray } : Obj) = oT
  have e2 : (h1.push oT).get? e = some oe := Heap.get?_push_of_some _ e1
  have ne : h1.objs.size ≠ e := Nat.ne_of_gt (Heap.lt_size e1)
  refine wpAny_setField e2 oe4 oe5 (h _ ⟨fun b o q => ?_, new, _, _, Heap.get?_update_self _ e2 (Obj.isFreed_of_fields (Obj.data_mapFields oe4 _)), (Obj.cls_mapFields _ _).trans oe2, ?_, Obj.data_mapFields oe4 _, by simpa using oe5, h1.objs.size, oT, _, by simp [oe5], st1.fresh, ne, ?_, by rw [← hT], ?_⟩ ⟨fun b o q n => ?_, fun b o q => ?_⟩)
  · rw [Heap.get?_update_other _ _ fun z => by rw [← z, new] at q; cases q]
    exact Heap.get?_push_of_some _ (st1 b o q)
  · rw [← oe3]; cases oe with | mk c d da sl => cases da <;> rfl
  · rw [Heap.get?_update_other _ _ (Ne.symm ne)]
    exact Heap.get?_push_size _ (by rw [← hT]; rfl)
  · rcases ip with rfl | ⟨_, _, _, _, _, _, _, rfl⟩ <;> simp
  · obtain ⟨s1, q1⟩ := sl.2.2 b o q
    refine ⟨s1, ?_⟩
    rw [Heap.get?_update_other _ _ fun z => by rw [← z, oe1] at q; cases q; exact n vs oe4]
    exact Heap.get?_push_of_some _ q1
  · by_cases z : b = e
    · rw [z]; exact ⟨_, Heap.get?_update_self _ e2 (Obj.isFreed_of_fields (Obj.data_mapFields oe4 _))⟩
    · obtain ⟨s1, q1⟩ := sl.2.2 b o q
      exact ⟨_, (Heap.get?_update_other _ _ (Ne.symm z)).trans (Heap.get?_push_of_some _ q1)⟩
theorem land_at {f : Value} {Q : Unit → Shared → Prop} (x : XAt B e cls dct (some f) s.heap) (h : ∀ h', XAt B e cls dct (some .none) h' → UpS s.heap h' → Q () { s with heap := h' }) : wpAny M A (setFlight (.ref e) none) Q E s := by
  obtain ⟨stay, new, oe, vs, oe1, oe2, oe3, oe4, oe5, T, oT, ts, t1, t2, t3, t4, t5, t6⟩ := x
  unfold setFlight
  refine wpAny_bind (wpAny_field oe1 oe4 t1 ?_)
  rw [if_pos (show (Value.ref T != Value.none) = true by simp)]
  have h3 : 3 < ts.size := (Array.getElem?_eq_some_iff.mp t6).1
  have oth : ∀ (g : Obj → Obj) b, b ≠ T → (s.heap.update T g).get? b = s.heap.get? b := fun g b z => Heap.get?_update_other _ _ (Ne.symm z)
  refine wpAny_setField t4 t5 h3 (h _ ⟨fun b o q => ?_, new, oe, vs, by rw [oth _ _ (Ne.symm t3)]; exact oe1, oe2, oe3, oe4, oe5, T, _, _, t1, t2, t3, Heap.get?_update_self _ t4 (Obj.isFreed_of_fields (Obj.data_mapFields t5 _)), Obj.data_mapFields t5 _, by simp [h3]⟩ ⟨fun b o q n => ⟨o.slots, ?_⟩, fun b o q => ?_⟩)
  · rw [oth _ _ fun z => by rw [z, t2] at q; cases q]
    exact stay b o q
  · rw [oth _ _ fun z => by rw [z, t4] at q; cases q; exact n ts t5]
    exact q
  · by_cases z : b = T
    · rw [z]; exact ⟨_, Heap.get?_update_self _ t4 (Obj.isFreed_of_fields (Obj.data_mapFields t5 _))⟩
    · exact ⟨o, (oth _ _ z).trans q⟩
theorem note_at {fl : Option Value} {Q : Unit → Shared → Prop} (fr : A.frames = some (env :: outer)) (ff : s.heap.FunFrames B (env :: outer)) (hf : env.frame = some L) (x : XAt B e cls dct fl s.heap) (hfl : fl = none ∨ fl = some .none)
    (h : ∀ h', XAt B e cls dct (some (rawInt L)) h' → UpS s.heap h' → Q () { s with heap := h' }) : wpAny M A (noteFrame (.ref e) env) Q E s := by
  have x0 := x
  obtain ⟨stay, new, oe, vs, oe1, oe2, oe3, oe4, oe5, tr⟩ := x
  unfold noteFrame
  simp only [hf]
  rcases hfl with rfl | rfl
  · refine wpAny_bind (wpAny_field oe1 oe4 tr ?_)
    rw [if_neg (by decide)]
    exact entry_at fr ff hf x0 h
  · obtain ⟨T, oT, ts, t1, t2, t3, t4, t5, t6⟩ := tr
    refine wpAny_bind (wpAny_field oe1 oe4 t1 ?_)
    rw [if_pos (show (Value.ref T != Value.none) = true by simp)]
    refine wpAny_bind (wpAny_field t4 t5 t6 ?_)
    rw [if_neg (show ¬ ((Value.none == rawInt L) = true) by simp [rawInt])]
    have h3 : 3 < ts.size := (Array.getElem?_eq_some_iff.mp t6).1
    have oth : ∀ (g : Obj → Obj) b, b ≠ T → (s.heap.update T g).get? b = s.heap.get? b := fun g b z => Heap.get?_update_other _ _ (Ne.symm z)
    have up : ∀ g, UpS s.heap (s.heap.update T (Obj.mapFields g)) := fun g => ⟨fun b o q n => ⟨o.slots, by
      rw [oth _ _ fun z => by rw [z, t4] at q; cases q; exact n ts t5]; exact q⟩, fun b o q => by
      by_cases z : b = T
      · rw [z]; exact ⟨_, Heap.get?_update_self _ t4 (Obj.isFreed_of_fields (Obj.data_mapFields t5 _))⟩
      · exact ⟨o, (oth _ _ z).trans q⟩⟩
    refine wpAny_bind (wpAny_setField t4 t5 h3 ?_)
    refine entry_at (fl := some .none) fr ((up _).funs ff) hf ⟨fun b o q => ?_, new, oe, vs, by rw [oth _ _ (Ne.symm t3)]; exact oe1, oe2, oe3, oe4, oe5, T, _, _, t1, t2, t3, Heap.get?_update_self _ t4 (Obj.isFreed_of_fields (Obj.data_mapFields t5 _)), Obj.data_mapFields t5 _, by simp [h3]⟩ fun h' a b => h h' a ((up _).trans b)
    rw [oth _ _ fun z => by rw [z, t2] at q; cases q]
    exact stay b o q
theorem leave_at {fl : Option Value} {Q : Unit → Shared → Prop} (fr : A.frames = some (env :: outer)) (ff : s.heap.FunFrames B (env :: outer)) (hf : env.frame = some L) (x : XAt B e cls dct fl s.heap) (hfl : fl = none ∨ fl = some .none)
    (h : ∀ h', XAt B e cls dct (some .none) h' → UpS s.heap h' → Q () { s with heap := h' }) : wpAny M A (leaving env (.ref e)) Q E s := by
  unfold leaving
  exact wpAny_bind (note_at fr ff hf x hfl fun h1 x1 u1 => land_at (s := { s with heap := h1 }) x1 fun h2 x2 u2 => h h2 x2 (u1.trans u2))
end
end L2
namespace L2
open PySem PySem.Spec PyProof.Rows
abbrev bmV : List Value := [.type "ValueError", .type "Exception", .type "BaseException", .type "object"]
structure XC (K : PySem.W.Frag) (C : Addr) : Prop where
  hd : PySem.W.hasDictIn K C = true
  ga : PySem.W.findIn K (.ref C) "__getattribute__" = some (some (.builtin "BaseException.__getattribute__"))
  gn : PySem.W.findIn K (.ref C) "__getattr__" = some none
  sa : PySem.W.findIn K (.ref C) "__setattr__" = some (some (.builtin "object.__setattr__"))
  cl : PySem.W.findIn K (.ref C) "__class__" = some (some (.builtin "object.__class__"))
  kg : PySem.W.specialIn K (.builtin "object.__class__") "__get__" = some (some (.builtin "getset_descriptor.__get__"))
  kt : PySem.W.takesIn K (.builtin "object.__class__") = some true
  be : PySem.W.mroIn K C (.type "BaseException") = some true
  ob : PySem.W.mroIn K C (.type "object") = some true
  /-- its object and its line of classes -/
  ex : ∃ nm q N bs bm hdct sn sub ab col dd k0 k1 k2 k3 k5, K.lookup C = some (excClassObj nm q C N bs bm hdct sn sub ab col dd k0 k1 k2 k3 k5 "ValueError.__new__") ∧ PySem.W.tailIn K bmV bm = true
theorem XC.plain {K : PySem.W.Frag} {C : Addr} (q : PySem.W.excIn K C bmV "ValueError.__new__" = true) :
    ∃ nm q N bs bm hdct sn sub ab col dd k0 k1 k2 k3 k5, K.lookup C = some (excClassObj nm q C N bs bm hdct sn sub ab col dd k0 k1 k2 k3 k5 "ValueError.__new__") ∧ PySem.W.tailIn K bmV bm = true ∧ PySem.W.nsOkIn K N = true ∧ PySem.W.nsIn K N "__init__" = some none := by
  unfold PySem.W.excIn at q
  split at q
  · rename_i dd cd sl ho
    split at q
    · rename_i C' bm k0 k1 k2 k3 n k5 hm hs
      simp only [Bool.and_eq_true, beq_iff_eq, Bool.not_eq_true'] at q
      obtain ⟨⟨⟨⟨⟨rfl, rfl⟩, d1⟩, ht⟩, hok⟩, hni⟩ := q
      obtain ⟨nm, bs, mro, ns, qn, hd, sn, sub, ab, col, del⟩ := cd
      dsimp only at hm d1 hok hni
      subst hm d1
      obtain ⟨l⟩ := sl
      simp only at hs
      subst hs
      exact ⟨nm, qn, ns, bs, bm, hd, sn, sub, ab, col, dd, k0, k1, k2, k3, k5, ho, ht, hok, hni⟩
    · cases q
  · cases q
theorem tail_one {K : PySem.W.Frag} {W : Addr} (q : PySem.W.excIn K W bmV "ValueError.__new__" = true) : PySem.W.tailIn K bmV (.ref W :: bmV) = true := by
  obtain ⟨nm, q, N, bs, bm, hdct, sn, sub, ab, col, dd, k0, k1, k2, k3, k5, l, _, h1, h2⟩ := XC.plain q
  unfold PySem.W.tailIn
  simp only [l, h1, h2]
  rfl
section
variable {prog : Program} {w : World} {A : Around} {E : Value → Shared → Prop} {s : Shared} {K : PySem.W.Frag} {x C : Addr} {ox : Obj} {od : Option Obj}
theorem refuse_tail (self : Value) : ∀ {l : List Value}, PySem.W.tailIn K bmV l = true → refuseLoop self "__setattr__" l = pure ()
  | [], e => by cases e
  | v :: r, e => by
    unfold PySem.W.tailIn at e
    rcases Bool.or_eq_true_iff.mp e with q | q
    · rw [beq_iff_eq.mp q]; exact PySem.F.store_ValueError.passes self
    · split at q
      · split at q
        · simp only [Bool.and_eq_true] at q
          rw [refuseLoop_ref]
          exact refuse_tail self q.2
        · cases q
      · cases q
open PySem.W Builtin.ObjectAttr in
theorem xosa {name : Str} {tk : Tok} {v : Value} {R : Result → Shared → Prop} (X : K.In s.heap) (c : XC K C) (I : PySem.W.InstAt s.heap x ox C od) (ht : takerIn K C name = some none)
    (h : ∀ b, wpAny (model prog w) A.in1 (storeInOwnDict (.ref x) (.ref C) (.str name tk) name v b) (fun fin s' => match fin with | .done f => R (.ok f) s' | .again c' => c'.quiet = true ∧ codeAny (model prog w) A c' R s') (fun e s' => R (.error e) s') s) :
    codeAny (model prog w) A (.call (.builtin "object.__setattr__") ⟨[.ref x, .str name tk, v], []⟩) R s := by
  have SF := PySem.F.store_object
  obtain ⟨nm, q, N, bs, bm, hdct, sn, sub, ab, col, dd, k0, k1, k2, k3, k5, lk, tl⟩ := c.ex
  obtain ⟨cd, hc, em⟩ : ∃ cd, clsIn K C = some cd ∧ cd.mro = .ref C :: bm := by unfold clsIn; rw [lk]; exact ⟨_, rfl, rfl⟩
  have isi : Looks (model prog w) s.heap (isInstance (.ref x) (.type "object")) true := I.type.andThen (looks_mroIn X c.ob)
  refine codeAny_call_builtin SF.slot.plain SF.entry (@check_slot (model prog w) _ _ s "object.__setattr__" "object" "__setattr__" (.ref x) [.str name tk, v] [] _ SF.kind SF.split isi (SF.args (.ref x) (.str name tk) v) ?_)
  obtain ⟨attr, ha, hr⟩ := Option.bind_eq_some_iff.mp ht
  have L3 : Looks (model prog w) s.heap (storeTaker? attr) none := by
    cases attr with
    | none => exact .now
    | some a =>
      obtain ⟨b, hb, e⟩ := Option.map_eq_some_iff.mp hr
      refine (looks_takesIn X hb).andThen ?_
      cases b with
      | true => cases e
      | false => exact .now
  have hm : Looks (model prog w) s.heap (mroOf (.ref C)) cd.mro := (looks_clsIn X hc).andThen .now
  rw [osa_eq, refuse_eq]
  refine wpAny_bind (wpAny_bind (I.type.here (wpAny_bind (hm.here ?_))))
  rw [em, refuseLoop_ref, refuse_tail _ tl]
  refine wpAny_pure (wpAny_bind (I.type.here (wpAny_bind ((looks_findIn X ha).here (wpAny_bind (L3.here (h _)))))))
open PySem.W Builtin.ObjectAttr in
theorem xset {name : Str} {v : Value} {vs : Array Value} {mA : Str → Option Value} {ns : List Str} {Q : Unit → Shared → Prop} (X : K.In s.heap) (c : XC K C) (hx : s.heap.get? x = some ox) (hcl : ox.cls = .ref C) (hf : ox.data = .fields vs) (ht : takerIn K C name = some none)
    (hd : (ox.dict = none ∧ ∀ y, mA y = none) ∨ ∃ d, ox.dict = some d ∧ d ≠ x ∧ s.heap.Ns1 d mA) (hw : Within mA ns) (hsz : ns.length ≤ 1000)
    (h : ∀ h' d, h'.Ns1 d (fun y => if y = name then some v else mA y) → h'.get? x = some { ox with dict := some d } → d ≠ x → (ox.dict = none → s.heap.objs.size ≤ d) → (∀ d0, ox.dict = some d0 → d = d0) →
      (∀ b o, b ≠ x → b ≠ d → s.heap.get? b = some o → h'.get? b = some o) → ∀ tk, Q () { s with heap := h', toks := tk }) :
    wpAny (model prog w) A (setAttr (.ref x) name v) Q E s := by
  have nc : notCls ox = true := by unfold notCls; rw [hf]
  obtain ⟨cd, hc, hcd⟩ := any_some c.hd
  have szl : (1001 : Nat) ≤ sizeLine := by rw [sizeLine_eq]; decide
  obtain ⟨hp0, g0, dr0, tk0, os0⟩ := s
  rcases hd with ⟨hdn, hmA⟩ | ⟨d, hdn, hne, hns⟩
  · have I : PySem.W.InstAt hp0 x ox C none := ⟨hx, hcl, nc, by rw [hdn]; trivial⟩
    refine set_plain X I c.sa (xosa (s := ⟨hp0, g0, dr0, tk0 + 1, os0⟩) X c I ht fun b => ?_)
    obtain ⟨oc, odi, oda, osl⟩ := ox
    dsimp only at hcl hdn hf
    subst hcl hdn hf
    have hxs : x ≠ hp0.objs.size := Nat.ne_of_lt (Heap.lt_size hx)
    refine wpAny_bind (wpAny_pure (wpAny_bind (wpAny_bind (wpAny_loadPart hx (wpAny_bind (Looks.here (s := ⟨hp0, g0, dr0, tk0 + 1, os0⟩) (looks_clsIn X hc) ?_))))))
    rw [hcd]
    have hx1 : (hp0.push { cls := .type "dict", data := .dict #[] }).get? x = some ⟨.ref C, none, .fields vs, osl⟩ := Heap.get?_push_of_some _ hx
    refine wpAny_bind (wpAny_alloc' (wpAny_bind (wpAny_update' hx1 (wpAny_pure ?_))))
    generalize hh2 : (hp0.push { cls := .type "dict", data := .dict #[] }).update x (fun o => { o with dict := some hp0.objs.size }) = h2
    have gx : h2.get? x = some ⟨.ref C, some hp0.objs.size, .fields vs, osl⟩ := by rw [← hh2]; exact Heap.get?_update_self _ hx1 rfl
    have gd : h2.get? hp0.objs.size = some { cls := .type "dict", data := .dict #[] } := by rw [← hh2, Heap.get?_update_ne _ _ _ _ hxs.symm]; exact Heap.get?_push_at rfl rfl
    have gk : ∀ b o, b ≠ x → hp0.get? b = some o → h2.get? b = some o := fun b o z q => by rw [← hh2, Heap.get?_update_ne _ _ _ _ z]; exact Heap.get?_push_of_some _ q
    have nd : h2.Ns hp0.objs.size (fun _ => none) := ⟨_, #[], _, gd, rfl, fun e he => absurd he (by simp), fun _ => rfl⟩
    show wpAny _ _ (storeInDict hp0.objs.size (.str name tk0) name v) _ _ _
    unfold storeInDict newKeyGuard
    refine wpAny_bind (wpAny_pure (wpAny_bind (wpAny_nsSet1 (s := ⟨h2, g0, dr0, tk0 + 1, os0⟩) (Heap.Ns1.of_empty nd) fun h' hn' hs => ?_)))
    obtain ⟨oD, esD, epD, hoD, hdD, hcD⟩ := hn'.count (Within.cons name v Within.nil)
    refine wpAny_bind (wpAny_lookBehind hoD (by rw [hdD]; exact pastItsLine_dict (Nat.le_trans hcD (by rw [List.length_cons, List.length_nil]; omega))) (wpAny_pure ?_))
    refine h h' hp0.objs.size ?_ ((hs.2 x hxs).trans gx) hxs.symm (fun _ => Nat.le_refl _) (fun d0 z => by cases z) (fun b o z1 z2 q => (hs.2 b z2).trans (gk b o z1 q)) _
    obtain ⟨o', es, ep, e1, e2, e3, eu, e4⟩ := hn'
    exact ⟨o', es, ep, e1, e2, e3, eu, fun y => by rw [e4 y]; by_cases hy : y = name <;> simp [hy, hmA]⟩
  · obtain ⟨o0, es0, ep0, ho0, _⟩ := id hns
    have I : PySem.W.InstAt hp0 x ox C (some o0) := ⟨hx, hcl, nc, by rw [hdn]; exact ho0⟩
    refine set_plain X I c.sa (xosa (s := ⟨hp0, g0, dr0, tk0 + 1, os0⟩) X c I ht fun b => ?_)
    obtain ⟨oc, odi, oda, osl⟩ := ox
    dsimp only at hcl hdn hf
    subst hcl hdn hf
    refine wpAny_bind (wpAny_pure (wpAny_bind (wpAny_bind (wpAny_loadPart hx (wpAny_bind (Looks.here (s := ⟨hp0, g0, dr0, tk0 + 1, os0⟩) (looks_clsIn X hc) ?_))))))
    rw [hcd]
    refine wpAny_pure (a := some d) ?_
    show wpAny _ _ (storeInDict d (.str name tk0) name v) _ _ _
    unfold storeInDict newKeyGuard
    refine wpAny_bind (wpAny_pure (wpAny_bind (wpAny_nsSet1 (s := ⟨hp0, g0, dr0, tk0 + 1, os0⟩) hns fun h' hn' hs => ?_)))
    obtain ⟨oD, esD, epD, hoD, hdD, hcD⟩ := hn'.count (Within.cons name v hw)
    refine wpAny_bind (wpAny_lookBehind hoD (by rw [hdD]; exact pastItsLine_dict (Nat.le_trans hcD (by rw [List.length_cons]; omega))) (wpAny_pure ?_))
    exact h h' d hn' ((hs.2 x hne.symm).trans hx) hne (fun z => by cases z) (fun d0 z => by cases z; rfl) (fun b o z1 z2 q => (hs.2 b z2).trans q) _
theorem xmake0 {us : List Value} {Q : Value → Shared → Prop} (X : K.In s.heap) (q : PySem.W.excIn K C bmV "ValueError.__new__" = true) (hl : us.length ≤ sizeLine)
    (h : ∀ h' e, Heap.MadeExcOf s.heap h' e (.ref C) us → Q (.ref e) { s with heap := h' }) : wpAny (model prog w) A (call (.ref C) us) Q E s := by
  obtain ⟨nm, qn, N, bs, bm, hdct, sn, sub, ab, col, dd, k0, k1, k2, k3, k5, lk, tl, nk, ni⟩ := XC.plain q
  obtain ⟨hp, g, d, t, os⟩ := s
  exact wpAny_call_exc_subU PySem.F.excBase_ValueError rfl PySem.F.excBase_ValueError (PySem.W.tail_of_in X tl) (X _ _ lk) (.of_isNs (PySem.W.isNs_of_in X nk)) (PySem.W.nsMap_none_of_in X nk ni) (fun h' e m => h h' e m) hl
theorem xcall1 {hp : Heap} {g : Array GenState} {d : Drawn} {t : Nat} {os : OsState} {us : List Value} {fI : Addr} {Q : Fin → Shared → Prop} (X : K.In hp) (c : XC K C) (hi : PySem.W.findIn K (.ref C) "__init__" = some (some (.ref fI)))
    (hf : PySem.W.typeIn K (.ref fI) = some (.type "function")) (hl : us.length ≤ sizeLine)
    (h : ∀ h' e, Heap.MadeExcOf hp h' e (.ref C) us → h'.objs.size = hp.objs.size + 2 → e = hp.objs.size + 1 → wpAny (model prog w) A (call (.ref fI) (.ref e :: us)) (fun r s' => r = .none ∧ Q (.done (.ret (.ref e))) s') E ⟨h', g, d, t, os⟩) :
    wpAny (model prog w) A (Builtin.«type.__call__» ⟨.ref C :: us, []⟩) Q E ⟨hp, g, d, t, os⟩ := by
  obtain ⟨nm, qn, N, bs, bm, hdct, sn, sub, ab, col, dd, k0, k1, k2, k3, k5, lk, tl⟩ := c.ex
  have cl := X _ _ lk
  have TT := PySem.W.tail_of_in X tl
  repeat (first | with_reducible refine wpAny_madeBy_exc cl ?_ | with_reducible refine wpAny_loadPart_at cl ?_ | wp_step)
  refine codeAny_call_builtin_code (Code.quiet_builtin _ PySem.F.excBase_ValueError.quiet) (wpAny_check_new_subU PySem.F.excBase_ValueError rfl TT cl ?_)
  refine codeAny_exc_new_subU PySem.F.excBase_ValueError rfl PySem.F.excBase_ValueError TT cl ?_ hl
  show wpAny _ _ _ _ _ _
  have kp : ∀ b o, hp.get? b = some o → ((hp.push { cls := .type "tuple", data := .seq us.toArray }).push { cls := .ref C, data := .fields #[.ref hp.objs.size, .none, .none, .none, .bool false, .none] }).get? b = some o := fun b o e => Heap.get?_push_of_some _ (Heap.get?_push_of_some _ e)
  have ge : ((hp.push { cls := .type "tuple", data := .seq us.toArray }).push { cls := .ref C, data := .fields #[.ref hp.objs.size, .none, .none, .none, .bool false, .none] }).get? (hp.objs.size + 1) = some { cls := .ref C, data := .fields #[.ref hp.objs.size, .none, .none, .none, .bool false, .none] } := by heap_get
  have gt : ((hp.push { cls := .type "tuple", data := .seq us.toArray }).push { cls := .ref C, data := .fields #[.ref hp.objs.size, .none, .none, .none, .bool false, .none] }).get? hp.objs.size = some { cls := .type "tuple", data := .seq us.toArray } := Heap.get?_push_of_some _ (Heap.get?_push_at rfl rfl)
  have sz : ((hp.push { cls := .type "tuple", data := .seq us.toArray }).push { cls := .ref C, data := .fields #[.ref hp.objs.size, .none, .none, .none, .bool false, .none] }).objs.size = hp.objs.size + 2 := by simp
  generalize (hp.push { cls := .type "tuple", data := .seq us.toArray }).push { cls := .ref C, data := .fields #[.ref hp.objs.size, .none, .none, .none, .bool false, .none] } = h1 at kp ge gt sz ⊢
  have cl1 := kp _ _ cl
  have hcC : (Value.ref C :: bm).contains (.ref C) = true := by simp
  have X1 : K.In h1 := X.keeps kp
  have LI := PySem.W.looks_findIn (M := model prog w) X1 hi
  have LB := PySem.W.bind_fn (M := model prog w) X1 (.ref (hp.objs.size + 1)) hf
  unfold isInstance
  repeat (first | (with_reducible refine wpAny_isSubtype_exc cl1 ?_; rw [hcC]) | with_reducible refine wpAny_loadPart_at ge ?_ | wp_step)
  show wpAny _ _ (typeLookup (.ref C) _) _ _ _
  refine LI.at (wpAny_holding (wpAny_bind (LB.at ?_)))
  refine wpAny_bind (wpAny_mono (h h1 (hp.objs.size + 1) ⟨kp, Heap.get?_none_of_le (Nat.le_succ _), hp.objs.size, ge, Heap.get?_none_of_le (Nat.le_refl _), gt⟩ sz rfl) (fun r s' z => ?_) fun _ _ z => z)
  obtain ⟨rfl, z⟩ := z
  wp_walk
  exact z
theorem xmake1 {us : List Value} {fI : Addr} {Q : Value → Shared → Prop} (X : K.In s.heap) (c : XC K C) (hi : PySem.W.findIn K (.ref C) "__init__" = some (some (.ref fI))) (hf : PySem.W.typeIn K (.ref fI) = some (.type "function")) (hl : us.length ≤ sizeLine)
    (h : ∀ h' e, Heap.MadeExcOf s.heap h' e (.ref C) us → h'.objs.size = s.heap.objs.size + 2 → e = s.heap.objs.size + 1 → wpAny (model prog w) (A.under (.builtin "type.__call__" ⟨.ref C :: us, []⟩)) (call (.ref fI) (.ref e :: us)) (fun r s' => r = .none ∧ Q (.ref e) s') E { s with heap := h' }) :
    wpAny (model prog w) A (call (.ref C) us) Q E s := by
  obtain ⟨nm, qn, N, bs, bm, hdct, sn, sub, ab, col, dd, k0, k1, k2, k3, k5, lk, tl⟩ := c.ex
  obtain ⟨hp, g, d, t, os⟩ := s
  have cl := X _ _ lk
  have f1 := tc_lookup
  have f2 := tc_bind (.ref C)
  have tyC : (⟨hp, g, d, t, os⟩ : Shared).TypeIs (.ref C) "type" := ⟨_, cl, rfl⟩
  refine wpAny_call (codeAny_of_tree ?_)
  show wpAny _ _ (callAny (.ref C) _) _ _ _
  repeat (any_goals (first | assumption | with_reducible refine wpAny_loadPart_at cl ?_ | wp_step))
  refine ⟨rfl, ?_⟩
  exact codeAny_call_builtin_at (Code.quiet_builtin _ (by decide +kernel)) entry_typeCall (wpAny_check_type_call_sub cl (xcall1 X c hi hf hl fun h' e m z1 z2 => h h' e m z1 z2))
theorem xraise {env : Env} {y : Sem Value} {Q : Flow → Shared → Prop} (hh : A.handled = none)
    (h : wpAny (model prog w) A y (fun v s1 => ∃ C e oe vs, XC K C ∧ v = .ref e ∧ K.In s1.heap ∧ s1.heap.get? e = some oe ∧ oe.cls = .ref C ∧ oe.data = .fields vs ∧ vs[1]? = some Value.none ∧ E (.ref e) s1) E s) :
    wpAny (model prog w) A (raiseStmt env (some y) none) Q E s := by
  unfold raiseStmt
  refine wpAny_bind (wpAny_mono h (fun v s1 z => ?_) fun _ _ z => z)
  obtain ⟨C, e, oe, vs, c, rfl, X, e1, e2, e3, e4, fin⟩ := z
  obtain ⟨nm, qn, N, bs, bm, hdct, sn, sub, ab, col, dd, k0, k1, k2, k3, k5, lk, tl⟩ := c.ex
  obtain ⟨hp, g, d, t, os⟩ := s1
  have cl := X _ _ lk
  have hcB : (Value.ref C :: bm).contains (.type "BaseException") = true := by rw [List.contains_cons, (PySem.W.tail_of_in X tl).hasType (show bmV.contains (.type "BaseException") = true from rfl), Bool.or_true]
  obtain ⟨oc, od, oda, osl⟩ := oe
  dsimp only at e2 e3
  subst e2 e3
  have fl : ∀ {α : Type} {QQ : Value → Shared → Prop}, QQ .none ⟨hp, g, d, t, os⟩ → wpAny (model prog w) A (field (.ref e) 1) QQ E ⟨hp, g, d, t, os⟩ := fun {_ _} z => wpAny_field e1 rfl e4 z
  repeat (first | (with_reducible refine wpAny_isSubtype_exc cl ?_; rw [hcB]) | with_reducible refine wpAny_loadPart_at e1 ?_ | with_reducible refine wpAny_loadPart_at cl ?_ | with_reducible refine wpAny_field e1 rfl e4 ?_ | wp_step)
  exact wpAny_raiseNew_none hh fin
end
end L2
namespace L2
open PySem PySem.Spec PyProof.Rows
def XOb (e C : Addr) (dct : Option Addr) (fr : Bool) (h : Heap) : Prop := ∃ oe vs, h.get? e = some oe ∧ oe.cls = .ref C ∧ oe.dict = dct ∧ oe.data = .fields vs ∧ 1 < vs.size ∧ (fr = true → vs[1]? = some Value.none)
def excO (e C : Addr) (dct : Option Addr) (fr : Bool) : HO := .ext (XOb e C dct fr)
def XDt (d : Addr) (fs : List (Str × V)) (h : Heap) : Prop := ∃ mA, h.Ns1 d mA ∧ ∀ f, RelO (fs.lookup f) (mA f)
def xdO (d : Addr) (fs : List (Str × V)) : HO := .ext (XDt d fs)
section
variable {P : Program} {w : World} {H : Hp} {h : Heap}
theorem excO_ok {e C : Addr} {dct : Option Addr} {fr : Bool} (x : XOb e C dct fr h) : ObjOk P w H h e (excO e C dct fr) := by
  refine ⟨x, ?_, fun h1 h2 y k => ?_⟩
  · obtain ⟨oe, vs, e1, _⟩ := x
    exact ⟨oe, e1⟩
  · obtain ⟨oe, vs, e1, r⟩ := y
    exact ⟨oe, vs, k _ e1, r⟩
theorem xdO_ok {d : Addr} {fs : List (Str × V)} (x : XDt d fs h) : ObjOk P w H h d (xdO d fs) := by
  refine ⟨x, ?_, fun h1 h2 y k => ?_⟩
  · obtain ⟨mA, ⟨o, es, ep, e1, _⟩, _⟩ := x
    exact ⟨o, e1⟩
  · obtain ⟨mA, ⟨o, es, ep, e1, r⟩, q⟩ := y
    exact ⟨mA, ⟨o, es, ep, k _ e1, r⟩, q⟩
theorem ObjOk.there {a : Addr} {o : HO} (x : ObjOk P w H h a o) : ∃ ob, h.get? a = some ob := by
  cases o with
  | lst xs => obtain ⟨_, _, _, _, e⟩ := x; exact ⟨_, e⟩
  | tup xs => obtain ⟨_, _, _, _, e, _⟩ := x; exact ⟨_, e⟩
  | dK kvs => obtain ⟨_, _, _, _, o, _, _, e, _⟩ := x; exact ⟨_, e⟩
  | dT kvs => obtain ⟨_, _, _, _, o, _, _, e, _⟩ := x; exact ⟨_, e⟩
  | set S n => obtain ⟨o, _, _, _, e, _⟩ := x; exact ⟨_, e⟩
  | ins C dx fs => obtain ⟨_, _, _, e, _⟩ := x; exact ⟨_, e⟩
  | own y => exact x
  | xd fs => obtain ⟨_, ⟨_, _, _, e, _⟩, _⟩ := x; exact ⟨_, e⟩
  | rng lo hi => obtain ⟨_, _, _, e⟩ := x; exact ⟨_, e⟩
  | frz ob u => obtain ⟨e, _⟩ := x; exact ⟨_, e⟩
  | tbl ps => exact ⟨_, show h.get? a = some _ from x⟩
  | met f y => exact ⟨_, show h.get? a = some _ from x⟩
  | ext φ => exact x.2.1
theorem HOk.exc (x : HOk P w H h) {e C : Addr} {dct : Option Addr} {fr : Bool} (q : H e = some (excO e C dct fr)) : XOb e C dct fr h := (show ObjOk P w H h e (excO e C dct fr) from x e _ q).1
theorem HOk.xd (x : HOk P w H h) {d : Addr} {fs : List (Str × V)} (q : H d = some (xdO d fs)) : XDt d fs h := (show ObjOk P w H h d (xdO d fs) from x d _ q).1
end
structure Fly (P : Program) (w : World) (B : Heap) (l : List Env) (e C : Addr) (dct : Option Addr) (H : Hp) (h : Heap) : Prop where
  at_ : ∃ fl, (fl = none ∨ fl = some Value.none) ∧ XAt B e (.ref C) dct fl h
  ff : h.FunFrames B l
  hok : HOk P w H h
  he : H e = some (excO e C dct false)
  cov : ∀ a o, H a = some o → a ≠ e → ∃ ob, B.get? a = some ob
def CXX (P : Program) (w : World) : CXT := fun outer H s E e s' => ∃ B ea C dct H', e = .ref ea ∧ s'.os = s.os ∧ AllBare s'.gens ∧ Fly P w B outer ea C dct H' s'.heap ∧ Un (frs outer) [] H H' s.heap s'.heap ∧
  (∀ b o, s.heap.get? b = some o → H b = none → b ∉ frs outer → B.get? b = some o) ∧ E (.ref ea) dct H'
theorem hok_step {P : Program} {w : World} {B : Heap} {e C : Addr} {dct : Option Addr} {fl : Option Value} {H : Hp} {h h' : Heap} (x : HOk P w H h) (he : H e = some (excO e C dct false)) (cov : ∀ a o, H a = some o → a ≠ e → ∃ ob, B.get? a = some ob) (st : B.StaysIn h)
    (y : XAt B e (.ref C) dct fl h') : HOk P w H h' := fun a o q => by
  by_cases z : a = e
  · subst z
    rw [he] at q
    cases q
    obtain ⟨oe, vs, e1, e2, e3, e4, e5, _⟩ := y.ex
    exact excO_ok ⟨oe, vs, e1, e2, e3, e4, e5, fun z => by cases z⟩
  · refine (x a o q).stay (fun b u hb g => ?_) (fun _ q => q) fun _ _ q => q
    have hbe : ∃ o', H b = some o' ∧ b ≠ e := by
      rcases hb with rfl | hb
      · exact ⟨_, q, z⟩
      · refine ⟨_, hb, fun y => ?_⟩
        rw [y, he] at hb
        cases hb
    obtain ⟨o', h1, h2⟩ := hbe
    obtain ⟨ob, h3⟩ := cov b o' h1 h2
    have h4 := st b ob h3
    rw [g] at h4
    cases h4
    exact y.stay b _ h3
section
variable {X : Cx} {pins : List (Addr × Obj)} {σ : St} {H H' : Hp} {s : Shared} {h' : Heap}
theorem Inv.out (I : Inv X pins σ H s) (hex : X.ex = []) (u : Un (frs X.stack) [] H H' s.heap h') : Un X.fs [] X.H₀ H' X.s₀.heap h' := by
  have nl : ∀ b o, X.s₀.heap.get? b = some o → b ≠ X.env.locals := fun b o q z => absurd (Nat.lt_of_lt_of_le (Heap.lt_size q) (by rw [z]; exact I.ok.above)) (Nat.lt_irrefl _)
  have nx : ∀ b : Addr, b ∉ X.ex := fun b => by rw [hex]; simp
  have ns : ∀ b o, X.s₀.heap.get? b = some o → b ∉ X.fs → b ∉ frs X.stack := fun b o q n z => by
    rcases List.mem_cons.mp (I.stkSub b z) with y | y
    · exact nl b o q y
    · exact n y
  refine ⟨fun b o q n hb _ => u.keep b o (I.base.keep b o q n hb (nx b)) (I.base.free b o q n (nx b)) (ns b o q hb) (by simp), fun b o q n hb _ => ?_, fun b o q n _ => ?_, fun b o q _ => ?_, fun b xs q => u.tups b xs (I.base.tups b xs q), fun b o v q => u.frzs b o v (I.base.frzs b o v q), fun b ps q => ?_⟩
  · obtain ⟨sl, e⟩ := I.base.slot b o q n hb (nx b)
    have fr := I.base.free b o q n (nx b)
    by_cases hs : b ∈ frs X.stack
    · obtain ⟨sl2, e2⟩ := u.slot b _ e fr hs (by simp)
      exact ⟨sl2, e2⟩
    · exact ⟨sl, u.keep b _ e fr hs (by simp)⟩
  · obtain ⟨o1, e⟩ := I.base.there b o q (nx b)
    exact u.free b o1 e (I.base.free b o q n (nx b)) (by simp)
  · obtain ⟨o1, e⟩ := I.base.there b o q (nx b)
    exact u.there b o1 e (by simp)
  · obtain ⟨m1, e1⟩ := I.base.tbls b ps q
    obtain ⟨m2, e2⟩ := u.tbls b _ e1
    exact ⟨m1 ++ m2, by rw [e2, Array.append_assoc]⟩
def bOf (X : Cx) (e : Addr) (h : Heap) : Heap := PySem.W.hideAll h (e :: frs X.stack)
theorem Inv.flyB (I : Inv X pins σ H s) {e C : Addr} {dct : Option Addr} (he : H e = some (excO e C dct true)) :
    XAt (bOf X e s.heap) e (.ref C) dct none s.heap ∧ s.heap.FunFrames (bOf X e s.heap) X.stack ∧ (∀ b o, s.heap.get? b = some o → b ≠ e → b ∉ frs X.stack → (bOf X e s.heap).get? b = some o) := by
  obtain ⟨oe, vs, e1, e2, e3, e4, e5, e6⟩ := I.hok.exc he
  refine ⟨⟨fun b o q => PySem.W.of_hideAll _ q, PySem.W.hideAll_none _ (.head _), oe, vs, e1, e2, e3, e4, e5, e6 rfl⟩, PySem.W.funFrames_hide I.stack fun env hm a ha => .tail _ (List.mem_filterMap.mpr ⟨env, hm, ha⟩), fun b o q n1 n2 => PySem.W.hideAll_get _ q fun z => ?_⟩
  rcases List.mem_cons.mp z with y | y
  · exact n1 y
  · exact n2 y
theorem Inv.flyUn (I : Inv X pins σ H s) {e C : Addr} {dct : Option Addr} {fl : Option Value} (he : H e = some (excO e C dct true)) (x : XAt (bOf X e s.heap) e (.ref C) dct fl h') (u : UpS s.heap h') :
    Un (frs X.stack) [] H (upd H e (excO e C dct false)) s.heap h' ∧ HOk X.prog X.w (upd H e (excO e C dct false)) h' ∧ ∀ a o, upd H e (excO e C dct false) a = some o → a ≠ e → ∃ ob, (bOf X e s.heap).get? a = some ob := by
  obtain ⟨x0, ff, big⟩ := I.flyB he
  have cov : ∀ a o, upd H e (excO e C dct false) a = some o → a ≠ e → ∃ ob, (bOf X e s.heap).get? a = some ob := fun a o q n => by
    rw [upd_ne n] at q
    obtain ⟨ob, g⟩ := (I.hok a o q).there
    exact ⟨ob, big a ob g n fun z => by rw [I.stkFree a z] at q; cases q⟩
  have ne : ∀ b, H b = none → b ≠ e := fun b n z => by rw [z, he] at n; cases n
  refine ⟨⟨fun b o q n hb _ => x.stay b o (big b o q (ne b n) hb), fun b o q n hb _ => ?_, fun b o q n _ => by rw [upd_ne (ne b n)]; exact n, fun b o q _ => u.th b o q, fun b xs q => ?_, fun b o v q => ?_, fun b ps q => ⟨#[], ?_⟩⟩, ?_, cov⟩
  · obtain ⟨_, o1, g, nf⟩ := ff.mem (show b ∈ X.stack.filterMap (·.frame) from hb)
    rw [q] at g
    cases g
    exact u.sl b o q nf
  · rw [upd_ne fun z => by rw [z, he] at q; cases q]; exact q
  · rw [upd_ne fun z => by rw [z, he] at q; cases q]; exact q
  · rw [upd_ne fun z => by rw [z, he] at q; cases q]; simpa using q
  · have h0 : HOk X.prog X.w (upd H e (excO e C dct false)) s.heap := fun a o q => by
      by_cases z : a = e
      · subst z
        rw [upd_same] at q
        cases q
        obtain ⟨oe, vs, e1, e2, e3, e4, e5, _⟩ := I.hok.exc he
        exact excO_ok ⟨oe, vs, e1, e2, e3, e4, e5, fun z => by cases z⟩
      · rw [upd_ne z] at q
        refine (I.hok a o q).stay (fun _ _ _ g => g) (fun b g => ?_) fun b xs g => ?_
        · rw [upd_ne fun z => by rw [z, he] at g; cases g]; exact g
        · rw [upd_ne fun z => by rw [z, he] at g; cases g]; exact g
    exact hok_step h0 upd_same cov x0.stay x
end
end L2
namespace L2
open PySem PySem.Spec PyProof.Rows
abbrev XH := Value → Option Addr → St → Hp → Prop
def PassesX (CX : CXT) (X : Cx) (Ek : XH) : Prop := ∀ (pins : List (Addr × Obj)) (σ : St) (H : Hp) (s : Shared) (e : Value) (s' : Shared), Inv X pins σ H s → CX X.stack H s (fun v d H' => Ek v d σ H') e s' → X.xe e s'
def RaisesX (X : Cx) (Ek : XH) : Prop := ∀ (pins : List (Addr × Obj)) (σ : St) (H : Hp) (s : Shared) (e C : Addr) (dct : Option Addr), Inv X pins σ H s → H e = some (excO e C dct true) → Ek (.ref e) dct σ (upd H e (excO e C dct false)) → X.xe (.ref e) s
abbrev EX0 : XH := fun _ _ _ _ => False
theorem passN {P : Program} {w : World} {X : Cx} : PassesX (CXX P w) X EX0 := fun _ _ _ _ _ _ _ ⟨_, _, _, _, _, _, _, _, _, _, _, h⟩ => h.elim
section
variable {X : Cx} {pins : List (Addr × Obj)} {σ : St} {H H' : Hp} {s s' : Shared} {B h' : Heap} {e C : Addr} {dct : Option Addr} {fl : Option Value}
theorem fly_un (F : Fly X.prog X.w B X.stack e C dct H' s'.heap) (un : Un (frs X.stack) [] H H' s.heap s'.heap) (cv : ∀ b o, s.heap.get? b = some o → H b = none → b ∉ frs X.stack → B.get? b = some o)
    (x : XAt B e (.ref C) dct fl h') (u : UpS s'.heap h') : Un (frs X.stack) [] H H' s.heap h' ∧ HOk X.prog X.w H' h' := by
  obtain ⟨fl0, _, x0⟩ := F.at_
  refine ⟨⟨fun b o q n hb _ => x.stay b o (cv b o q n hb), fun b o q n hb _ => ?_, un.free, fun b o q hx => ?_, un.tups, un.frzs, un.tbls⟩, hok_step F.hok F.he F.cov x0.stay x⟩
  · obtain ⟨sl, e1⟩ := un.slot b o q n hb (by simp)
    obtain ⟨_, o1, g, nf⟩ := F.ff.mem (show b ∈ X.stack.filterMap (·.frame) from hb)
    rw [e1] at g
    cases g
    obtain ⟨sl2, e2⟩ := u.sl b _ e1 nf
    exact ⟨sl2, e2⟩
  · obtain ⟨o1, e1⟩ := un.there b o q hx
    exact u.th b o1 e1
end
section
variable {P : Program} {w : World} {K : PySem.W.Frag} {mg : Str → Option Value} {base : Heap} {N : List Str} {qual : Str} {sc : Scope} {f : Addr} {cd : Value} {A : Around} {outer : List Env} {s₀ : Shared} {H₀ : Hp} {E : XK}
theorem raiseF : RaisesX (cxOf (CXX P w) P w K mg base N qual sc f cd A outer s₀ H₀ E) (fun v d _ H => E v d H) := by
  intro pins σ H s e C dct I he hE
  obtain ⟨x, ff, big⟩ := I.flyB he
  refine leave_at (outer := outer) (L := s₀.heap.objs.size) I.ok.frames ff rfl x (.inl rfl) fun h' x' u => ?_
  obtain ⟨un, ok, cov⟩ := I.flyUn he x' u
  refine ⟨_, e, C, dct, _, rfl, I.os, I.bare, ⟨⟨_, .inr rfl, x'⟩, (u.funs ff).2.2, ok, upd_same, cov⟩, I.out rfl un, fun b o q n hb => ?_, hE⟩
  have fr := I.base.free b o q n (by show b ∉ ([] : List Addr); simp)
  refine big b o (I.base.keep b o q n hb (by show b ∉ ([] : List Addr); simp)) (fun z => by rw [z, he] at fr; cases fr) fun z => ?_
  rcases List.mem_cons.mp (I.stkSub b z) with y | y
  · exact absurd (Nat.lt_of_lt_of_le (Heap.lt_size q) (by rw [y]; exact I.ok.above)) (Nat.lt_irrefl _)
  · exact hb y
theorem passF : PassesX (CXX P w) (cxOf (CXX P w) P w K mg base N qual sc f cd A outer s₀ H₀ E) (fun v d _ H => E v d H) := by
  intro pins σ H s e s' I q
  obtain ⟨B, ea, C, dct, H', rfl, hos, hb, F, un, cv, hE⟩ := q
  obtain ⟨fl0, hfl, x0⟩ := F.at_
  refine leave_at (outer := outer) (L := s₀.heap.objs.size) I.ok.frames F.ff rfl x0 hfl fun h' x' u => ?_
  obtain ⟨u2, ok⟩ := fly_un (X := cxOf (CXX P w) P w K mg base N qual sc f cd A outer s₀ H₀ E) F un cv x' u
  refine ⟨B, ea, C, dct, H', rfl, hos.trans I.os, hb, ⟨⟨_, .inr rfl, x'⟩, (u.funs F.ff).2.2, ok, F.he, F.cov⟩, I.out rfl u2, fun b o q n hb => ?_, hE⟩
  refine cv b o (I.base.keep b o q n hb (by show b ∉ ([] : List Addr); simp)) (I.base.free b o q n (by show b ∉ ([] : List Addr); simp)) fun z => ?_
  rcases List.mem_cons.mp (I.stkSub b z) with y | y
  · exact absurd (Nat.lt_of_lt_of_le (Heap.lt_size q) (by rw [y]; exact I.ok.above)) (Nat.lt_irrefl _)
  · exact hb y
end
section
variable {P : Program} {w : World} {X : Cx} {pins pins' : List (Addr × Obj)} {Hk : XH} {σ : St} {H : Hp} {s : Shared}
end
section
variable {X : Cx} {pins : List (Addr × Obj)} {σ : St} {H : Hp} {s : Shared} {e : Addr}
end
def tCallX (sp : Sp) (Ek : XH) (t : TA) : TE := fun σ H Q => t σ H fun vs H1 => sp vs H1 Q (fun v d H' => Ek v d σ H')
section
variable {X : Cx} {CX : CXT} {k : Nat} {x : Str} {ps : List Str} {sp : Sp} {Ek : XH} {p pos : Pos} {e : Expr} {es : List Expr} {t : TA}
theorem pe_callX (D : Def X.prog X.w X.K X.mg X.base CX k x ps sp) (hr : Room k X.A) (hg : Gl X x) (hx : PassesX CX X Ek) (ha : PA X (e :: es) t)
    (hdb : (x == ("__debug__" : Str)) = false := by decide) (he : starEach (e :: es) X.env = (false, eval e X.env) :: starEach es X.env := by rfl) (hpl : (backTo pos (starEach es X.env)).any (·.1) = false := by rfl) :
    PE X (.Call (.Name x p) (e :: es) [] pos) (tCallX sp Ek t) := by
  obtain ⟨f, fd, F, hb, hk, hm⟩ := D.ex
  intro pins s σ H Q I h
  refine wpAny_Call_Name_kw (ld_glob I hg hm ?_ hdb)
  refine PySem.W.callWith_K (h₀ := X.base) I.ok.mod.kin hk (thn (ha pos pins s σ H _ I h) fun us s1 ⟨vs, H1, I1, r, q⟩ => ⟨I1.kIn, ?_⟩) he hpl
  have hl : (us ++ []).length = ps.length := by rw [List.append_nil, ← r.length]; exact F.len _ _ _ _ q
  have hbb := hb s1 us I1.kIn hl
  rw [List.append_nil] at hbb
  refine wpAny_call (codeAny_mono (F.run X.A X.stack s1 H1 ⟨us, []⟩ us vs Q _ hr I1.env0 hbb r q) fun r s' hq => ?_)
  cases r with
  | error e => exact hx pins σ H1 s1 e s' I1 hq
  | ok fl =>
    cases fl with
    | ret u => exact I1.after hq
    | next => exact False.elim hq
    | brk => exact False.elim hq
    | cont => exact False.elim hq
end
theorem Src.okN {P : Program} {w : World} {K : PySem.W.Frag} {mg : Str → Option Value} {base : Heap} {CX : CXT} {x : Str} {st : Stmt} {N ps : List Str} {k : Nat} {sp : Sp} (F : Src K mg x st ps) (S : FnScope N ps (defScope st)) (len : ∀ vs H Q E, sp vs H Q E → vs.length = ps.length)
    (hbody : ∀ (f : Addr) (cdv : Value) (A : Around) (outer : List Env) (s : Shared) (H : Hp) (vs : List V) (Q : VK) (E : XK), Room k (A.deeper (envOfC x (defScope st) s.heap.objs.size f cdv)) → sp vs H Q E →
      ∃ t, PSs (cxOf CX P w K mg base N x (defScope st) f cdv A outer s H E).nox (defBody st) t ∧ t { nx := fun _ H' => Q .non H', rt := Q } (start N vs) H) : Def P w K mg base CX (k + 1) x ps sp := by
  obtain ⟨f, fd, F, b, m⟩ := F.ex
  obtain ⟨oc, od, kV, doc, pm, an, cdv, ct, osl, rfl, lk, hcd⟩ := F.ex
  exact ⟨f, _, fn_of lk hcd S len fun A outer s H vs Q E hr hsp => by
    obtain ⟨t, h, q⟩ := hbody f cdv A outer s H vs Q E hr hsp
    exact ⟨t, h.nox, q⟩, b, F.kp, m⟩
theorem Src.okX {P : Program} {w : World} {K : PySem.W.Frag} {mg : Str → Option Value} {base : Heap} {x : Str} {st : Stmt} {N ps : List Str} {k : Nat} {sp : Sp} (F : Src K mg x st ps) (S : FnScope N ps (defScope st)) (len : ∀ vs H Q E, sp vs H Q E → vs.length = ps.length)
    (hbody : ∀ (f : Addr) (cdv : Value) (A : Around) (outer : List Env) (s : Shared) (H : Hp) (vs : List V) (Q : VK) (E : XK), Room k (A.deeper (envOfC x (defScope st) s.heap.objs.size f cdv)) → sp vs H Q E →
      ∃ t, PSs (cxOf (CXX P w) P w K mg base N x (defScope st) f cdv A outer s H E) (defBody st) t ∧ t { nx := fun _ H' => Q .non H', rt := Q } (start N vs) H) : Def P w K mg base (CXX P w) (k + 1) x ps sp := by
  obtain ⟨f, fd, F, b, m⟩ := F.ex
  obtain ⟨oc, od, kV, doc, pm, an, cdv, ct, osl, rfl, lk, hcd⟩ := F.ex
  exact ⟨f, _, fn_of lk hcd S len fun A outer s H vs Q E hr hsp => hbody f cdv A outer s H vs Q E hr hsp, b, F.kp, m⟩
theorem free_of {P : Program} {w : World} {H : Hp} {h : Heap} {a : Addr} (x : HOk P w H h) (e : h.get? a = none) : H a = none := by
  cases q : H a with
  | none => rfl
  | some o =>
    obtain ⟨ob, g⟩ := (x a o q).there
    rw [e] at g
    cases g
theorem Inv.laidN {X : Cx} {pins : List (Addr × Obj)} {σ : St} {H : Hp} {s : Shared} {h' : Heap} {a : Addr} {o : HO} {t' : Nat} (I : Inv X pins σ H s) (k : ∀ b u, s.heap.get? b = some u → h'.get? b = some u) (hn : s.heap.get? a = none) (new : ObjOk X.prog X.w (upd H a o) h' a o) :
    Inv X pins σ (upd H a o) { s with heap := h', toks := t' } := by
  have fr := free_of I.hok hn
  refine I.un (t' := t') ⟨fun b ob q _ _ _ => k b ob q, fun b ob q _ _ _ => ⟨ob.slots, k b ob q⟩, fun b ob q n _ => ?_, fun b ob q _ => ⟨ob, k b ob q⟩, fun b xs q => ?_, fun b ob v q => ?_, fun b ps q => ⟨#[], ?_⟩⟩ fun b ob q => ?_
  · rw [upd_ne fun z => by rw [z, hn] at q; cases q]; exact n
  · rw [upd_ne (ne_of_none q fr)]; exact q
  · rw [upd_ne (ne_of_none q fr)]; exact q
  · rw [upd_ne (ne_of_none q fr)]; simpa using q
  · by_cases z : b = a
    · subst z
      rw [upd_same] at q
      cases q
      exact new
    · rw [upd_ne z] at q
      exact (I.hok b ob q).stay (fun c u _ g => k c u g) (fun c g => by rw [upd_ne (ne_of_none g fr)]; exact g) fun c xs g => by rw [upd_ne (ne_of_none g fr)]; exact g
def tXmk (C : Addr) (t : TA) : TE := fun σ H Q => t σ H fun vs H1 => vs.length ≤ 1000 ∧ ∀ e, H1 e = none → Q (.ref e) (upd H1 e (excO e C none true))
def tRaise (K : PySem.W.Frag) (Ek : XH) (te : TE) : TS := fun _ σ H => te σ H fun v H1 => ∃ e C dct, v = .ref e ∧ H1 e = some (excO e C dct true) ∧ XC K C ∧ Ek (.ref e) dct σ (upd H1 e (excO e C dct false))
section
variable {X : Cx} {C : Addr} {x : Str} {p pos : Pos} {e : Expr} {es : List Expr} {t : TA}
theorem pe_xmk (q : PySem.W.excIn X.K C bmV "ValueError.__new__" = true) (kp : PySem.W.keepIn X.K (.ref C) = true) (hg : Gl X x) (hm : X.mg x = some (.ref C)) (ha : PA X (e :: es) t)
    (hdb : (x == ("__debug__" : Str)) = false := by decide) (he : starEach (e :: es) X.env = (false, eval e X.env) :: starEach es X.env := by rfl) (hpl : (backTo pos (starEach es X.env)).any (·.1) = false := by rfl) :
    PE X (.Call (.Name x p) (e :: es) [] pos) (tXmk C t) := by
  intro pins s σ H Q I h
  refine wpAny_Call_Name_kw (ld_glob I hg hm ?_ hdb)
  refine PySem.W.callWith_K (h₀ := X.base) I.ok.mod.kin kp (thn (ha pos pins s σ H _ I h) fun us s1 ⟨vs, H1, I1, r, hl, q1⟩ => ⟨I1.kIn, ?_⟩) he hpl
  refine xmake0 I1.kIn q (by rw [List.nil_append, ← r.length]; exact line_lit hl) fun h' ea m => ?_
  obtain ⟨tt, g1, g2, g3⟩ := m.there
  exact ⟨.ref ea, _, I1.laidN (t' := s1.toks) m.keeps m.new (excO_ok ⟨_, _, g1, rfl, rfl, rfl, Nat.lt_of_lt_of_le (by decide) (Nat.le_refl 6), fun _ => rfl⟩), rfl, q1 ea (free_of I1.hok m.new)⟩
theorem ps_raise {Ek : XH} {te : TE} (K : PySem.W.Frag) (hK : X.K = K) (hc : X.calm = true) (hx : RaisesX X Ek) (he : PE X e te) : PS X (.Raise (some e) none pos) (tRaise K Ek te) := by
  subst hK
  intro pins s σ H D I h
  rw [arm_exec_Raise]
  refine wpAny_bind (wpAny_standAt ?_)
  show wpAny _ _ (raiseStmt X.env (some (do let v ← eval e X.env; standAt pos; pure v)) none) _ _ _
  refine xraise (K := X.K) (I.ok.hd hc) (wpAny_bind (thn (he pins s σ H _ I h) fun u s1 ⟨v, H1, I1, r, ea, C, dct, hv, hh, c, q⟩ => wpAny_bind (wpAny_standAt (wpAny_pure ?_))))
  subst hv
  cases (show u = Value.ref ea from r)
  obtain ⟨oe, vs, e1, e2, e3, e4, e5, e6⟩ := I1.hok.exc hh
  exact ⟨C, ea, oe, vs, c, rfl, I1.kIn, e1, e2, e4, e6 rfl, hx pins σ H1 s1 ea C dct I1 hh q⟩
end
section
variable {prog : Program} {w : World} {A : Around} {E : Value → Shared → Prop} {s : Shared} {K : PySem.W.Frag} {e C C' : Addr}
end
def hkOf (K : PySem.W.Frag) (C' : Addr) (th : Addr → TS) (D : Ends) : XH := fun v d σ H => ∃ e C, v = .ref e ∧ H e = some (excO e C d false) ∧ PySem.W.subIn K (.ref C) (.ref C') = some true ∧ th e D σ H
def tTry (K : PySem.W.Frag) (C' : Addr) (tb : XH → TS) (th : TS) : TS := fun D σ H => tb (hkOf K C' (fun _ => th) D) D σ H
def tTryAs (K : PySem.W.Frag) (C' : Addr) (i : Nat) (tb : XH → TS) (th : TS) : TS := fun D σ H =>
  tb (hkOf K C' (fun e D σ H => th { nx := fun σ H => D.nx (σ.set i none) H, rt := D.rt, bk := fun σ H => D.bk (σ.set i none) H, ct := fun σ H => D.ct (σ.set i none) H } (σ.set i (some (.ref e))) H) D) D σ H
section
variable {P : Program} {w : World} {X : Cx} {C' : Addr} {x : Str} {np hpos pos : Pos} {body suite : List Stmt} {b0 : Stmt} {tb : XH → TS} {th : TS}
end
end L2
namespace L2
open PySem PySem.Spec PyProof.Rows
def sXfld (K : PySem.W.Frag) (ta tv : TE) (f : Str) : TS := fun D σ H => tv σ H fun y H1 => ta σ H1 fun x H2 => ∃ e C dct fr, x = .ref e ∧ H2 e = some (excO e C dct fr) ∧ XC K C ∧ PySem.W.takerIn K C f = some none ∧
  ((dct = none ∧ ∀ d, H2 d = none → d ≠ e → D.nx σ (upd (upd H2 e (excO e C (some d) fr)) d (xdO d [(f, y)]))) ∨ ∃ d fs, dct = some d ∧ H2 d = some (xdO d fs) ∧ fs.length ≤ 100 ∧ D.nx σ (upd H2 d (xdO d (putF f y fs))))
section
variable {X : Cx}
end
end L2
namespace L2
open PySem PySem.Spec PyProof.Rows
section
variable {K : PySem.W.Frag} {C C' : Addr}
theorem xc_plain (q : PySem.W.excIn K C bmV "ValueError.__new__" = true) : ∃ nm q N bs bm hdct sn sub ab col dd k0 k1 k2 k3 k5, K.lookup C = some (excClassObj nm q C N bs bm hdct sn sub ab col dd k0 k1 k2 k3 k5 "ValueError.__new__") ∧ PySem.W.tailIn K bmV bm = true := by
  obtain ⟨nm, q, N, bs, bm, hdct, sn, sub, ab, col, dd, k0, k1, k2, k3, k5, l, t, _⟩ := XC.plain q
  exact ⟨nm, q, N, bs, bm, hdct, sn, sub, ab, col, dd, k0, k1, k2, k3, k5, l, t⟩
theorem kit_self : PySem.W.kitOne K (.ref C) (.ref C) = some true := by
  unfold PySem.W.kitOne
  rw [if_pos (by simp)]
theorem kit_of {cd : ClassData} {b : Bool} (n : (Value.ref C == Value.ref C') = false) (hc : PySem.W.clsIn K C' = some cd) (ht : PySem.W.typeIn K (.ref C') = some (.type "type")) (hs : PySem.W.subIn K (.ref C) (.ref C') = some b) : PySem.W.kitOne K (.ref C) (.ref C') = some b := by
  unfold PySem.W.kitOne
  rw [if_neg (by rw [n]; decide)]
  unfold PySem.W.kitCls
  dsimp only
  rw [if_pos (by rw [hc, ht]; rfl)]
  exact hs
theorem kit_ve {b : Bool} (hs : PySem.W.subIn K (.ref C) (.type "ValueError") = some b) : PySem.W.kitOne K (.ref C) (.type "ValueError") = some b := by
  unfold PySem.W.kitOne
  rw [if_neg (by simp)]
  unfold PySem.W.kitCls
  dsimp only
  rw [if_pos (by decide +kernel)]
  exact hs
end
end L2
namespace L2
open PySem PySem.Spec PyProof.Rows
theorem Vals.rev {xs : List V} {us : List Value} (r : Vals xs us) : Vals xs.reverse us.reverse := by
  induction r with
  | nil => exact .nil
  | cons a b ih => rw [List.reverse_cons, List.reverse_cons]; exact ih.append (.cons a .nil)
end L2
namespace L2
open PySem PySem.Spec PyProof.Rows
abbrev TupsF {α : Type} (enc : α → List V) (H : Hp) : List Addr → List α → Prop := Paired fun p q => H p = some (.tup (enc q))
section
variable {α : Type} {enc : α → List V} {H H' : Hp} {ps : List Addr} {qs : List α}
theorem tupsF_same (h : TupsF enc H ps qs) (e : Same H H') : TupsF enc H' ps qs := Paired.mapP h fun _ _ q => e _ _ q
theorem tupsF_keep (h : TupsF enc H ps qs) (e : ∀ p xs, H p = some (.tup xs) → H' p = some (.tup xs)) : TupsF enc H' ps qs := Paired.mapP h fun _ _ q => e _ _ q
theorem tupsF_snoc {t : Addr} {q : α} (ht : H t = some (.tup (enc q))) : ∀ {ps : List Addr} {qs : List α}, TupsF enc H ps qs → TupsF enc H (ps ++ [t]) (qs ++ [q])
  | _, _, Paired.nil => .cons ht .nil
  | _, _, Paired.cons a b => .cons a (tupsF_snoc ht b)
theorem tupsF_rev : ∀ {ps : List Addr} {qs : List α}, TupsF enc H ps qs → TupsF enc H ps.reverse qs.reverse
  | _, _, Paired.nil => .nil
  | _, _, Paired.cons a b => by rw [List.reverse_cons, List.reverse_cons]; exact tupsF_snoc a (tupsF_rev b)
structure Grow (enc : α → List V) (H₀ H : Hp) (p : Addr) (ms : List V) (l : Addr) (ps : List Addr) (qs : List α) : Prop where
  sm : Same H₀ H
  hp : H p = some (.lst ms)
  hl : H l = some (.lst (ps.map V.ref))
  r : TupsF enc H ps qs
theorem Grow.same {H₀ : Hp} {p : Addr} {ms : List V} {l : Addr} (I : Grow enc H₀ H p ms l ps qs) (e : Same H H') : Grow enc H₀ H' p ms l ps qs := ⟨I.sm.trans e, e _ _ I.hp, e _ _ I.hl, tupsF_same I.r e⟩
theorem Grow.snoc {H₀ : Hp} {p : Addr} {ms : List V} {l t : Addr} {q : α} (I : Grow enc H₀ H p ms l ps qs) (h0 : H₀ l = none) (hpl : p ≠ l) (ht : H t = some (.tup (enc q))) :
    Grow enc H₀ (upd H l (.lst (ps.map V.ref ++ [.ref t]))) p ms l (ps ++ [t]) (qs ++ [q]) := by
  have kt : ∀ b xs, H b = some (.tup xs) → upd H l (.lst (ps.map V.ref ++ [.ref t])) b = some (.tup xs) := fun b xs e => by
    rw [upd_ne (ne_of e I.hl (by intro z; cases z))]; exact e
  refine ⟨fun b o e => ?_, by rw [upd_ne hpl]; exact I.hp, by rw [upd_same]; simp, tupsF_snoc (kt _ _ ht) (tupsF_keep I.r kt)⟩
  rw [upd_ne (ne_of_none e h0)]; exact I.sm _ _ e
structure Lst (enc : α → List V) (H : Hp) (l : Addr) (ps : List Addr) (qs : List α) : Prop where
  hl : H l = some (.lst (ps.map V.ref))
  r : TupsF enc H ps qs
theorem Lst.same {l : Addr} (R : Lst enc H l ps qs) (e : Same H H') : Lst enc H' l ps qs := ⟨e _ _ R.hl, tupsF_same R.r e⟩
theorem Lst.copy {l l' : Addr} (R : Lst enc H l ps qs) (h : H l' = none) : Lst enc (upd H l' (.lst (ps.map V.ref))) l' ps qs := ⟨upd_same, tupsF_same R.r (same_new h)⟩
end
abbrev F2 := Int × Int
def f2 (q : F2) : List V := [.int q.1, .int q.2]
end L2
namespace Sw
open L2
def nrm (q : F2) : F2 := (rN q.1 q.2, rD q.1 q.2)
theorem nrm_fr {q : F2} (h : q.2 ≠ 0) : Fr (nrm q).1 (nrm q).2 := rat_fr h
theorem nrm_cross {q : F2} (h : q.2 ≠ 0) : (nrm q).1 * q.2 = (nrm q).2 * q.1 := rat_cross h
theorem Sz.rN {z : Nat} {t b : Int} (h : Sz z t) : Sz z (Sw.rN t b) := by unfold Sw.rN; split <;> exact h.div
theorem Sz.rD {z : Nat} {t b : Int} (h : Sz z b) : Sz z (Sw.rD t b) := by unfold Sw.rD; split <;> exact h.div
end Sw
namespace L2
open PySem PySem.Spec PyProof.Rows
theorem app_at {H : Hp} {l : Addr} {xs : List V} {y : V} {Q : VK} (h : H l = some (.lst xs)) (hz : xs.length < 1000) (q : Q .non (upd H l (.lst (xs ++ [y])))) : rAppend (.ref l) [y] H Q := ⟨l, xs, y, rfl, rfl, h, line_lt hz, q⟩
theorem tyL_at {K : PySem.W.Frag} {H : Hp} {l : Addr} {xs : List V} (h : H l = some (.lst xs)) : tyV K "list" (.ref l) H := .inl ⟨rfl, _, .of h⟩
theorem Lst.rev {α : Type} {enc : α → List V} {H : Hp} {l l' : Addr} {ps : List Addr} {qs : List α} (R : Lst enc H l ps qs) (h : H l' = none) : Lst enc (upd H l' (.lst (ps.map V.ref).reverse)) l' ps.reverse qs.reverse :=
  ⟨by rw [upd_same, List.map_reverse], tupsF_same (tupsF_rev R.r) (same_new h)⟩
end L2
namespace L2
open PySem PySem.Spec PyProof.Rows
structure RoomN (k : Nat) (A : Around) : Prop where
  dp : A.depth + 3 * k + 5 < recursionLimit
  un : A.units + 16 * k + 200 < cLine
theorem RoomN.mono {j k : Nat} {A : Around} (r : RoomN k A) (h : j ≤ k) : RoomN j A := ⟨by have := r.dp; omega, by have := r.un; omega⟩
theorem RoomN.deeper {k : Nat} {A : Around} (r : RoomN (k + 1) A) (env : Env) : RoomN k (A.deeper env) := ⟨by have := r.dp; show A.depth + 1 + 3 * k + 5 < _; omega, by have := r.un; show A.units + 3 + 16 * k + 200 < _; omega⟩
theorem RoomN.units {k : Nat} {A : Around} (r : RoomN k A) : A.units + 64 < cLine := by have := r.un; omega
def tCallN (sp : Sp) (t : TA) : TE := fun σ H Q => t σ H fun vs H1 => sp vs H1 Q E0
section
variable {P : Program} {w : World} {X : Cx} {k : Nat} {x : Str} {ps : List Str} {sp : Sp} {p pos : Pos} {e : Expr} {es : List Expr} {t : TA}
end
end L2
namespace L2
open PySem PySem.Spec PyProof.Rows
end L2
namespace L2
open PySem PySem.Spec PyProof.Rows
theorem xc_init {K : PySem.W.Frag} {C W N : Addr} {nm qn : Str} {bs : List Value} {hdct : Bool} {sn : List Str} {sub : List Value} {ab : Bool} {col : Option Bool} {dd : Option Addr} {k0 k1 k2 k3 k5 : Option Value} (q : PySem.W.excIn K W bmV "ValueError.__new__" = true)
    (lk : K.lookup C = some (excClassObj nm qn C N bs (.ref W :: bmV) hdct sn sub ab col dd k0 k1 k2 k3 k5 "ValueError.__new__")) :
    ∃ nm q N bs bm hdct sn sub ab col dd k0 k1 k2 k3 k5, K.lookup C = some (excClassObj nm q C N bs bm hdct sn sub ab col dd k0 k1 k2 k3 k5 "ValueError.__new__") ∧ PySem.W.tailIn K bmV bm = true :=
  ⟨nm, qn, N, bs, _, hdct, sn, sub, ab, col, dd, k0, k1, k2, k3, k5, lk, tail_one q⟩
end L2
namespace L2
open PySem PySem.Spec PyProof.Rows
theorem xd_within {fs : List (Str × V)} {mA : Str → Option Value} (rel : ∀ f, RelO (fs.lookup f) (mA f)) : Within mA (fs.map (·.1)) := by
  intro x hx
  have r := rel x
  cases q : fs.lookup x with
  | none =>
    rw [q] at r
    exact absurd (RelO.none_of r) hx
  | some v => exact List.mem_map.mpr ⟨(x, v), PySem.mem_of_lookup q, rfl⟩
theorem ext_ne {P : Program} {w : World} {H : Hp} {h : Heap} {e C d : Addr} {dct : Option Addr} {fr : Bool} {fs : List (Str × V)} (x : HOk P w H h) (he : H e = some (excO e C dct fr)) (hd : H d = some (xdO d fs)) : d ≠ e := fun z => by
  obtain ⟨oe, vs, e1, e2, e3, e4, _⟩ := x.exc he
  obtain ⟨mA, ⟨o, es, ep, g1, g2, _⟩, _⟩ := x.xd hd
  rw [z, e1] at g1
  cases g1
  rw [e4] at g2
  cases g2
section
variable {X : Cx} {o value : Expr} {f : Str} {pos pos' : Pos} {ta tv : TE}
theorem ps_xfld (K : PySem.W.Frag) (hK : X.K = K) (ha : PE X o ta) (hv : PE X value tv) (hs : swapsWith value (some (.Attribute o f pos')) pos.line X.env = pure false) : PS X (.Assign [.Attribute o f pos'] value pos) (sXfld K ta tv f) := by
  subst hK
  intro pins s σ H D I h
  refine plainObj_wpAny_Assign_Attribute (thn (hv pins s σ H _ I h) fun u s1 ⟨y, H1, I1, ry, q⟩ => thn (ha pins s1 σ H1 _ I1 q) fun ov s2 ⟨x, H2, I2, rx, e, C, dct, fr, ex, he, xc, ht, alt⟩ => ?_) hs
  subst ex
  obtain rfl : ov = Value.ref e := rx
  obtain ⟨oe, vs, e1, e2, e3, e4, e5, e6⟩ := I2.hok.exc he
  rcases alt with ⟨rfl, k⟩ | ⟨d, fs, rfl, hd, hl, k⟩
  · refine xset (mA := fun _ => none) (ns := []) I2.kIn xc e1 e2 e4 ht (.inl ⟨e3, fun _ => rfl⟩) (fun x hx => absurd rfl hx) (by decide) fun h' d n1 n2 n3 n4 _ n6 tk => ?_
    have sz := n4 e3
    have fd : H2 d = none := I2.hok.fresh sz
    refine ⟨σ, _, ?_, k d fd n3⟩
    have old : ∀ b ob, s2.heap.get? b = some ob → b ≠ d := fun b ob q => Nat.ne_of_lt (Nat.lt_of_lt_of_le (Heap.lt_size q) sz)
    have nn : ∀ {b ob}, H2 b = some ob → (∀ φ, ob ≠ .ext φ) → upd (upd H2 e (excO e C (some d) fr)) d (xdO d [(f, y)]) b = some ob := fun {b ob} q z => by
      rw [upd_ne (ne_of_none q fd), upd_ne fun w => by rw [w, he] at q; cases q; exact z _ rfl]; exact q
    refine I2.un (t' := tk) ⟨fun b ob q n _ _ => n6 b ob (fun z => by rw [z, he] at n; cases n) (old b ob q) q, fun b ob q n _ _ => ⟨ob.slots, n6 b ob (fun z => by rw [z, he] at n; cases n) (old b ob q) q⟩, fun b ob q n _ => ?_, fun b ob q _ => ?_, fun b xs q => nn q (by intro φ z; cases z), fun b ob v q => nn q (by intro φ z; cases z), fun b ps q => ⟨#[], by rw [nn q (by intro φ z; cases z)]; simp⟩⟩ fun b ob q => ?_
    · rw [upd_ne (old b ob q), upd_ne fun z => by rw [z, he] at n; cases n]; exact n
    · by_cases z : b = e
      · rw [z]; exact ⟨_, n2⟩
      · exact ⟨ob, n6 b ob z (old b ob q) q⟩
    · by_cases z : b = d
      · subst z
        rw [upd_same] at q
        cases q
        refine xdO_ok ⟨_, n1, fun g => ?_⟩
        by_cases w : g = f
        · subst w
          simp only [List.lookup_cons, beq_self_eq_true, if_true]
          exact ry
        · simp only [List.lookup_cons, beq_eq_false_iff_ne.mpr w, if_neg w]
          trivial
      · rw [upd_ne z] at q
        by_cases w : b = e
        · subst w
          rw [upd_same] at q
          cases q
          exact excO_ok ⟨_, vs, n2, e2, rfl, e4, e5, e6⟩
        · rw [upd_ne w] at q
          refine (I2.hok b ob q).stay (fun c v hc g => ?_) (fun c g => nn g (by intro φ z; cases z)) fun c xs g => nn g (by intro φ z; cases z)
          refine n6 c v (fun z2 => ?_) (old c v g) g
          rcases hc with y | y
          · exact w (y ▸ z2)
          · rw [z2, he] at y; cases y
  · obtain ⟨mA, ns1, rel⟩ := I2.hok.xd hd
    have de := ext_ne I2.hok he hd
    refine xset (mA := mA) (ns := fs.map (·.1)) I2.kIn xc e1 e2 e4 ht (.inr ⟨d, e3, de, ns1⟩) (xd_within rel) (by rw [List.length_map]; omega) fun h' d' n1 n2 n3 _ n5 n6 tk => ?_
    obtain rfl := n5 d e3
    have n2' : h'.get? e = some oe := by rw [n2]; obtain ⟨a1, a2, a3, a4⟩ := oe; dsimp only at e3; subst e3; rfl
    refine ⟨σ, _, ?_, k⟩
    have nn : ∀ {b ob}, H2 b = some ob → (∀ φ, ob ≠ .ext φ) → upd H2 d' (xdO d' (putF f y fs)) b = some ob := fun {b ob} q z => by
      rw [upd_ne fun w => by rw [w, hd] at q; cases q; exact z _ rfl]; exact q
    have kp : ∀ b ob, b ≠ d' → s2.heap.get? b = some ob → h'.get? b = some ob := fun b ob z q => by
      by_cases w : b = e
      · subst w
        rw [e1] at q
        cases q
        exact n2'
      · exact n6 b ob w z q
    have nd : ∀ b, H2 b = none → b ≠ d' := fun b n z => by rw [z, hd] at n; cases n
    refine I2.un (t' := tk) ⟨fun b ob q n _ _ => kp b ob (nd b n) q, fun b ob q n _ _ => ⟨ob.slots, kp b ob (nd b n) q⟩, fun b ob q n _ => by rw [upd_ne (nd b n)]; exact n, fun b ob q _ => ?_, fun b xs q => nn q (by intro φ z; cases z), fun b ob v q => nn q (by intro φ z; cases z), fun b ps q => ⟨#[], by rw [nn q (by intro φ z; cases z)]; simp⟩⟩ fun b ob q => ?_
    · by_cases z : b = d'
      · subst z
        obtain ⟨o', es, ep, g1, _⟩ := n1
        exact ⟨_, g1⟩
      · exact ⟨ob, kp b ob z q⟩
    · by_cases z : b = d'
      · subst z
        rw [upd_same] at q
        cases q
        refine xdO_ok ⟨_, n1, fun g => ?_⟩
        rw [lookup_putF]
        by_cases w : g = f
        · rw [if_pos w, if_pos w]; exact ry
        · rw [if_neg w, if_neg w]; exact rel g
      · rw [upd_ne z] at q
        refine (I2.hok b ob q).stay (fun c v hc g => kp c v (fun z2 => ?_) g) (fun c g => nn g (by intro φ z; cases z)) fun c xs g => nn g (by intro φ z; cases z)
        rcases hc with y | y
        · exact z (y ▸ z2)
        · rw [z2, hd] at y; cases y
end
structure MkX (P : Program) (w : World) (K : PySem.W.Frag) (mg : Str → Option Value) (base : Heap) (CX : CXT) (k : Nat) (C : Addr) (ps : List Str) (sp : Sp) : Prop where
  ex : ∃ (f : Addr) (fd : FuncData), FnOk P w K mg base CX k f fd ps sp ∧ Binds K fd ps [] ∧ PySem.W.findIn K (.ref C) "__init__" = some (some (.ref f)) ∧ PySem.W.typeIn K (.ref f) = some (.type "function")
def tXmk1 (C : Addr) (sp : Sp) (t : TA) : TE := fun σ H Q => t σ H fun vs H1 => vs.length ≤ 1000 ∧ ∀ e, H1 e = none → sp (.ref e :: vs) (upd H1 e (excO e C none true)) (fun v H2 => v = .non ∧ Q (.ref e) H2) E0
theorem pe_xmk1 {X : Cx} {C : Addr} {x : Str} {p pos : Pos} {e : Expr} {es : List Expr} {t : TA} {CX : CXT} {k : Nat} {ps : List Str} {sp : Sp} (M : MkX X.prog X.w X.K X.mg X.base CX k C ps sp) (xc : XC X.K C) (kp : PySem.W.keepIn X.K (.ref C) = true) (hr : Room (k + 1) X.A) (hx : PassesX CX X EX0) (hg : Gl X x) (hm : X.mg x = some (.ref C)) (ha : PA X (e :: es) t)
    (hdb : (x == ("__debug__" : Str)) = false := by decide) (he : starEach (e :: es) X.env = (false, eval e X.env) :: starEach es X.env := by rfl) (hpl : (backTo pos (starEach es X.env)).any (·.1) = false := by rfl) :
    PE X (.Call (.Name x p) (e :: es) [] pos) (tXmk1 C sp t) := by
  obtain ⟨fI, fd, F, hb, hi, hf⟩ := M.ex
  intro pins s σ H Q I h
  refine wpAny_Call_Name_kw (ld_glob I hg hm ?_ hdb)
  refine PySem.W.callWith_K (h₀ := X.base) I.ok.mod.kin kp (thn (ha pos pins s σ H _ I h) fun us s1 ⟨vs, H1, I1, r, hl, q1⟩ => ⟨I1.kIn, ?_⟩) he hpl
  refine xmake1 I1.kIn xc hi hf (by rw [List.nil_append, ← r.length]; exact line_lit hl) fun h' ea m z1 z2 => ?_
  obtain ⟨tt, g1, g2, g3⟩ := m.there
  have I2 := I1.laidN (t' := s1.toks) m.keeps m.new (excO_ok (P := X.prog) (w := X.w) (H := upd H1 ea (excO ea C none true)) (e := ea) (C := C) (dct := none) (fr := true) ⟨_, _, g1, rfl, rfl, rfl, Nat.lt_of_lt_of_le (by decide) (Nat.le_refl 6), fun _ => rfl⟩)
  have q := q1 ea (free_of I1.hok m.new)
  have r2 : Vals (V.ref ea :: vs) (Value.ref ea :: us) := .cons rfl r
  have hl2 : (Value.ref ea :: us ++ []).length = ps.length := by rw [List.append_nil, ← r2.length]; exact F.len _ _ _ _ q
  have hbb := hb { s1 with heap := h' } (Value.ref ea :: us) I2.kIn hl2
  rw [List.append_nil] at hbb
  refine wpAny_call (codeAny_mono (F.run _ X.stack _ _ ⟨Value.ref ea :: us, []⟩ (Value.ref ea :: us) _ _ _ (hr.make C us []) (I2.env0.make C us []) hbb r2 q) fun r s' hq => ?_)
  cases r with
  | error ev => exact hx pins σ _ _ ev s' I2 hq
  | ok fl =>
    cases fl with
    | ret u =>
      obtain ⟨v, H', I3, rv, ev, q3⟩ := I2.after hq
      subst ev
      exact ⟨rv, ⟨V.ref ea, H', I3, rfl, q3⟩⟩
    | next => exact False.elim hq
    | brk => exact False.elim hq
    | cont => exact False.elim hq
end L2
namespace L2
open PySem PySem.Spec PyProof.Rows
structure SrcI (K : PySem.W.Frag) (C : Addr) (qual : Str) (st : Stmt) (ps : List Str) : Prop where
  ex : ∃ (f : Addr) (fd : FuncData), Fun K "__init__" qual st f fd ∧ Binds K fd ps [] ∧ PySem.W.findIn K (.ref C) "__init__" = some (some (.ref f)) ∧ PySem.W.typeIn K (.ref f) = some (.type "function")
theorem SrcI.ok {P : Program} {w : World} {K : PySem.W.Frag} {mg : Str → Option Value} {base : Heap} {CX : CXT} {C : Addr} {qual : Str} {st : Stmt} {N ps : List Str} {k : Nat} {sp : Sp} (F : SrcI K C qual st ps) (S : FnScope N ps (defScope st)) (len : ∀ vs H Q E, sp vs H Q E → vs.length = ps.length)
    (hbody : ∀ (f : Addr) (cdv : Value) (A : Around) (outer : List Env) (s : Shared) (H : Hp) (vs : List V) (Q : VK) (E : XK), Room k (A.deeper (envOfC qual (defScope st) s.heap.objs.size f cdv)) → sp vs H Q E →
      ∃ t, PSs (cxOf CX P w K mg base N qual (defScope st) f cdv A outer s H E).nox (defBody st) t ∧ t { nx := fun _ H' => Q .non H', rt := Q } (start N vs) H) : MkX P w K mg base CX (k + 1) C ps sp := by
  obtain ⟨f, fd, F, b, m, ty⟩ := F.ex
  obtain ⟨oc, od, kV, doc, pm, an, cdv, ct, osl, rfl, lk, hcd⟩ := F.ex
  exact ⟨f, _, fn_of lk hcd S len fun A outer s H vs Q E hr hsp => by
    obtain ⟨t, h, q⟩ := hbody f cdv A outer s H vs Q E hr hsp
    exact ⟨t, h.nox, q⟩, b, m, ty⟩
structure XFill (H H' : Hp) (e C d : Addr) (fs : List (Str × V)) : Prop where
  out : ∀ b, b ≠ e → b ≠ d → H' b = H b
  fr : H d = none
  ne : d ≠ e
  he : H' e = some (excO e C (some d) true)
  hd : H' d = some (xdO d fs)
def spI1 (C : Addr) (f : Str) : Sp := fun vs H Q _ => ∃ e y, vs = [.ref e, y] ∧ H e = some (excO e C none true) ∧ ∀ d H', XFill H H' e C d [(f, y)] → Q .non H'
theorem xfill1 {H : Hp} {e C d : Addr} {fs : List (Str × V)} (hd : H d = none) (ne : d ≠ e) : XFill H (upd (upd H e (excO e C (some d) true)) d (xdO d fs)) e C d fs :=
  ⟨fun b h1 h2 => by rw [upd_ne h2, upd_ne h1], hd, ne, by rw [upd_ne (Ne.symm ne)]; exact upd_same, upd_same⟩
theorem i1_at {K : PySem.W.Frag} {H : Hp} {e C : Addr} {f : Str} {y : V} {Q : VK} (he : H e = some (excO e C none true)) (xc : XC K C) (tk : PySem.W.takerIn K C f = some none) (k : ∀ d H', XFill H H' e C d [(f, y)] → Q .non H') :
    sXfld K (tVar 0) (tVar 1) f { nx := fun _ H' => Q .non H', rt := Q } [some (.ref e), some y] H :=
  ⟨_, rfl, _, rfl, e, C, none, true, rfl, he, xc, tk, .inl ⟨rfl, fun d hd ne => k _ _ (xfill1 hd ne)⟩⟩
structure XNew (H H' : Hp) (e C d : Addr) (fs : List (Str × V)) : Prop where
  sm : Same H H'
  he : H' e = some (excO e C (some d) true)
  hd : H' d = some (xdO d fs)
  fe : H e = none
  fd : H d = none
  ne : d ≠ e
theorem xnew {H H' : Hp} {e C d : Addr} {fs : List (Str × V)} (he : H e = none) (x : XFill (upd H e (excO e C none true)) H' e C d fs) : XNew H H' e C d fs := by
  have hd : H d = none := by have := x.fr; rwa [upd_ne x.ne] at this
  exact ⟨fun b o q => by rw [x.out b (ne_of_none q he) (ne_of_none q hd), upd_ne (ne_of_none q he)]; exact q, x.he, x.hd, he, hd, x.ne⟩
theorem mk1 {H : Hp} {C : Addr} {f : Str} {y : V} {Q : Addr → Hp → Prop} (k : ∀ e d H', XNew H H' e C d [(f, y)] → Q e H') : ∀ e, H e = none → spI1 C f [.ref e, y] (upd H e (excO e C none true)) (fun v H2 => v = .non ∧ Q e H2) E0 :=
  fun e he => ⟨e, y, rfl, upd_same, fun d H' x => ⟨rfl, k e d H' (xnew he x)⟩⟩
structure XHas (H : Hp) (e C : Addr) (fs : List (Str × V)) : Prop where
  ex : ∃ d fr, H e = some (excO e C (some d) fr) ∧ H d = some (xdO d fs)
theorem XNew.has {H H' : Hp} {e C d : Addr} {fs : List (Str × V)} (x : XNew H H' e C d fs) : XHas H' e C fs := ⟨d, true, x.he, x.hd⟩
theorem XHas.same {H H' : Hp} {e C : Addr} {fs : List (Str × V)} (x : XHas H e C fs) (s : Same H H') : XHas H' e C fs := by
  obtain ⟨d, fr, h1, h2⟩ := x.ex
  exact ⟨d, fr, s _ _ h1, s _ _ h2⟩
end L2
namespace L2
open PySem PySem.Spec PyProof.Rows
theorem comp_walkT {K : PySem.W.Frag} {a : Addr} {xs : List V} {g : TG} {tc : TT} {te : TE} {D : Addr} {τ : St} {H : Hp} {Q : VK} (Pv : Nat → St → Hp → Prop) (h0 : Pv 0 τ H) (hl : ∀ i τ H, i ≤ xs.length → Pv i τ H → SqT K H a xs)
    (hs : ∀ i x τ H, xs[i]? = some x → Pv i τ H → g x τ H fun τ2 H3 => tc τ2 H3 fun b H4 => if b = true then te τ2 H4 fun y H5 => ∃ ys, H5 D = some (.lst ys) ∧ ys.length < sizeLine ∧ Pv (i + 1) τ2 (upd H5 D (.lst (ys ++ [y]))) else Pv (i + 1) τ2 H4)
    (hd : ∀ τ H, Pv xs.length τ H → Q (.ref D) H) :
    CompG (Itt K a) g tc te D τ H Q := by
  refine ⟨fun i m τ H => m = xs.length - i ∧ i ≤ xs.length ∧ Pv i τ H, ⟨xs.length, by simp, Nat.zero_le _, h0⟩, ?_⟩
  rintro i m τ H ⟨rfl, hi, p⟩
  have q := hl i τ H hi p
  by_cases hlt : i < xs.length
  · refine .inr ⟨⟨xs, xs[i], q, by simp [hlt]⟩, Pv (i + 1), fun τ' H' p' => ⟨xs.length - (i + 1), by omega, rfl, hlt, p'⟩, fun x H2 z => ?_⟩
    obtain ⟨rfl, hx⟩ := z
    exact hs i x τ H2 (hx xs q) p
  · have e : i = xs.length := by omega
    subst e
    exact .inl ⟨⟨xs, q, Nat.le_refl _⟩, hd τ H p⟩
section
variable {X : Cx}
end
theorem Row.upd {H : Hp} {l f : Addr} {ps : List Addr} {qs : List Q4} {xs ys : List V} (R : Row H l ps qs) (hf : H f = some (.lst xs)) (ne : l ≠ f) : Row (L2.upd H f (.lst ys)) l ps qs :=
  ⟨by rw [upd_ne ne]; exact R.hl, R.r.keep fun p z e => by rw [upd_ne (ne_of e hf (by intro w; cases w))]; exact e⟩
theorem Row.ne {H : Hp} {l m : Addr} {ps : List Addr} {qs : List Q4} (R : Row H l ps qs) (h : H m = none) : l ≠ m := ne_of_none R.hl h
end L2
namespace Sw
open L2
def Fine (i : Nat) (b : Int) (q : Q4) : Prop := i < 60 ∧ 0 ≤ q.1 ∧ q.1 ≤ 1000000000000 ∧ 0 ≤ q.2.1 ∧ q.2.1 ≤ 11 ∧ 1 ≤ q.2.2.1 ∧ q.2.2.1 ≤ 1000000 ∧ 1 ≤ q.2.2.2 ∧ q.2.2.2 ≤ 1000000 ∧ b ≤ q.1
instance (i : Nat) (b : Int) (q : Q4) : Decidable (Fine i b q) := by unfold Fine; infer_instance
theorem drop_get {α : Type} {xs : List α} {i : Nat} {x : α} (h : xs[i]? = some x) : xs.drop i = x :: xs.drop (i + 1) := by
  obtain ⟨h1, rfl⟩ := List.getElem?_eq_some_iff.mp h
  exact List.drop_eq_getElem_cons h1
end Sw
namespace L2
open PySem PySem.Spec PyProof.Rows
def BindsV (K : PySem.W.Frag) (fd : FuncData) (ps : List Str) (dvs : List V) : Prop := ∃ ds, Vals dvs ds ∧ Binds K fd ps ds
theorem BindsV.nil {K : PySem.W.Frag} {fd : FuncData} {ps : List Str} (h : Binds K fd ps []) : BindsV K fd ps [] := ⟨[], .nil, h⟩
structure FunE (K : PySem.W.Frag) (x qual : Str) (st : Stmt) (f : Addr) (fd : FuncData) : Prop where
  ex : ∃ (oc : Value) (od : Option Addr) (dV kV doc pm : Value) (an : Option Addr) (cdv ct : Value) (osl : Array (Option Value)),
    fd = PySem.W.fnOf x qual (defArgs st) (defBody st) (defScope st) dV kV doc pm an cdv ct ∧ K.lookup f = some ⟨oc, od, .func fd, osl⟩ ∧ PySem.W.codeIn K cdv qual = true
theorem funE_mk {K : PySem.W.Frag} {x qual : Str} {st : Stmt} {f : Addr} {oc : Value} {od an : Option Addr} {osl : Array (Option Value)} {dV kV doc pm cdv ct : Value} (l : K.lookup f = some ⟨oc, od, .func (PySem.W.fnOf x qual (defArgs st) (defBody st) (defScope st) dV kV doc pm an cdv ct), osl⟩)
    (c : PySem.W.codeIn K cdv qual = true) : FunE K x qual st f (PySem.W.fnOf x qual (defArgs st) (defBody st) (defScope st) dV kV doc pm an cdv ct) := ⟨⟨oc, od, dV, kV, doc, pm, an, cdv, ct, osl, rfl, l, c⟩⟩
theorem binds_dflt {K : PySem.W.Frag} {fd : FuncData} {ps : List Str} {ds : List Value} {T : Addr} {oc : Value} {od : Option Addr} {n : Nat} {osl : Array (Option Value)} {items : Array Value} (hd : fd.defaults = .ref T) (lk : K.lookup T = some ⟨oc, od, .seq items n, osl⟩)
    (h : ∀ us : List Value, (us ++ ds).length = ps.length → ∃ k : Option (Array Value) → Sem (List (Str × Value)), bindArgs fd ⟨us, []⟩ = seqItems? fd.defaults >>= k ∧ k (some items) = pure (ps.zip (us ++ ds))) : Binds K fd ps ds := fun s us kx hl => by
  obtain ⟨k, h1, h2⟩ := h us hl
  exact BindsTo.of_defaults hd (kx _ _ lk) rfl h1 h2
structure MethD (P : Program) (w : World) (K : PySem.W.Frag) (mg : Str → Option Value) (base : Heap) (CX : CXT) (k : Nat) (C : Addr) (m : Str) (ps : List Str) (dss : List (List V)) (sp : Sp) : Prop where
  ex : ∃ (f : Addr) (fd : FuncData), FnOk P w K mg base CX k f fd ps sp ∧ Meth K C m f ∧ ∀ dvs ∈ dss, BindsV K fd ps dvs
structure MkD (P : Program) (w : World) (K : PySem.W.Frag) (mg : Str → Option Value) (base : Heap) (CX : CXT) (k : Nat) (C : Addr) (ps : List Str) (dss : List (List V)) (sp : Sp) : Prop where
  ex : ∃ (f : Addr) (fd : FuncData), FnOk P w K mg base CX k f fd ps sp ∧ Mk K C f ∧ ∀ dvs ∈ dss, BindsV K fd ps dvs
structure SrcM (K : PySem.W.Frag) (C : Addr) (m qual : Str) (st : Stmt) (ps : List Str) (dss : List (List V)) : Prop where
  ex : ∃ (f : Addr) (fd : FuncData), FunE K m qual st f fd ∧ Meth K C m f ∧ ∀ dvs ∈ dss, BindsV K fd ps dvs
structure SrcK (K : PySem.W.Frag) (C : Addr) (qual : Str) (st : Stmt) (ps : List Str) (dss : List (List V)) : Prop where
  ex : ∃ (f : Addr) (fd : FuncData), FunE K "__init__" qual st f fd ∧ Mk K C f ∧ ∀ dvs ∈ dss, BindsV K fd ps dvs
section
variable {P : Program} {w : World} {K : PySem.W.Frag} {mg : Str → Option Value} {base : Heap} {CX : CXT} {C : Addr} {m qual : Str} {st : Stmt} {N ps : List Str} {dss : List (List V)} {k : Nat} {sp : Sp}
theorem SrcM.okN (F : SrcM K C m qual st ps dss) (S : FnScope N ps (defScope st)) (len : ∀ vs H Q E, sp vs H Q E → vs.length = ps.length)
    (hbody : ∀ (f : Addr) (cdv : Value) (A : Around) (outer : List Env) (s : Shared) (H : Hp) (vs : List V) (Q : VK) (E : XK), Room k (A.deeper (envOfC qual (defScope st) s.heap.objs.size f cdv)) → sp vs H Q E →
      ∃ t, PSs (cxOf CX P w K mg base N qual (defScope st) f cdv A outer s H E).nox (defBody st) t ∧ t { nx := fun _ H' => Q .non H', rt := Q } (start N vs) H) : MethD P w K mg base CX (k + 1) C m ps dss sp := by
  obtain ⟨f, fd, F, me, b⟩ := F.ex
  obtain ⟨oc, od, dV, kV, doc, pm, an, cdv, ct, osl, rfl, lk, hcd⟩ := F.ex
  exact ⟨f, _, fn_of lk hcd S len fun A outer s H vs Q E hr hsp => by
    obtain ⟨t, h, q⟩ := hbody f cdv A outer s H vs Q E hr hsp
    exact ⟨t, h.nox, q⟩, me, b⟩
theorem SrcM.okX (F : SrcM K C m qual st ps dss) (S : FnScope N ps (defScope st)) (len : ∀ vs H Q E, sp vs H Q E → vs.length = ps.length)
    (hbody : ∀ (f : Addr) (cdv : Value) (A : Around) (outer : List Env) (s : Shared) (H : Hp) (vs : List V) (Q : VK) (E : XK), Room k (A.deeper (envOfC qual (defScope st) s.heap.objs.size f cdv)) → sp vs H Q E →
      ∃ t, PSs (cxOf (CXX P w) P w K mg base N qual (defScope st) f cdv A outer s H E) (defBody st) t ∧ t { nx := fun _ H' => Q .non H', rt := Q } (start N vs) H) : MethD P w K mg base (CXX P w) (k + 1) C m ps dss sp := by
  obtain ⟨f, fd, F, me, b⟩ := F.ex
  obtain ⟨oc, od, dV, kV, doc, pm, an, cdv, ct, osl, rfl, lk, hcd⟩ := F.ex
  exact ⟨f, _, fn_of lk hcd S len fun A outer s H vs Q E hr hsp => hbody f cdv A outer s H vs Q E hr hsp, me, b⟩
theorem SrcK.okN (F : SrcK K C qual st ps dss) (S : FnScope N ps (defScope st)) (len : ∀ vs H Q E, sp vs H Q E → vs.length = ps.length)
    (hbody : ∀ (f : Addr) (cdv : Value) (A : Around) (outer : List Env) (s : Shared) (H : Hp) (vs : List V) (Q : VK) (E : XK), Room k (A.deeper (envOfC qual (defScope st) s.heap.objs.size f cdv)) → sp vs H Q E →
      ∃ t, PSs (cxOf CX P w K mg base N qual (defScope st) f cdv A outer s H E).nox (defBody st) t ∧ t { nx := fun _ H' => Q .non H', rt := Q } (start N vs) H) : MkD P w K mg base CX (k + 1) C ps dss sp := by
  obtain ⟨f, fd, F, me, b⟩ := F.ex
  obtain ⟨oc, od, dV, kV, doc, pm, an, cdv, ct, osl, rfl, lk, hcd⟩ := F.ex
  exact ⟨f, _, fn_of lk hcd S len fun A outer s H vs Q E hr hsp => by
    obtain ⟨t, h, q⟩ := hbody f cdv A outer s H vs Q E hr hsp
    exact ⟨t, h.nox, q⟩, me, b⟩
theorem SrcK.okX (F : SrcK K C qual st ps dss) (S : FnScope N ps (defScope st)) (len : ∀ vs H Q E, sp vs H Q E → vs.length = ps.length)
    (hbody : ∀ (f : Addr) (cdv : Value) (A : Around) (outer : List Env) (s : Shared) (H : Hp) (vs : List V) (Q : VK) (E : XK), Room k (A.deeper (envOfC qual (defScope st) s.heap.objs.size f cdv)) → sp vs H Q E →
      ∃ t, PSs (cxOf (CXX P w) P w K mg base N qual (defScope st) f cdv A outer s H E) (defBody st) t ∧ t { nx := fun _ H' => Q .non H', rt := Q } (start N vs) H) : MkD P w K mg base (CXX P w) (k + 1) C ps dss sp := by
  obtain ⟨f, fd, F, me, b⟩ := F.ex
  obtain ⟨oc, od, dV, kV, doc, pm, an, cdv, ct, osl, rfl, lk, hcd⟩ := F.ex
  exact ⟨f, _, fn_of lk hcd S len fun A outer s H vs Q E hr hsp => hbody f cdv A outer s H vs Q E hr hsp, me, b⟩
end
def tMethX (C : Addr) (m : Str) (sp : Sp) (dvs : List V) (Ek : XH) (ta : TE) (t : TA) : TE := fun σ H Q => ta σ H fun x H1 => ∃ a dx fs, x = .ref a ∧ H1 a = some (.ins C dx fs) ∧ fs.lookup m = none ∧
  t σ H1 fun vs H2 => sp (x :: (vs ++ dvs)) H2 Q (fun v d H' => Ek v d σ H')
def tMakeX (C : Addr) (sp : Sp) (dvs : List V) (Ek : XH) (t : TA) : TE := fun σ H Q => t σ H fun vs H1 => ∀ x dx, H1 x = none → H1 dx = none → dx ≠ x →
  sp (.ref x :: (vs ++ dvs)) (upd (upd H1 dx (.own x)) x (.ins C dx [])) (fun v H2 => v = .non ∧ Q (.ref x) H2) (fun v d H' => Ek v d σ H')
section
variable {X : Cx} {CX : CXT} {k : Nat} {f C : Addr} {fd : FuncData} {ps : List Str} {sp : Sp} {dvs : List V} {dss : List (List V)} {Ek : XH} {x m : Str} {p pos apos : Pos} {e o : Expr} {es : List Expr} {ta : TE} {t : TA}
theorem run_fnX {pins : List (Addr × Obj)} {σ : St} {H : Hp} {s : Shared} {Q : VK} {us : List Value} {vs : List V} (F : FnOk X.prog X.w X.K X.mg X.base CX k f fd ps sp) (hr : Room k X.A) (hb : BindsV X.K fd ps dvs) (hx : PassesX CX X Ek)
    (I : Inv X pins σ H s) (r : Vals vs us) (h : sp (vs ++ dvs) H Q (fun v d H' => Ek v d σ H')) : wpAny (model X.prog X.w) X.A (call (.ref f) us) (EP X pins σ Q) X.xe s := by
  obtain ⟨ds, hd, hb⟩ := hb
  have r2 : Vals (vs ++ dvs) (us ++ ds) := r.append hd
  have hl : (us ++ ds).length = ps.length := by rw [← r2.length]; exact F.len _ _ _ _ h
  refine wpAny_call (codeAny_mono (F.run X.A X.stack s H ⟨us, []⟩ (us ++ ds) (vs ++ dvs) Q _ hr I.env0 (hb s us I.kIn hl) r2 h) fun r s' hq => ?_)
  cases r with
  | error e => exact hx pins σ H s e s' I hq
  | ok fl =>
    cases fl with
    | ret u => exact I.after hq
    | next => exact False.elim hq
    | brk => exact False.elim hq
    | cont => exact False.elim hq
theorem pe_methX {pl : Sem Bool} (D : MethD X.prog X.w X.K X.mg X.base CX k C m ps dss sp) (hin : dvs ∈ dss) (c : Cls X.K C) (hr : Room k X.A) (hx : PassesX CX X Ek) (he : PE X o ta) (ha : PA X (e :: es) t)
    (hst : starEach (e :: es) X.env = (false, eval e X.env) :: starEach es X.env := by rfl) (hpl : (backTo pos (starEach es X.env)).any (·.1) = false := by rfl)
    (ht : eval (.Call (.Attribute o m apos) (e :: es) [] pos) X.env = (do
      let ov ← eval o X.env
      standAt apos.atName
      let (f, first) ← holding [ov] (getMethod ov m pl)
      callWith pos f first (backTo pos (starEach (e :: es) X.env)) (backToKw pos (keywordEach [] X.env))) := by rfl) :
    PE X (.Call (.Attribute o m apos) (e :: es) [] pos) (tMethX C m sp dvs Ek ta t) := by
  obtain ⟨f, fd, F, hm, hb⟩ := D.ex
  intro pins s σ H Q I h
  refine PySem.W.methodCall_KW (pl := pl) (thn (he pins s σ H _ I h) fun u s1 ⟨x, H1, I1, rx, a, dx, fs, ex, ea, l, q⟩ => ?_) ht
  subst ex
  obtain rfl : u = Value.ref a := rx
  refine getmeth_ok I1 ea c hm l ?_
  refine PySem.W.callWith_K (first := [.ref a]) (h₀ := X.base) I.ok.mod.kin hm.kp (thn (ha pos pins s1 σ H1 _ I1 q) fun us s2 ⟨vs, H2, I2, r, q2⟩ => ⟨I2.kIn, ?_⟩) hst hpl
  exact run_fnX (us := .ref a :: us) (vs := .ref a :: vs) F hr (hb _ hin) hx I2 (.cons rfl r) q2
theorem run_makeX {pins : List (Addr × Obj)} {σ : St} {H : Hp} {s : Shared} {Q : VK} {us : List Value} {vs : List V} (M : Mk X.K C f) (F : FnOk X.prog X.w X.K X.mg X.base CX k f fd ps sp) (hr : Room (k + 1) X.A) (hb : BindsV X.K fd ps dvs)
    (hx : PassesX CX X Ek) (I : Inv X pins σ H s) (r : Vals vs us)
    (h : ∀ x dx, H x = none → H dx = none → dx ≠ x → sp (.ref x :: (vs ++ dvs)) (upd (upd H dx (.own x)) x (.ins C dx [])) (fun v H2 => v = .non ∧ Q (.ref x) H2) (fun v d H' => Ek v d σ H')) :
    wpAny (model X.prog X.w) X.A (call (.ref C) us) (EP X pins σ Q) X.xe s := by
  obtain ⟨ds, hd, hb⟩ := hb
  have hq := h (s.heap.objs.size + 1) s.heap.objs.size (I.hok.fresh (Nat.le_succ _)) (I.hok.fresh (Nat.le_refl _)) (Nat.ne_of_lt (Nat.lt_succ_self _))
  have I2 := Inv.made (C := C) I
  have r2 : Vals (V.ref (s.heap.objs.size + 1) :: (vs ++ dvs)) (Value.ref (s.heap.objs.size + 1) :: (us ++ ds)) := .cons rfl (r.append hd)
  have hl : (Value.ref (s.heap.objs.size + 1) :: us ++ ds).length = ps.length := by
    have e := r2.length
    rw [F.len _ _ _ _ hq] at e
    exact e.symm
  refine wpAny_call (make_map (f := f) I.kIn M.makes M.init (beq_iff_eq.mp M.fn) (codeAny_mono (F.run _ X.stack _ _ ⟨Value.ref (s.heap.objs.size + 1) :: us, []⟩ (Value.ref (s.heap.objs.size + 1) :: (us ++ ds)) _ _ _ (hr.make C us [])
    (I2.env0.make C us []) (hb _ (Value.ref (s.heap.objs.size + 1) :: us) I2.kIn hl) r2 hq) fun r s' hq' => ?_))
  cases r with
  | error e => exact hx pins σ _ _ e s' I2 hq'
  | ok fl =>
    cases fl with
    | ret u =>
      obtain ⟨v, H', I3, rv, ev, q3⟩ := I2.after hq'
      subst ev
      exact ⟨rv, ⟨V.ref (s.heap.objs.size + 1), H', I3, rfl, q3⟩⟩
    | next => exact False.elim hq'
    | brk => exact False.elim hq'
    | cont => exact False.elim hq'
theorem pe_makeX (D : MkD X.prog X.w X.K X.mg X.base CX k C ps dss sp) (hin : dvs ∈ dss) (hr : Room (k + 1) X.A) (hx : PassesX CX X Ek) (hg : Gl X x) (hm : X.mg x = some (.ref C))
    (ha : PA X (e :: es) t) (hdb : (x == ("__debug__" : Str)) = false := by decide) (he : starEach (e :: es) X.env = (false, eval e X.env) :: starEach es X.env := by rfl) (hpl : (backTo pos (starEach es X.env)).any (·.1) = false := by rfl) :
    PE X (.Call (.Name x p) (e :: es) [] pos) (tMakeX C sp dvs Ek t) := by
  obtain ⟨f, fd, F, M, hb⟩ := D.ex
  intro pins s σ H Q I h
  refine wpAny_Call_Name_kw (ld_glob I hg hm ?_ hdb)
  refine PySem.W.callWith_K (h₀ := X.base) I.ok.mod.kin M.kp (thn (ha pos pins s σ H _ I h) fun us s1 ⟨vs, H1, I1, r, q⟩ => ⟨I1.kIn, ?_⟩) he hpl
  exact run_makeX M F hr (hb _ hin) hx I1 r q
end
section
variable {X : Cx}
end
end L2
namespace L2
open PySem PySem.Spec PyProof.Rows
def Itrs (lo c : Int) (n : Nat) : It := ⟨fun i _ => i < n, fun i H x H' => H' = H ∧ x = .int (lo + i * c), fun i _ => n ≤ i⟩
structure RngOk (i j c : Int) (n : Nat) : Prop where
  nz : c ≠ 0
  np : Builtin.divisionGoesByPylong (j - i) c = false
  sm : Builtin.Range.small i j c = true
  eq : (n : Int) = Builtin.Range.rangeSize i j c
def iRng3 (ta : TA) : TI := fun σ H R => ta σ H fun vs H1 => ∃ i j c n, vs = [.int i, .int j, .int c] ∧ RngOk i j c n ∧ R (Itrs i c n) H1
section
variable {X : Cx} {tg : Expr}
end
theorem for_step {wi : TI} {g : TG} {tb : TS} {D : Ends} {σ : St} {H : Hp} (h : ∀ Z : It → Hp → Prop, (∀ J H1, (∃ W : Nat → Nat → St → Hp → Prop, (∃ m, W 0 m σ H1) ∧ ∀ i m σ H, W i m σ H →
  (J.stop i H ∧ D.nx σ H) ∨ (J.go i H ∧ ∃ N : St → Hp → Prop, (∀ σ' H', N σ' H' → ∃ m', m' < m ∧ W (i + 1) m' σ' H') ∧ ∀ x H', J.yld i H x H' → g x σ H' fun σ2 H2 => tb { D with nx := N, ct := N, bk := D.nx } σ2 H2)) → Z J H1) → wi σ H Z) : tFor wi g tb D σ H := h _ fun _ _ x => x
theorem pickM {K : PySem.W.Frag} {H : Hp} {t : Addr} {i : Int} {Q : VK} (xs : List Int) (h0 : 0 ≤ i) (h1 : i < xs.length) (k : ∀ z : Int, z ∈ xs → Q (.int z) (upd H t (.lst (xs.map V.int)))) : rIxL K (.ref t) (.int i) (upd H t (.lst (xs.map V.int))) Q := by
  have := atI_nat (xs := xs.map V.int) (j := i.toNat) (v := V.int (xs[i.toNat]'(by omega))) (by simp)
  rw [Int.toNat_of_nonneg h0] at this
  exact ixL_at (.of upd_same) this (k _ (List.getElem_mem _))
section
variable {X : Cx}
end
end L2
namespace Sw
theorem q_cast_ne {d : Int} (h : d ≠ 0) : (d : Rat) ≠ 0 := by
  intro z
  exact h (Rat.intCast_inj.mp (by rw [z]; rfl))
theorem q_cast_pos {d : Int} (h : 0 < d) : (0 : Rat) < (d : Rat) := by
  have : ((0 : Int) : Rat) < (d : Rat) := Rat.intCast_lt_intCast.mpr h
  exact this
theorem q_self (q : Rat) : (q.num : Rat) / ((q.den : Int) : Rat) = q := by
  rw [← Rat.divInt_eq_div]; exact Rat.num_divInt_den q
theorem q_den_pos (q : Rat) : 0 < (q.den : Int) := by
  have := q.den_nz
  omega
theorem q_den_ne (q : Rat) : (q.den : Int) ≠ 0 := by
  have := q.den_nz
  omega
theorem q_num (q : Rat) : (q.num : Rat) = q * ((q.den : Int) : Rat) := by
  have h := q_self q
  have d := q_cast_ne (q_den_ne q)
  grind
theorem q_low (q : Rat) : dv q.num q.den = 1 := by
  unfold dv
  have := q.reduced
  unfold Nat.Coprime at this
  show ((Nat.gcd q.num.natAbs (q.den : Int).natAbs : Nat) : Int) = 1
  rw [Int.natAbs_natCast, this]
  rfl
theorem q_fr (q : Rat) : Fr q.num q.den := ⟨q_den_pos q, q_low q⟩
theorem fr_q {n d : Int} (f : Fr n d) : ((n : Rat) / (d : Rat)).num = n ∧ ((((n : Rat) / (d : Rat)).den : Nat) : Int) = d := by
  have hd : d ≠ 0 := by have := f.pos; omega
  refine Fr.uniq (q_fr _) f ?_
  have h := q_num ((n : Rat) / (d : Rat))
  generalize hq : (n : Rat) / (d : Rat) = q at h ⊢
  have e : (n : Rat) = q * d := by have := q_cast_ne hd; grind
  have : ((q.num * d : Int) : Rat) = ((n * (q.den : Int) : Int) : Rat) := by
    rw [Rat.intCast_mul, Rat.intCast_mul]
    grind
  exact Rat.intCast_inj.mp this
theorem q_cross {q : Rat} {n d : Int} (hd : d ≠ 0) (h : q = (n : Rat) / (d : Rat)) : q.num * d = (q.den : Int) * n := by
  have h1 := q_cast_ne hd
  have : ((q.num * d : Int) : Rat) = (((q.den : Int) * n : Int) : Rat) := by
    rw [Rat.intCast_mul, Rat.intCast_mul, q_num]
    grind
  exact Rat.intCast_inj.mp this
theorem q_lt {a b : Rat} : a.num * (b.den : Int) < b.num * (a.den : Int) ↔ a < b := (Rat.lt_iff a b).symm
structure SzQ (z : Nat) (q : Rat) : Prop where
  n : Sz z q.num
  d : Sz z (q.den : Int)
theorem SzQ.mono {m n : Nat} {q : Rat} (h : SzQ m q) (k : m ≤ n) : SzQ n q := ⟨h.n.mono k, h.d.mono k⟩
theorem cop_dvd' {n d x : Int} (h : dv n d = 1) (q : n ∣ d * x) : n ∣ x := cop_dvd (by rw [dv_comm]; exact h) q
theorem SzQ.of {z : Nat} {q : Rat} {n d : Int} (hd : d ≠ 0) (h : q = (n : Rat) / (d : Rat)) (s1 : Sz z n) (s2 : Sz z d) : SzQ z q := by
  have c := q_cross hd h
  refine ⟨?_, ?_⟩
  · by_cases hn : n = 0
    · subst hn
      rw [Int.mul_zero] at c
      have : q.num = 0 := by
        rcases Int.mul_eq_zero.mp c with z | z
        · exact z
        · exact absurd z hd
      rw [this]; exact Sz.zero z
    · exact s1.dvd (cop_dvd' (q_low q) ⟨d, c.symm⟩) hn
  · exact s2.dvd (cop_dvd (q_low q) ⟨n, c⟩) hd
theorem SzQ.int {z : Nat} {n : Int} (h : Sz (z + 1) n) : SzQ (z + 1) (n : Rat) := ⟨by rw [Rat.num_intCast]; exact h, by rw [Rat.den_intCast]; exact Sz.one z⟩
theorem add_q (a b : Rat) : ((a.num * (b.den : Int) + b.num * (a.den : Int) : Int) : Rat) / (((a.den : Int) * (b.den : Int) : Int) : Rat) = a + b := by
  rw [Rat.intCast_add, Rat.intCast_mul, Rat.intCast_mul, Rat.intCast_mul, q_num a, q_num b]
  have h1 := q_cast_ne (q_den_ne a)
  have h2 := q_cast_ne (q_den_ne b)
  grind
theorem sub_q (a b : Rat) : ((a.num * (b.den : Int) - b.num * (a.den : Int) : Int) : Rat) / (((a.den : Int) * (b.den : Int) : Int) : Rat) = a - b := by
  rw [Rat.intCast_sub, Rat.intCast_mul, Rat.intCast_mul, Rat.intCast_mul, q_num a, q_num b]
  have h1 := q_cast_ne (q_den_ne a)
  have h2 := q_cast_ne (q_den_ne b)
  grind
theorem mul_q (a b : Rat) : ((a.num * b.num : Int) : Rat) / (((a.den : Int) * (b.den : Int) : Int) : Rat) = a * b := by
  rw [Rat.intCast_mul, Rat.intCast_mul, q_num a, q_num b]
  have h1 := q_cast_ne (q_den_ne a)
  have h2 := q_cast_ne (q_den_ne b)
  grind
theorem div_q (a b : Rat) (hb : b.num ≠ 0) : ((a.num * (b.den : Int) : Int) : Rat) / (((a.den : Int) * b.num : Int) : Rat) = a / b := by
  rw [Rat.intCast_mul, Rat.intCast_mul, q_num a, q_num b]
  have h1 := q_cast_ne (q_den_ne a)
  have h2 := q_cast_ne (q_den_ne b)
  have h3 := q_cast_ne hb
  rw [q_num b] at h3
  grind
theorem SzQ.add {m n : Nat} {a b : Rat} (h : SzQ m a) (k : SzQ n b) : SzQ (m + n + 1) (a + b) := by
  refine .of (Int.mul_ne_zero (q_den_ne a) (q_den_ne b)) (add_q a b).symm ?_ ((h.d.mul k.d).mono (by omega))
  exact (h.n.mul k.d).add ((k.n.mul h.d).mono (by omega))
theorem SzQ.sub {m n : Nat} {a b : Rat} (h : SzQ m a) (k : SzQ n b) : SzQ (m + n + 1) (a - b) := by
  refine .of (Int.mul_ne_zero (q_den_ne a) (q_den_ne b)) (sub_q a b).symm ?_ ((h.d.mul k.d).mono (by omega))
  exact (h.n.mul k.d).sub ((k.n.mul h.d).mono (by omega))
theorem SzQ.mul {m n : Nat} {a b : Rat} (h : SzQ m a) (k : SzQ n b) : SzQ (m + n) (a * b) :=
  .of (Int.mul_ne_zero (q_den_ne a) (q_den_ne b)) (mul_q a b).symm (h.n.mul k.n) (h.d.mul k.d)
theorem SzQ.div {m n : Nat} {a b : Rat} (hb : b.num ≠ 0) (h : SzQ m a) (k : SzQ n b) : SzQ (m + n) (a / b) :=
  .of (Int.mul_ne_zero (q_den_ne a) hb) (div_q a b hb).symm (h.n.mul k.d) (h.d.mul k.n)
end Sw
namespace L2
def fq (q : Rat) : List V := [.int q.num, .int (q.den : Int)]
theorem fq_nrm {t b : Int} (hb : b ≠ 0) : f2 (Sw.nrm (t, b)) = fq ((t : Rat) / (b : Rat)) := by
  have f := Sw.nrm_fr (q := (t, b)) hb
  have c := Sw.nrm_cross (q := (t, b)) hb
  have e : ((Sw.nrm (t, b)).1 : Rat) / ((Sw.nrm (t, b)).2 : Rat) = (t : Rat) / (b : Rat) := by
    have h1 := Sw.q_cast_ne hb
    have h2 : (((Sw.nrm (t, b)).2 : Int) : Rat) ≠ 0 := Sw.q_cast_ne (by have := f.pos; omega)
    have c' : (((Sw.nrm (t, b)).1 * b : Int) : Rat) = (((Sw.nrm (t, b)).2 * t : Int) : Rat) := by rw [c]
    rw [Rat.intCast_mul, Rat.intCast_mul] at c'
    grind
  have g := Sw.fr_q f
  rw [e] at g
  unfold f2 fq
  rw [g.1, g.2]
theorem fq_int (n : Int) : [V.int n, V.int 1] = fq (n : Rat) := by
  unfold fq
  rw [Rat.num_intCast, Rat.den_intCast]
  rfl
end L2
namespace Sw
def lvl (d : Int) (r : Rat) (since : Int) (left : Rat) (at_ : Int) : Rat := min (left + r * ((at_ - since : Int) : Rat)) (d : Rat)
theorem SzQ.min {z : Nat} {a b : Rat} (ha : SzQ z a) (hb : SzQ z b) : SzQ z (min a b) := by
  rw [Rat.min_def]
  split
  · exact ha
  · exact hb
end Sw
namespace L2
open PySem PySem.Spec PyProof.Rows
def But (p : Addr) (H H' : Hp) : Prop := ∀ b o, b ≠ p → H b = some o → H' b = some o
theorem Same.but {p : Addr} {H H' : Hp} (h : Same H H') : But p H H' := fun b o _ e => h b o e
theorem But.trans {p : Addr} {H H1 H2 : Hp} (a : But p H H1) (b : But p H1 H2) : But p H H2 := fun c o n h => b c o n (a c o n h)
theorem But.seq {K : PySem.W.Frag} {p : Addr} {H H' : Hp} {a C dx : Addr} {fs : List (Str × V)} {xs : List V} (e : But p H H') (hp : H p = some (.ins C dx fs)) (h : SqL K H a xs) : SqL K H' a xs := by
  rcases h with (h | ⟨o, h⟩) | h
  · exact .inl (.inl (e _ _ (ne_of h hp (by intro w; cases w)) h))
  · exact .inl (.inr ⟨o, e _ _ (ne_of h hp (by intro w; cases w)) h⟩)
  · exact .inr h
theorem But.tup {p : Addr} {H H' : Hp} {a C dx : Addr} {fs : List (Str × V)} {xs : List V} (e : But p H H') (hp : H p = some (.ins C dx fs)) (h : H a = some (.tup xs)) : H' a = some (.tup xs) := e _ _ (ne_of h hp (by intro w; cases w)) h
theorem putF_len : ∀ {fs : List (Str × V)} {f : Str} {v w : V}, fs.lookup f = some w → (putF f v fs).length = fs.length
  | [], f, v, w, h => by cases h
  | (g, x) :: r, f, v, w, h => by
    unfold putF
    by_cases e : g = f
    · rw [if_pos e]; rfl
    · rw [if_neg e]
      have hb : (f == g) = false := beq_eq_false_iff_ne.mpr fun z => e z.symm
      simp only [List.lookup, hb] at h
      show (putF f v r).length + 1 = r.length + 1
      rw [putF_len h]
theorem putF_len' : ∀ {fs : List (Str × V)} {f : Str} {v : V}, (putF f v fs).length ≤ fs.length + 1
  | [], f, v => Nat.le_refl _
  | (g, x) :: r, f, v => by
    unfold putF
    by_cases e : g = f
    · rw [if_pos e]; exact Nat.le_succ _
    · rw [if_neg e]
      show (putF f v r).length + 1 ≤ r.length + 1 + 1
      have := putF_len' (fs := r) (f := f) (v := v)
      omega
structure FB (fs : List (Str × V)) (d : Int) (pr : Addr) (s : Int) (pl : Addr) : Prop where
  dep : fs.lookup ("depth" : Str) = some (.int d)
  rat : fs.lookup ("rate" : Str) = some (.ref pr)
  sin : fs.lookup ("since" : Str) = some (.int s)
  lef : fs.lookup ("left" : Str) = some (.ref pl)
  no : ∀ m : Str, ¬ m = "depth" → ¬ m = "rate" → ¬ m = "since" → ¬ m = "left" → fs.lookup m = none
  len : fs.length < 900
theorem FB.mk0 (d : Int) (pr : Addr) (s : Int) (pl : Addr) : FB (putF "left" (.ref pl) (putF "since" (.int s) (putF "rate" (.ref pr) (putF "depth" (.int d) [])))) d pr s pl := by
  have n1 : ¬ (("depth" : Str) = "left") := by decide +kernel
  have n2 : ¬ (("depth" : Str) = "since") := by decide +kernel
  have n3 : ¬ (("depth" : Str) = "rate") := by decide +kernel
  have n4 : ¬ (("rate" : Str) = "left") := by decide +kernel
  have n5 : ¬ (("rate" : Str) = "since") := by decide +kernel
  have n6 : ¬ (("since" : Str) = "left") := by decide +kernel
  refine ⟨?_, ?_, ?_, ?_, fun m h1 h2 h3 h4 => ?_, ?_⟩
  · rw [lookup_putF, if_neg n1, lookup_putF, if_neg n2, lookup_putF, if_neg n3, lookup_putF, if_pos rfl]
  · rw [lookup_putF, if_neg n4, lookup_putF, if_neg n5, lookup_putF, if_pos rfl]
  · rw [lookup_putF, if_neg n6, lookup_putF, if_pos rfl]
  · rw [lookup_putF, if_pos rfl]
  · rw [lookup_putF, if_neg h4, lookup_putF, if_neg h3, lookup_putF, if_neg h2, lookup_putF, if_neg h1]; rfl
  · have a1 := putF_len' (fs := []) (f := "depth") (v := .int d)
    have a2 := putF_len' (fs := putF "depth" (.int d) []) (f := "rate") (v := .ref pr)
    have a3 := putF_len' (fs := putF "rate" (.ref pr) (putF "depth" (.int d) [])) (f := "since") (v := .int s)
    have a4 := putF_len' (fs := putF "since" (.int s) (putF "rate" (.ref pr) (putF "depth" (.int d) []))) (f := "left") (v := .ref pl)
    simp only [List.length_nil] at a1
    omega
theorem FB.pay {fs : List (Str × V)} {d s s' : Int} {pr pl pl' : Addr} (h : FB fs d pr s pl) : FB (putF "left" (.ref pl') (putF "since" (.int s') fs)) d pr s' pl' := by
  have n1 : ¬ (("depth" : Str) = "left") := by decide +kernel
  have n2 : ¬ (("depth" : Str) = "since") := by decide +kernel
  have n4 : ¬ (("rate" : Str) = "left") := by decide +kernel
  have n5 : ¬ (("rate" : Str) = "since") := by decide +kernel
  have n6 : ¬ (("since" : Str) = "left") := by decide +kernel
  have n7 : ¬ (("left" : Str) = "since") := by decide +kernel
  refine ⟨?_, ?_, ?_, ?_, fun m h1 h2 h3 h4 => ?_, ?_⟩
  · rw [lookup_putF, if_neg n1, lookup_putF, if_neg n2]; exact h.dep
  · rw [lookup_putF, if_neg n4, lookup_putF, if_neg n5]; exact h.rat
  · rw [lookup_putF, if_neg n6, lookup_putF, if_pos rfl]
  · rw [lookup_putF, if_pos rfl]
  · rw [lookup_putF, if_neg h4, lookup_putF, if_neg h3]; exact h.no m h1 h2 h3 h4
  · rw [putF_len (w := .ref pl) (by rw [lookup_putF, if_neg n7]; exact h.lef), putF_len h.sin]; exact h.len
structure Bk (C : Addr) (H : Hp) (p : Addr) (d : Int) (r : Rat) (s : Int) (l : Rat) : Prop where
  ex : ∃ dx fs pr pl, H p = some (.ins C dx fs) ∧ FB fs d pr s pl ∧ H pr = some (.tup (fq r)) ∧ H pl = some (.tup (fq l))
theorem Bk.same {C : Addr} {H H' : Hp} {p : Addr} {d : Int} {r : Rat} {s : Int} {l : Rat} (b : Bk C H p d r s l) (h : Same H H') : Bk C H' p d r s l := by
  obtain ⟨dx, fs, pr, pl, h1, h2, h3, h4⟩ := b.ex
  exact ⟨dx, fs, pr, pl, h _ _ h1, h2, h _ _ h3, h _ _ h4⟩
theorem Bk.but {C C' : Addr} {H H' : Hp} {p q dx' : Addr} {fs' : List (Str × V)} {d : Int} {r : Rat} {s : Int} {l : Rat} (b : Bk C H p d r s l) (h : But q H H') (hq : H q = some (.ins C' dx' fs')) (n : p ≠ q) : Bk C H' p d r s l := by
  obtain ⟨dx, fs, pr, pl, h1, h2, h3, h4⟩ := b.ex
  exact ⟨dx, fs, pr, pl, h _ _ n h1, h2, h.tup hq h3, h.tup hq h4⟩
end L2
namespace L2
open PySem PySem.Spec PyProof.Rows
def rFld (K : PySem.W.Frag) (f : Str) (x : V) (H : Hp) (Q : VK) : Prop := ∃ a C dx fs v, x = .ref a ∧ H a = some (.ins C dx fs) ∧ Cls K C ∧ NoAttr K C f ∧ fs.lookup f = some v ∧ Q v H
theorem tFld_eq {K : PySem.W.Frag} {ta : TE} {f : Str} {σ : St} {H : Hp} {Q : VK} : tFld K ta f σ H Q = ta σ H fun x H1 => rFld K f x H1 Q := rfl
theorem fldR_at {K : PySem.W.Frag} {f : Str} {a C dx : Addr} {fs : List (Str × V)} {v : V} {H : Hp} {Q : VK} (h : H a = some (.ins C dx fs)) (c : Cls K C) (n : NoAttr K C f) (l : fs.lookup f = some v) (q : Q v H) : rFld K f (.ref a) H Q := ⟨a, C, dx, fs, v, rfl, h, c, n, l, q⟩
def rSet (K : PySem.W.Frag) (f : Str) (y x : V) (H : Hp) (Z : Hp → Prop) : Prop := ∃ a C dx fs, x = .ref a ∧ H a = some (.ins C dx fs) ∧ Cls K C ∧ NoAttr K C f ∧ fs.length < 1000 ∧ Z (upd H a (.ins C dx (putF f y fs)))
theorem sFld_eq {K : PySem.W.Frag} {ta tv : TE} {f : Str} {D : Ends} {σ : St} {H : Hp} : sFld K ta tv f D σ H = tv σ H fun y H1 => ta σ H1 fun x H2 => rSet K f y x H2 (D.nx σ) := rfl
theorem set_at {K : PySem.W.Frag} {f : Str} {y : V} {a C dx : Addr} {fs : List (Str × V)} {H : Hp} {Z : Hp → Prop} (h : H a = some (.ins C dx fs)) (c : Cls K C) (n : NoAttr K C f) (l : fs.length < 1000) (q : Z (upd H a (.ins C dx (putF f y fs)))) : rSet K f y (.ref a) H Z := ⟨a, C, dx, fs, rfl, h, c, n, l, q⟩
def rMeth (C : Addr) (m : Str) (x : V) (H : Hp) (Z : Prop) : Prop := ∃ a dx fs, x = .ref a ∧ H a = some (.ins C dx fs) ∧ fs.lookup m = none ∧ Z
theorem tMethX_eq {C : Addr} {m : Str} {sp : Sp} {dvs : List V} {Ek : XH} {ta : TE} {t : TA} {σ : St} {H : Hp} {Q : VK} :
    tMethX C m sp dvs Ek ta t σ H Q = ta σ H fun x H1 => rMeth C m x H1 (t σ H1 fun vs H2 => sp (x :: (vs ++ dvs)) H2 Q (fun v d H' => Ek v d σ H')) := by
  unfold tMethX rMeth
  rfl
theorem meth_at {C : Addr} {m : Str} {a dx : Addr} {fs : List (Str × V)} {H : Hp} {Z : Prop} (h : H a = some (.ins C dx fs)) (l : fs.lookup m = none) (z : Z) : rMeth C m (.ref a) H Z := ⟨a, dx, fs, rfl, h, l, z⟩
theorem same_make {H : Hp} {x dx C : Addr} (h1 : H x = none) (h2 : H dx = none) : Same H (upd (upd H dx (.own x)) x (.ins C dx [])) := fun b o e => by
  rw [upd_ne (ne_of_none e h1), upd_ne (ne_of_none e h2)]
  exact e
theorem But.same {x : Addr} {H H1 H' : Hp} (b : But x H1 H') (s : Same H H1) (h : H x = none) : Same H H' := fun c o e => b c o (ne_of_none e h) (s c o e)
theorem at_int {H : Hp} {p : Addr} {n : Int} : upd H p (.tup [.int n, .int 1]) p = some (.tup (fq (n : Rat))) := by rw [upd_same, fq_int]
theorem szq_int {n : Int} (h : Sw.Sz 5000 n) : Sw.SzQ 5000 (n : Rat) := Sw.SzQ.int h
theorem fq_low {t b : Int} (hb : 0 < b) : [V.int (t / Sw.dv t b), V.int (b / Sw.dv t b)] = fq ((t : Rat) / (b : Rat)) := by
  rw [← fq_nrm (by omega)]
  unfold f2 Sw.nrm Sw.rN Sw.rD
  simp only [if_neg (show ¬ b < 0 by omega)]
end L2
namespace L2
open PySem PySem.Spec PyProof.Rows
theorem nx_step {t : TS} {D : Ends} {σ : St} {H : Hp} (h : ∀ R : St → Hp → Prop, (∀ σ H, D.nx σ H → R σ H) → t { D with nx := R } σ H) : t D σ H := h D.nx fun _ _ x => x
structure BZ (d : Int) (r : Rat) (l : Rat) : Prop where
  d : Sw.Sz 300 d
  r : Sw.SzQ 300 r
  l : Sw.SzQ 300 l
def spLevel (C : Addr) : Sp := fun vs H Q _ => ∃ p t d r s l, vs = [.ref p, .int t] ∧ Bk C H p d r s l ∧ BZ d r l ∧ Sw.Sz 300 (t - s) ∧ ∀ q H', Same H H' → H' q = some (.tup (fq (Sw.lvl d r s l t))) → Q (.ref q) H'
theorem lvl_sz {d : Int} {r : Rat} {s : Int} {l : Rat} {t : Int} (z : BZ d r l) (zt : Sw.Sz 300 (t - s)) : Sw.SzQ 1000 (Sw.lvl d r s l t) := by
  unfold Sw.lvl
  exact Sw.SzQ.min ((z.l.add (z.r.mul (.int zt))).mono (by decide)) ((Sw.SzQ.int z.d).mono (by decide))
def spHolds (C : Addr) : Sp := fun vs H Q _ => ∃ p t n d r s l, vs = [.ref p, .int t, .int n] ∧ Bk C H p d r s l ∧ BZ d r l ∧ Sw.Sz 300 (t - s) ∧ Sw.Sz 300 n ∧ ∀ H', Same H H' → Q (.bl (!decide (Sw.lvl d r s l t < (n : Rat)))) H'
def spPay (cS C : Addr) : Sp := fun vs H Q E => ∃ p t n d r s l, vs = [.ref p, .int t, .int n] ∧ Bk C H p d r s l ∧ BZ d r l ∧ Sw.Sz 300 (t - s) ∧ Sw.Sz 300 n ∧
  ((n : Rat) ≤ Sw.lvl d r s l t → ∀ H', But p H H' → Bk C H' p d r t (Sw.lvl d r s l t - (n : Rat)) → Q .non H') ∧
  (Sw.lvl d r s l t < (n : Rat) → ∀ e x pm H', Same H H' → H' e = some (excO e cS (some x) false) → H' x = some (xdO x [("missing", .ref pm)]) → H' pm = some (.tup (fq ((n : Rat) - Sw.lvl d r s l t))) → E (.ref e) (some x) H')
structure At (C : Addr) (H : Hp) (p : Addr) (d : Int) (r : Rat) (t level : Int) : Prop where
  ex : ∃ s n : Int, Bk C H p d r s ((n : Rat) / ((r.den : Int) : Rat)) ∧ 0 ≤ n ∧ n ≤ d * (r.den : Int) ∧ 0 ≤ s ∧ s ≤ t ∧ Sw.lvl d r s ((n : Rat) / ((r.den : Int) : Rat)) t = (level : Rat) / ((r.den : Int) : Rat)
structure Bd (d : Int) (r : Rat) : Prop where
  d1 : 1 ≤ d
  d2 : d ≤ 1000000000000
  r0 : 0 ≤ r
  rz : Sw.SzQ 70 r
theorem Bd.bz {d : Int} {r : Rat} {n : Int} (b : Bd d r) (h0 : 0 ≤ n) (h1 : n ≤ d * (r.den : Int)) : BZ d r ((n : Rat) / ((r.den : Int) : Rat)) := by
  have d1 := b.d1
  have d2 := b.d2
  have sd : Sw.Sz 70 d := Sw.Sz.r18 (by omega) (by omega)
  have sn : Sw.Sz 140 n := (sd.mul b.rz.d).le (by omega)
  exact ⟨sd.mono (by decide), b.rz.mono (by decide), .of (Sw.q_den_ne r) rfl (sn.mono (by decide)) (b.rz.d.mono (by decide))⟩
theorem At.same {C : Addr} {H H' : Hp} {p : Addr} {d : Int} {r : Rat} {t level : Int} (a : At C H p d r t level) (h : Same H H') : At C H' p d r t level := by
  obtain ⟨s, n, B, x⟩ := a.ex
  exact ⟨s, n, B.same h, x⟩
theorem lt_den {a b : Int} {r : Rat} : (a : Rat) / ((r.den : Int) : Rat) < (b : Rat) ↔ a < b * (r.den : Int) := by
  rw [Rat.div_lt_iff (Sw.q_cast_pos (Sw.q_den_pos r)), ← Rat.intCast_mul, Rat.intCast_lt_intCast]
theorem At.lv {C : Addr} {H : Hp} {p : Addr} {d : Int} {r : Rat} {t level : Int} (a : At C H p d r t level) (b : Bd d r) : 0 ≤ level ∧ level ≤ d * (r.den : Int) := by
  obtain ⟨s, n, B, n0, n1, s0, s1, e⟩ := a.ex
  have dp := Sw.q_cast_pos (Sw.q_den_pos r)
  have h1 : (level : Rat) / ((r.den : Int) : Rat) ≤ (d : Rat) := by
    rw [← e]; unfold Sw.lvl; rw [Rat.min_def]; grind
  have x0 : (0 : Rat) ≤ (n : Rat) / ((r.den : Int) : Rat) := by
    have h : ¬ (n : Rat) / ((r.den : Int) : Rat) < ((0 : Int) : Rat) := by rw [lt_den]; omega
    have z : ((0 : Int) : Rat) = 0 := rfl
    grind
  have y0 : (0 : Rat) ≤ r * ((t - s : Int) : Rat) := by
    refine Rat.mul_nonneg b.r0 ?_
    have : ((0 : Int) : Rat) ≤ ((t - s : Int) : Rat) := Rat.intCast_le_intCast.mpr (by omega)
    exact this
  have w0 : (0 : Rat) ≤ (d : Rat) := by
    have : ((0 : Int) : Rat) ≤ (d : Rat) := Rat.intCast_le_intCast.mpr (by have := b.d1; omega)
    exact this
  have h0 : (0 : Rat) ≤ (level : Rat) / ((r.den : Int) : Rat) := by
    rw [← e]; unfold Sw.lvl; rw [Rat.min_def]; grind
  have g0 : ¬ level < 0 * (r.den : Int) := by
    rw [← lt_den]
    have z : ((0 : Int) : Rat) = 0 := rfl
    grind
  have g1 : ¬ (d * (r.den : Int) < level) := by
    intro h
    have : (d : Rat) * ((r.den : Int) : Rat) < (level : Rat) := by rw [← Rat.intCast_mul]; exact Rat.intCast_lt_intCast.mpr h
    rw [← Rat.lt_div_iff dp] at this
    grind
  omega
theorem At.paid {C : Addr} {H : Hp} {p : Addr} {d : Int} {r : Rat} {t level n : Int} (B : Bk C H p d r t ((level : Rat) / ((r.den : Int) : Rat) - (n : Rat))) (lv : level ≤ d * (r.den : Int)) (h : n * (r.den : Int) ≤ level) (n0 : 0 ≤ n) (t0 : 0 ≤ t) :
    At C H p d r t (level - n * (r.den : Int)) := by
  have dn := Sw.q_cast_ne (Sw.q_den_ne r)
  have dp := Sw.q_cast_pos (Sw.q_den_pos r)
  have e1 : (level : Rat) / ((r.den : Int) : Rat) - (n : Rat) = ((level - n * (r.den : Int) : Int) : Rat) / ((r.den : Int) : Rat) := by
    rw [Rat.intCast_sub, Rat.intCast_mul]
    grind
  rw [e1] at B
  have np : 0 ≤ n * (r.den : Int) := Int.mul_nonneg n0 (Int.le_of_lt (Sw.q_den_pos r))
  refine ⟨t, _, B, by omega, by omega, t0, Int.le_refl _, ?_⟩
  have e2 : ((t - t : Int) : Rat) = 0 := by rw [Int.sub_self]; rfl
  have h1 : ¬ (d : Rat) < ((level - n * (r.den : Int) : Int) : Rat) / ((r.den : Int) : Rat) := by
    rw [Rat.lt_div_iff dp, ← Rat.intCast_mul, Rat.intCast_lt_intCast]
    omega
  unfold Sw.lvl
  rw [e2, Rat.min_def]
  generalize ((level - n * (r.den : Int) : Int) : Rat) / ((r.den : Int) : Rat) = v at h1 ⊢
  grind
theorem At.later {C : Addr} {H : Hp} {p : Addr} {d : Int} {r : Rat} {t level g : Int} (a : At C H p d r t level) (bd : Bd d r) (g0 : 0 ≤ g) :
    At C H p d r (t + g) (if level + r.num * g < d * (r.den : Int) then level + r.num * g else d * (r.den : Int)) := by
  obtain ⟨s, n, B, n0, n1, s0, s1, e⟩ := a.ex
  refine ⟨s, n, B, n0, n1, s0, by omega, ?_⟩
  have dn := Sw.q_cast_ne (Sw.q_den_ne r)
  have dp := Sw.q_cast_pos (Sw.q_den_pos r)
  have rg : (0 : Rat) ≤ r * (g : Rat) := by
    refine Rat.mul_nonneg bd.r0 ?_
    have : ((0 : Int) : Rat) ≤ (g : Rat) := Rat.intCast_le_intCast.mpr g0
    exact this
  have e2 : ((t + g - s : Int) : Rat) = ((t - s : Int) : Rat) + (g : Rat) := by
    rw [show t + g - s = (t - s) + g by omega, Rat.intCast_add]
  have e3 : ((level + r.num * g : Int) : Rat) / ((r.den : Int) : Rat) = (level : Rat) / ((r.den : Int) : Rat) + r * (g : Rat) := by
    rw [Rat.intCast_add, Rat.intCast_mul, Sw.q_num r]
    grind
  have e4 : ((d * (r.den : Int) : Int) : Rat) / ((r.den : Int) : Rat) = (d : Rat) := by
    rw [Rat.intCast_mul]
    grind
  have e5 : level + r.num * g < d * (r.den : Int) ↔ (level : Rat) / ((r.den : Int) : Rat) + r * (g : Rat) < (d : Rat) := by
    rw [← e3, lt_den]
  unfold Sw.lvl at e ⊢
  rw [e2, Rat.mul_add]
  rw [Rat.min_def] at e ⊢
  generalize hx : (n : Rat) / ((r.den : Int) : Rat) + r * ((t - s : Int) : Rat) = x at e
  have hx2 : (n : Rat) / ((r.den : Int) : Rat) + (r * ((t - s : Int) : Rat) + r * (g : Rat)) = x + r * (g : Rat) := by grind
  rw [hx2]
  by_cases hc : level + r.num * g < d * (r.den : Int)
  · rw [if_pos hc, e3]
    rw [e5] at hc
    grind
  · rw [if_neg hc, e4]
    rw [e5] at hc
    grind
theorem At.init {C : Addr} {H : Hp} {p : Addr} {d : Int} {r : Rat} {s : Int} (B : Bk C H p d r s (d : Rat)) (bd : Bd d r) (s0 : 0 ≤ s) : At C H p d r s (d * (r.den : Int)) := by
  have dn := Sw.q_cast_ne (Sw.q_den_ne r)
  have e : (d : Rat) = ((d * (r.den : Int) : Int) : Rat) / ((r.den : Int) : Rat) := by
    rw [Rat.intCast_mul]
    grind
  rw [e] at B
  have d1 := bd.d1
  refine ⟨s, _, B, Int.mul_nonneg (by omega) (Int.le_of_lt (Sw.q_den_pos r)), Int.le_refl _, s0, Int.le_refl _, ?_⟩
  rw [← e]
  unfold Sw.lvl
  rw [Int.sub_self, Rat.min_def]
  have : ((0 : Int) : Rat) = 0 := rfl
  rw [this]
  grind
theorem fq_deep {K : PySem.W.Frag} {H : Hp} {p : Addr} {q : Rat} (h : H p = some (.tup (fq q))) : Deep K H (.ref p) (.tuple [.int q.num, .int (q.den : Int)]) := .tup (.of h) (.cons (.int _) (.cons (.int _) .nil))
theorem At.ins {C : Addr} {H : Hp} {p : Addr} {d : Int} {r : Rat} {t level : Int} (a : At C H p d r t level) : ∃ dx fs pr s pl, H p = some (.ins C dx fs) ∧ FB fs d pr s pl ∧ H pr = some (.tup (fq r)) := by
  obtain ⟨s, n, B, _⟩ := a.ex
  obtain ⟨dx, fs, pr, pl, h1, h2, h3, h4⟩ := B.ex
  exact ⟨dx, fs, pr, s, pl, h1, h2, h3⟩
theorem holds_of {C : Addr} {H : Hp} {p : Addr} {d : Int} {r : Rat} {t level n : Int} {Q : VK} {E : XK} (a : At C H p d r t level) (bd : Bd d r) (t1 : t < 1000000000000000000) (n0 : 0 ≤ n) (n1 : n < 1000000000000000000) (k : ∀ H', Same H H' → Q (.bl (decide (n * (r.den : Int) ≤ level))) H') :
    rMeth C "holds" (.ref p) H (spHolds C [.ref p, .int t, .int n] H Q E) := by
  obtain ⟨s, m, B, m0, m1, s0, s1, e⟩ := a.ex
  obtain ⟨dx, fs, pr, pl, hp, fb, hr', hl⟩ := id B.ex
  refine meth_at hp (fb.no _ (by decide +kernel) (by decide +kernel) (by decide +kernel) (by decide +kernel)) ?_
  refine ⟨p, t, n, d, r, s, _, rfl, B, bd.bz m0 m1, (Sw.Sz.r18 (by omega) (by omega)).mono (by decide), (Sw.Sz.r18 (by omega) (by omega)).mono (by decide), fun H3 sm3 => ?_⟩
  rw [e]
  have eb : (!decide ((level : Rat) / ((r.den : Int) : Rat) < (n : Rat))) = decide (n * (r.den : Int) ≤ level) := by
    rw [decide_eq_decide.mpr lt_den, ← decide_not]
    exact decide_eq_decide.mpr (by omega)
  rw [eb]
  exact k H3 sm3
theorem pay_of {cS C : Addr} {H : Hp} {p : Addr} {d : Int} {r : Rat} {t level n : Int} {Q : VK} {E : XK} (a : At C H p d r t level) (bd : Bd d r) (t0 : 0 ≤ t) (t1 : t < 1000000000000000000) (n0 : 0 ≤ n) (n1 : n < 1000000000000000000)
    (k : n * (r.den : Int) ≤ level → ∀ H', But p H H' → At C H' p d r t (level - n * (r.den : Int)) → Q .non H')
    (kx : ¬ n * (r.den : Int) ≤ level → ∀ e x pm H', Same H H' → H' e = some (excO e cS (some x) false) → H' x = some (xdO x [("missing", .ref pm)]) → H' pm = some (.tup (fq (((n * (r.den : Int) - level : Int) : Rat) / ((r.den : Int) : Rat)))) → E (.ref e) (some x) H') :
    rMeth C "pay" (.ref p) H (spPay cS C [.ref p, .int t, .int n] H Q E) := by
  have lv := a.lv bd
  obtain ⟨s, m, B, m0, m1, s0, s1, e⟩ := a.ex
  obtain ⟨dx, fs, pr, pl, hp, fb, hr', hl⟩ := id B.ex
  refine meth_at hp (fb.no _ (by decide +kernel) (by decide +kernel) (by decide +kernel) (by decide +kernel)) ?_
  refine ⟨p, t, n, d, r, s, _, rfl, B, bd.bz m0 m1, (Sw.Sz.r18 (by omega) (by omega)).mono (by decide), (Sw.Sz.r18 (by omega) (by omega)).mono (by decide), ?_, ?_⟩
  · intro h H1 bt B1
    rw [e] at h B1
    have h' : n * (r.den : Int) ≤ level := by
      have : ¬ (level : Rat) / ((r.den : Int) : Rat) < (n : Rat) := by grind
      rw [lt_den] at this
      omega
    exact k h' H1 bt (At.paid B1 lv.2 h' n0 t0)
  · intro h e1 x pm H1 sm he hx hm
    rw [e] at h hm
    have e2 : (n : Rat) - (level : Rat) / ((r.den : Int) : Rat) = ((n * (r.den : Int) - level : Int) : Rat) / ((r.den : Int) : Rat) := by
      have dn := Sw.q_cast_ne (Sw.q_den_ne r)
      rw [Rat.intCast_sub, Rat.intCast_mul]
      grind
    rw [e2] at hm
    exact kx (by rw [lt_den] at h; omega) e1 x pm H1 sm he hx hm
end L2
namespace Sw
def lvOf (D num den t : Int) : List (Int × Int) → Int → Int
  | [], _ => D
  | q :: l, S => if D + num * (t - q.1) - (S + q.2) * den < lvOf D num den t l (S + q.2) then D + num * (t - q.1) - (S + q.2) * den else lvOf D num den t l (S + q.2)
theorem lvOf_le (D num den t : Int) : ∀ (l : List (Int × Int)) (S : Int), lvOf D num den t l S ≤ D
  | [], _ => Int.le_refl _
  | q :: l, S => by
    have := lvOf_le D num den t l (S + q.2)
    unfold lvOf
    split <;> omega
theorem lvOf_later {D num den t g : Int} (h : 0 ≤ num * g) : ∀ (l : List (Int × Int)) (S : Int), lvOf D num den (t + g) l S = if lvOf D num den t l S + num * g < D then lvOf D num den t l S + num * g else D
  | [], _ => by unfold lvOf; split <;> omega
  | q :: l, S => by
    have e := lvOf_later (D := D) (den := den) (t := t) h l (S + q.2)
    have e1 : num * (t + g - q.1) = num * (t - q.1) + num * g := by rw [← Int.mul_add]; congr 1; omega
    have le := lvOf_le D num den t l (S + q.2)
    unfold lvOf
    rw [e, e1]
    generalize num * (t - q.1) = x
    generalize num * g = y at h e ⊢
    generalize (S + q.2) * den = z
    generalize lvOf D num den t l (S + q.2) = v at le e ⊢
    split <;> split <;> split <;> (try split) <;> omega
theorem lvOf_paid {D num den t n : Int} (h : 0 ≤ n * den) : ∀ (l : List (Int × Int)) (S : Int), (if D - n * den < lvOf D num den t l (S + n) then D - n * den else lvOf D num den t l (S + n)) = lvOf D num den t l S - n * den
  | [], _ => by unfold lvOf; split <;> omega
  | q :: l, S => by
    have e := lvOf_paid (D := D) (num := num) (t := t) h l (S + q.2)
    have e1 : (S + n + q.2) * den = (S + q.2) * den + n * den := by rw [← Int.add_mul]; congr 1; omega
    have e2 : S + n + q.2 = S + q.2 + n := by omega
    unfold lvOf
    rw [e1, e2]
    generalize num * (t - q.1) = x
    generalize (S + q.2) * den = z
    generalize lvOf D num den t l (S + q.2 + n) = v at e ⊢
    generalize lvOf D num den t l (S + q.2) = u at e ⊢
    generalize n * den = y at h e ⊢
    revert e
    split <;> intro e <;> split <;> split <;> (try split) <;> omega
theorem lvOf_pay {D num den t n : Int} (h : 0 ≤ n * den) (l : List (Int × Int)) : lvOf D num den t ((t, n) :: l) 0 = lvOf D num den t l 0 - n * den := by
  have e := lvOf_paid (D := D) (num := num) (t := t) h l 0
  have e1 : num * (t - t) = 0 := by rw [Int.sub_self, Int.mul_zero]
  rw [← e]
  show (if D + num * (t - t) - (0 + n) * den < lvOf D num den t l (0 + n) then D + num * (t - t) - (0 + n) * den else lvOf D num den t l (0 + n)) = _
  rw [e1, show D + 0 - (0 + n) * den = D - n * den by rw [Int.zero_add]; omega]
end Sw
namespace L2
open PySem PySem.Spec PyProof.Rows
def spMixS : Sp := fun vs H Q _ => ∃ c i, vs = [.int c, .int i] ∧ 0 ≤ i ∧ i < 1000 ∧ ∀ m H', Same H H' → 0 ≤ m → m < 2147483647 → Q (.int m) H'
end L2
namespace L2
open PySem PySem.Spec PyProof.Rows
section
variable {κ : Type} [DecidableEq κ]
def valV (kvs : List (κ × V)) (k : κ) : Option V := (kvs.find? fun kv => decide (kv.1 = k)).map (·.2)
def putK (kvs : List (κ × V)) (k : κ) (v : V) : List (κ × V) :=
  if (kvs.any fun kv => decide (kv.1 = k)) = true then kvs.map (fun kv => if kv.1 = k then (kv.1, v) else kv) else kvs ++ [(k, v)]
def dropK (kvs : List (κ × V)) (k : κ) : List (κ × V) := kvs.filter fun kv => decide (kv.1 ≠ k)
theorem valV_pos {p : κ × V} {r : List (κ × V)} {k : κ} (e : p.1 = k) : valV (p :: r) k = some p.2 := by simp [valV, List.find?_cons, e]
theorem valV_neg {p : κ × V} {r : List (κ × V)} {k : κ} (e : ¬ p.1 = k) : valV (p :: r) k = valV r k := by simp [valV, List.find?_cons, e]
theorem valV_any (k : κ) : ∀ kvs : List (κ × V), (kvs.any fun kv => decide (kv.1 = k)) = (valV kvs k).isSome
  | [] => rfl
  | p :: r => by
    rw [List.any_cons]
    by_cases e : p.1 = k
    · simp only [valV_pos e, decide_eq_true e, Bool.true_or, Option.isSome_some]
    · rw [valV_neg e, decide_eq_false e, Bool.false_or]; exact valV_any k r
theorem valV_map (k j : κ) (y : V) : ∀ kvs : List (κ × V), valV (kvs.map fun kv => if kv.1 = k then (kv.1, y) else kv) j = (valV kvs j).map fun x => if j = k then y else x
  | [] => rfl
  | p :: r => by
    have ih := valV_map k j y r
    rw [List.map_cons]
    by_cases h : p.1 = k
    · rw [if_pos h]
      by_cases e : p.1 = j
      · rw [valV_pos (p := (p.1, y)) e, valV_pos e, Option.map_some, if_pos (e.symm.trans h)]
      · rw [valV_neg (p := (p.1, y)) e, valV_neg e, ih]
    · rw [if_neg h]
      by_cases e : p.1 = j
      · rw [valV_pos (p := p) e, valV_pos e, Option.map_some, if_neg (fun z => h (e.trans z))]
      · rw [valV_neg (p := p) e, valV_neg e, ih]
theorem valV_snoc (k j : κ) (y : V) : ∀ kvs : List (κ × V), valV kvs k = none → valV (kvs ++ [(k, y)]) j = if j = k then some y else valV kvs j
  | [], _ => by
    by_cases e : k = j
    · rw [if_pos e.symm]; exact valV_pos (p := (k, y)) e
    · rw [if_neg (fun z => e z.symm)]; exact valV_neg (p := (k, y)) e
  | p :: r, hn => by
    rw [List.cons_append]
    have hk : ¬ p.1 = k := fun z => by rw [valV_pos z] at hn; cases hn
    rw [valV_neg hk] at hn
    have ih := valV_snoc k j y r hn
    by_cases e : p.1 = j
    · rw [valV_pos e, valV_pos e, if_neg (fun z => hk (e.trans z))]
    · rw [valV_neg e, valV_neg e, ih]
theorem valV_put (kvs : List (κ × V)) (k j : κ) (y : V) : valV (putK kvs k y) j = if j = k then some y else valV kvs j := by
  unfold putK
  by_cases a : (kvs.any fun kv => decide (kv.1 = k)) = true
  · rw [if_pos a, valV_map]
    rw [valV_any] at a
    by_cases e : j = k
    · obtain ⟨x, hx⟩ := Option.isSome_iff_exists.mp a
      rw [if_pos e, e, hx, Option.map_some, if_pos rfl]
    · rw [if_neg e]
      cases valV kvs j with
      | none => rfl
      | some x => rw [Option.map_some, if_neg e]
  · rw [if_neg a]
    refine valV_snoc k j y kvs ?_
    rw [valV_any] at a
    cases q : valV kvs k with
    | none => rfl
    | some x => rw [q] at a; exact (a rfl).elim
theorem length_putK (kvs : List (κ × V)) (k : κ) (v : V) : (putK kvs k v).length ≤ kvs.length + 1 := by
  unfold putK
  split
  · rw [List.length_map]; omega
  · rw [List.length_append, List.length_cons, List.length_nil]; omega
theorem RelO.isSome_eq {o : Option V} {u : Option Value} (r : RelO o u) : o.isSome = u.isSome := by
  cases o with
  | none => cases u with
    | none => rfl
    | some _ => exact (show False from r).elim
  | some _ => cases u with
    | none => exact (show False from r).elim
    | some _ => rfl
theorem RelO.getD {o : Option V} {u : Option Value} {d : V} {d' : Value} (r : RelO o u) (rd : RelV d d') : RelV (o.getD d) (u.getD d') := by
  cases o with
  | none => cases u with
    | none => exact rd
    | some _ => exact (show False from r).elim
  | some _ => cases u with
    | none => exact (show False from r).elim
    | some _ => exact r
theorem KV.val {kvs : List (κ × V)} {vs : List (κ × Value)} (r : KV kvs vs) (k : κ) : RelO (valV kvs k) (valueAt vs k) := by
  unfold KV at r
  induction r with
  | nil => exact True.intro
  | @cons p q ps qs h t ih =>
    obtain ⟨h1, h2⟩ := h
    by_cases e : p.1 = k
    · have e' : q.1 = k := h1.symm.trans e
      have b : valueAt (q :: qs) k = some q.2 := by simp [valueAt, List.find?_cons, e']
      rw [valV_pos e, b]; exact h2
    · have e' : ¬ q.1 = k := fun z => e (h1.trans z)
      have b : valueAt (q :: qs) k = valueAt qs k := by simp [valueAt, List.find?_cons, e']
      rw [valV_neg e, b]; exact ih
theorem KV.any {kvs : List (κ × V)} {vs : List (κ × Value)} (r : KV kvs vs) (k : κ) : (kvs.any fun kv => decide (kv.1 = k)) = vs.any fun kv => decide (kv.1 = k) := by
  unfold KV at r
  induction r with
  | nil => rfl
  | cons h t ih => rw [List.any_cons, List.any_cons, ih, h.1]
theorem KV.repl {kvs : List (κ × V)} {vs : List (κ × Value)} (r : KV kvs vs) (k : κ) {y : V} {u : Value} (ry : RelV y u) :
    KV (kvs.map fun kv => if kv.1 = k then (kv.1, y) else kv) (vs.map fun kv => if kv.1 = k then (kv.1, u) else kv) := by
  unfold KV at r ⊢
  induction r with
  | nil => exact .nil
  | @cons p q ps qs h t ih =>
    rw [List.map_cons, List.map_cons]
    refine .cons ?_ ih
    obtain ⟨h1, h2⟩ := h
    by_cases e : p.1 = k
    · rw [if_pos e, if_pos (h1.symm.trans e)]; exact ⟨h1, ry⟩
    · rw [if_neg e, if_neg (fun z => e (h1.trans z))]; exact ⟨h1, h2⟩
theorem KV.put {kvs : List (κ × V)} {vs : List (κ × Value)} (r : KV kvs vs) (k : κ) {y : V} {u : Value} (ry : RelV y u) : KV (putK kvs k y) (stored vs k u) := by
  unfold putK stored
  rw [r.any k]
  by_cases e : (vs.any fun kv => decide (kv.1 = k)) = true
  · rw [if_pos e, if_pos e]; exact r.repl k ry
  · rw [if_neg e, if_neg e]; exact Paired.snoc r ⟨rfl, ry⟩
theorem KV.drop {kvs : List (κ × V)} {vs : List (κ × Value)} (r : KV kvs vs) (k : κ) : KV (dropK kvs k) (without vs k) := by
  unfold KV at r ⊢
  unfold dropK without
  induction r with
  | nil => exact .nil
  | @cons p q ps qs h t ih =>
    obtain ⟨h1, h2⟩ := h
    rw [List.filter_cons, List.filter_cons]
    by_cases e : p.1 = k
    · have a : ¬ decide (p.1 ≠ k) = true := by simp [e]
      have b : ¬ decide (q.1 ≠ k) = true := by simp [h1.symm.trans e]
      rw [if_neg a, if_neg b]; exact ih
    · have e' : ¬ q.1 = k := fun z => e (h1.trans z)
      have a : decide (p.1 ≠ k) = true := by simp [e]
      have b : decide (q.1 ≠ k) = true := by simp [e']
      rw [if_pos a, if_pos b]; exact .cons ⟨h1, h2⟩ ih
theorem KV.keys {kvs : List (κ × V)} {vs : List (κ × Value)} (r : KV kvs vs) : kvs.map (·.1) = vs.map (·.1) := by
  unfold KV at r
  induction r with
  | nil => rfl
  | cons h t ih => rw [List.map_cons, List.map_cons, ih, h.1]
theorem KV.length {kvs : List (κ × V)} {vs : List (κ × Value)} (r : KV kvs vs) : kvs.length = vs.length := Paired.length r
end
theorem kV_is {P : Program} {w : World} {k : Key} {u : Value} (r : RelV (kV k) u) : (mixKind P w).is k u = true := by
  cases k with
  | inl i => obtain ⟨t, e⟩ := (show ∃ t, u = Value.int i t from r); subst e; exact mixKind_int P w i t
  | inr x => obtain ⟨t, e⟩ := (show ∃ t, u = Value.str x t from r); subst e; exact mixKind_str P w x t
theorem items_are {P : Program} {w : World} : ∀ {ks : List Key} {us : List Value}, Vals (ks.map kV) us → ItemsAre (mixKind P w) ks us
  | [], _, r => by rw [List.map_nil] at r; cases r; exact .nil
  | k :: ks, _, r => by
    rw [List.map_cons] at r
    cases r with
    | cons h t => exact .cons (kV_is h) (items_are t)
abbrev KT (H : Hp) : List (List Key × V) → List (List Key × Addr × Value) → Prop := Paired fun p q => p.1 = q.1 ∧ H q.2.1 = some (.tup (p.1.map kV)) ∧ RelV p.2 q.2.2
theorem KT.val {H : Hp} {kvs : List (List Key × V)} {xs : List (List Key × Addr × Value)} (r : KT H kvs xs) (k : List Key) : RelO (valV kvs k) ((atKey xs k).map (·.2)) := by
  induction r with
  | nil => exact True.intro
  | @cons p q ps qs h t ih =>
    obtain ⟨h1, _, h2⟩ := h
    by_cases e : p.1 = k
    · have e' : q.1 = k := h1.symm.trans e
      have b : atKey (q :: qs) k = some q.2 := by simp [atKey, List.find?_cons, e']
      rw [valV_pos e, b]; exact h2
    · have e' : ¬ q.1 = k := fun z => e (h1.trans z)
      have b : atKey (q :: qs) k = atKey qs k := by simp [atKey, List.find?_cons, e']
      rw [valV_neg e, b]; exact ih
theorem KT.repl {H : Hp} {kvs : List (List Key × V)} {xs : List (List Key × Addr × Value)} (r : KT H kvs xs) (k : List Key) {y : V} {u : Value} (ry : RelV y u) :
    KT H (kvs.map fun kv => if kv.1 = k then (kv.1, y) else kv) (xs.map (putAt k u)) := by
  induction r with
  | nil => exact .nil
  | @cons p q ps qs h t ih =>
    rw [List.map_cons, List.map_cons]
    refine .cons ?_ ih
    obtain ⟨h1, h2, h3⟩ := h
    unfold putAt
    by_cases e : p.1 = k
    · rw [if_pos e, if_pos (h1.symm.trans e)]; exact ⟨h1, h2, ry⟩
    · rw [if_neg e, if_neg (fun z => e (h1.trans z))]; exact ⟨h1, h2, h3⟩
theorem KT.put {H : Hp} {kvs : List (List Key × V)} {xs : List (List Key × Addr × Value)} (r : KT H kvs xs) (k : List Key) {b : Addr} {y : V} {u : Value} (hb : H b = some (.tup (k.map kV))) (ry : RelV y u) :
    KT H (putK kvs k y) (storedH xs k b u) := by
  have e : (kvs.any fun kv => decide (kv.1 = k)) = (atKey xs k).isSome := by
    rw [valV_any, (r.val k).isSome_eq, Option.isSome_map]
  unfold putK storedH
  rw [e]
  by_cases q : (atKey xs k).isSome = true
  · rw [if_pos q, if_pos q]; exact r.repl k ry
  · rw [if_neg q, if_neg q]; exact Paired.snoc r ⟨rfl, hb, ry⟩
theorem KT.keeps {H H' : Hp} {kvs : List (List Key × V)} {xs : List (List Key × Addr × Value)} (r : KT H kvs xs) (ht : ∀ b ys, H b = some (.tup ys) → H' b = some (.tup ys)) : KT H' kvs xs :=
  Paired.mapP r fun _ _ z => ⟨z.1, ht _ _ z.2.1, z.2.2⟩
section
variable {P : Program} {w : World} {H : Hp} {h : Heap} {a : Addr}
theorem rd_of {u : HO} (ok : HOk P w H h) (e : Rd H a u) : ObjOk P w H h a u := e.ok ok
theorem dk_rd {kvs : List (Key × V)} (ok : HOk P w H h) (e : Rd H a (.dK kvs)) : kvs.length ≤ sizeLine ∧ (a == sysModules) = false ∧ ∃ vs, KV kvs vs ∧ h.DictOf (mixKind P w) a vs :=
  show ObjOk P w H h a (.dK kvs) from rd_of ok e
theorem dk_of {kvs : List (Key × V)} (ok : HOk P w H h) (e : H a = some (.dK kvs)) : kvs.length ≤ sizeLine ∧ (a == sysModules) = false ∧ ∃ vs, KV kvs vs ∧ h.DictOf (mixKind P w) a vs := dk_rd ok (.inl e)
theorem key_of {ks : List Key} (ok : HOk P w H h) (e : H a = some (.tup (ks.map kV))) : (tupleKind (mixKind P w)).is h ks a := by
  obtain ⟨_, its, r, o, h1, h2, n, h3⟩ := (show ObjOk P w H h a (.tup (ks.map kV)) from ok a _ e)
  exact ⟨o, its.toArray, n, h1, h2, h3, by simpa using items_are r⟩
theorem dt_rd {kvs : List (List Key × V)} (ok : HOk P w H h) (e : Rd H a (.dT kvs)) : kvs.length ≤ sizeLine ∧ (a == sysModules) = false ∧
    ∃ xs, KT H kvs xs ∧ h.DictOfH (tupleKind (mixKind P w)) a xs := by
  obtain ⟨z, y, xs, r, o, es, ep, h1, h2, h3, h4, h5⟩ := (show ObjOk P w H h a (.dT kvs) from rd_of ok e)
  refine ⟨z, y, xs, r, o, es, ep, h1, h2, h3, h4, fun x hx => ?_, h5⟩
  have all : ∀ {l : List (List Key × V)} {m : List (List Key × Addr × Value)}, KT H l m → ∀ x ∈ m, (tupleKind (mixKind P w)).is h x.1 x.2.1 := by
    intro l m q
    induction q with
    | nil => intro x hx; exact nomatch hx
    | @cons p q ps qs hq t ih =>
      intro x hx
      rcases List.mem_cons.mp hx with e | hx
      · subst e
        exact key_of ok (by rw [← hq.1]; exact hq.2.1)
      · exact ih x hx
  exact all r x hx
theorem dt_of {kvs : List (List Key × V)} (ok : HOk P w H h) (e : H a = some (.dT kvs)) : kvs.length ≤ sizeLine ∧ (a == sysModules) = false ∧
    ∃ xs, KT H kvs xs ∧ h.DictOfH (tupleKind (mixKind P w)) a xs := dt_rd ok (.inl e)
end
def DGet (H : Hp) (a : Addr) (y : V) (r : Option V) : Prop :=
  (∃ kvs k, Rd H a (.dK kvs) ∧ y = kV k ∧ r = valV kvs k) ∨ ∃ kvs k b, Rd H a (.dT kvs) ∧ y = .ref b ∧ H b = some (.tup (k.map kV)) ∧ r = valV kvs k
def DPut (H : Hp) (a : Addr) (y v : V) (H' : Hp) : Prop :=
  (∃ kvs k, H a = some (.dK kvs) ∧ y = kV k ∧ kvs.length < sizeLine ∧ H' = upd H a (.dK (putK kvs k v))) ∨
  ∃ kvs k b, H a = some (.dT kvs) ∧ y = .ref b ∧ H b = some (.tup (k.map kV)) ∧ kvs.length < sizeLine ∧ H' = upd H a (.dT (putK kvs k v))
theorem DGet.k {H : Hp} {a : Addr} {kvs : List (Key × V)} {k : Key} (e : H a = some (.dK kvs)) : DGet H a (kV k) (valV kvs k) := .inl ⟨kvs, k, .inl e, rfl, rfl⟩
theorem DGet.t {H : Hp} {a b : Addr} {kvs : List (List Key × V)} {k : List Key} (e : H a = some (.dT kvs)) (eb : H b = some (.tup (k.map kV))) : DGet H a (.ref b) (valV kvs k) := .inr ⟨kvs, k, b, .inl e, rfl, eb, rfl⟩
theorem DPut.k {H : Hp} {a : Addr} {kvs : List (Key × V)} {k : Key} {v : V} (e : H a = some (.dK kvs)) (hl : kvs.length < sizeLine) : DPut H a (kV k) v (upd H a (.dK (putK kvs k v))) := .inl ⟨kvs, k, e, rfl, hl, rfl⟩
theorem DPut.t {H : Hp} {a b : Addr} {kvs : List (List Key × V)} {k : List Key} {v : V} (e : H a = some (.dT kvs)) (eb : H b = some (.tup (k.map kV))) (hl : kvs.length < sizeLine) :
    DPut H a (.ref b) v (upd H a (.dT (putK kvs k v))) := .inr ⟨kvs, k, b, e, rfl, eb, hl, rfl⟩
section
variable {X : Cx} {pins : List (Addr × Obj)} {σ : St} {H : Hp} {s : Shared} {a : Addr} {y v : V} {u r : Value} {o : Option V} {A : Around} {E : Value → Shared → Prop}
theorem Inv.big (I : Inv X pins σ H s) : sysModules < s.heap.objs.size := by
  have h : mainGlobals < s.heap.objs.size := (I.mod.glob.keeps I.bk).lt
  exact Nat.lt_trans (by decide) h
theorem d_getItem {Q : Value → Shared → Prop} (hu : A.units + 1 < cLine) (I : Inv X pins σ H s) (g : DGet H a y (some v)) (ry : RelV y u) (h : ∀ w' s', Inv X pins σ H s' → RelV v w' → Q w' s') :
    wpAny (model X.prog X.w) A (getItem (.ref a) u) Q E s := by
  rcases g with ⟨kvs, k, e, ey, l⟩ | ⟨kvs, k, b, e, ey, eb, l⟩
  · subst ey
    obtain ⟨z, hd, vs, rel, dd⟩ := dk_rd I.hok e
    obtain ⟨w', hw, rw'⟩ := RelO.some_of (v := v) (o := valueAt vs k) (by rw [l]; exact rel.val k)
    exact wpAny_getItem_of (kV_is ry) dd.mapOf hw (h w' _ (I.tok _) rw')
  · subst ey
    cases (show u = Value.ref b from ry)
    obtain ⟨z, hd, xs, rel, dd⟩ := dt_rd I.hok e
    obtain ⟨w', hw, rw'⟩ := RelO.some_of (v := v) (o := (atKey xs k).map (·.2)) (by rw [l]; exact rel.val k)
    obtain ⟨p, hp, hp2⟩ := Option.map_eq_some_iff.mp hw
    refine wpAny_getItem_heap (tupleKind_room_in1 hu) (key_of I.hok eb) dd hp ?_
    rw [hp2]
    exact h w' _ (I.tok _) rw'
theorem d_in {Q : Value → Shared → Prop} (hu : A.units + 1 < cLine) (I : Inv X pins σ H s) (g : DGet H a y o) (ry : RelV y u) (h : ∀ s', Inv X pins σ H s' → Q (.bool o.isSome) s') :
    wpAny (model X.prog X.w) A (compareOp .In u (.ref a)) Q E s := by
  rcases g with ⟨kvs, k, e, ey, l⟩ | ⟨kvs, k, b, e, ey, eb, l⟩
  · subst ey
    obtain ⟨z, hd, vs, rel, dd⟩ := dk_rd I.hok e
    refine wpAny_in_of (kV_is ry) hd dd.mapOf ?_
    rw [← (rel.val k).isSome_eq, ← l]
    exact h _ (I.tok _)
  · subst ey
    cases (show u = Value.ref b from ry)
    obtain ⟨z, hd, xs, rel, dd⟩ := dt_rd I.hok e
    refine wpAny_in_heap (tupleKind_room_in1 hu) (key_of I.hok eb) hd dd ?_
    have q := (rel.val k).isSome_eq
    rw [Option.isSome_map] at q
    rw [← q, ← l]
    exact h _ (I.tok _)
theorem d_notIn {Q : Value → Shared → Prop} (hu : A.units + 1 < cLine) (I : Inv X pins σ H s) (g : DGet H a y o) (ry : RelV y u) (h : ∀ s', Inv X pins σ H s' → Q (.bool (!o.isSome)) s') :
    wpAny (model X.prog X.w) A (compareOp .NotIn u (.ref a)) Q E s := by
  rcases g with ⟨kvs, k, e, ey, l⟩ | ⟨kvs, k, b, e, ey, eb, l⟩
  · subst ey
    obtain ⟨z, hd, vs, rel, dd⟩ := dk_rd I.hok e
    refine wpAny_notIn_of (kV_is ry) hd dd.mapOf ?_
    rw [← (rel.val k).isSome_eq, ← l]
    exact h _ (I.tok _)
  · subst ey
    cases (show u = Value.ref b from ry)
    obtain ⟨z, hd, xs, rel, dd⟩ := dt_rd I.hok e
    refine wpAny_notIn_heap (tupleKind_room_in1 hu) (key_of I.hok eb) hd dd ?_
    have q := (rel.val k).isSome_eq
    rw [Option.isSome_map] at q
    rw [← q, ← l]
    exact h _ (I.tok _)
theorem d_write {h' : Heap} {t' : Nat} {ob : HO} (I : Inv X pins σ H s) (mu : Mut (H a)) (hs : Heap.SameBut a s.heap h') (he : ∃ q, h'.get? a = some q) (new : ObjOk X.prog X.w (upd H a ob) h' a ob) :
    Inv X pins σ (upd H a ob) { s with heap := h', toks := t' } :=
  I.write (x := a) (e := a) mu (.inl rfl) (fun b q hb z => (hs.2 b hb).trans z) he new
theorem dk_new {P : Program} {w : World} {H' : Hp} {h' : Heap} {kvs : List (Key × V)} {vs : List (Key × Value)} (z : kvs.length ≤ sizeLine) (hd : (a == sysModules) = false) (rel : KV kvs vs) (dd : h'.DictOf (mixKind P w) a vs) :
    ObjOk P w H' h' a (.dK kvs) := ⟨z, hd, vs, rel, dd⟩
theorem d_setItem {H' : Hp} {Q : Unit → Shared → Prop} (hu : A.units + 1 < cLine) (I : Inv X pins σ H s) (g : DPut H a y v H') (ry : RelV y u) (rv : RelV v r) (h : ∀ s', Inv X pins σ H' s' → Q () s') :
    wpAny (model X.prog X.w) A (setItem (.ref a) u r) Q E s := by
  rcases g with ⟨kvs, k, e, ey, l, eH⟩ | ⟨kvs, k, b, e, ey, eb, l, eH⟩
  · subst ey eH
    obtain ⟨z, hd, vs, rel, dd⟩ := dk_of I.hok e
    have hz : vs.length ≤ sizeLine := by rw [← rel.length]; exact z
    have hl : (putK kvs k v).length ≤ sizeLine := by have := length_putK kvs k v; omega
    refine wpAny_setItem_pairs (hsz := hz) (kV_is ry) dd fun h' dd' hs => h _ ?_
    have he : ∃ q, h'.get? a = some q := let ⟨q, _, _, hq, _⟩ := dd'; ⟨q, hq⟩
    exact d_write I (by rw [e]; exact True.intro) hs he (dk_new hl hd (rel.put k rv) dd')
  · subst ey eH
    cases (show u = Value.ref b from ry)
    obtain ⟨z, hd, xs, rel, dd⟩ := dt_of I.hok e
    have hz : xs.length ≤ sizeLine := by rw [← Paired.length rel]; exact z
    have hl : (putK kvs k v).length ≤ sizeLine := by have := length_putK kvs k v; omega
    refine wpAny_setItem_heap (hsz := hz) (tupleKind_room_in1 hu) (key_of I.hok eb) dd fun h' dd' hs => h _ ?_
    obtain ⟨q, es, ep, hq, h2, h3, h4, _, h5⟩ := dd'
    refine d_write I (by rw [e]; exact True.intro) hs ⟨q, hq⟩ ⟨hl, hd, _, (rel.put k eb rv).keeps fun c ys ec => ?_, q, es, ep, hq, h2, h3, h4, h5⟩
    rw [upd_ne (ne_of ec e (fun z => nomatch z))]
    exact ec
end
section
variable {X : Cx} {pins : List (Addr × Obj)} {σ : St} {H : Hp} {s : Shared} {a : Addr} {kvs : List (Key × V)} {k : Key} {u : Value} {A : Around} {E : Value → Shared → Prop}
end
def NoSl (i : Expr) : Prop := ∀ ov iv, subscripted i false ov iv = operate [ov, iv] (getItem ov iv)
theorem subD_of {prog : Program} {w : World} {A : Around} {E : Value → Shared → Prop} {s : Shared} {env : Env} {value slice : Expr} {pos : Pos} {T id : String} {Q : Value → Shared → Prop}
    (hl : typeLookup (.type T) "__getitem__" = pure (some (.builtin id))) (hs : NoSl slice)
    (h : wpAny (model prog w) A (eval value env) (fun o s₁ => wpAny (model prog w) A (eval slice env) (fun i s₂ => s₂.TypeIs o T ∧ wpAny (model prog w) A (getItem o i) Q E s₂) E s₁) E s) :
    wpAny (model prog w) A (eval (.Subscript value slice pos) env) Q E s := by
  refine Subscript_ (wpAny_mono h (fun o s₁ h₁ => wpAny_mono h₁ (fun i s₂ h₂ => ?_) fun _ _ x => x) fun _ _ x => x)
  obtain ⟨hT, h₂⟩ := h₂
  unfold subscriptTail
  refine wpAny_bind ?_
  rw [getitemInPython_of_ne hT.not_modules]
  refine wpAny_bind (wpAny_specialOf hT hl ?_)
  have fin : wpAny (model prog w) A (subscripted slice false o i) (fun r s₃ => wpAny (model prog w) A (letTemporaryGo value o r >>= fun _ => pure r) Q E s₃) E s₂ := by
    rw [hs o i]
    exact wpAny_operating (wpAny_mono h₂ (fun r s₃ h₃ => wpAny_bind (wpAny_letTemporaryGo (wpAny_pure h₃))) fun _ _ x => x)
  first
    | exact wpAny_pure (wpAny_bind fin)
    | exact wpAny_bind (wpAny_pure (wpAny_bind fin))
    | exact wpAny_bind fin
theorem dict_typeIs {X : Cx} {pins : List (Addr × Obj)} {σ : St} {H : Hp} {s : Shared} {a : Addr} {y : V} {o : Option V} (I : Inv X pins σ H s) (g : DGet H a y o) : s.TypeIs (.ref a) "dict" := by
  rcases g with ⟨kvs, k, e, _, _⟩ | ⟨kvs, k, b, e, _, _, _⟩
  · obtain ⟨_, _, vs, _, dd⟩ := dk_rd I.hok e
    exact dd.typeIs
  · obtain ⟨_, _, xs, _, dd⟩ := dt_rd I.hok e
    exact dd.typeIs
def tDGet (td ty : TE) : TE := fun σ H Q => td σ H fun x H1 => ty σ H1 fun y H2 => ∃ a v, x = .ref a ∧ DGet H2 a y (some v) ∧ Q v H2
def tDIn (ty td : TE) : TE := fun σ H Q => ty σ H fun y H1 => td σ H1 fun x H2 => ∃ a o, x = .ref a ∧ DGet H2 a y o ∧ Q (.bl o.isSome) H2
def tDNotIn (ty td : TE) : TE := fun σ H Q => ty σ H fun y H1 => td σ H1 fun x H2 => ∃ a o, x = .ref a ∧ DGet H2 a y o ∧ Q (.bl (!o.isSome)) H2
def sDPut (td ty tv : TE) : TS := fun D σ H => tv σ H fun v H1 => td σ H1 fun x H2 => ty σ H2 fun y H3 => ∃ a H4, x = .ref a ∧ DPut H3 a y v H4 ∧ D.nx σ H4
section
variable {X : Cx} {o i e value : Expr} {pos pos' tpos : Pos} {td ty tv : TE}
theorem pe_dget (hu : X.A.units + 1 < cLine) (ho : PE X o td) (hi : PE X i ty) (hs : NoSl i) : PE X (.Subscript o i pos) (tDGet td ty) := by
  intro pins s σ H Q I h
  refine subD_of PySem.F.slot_dict_getitem.lookup hs (thn (ho pins s σ H _ I h) fun u s1 ⟨x, H1, I1, rx, q1⟩ => thn (hi pins s1 σ H1 _ I1 q1) fun iv s2 ⟨y, H2, I2, ry, a, v, ex, g, q2⟩ => ?_)
  subst ex
  obtain rfl : u = Value.ref a := rx
  exact ⟨dict_typeIs I2 g, d_getItem hu I2 g ry fun w' s3 I3 rw' => ⟨v, H2, I3, rw', q2⟩⟩
theorem pc_din (hu : X.A.units + 1 < cLine) (hi : PE X i ty) (ho : PE X o td) : PC X .In i o (tDIn ty td) := by
  intro pins s σ H Q I h
  refine thn (hi pins s σ H _ I h) fun iv s1 ⟨y, H1, I1, ry, q1⟩ => thn (ho pins s1 σ H1 _ I1 q1) fun u s2 ⟨x, H2, I2, rx, a, ov, ex, g, q2⟩ => ?_
  subst ex
  obtain rfl : u = Value.ref a := rx
  exact d_in hu I2 g ry fun s3 I3 => ⟨.bl ov.isSome, H2, I3, rfl, q2⟩
theorem pc_dnotin (hu : X.A.units + 1 < cLine) (hi : PE X i ty) (ho : PE X o td) : PC X .NotIn i o (tDNotIn ty td) := by
  intro pins s σ H Q I h
  refine thn (hi pins s σ H _ I h) fun iv s1 ⟨y, H1, I1, ry, q1⟩ => thn (ho pins s1 σ H1 _ I1 q1) fun u s2 ⟨x, H2, I2, rx, a, ov, ex, g, q2⟩ => ?_
  subst ex
  obtain rfl : u = Value.ref a := rx
  exact d_notIn hu I2 g ry fun s3 I3 => ⟨.bl (!ov.isSome), H2, I3, rfl, q2⟩
theorem ps_dput (hu : X.A.units + 1 < cLine) (ho : PE X o td) (hi : PE X i ty) (hv : PE X value tv) (hs : swapsWith value (some (.Subscript o i pos')) pos.line X.env = pure false) :
    PS X (.Assign [.Subscript o i pos'] value pos) (sDPut td ty tv) := by
  intro pins s σ H D I h
  refine wpAny_Assign_Subscript (thn (hv pins s σ H _ I h) fun r s1 ⟨v, H1, I1, rv, q1⟩ => thn (ho pins s1 σ H1 _ I1 q1) fun u s2 ⟨x, H2, I2, rx, q2⟩ => thn (hi pins s2 σ H2 _ I2 q2) fun iv s3 ⟨y, H3, I3, ry, a, H4, ex, g, q3⟩ => ?_) hs
  subst ex
  obtain rfl : u = Value.ref a := rx
  exact d_setItem hu I3 g ry rv fun s4 I4 => ⟨σ, H4, I4, q3⟩
end
theorem dk_empty {P : Program} {w : World} {H : Hp} (h : Heap) (hb : sysModules < h.objs.size) : ObjOk P w H (h.push { cls := .type "dict", data := .dict #[] }) h.objs.size (.dK []) :=
  ⟨Nat.zero_le _, beq_eq_false_iff_ne.mpr (Ne.symm (Nat.ne_of_lt hb)), [], .nil, Heap.DictOf.new h⟩
def tDNewK : TE := fun _ H Q => ∀ p, H p = none → Q (.ref p) (upd H p (.dK []))
section
variable {X : Cx} {pos : Pos}
theorem pe_dnewK : PE X (.Dict [] [] pos) tDNewK := fun pins s σ H Q I h =>
  wpAny_Dict_empty ⟨.ref s.heap.objs.size, _, I.laid (a := s.heap.objs.size) (o := .dK []) (t' := s.toks) (fun _ _ q => Heap.get?_push_of_some _ q) (Nat.le_refl _) (dk_empty s.heap I.big), rfl, h _ (I.hok.fresh (Nat.le_refl _))⟩
end
structure M1 (X : Cx) (o : Expr) (m : Str) (apos : Pos) (e : Expr) (cpos : Pos) : Prop where
  base : attributeBase o m X.env (eval o X.env) = eval o X.env
  few : ((backTo cpos (starEach [e] X.env)).all (fun x => !x.1) && (backToKw cpos (keywordEach [] X.env)).all (fun x => x.1.isSome)
    && decide (([e] : List Expr).length + ([] : List Keyword).length + (if ([] : List Keyword).isEmpty then 0 else 1) < 30)) = true
  line : (apos.endLine == cpos.line) = true
  trees : backTo cpos (starEach [e] X.env) = [(false, eval e X.env)]
structure M2 (X : Cx) (o : Expr) (m : Str) (apos : Pos) (e f : Expr) (cpos : Pos) : Prop where
  base : attributeBase o m X.env (eval o X.env) = eval o X.env
  few : ((backTo cpos (starEach [e, f] X.env)).all (fun x => !x.1) && (backToKw cpos (keywordEach [] X.env)).all (fun x => x.1.isSome)
    && decide (([e, f] : List Expr).length + ([] : List Keyword).length + (if ([] : List Keyword).isEmpty then 0 else 1) < 30)) = true
  line : (apos.endLine == cpos.line) = true
  trees : backTo cpos (starEach [e, f] X.env) = [(false, eval e X.env), (false, eval f X.env)]
def IsD (H : Hp) (a : Addr) : Prop := (∃ kvs, Rd H a (.dK kvs)) ∨ ∃ kvs, Rd H a (.dT kvs)
theorem isD_at {X : Cx} {pins : List (Addr × Obj)} {σ : St} {H : Hp} {s : Shared} {a : Addr} (I : Inv X pins σ H s) (d : IsD H a) :
    s.TypeIs (.ref a) "dict" ∧ (∀ b, Value.ref a = .ref b → ∃ ob, s.heap.get? b = some ob ∧ ob.dict = none) ∧ (a == sysModules) = false := by
  rcases d with ⟨kvs, e⟩ | ⟨kvs, e⟩
  · obtain ⟨_, hd, vs, _, dd⟩ := dk_rd I.hok e
    refine ⟨dd.typeIs, fun b q => ?_, hd⟩
    cases q
    obtain ⟨ob, _, _, h1, h2, _⟩ := dd
    exact ⟨ob, h1, h2.2.1⟩
  · obtain ⟨_, hd, xs, _, dd⟩ := dt_rd I.hok e
    refine ⟨dd.typeIs, fun b q => ?_, hd⟩
    cases q
    obtain ⟨ob, _, _, h1, h2, _⟩ := dd
    exact ⟨ob, h1, h2.2.1⟩
section
variable {X : Cx} {pins : List (Addr × Obj)} {σ : St} {H : Hp} {s : Shared} {a : Addr} {y d : V} {u r : Value} {o : Option V} {A : Around} {E : Value → Shared → Prop}
theorem d_get1 {Q : Value → Shared → Prop} (hu : A.units + 1 < cLine) (I : Inv X pins σ H s) (g : DGet H a y o) (ry : RelV y u) (h : ∀ w' s', Inv X pins σ H s' → RelV (o.getD .non) w' → Q w' s') :
    wpAny (model X.prog X.w) A (call (.builtin "dict.get") [.ref a, u]) Q E s := by
  rcases g with ⟨kvs, k, e, ey, l⟩ | ⟨kvs, k, b, e, ey, eb, l⟩
  · subst ey
    obtain ⟨z, hd, vs, rel, dd⟩ := dk_rd I.hok e
    refine call_meetsIn PySem.F.slot_dict_get dd.typeIs PySem.F.entry_dict_get (PySem.F.args_dict_get_2 _ _) (meets_dict_get (mixKind X.prog X.w) a (kV_is ry) hd) ⟨_, dd.mapOf, h _ _ (I.tok _) ?_⟩
    rw [l]
    exact (rel.val k).getD rfl
  · subst ey
    cases (show u = Value.ref b from ry)
    obtain ⟨z, hd, xs, rel, dd⟩ := dt_rd I.hok e
    refine call_meetsIn PySem.F.slot_dict_get dd.typeIs PySem.F.entry_dict_get (PySem.F.args_dict_get_2 _ _) (meetsH_dict_get (tupleKind (mixKind X.prog X.w)) a b hd) ⟨tupleKind_room_in1 hu, k, xs, key_of I.hok eb, dd, h _ _ (I.tok _) ?_⟩
    rw [l]
    exact (rel.val k).getD rfl
end
def tDGet1 (td ty : TE) : TE := fun σ H Q => td σ H fun x H1 => ∃ a, x = .ref a ∧ IsD H1 a ∧ ty σ H1 fun y H2 => ∃ o, DGet H2 a y o ∧ Q (o.getD .non) H2
def tDGet2 (td ty tx : TE) : TE := fun σ H Q => td σ H fun x H1 => ∃ a, x = .ref a ∧ IsD H1 a ∧ ty σ H1 fun y H2 => tx σ H2 fun z H3 => ∃ o, DGet H3 a y o ∧ Q (o.getD z) H3
section
variable {X : Cx} {o e f : Expr} {apos cpos : Pos} {td ty tx : TE}
theorem pe_dget1 (hu : X.A.units + 1 < cLine) (ho : PE X o td) (he : PE X e ty) (m : M1 X o "get" apos e cpos) : PE X (.Call (.Attribute o "get" apos) [e] [] cpos) (tDGet1 td ty) := by
  intro pins s σ H Q I h
  refine wpAny_Call_method m.base m.few m.line PySem.F.plainAttrs_dict PySem.F.slot_dict_get PySem.F.type_dict_get (thn (ho pins s σ H _ I h) fun u s1 ⟨x, H1, I1, rx, a, ex, d, q1⟩ => ?_)
  subst ex
  obtain rfl : u = Value.ref a := rx
  obtain ⟨t1, t2, _⟩ := isD_at I1 d
  refine ⟨t1, t2, ?_⟩
  rw [m.trees]
  refine Calls.callWith_builtin rfl (Calls.evalArgs_plain (Calls.spliced_cons (thn (he pins s1 σ H1 _ I1 q1) fun iv s2 ⟨y, H2, I2, ry, ov, g, q2⟩ => Calls.spliced_nil ?_)))
  exact d_get1 hu I2 g ry fun w' s3 I3 rw' => ⟨_, H2, I3, rw', q2⟩
end
section
variable {X : Cx} {pins : List (Addr × Obj)} {σ : St} {H : Hp} {s : Shared} {a : Addr} {kvs : List (Key × V)} {A : Around} {E : Value → Shared → Prop}
end
section
variable {X : Cx} {pins : List (Addr × Obj)} {σ : St} {H : Hp} {s : Shared} {a : Addr} {y : V} {u : Value} {A : Around} {E : Value → Shared → Prop}
end
end L2
namespace L2
open PySem PySem.Spec PyProof.Rows
section
variable {X : Cx}
end
section
variable {κ : Type} [DecidableEq κ]
end
end L2
namespace L2
open PySem PySem.Spec PyProof.Rows
def tTru (K : PySem.W.Frag) (ta : TE) : TT := fun σ H Q => ta σ H fun x H1 => ∃ k, TruV K x H1 k ∧ Q k H1
end L2
namespace Sw
abbrev T3 := Rat × Rat × Int
def Grd (D : Int) (q : Rat) : Prop := ∃ n : Int, q = (n : Rat) / (D : Rat)
theorem Grd.int {D : Int} (hD : D ≠ 0) (n : Int) : Grd D (n : Rat) := ⟨n * D, by have := q_cast_ne hD; rw [Rat.intCast_mul]; grind⟩
theorem Grd.add {D : Int} {a b : Rat} (h : Grd D a) (k : Grd D b) : Grd D (a + b) := by
  obtain ⟨n, rfl⟩ := h
  obtain ⟨m, rfl⟩ := k
  exact ⟨n + m, by rw [Rat.intCast_add]; grind⟩
theorem Grd.sub {D : Int} {a b : Rat} (h : Grd D a) (k : Grd D b) : Grd D (a - b) := by
  obtain ⟨n, rfl⟩ := h
  obtain ⟨m, rfl⟩ := k
  exact ⟨n - m, by rw [Rat.intCast_sub]; grind⟩
theorem Grd.more {D : Int} {a : Rat} (hD : D ≠ 0) (h : Grd D a) {k : Int} (hk : k ≠ 0) : Grd (D * k) a := by
  obtain ⟨n, rfl⟩ := h
  have h1 := q_cast_ne hD
  have h2 := q_cast_ne hk
  exact ⟨n * k, by rw [Rat.intCast_mul, Rat.intCast_mul]; grind⟩
theorem Grd.sz {D M : Int} {a b : Nat} {q : Rat} (h : Grd D q) (hD : 0 < D) (zD : Sz a D) (zM : Sz b M) (h1 : -(M : Rat) ≤ q) (h2 : q ≤ (M : Rat)) (hb : 1 ≤ b) : SzQ (a + b) q := by
  obtain ⟨n, rfl⟩ := h
  have dp := q_cast_pos hD
  have dn := q_cast_ne (show D ≠ 0 by omega)
  refine .of (by omega) rfl ((zD.mul zM).le ?_) (zD.mono (by omega))
  have e : (n : Rat) / (D : Rat) * (D : Rat) = (n : Rat) := by grind
  have u : (n : Rat) ≤ ((M * D : Int) : Rat) := by
    rw [← e, Rat.intCast_mul]
    exact Rat.mul_le_mul_of_nonneg_right h2 (by grind)
  have l : ((-(M * D) : Int) : Rat) ≤ (n : Rat) := by
    rw [← e, Rat.intCast_neg, Rat.intCast_mul, show -((M : Rat) * (D : Rat)) = -(M : Rat) * (D : Rat) by grind]
    exact Rat.mul_le_mul_of_nonneg_right h1 (by grind)
  have u' := Rat.intCast_le_intCast.mp u
  have l' := Rat.intCast_le_intCast.mp l
  rw [Int.mul_comm D M]
  omega
end Sw
namespace L2
open PySem PySem.Spec PyProof.Rows
def TagAt (H : Hp) (p : Addr) (u : Sw.T3) : Prop := ∃ pb pe, H p = some (.tup [.ref pb, .ref pe, .int u.2.2]) ∧ H pb = some (.tup (fq u.1)) ∧ H pe = some (.tup (fq u.2.1))
abbrev TagsAt (H : Hp) (ps : List Addr) (us : List Sw.T3) : Prop := Paired (TagAt H) ps us
theorem TagAt.keep {H H' : Hp} {p : Addr} {u : Sw.T3} (h : TagAt H p u) (e : ∀ p xs, H p = some (.tup xs) → H' p = some (.tup xs)) : TagAt H' p u := by
  obtain ⟨pb, pe, h1, h2, h3⟩ := h
  exact ⟨pb, pe, e _ _ h1, e _ _ h2, e _ _ h3⟩
theorem tags_keep {H H' : Hp} {ps : List Addr} {us : List Sw.T3} (h : TagsAt H ps us) (e : ∀ p xs, H p = some (.tup xs) → H' p = some (.tup xs)) : TagsAt H' ps us := Paired.mapP h fun _ _ q => q.keep e
theorem tags_same {H H' : Hp} {ps : List Addr} {us : List Sw.T3} (h : TagsAt H ps us) (e : Same H H') : TagsAt H' ps us := tags_keep h fun _ _ q => e _ _ q
theorem paired_snoc {α β : Type} {F : α → β → Prop} {a : α} {b : β} (h : F a b) : ∀ {l₁ : List α} {l₂ : List β}, Paired F l₁ l₂ → Paired F (l₁ ++ [a]) (l₂ ++ [b])
  | _, _, Paired.nil => .cons h .nil
  | _, _, Paired.cons x y => .cons x (paired_snoc h y)
theorem paired_get {α β : Type} {F : α → β → Prop} : ∀ {l₁ : List α} {l₂ : List β} {i : Nat} {a : α}, Paired F l₁ l₂ → l₁[i]? = some a → ∃ b, l₂[i]? = some b ∧ F a b
  | _, _, _, _, Paired.nil, e => by simp at e
  | _, _, 0, _, Paired.cons x _, e => by simp at e; subst e; exact ⟨_, rfl, x⟩
  | _, _, i + 1, _, Paired.cons _ y, e => by
    obtain ⟨b, h1, h2⟩ := paired_get (i := i) y (by simpa using e)
    exact ⟨b, by simpa using h1, h2⟩
theorem take_succ_of {α : Type} {l : List α} {i : Nat} {x : α} (h : l[i]? = some x) : l.take (i + 1) = l.take i ++ [x] := by
  rw [List.take_add_one, h]; rfl
structure TagOk (D B : Int) (u : Sw.T3) : Prop where
  b : Sw.Grd D u.1
  e : Sw.Grd D u.2.1
  b0 : 0 ≤ u.1
  be : u.1 ≤ u.2.1
  eB : u.2.1 ≤ (B : Rat)
  s1 : 1 ≤ u.2.2
  s2 : u.2.2 ≤ 1000000
structure GB (D B : Int) : Prop where
  D0 : 0 < D
  Dz : Sw.Sz 1500 D
  B0 : 0 ≤ B
  B1 : B ≤ 10000000000
theorem GB.sz {D B M : Int} {q : Rat} (g : GB D B) (h : Sw.Grd D q) (h1 : -(M : Rat) ≤ q) (h2 : q ≤ (M : Rat)) (m1 : -100000000000000000000 < M) (m2 : M < 100000000000000000000) : Sw.SzQ 1570 q :=
  h.sz g.D0 g.Dz (Sw.Sz.r18 m1 m2) h1 h2 (by decide)
theorem GB.szB {D B : Int} {q : Rat} (g : GB D B) (h : Sw.Grd D q) (h1 : 0 ≤ q) (h2 : q ≤ (B : Rat)) : Sw.SzQ 1570 q := by
  have b0 := g.B0
  have b1 := g.B1
  have : (0 : Rat) ≤ (B : Rat) := by grind
  exact g.sz h (by grind) h2 (by omega) (by omega)
structure FT (fs : List (Str × V)) (lat : Int) (pr pu pe : Addr) : Prop where
  lat : fs.lookup ("latest" : Str) = some (.int lat)
  rch : fs.lookup ("reached" : Str) = some (.ref pr)
  unf : fs.lookup ("unflowed" : Str) = some (.ref pu)
  lst : fs.lookup ("last_ends" : Str) = some (.ref pe)
  no : ∀ m : Str, ¬ m = "latest" → ¬ m = "reached" → ¬ m = "unflowed" → ¬ m = "last_ends" → fs.lookup m = none
  len : fs.length < 900
structure TdM (C : Addr) (H : Hp) (p : Addr) (lat : Int) (re : Rat) (us : List Sw.T3) : Prop where
  ex : ∃ dx fs pr pu pe ps, H p = some (.ins C dx fs) ∧ FT fs lat pr pu pe ∧ H pr = some (.tup (fq re)) ∧ H pu = some (.lst (ps.map V.ref)) ∧ TagsAt H ps us
theorem TdM.same {C : Addr} {H H' : Hp} {p : Addr} {lat : Int} {re : Rat} {us : List Sw.T3} (h : TdM C H p lat re us) (s : Same H H') : TdM C H' p lat re us := by
  obtain ⟨dx, fs, pr, pu, pe, ps, h1, h2, h3, h4, h5⟩ := h.ex
  exact ⟨dx, fs, pr, pu, pe, ps, s _ _ h1, h2, s _ _ h3, s _ _ h4, tags_same h5 s⟩
structure TideOk (D B lat : Int) (re : Rat) (us : List Sw.T3) : Prop where
  gb : GB D B
  gre : Sw.Grd D re
  re0 : 0 ≤ re
  reB : re ≤ (B : Rat)
  tus : ∀ u ∈ us, TagOk D B u
  len : us.length ≤ 100
  l0 : 0 ≤ lat
  l1 : lat < 1000000000000000
theorem TideOk.zr {D B lat : Int} {re : Rat} {us : List Sw.T3} (o : TideOk D B lat re us) : Sw.SzQ 1570 re := o.gb.szB o.gre o.re0 o.reB
end L2
namespace L2
open PySem PySem.Spec PyProof.Rows
theorem tc_en (l : Value) (t : Tok) : checkTypeCall "enumerate" { pos := [l], kw := [("start", .int 1 t)] } = pure () := by
  with_unfolding_all rfl
theorem nc_en (l : Value) (t : Tok) : checkBuiltinCall "enumerate.__new__" { pos := [Value.type "enumerate", l], kw := [("start", .int 1 t)] } = pure () := by
  with_unfolding_all rfl
theorem call_enum1 {prog : Program} {w : World} {A : Around} {E : Value → Shared → Prop} {s : Shared} {l : Addr} {items : Array Value} {t : Tok} {Q : Value → Shared → Prop} (hl : s.heap.IsList l items)
    (h : ∀ h' : Heap, IsEnum h' (s.heap.objs.size + 1) s.heap.objs.size 1 Value.none → h'.IsListIter s.heap.objs.size l 0 → h'.objs.size = s.heap.objs.size + 2 → (∀ b o, s.heap.get? b = some o → h'.get? b = some o) → Q (.ref (s.heap.objs.size + 1)) { s with heap := h' }) :
    wpAny (model prog w) A (call (.type "enumerate") [.ref l] [("start", .int 1 t)]) Q E s := by
  refine wpAny_call (codeAny_of_tree ?_)
  show wpAny _ _ (callAny (.type "enumerate") _) _ _ _
  repeat (any_goals (first | assumption | wp_step))
  refine ⟨Code.quiet_builtin _ (by decide +kernel), codeAny_builtin entry_typeCall ?_⟩
  have TC := PySem.F.called_enumerate
  show wpAny _ _ (Builtin.«type.__call__» ⟨[.type "enumerate", .ref l], [("start", .int 1 t)]⟩) _ _ _
  unfold Builtin.«type.__call__»
  obtain ⟨c, tl, hm⟩ := TC.mro
  simp only [TC.notType, Bool.false_eq_true, if_false, TC.canCreate, tc_en, hm, TC.made]
  repeat (first | assumption | wp_step)
  refine codeAny_call_builtin TC.plain PySem.F.entry_enumerate_new ?_
  rw [nc_en]
  refine wpAny_pure ?_
  unfold Builtin.«enumerate.__new__»
  repeat (first | assumption | wp_step)
  rw [TC.sub]
  refine wpAny_pure ?_
  repeat (first | assumption | wp_step)
  refine wpAny_stack_any fun st => ?_
  refine wpAny_pure ?_
  have fin : ∀ (h2 : Heap), h2 = (s.heap.push { cls := Value.type "list_iterator", data := Data.fields #[Value.ref l, Value.int 0 0] }).push { cls := Value.type "enumerate", data := Data.fields #[Value.none, Value.bool false, Value.ref s.heap.objs.size, rawInt 1, Value.none, Value.none] } →
      IsEnum h2 (s.heap.objs.size + 1) s.heap.objs.size 1 Value.none ∧ Q (.ref (s.heap.objs.size + 1)) { s with heap := h2 } := fun h2 e => by
    subst e
    have e1 : IsEnum ((s.heap.push { cls := Value.type "list_iterator", data := Data.fields #[Value.ref l, Value.int 0 0] }).push { cls := Value.type "enumerate", data := Data.fields #[Value.none, Value.bool false, Value.ref s.heap.objs.size, rawInt 1, Value.none, Value.none] }) (s.heap.objs.size + 1) s.heap.objs.size 1 Value.none := by
      unfold IsEnum
      heap_get
    refine ⟨e1, h _ e1 ⟨_, Heap.get?_push_of_some _ (Heap.get?_push_at rfl rfl), rfl, rfl⟩ (by simp) fun b o e => Heap.get?_push_of_some _ (Heap.get?_push_of_some _ e)⟩
  show wpAny _ _ (if _ then _ else _) _ _ _
  split
  all_goals
    try split
  all_goals
    refine wpAny_bind ?_
    show wpAny _ _ (pure (Value.ref l, some (Value.int 1 t))) _ _ _
    refine wpAny_pure ?_
    repeat (first | assumption | with_reducible refine wpAny_pyIter_list hl ?_ | wp_step)
    show wpAny _ _ (isSubtype (Value.type "enumerate") (Value.type "enumerate")) _ _ _
    rw [TC.sub]
    refine wpAny_pure ?_
    have F := fin _ rfl
    have sz : (s.heap.push { cls := Value.type "list_iterator", data := Data.fields #[Value.ref l, Value.int 0 0] }).objs.size = s.heap.objs.size + 1 := by simp
    have e0 : (Builtin.SmallTypes.ownedTupleFields ++ [Value.ref s.heap.objs.size, rawInt 1, Value.none, Value.none]).toArray = #[Value.none, Value.bool false, Value.ref s.heap.objs.size, rawInt 1, Value.none, Value.none] := rfl
    rw [sz, e0]
    generalize (s.heap.push { cls := Value.type "list_iterator", data := Data.fields #[Value.ref l, Value.int 0 0] }).push { cls := Value.type "enumerate", data := Data.fields #[Value.none, Value.bool false, Value.ref s.heap.objs.size, rawInt 1, Value.none, Value.none] } = h2 at F ⊢
    have ty : ∀ (g : Array GenState) (d : Drawn) (tk : Nat) (os : OsState), (⟨h2, g, d, tk, os⟩ : Shared).TypeIs (.ref (s.heap.objs.size + 1)) "enumerate" := fun _ _ _ _ => ⟨_, F.1, rfl⟩
    refine wpAny_bind (wpAny_holding (wpAny_callSpecial?_slot (ty _ _ _ _) PySem.F.slot_enumerate_init ?_))
    refine wpAny_call_entry_kw PySem.F.slot_enumerate_init (ty _ _ _ _) PySem.F.entry_object_init ?_ ?_
    · unfold Builtin.«object.__init__»
      have tl := PySem.F.slot_enumerate_init.lookup
      repeat (first | assumption | with_reducible refine wpAny_loadPart_at F.1 ?_ | (show wpAny _ _ (Bind.madeBy (Value.type "enumerate")) _ _ _; rw [TC.made]; refine wpAny_pure ?_) | wp_step)
      refine ⟨_, rfl, ?_⟩
      repeat (first | assumption | wp_step)
      exact F.2
    · first | exact True.intro | rfl | (unfold argsOk; with_unfolding_all rfl)
end L2
namespace L2
open PySem PySem.Spec PyProof.Rows
def Ite1 (K : PySem.W.Frag) (a : Addr) : It :=
  ⟨fun i H => ∃ xs x, SqL K H a xs ∧ xs[i]? = some x,
   fun i H y H' => ∃ p x, y = .ref p ∧ H p = none ∧ (∀ xs, SqL K H a xs → xs[i]? = some x) ∧ H' = upd H p (.tup [.int ((i + 1 : Nat) : Int), x]),
   fun i H => ∃ xs, SqL K H a xs ∧ xs.length = i⟩
theorem draws_shift {prog : Program} {w : World} {A : Around} (hh : A.handled = none) (it l : Addr) (hne : l ≠ it) (items : Array Value) :
    Draws prog w A it [it, l] (items.size + 1) (fun j v => items[j - 1]? = some v) (fun j h => 1 ≤ j ∧ h.IsListIter it l (j - 1) ∧ h.IsList l items) := by
  have D := Draws.list (prog := prog) (w := w) hh it l hne items
  exact ⟨fun j h st => D.live (j - 1) h st.2, fun j h h' st k => ⟨st.1, D.frame (j - 1) h h' st.2 k⟩,
    fun j s Q E hj st k => D.item (j - 1) s Q E (by have := st.1; omega) st.2 fun x h' tk p st' sb => k x h' tk p ⟨by omega, by rw [show j + 1 - 1 = (j - 1) + 1 by have := st.1; omega]; exact st'⟩ sb,
    fun s Q E st k => D.done s Q E (by simpa using st.2) k⟩
theorem turn_enum1 {P : Program} {w : World} {K : PySem.W.Frag} {elts : List Expr} {x1} {pos : Pos} (a e it : Addr) (hei : e ≠ it) :
    Turn P w K (.Tuple elts x1 pos) (Ite1 K a) [e, it] e (fun i h => (∃ old, IsEnum h e it ((i + 1 : Nat) : Int) old) ∧ h.IsListIter it a i) where
  mem := by simp
  obj := fun i h st b hb => by
    obtain ⟨⟨old, he⟩, hit⟩ := st
    rcases List.mem_cons.mp hb with rfl | hb
    · exact ⟨_, he, fun v z => by cases z⟩
    · have e : b = it := by simpa using hb
      subst e
      obtain ⟨o, e, c, d⟩ := hit
      exact ⟨o, e, fun v z => by rw [d] at z; cases z⟩
  keep := fun i h h' st k => by
    obtain ⟨⟨old, he⟩, hit⟩ := st
    exact ⟨⟨old, k e (by simp) _ he⟩, hit.at fun o q => k it (by simp) o q⟩
  item := by
    intro X hP hw hK hc i pins s σ H E I hf st hg
    subst hP hw hK
    obtain ⟨⟨old, he⟩, hit⟩ := st
    obtain ⟨xs, x, hq, hx⟩ := hg
    obtain ⟨its, rv, p, hz⟩ := I.list hq
    obtain ⟨u, hu, ru⟩ := rv.get hx
    obtain ⟨f0, f1, f2, f3, f4, f5⟩ := hf e (by simp)
    obtain ⟨g0, g1, g2, g3, g4, g5⟩ := hf it (by simp)
    have hes : e < s.heap.objs.size := Heap.lt_size he
    have his : it < s.heap.objs.size := by obtain ⟨o, q, _⟩ := id hit; exact Heap.lt_size q
    have hda : (X.A.in1).handled = none := I.ok.hd hc
    have nai : a ≠ it := fun z => by
      obtain ⟨oo, q1, q2, q3⟩ := id hit
      obtain ⟨o2, q4, q5, _⟩ := id p.isList
      rw [z] at q4
      rw [q1] at q4
      cases q4
      rw [q2] at q5
      injection q5 with z5
      exact absurd z5 (by decide)
    refine wpAny_pyNext_enum_itemD (draws_shift hda it a nai its.toArray) he ⟨by omega, hit, p.isList⟩ (by have := rv.length; have := (List.getElem?_eq_some_iff.mp hu).1; simp; omega) hei (by simp [hei]; intro z; rw [z] at he; obtain ⟨o2, q4, q5, _⟩ := id p.isList; rw [he] at q4; cases q4; injection q5 with z5; exact absurd z5 (by decide)) fun x' h1 tk hx' heo st1 ht1 hz1 hk1 => ?_
    have eu : x' = u := by
      have q : its.toArray[i + 1 - 1]? = some x' := hx'
      have q2 : its[i]? = some x' := by simpa using q
      rw [hu] at q2
      exact (Option.some.inj q2).symm
    subst eu
    have hit1 : h1.IsListIter it a (i + 1) := by have := st1.2.1; simpa using this
    refine ⟨.ref s.heap.objs.size, rfl, wpAny_letOwnedTupleGo_enum heo fun h2 he2 hs2 => ?_⟩
    have hs2' : Heap.SameBut e h1 h2 := hs2
    have hit2 : h2.IsListIter it a (i + 1) := hit1.at fun o q => (hs2'.2 it (Ne.symm hei)).trans q
    have fresh : H s.heap.objs.size = none := I.hok.fresh (Nat.le_refl _)
    have htup : h2.get? s.heap.objs.size = some { cls := .type "tuple", data := .seq #[.int ((i + 1 : Nat) : Int) tk, x'] } := (hs2'.2 _ (Nat.ne_of_gt hes)).trans ht1
    have nit : ∀ b v, H b = some v → b ≠ e ∧ b ≠ it := fun b v q => ⟨fun z => (by rw [z, f0] at q; cases q), fun z => (by rw [z, g0] at q; cases q)⟩
    have k2 : ∀ b o, b ≠ e → b ≠ it → s.heap.get? b = some o → h2.get? b = some o := fun b o n1 n2 q => (hs2'.2 b n1).trans (hk1 b o n1 n2 q)
    have up : ∀ b o, H b = some o → (upd H s.heap.objs.size (.tup [.int ((i + 1 : Nat) : Int), x])) b = some o := fun b o q => by rw [upd_ne (ne_of_none q fresh)]; exact q
    have I2 : Inv X pins σ (upd H s.heap.objs.size (.tup [.int ((i + 1 : Nat) : Int), x])) { s with heap := h2, toks := tk + 1 } := by
      refine I.step (g' := s.gens) (d' := s.drawn) (ch := [e, it]) (fun b hb => ?_) (fun b o _ _ hc q _ => k2 b o (fun z => hc (by simp [z])) (fun z => hc (by simp [z])) q)
        (fun b o _ _ hc q _ => ⟨o.slots, k2 b o (fun z => hc (by simp [z])) (fun z => hc (by simp [z])) q⟩) (fun b o _ q n => by rw [upd_ne (Nat.ne_of_lt (Heap.lt_size q))]; exact n)
        (fun b o hc q => ?_) (fun b ys q => up b _ q) (fun b ob v q => up b _ q) (fun b ps q => ⟨#[], by rw [up b _ q]; simp⟩) (fun m hm => ?_) (fun b v q => ?_) I.bare
      · rcases List.mem_cons.mp hb with rfl | hb
        · exact ⟨f3, f1, f4, f5⟩
        · have z : b = it := by simpa using hb
          subst z
          exact ⟨g3, g1, g4, g5⟩
      · exact ⟨o, k2 b o (fun z => hc (by simp [z])) (fun z => hc (by simp [z])) q⟩
      · obtain ⟨o, es, ep, ho, r⟩ := hm
        exact ⟨o, es, ep, k2 _ o (Ne.symm f1) (Ne.symm g1) ho, r⟩
      · by_cases hb : b = s.heap.objs.size
        · subst hb
          rw [upd_same] at q
          cases q
          exact ⟨by show 2 ≤ sizeLine; decide, [.int ((i + 1 : Nat) : Int) tk, x'], .cons ⟨_, rfl⟩ (.cons ru .nil), _, htup, rfl, _, rfl⟩
        · rw [upd_ne hb] at q
          refine (I.hok b v q).stay (fun c v' hc q' => ?_) (fun c z => up c _ z) fun c ys z => up c _ z
          have hcn : c ≠ e ∧ c ≠ it := by
            rcases hc with z | z
            · rw [z]; exact nit b v q
            · exact nit c _ z
          exact k2 c v' hcn.1 hcn.2 q'
    refine ⟨.ref s.heap.objs.size, _, I2, rfl, ⟨s.heap.objs.size, x, rfl, fresh, fun ys hy => by rw [I.list_inj hy hq]; exact hx, rfl⟩, ⟨⟨x', by simpa using he2⟩, hit2⟩, fun b hb => ?_⟩
    rw [upd_ne]
    · exact (hf b hb).1
    · intro z
      rcases List.mem_cons.mp hb with y | y
      · rw [y] at z; exact absurd z (Nat.ne_of_lt hes)
      · have y : b = it := by simpa using y
        rw [y] at z; exact absurd z (Nat.ne_of_lt his)
  done := by
    intro X hP hw hK hc i pins s σ H E I hf st hg
    subst hP hw hK
    obtain ⟨⟨old, he⟩, hit⟩ := st
    obtain ⟨xs, hq, hx⟩ := hg
    obtain ⟨its, rv, p, hz⟩ := I.list hq
    obtain ⟨g0, g1, g2, g3, g4, g5⟩ := hf it (by simp)
    have hl := rv.length
    have hda : (X.A.in1).handled = none := I.ok.hd hc
    have nai : a ≠ it := fun z => by
      obtain ⟨oo, q1, q2, q3⟩ := id hit
      obtain ⟨o2, q4, q5, _⟩ := id p.isList
      rw [z] at q4
      rw [q1] at q4
      cases q4
      rw [q2] at q5
      injection q5 with z5
      exact absurd z5 (by decide)
    have ei : its.toArray.size + 1 - 1 = i := by simp; omega
    exact wpAny_pyNext_enum_endD (draws_shift hda it a nai its.toArray) he ⟨by omega, by rw [ei]; exact hit, p.isList⟩ fun h' eb => ⟨rfl, I.turned (t' := s.toks) (fun b o hb q => eb b o hb q) g0 g1 g3 g4 g5⟩
  self := fun _ _ _ _ _ st h => by
    obtain ⟨⟨old, he⟩, _⟩ := st
    exact wpAny_pyIter_enum he h
section
variable {X : Cx}
def iEnum1 (K : PySem.W.Frag) (ta : TA) : TI := fun σ H R => ta σ H fun vs H1 => ∃ a, vs = [.ref a] ∧ (∃ xs, SqL K H1 a xs) ∧ R (Ite1 K a) H1
end
theorem for_enum1 {K : PySem.W.Frag} {a : Addr} {xs : List V} {g : TG} {tb : TS} {D : Ends} {σ : St} {H : Hp} (Pv : Nat → St → Hp → Prop) (h0 : Pv 0 σ H) (hl : ∀ i σ H, i ≤ xs.length → Pv i σ H → SqL K H a xs)
    (hs : ∀ i x σ H p, xs[i]? = some x → Pv i σ H → H p = none → g (.ref p) σ (upd H p (.tup [.int ((i + 1 : Nat) : Int), x])) fun σ2 H2 => tb { D with nx := Pv (i + 1), ct := Pv (i + 1), bk := D.nx } σ2 H2) (hd : ∀ σ H, Pv xs.length σ H → D.nx σ H) :
    ∃ W : Nat → Nat → St → Hp → Prop, (∃ m, W 0 m σ H) ∧ ∀ i m σ H, W i m σ H →
      ((Ite1 K a).stop i H ∧ D.nx σ H) ∨ ((Ite1 K a).go i H ∧ ∃ N : St → Hp → Prop, (∀ σ' H', N σ' H' → ∃ m', m' < m ∧ W (i + 1) m' σ' H') ∧ ∀ x H', (Ite1 K a).yld i H x H' → g x σ H' fun σ2 H2 => tb { D with nx := N, ct := N, bk := D.nx } σ2 H2) := by
  refine ⟨fun i m σ H => m = xs.length - i ∧ i ≤ xs.length ∧ Pv i σ H, ⟨xs.length, by simp, Nat.zero_le _, h0⟩, ?_⟩
  rintro i m σ H ⟨rfl, hi, p⟩
  have q := hl i σ H hi p
  by_cases hlt : i < xs.length
  · refine .inr ⟨⟨xs, xs[i], q, by simp [hlt]⟩, Pv (i + 1), fun σ' H' p' => ⟨xs.length - (i + 1), by omega, rfl, hlt, p'⟩, fun y H' z => ?_⟩
    obtain ⟨b, x, rfl, hb, hx, rfl⟩ := z
    exact hs i x σ H b (hx xs q) p hb
  · have e : i = xs.length := by omega
    subst e
    exact .inl ⟨⟨xs, q, rfl⟩, hd σ H p⟩
end L2
namespace L2
open PySem PySem.Spec PyProof.Rows
theorem callWith_type_kw {M : Model} {A : Around} {E : Value → Shared → Prop} {s : Shared} {pos : Pos} {T : String} {first : List Value} {args : List (Bool × Sem Value)} {keywords : List (Option Str × Sem Value)} {Q : Value → Shared → Prop}
    (ha : (args.any fun x => x.fst) = false) (hk : (keywords.any fun x => x.fst.isNone) = false)
    (h : wpAny M A (evalArgs (Value.type T) true args keywords) (fun a s₁ => wpAny M A (call (Value.type T) (first ++ a.pos) a.kw) Q E s₁) E s) : wpAny M A (callWith pos (Value.type T) first args keywords) Q E s := by
  unfold callWith
  refine wpAny_bind (wpAny_holding (wpAny_mono h (fun a s1 h1 => ?_) fun _ _ z => z))
  rw [ha, hk]
  show wpAny M A _ Q E s1
  refine wpAny_bind (wpAny_standAt ?_)
  unfold keeperOf
  refine wpAny_bind (wpAny_pure ?_)
  show wpAny M A _ Q E s1
  refine wpAny_bind ?_
  exact wpAny_mono h1 (fun r s2 h2 => wpAny_bind (wpAny_holding (wpAny_point (wpAny_pure h2)))) fun _ _ z => z
section
variable {X : Cx}
theorem pi_enum1 (K : PySem.W.Frag) (hK : X.K = K) {l d : Expr} {ta : TA} {p pos kpos tpos : Pos} {elts : List Expr} {x1} (hg : Gl X "enumerate") (hm : X.mg "enumerate" = none) (ha : PA X [l] ta) (hd : PE X d (tC (.int 1)))
    (hs : starEach [l] X.env = [(false, eval l X.env)] := by rfl) :
    PI X (.Tuple elts x1 tpos) (.Call (.Name "enumerate" p) [l] [⟨some "start", d, kpos⟩] pos) (iEnum1 K ta) := by
  subst hK
  intro pins s σ H R I h
  refine wpAny_Call_Name_kw (ld_blt I hg hm boot_enumerate ?_)
  refine callWith_type_kw (by rw [hs]; rfl) rfl ?_
  refine evalArgs_kw2 rfl ?_ (by rw [hs]; rfl)
  refine thn (ha pos pins s σ H _ I h) fun us s1 ⟨vs, H1, I1, r1, q1⟩ => ?_
  refine kws_cons (thn (hd pins s1 σ H1 (fun v H' => v = .int 1 ∧ H' = H1) I1 ⟨rfl, rfl⟩) fun y s2 ⟨yv, H2, I2, r2, q2⟩ => kws_nil ?_)
  obtain ⟨rfl, rfl⟩ := q2
  obtain ⟨a, rfl, ⟨xs, hq⟩, q⟩ := q1
  obtain ⟨u, rfl, r⟩ := Vals.one r1
  cases r
  obtain ⟨t, rfl⟩ := (show ∃ t, y = Value.int 1 t from r2)
  obtain ⟨its, rv, p, hz⟩ := I2.list hq
  refine call_enum1 p.isList fun h' he hit hsz hk => ?_
  refine wpAny_pyIter_enum he ?_
  refine ⟨s2.heap.objs.size + 1, [s2.heap.objs.size + 1, s2.heap.objs.size], _, _, _, rfl, I2.kept (t' := s2.toks) hk, turn_enum1 a _ _ (Nat.succ_ne_self _), ⟨⟨_, he⟩, hit⟩, fun b hb => ?_, q⟩
  rcases List.mem_cons.mp hb with e | e
  · subst e; exact I2.fpOk (Nat.le_succ _) (I2.hok.fresh (Nat.le_succ _))
  · have e : b = s2.heap.objs.size := by simpa using e
    subst e
    exact I2.fpOk (Nat.le_refl _) (I2.hok.fresh (Nat.le_refl _))
def Itv (K : PySem.W.Frag) (a : Addr) (xs : List V) : It :=
  ⟨fun i H => SqL K H a xs ∧ i < xs.length, fun i H x H' => H' = H ∧ xs.reverse[i]? = some x, fun i H => SqL K H a xs ∧ xs.length = i⟩
theorem turn_rev {P : Program} {w : World} {K : PySem.W.Frag} {tg : Expr} (a it : Addr) (xs : List V) (n : Nat) (hn : xs.length = n) : Turn P w K tg (Itv K a xs) [it] it (fun i h => h.IsRevIter it a ((n : Int) - 1 - (i : Nat))) where
  mem := by simp
  obj := fun i h st b hb => by
    have e : b = it := by simpa using hb
    subst e
    obtain ⟨o, h1, h2, h3⟩ := st
    exact ⟨o, h1, fun v z => by rw [h3] at z; cases z⟩
  keep := fun i h h' st k => by
    obtain ⟨o, h1, h2, h3⟩ := st
    exact ⟨o, k it (by simp) o h1, h2, h3⟩
  item := by
    intro X hP hw hK hc i pins s σ H E I hf st hg
    subst hP hw hK
    obtain ⟨f0, f1, f2, f3, f4, f5⟩ := hf it (by simp)
    obtain ⟨hq, hlt⟩ := hg
    obtain ⟨its, rv, p, hz⟩ := I.list hq
    have hl := rv.length
    have ej : ((n : Int) - 1 - (i : Nat)) = ((n - 1 - i : Nat) : Int) := by omega
    rw [ej] at st
    have hj : n - 1 - i < xs.length := by omega
    obtain ⟨u, hu, ru⟩ := rv.get (List.getElem?_eq_getElem hj)
    refine wpAny_pyNext_rev_item st p.isList (x := u) (by simpa using hu) fun h' st' sb => ?_
    have I1 : Inv X pins σ H { s with heap := h' } := I.turned (t' := s.toks) (fun b o hb e => sb.extBut b o hb e) f0 f1 f3 f4 f5
    have st2 : h'.IsRevIter it a ((n : Int) - 1 - ((i + 1 : Nat) : Int)) := by
      have : ((n : Int) - 1 - ((i + 1 : Nat) : Int)) = ((n - 1 - i : Nat) : Int) - 1 := by omega
      rw [this]; exact st'
    obtain ⟨o, o1, o2, o3⟩ := id st2
    refine ⟨u, rfl, go_of (s := { s with heap := h' }) o1 o2 o3 (by decide) ⟨xs[n - 1 - i], H, I1, ru, ⟨rfl, ?_⟩, st2, fun b hb => (hf b hb).1⟩⟩
    rw [List.getElem?_reverse (by omega), hn]
    exact List.getElem?_eq_getElem hj
  done := by
    intro X hP hw hK hc i pins s σ H E I hf st hg
    subst hP hw hK
    obtain ⟨f0, f1, f2, f3, f4, f5⟩ := hf it (by simp)
    obtain ⟨hq, he⟩ := hg
    have ej : ((n : Int) - 1 - (i : Nat)) = -1 := by omega
    rw [ej] at st
    exact wpAny_pyNext_rev_end (I.ok.hd hc) st fun h' eb => ⟨rfl, I.turned (t' := s.toks) (fun b o hb e => eb b o hb e) f0 f1 f3 f4 f5⟩
  self := fun _ _ _ _ _ st h => wpAny_pyIter_revIter st h
def iRev (K : PySem.W.Frag) (ta : TA) : TI := fun σ H R => ta σ H fun vs H1 => ∃ a xs, vs = [.ref a] ∧ SqL K H1 a xs ∧ R (Itv K a xs) H1
theorem pi_rev (K : PySem.W.Frag) (hK : X.K = K) {tg l : Expr} {ta : TA} {p pos : Pos} (hg : Gl X "reversed") (hm : X.mg "reversed" = none) (ha : PA X [l] ta) (hs : starEach [l] X.env = [(false, eval l X.env)] := by rfl) :
    PI X tg (.Call (.Name "reversed" p) [l] [] pos) (iRev K ta) := by
  subst hK
  intro pins s σ H R I h
  refine Call_ (ld_blt I hg hm boot_reversed (PyProof.Rows.callWith_type1 (thn (ha pos pins s σ H _ I h) fun us s1 ⟨vs, H1, I1, r1, q1⟩ => ?_) hs rfl))
  obtain ⟨a, xs, rfl, hq, q⟩ := q1
  obtain ⟨u, rfl, r⟩ := Vals.one r1
  cases r
  obtain ⟨its, rv, p, hz⟩ := I1.list hq
  refine call_reversed_list p.isList ?_
  have hit : (s1.heap.push (revObj a ((its.toArray.size : Int) - 1))).IsRevIter s1.heap.objs.size a ((its.toArray.size : Int) - 1) := ⟨_, Heap.get?_push_size _ rfl, rfl, rfl⟩
  refine wpAny_pyIter_revIter hit ?_
  have hl := rv.length
  refine ⟨s1.heap.objs.size, [s1.heap.objs.size], _, _, H1, rfl, I1.kept (t' := s1.toks) fun b o e => Heap.get?_push_of_some _ e, turn_rev a _ xs its.toArray.size (by simp; exact hl), ?_, fun b hb => ?_, q⟩
  · show Heap.IsRevIter _ _ _ ((its.toArray.size : Int) - 1 - ((0 : Nat) : Int))
    have : ((its.toArray.size : Int) - 1 - ((0 : Nat) : Int)) = (its.toArray.size : Int) - 1 := by omega
    rw [this]; exact hit
  · have e : b = s1.heap.objs.size := by simpa using hb
    subst e
    exact I1.fpOk (Nat.le_refl _) (I1.hok.fresh (Nat.le_refl _))
end
theorem for_rev {K : PySem.W.Frag} {a : Addr} {xs : List V} {g : TG} {tb : TS} {D : Ends} {σ : St} {H : Hp} (Pv : Nat → St → Hp → Prop) (h0 : Pv 0 σ H) (hl : ∀ i σ H, i ≤ xs.length → Pv i σ H → SqL K H a xs)
    (hs : ∀ i x σ H, xs.reverse[i]? = some x → Pv i σ H → g x σ H fun σ2 H2 => tb { D with nx := Pv (i + 1), ct := Pv (i + 1), bk := D.nx } σ2 H2) (hd : ∀ σ H, Pv xs.length σ H → D.nx σ H) :
    ∃ W : Nat → Nat → St → Hp → Prop, (∃ m, W 0 m σ H) ∧ ∀ i m σ H, W i m σ H →
      ((Itv K a xs).stop i H ∧ D.nx σ H) ∨ ((Itv K a xs).go i H ∧ ∃ N : St → Hp → Prop, (∀ σ' H', N σ' H' → ∃ m', m' < m ∧ W (i + 1) m' σ' H') ∧ ∀ x H', (Itv K a xs).yld i H x H' → g x σ H' fun σ2 H2 => tb { D with nx := N, ct := N, bk := D.nx } σ2 H2) := by
  refine ⟨fun i m σ H => m = xs.length - i ∧ i ≤ xs.length ∧ Pv i σ H, ⟨xs.length, by simp, Nat.zero_le _, h0⟩, ?_⟩
  rintro i m σ H ⟨rfl, hi, p⟩
  have q := hl i σ H hi p
  by_cases hlt : i < xs.length
  · refine .inr ⟨⟨q, hlt⟩, Pv (i + 1), fun σ' H' p' => ⟨xs.length - (i + 1), by omega, rfl, hlt, p'⟩, fun y H' z => ?_⟩
    obtain ⟨rfl, hx⟩ := z
    exact hs i y σ _ hx p
  · have e : i = xs.length := by omega
    subst e
    exact .inl ⟨⟨q, rfl⟩, hd σ H p⟩
end L2
namespace L2
def mine (qs : List Q4) (who : Int) (i : Nat) : Bool := decide ((qs[i]?).map (·.2.1) = some who)
def plcs (qs : List Q4) (who : Int) (n : Nat) : List Nat := (List.range n).filter (mine qs who)
theorem plcs_succ (qs : List Q4) (who : Int) (n : Nat) : plcs qs who (n + 1) = plcs qs who n ++ if mine qs who n then [n] else [] := by
  unfold plcs
  rw [List.range_succ, List.filter_append]
  congr 1
  simp only [List.filter_cons, List.filter_nil]
theorem plcs_len (qs : List Q4) (who : Int) (n : Nat) : (plcs qs who n).length ≤ n := by
  have := List.length_filter_le (mine qs who) (List.range n)
  rwa [List.length_range] at this
theorem plcs_pre (qs : List Q4) (who : Int) (i n : Nat) (h : i ≤ n) : ∃ r, plcs qs who n = plcs qs who i ++ r := by
  induction n with
  | zero => exact ⟨[], by rw [show i = 0 by omega]; simp⟩
  | succ n ih =>
    by_cases e : i = n + 1
    · exact ⟨[], by rw [e]; simp⟩
    · obtain ⟨r, hr⟩ := ih (by omega)
      exact ⟨_, by rw [plcs_succ, hr, List.append_assoc]⟩
theorem plcs_at {qs : List Q4} {who : Int} {i n : Nat} (h : i < n) (hm : mine qs who i = true) : (plcs qs who n)[(plcs qs who i).length]? = some i := by
  obtain ⟨r, hr⟩ := plcs_pre qs who (i + 1) n h
  rw [hr, plcs_succ, hm]
  simp
def natV (i : Nat) : V := .int i
def scanF (qs : List Q4) (b : Int) (r : Rat) (e : Int) : Int → List Nat → Option Nat
  | _, [] => none
  | acc, j :: rest => if (b : Rat) + r * ((e - ((qs[j]?).getD (0, 0, 0, 0)).1 : Int) : Rat) < ((acc + ((qs[j]?).getD (0, 0, 0, 0)).2.2.1 : Int) : Rat) then some j else scanF qs b r e (acc + ((qs[j]?).getD (0, 0, 0, 0)).2.2.1) rest
def optN : Option Nat → V
  | none => .non
  | some j => .int j
def Small (qs : List Q4) : Prop := ∀ q ∈ qs, 0 ≤ q.1 ∧ q.1 ≤ 1000000000000000 ∧ 0 ≤ q.2.2.1 ∧ q.2.2.1 ≤ 1000000000
def atQ (qs : List Q4) (j : Nat) : Int := ((qs[j]?).getD (0, 0, 0, 0)).1
def brF (qs : List Q4) (b : Int) (r : Rat) (js : List Nat) : Nat → Nat → Option (Nat × Nat)
  | 0, _ => none
  | n + 1, i => match js[i]? with
    | none => none
    | some j => match scanF qs b r (atQ qs j) 0 (js.take (i + 1)).reverse with
      | some f => some (f, j)
      | none => brF qs b r js n (i + 1)
def breachF (qs : List Q4) (who b : Int) (r : Rat) : Option (Nat × Nat) := brF qs b r (plcs qs who qs.length) (plcs qs who qs.length).length 0
theorem brF_step {qs : List Q4} {b : Int} {r : Rat} {js : List Nat} {n i j : Nat} (h : js[i]? = some j) : brF qs b r js (n + 1) i = (match scanF qs b r (atQ qs j) 0 (js.take (i + 1)).reverse with | some f => some (f, j) | none => brF qs b r js n (i + 1)) := by
  show (match js[i]? with | none => none | some j => _) = _
  rw [h]
theorem plcs_lt {qs : List Q4} {who : Int} {n j : Nat} (h : j ∈ plcs qs who n) : j < n := by
  unfold plcs at h
  exact List.mem_range.mp (List.mem_filter.mp h).1
end L2
namespace L2
open PySem PySem.Spec PyProof.Rows
def DSd (H : Hp) (a : Addr) (y d : V) (v : V) (H' : Hp) : Prop := ∃ kvs k, H a = some (.dK kvs) ∧ y = kV k ∧ kvs.length < sizeLine ∧ ((valV kvs k = some v ∧ H' = H) ∨ (valV kvs k = none ∧ v = d ∧ H' = upd H a (.dK (putK kvs k d))))
section
variable {X : Cx} {pins : List (Addr × Obj)} {σ : St} {H H' : Hp} {s : Shared} {a : Addr} {y d v : V} {u r : Value} {A : Around} {E : Value → Shared → Prop}
theorem d_setdefault {Q : Value → Shared → Prop} (I : Inv X pins σ H s) (g : DSd H a y d v H') (ry : RelV y u) (rd : RelV d r) (h : ∀ w' s', Inv X pins σ H' s' → RelV v w' → Q w' s') :
    wpAny (model X.prog X.w) A (call (.builtin "dict.setdefault") [.ref a, u, r]) Q E s := by
  obtain ⟨kvs, k, e, ey, l, c⟩ := g
  subst ey
  obtain ⟨z, hd, vs, rel, dd⟩ := dk_of I.hok e
  have hz : vs.length ≤ sizeLine := by rw [← rel.length]; exact z
  refine call_meetsIn PySem.F.slot_dict_setdefault dd.typeIs PySem.F.entry_dict_setdefault (PySem.F.args_dict_setdefault_3 _ _ _) (kt_meets_setdefault (mixKind X.prog X.w) a (kV_is ry) hd r) ⟨vs, dd, hz, fun w' hw => ?_, fun hn h' dd' hs => ?_⟩
  · rcases c with ⟨hv, rfl⟩ | ⟨hv, _, _⟩
    · have := rel.val k
      rw [hv, hw] at this
      exact h _ _ (I.tok _) this
    · have := rel.val k
      rw [hv, hw] at this
      cases this
  · rcases c with ⟨hv, _⟩ | ⟨hv, rfl, rfl⟩
    · have := rel.val k
      rw [hv, hn] at this
      cases this
    · have hl : (putK kvs k v).length ≤ sizeLine := by have := length_putK kvs k v; omega
      have he : ∃ q, h'.get? a = some q := let ⟨q, _, _, hq, _⟩ := dd'; ⟨q, hq⟩
      exact h _ _ (d_write I (by rw [e]; exact True.intro) hs he (dk_new hl hd (rel.put k rd) dd')) rd
end
def tDSd (td ty tx : TE) : TE := fun σ H Q => td σ H fun x H1 => ∃ a, x = .ref a ∧ IsD H1 a ∧ ty σ H1 fun y H2 => tx σ H2 fun z H3 => ∃ v H4, DSd H3 a y z v H4 ∧ Q v H4
section
variable {X : Cx} {o e f : Expr} {td ty tx : TE} {apos cpos : Pos}
theorem pe_dsd (ho : PE X o td) (he : PE X e ty) (hf : PE X f tx) (m : M2 X o "setdefault" apos e f cpos) : PE X (.Call (.Attribute o "setdefault" apos) [e, f] [] cpos) (tDSd td ty tx) := by
  intro pins s σ H Q I h
  refine wpAny_Call_method m.base m.few m.line PySem.F.plainAttrs_dict PySem.F.slot_dict_setdefault PySem.F.type_dict_setdefault (thn (ho pins s σ H _ I h) fun u s1 ⟨x, H1, I1, rx, a, ex, d, q1⟩ => ?_)
  subst ex
  obtain rfl : u = Value.ref a := rx
  obtain ⟨t1, t2, _⟩ := isD_at I1 d
  refine ⟨t1, t2, ?_⟩
  rw [m.trees]
  refine Calls.callWith_builtin rfl (Calls.evalArgs_plain (Calls.spliced_cons (thn (he pins s1 σ H1 _ I1 q1) fun iv s2 ⟨y, H2, I2, ry, q2⟩ =>
    Calls.spliced_cons (thn (hf pins s2 σ H2 _ I2 q2) fun fv s3 ⟨z, H3, I3, rz, v, H4, g, q3⟩ => Calls.spliced_nil ?_))))
  exact d_setdefault I3 g ry rz fun w' s4 I4 rw' => ⟨_, H4, I4, rw', q3⟩
end
end L2
namespace Sw
open L2
def tooF (D num den t : Int) : List (Int × Int) → Int → Bool
  | [], _ => false
  | q :: l, S => if D + num * (t - q.1) < (S + q.2) * den then true else tooF D num den t l (S + q.2)
theorem tooF_lv {D num den t n : Int} : ∀ (l : List (Int × Int)) (S : Int), lvOf D num den t l S < n * den ↔ D < n * den ∨ tooF D num den t l (S + n) = true
  | [], S => by unfold lvOf tooF; simp
  | q :: l, S => by
    have ih := tooF_lv (D := D) (num := num) (den := den) (t := t) (n := n) l (S + q.2)
    have e1 : S + n + q.2 = S + q.2 + n := by omega
    have e2 : (S + q.2 + n) * den = (S + q.2) * den + n * den := Int.add_mul _ _ _
    unfold lvOf tooF
    rw [e1, e2]
    generalize (S + q.2) * den = z at *
    generalize num * (t - q.1) = x at *
    generalize n * den = y at *
    generalize lvOf D num den t l (S + q.2) = v at *
    by_cases h : tooF D num den t l (S + q.2 + n) = true
    · simp only [h, ite_self, or_true, iff_true] at ih ⊢
      split <;> omega
    · simp only [h, or_false, Bool.false_eq_true] at ih ⊢
      by_cases h2 : D + x < z + y
      · simp only [h2, if_true, or_true, iff_true]
        split <;> omega
      · simp only [h2, if_false, h, or_false, Bool.false_eq_true]
        split <;> omega
theorem too_piece {D num den t n : Int} (l : List (Int × Int)) : tooF D num den t ((t, n) :: l) 0 = true ↔ lvOf D num den t l 0 < n * den := by
  rw [tooF_lv (D := D) (num := num) (den := den) (t := t) (n := n) l 0]
  show (if D + num * (t - t) < (0 + n) * den then true else tooF D num den t l (0 + n)) = true ↔ _
  rw [Int.sub_self, Int.mul_zero, Int.add_zero, Int.zero_add]
  by_cases h : D < n * den
  · simp [h]
  · simp [h]
def paysF (ks : List Q4) (who : Int) : List (Int × Int) := (ks.reverse.filter fun q => decide (q.2.1 = who)).map fun q => (q.1, q.2.2.1)
theorem paysF_snoc (ks : List Q4) (q : Q4) (who : Int) : paysF (ks ++ [q]) who = if q.2.1 = who then (q.1, q.2.2.1) :: paysF ks who else paysF ks who := by
  unfold paysF
  rw [List.reverse_append, List.reverse_singleton, List.singleton_append, List.filter_cons]
  by_cases h : q.2.1 = who
  · simp [h]
  · simp [h]
abbrev Lines := Int → Option (Int × Rat)
def keepsF (ln : Lines) (ks : List Q4) (q : Q4) : Bool := match ln q.2.1 with
  | none => true
  | some (b, r) => !tooF (b * (r.den : Int)) r.num (r.den : Int) q.1 ((q.1, q.2.2.1) :: paysF ks q.2.1) 0
def stepF (ln : Lines) (ks : List Q4) (q : Q4) : List Q4 := if keepsF ln ks q = true then ks ++ [q] else ks
def dueF (ln : Lines) (qs : List Q4) : List Q4 := qs.foldl (stepF ln) []
theorem dueF_snoc (ln : Lines) (qs : List Q4) (q : Q4) : dueF ln (qs ++ [q]) = stepF ln (dueF ln qs) q := by
  unfold dueF
  rw [List.foldl_append]; rfl
theorem dueF_next {ln : Lines} {qs : List Q4} {i : Nat} {q : Q4} (h : qs[i]? = some q) : dueF ln (qs.take (i + 1)) = stepF ln (dueF ln (qs.take i)) q := by
  rw [List.take_add_one, h]
  exact dueF_snoc _ _ _
theorem snoc_ind {α : Type} {C : List α → Prop} (h0 : C []) (h1 : ∀ l a, C l → C (l ++ [a])) (l : List α) : C l := by
  have : ∀ r : List α, C r.reverse := fun r => by
    induction r with
    | nil => exact h0
    | cons a r ih => rw [List.reverse_cons]; exact h1 _ _ ih
  have := this l.reverse
  rwa [List.reverse_reverse] at this
theorem dueF_again (ln : Lines) (qs : List Q4) : dueF ln (dueF ln qs) = dueF ln qs := by
  induction qs using snoc_ind with
  | h0 => rfl
  | h1 l a ih =>
    rw [dueF_snoc]
    unfold stepF
    split
    · rename_i h
      rw [dueF_snoc, ih]
      unfold stepF
      rw [if_pos h]
    · exact ih
theorem dueF_len (ln : Lines) (qs : List Q4) : (dueF ln qs).length ≤ qs.length := by
  induction qs using snoc_ind with
  | h0 => exact Nat.le_refl _
  | h1 l a ih =>
    rw [dueF_snoc]
    unfold stepF
    split <;> simp <;> omega
theorem dueF_sub (ln : Lines) (qs : List Q4) : ∀ q ∈ dueF ln qs, q ∈ qs := by
  induction qs using snoc_ind with
  | h0 => intro q h; exact h
  | h1 l a ih =>
    intro q h
    rw [dueF_snoc] at h
    unfold stepF at h
    split at h
    · rcases List.mem_append.mp h with z | z
      · exact List.mem_append_left _ (ih q z)
      · exact List.mem_append_right _ z
    · exact List.mem_append_left _ (ih q h)
def lostF (ln : Lines) (qs : List Q4) (who : Int) : Nat → Option Nat
  | 0 => none
  | i + 1 => match lostF ln qs who i with
    | some j => some j
    | none => match qs[i]? with
      | some q => if q.2.1 = who ∧ keepsF ln (dueF ln (qs.take i)) q = false then some i else none
      | none => none
theorem lost_none {ln : Lines} {qs : List Q4} {who : Int} : ∀ {i : Nat}, i ≤ qs.length → lostF ln qs who i = none → paysF (dueF ln (qs.take i)) who = paysF (qs.take i) who
  | 0, _, _ => by simp [dueF]
  | i + 1, hi, h => by
    have hq : qs[i]? = some (qs[i]'hi) := List.getElem?_eq_getElem _
    unfold lostF at h
    cases e : lostF ln qs who i with
    | some j => rw [e] at h; cases h
    | none =>
      rw [e, hq] at h
      have ih := lost_none (i := i) (by omega) e
      rw [dueF_next hq, List.take_add_one, hq]
      show _ = paysF (qs.take i ++ [qs[i]]) who
      rw [paysF_snoc]
      unfold stepF
      generalize qs[i]'hi = q at *
      dsimp only at h
      by_cases hw : q.2.1 = who
      · have hk : keepsF ln (dueF ln (qs.take i)) q = true := by
          cases z : keepsF ln (dueF ln (qs.take i)) q with
          | true => rfl
          | false => rw [if_pos ⟨hw, z⟩] at h; cases h
        rw [if_pos hk, if_pos hw, paysF_snoc, if_pos hw, ih]
      · rw [if_neg hw]
        split
        · rw [paysF_snoc, if_neg hw, ih]
        · exact ih
theorem mul_den (r : Rat) : r * ((r.den : Int) : Rat) = (r.num : Rat) := by
  have h := Rat.num_divInt_den r
  rw [Rat.divInt_eq_div] at h
  have dp : ((r.den : Int) : Rat) ≠ 0 := by
    have := r.den_nz
    intro z
    have : (r.den : Int) = 0 := Rat.intCast_inj.mp (by simpa using z)
    omega
  generalize ((r.den : Int) : Rat) = d at *
  grind
theorem lt_iff_int {b x m : Int} {r : Rat} : ((b : Rat) + r * (x : Rat) < (m : Rat)) ↔ (b * (r.den : Int) + r.num * x < m * (r.den : Int)) := by
  have dp : (0 : Rat) < ((r.den : Int) : Rat) := by
    have := r.den_pos
    have : (0 : Int) < (r.den : Int) := by omega
    exact Rat.intCast_lt_intCast.mpr this
  rw [← Rat.intCast_lt_intCast, Rat.intCast_add, Rat.intCast_mul, Rat.intCast_mul, Rat.intCast_mul, ← mul_den r]
  have : (b : Rat) * ((r.den : Int) : Rat) + r * ((r.den : Int) : Rat) * (x : Rat) = ((b : Rat) + r * (x : Rat)) * ((r.den : Int) : Rat) := by grind
  rw [this]
  exact (Rat.mul_lt_mul_right dp).symm
theorem scan_too {qs : List Q4} {b e : Int} {r : Rat} : ∀ (js : List Nat) (acc : Int), (scanF qs b r e acc js).isSome = tooF (b * (r.den : Int)) r.num (r.den : Int) e (js.map fun j => (((qs[j]?).getD (0, 0, 0, 0)).1, ((qs[j]?).getD (0, 0, 0, 0)).2.2.1)) acc
  | [], acc => rfl
  | j :: rest, acc => by
    have ih := scan_too (qs := qs) (b := b) (e := e) (r := r) rest (acc + ((qs[j]?).getD (0, 0, 0, 0)).2.2.1)
    rw [List.map_cons]
    unfold scanF tooF
    generalize (qs[j]?).getD (0, 0, 0, 0) = q at *
    have iff : ((b : Rat) + r * ((e - q.1 : Int) : Rat) < ((acc + q.2.2.1 : Int) : Rat)) ↔ (b * (r.den : Int) + r.num * (e - q.1) < (acc + q.2.2.1) * (r.den : Int)) := lt_iff_int
    by_cases h : (b : Rat) + r * ((e - q.1 : Int) : Rat) < ((acc + q.2.2.1 : Int) : Rat)
    · rw [if_pos h, if_pos (iff.mp h)]; rfl
    · rw [if_neg h, if_neg (fun z => h (iff.mpr z))]; exact ih
theorem plcs_pays (qs : List Q4) (who : Int) : ∀ {i : Nat}, i ≤ qs.length → (plcs qs who i).reverse.map (fun j => (((qs[j]?).getD (0, 0, 0, 0)).1, ((qs[j]?).getD (0, 0, 0, 0)).2.2.1)) = paysF (qs.take i) who
  | 0, _ => rfl
  | i + 1, hi => by
    have ih := plcs_pays qs who (i := i) (by omega)
    have hq : qs[i]? = some (qs[i]'hi) := List.getElem?_eq_getElem _
    rw [plcs_succ, List.take_add_one, hq]
    show _ = paysF (qs.take i ++ [qs[i]]) who
    rw [paysF_snoc]
    have hm : mine qs who i = decide ((qs[i]'hi).2.1 = who) := by unfold mine; rw [hq]; simp
    rw [hm]
    by_cases h : (qs[i]'hi).2.1 = who
    · rw [if_pos h, decide_eq_true h, if_pos rfl, List.reverse_append, List.map_append, ih, List.reverse_singleton, List.map_singleton, hq]
      rfl
    · rw [if_neg h, decide_eq_false h, if_neg (by decide), List.append_nil, ih]
theorem plcs_len_le (qs : List Q4) (who : Int) {i n : Nat} (h : i ≤ n) : (plcs qs who i).length ≤ (plcs qs who n).length := by
  obtain ⟨r, e⟩ := plcs_pre qs who i n h
  rw [e]; simp
theorem plcs_take (qs : List Q4) (who : Int) {i n : Nat} (h : i ≤ n) : (plcs qs who n).take (plcs qs who i).length = plcs qs who i := by
  obtain ⟨r, e⟩ := plcs_pre qs who i n h
  rw [e]; simp
theorem breach_lost {ln : Lines} {qs : List Q4} {who b : Int} {r : Rat} (hl : ln who = some (b, r)) : ∀ (m i : Nat), i + m = qs.length → lostF ln qs who i = none →
    ((lostF ln qs who qs.length = none ∧ brF qs b r (plcs qs who qs.length) ((plcs qs who qs.length).length - (plcs qs who i).length) (plcs qs who i).length = none) ∨
      ∃ f j, lostF ln qs who qs.length = some j ∧ brF qs b r (plcs qs who qs.length) ((plcs qs who qs.length).length - (plcs qs who i).length) (plcs qs who i).length = some (f, j))
  | 0, i, e, h => by
    have : i = qs.length := by omega
    subst this
    exact .inl ⟨h, by rw [Nat.sub_self]; rfl⟩
  | m + 1, i, e, h => by
    have hi : i < qs.length := by omega
    have hq : qs[i]? = some (qs[i]'hi) := List.getElem?_eq_getElem _
    have hm : mine qs who i = decide ((qs[i]'hi).2.1 = who) := by unfold mine; rw [hq]; simp
    have pays := lost_none (Nat.le_of_lt hi) h
    have hs : lostF ln qs who (i + 1) = if (qs[i]'hi).2.1 = who ∧ keepsF ln (dueF ln (qs.take i)) (qs[i]'hi) = false then some i else none := by
      show (match lostF ln qs who i with | some j => some j | none => match qs[i]? with | some q => _ | none => none) = _
      rw [h, hq]
    have ps := plcs_succ qs who i
    by_cases hw : (qs[i]'hi).2.1 = who
    · rw [hm, decide_eq_true hw] at ps
      have ps : plcs qs who (i + 1) = plcs qs who i ++ [i] := ps
      have pl : (plcs qs who (i + 1)).length = (plcs qs who i).length + 1 := by rw [ps]; simp
      have le := plcs_len_le qs who (i := i + 1) (n := qs.length) hi
      have hat := plcs_at (qs := qs) (who := who) hi (by rw [hm, decide_eq_true hw])
      have tk : (plcs qs who qs.length).take ((plcs qs who i).length + 1) = plcs qs who (i + 1) := by rw [← pl]; exact plcs_take qs who hi
      have en : (plcs qs who qs.length).length - (plcs qs who i).length = ((plcs qs who qs.length).length - (plcs qs who (i + 1)).length) + 1 := by omega
      rw [en, brF_step hat, tk]
      have sc := scan_too (qs := qs) (b := b) (e := atQ qs i) (r := r) (plcs qs who (i + 1)).reverse 0
      rw [plcs_pays qs who (i := i + 1) hi] at sc
      have pp : paysF (qs.take (i + 1)) who = ((qs[i]'hi).1, (qs[i]'hi).2.2.1) :: paysF (qs.take i) who := by
        rw [List.take_add_one, hq]
        show paysF (qs.take i ++ [qs[i]]) who = _
        rw [paysF_snoc, if_pos hw]
      have ea : atQ qs i = (qs[i]'hi).1 := by unfold atQ; rw [hq]; rfl
      have kp : keepsF ln (dueF ln (qs.take i)) (qs[i]'hi) = !(scanF qs b r (atQ qs i) 0 (plcs qs who (i + 1)).reverse).isSome := by
        rw [sc, pp, ea, ← pays]
        unfold keepsF
        rw [hw, hl]
      cases es : scanF qs b r (atQ qs i) 0 (plcs qs who (i + 1)).reverse with
      | none =>
        rw [es] at kp
        rw [if_neg (by rw [kp]; simp)] at hs
        have := breach_lost hl m (i + 1) (by omega) hs
        rw [pl] at this ⊢
        exact this
      | some f =>
        rw [es] at kp
        rw [if_pos ⟨hw, by rw [kp]; rfl⟩] at hs
        refine .inr ⟨f, i, ?_, rfl⟩
        have up : ∀ k, lostF ln qs who (i + 1 + k) = some i := fun k => by
          induction k with
          | zero => exact hs
          | succ k ih =>
            show (match lostF ln qs who (i + 1 + k) with | some j => some j | none => _) = _
            rw [ih]
        have := up (qs.length - (i + 1))
        rwa [show i + 1 + (qs.length - (i + 1)) = qs.length by omega] at this
    · rw [hm, decide_eq_false hw] at ps
      have ps : plcs qs who (i + 1) = plcs qs who i := by rw [ps]; simp
      rw [if_neg (fun z => hw z.1)] at hs
      have := breach_lost hl m (i + 1) (by omega) hs
      rw [ps] at this
      exact this
end Sw
namespace L2
open PySem PySem.Spec PyProof.Rows
theorem comp_range {lo : Int} {n : Nat} {g : TG} {tc : TT} {te : TE} {D : Addr} {τ : St} {H : Hp} {Q : VK} (Pv : Nat → St → Hp → Prop) (h0 : Pv 0 τ H)
    (hs : ∀ i τ H, i < n → Pv i τ H → g (.int (lo + i)) τ H fun τ2 H3 => tc τ2 H3 fun b H4 => if b = true then te τ2 H4 fun y H5 => ∃ ys, H5 D = some (.lst ys) ∧ ys.length < sizeLine ∧ Pv (i + 1) τ2 (upd H5 D (.lst (ys ++ [y]))) else Pv (i + 1) τ2 H4)
    (hd : ∀ τ H, Pv n τ H → Q (.ref D) H) : CompG (Itr lo n) g tc te D τ H Q := by
  refine ⟨fun i m τ H => m = n - i ∧ i ≤ n ∧ Pv i τ H, ⟨n, by simp, Nat.zero_le _, h0⟩, ?_⟩
  rintro i m τ H ⟨rfl, hi, p⟩
  by_cases hlt : i < n
  · refine .inr ⟨hlt, Pv (i + 1), fun τ' H' p' => ⟨n - (i + 1), by omega, rfl, hlt, p'⟩, fun x H' y => ?_⟩
    obtain ⟨e, y⟩ := y
    subst e y
    exact hs i τ _ hlt p
  · have e : i = n := by omega
    subst e
    exact .inl ⟨Nat.le_refl _, hd τ H p⟩
end L2
namespace L2
open PySem PySem.Spec PyProof.Rows
section
variable {X : Cx}
theorem ps_setC {i0 : Nat} {y : Str} {py spos : Pos} {elt target iter : Expr} {ifs : List Expr} {scope : Scope} {pos : Pos} {cl : List (Str × Addr)} {ts : List Str} {fr : List (Str × Nat)} {wi : TI} {g : TG} {tc : TT} {te : TE} (hcalm : X.calm = true)
    (hclos : closureFor scope X.env = pure cl) (hcell : ∀ y ∈ scope.names, y.2 ≠ .cell) (hkind : scope.kind = .function) (hnames : ∀ y ∈ scope.names, y.2 = .local → scope.names.lookup y.1 = some .local)
    (hcl : ∀ x c, cl.lookup x = some c → X.env.cells.lookup x = some c)
    (hhas : ∀ x, ((relabel scope X.env).names.lookup x = some .cell ∨ (relabel scope X.env).names.lookup x = some .free) → ∃ c, cl.lookup x = some c) (hfr : FrOk X (relabel scope X.env) fr)
    (hi : PI X target iter wi) (hg : ∀ fp s H, PG (cxComp X scope cl (ts ++ fr.map (·.1)) fp s H) target g) (hc : ∀ fp s H, PIfs (cxComp X scope cl (ts ++ fr.map (·.1)) fp s H) ifs tc)
    (he : ∀ fp s H, PE (cxComp X scope cl (ts ++ fr.map (·.1)) fp s H) elt te) (hsw : swapsWith (.ListComp elt [⟨target, iter, ifs, 0⟩] scope pos) (some (.Name y py)) spos.line X.env = pure true) (hN : X.N.Nodup) (hiy : X.N[i0]? = some y) (hy : Loc X.env.scope y)
    (hs : ∀ x, foldedSetIterable iter X.env x = pure x := by intro _; rfl) (hf : X.fn y = true ∨ X.env.scope.names.lookup y = some .local := by first | exact .inl rfl | exact .inr rfl | assumption) :
    PS X (.Assign [.Name y py] (.ListComp elt [⟨target, iter, ifs, 0⟩] scope pos) spos) (tAsg (tComp ts.length fr wi g tc te) (gName i0)) := by
  intro pins s σ H D I h
  have h : tComp ts.length fr wi g tc te σ H (fun x H1 => D.nx (σ.set i0 (some x)) H1) := h
  rw [exec_Assign_Name_used _ _ _ _ hsw]
  refine wpAny_bind (wpAny_standAt (wpAny_bind ?_))
  show wpAny _ _ (do let _ ← comprehension (.ListComp elt [⟨target, iter, ifs, 0⟩] scope pos) scope X.env _ (newList []) false (eval iter X.env) (some (assign (.Name y py) X.env))) _ _ s
  refine wpAny_bind (wpAny_mono (wpAny_comprehension_free (use := some (assign (.Name y py) X.env)) (Q := fun _ s' => SP X pins D .next s') rfl hs hclos hkind hnames (thn (hi pins s σ H _ I h) fun xv s1 h1 => thn h1 fun itv s2 h2 => ?_)) (fun _ s' hq => wpAny_pure (wpAny_pure hq)) fun _ _ e => e)
  obtain ⟨it, fp, tn, J, H2, rfl, I2, T, st2, f2, hR⟩ := h2
  have D0 : H2 s2.heap.objs.size = none := I2.hok.fresh (Nat.le_refl _)
  obtain ⟨W, ⟨m0, w0⟩, turn⟩ := hR s2.heap.objs.size D0
  refine wpAny_newObj_type (wpAny_newFunctionEnv hcell (by intro y hy; simp at hy) (fun h₁ hns₁ hsb₁ => ?_) hkind)
  dsimp only at hns₁ hsb₁ ⊢
  have I3 : Inv X pins σ (upd H2 s2.heap.objs.size (.lst [])) { s2 with heap := s2.heap.push { cls := .type "list", dict := none, data := .seq ([] : List Value).toArray } } :=
    I2.laid (t' := s2.toks) (fun _ _ q => Heap.get?_push_of_some _ q) (Nat.le_refl _) ⟨Nat.zero_le _, [], 0, .nil, Heap.get?_push_size _ rfl⟩
  have kp3 : ∀ b o, s2.heap.get? b = some o → (s2.heap.push { cls := .type "list", dict := none, data := .seq ([] : List Value).toArray }).get? b = some o := fun b o q => Heap.get?_push_of_some _ q
  have sz3 : (s2.heap.push { cls := .type "list", dict := none, data := .seq ([] : List Value).toArray }).objs.size = s2.heap.objs.size + 1 := Heap.size_push ..
  generalize s2.heap.push { cls := .type "list", dict := none, data := .seq ([] : List Value).toArray } = hp3 at hns₁ hsb₁ I3 kp3 sz3 ⊢
  have kp : ∀ b o, hp3.get? b = some o → h₁.get? b = some o := fun b o e => hsb₁.extBut b o (Nat.ne_of_lt (Heap.lt_size e)) (Heap.get?_push_of_some _ e)
  have flt : ∀ b ∈ fp, b < s2.heap.objs.size := fun b hb => by
    obtain ⟨o, e, _⟩ := T.obj _ _ st2 b hb
    exact Heap.lt_size e
  have fr3 : ∀ b ∈ fp, (upd H2 s2.heap.objs.size (.lst [])) b = none := fun b hb => by rw [upd_ne (Nat.ne_of_lt (flt b hb))]; exact (f2 b hb).1
  have f3 : ∀ b ∈ fp, FpOk X pins (upd H2 s2.heap.objs.size (.lst [])) b ∧ b < hp3.objs.size := fun b hb => ⟨⟨fr3 b hb, (f2 b hb).2⟩, by rw [sz3]; exact Nat.lt_succ_of_lt (flt b hb)⟩
  have I4 := cx_start (ts := ts) (t' := s2.toks + ([] : List (Str × Value)).length) I3 hkind hcl hhas hfr f3 hns₁ kp
  have st4 : tn 0 h₁ := T.keep _ _ _ st2 fun b hb o e => kp b o (kp3 b o e)
  have loop : codeAny (model X.prog X.w) X.A (.compLoop (.ListComp elt [⟨target, iter, ifs, 0⟩] scope pos) 0 (.ref it) (.ref s2.heap.objs.size) (compEnvC scope cl hp3.objs.size X.env))
      (compPost (model X.prog X.w) X.A X.xe (some (assign (.Name y py) X.env)) (fun _ s' => SP X pins D .next s') (.ref s2.heap.objs.size) hp3.objs.size) { s2 with heap := h₁, toks := s2.toks + ([] : List (Str × Value)).length } := by
    refine codeAny_compLoop_go (fun n s' => ∃ i τ H', Inv (cxComp X scope cl (ts ++ fr.map (·.1)) fp { s2 with heap := hp3 } (upd H2 s2.heap.objs.size (.lst []))) [] τ H' s' ∧ tn i s'.heap ∧ (∀ b ∈ fp, H' b = none) ∧ W i n τ H') ?_ m0 ⟨0, _, _, I4, st4, fr3, w0⟩
    rintro n s5 ⟨i, τ, H5, I5, st5, fr5, w5⟩
    have stat : ∀ {H' : Hp}, (∀ b ∈ fp, H' b = none) → ∀ b ∈ fp, FpOk (cxComp X scope cl (ts ++ fr.map (·.1)) fp { s2 with heap := hp3 } (upd H2 s2.heap.objs.size (.lst []))) [] H' b :=
      fun hn b hb => ⟨hn b hb, (I5.ok.exf b hb).1, I5.ok.exfs b hb, .inl hb, (I5.ok.exf b hb).2, fun p hp => absurd (show p ∈ ([] : List (Addr × Obj)) from hp) (by simp)⟩
    rcases turn i n τ H5 w5 with ⟨stop, qn⟩ | ⟨go, Nn, hN, step⟩
    · refine thn (T.done (cxComp X scope cl (ts ++ fr.map (·.1)) fp { s2 with heap := hp3 } (upd H2 s2.heap.objs.size (.lst []))) rfl rfl rfl hcalm i [] s5 τ H5 _ I5 (stat fr5) st5 stop) fun r s6 ⟨hr, I6⟩ => ?_
      subst hr
      have neC : ∀ b o, hp3.get? b = some o → b ≠ hp3.objs.size := fun b o e => Nat.ne_of_lt (Heap.lt_size e)
      have I7 : Inv X pins σ H5 s6 := by
        refine I3.call' (s' := s6) (ch := fp) I6.os ⟨fun b o e n hb hx => I6.base.keep b o e n hb hx, fun b o e n hb hx => I6.base.slot b o e n hb hx, I6.base.free, fun b o e hx => I6.base.there b o e hx, I6.base.tups, I6.base.frzs, I6.base.tbls⟩ I6.hok I6.bare (fun b hb => ?_)
        exact ⟨(f2 b hb).2.2.2.1, (f2 b hb).2.1, (f2 b hb).2.2.2.2.1, (f2 b hb).2.2.2.2.2⟩
      have lC : X.env.locals ≠ hp3.objs.size := by
        obtain ⟨_, ⟨o, _, _, ho, _⟩, _⟩ := I3.loc
        exact neC _ o ho
      have cC : ∀ x c, X.env.cells.lookup x = some c → c ≠ hp3.objs.size := fun x c e => by
        obtain ⟨v, o, ho, _⟩ := I3.cell x c e
        exact neC _ o ho
      have fC : H5 hp3.objs.size = none := I6.free
      obtain ⟨m, hn, _⟩ := I6.loc
      show wpAny _ _ (assign (.Name y py) X.env (.ref s2.heap.objs.size)) _ _ _
      refine wpAny_assign_Name (store_ok2 I7 hN hiy hy (v := .ref s2.heap.objs.size) rfl (fun s8 I8 hsb => ?_) hf)
      obtain ⟨al, hs8, hal⟩ := hsb
      have alC : hp3.objs.size ≠ al := by
        rcases hal with z | z
        · rw [z]; exact Ne.symm lC
        · exact Ne.symm (cC _ _ z)
      have hs8 : Heap.SameBut al s6.heap s8.heap := hs8
      have hnC : s6.heap.Ns hp3.objs.size m := hn
      refine ⟨m, hnC.sameBut hs8 alC, fun h' hs' => ⟨σ.set i0 (some (.ref s2.heap.objs.size)), H5, ?_, qn⟩⟩
      have hs' : Heap.SameBut hp3.objs.size s8.heap h' := hs'
      refine I8.call' (s' := { s8 with heap := h' }) (ch := [hp3.objs.size]) rfl ⟨fun b o e n hb hx => ?_, fun b o e n hb hx => ?_, fun b o e n hx => n, fun b o e hx => ?_, fun _ _ q => q, fun _ _ _ q => q, fun b ps q => ⟨#[], by rw [q]; simp⟩⟩ (fun b ob e => ?_) I8.bare (fun b hb => ?_)
      · exact (hs'.2 b (fun z => hx (by simp [z]))).trans e
      · exact ⟨o.slots, (hs'.2 b (fun z => hx (by simp [z]))).trans e⟩
      · exact ⟨o, (hs'.2 b (fun z => hx (by simp [z]))).trans e⟩
      · refine (I8.hok b ob e).stay (fun c v hc q => (hs'.2 c ?_).trans q) (fun _ q => q) fun _ _ q => q
        intro z
        rcases hc with w | w
        · rw [← w, z, fC] at e; cases e
        · rw [z, fC] at w; cases w
      · have z : b = hp3.objs.size := by simpa using hb
        subst z
        refine ⟨.inr (Nat.le_trans (Nat.le_trans I2.sz (by rw [sz3]; exact Nat.le_succ _)) (Nat.le_refl _)), Ne.symm lC, cC, fun p hp e => ?_⟩
        obtain ⟨q1, _⟩ := I3.pin p hp
        exact neC _ _ q1 e
    · refine thn (T.item (cxComp X scope cl (ts ++ fr.map (·.1)) fp { s2 with heap := hp3 } (upd H2 s2.heap.objs.size (.lst []))) rfl rfl rfl hcalm i [] s5 τ H5 _ I5 (stat fr5) st5 go) fun r s6 ⟨u, hr, h6⟩ => ?_
      subst hr
      refine thn h6 fun _ s7 ⟨x, H7, I7, r7, y7, st7, fr7⟩ => ?_
      have I7' := I7.pinned (stat fr7) (T.obj _ _ st7)
      refine wpAny_mono (hg fp _ _ _ s7 τ H7 x u _ I7' r7 (step x H7 y7)) (fun _ s8 ⟨τ8, H8, I8, q8⟩ => ?_) fun _ _ z => False.elim z
      have again : ∀ {τ9 : St} {H9 : Hp} {s9 : Shared}, Inv (cxComp X scope cl (ts ++ fr.map (·.1)) fp { s2 with heap := hp3 } (upd H2 s2.heap.objs.size (.lst []))) ([] ++ pinsAt fp s7.heap) τ9 H9 s9 → Nn τ9 H9 →
          ∃ m, m < n ∧ ∃ i τ H', Inv (cxComp X scope cl (ts ++ fr.map (·.1)) fp { s2 with heap := hp3 } (upd H2 s2.heap.objs.size (.lst []))) [] τ H' s9 ∧ tn i s9.heap ∧ (∀ b ∈ fp, H' b = none) ∧ W i m τ H' := fun {τ9 H9 s9} I9 n9 => by
        obtain ⟨m', hm, w9⟩ := hN τ9 H9 n9
        refine ⟨m', hm, i + 1, τ9, H9, I9.unpinned, T.keep _ _ _ st7 fun b hb o e => (I9.pin (b, o) (List.mem_append_right _ (List.mem_append_right _ (mem_pinsAt hb e)))).1, fun b hb => ?_, w9⟩
        obtain ⟨o, e, d⟩ := T.obj _ _ st7 b hb
        exact (I9.pin (b, o) (List.mem_append_right _ (List.mem_append_right _ (mem_pinsAt hb e)))).2.1
      refine wpAny_mono (hc fp _ _ _ s8 τ8 H8 _ I8 q8) (fun ok s9 ⟨H9, I9, q9⟩ => ?_) fun _ _ z => False.elim z
      cases ok with
      | false => exact again I9 q9
      | true =>
        refine wpAny_mono (he fp _ _ _ s9 τ8 H9 _ I9 q9) (fun y s10 ⟨v, H10, I10, rv, ys, hD, hl, qN⟩ => ?_) fun _ _ z => False.elim z
        refine wpAny_mono (mt_append (X := cxComp X scope cl (ts ++ fr.map (·.1)) fp { s2 with heap := hp3 } (upd H2 s2.heap.objs.size (.lst []))) _ s10 τ8 H10 (.ref s2.heap.objs.size) [v] (.ref s2.heap.objs.size) [y] (fun _ H => Nn τ8 H) I10 rfl (.cons rv .nil) ⟨_, ys, v, rfl, rfl, hD, hl, qN⟩) (fun _ s11 ⟨_, H11, I11, _, q11⟩ => again I11 q11) fun _ _ z => False.elim z
  exact codeAny_compStart_list loop (T.self X.A 0 _ _ _ st4 loop)
theorem ps_setL {i0 : Nat} {y : Str} {py spos : Pos} {elt target iter : Expr} {ifs : List Expr} {scope : Scope} {pos : Pos} {cl : List (Str × Addr)} (ts : List Str) (fr : List (Str × Nat)) {wi : TI} {g : TG} {tc : TT} {te : TE} (hcalm : X.calm = true)
    (hclos : closureFor scope X.env = pure cl) (hcell : ∀ y ∈ scope.names, y.2 ≠ .cell) (hkind : scope.kind = .function) (hnames : ∀ y ∈ scope.names, y.2 = .local → scope.names.lookup y.1 = some .local)
    (hcl : ClOk X.env cl) (hhas : clAll (relabel scope X.env).names cl = true) (hfr : FrOk X (relabel scope X.env) fr)
    (hi : PI X target iter wi) (hg : ∀ fp s H, PG (cxComp X scope cl (ts ++ fr.map (·.1)) fp s H) target g) (hc : ∀ fp s H, PIfs (cxComp X scope cl (ts ++ fr.map (·.1)) fp s H) ifs tc)
    (he : ∀ fp s H, PE (cxComp X scope cl (ts ++ fr.map (·.1)) fp s H) elt te)
    (hsw : swapsWith (.ListComp elt [⟨target, iter, ifs, 0⟩] scope pos) (some (.Name y py)) spos.line X.env = pure true) (hN : X.N.Nodup) (hiy : X.N[i0]? = some y) (hy : Loc X.env.scope y)
    (hs : ∀ x, foldedSetIterable iter X.env x = pure x := by intro _; rfl) (hf : X.fn y = true ∨ X.env.scope.names.lookup y = some .local := by first | exact .inl rfl | exact .inr rfl | assumption) :
    PS X (.Assign [.Name y py] (.ListComp elt [⟨target, iter, ifs, 0⟩] scope pos) spos) (tAsg (tComp ts.length fr wi g tc te) (gName i0)) :=
  ps_setC hcalm hclos hcell hkind hnames hcl.get (fun x q => clAll_get hhas x q) hfr hi hg hc he hsw hN hiy hy hs hf
end
end L2
local macro_rules | `(tactic| walk_at "rd") => `(tactic| try simp only [L2.tAsg, L2.tOp, L2.tUn, L2.gName, L2.tVar, L2.tC, L2.rI, L2.rI0, L2.rU, L2.rEq, L2.rNe, L2.scal, L2.tTest, L2.tIfS, L2.tRet, L2.tRetN, L2.tNext, L2.tDrop, L2.tCB, L2.tCons, L2.tNil, L2.tCall, L2.tAndV, L2.tOrV, L2.tNotV, L2.tAnd, L2.tOr, L2.tNot, L2.tB, L2.tIf, L2.tChain, L2.tTup, L2.tLst, L2.tBM, L2.tBM0, L2.tComp_eq, L2.tCallX, L2.tCallN, L2.tDGet, L2.tDGet1, L2.tDGet2, L2.sDPut, L2.tDIn, L2.tDNotIn, L2.tDSd, L2.tDNewK, L2.tTru, L2.tFld_eq, L2.sFld_eq, L2.tMethX_eq, L2.tMakeX, L2.tXmk, L2.tXmk1, L2.tRaise, L2.tTry, L2.tTryAs, L2.hkOf, L2.iList, L2.iTup, L2.iEnum, L2.iRng1, L2.iRng2, L2.iRng3, L2.iEnum1, L2.iRev, L2.tSl, L2.tPart, L2.tNoPart, L2.gTup, L2.gCons, L2.gNil, L2.spInt1, L2.spInt2, L2.spWhole,
  List.getElem?_cons_zero, List.getElem?_cons_succ, List.set_cons_zero, List.set_cons_succ, List.cons_append, List.nil_append, List.append_nil, Option.some.injEq, L2.V.int.injEq, L2.V.bl.injEq, L2.V.ref.injEq, L2.V.str.injEq, List.cons.injEq, exists_eq_left', exists_eq_left, exists_eq_right, exists_and_left, exists_and_right, and_true, true_and, and_self, exists_const, exists_eq, exists_eq', and_assoc, decide_eq_true_eq, Bool.not_eq_true', Bool.not_true, Bool.not_false, Bool.false_eq_true, Bool.true_eq_false, if_true, if_false, decide_eq_false_iff_not, ite_not, ↓reduceIte, Int.reduceLT, Int.reduceLE, Int.reducePow, Int.reduceMul, Int.reduceAdd, Int.reduceSub, Int.reduceNeg, Int.reduceToNat, Int.reduceEq, Int.reduceNe, L2.CPow, L2.cmulL_lit, L2.line_lit, L2.line_lt, List.length_cons, List.length_nil, Nat.reduceAdd, Nat.zero_add, L2.cdivL_lit, Int.natAbs_natCast, Int.natAbs_neg, Nat.reducePow, Nat.reduceLT, Nat.reduceLeDiff, Int.natAbs, L2.tPar, ne_eq, not_false_eq_true, not_true_eq_false])
local macro_rules | `(tactic| walk_at "rds") => `(tactic| try simp only [L2.tSeq, L2.tAsg, L2.tOp, L2.tUn, L2.gName, L2.tVar, L2.tC, L2.rI, L2.rI0, L2.rU, L2.rEq, L2.rNe, L2.scal, L2.tTest, L2.tIfS, L2.tRet, L2.tRetN, L2.tNext, L2.tDrop, L2.tCB, L2.tCons, L2.tNil, L2.tCall, L2.tAndV, L2.tOrV, L2.tNotV, L2.tAnd, L2.tOr, L2.tNot, L2.tB, L2.tIf, L2.tChain, L2.tTup, L2.tLst, L2.tBM, L2.tBM0, L2.tComp_eq, L2.tCallX, L2.tCallN, L2.tDGet, L2.tDGet1, L2.tDGet2, L2.sDPut, L2.tDIn, L2.tDNotIn, L2.tDSd, L2.tDNewK, L2.tTru, L2.tFld_eq, L2.sFld_eq, L2.tMethX_eq, L2.tMakeX, L2.tXmk, L2.tXmk1, L2.tRaise, L2.tTry, L2.tTryAs, L2.hkOf, L2.iList, L2.iTup, L2.iEnum, L2.iRng1, L2.iRng2, L2.iRng3, L2.iEnum1, L2.iRev, L2.tSl, L2.tPart, L2.tNoPart, L2.gTup, L2.gCons, L2.gNil, L2.spInt1, L2.spInt2, L2.spWhole,
  List.getElem?_cons_zero, List.getElem?_cons_succ, List.set_cons_zero, List.set_cons_succ, List.cons_append, List.nil_append, List.append_nil, Option.some.injEq, L2.V.int.injEq, L2.V.bl.injEq, L2.V.ref.injEq, L2.V.str.injEq, List.cons.injEq, exists_eq_left', exists_eq_left, exists_eq_right, exists_and_left, exists_and_right, and_true, true_and, and_self, exists_const, exists_eq, exists_eq', and_assoc, decide_eq_true_eq, Bool.not_eq_true', Bool.not_true, Bool.not_false, Bool.false_eq_true, Bool.true_eq_false, if_true, if_false, decide_eq_false_iff_not, ite_not, ↓reduceIte, Int.reduceLT, Int.reduceLE, Int.reducePow, Int.reduceMul, Int.reduceAdd, Int.reduceSub, Int.reduceNeg, Int.reduceToNat, Int.reduceEq, Int.reduceNe, L2.CPow, L2.cmulL_lit, L2.line_lit, L2.line_lt, List.length_cons, List.length_nil, Nat.reduceAdd, Nat.zero_add, L2.cdivL_lit, Int.natAbs_natCast, Int.natAbs_neg, Nat.reducePow, Nat.reduceLT, Nat.reduceLeDiff, Int.natAbs, L2.tPar, ne_eq, not_false_eq_true, not_true_eq_false])
namespace K19
open PySem L2 PyProof.Rows
def top (i : Nat) : Stmt := PySem.Challenge.pw_sharewheel_k19_whole_clipped_by_lines.main.body.getD i (.Pass ⟨0, 0, 0, 0⟩)
abbrev s_anew : Stmt := top 7
abbrev s_of_sender : Stmt := top 8
abbrev s_divisor : Stmt := top 10
abbrev s_ratio : Stmt := top 11
abbrev s_plus : Stmt := top 12
abbrev s_minus : Stmt := top 13
abbrev s_times : Stmt := top 14
abbrev s_under : Stmt := top 15
abbrev s_lesser : Stmt := top 16
abbrev s_buckets_by : Stmt := top 19
abbrev s_clipped : Stmt := top 20
abbrev s_allowed : Stmt := top 22
abbrev s_breaking_first : Stmt := top 23
abbrev s_breach : Stmt := top 24
abbrev s__law_cell_at : Stmt := top 26
abbrev s__law_mix : Stmt := top 27
abbrev s__law_divisor : Stmt := top 28
abbrev s__law_row : Stmt := top 29
abbrev s__law_line : Stmt := top 30
abbrev s__law_too_much : Stmt := top 31
abbrev s__law_due : Stmt := top 32
abbrev s__law_alike : Stmt := top 33
abbrev s_law : Stmt := top 34
theorem sc_anew : FnScope ["piece"] ["piece"] (defScope s_anew) := ⟨rfl, rfl, rfl, by decide +kernel, rfl, by decide +kernel, by decide +kernel⟩
theorem sc_of_sender : FnScope ["row", "who"] ["row", "who"] (defScope s_of_sender) := ⟨rfl, rfl, rfl, by decide +kernel, rfl, by decide +kernel, by decide +kernel⟩
theorem sc_divisor : FnScope ["one", "other", "great", "small", "rest"] ["one", "other"] (defScope s_divisor) := ⟨rfl, rfl, rfl, by decide +kernel, rfl, by decide +kernel, by decide +kernel⟩
theorem sc_ratio : FnScope ["top", "bottom", "common"] ["top", "bottom"] (defScope s_ratio) := ⟨rfl, rfl, rfl, by decide +kernel, rfl, by decide +kernel, by decide +kernel⟩
theorem sc_plus : FnScope ["one", "other"] ["one", "other"] (defScope s_plus) := ⟨rfl, rfl, rfl, by decide +kernel, rfl, by decide +kernel, by decide +kernel⟩
theorem sc_minus : FnScope ["one", "other"] ["one", "other"] (defScope s_minus) := ⟨rfl, rfl, rfl, by decide +kernel, rfl, by decide +kernel, by decide +kernel⟩
theorem sc_times : FnScope ["one", "other"] ["one", "other"] (defScope s_times) := ⟨rfl, rfl, rfl, by decide +kernel, rfl, by decide +kernel, by decide +kernel⟩
theorem sc_under : FnScope ["one", "other"] ["one", "other"] (defScope s_under) := ⟨rfl, rfl, rfl, by decide +kernel, rfl, by decide +kernel, by decide +kernel⟩
theorem sc_lesser : FnScope ["one", "other", "least"] ["one", "other"] (defScope s_lesser) := ⟨rfl, rfl, rfl, by decide +kernel, rfl, by decide +kernel, by decide +kernel⟩
theorem sc_buckets_by : FnScope ["lines", "found", "who", "line"] ["lines"] (defScope s_buckets_by) := ⟨rfl, rfl, rfl, by decide +kernel, rfl, by decide +kernel, by decide +kernel⟩
theorem sc_clipped : FnScope ["row", "lines", "buckets", "staying", "piece", "bucket"] ["row", "lines"] (defScope s_clipped) := ⟨rfl, rfl, rfl, by decide +kernel, rfl, by decide +kernel, by decide +kernel⟩
theorem sc_allowed : FnScope ["line", "time"] ["line", "time"] (defScope s_allowed) := ⟨rfl, rfl, rfl, by decide +kernel, rfl, by decide +kernel, by decide +kernel⟩
theorem sc_breaking_first : FnScope ["row", "places", "line", "end", "came", "place"] ["row", "places", "line"] (defScope s_breaking_first) := ⟨rfl, rfl, rfl, by decide +kernel, rfl, by decide +kernel, by decide +kernel⟩
theorem sc_breach : FnScope ["row", "who", "line", "places", "count", "last", "first"] ["row", "who", "line"] (defScope s_breach) := ⟨rfl, rfl, rfl, by decide +kernel, rfl, by decide +kernel, by decide +kernel⟩
theorem sc__law_cell_at : FnScope ["_law_script", "_law_k"] ["_law_script", "_law_k"] (defScope s__law_cell_at) := ⟨rfl, rfl, rfl, by decide +kernel, rfl, by decide +kernel, by decide +kernel⟩
theorem sc__law_mix : FnScope ["_law_cell", "_law_k", "_law_base", "_law_left", "_law_step", "_law_number"] ["_law_cell", "_law_k"] (defScope s__law_mix) := ⟨rfl, rfl, rfl, by decide +kernel, rfl, by decide +kernel, by decide +kernel⟩
theorem sc__law_divisor : FnScope ["_law_one", "_law_other"] ["_law_one", "_law_other"] (defScope s__law_divisor) := ⟨rfl, rfl, rfl, by decide +kernel, rfl, by decide +kernel, by decide +kernel⟩
theorem sc__law_row : FnScope ["_law_script", "_law_way", "_law_few", "_law_at", "_law_row_here", "_law_cell", "_law_many", "_law_who"] ["_law_script", "_law_way", "_law_few"] (defScope s__law_row) := ⟨rfl, rfl, rfl, by decide +kernel, rfl, by decide +kernel, by decide +kernel⟩
theorem sc__law_line : FnScope ["_law_cell", "_law_way", "_law_top", "_law_bottom", "_law_shared"] ["_law_cell", "_law_way"] (defScope s__law_line) := ⟨rfl, rfl, rfl, by decide +kernel, rfl, by decide +kernel, by decide +kernel⟩
theorem sc__law_too_much : FnScope ["_law_kept", "_law_piece", "_law_told", "_law_many", "_law_other"] ["_law_kept", "_law_piece", "_law_told"] (defScope s__law_too_much) := ⟨rfl, rfl, rfl, by decide +kernel, rfl, by decide +kernel, by decide +kernel⟩
theorem sc__law_due : FnScope ["_law_row_here", "_law_lines", "_law_kept", "_law_lost", "_law_place", "_law_piece", "_law_told"] ["_law_row_here", "_law_lines"] (defScope s__law_due) := ⟨rfl, rfl, rfl, by decide +kernel, rfl, by decide +kernel, by decide +kernel⟩
theorem sc__law_alike : FnScope ["_law_found", "_law_due_here", "_law_piece"] ["_law_found", "_law_due_here"] (defScope s__law_alike) := ⟨rfl, rfl, rfl, by decide +kernel, rfl, by decide +kernel, by decide +kernel⟩
theorem sc_law : FnScope ["_law_script", "_law_first", "_law_way", "_law_row_here", "_law_second", "_law_lines", "_law_kept", "_law_lost", "_law_handed", "_law_found", "_law_who", "_law_told"] ["_law_script"] (defScope s_law) := ⟨rfl, rfl, rfl, by decide +kernel, rfl, by decide +kernel, by decide +kernel⟩
abbrev s_Short_init : Stmt := inClass (top 5) 0
theorem sc_Short_init : FnScope ["self", "missing"] ["self", "missing"] (defScope s_Short_init) := ⟨rfl, rfl, rfl, by decide +kernel, rfl, by decide +kernel, by decide +kernel⟩
abbrev s_Bucket_init : Stmt := inClass (top 18) 0
theorem sc_Bucket_init : FnScope ["self", "depth", "rate", "start"] ["self", "depth", "rate", "start"] (defScope s_Bucket_init) := ⟨rfl, rfl, rfl, by decide +kernel, rfl, by decide +kernel, by decide +kernel⟩
abbrev s_Bucket_level : Stmt := inClass (top 18) 1
theorem sc_Bucket_level : FnScope ["self", "at", "grown"] ["self", "at"] (defScope s_Bucket_level) := ⟨rfl, rfl, rfl, by decide +kernel, rfl, by decide +kernel, by decide +kernel⟩
abbrev s_Bucket_holds : Stmt := inClass (top 18) 2
theorem sc_Bucket_holds : FnScope ["self", "at", "length"] ["self", "at", "length"] (defScope s_Bucket_holds) := ⟨rfl, rfl, rfl, by decide +kernel, rfl, by decide +kernel, by decide +kernel⟩
abbrev s_Bucket_pay : Stmt := inClass (top 18) 3
theorem sc_Bucket_pay : FnScope ["self", "at", "length", "rest"] ["self", "at", "length"] (defScope s_Bucket_pay) := ⟨rfl, rfl, rfl, by decide +kernel, rfl, by decide +kernel, by decide +kernel⟩
structure Txt (K : PySem.W.Frag) (mg : Str → Option Value) (c_WheelError : Addr) (c_NoRatio : Addr) (c_NoCurb : Addr) (c_Short : Addr) (c_Bucket : Addr) : Prop where
  mg_WheelError : mg "WheelError" = some (.ref c_WheelError)
  xc_WheelError : XC K c_WheelError
  kp_WheelError : PySem.W.keepIn K (.ref c_WheelError) = true
  ex_WheelError : PySem.W.excIn K c_WheelError bmV "ValueError.__new__" = true
  mg_NoRatio : mg "NoRatio" = some (.ref c_NoRatio)
  xc_NoRatio : XC K c_NoRatio
  kp_NoRatio : PySem.W.keepIn K (.ref c_NoRatio) = true
  ex_NoRatio : PySem.W.excIn K c_NoRatio bmV "ValueError.__new__" = true
  mg_NoCurb : mg "NoCurb" = some (.ref c_NoCurb)
  xc_NoCurb : XC K c_NoCurb
  kp_NoCurb : PySem.W.keepIn K (.ref c_NoCurb) = true
  ex_NoCurb : PySem.W.excIn K c_NoCurb bmV "ValueError.__new__" = true
  mg_Short : mg "Short" = some (.ref c_Short)
  xc_Short : XC K c_Short
  kp_Short : PySem.W.keepIn K (.ref c_Short) = true
  in_Short : SrcI K c_Short "Short.__init__" s_Short_init ["self", "missing"]
  tk_Short_missing : PySem.W.takerIn K c_Short "missing" = some none
  fl_Short_missing : PySem.W.findIn K (.ref c_Short) "missing" = some none
  sub_NoCurb_WheelError : PySem.W.subIn K (.ref c_NoCurb) (.ref c_WheelError) = some true
  kit_NoCurb_WheelError : PySem.W.kitOne K (.ref c_NoCurb) (.ref c_WheelError) = some true
  sub_NoCurb_NoRatio : PySem.W.subIn K (.ref c_NoCurb) (.ref c_NoRatio) = some false
  kit_NoCurb_NoRatio : PySem.W.kitOne K (.ref c_NoCurb) (.ref c_NoRatio) = some false
  sub_NoCurb_NoCurb : PySem.W.subIn K (.ref c_NoCurb) (.ref c_NoCurb) = some true
  kit_NoCurb_NoCurb : PySem.W.kitOne K (.ref c_NoCurb) (.ref c_NoCurb) = some true
  sub_NoCurb_Short : PySem.W.subIn K (.ref c_NoCurb) (.ref c_Short) = some false
  kit_NoCurb_Short : PySem.W.kitOne K (.ref c_NoCurb) (.ref c_Short) = some false
  kit_NoCurb_ValueError : PySem.W.kitOne K (.ref c_NoCurb) (.type "ValueError") = some true
  sub_Short_WheelError : PySem.W.subIn K (.ref c_Short) (.ref c_WheelError) = some true
  kit_Short_WheelError : PySem.W.kitOne K (.ref c_Short) (.ref c_WheelError) = some true
  sub_Short_NoRatio : PySem.W.subIn K (.ref c_Short) (.ref c_NoRatio) = some false
  kit_Short_NoRatio : PySem.W.kitOne K (.ref c_Short) (.ref c_NoRatio) = some false
  sub_Short_NoCurb : PySem.W.subIn K (.ref c_Short) (.ref c_NoCurb) = some false
  kit_Short_NoCurb : PySem.W.kitOne K (.ref c_Short) (.ref c_NoCurb) = some false
  sub_Short_Short : PySem.W.subIn K (.ref c_Short) (.ref c_Short) = some true
  kit_Short_Short : PySem.W.kitOne K (.ref c_Short) (.ref c_Short) = some true
  kit_Short_ValueError : PySem.W.kitOne K (.ref c_Short) (.type "ValueError") = some true
  no_enumerate : mg "enumerate" = none
  no_abs : mg "abs" = none
  no_reversed : mg "reversed" = none
  no_len : mg "len" = none
  no_range : mg "range" = none
  no_any : mg "any" = none
  no_isinstance : mg "isinstance" = none
  no_bool : mg "bool" = none
  no_tuple : mg "tuple" = none
  no_list : mg "list" = none
  src_anew : Src K mg "anew" s_anew ["piece"]
  src_of_sender : Src K mg "of_sender" s_of_sender ["row", "who"]
  src_divisor : Src K mg "divisor" s_divisor ["one", "other"]
  src_ratio : Src K mg "ratio" s_ratio ["top", "bottom"]
  src_plus : Src K mg "plus" s_plus ["one", "other"]
  src_minus : Src K mg "minus" s_minus ["one", "other"]
  src_times : Src K mg "times" s_times ["one", "other"]
  src_under : Src K mg "under" s_under ["one", "other"]
  src_lesser : Src K mg "lesser" s_lesser ["one", "other"]
  src_buckets_by : Src K mg "buckets_by" s_buckets_by ["lines"]
  src_clipped : Src K mg "clipped" s_clipped ["row", "lines"]
  src_allowed : Src K mg "allowed" s_allowed ["line", "time"]
  src_breaking_first : Src K mg "breaking_first" s_breaking_first ["row", "places", "line"]
  src_breach : Src K mg "breach" s_breach ["row", "who", "line"]
  src__law_cell_at : Src K mg "_law_cell_at" s__law_cell_at ["_law_script", "_law_k"]
  src__law_mix : Src K mg "_law_mix" s__law_mix ["_law_cell", "_law_k"]
  src__law_divisor : Src K mg "_law_divisor" s__law_divisor ["_law_one", "_law_other"]
  src__law_row : Src K mg "_law_row" s__law_row ["_law_script", "_law_way", "_law_few"]
  src__law_line : Src K mg "_law_line" s__law_line ["_law_cell", "_law_way"]
  src__law_too_much : Src K mg "_law_too_much" s__law_too_much ["_law_kept", "_law_piece", "_law_told"]
  src__law_due : Src K mg "_law_due" s__law_due ["_law_row_here", "_law_lines"]
  src__law_alike : Src K mg "_law_alike" s__law_alike ["_law_found", "_law_due_here"]
  mg_Bucket : mg "Bucket" = some (.ref c_Bucket)
  cl_Bucket : Cls K c_Bucket
  na_Bucket_depth : NoAttr K c_Bucket "depth"
  na_Bucket_rate : NoAttr K c_Bucket "rate"
  na_Bucket_since : NoAttr K c_Bucket "since"
  na_Bucket_left : NoAttr K c_Bucket "left"
  in_Bucket : SrcK K c_Bucket "Bucket.__init__" s_Bucket_init ["self", "depth", "rate", "start"] [[], [V.int 0]]
  me_Bucket_level : SrcM K c_Bucket "level" "Bucket.level" s_Bucket_level ["self", "at"] [[]]
  me_Bucket_holds : SrcM K c_Bucket "holds" "Bucket.holds" s_Bucket_holds ["self", "at", "length"] [[]]
  me_Bucket_pay : SrcM K c_Bucket "pay" "Bucket.pay" s_Bucket_pay ["self", "at", "length"] [[]]
abbrev Ln := Option (Int × Rat)
def LnAt (H : Hp) (v : V) (l : Ln) : Prop := match l with
  | none => v = .non
  | some z => ∃ ln pr, v = .ref ln ∧ H ln = some (.tup [.int z.1, .ref pr]) ∧ H pr = some (.tup (fq z.2))
theorem LnAt.keep {H H' : Hp} {v : V} {l : Ln} (h : LnAt H v l) (e : ∀ p xs, H p = some (.tup xs) → H' p = some (.tup xs)) : LnAt H' v l := by
  cases l with
  | none => exact h
  | some z =>
    obtain ⟨ln, pr, h1, h2, h3⟩ := h
    exact ⟨ln, pr, h1, e _ _ h2, e _ _ h3⟩
abbrev LnsAt (H : Hp) : List V → List Ln → Prop := Paired (LnAt H)
theorem lns_keep {H H' : Hp} {vs : List V} {ls : List Ln} (h : LnsAt H vs ls) (e : ∀ p xs, H p = some (.tup xs) → H' p = some (.tup xs)) : LnsAt H' vs ls := Paired.mapP h fun _ _ q => q.keep e
def LnOk (l : Ln) : Prop := ∀ b r, l = some (b, r) → Bd b r
def lnOf (ls : List Ln) : Sw.Lines := fun w => if 0 ≤ w then (ls[w.toNat]?).join else none
theorem lnOf_nil (w : Int) : lnOf [] w = none := by unfold lnOf; simp
theorem lnOf_next {ls : List Ln} {i : Nat} {l : Ln} (h : ls[i]? = some l) (w : Int) : lnOf (ls.take (i + 1)) w = if w = i then l else lnOf (ls.take i) w := by
  unfold lnOf
  by_cases hw : w = (i : Int)
  · subst hw
    rw [if_pos (by omega), if_pos rfl, Int.toNat_natCast, List.getElem?_take, if_pos (by omega), h]
    rfl
  · rw [if_neg hw]
    by_cases h0 : 0 ≤ w
    · rw [if_pos h0, if_pos h0, List.getElem?_take, List.getElem?_take]
      by_cases h1 : w.toNat < i
      · rw [if_pos h1, if_pos (by omega)]
      · rw [if_neg h1, if_neg (by omega)]
    · rw [if_neg h0, if_neg h0]
theorem lnOf_ok {ls : List Ln} (h : ∀ l ∈ ls, LnOk l) {w b : Int} {r : Rat} (e : lnOf ls w = some (b, r)) : Bd b r := by
  unfold lnOf at e
  split at e
  · cases q : ls[w.toNat]? with
    | none => rw [q] at e; cases e
    | some l =>
      rw [q] at e
      exact h l (List.mem_of_getElem? q) b r e
  · cases e
structure Bks (C : Addr) (H : Hp) (kvs : List (Key × V)) (ln : Sw.Lines) (bp : Int → Addr) (t : Int) (ks : List Q4) : Prop where
  val : ∀ w, valV kvs (Sum.inl w : Key) = (ln w).map fun _ => V.ref (bp w)
  at_ : ∀ w b r, ln w = some (b, r) → At C H (bp w) b r t (Sw.lvOf (b * (r.den : Int)) r.num (r.den : Int) t (Sw.paysF ks w) 0)
  inj : ∀ w w', ln w ≠ none → ln w' ≠ none → bp w = bp w' → w = w'
theorem Bks.same {C : Addr} {H H' : Hp} {kvs : List (Key × V)} {ln : Sw.Lines} {bp : Int → Addr} {t : Int} {ks : List Q4} (h : Bks C H kvs ln bp t ks) (s : Same H H') : Bks C H' kvs ln bp t ks :=
  ⟨h.val, fun w b r e => (h.at_ w b r e).same s, h.inj⟩
theorem Bks.later {C : Addr} {H : Hp} {kvs : List (Key × V)} {ln : Sw.Lines} {bp : Int → Addr} {t t' : Int} {ks : List Q4} (h : Bks C H kvs ln bp t ks) (ok : ∀ w b r, ln w = some (b, r) → Bd b r) (le : t ≤ t') : Bks C H kvs ln bp t' ks := by
  refine ⟨h.val, fun w b r e => ?_, h.inj⟩
  have a := (h.at_ w b r e).later (ok w b r e) (g := t' - t) (by omega)
  have n0 : 0 ≤ r.num := Rat.num_nonneg.mpr (ok w b r e).r0
  rw [← Sw.lvOf_later (Int.mul_nonneg n0 (by omega)), show t + (t' - t) = t' by omega] at a
  exact a
def Fits (qs : List Q4) : Prop := (∀ q ∈ qs, 0 ≤ q.1 ∧ q.1 ≤ 1000000000000 ∧ 0 ≤ q.2.1 ∧ q.2.1 ≤ 11 ∧ 1 ≤ q.2.2.1 ∧ q.2.2.1 ≤ 1000000) ∧ qs.Pairwise fun a b => a.1 ≤ b.1
theorem keeps_lv {ln : Sw.Lines} {ks : List Q4} {q : Q4} {b : Int} {r : Rat} (h : ln q.2.1 = some (b, r)) : Sw.keepsF ln ks q = decide (q.2.2.1 * (r.den : Int) ≤ Sw.lvOf (b * (r.den : Int)) r.num (r.den : Int) q.1 (Sw.paysF ks q.2.1) 0) := by
  unfold Sw.keepsF
  rw [h]
  show (!Sw.tooF _ _ _ _ _ 0) = _
  have e := Sw.too_piece (D := b * (r.den : Int)) (num := r.num) (den := (r.den : Int)) (t := q.1) (n := q.2.2.1) (Sw.paysF ks q.2.1)
  cases z : Sw.tooF (b * (r.den : Int)) r.num (r.den : Int) q.1 ((q.1, q.2.2.1) :: Sw.paysF ks q.2.1) 0 with
  | true =>
    have := e.mp z
    symm
    exact decide_eq_false (by omega)
  | false =>
    have : ¬ Sw.lvOf (b * (r.den : Int)) r.num (r.den : Int) q.1 (Sw.paysF ks q.2.1) 0 < q.2.2.1 * (r.den : Int) := fun y => by rw [e.mpr y] at z; cases z
    symm
    exact decide_eq_true (by omega)
theorem rMeth_map {C : Addr} {m : Str} {x : V} {H : Hp} {P P' : Prop} (h : rMeth C m x H P) (f : P → P') : rMeth C m x H P' := by
  obtain ⟨a, dx, fs, e, h1, h2, h3⟩ := h
  exact ⟨a, dx, fs, e, h1, h2, f h3⟩
section
variable {P : Program} {w : World} {K : PySem.W.Frag} {mg : Str → Option Value} {base : Heap} {c_WheelError c_NoRatio c_NoCurb c_Short c_Bucket : Addr}
theorem d_divisor (T : Txt K mg c_WheelError c_NoRatio c_NoCurb c_Short c_Bucket) : Def P w K mg base (CXX P w) 1 "divisor" ["one", "other"] (spInt2 Sw.dv) := by
  refine T.src_divisor.okN (k := 0) sc_divisor (fun vs H Q E h => ?_) (fun f cdv A outer s H vs Q E hr h => ?_)
  · obtain ⟨a, b, rfl, _⟩ := h
    rfl
  · obtain ⟨a, b, rfl, k⟩ := h
    refine ⟨_, (pss_cons (ps_set (i := 2) sc_divisor.nd rfl (by first | exact Or.inl rfl | exact Or.inr rfl) (pe_callB call_abs rfl T.no_abs boot_abs (pa_cons (pv 0) pa_nil))) (pss_cons (ps_set (i := 3) sc_divisor.nd rfl (by first | exact Or.inl rfl | exact Or.inr rfl) (pe_callB call_abs rfl T.no_abs boot_abs (pa_cons (pv 1) pa_nil))) (pss_cons (ps_while PassesOwn.never (pt_cmpR op_ne (pv 3) pe_int (nomark _)) (pss_cons (ps_set (i := 4) sc_divisor.nd rfl (by first | exact Or.inl rfl | exact Or.inr rfl) (pe_op op_mod (pv 2) (pv 3))) (pss_cons (ps_set (i := 2) sc_divisor.nd rfl (by first | exact Or.inl rfl | exact Or.inr rfl) (pv 3)) (pss_one (ps_set (i := 3) sc_divisor.nd rfl (by first | exact Or.inl rfl | exact Or.inr rfl) (pv 4)))))) (pss_one (ps_ret (pv 2)))))), ?_⟩
    refine ⟨_, rfl, a, rfl, ?_⟩
    refine ⟨_, rfl, b, rfl, ?_⟩
    refine while_det (fun σ H' => H' = H ∧ ∃ g s r, σ = [some (.int a), some (.int b), some (.int g), some (.int s), r] ∧ 0 ≤ g ∧ 0 ≤ s ∧ Sw.dv g s = Sw.dv a b)
      (fun σ _ => match σ with | [_, _, _, some (.int s), _] => s.toNat | _ => 0) ⟨rfl, _, _, none, rfl, ?_, ?_, Sw.dv_abs a b⟩ ?_
    · split <;> omega
    · split <;> omega
    · rintro σ H' ⟨rfl, g, s, r, rfl, hg, hs, e⟩
      refine ⟨!decide (V.int s = V.int 0), fun Q hQ => ⟨_, rfl, rfl, _, rfl, hQ⟩, fun hb => ?_, fun hb => ?_⟩
      · have hs0 : s ≠ 0 := by intro z; subst z; simp at hb
        have hsp : 0 < s := by omega
        refine ⟨_, rfl, _, rfl, _, _, rfl, rfl, hsp, ?_⟩
        refine ⟨_, rfl, ?_⟩
        refine ⟨_, rfl, ?_⟩
        refine ⟨⟨rfl, s, g % s, _, rfl, hs, Int.emod_nonneg g hs0, by rw [Sw.dv_step]; exact e⟩, ?_⟩
        show (g % s).toNat < s.toNat
        have := Int.emod_lt_of_pos g hsp
        have := Int.emod_nonneg g hs0
        omega
      · have hs0 : s = 0 := by
          have : V.int s = V.int 0 := by simpa using hb
          exact V.int.inj this
        subst hs0
        rw [Sw.dv_zero g hg] at e
        refine ⟨_, rfl, ?_⟩
        show Q (.int g) H'
        rw [e]; exact k
theorem d__law_cell_at (T : Txt K mg c_WheelError c_NoRatio c_NoCurb c_Short c_Bucket) : Def P w K mg base (CXX P w) 1 "_law_cell_at" ["_law_script", "_law_k"] (spCell K) := by
  refine T.src__law_cell_at.okN (k := 0) sc__law_cell_at (fun vs H Q E h => ?_) (fun f cdv A outer s H vs Q E hr h => ?_)
  · obtain ⟨a, ns, i, rfl, _⟩ := h
    rfl
  · obtain ⟨a, ns, i, rfl, hS, hi, k⟩ := h
    refine ⟨_, (pss_cons (ps_if (pt_cmpR op_lt (pv 1) (pe_callB (call_lenK K rfl) rfl T.no_len boot_len (pa_cons (pv 0) pa_nil)) (nomark _)) (pss_one (ps_ret (pe_ix (ix_listK K rfl) (pv 0) (pv 1) (fun _ _ => rfl)))) pss_nil) (pss_one (ps_ret pe_int))), ?_⟩
    refine ⟨_, rfl, _, rfl, a, _, rfl, .inl hS, _, _, rfl, rfl, _, rfl, ?_⟩
    refine ite2 (fun h => ?_) (fun h => ?_)
    · have h' : i < (ns.map V.int).length := of_decide_eq_true h
      exact ⟨_, rfl, _, rfl, a, _, _, _, rfl, rfl, hS, cellAt_get hi (by simpa using h'), k⟩
    · have h' : ¬ i < (ns.map V.int).length := fun z => h (decide_eq_true z)
      show Q (.int 0) H
      rw [cellAt_none hi (by simpa using h')] at k
      exact k
def spDv : Sp := fun vs H Q _ => ∃ a b, vs = [.int a, .int b] ∧ 0 ≤ b ∧ Q (.int (Sw.dv a b)) H
theorem d__law_divisor (T : Txt K mg c_WheelError c_NoRatio c_NoCurb c_Short c_Bucket) : Def P w K mg base (CXX P w) 1 "_law_divisor" ["_law_one", "_law_other"] spDv := by
  refine T.src__law_divisor.okN (k := 0) sc__law_divisor (fun vs H Q E h => ?_) (fun f cdv A outer s H vs Q E hr h => ?_)
  · obtain ⟨a, b, rfl, _⟩ := h
    rfl
  · obtain ⟨a, b, rfl, h2, k⟩ := h
    refine ⟨_, (pss_cons (ps_while PassesOwn.never (pt_cmpR op_ne (pv 1) pe_int (nomark _)) (pss_one (ps_par (i := 0) (j := 1) rfl sc__law_divisor.nd rfl rfl (by decide) rfl rfl (pa_cons (pv 1) (pa_cons (pe_op op_mod (pv 0) (pv 1)) pa_nil)) (by with_unfolding_all rfl)))) (pss_one (ps_ret (pe_callB call_abs rfl T.no_abs boot_abs (pa_cons (pv 0) pa_nil))))), ?_⟩
    refine while_det (fun σ H' => H' = H ∧ ∃ g s, σ = [some (.int g), some (.int s)] ∧ 0 ≤ s ∧ Sw.dv g s = Sw.dv a b)
      (fun σ _ => match σ with | [_, some (.int s)] => s.toNat | _ => 0) ⟨rfl, _, _, rfl, h2, rfl⟩ ?_
    rintro σ H' ⟨rfl, g, s, rfl, hs, e⟩
    refine ⟨!decide (V.int s = V.int 0), fun Q hQ => ⟨_, rfl, rfl, _, rfl, hQ⟩, fun hb => ?_, fun hb => ?_⟩
    · have hs0 : s ≠ 0 := by intro z; subst z; simp at hb
      have hsp : 0 < s := by omega
      refine ⟨_, rfl, _, rfl, _, rfl, _, _, rfl, rfl, hsp, _, _, rfl, ?_⟩
      refine ⟨⟨rfl, s, g % s, rfl, Int.emod_nonneg g hs0, by rw [Sw.dv_step]; exact e⟩, ?_⟩
      show (g % s).toNat < s.toNat
      have := Int.emod_lt_of_pos g hsp
      have := Int.emod_nonneg g hs0
      omega
    · have hs0 : s = 0 := by
        have : V.int s = V.int 0 := by simpa using hb
        exact V.int.inj this
      subst hs0
      have e' : (if g < 0 then -g else g) = Sw.dv a b := by
        rw [← e]
        split
        · rw [← Sw.dv_negl, Sw.dv_zero _ (by omega)]
        · rw [Sw.dv_zero _ (by omega)]
      walk_at "rd"
      rw [e']
      exact k
theorem d__law_mix (T : Txt K mg c_WheelError c_NoRatio c_NoCurb c_Short c_Bucket) : Def P w K mg base (CXX P w) 1 "_law_mix" ["_law_cell", "_law_k"] spMixS := by
  refine T.src__law_mix.okN (k := 0) sc__law_mix (fun vs H Q E h => ?_) (fun f cdv A outer s H vs Q E hr h => ?_)
  · obtain ⟨c, i, rfl, _⟩ := h
    rfl
  · obtain ⟨c, i, rfl, h0, h1, k⟩ := h
    refine ⟨_, (pss_cons (ps_if (pt_cmpR op_eq (pe_op op_mod (pe_op op_fdivL (pv 0) pe_int) pe_int) pe_int (nomark _)) (pss_cons (ps_set (i := 2) sc__law_mix.nd rfl (by first | exact Or.inl rfl | exact Or.inr rfl) (pe_ix (ix_listK K rfl) (pe_lst (pa_cons pe_int (pa_cons (pe_op op_pow pe_int pe_int) pa_nil))) (pe_op op_mod (pe_op op_fdivL (pv 0) pe_int) pe_int) (fun _ _ => rfl))) (pss_cons (ps_set (i := 3) sc__law_mix.nd rfl (by first | exact Or.inl rfl | exact Or.inr rfl) (pe_op op_fdivL (pv 0) pe_int)) (pss_cons (ps_for PassesOwn.never rfl (pi_range1 rfl T.no_range (pa_cons (pe_op op_sub (pv 1) pe_int) pa_nil)) (pg_name (i := 4) sc__law_mix.nd rfl (by first | exact Or.inl rfl | exact Or.inr rfl)) (pss_one (ps_set (i := 3) sc__law_mix.nd rfl (by first | exact Or.inl rfl | exact Or.inr rfl) (pe_op op_fdivL (pv 3) (pv 2))))) (pss_one (ps_if (pt_cmpR op_gt (pv 3) pe_int (nomark _)) (pss_one (ps_ret (pe_op op_mod (pv 3) (pv 2)))) pss_nil))))) pss_nil) (pss_cons (ps_set (i := 5) sc__law_mix.nd rfl (by first | exact Or.inl rfl | exact Or.inr rfl) (pe_op op_add (pe_op op_add (pe_op op_mod (pv 0) pe_int) (pe_op op_mulL pe_int (pv 1))) pe_int)) (pss_cons (ps_set (i := 5) sc__law_mix.nd rfl (by first | exact Or.inl rfl | exact Or.inr rfl) (pe_op op_mod (pe_op op_add (pe_op op_add (pe_op op_mulL (pv 5) (pv 5)) (pe_op op_mulL pe_int (pv 5))) pe_int) pe_int)) (pss_one (ps_ret (pe_op op_mod (pe_op op_add (pe_op op_add (pe_op op_mulL (pv 5) (pv 5)) (pe_op op_mulL pe_int (pv 5))) (pv 1)) pe_int)))))), ?_⟩
    show tSeq _ _ _ [some (.int c), some (.int i), none, none, none, none] H
    refine seq_step fun R hR => ?_
    have tail : ∀ v2 v3 v4 H1, Same H H1 → R [some (.int c), some (.int i), v2, v3, v4, none] H1 := fun v2 v3 v4 H1 sm => by
      refine hR _ _ ?_
      refine seq_step fun R hR => ?_
      walk_at "rd"
      refine ⟨⟨Sw.Sz.lit (by decide), (Sw.Sz.r18 (by omega) (by omega)).mono (by decide)⟩, hR _ _ ?_⟩
      have e1 := Int.emod_nonneg c (show (2147483647 : Int) ≠ 0 by decide)
      have e2 := Int.emod_lt_of_pos c (show (0 : Int) < 2147483647 by decide)
      have z1 : Sw.Sz 70 (c % 2147483647 + 7919 * i + 1) := Sw.Sz.r18 (by omega) (by omega)
      generalize c % 2147483647 + 7919 * i + 1 = x at z1 ⊢
      refine seq_step fun R hR => ?_
      walk_at "rd"
      refine ⟨⟨z1.mono (by decide), z1.mono (by decide)⟩, ⟨Sw.Sz.lit (by decide), z1.mono (by decide)⟩, hR _ _ ?_⟩
      generalize hy : (x * x + 48271 * x + 11) % 2147483647 = y
      have e3 : 0 ≤ y := by rw [← hy]; exact Int.emod_nonneg _ (by decide)
      have e4 : y < 2147483647 := by rw [← hy]; exact Int.emod_lt_of_pos _ (by decide)
      have z2 : Sw.Sz 70 y := Sw.Sz.r18 (by omega) (by omega)
      walk_at "rd"
      exact ⟨⟨z2.mono (by decide), z2.mono (by decide)⟩, ⟨Sw.Sz.lit (by decide), z2.mono (by decide)⟩, k _ _ sm (Int.emod_nonneg _ (by decide)) (Int.emod_lt_of_pos _ (by decide))⟩
    walk_at "rd"
    refine ite2 (fun hc => ?_) fun hc => tail _ _ _ _ (Same.refl _)
    refine seq_step fun R hR => ?_
    walk_at "rd"
    intro t ht
    refine pickM [50, 1000000000] (by omega) (by show c / 128 % 2 < 2; omega) fun m hm => hR _ _ ?_
    have m0 : 0 < m ∧ m ≤ 1000000000 := by
      simp only [List.mem_cons, List.not_mem_nil, or_false] at hm
      omega
    have sm := same_new (o := .lst (([50, 1000000000] : List Int).map V.int)) ht
    generalize upd H t (.lst (([50, 1000000000] : List Int).map V.int)) = H1 at sm ⊢
    refine seq_step fun R hR => ?_
    walk_at "rd"
    refine hR _ _ ?_
    refine seq_step fun R hR => ?_
    refine for_step fun Z hZ => ?_
    walk_at "rd"
    refine ⟨by omega, by omega, hZ _ _ ?_⟩
    refine for_range (fun _ σ H' => H' = H1 ∧ ∃ lf v, σ = [some (.int c), some (.int i), some (.int m), some (.int lf), v, none]) ⟨rfl, _, _, rfl⟩ ?_ ?_
    · rintro j σ H2 hj ⟨rfl, lf, v, rfl⟩
      walk_at "rd"
      exact ⟨m0.1, (Sw.Sz.r18 (by omega) (by omega)).mono (by decide)⟩
    · rintro σ H2 ⟨rfl, lf, v, rfl⟩
      refine hR _ _ ?_
      refine nx_step fun R hR => ?_
      walk_at "rd"
      refine ite2 (fun h => ⟨m0.1, k _ _ sm (Int.emod_nonneg _ (by omega)) ?_⟩) fun h => hR _ _ (tail _ _ _ _ sm)
      have := Int.emod_lt_of_pos lf m0.1
      omega
def spAnew : Sp := fun vs H Q _ => ∃ p q, vs = [.ref p] ∧ H p = some (.tup (q4 q)) ∧ ∀ r, H r = none → Q (.ref r) (upd H r (.tup (q4 q)))
theorem d_anew (T : Txt K mg c_WheelError c_NoRatio c_NoCurb c_Short c_Bucket) : Def P w K mg base (CXX P w) 1 "anew" ["piece"] spAnew := by
  refine T.src_anew.okN (k := 0) sc_anew (fun vs H Q E h => ?_) (fun f cdv A outer s H vs Q E hr h => ?_)
  · obtain ⟨p, q, rfl, _⟩ := h
    rfl
  · obtain ⟨p, q, rfl, hp, k⟩ := h
    refine ⟨_, (pss_one (ps_ret (pe_tup (pa_cons (pe_ix (ix_tupK K rfl) (pv 0) pe_int (fun _ _ => rfl)) (pa_cons (pe_ix (ix_tupK K rfl) (pv 0) pe_int (fun _ _ => rfl)) (pa_cons (pe_ix (ix_tupK K rfl) (pv 0) pe_int (fun _ _ => rfl)) (pa_cons (pe_ix (ix_tupK K rfl) (pv 0) pe_int (fun _ _ => rfl)) pa_nil))))))), ?_⟩
    show tRet _ _ [some (.ref p)] H
    walk_at "rd"
    exact ixT_at (.of hp) rfl (ixT_at (.of hp) rfl (ixT_at (.of hp) rfl (ixT_at (.of hp) rfl k)))
def spRat (cN : Addr) : Sp := fun vs H Q E => ∃ t b z, vs = [.int t, .int b] ∧ z ≤ 5000 ∧ Sw.Sz z b ∧ (b ≠ 0 → ∀ p, H p = none → Q (.ref p) (upd H p (.tup (fq ((t : Rat) / (b : Rat)))))) ∧
  (b = 0 → ∀ e, H e = none → E (.ref e) none (upd H e (excO e cN none false)))
theorem d_ratio (T : Txt K mg c_WheelError c_NoRatio c_NoCurb c_Short c_Bucket) : Def P w K mg base (CXX P w) 2 "ratio" ["top", "bottom"] (spRat c_NoRatio) := by
  have D_divisor := d_divisor (P := P) (w := w) (base := base) T
  refine T.src_ratio.okX (k := 1) sc_ratio (fun vs H Q E h => ?_) (fun f cdv A outer s H vs Q E hr h => ?_)
  · obtain ⟨t, b, z, rfl, _⟩ := h
    rfl
  · obtain ⟨t, b, z, rfl, z5, sb, k, kx⟩ := h
    refine ⟨_, (pss_cons (ps_if (pt_cmpR op_eq (pv 1) pe_int (nomark _)) (pss_one (ps_raise K rfl rfl raiseF (pe_xmk T.ex_NoRatio T.kp_NoRatio rfl T.mg_NoRatio (pa_cons pe_str pa_nil)))) pss_nil) (pss_cons (ps_set (i := 2) sc_ratio.nd rfl (by first | exact Or.inl rfl | exact Or.inr rfl) (pe_callX D_divisor (hr.mono (by decide)) rfl passF (pa_cons (pv 0) (pa_cons (pv 1) pa_nil)))) (pss_cons (ps_if (pt_cmpR op_lt (pv 1) pe_int (nomark _)) (pss_one (ps_set (i := 2) sc_ratio.nd rfl (by first | exact Or.inl rfl | exact Or.inr rfl) (pe_un un_neg (pv 2)))) pss_nil) (pss_one (ps_ret (pe_tup (pa_cons (pe_op op_fdivS (pv 0) (pv 2)) (pa_cons (pe_op op_fdivS (pv 1) (pv 2)) pa_nil)))))))), ?_⟩
    show tSeq _ _ _ [some (.int t), some (.int b), none] H
    refine seq_step fun R hR => ?_
    walk_at "rd"
    refine ite2 (fun h0 => ?_) fun hb => hR _ _ ?_
    · refine fun e he => ⟨c_NoRatio, none, upd_same, T.xc_NoRatio, ?_⟩
      rw [upd_upd]
      exact kx h0 e he
    have k := k hb
    rw [← fq_nrm hb] at k
    have hg : 0 < Sw.dv t b := Sw.dv_pos hb
    have hz : Sw.Sz 5000 (Sw.dv t b) := (sb.dvd (Sw.dv_r t b) hb).mono z5
    refine seq_step fun R hR => ?_
    walk_at "rd"
    refine hR _ _ ?_
    refine seq_step fun R hR => ?_
    have fin : ∀ c : Int, (c = Sw.dv t b ∧ ¬ b < 0) ∨ (c = -(Sw.dv t b) ∧ b < 0) → R [some (.int t), some (.int b), some (.int c)] H := fun c hc => by
      refine hR _ _ ?_
      walk_at "rd"
      have c0 : c ≠ 0 := by rcases hc with ⟨e, _⟩ | ⟨e, _⟩ <;> omega
      have cz : Sw.Sz 5000 c := by
        rcases hc with ⟨e, _⟩ | ⟨e, _⟩
        · rw [e]; exact hz
        · rw [e]; exact hz.neg
      have d1 : c ∣ t := by
        rcases hc with ⟨e, _⟩ | ⟨e, _⟩
        · rw [e]; exact Sw.dv_l t b
        · rw [e]; exact Int.neg_dvd.mpr (Sw.dv_l t b)
      have d2 : c ∣ b := by
        rcases hc with ⟨e, _⟩ | ⟨e, _⟩
        · rw [e]; exact Sw.dv_r t b
        · rw [e]; exact Int.neg_dvd.mpr (Sw.dv_r t b)
      have e1 : t.fdiv c = Sw.rN t b := by
        rw [Int.fdiv_eq_ediv_of_dvd d1]
        unfold Sw.rN
        rcases hc with ⟨e, q⟩ | ⟨e, q⟩
        · rw [if_neg q, e]
        · rw [if_pos q, e]
      have e2 : b.fdiv c = Sw.rD t b := by
        rw [Int.fdiv_eq_ediv_of_dvd d2]
        unfold Sw.rD
        rcases hc with ⟨e, q⟩ | ⟨e, q⟩
        · rw [if_neg q, e]
        · rw [if_pos q, e]
      rw [e1, e2]
      exact ⟨⟨c0, cz⟩, ⟨c0, cz⟩, k⟩
    walk_at "rds"
    exact ite2 (fun c => fin _ (.inr ⟨rfl, c⟩)) fun c => fin _ (.inl ⟨rfl, c⟩)
def spPlus : Sp := fun vs H Q _ => ∃ p q a b z, vs = [.ref p, .ref q] ∧ H p = some (.tup (fq a)) ∧ H q = some (.tup (fq b)) ∧ z ≤ 2400 ∧ Sw.SzQ z a ∧ Sw.SzQ z b ∧ ∀ r, H r = none → Q (.ref r) (upd H r (.tup (fq (a + b))))
theorem d_plus (T : Txt K mg c_WheelError c_NoRatio c_NoCurb c_Short c_Bucket) : Def P w K mg base (CXX P w) 3 "plus" ["one", "other"] spPlus := by
  have D_ratio := d_ratio (P := P) (w := w) (base := base) T
  refine T.src_plus.okN (k := 2) sc_plus (fun vs H Q E h => ?_) (fun f cdv A outer s H vs Q E hr h => ?_)
  · obtain ⟨p, q, a, b, z, rfl, _⟩ := h
    rfl
  · obtain ⟨p, q, a, b, z, rfl, hp, hq, hz, s1, s2, k⟩ := h
    refine ⟨_, (pss_one (ps_ret (pe_callX D_ratio (hr.mono (by decide)) rfl passN (pa_cons (pe_op op_add (pe_op op_mulL (pe_ix (ix_tupK K rfl) (pv 0) pe_int (fun _ _ => rfl)) (pe_ix (ix_tupK K rfl) (pv 1) pe_int (fun _ _ => rfl))) (pe_op op_mulL (pe_ix (ix_tupK K rfl) (pv 1) pe_int (fun _ _ => rfl)) (pe_ix (ix_tupK K rfl) (pv 0) pe_int (fun _ _ => rfl)))) (pa_cons (pe_op op_mulL (pe_ix (ix_tupK K rfl) (pv 0) pe_int (fun _ _ => rfl)) (pe_ix (ix_tupK K rfl) (pv 1) pe_int (fun _ _ => rfl))) pa_nil))))), ?_⟩
    show tRet _ _ [some (.ref p), some (.ref q)] H
    have hab := Int.mul_ne_zero (Sw.q_den_ne a) (Sw.q_den_ne b)
    walk_at "rd"
    refine ixT_at (.of hp) rfl (ixT_at (.of hq) rfl ?_)
    walk_at "rd"
    refine ⟨⟨s1.n.mono (by omega), s2.d.mono (by omega)⟩, ixT_at (.of hq) rfl (ixT_at (.of hp) rfl ?_)⟩
    walk_at "rd"
    refine ⟨⟨s2.n.mono (by omega), s1.d.mono (by omega)⟩, ixT_at (.of hp) rfl (ixT_at (.of hq) rfl ?_)⟩
    walk_at "rd"
    refine ⟨⟨s1.d.mono (by omega), s2.d.mono (by omega)⟩, _, _, z + z, rfl, by omega, s1.d.mul s2.d, fun _ => ?_, fun z => absurd z hab⟩
    rw [Sw.add_q]
    exact k
def spMinus : Sp := fun vs H Q _ => ∃ p q a b z, vs = [.ref p, .ref q] ∧ H p = some (.tup (fq a)) ∧ H q = some (.tup (fq b)) ∧ z ≤ 2400 ∧ Sw.SzQ z a ∧ Sw.SzQ z b ∧ ∀ r, H r = none → Q (.ref r) (upd H r (.tup (fq (a - b))))
theorem d_minus (T : Txt K mg c_WheelError c_NoRatio c_NoCurb c_Short c_Bucket) : Def P w K mg base (CXX P w) 3 "minus" ["one", "other"] spMinus := by
  have D_ratio := d_ratio (P := P) (w := w) (base := base) T
  refine T.src_minus.okN (k := 2) sc_minus (fun vs H Q E h => ?_) (fun f cdv A outer s H vs Q E hr h => ?_)
  · obtain ⟨p, q, a, b, z, rfl, _⟩ := h
    rfl
  · obtain ⟨p, q, a, b, z, rfl, hp, hq, hz, s1, s2, k⟩ := h
    refine ⟨_, (pss_one (ps_ret (pe_callX D_ratio (hr.mono (by decide)) rfl passN (pa_cons (pe_op op_sub (pe_op op_mulL (pe_ix (ix_tupK K rfl) (pv 0) pe_int (fun _ _ => rfl)) (pe_ix (ix_tupK K rfl) (pv 1) pe_int (fun _ _ => rfl))) (pe_op op_mulL (pe_ix (ix_tupK K rfl) (pv 1) pe_int (fun _ _ => rfl)) (pe_ix (ix_tupK K rfl) (pv 0) pe_int (fun _ _ => rfl)))) (pa_cons (pe_op op_mulL (pe_ix (ix_tupK K rfl) (pv 0) pe_int (fun _ _ => rfl)) (pe_ix (ix_tupK K rfl) (pv 1) pe_int (fun _ _ => rfl))) pa_nil))))), ?_⟩
    show tRet _ _ [some (.ref p), some (.ref q)] H
    have hab := Int.mul_ne_zero (Sw.q_den_ne a) (Sw.q_den_ne b)
    walk_at "rd"
    refine ixT_at (.of hp) rfl (ixT_at (.of hq) rfl ?_)
    walk_at "rd"
    refine ⟨⟨s1.n.mono (by omega), s2.d.mono (by omega)⟩, ixT_at (.of hq) rfl (ixT_at (.of hp) rfl ?_)⟩
    walk_at "rd"
    refine ⟨⟨s2.n.mono (by omega), s1.d.mono (by omega)⟩, ixT_at (.of hp) rfl (ixT_at (.of hq) rfl ?_)⟩
    walk_at "rd"
    refine ⟨⟨s1.d.mono (by omega), s2.d.mono (by omega)⟩, _, _, z + z, rfl, by omega, s1.d.mul s2.d, fun _ => ?_, fun z => absurd z hab⟩
    rw [Sw.sub_q]
    exact k
def spTimes : Sp := fun vs H Q _ => ∃ p q a b z, vs = [.ref p, .ref q] ∧ H p = some (.tup (fq a)) ∧ H q = some (.tup (fq b)) ∧ z ≤ 2400 ∧ Sw.SzQ z a ∧ Sw.SzQ z b ∧ ∀ r, H r = none → Q (.ref r) (upd H r (.tup (fq (a * b))))
theorem d_times (T : Txt K mg c_WheelError c_NoRatio c_NoCurb c_Short c_Bucket) : Def P w K mg base (CXX P w) 3 "times" ["one", "other"] spTimes := by
  have D_ratio := d_ratio (P := P) (w := w) (base := base) T
  refine T.src_times.okN (k := 2) sc_times (fun vs H Q E h => ?_) (fun f cdv A outer s H vs Q E hr h => ?_)
  · obtain ⟨p, q, a, b, z, rfl, _⟩ := h
    rfl
  · obtain ⟨p, q, a, b, z, rfl, hp, hq, hz, s1, s2, k⟩ := h
    refine ⟨_, (pss_one (ps_ret (pe_callX D_ratio (hr.mono (by decide)) rfl passN (pa_cons (pe_op op_mulL (pe_ix (ix_tupK K rfl) (pv 0) pe_int (fun _ _ => rfl)) (pe_ix (ix_tupK K rfl) (pv 1) pe_int (fun _ _ => rfl))) (pa_cons (pe_op op_mulL (pe_ix (ix_tupK K rfl) (pv 0) pe_int (fun _ _ => rfl)) (pe_ix (ix_tupK K rfl) (pv 1) pe_int (fun _ _ => rfl))) pa_nil))))), ?_⟩
    show tRet _ _ [some (.ref p), some (.ref q)] H
    have hab := Int.mul_ne_zero (Sw.q_den_ne a) (Sw.q_den_ne b)
    walk_at "rd"
    refine ixT_at (.of hp) rfl (ixT_at (.of hq) rfl ?_)
    walk_at "rd"
    refine ⟨⟨s1.n.mono (by omega), s2.n.mono (by omega)⟩, ixT_at (.of hp) rfl (ixT_at (.of hq) rfl ?_)⟩
    walk_at "rd"
    refine ⟨⟨s1.d.mono (by omega), s2.d.mono (by omega)⟩, _, _, z + z, rfl, by omega, s1.d.mul s2.d, fun _ => ?_, fun z => absurd z hab⟩
    rw [Sw.mul_q]
    exact k
def spUnder : Sp := fun vs H Q _ => ∃ p q a b, vs = [.ref p, .ref q] ∧ H p = some (.tup (fq a)) ∧ H q = some (.tup (fq b)) ∧ Sw.SzQ 5000 a ∧ Sw.SzQ 5000 b ∧ Q (.bl (decide (a < b))) H
theorem d_under (T : Txt K mg c_WheelError c_NoRatio c_NoCurb c_Short c_Bucket) : Def P w K mg base (CXX P w) 1 "under" ["one", "other"] spUnder := by
  refine T.src_under.okN (k := 0) sc_under (fun vs H Q E h => ?_) (fun f cdv A outer s H vs Q E hr h => ?_)
  · obtain ⟨p, q, a, b, rfl, _⟩ := h
    rfl
  · obtain ⟨p, q, a, b, rfl, hp, hq, s1, s2, k⟩ := h
    refine ⟨_, (pss_one (ps_ret (pe_cmpR op_lt (pe_op op_mulL (pe_ix (ix_tupK K rfl) (pv 0) pe_int (fun _ _ => rfl)) (pe_ix (ix_tupK K rfl) (pv 1) pe_int (fun _ _ => rfl))) (pe_op op_mulL (pe_ix (ix_tupK K rfl) (pv 1) pe_int (fun _ _ => rfl)) (pe_ix (ix_tupK K rfl) (pv 0) pe_int (fun _ _ => rfl))) (nomark _)))), ?_⟩
    show tRet _ _ [some (.ref p), some (.ref q)] H
    walk_at "rd"
    refine ixT_at (.of hp) rfl (ixT_at (.of hq) rfl ?_)
    walk_at "rd"
    refine ⟨⟨s1.n, s2.d⟩, ixT_at (.of hq) rfl (ixT_at (.of hp) rfl ?_)⟩
    walk_at "rd"
    refine ⟨⟨s2.n, s1.d⟩, ?_⟩
    rw [show decide (a.num * (b.den : Int) < b.num * (a.den : Int)) = decide (a < b) from decide_eq_decide.mpr Sw.q_lt]
    exact k
def spLesser : Sp := fun vs H Q _ => ∃ p q a b, vs = [.ref p, .ref q] ∧ H p = some (.tup (fq a)) ∧ H q = some (.tup (fq b)) ∧ Sw.SzQ 5000 a ∧ Sw.SzQ 5000 b ∧ ∀ r, H r = none → Q (.ref r) (upd H r (.tup (fq (min a b))))
theorem d_lesser (T : Txt K mg c_WheelError c_NoRatio c_NoCurb c_Short c_Bucket) : Def P w K mg base (CXX P w) 2 "lesser" ["one", "other"] spLesser := by
  have D_under := d_under (P := P) (w := w) (base := base) T
  refine T.src_lesser.okN (k := 1) sc_lesser (fun vs H Q E h => ?_) (fun f cdv A outer s H vs Q E hr h => ?_)
  · obtain ⟨p, q, a, b, rfl, _⟩ := h
    rfl
  · obtain ⟨p, q, a, b, rfl, hp, hq, s1, s2, k⟩ := h
    refine ⟨_, (pss_cons (ps_set (i := 2) sc_lesser.nd rfl (by first | exact Or.inl rfl | exact Or.inr rfl) (pe_ifExp (pt_val (pe_callX D_under (hr.mono (by decide)) rfl passN (pa_cons (pv 1) (pa_cons (pv 0) pa_nil)))) (pv 1) (pv 0))) (pss_one (ps_ret (pe_tup (pa_cons (pe_ix (ix_tupK K rfl) (pv 2) pe_int (fun _ _ => rfl)) (pa_cons (pe_ix (ix_tupK K rfl) (pv 2) pe_int (fun _ _ => rfl)) pa_nil)))))), ?_⟩
    show tSeq _ _ _ [some (.ref p), some (.ref q), none] H
    refine seq_step fun R hR => ?_
    have key : ∀ x c, H x = some (.tup (fq c)) → c = min a b → R [some (.ref p), some (.ref q), some (.ref x)] H := fun x c hx e => by
      refine hR _ _ ?_
      walk_at "rd"
      subst e
      exact ixT_at (.of hx) rfl (ixT_at (.of hx) rfl k)
    walk_at "rd"
    refine ⟨q, p, b, a, rfl, hq, hp, s2, s1, ?_⟩
    walk_at "rd"
    exact ite2 (fun h => key q b hq (by rw [Rat.min_def]; grind)) fun h => key p a hp (by rw [Rat.min_def]; grind)
def spAllowed : Sp := fun vs H Q _ => ∃ l p b r t, vs = [.ref l, .int t] ∧ H l = some (.tup [.int b, .ref p]) ∧ H p = some (.tup (fq r)) ∧ Sw.Sz 300 b ∧ Sw.Sz 300 t ∧ Sw.SzQ 300 r ∧ ∀ x H', Same H H' → H' x = some (.tup (fq ((b : Rat) + r * (t : Rat)))) → Q (.ref x) H'
theorem d_allowed (T : Txt K mg c_WheelError c_NoRatio c_NoCurb c_Short c_Bucket) : Def P w K mg base (CXX P w) 4 "allowed" ["line", "time"] spAllowed := by
  have D_plus := d_plus (P := P) (w := w) (base := base) T
  have D_times := d_times (P := P) (w := w) (base := base) T
  refine T.src_allowed.okN (k := 3) sc_allowed (fun vs H Q E h => ?_) (fun f cdv A outer s H vs Q E hr h => ?_)
  · obtain ⟨l, p, b, r, t, rfl, _⟩ := h
    rfl
  · obtain ⟨l, p, b, r, t, rfl, hl, hp, sb, st, sr, k⟩ := h
    refine ⟨_, (pss_one (ps_ret (pe_callX D_plus (hr.mono (by decide)) rfl passN (pa_cons (pe_tup (pa_cons (pe_ix (ix_tupK K rfl) (pv 0) pe_int (fun _ _ => rfl)) (pa_cons pe_int pa_nil))) (pa_cons (pe_callX D_times (hr.mono (by decide)) rfl passN (pa_cons (pe_ix (ix_tupK K rfl) (pv 0) pe_int (fun _ _ => rfl)) (pa_cons (pe_tup (pa_cons (pv 1) (pa_cons pe_int pa_nil))) pa_nil))) pa_nil))))), ?_⟩
    show tRet _ _ [some (.ref l), some (.int t)] H
    walk_at "rd"
    refine ixT_at (.of hl) rfl ?_
    walk_at "rd"
    intro x1 f1
    have s1 := same_new (o := .tup [.int b, .int 1]) f1
    refine ixT_at (.of (s1 _ _ hl)) rfl ?_
    walk_at "rd"
    intro x2 f2'
    have s2 := same_new (o := .tup [.int t, .int 1]) f2'
    have hp2 := s2 _ _ (s1 _ _ hp)
    have h1 := s2 _ _ (at_int (H := H) (p := x1) (n := b))
    have h2 := at_int (H := upd H x1 (.tup [.int b, .int 1])) (p := x2) (n := t)
    have sm := s1.trans s2
    generalize upd (upd H x1 (.tup [.int b, .int 1])) x2 (.tup [.int t, .int 1]) = H2 at hp2 h1 h2 sm ⊢
    refine ⟨p, x2, r, t, 300, rfl, hp2, h2, by decide, sr, .int st, fun x3 f3 => ?_⟩
    have s3 := same_new (o := .tup (fq (r * (t : Rat)))) f3
    refine ⟨x1, x3, b, r * (t : Rat), 600, rfl, s3 _ _ h1, upd_same, by decide, (Sw.SzQ.int sb).mono (by decide), (sr.mul (.int st)).mono (by decide), fun x4 f4 => ?_⟩
    exact k x4 _ ((sm.trans s3).trans (same_new f4)) upd_same
theorem i_Short (T : Txt K mg c_WheelError c_NoRatio c_NoCurb c_Short c_Bucket) : MkX P w K mg base (CXX P w) 1 c_Short ["self", "missing"] (spI1 c_Short "missing") := by
  refine T.in_Short.ok (k := 0) sc_Short_init (fun vs H Q E h => ?_) (fun f cdv A outer s H vs Q E hr h => ?_)
  · obtain ⟨e, y, rfl, _⟩ := h
    rfl
  · obtain ⟨e, y, rfl, he, k⟩ := h
    exact ⟨_, (pss_one (ps_xfld K rfl (pv 0) (pv 1) rfl)), i1_at he T.xc_Short T.tk_Short_missing k⟩
def spBI (cN C : Addr) : Sp := fun vs H Q E => ∃ x dx d pr r s, vs = [.ref x, .int d, .ref pr, .int s] ∧ H x = some (.ins C dx []) ∧ H pr = some (.tup (fq r)) ∧ Sw.SzQ 5000 r ∧
  (1 ≤ d ∧ 0 ≤ r → ∀ H', But x H H' → Bk C H' x d r s (d : Rat) → Q .non H') ∧
  (¬ (1 ≤ d ∧ 0 ≤ r) → ∀ e H1, Same H H1 → H1 e = none → E (.ref e) none (upd H1 e (excO e cN none false)))
theorem k_Bucket (T : Txt K mg c_WheelError c_NoRatio c_NoCurb c_Short c_Bucket) : MkD P w K mg base (CXX P w) 3 c_Bucket ["self", "depth", "rate", "start"] [[], [V.int 0]] (spBI c_NoCurb c_Bucket) := by
  have D_under := d_under (P := P) (w := w) (base := base) T
  have D_ratio := d_ratio (P := P) (w := w) (base := base) T
  refine T.in_Bucket.okX (k := 2) sc_Bucket_init (fun vs H Q E h => ?_) (fun f cdv A outer s H vs Q E hr h => ?_)
  · obtain ⟨x, dx, d, pr, r, s, rfl, _⟩ := h
    rfl
  · obtain ⟨x, dx, d, pr, r, st, rfl, hx, hpr, sr, k, kx⟩ := h
    refine ⟨_, (pss_cons (ps_if (pt_cmpR op_lt (pv 1) pe_int (nomark _)) (pss_one (ps_raise K rfl rfl raiseF (pe_xmk T.ex_NoCurb T.kp_NoCurb rfl T.mg_NoCurb (pa_cons pe_str pa_nil)))) pss_nil) (pss_cons (ps_if (pt_val (pe_callX D_under (hr.mono (by decide)) rfl passF (pa_cons (pv 2) (pa_cons (pe_tup (pa_cons pe_int (pa_cons pe_int pa_nil))) pa_nil)))) (pss_one (ps_raise K rfl rfl raiseF (pe_xmk T.ex_NoCurb T.kp_NoCurb rfl T.mg_NoCurb (pa_cons pe_str pa_nil)))) pss_nil) (pss_cons (ps_fld (pv 0) (pv 1) rfl) (pss_cons (ps_fld (pv 0) (pv 2) rfl) (pss_cons (ps_fld (pv 0) (pv 3) rfl) (pss_one (ps_fld (pv 0) (pe_callX D_ratio (hr.mono (by decide)) rfl passF (pa_cons (pv 1) (pa_cons pe_int pa_nil))) rfl))))))), ?_⟩
    show tSeq _ _ _ [some (.ref x), some (.int d), some (.ref pr), some (.int st)] H
    refine seq_step fun R hR => ?_
    have tail : 1 ≤ d → R [some (.ref x), some (.int d), some (.ref pr), some (.int st)] H := fun hd => by
      refine hR _ _ ?_
      refine seq_step fun R hR => ?_
      walk_at "rd"
      intro t ht
      refine ⟨pr, t, r, 0, rfl, same_new ht _ _ hpr, at_int (n := 0), sr, szq_int (Sw.Sz.zero _), ?_⟩
      walk_at "rd"
      refine ite2 (fun h e he => ⟨c_NoCurb, none, upd_same, T.xc_NoCurb, ?_⟩) (fun h => hR _ _ ?_)
      · rw [upd_upd]
        exact kx (fun z => by grind) e _ (same_new ht) he
      · have s1 := same_new (o := .tup [.int 0, .int 1]) ht
        have hx := s1 _ _ hx
        have hpr := s1 _ _ hpr
        generalize upd H t (.tup [.int 0, .int 1]) = H1 at s1 hx hpr ⊢
        have np : pr ≠ x := ne_of hpr hx (by intro w; cases w)
        refine seq_step fun R hR => ?_
        walk_at "rd"
        refine set_at hx T.cl_Bucket T.na_Bucket_depth (by simp) (hR _ _ ?_)
        refine seq_step fun R hR => ?_
        walk_at "rd"
        refine set_at upd_same T.cl_Bucket T.na_Bucket_rate (by have := putF_len' (fs := []) (f := "depth") (v := .int d); simp only [List.length_nil] at this; omega) (hR _ _ ?_)
        rw [upd_upd]
        refine seq_step fun R hR => ?_
        walk_at "rd"
        have l1 := putF_len' (fs := []) (f := "depth") (v := .int d)
        have l2 := putF_len' (fs := putF "depth" (.int d) []) (f := "rate") (v := .ref pr)
        have l3 := putF_len' (fs := putF "rate" (.ref pr) (putF "depth" (.int d) [])) (f := "since") (v := .int st)
        simp only [List.length_nil] at l1
        refine set_at upd_same T.cl_Bucket T.na_Bucket_since (by omega) (hR _ _ ?_)
        rw [upd_upd]
        walk_at "rd"
        refine ⟨d, 1, 1, rfl, by decide, Sw.Sz.one _, fun _ p hp => ?_, fun z => absurd z (by decide)⟩
        have nx : x ≠ p := by
          intro z
          rw [z, upd_same] at hp
          cases hp
        walk_at "rd"
        refine set_at (C := c_Bucket) (dx := dx) (fs := putF "since" (.int st) (putF "rate" (.ref pr) (putF "depth" (.int d) []))) (by rw [upd_ne nx, upd_same]) T.cl_Bucket T.na_Bucket_left (by omega) ?_
        refine k ⟨hd, by grind⟩ _ (fun b o n e => ?_) ⟨dx, _, pr, p, upd_same, FB.mk0 d pr st p, ?_, ?_⟩
        · have e1 := s1 _ _ e
          rw [upd_ne n, upd_ne, upd_ne n]
          · exact e1
          · intro z
            rw [upd_ne (Ne.symm nx)] at hp
            rw [z, hp] at e1
            cases e1
        · rw [upd_ne np, upd_ne, upd_ne np]
          · exact hpr
          · intro z
            rw [upd_ne (Ne.symm nx)] at hp
            rw [z, hp] at hpr
            cases hpr
        · rw [upd_ne (Ne.symm nx), upd_same]
          have : ((d : Int) : Rat) / ((1 : Int) : Rat) = (d : Rat) := by
            have : ((1 : Int) : Rat) = 1 := rfl
            rw [this]; grind
          rw [this]
    walk_at "rd"
    refine ite2 (fun h e he => ⟨c_NoCurb, none, upd_same, T.xc_NoCurb, ?_⟩) (fun h => tail (by omega))
    rw [upd_upd]
    exact kx (fun z => by omega) e _ (Same.refl _) he
theorem m_Bucket_level (T : Txt K mg c_WheelError c_NoRatio c_NoCurb c_Short c_Bucket) : MethD P w K mg base (CXX P w) 4 c_Bucket "level" ["self", "at"] [[]] (spLevel c_Bucket) := by
  have D_plus := d_plus (P := P) (w := w) (base := base) T
  have D_times := d_times (P := P) (w := w) (base := base) T
  have D_lesser := d_lesser (P := P) (w := w) (base := base) T
  refine T.me_Bucket_level.okN (k := 3) sc_Bucket_level (fun vs H Q E h => ?_) (fun f cdv A outer s H vs Q E hr h => ?_)
  · obtain ⟨p, t, d, r, s, l, rfl, _⟩ := h
    rfl
  · obtain ⟨p, t, d, r, st, l, rfl, B, z, zt, k⟩ := h
    refine ⟨_, (pss_cons (ps_set (i := 2) sc_Bucket_level.nd rfl (by first | exact Or.inl rfl | exact Or.inr rfl) (pe_callX D_plus (hr.mono (by decide)) rfl passN (pa_cons (pe_fld (pv 0) rfl) (pa_cons (pe_callX D_times (hr.mono (by decide)) rfl passN (pa_cons (pe_fld (pv 0) rfl) (pa_cons (pe_tup (pa_cons (pe_op op_sub (pv 1) (pe_fld (pv 0) rfl)) (pa_cons pe_int pa_nil))) pa_nil))) pa_nil)))) (pss_one (ps_ret (pe_callX D_lesser (hr.mono (by decide)) rfl passN (pa_cons (pv 2) (pa_cons (pe_tup (pa_cons (pe_fld (pv 0) rfl) (pa_cons pe_int pa_nil))) pa_nil)))))), ?_⟩
    show tSeq _ _ _ [some (.ref p), some (.int t), none] H
    obtain ⟨dx, fs, pr, pl, hp, fb, hr', hl⟩ := id B.ex
    refine seq_step fun R hR => ?_
    walk_at "rd"
    refine fldR_at hp T.cl_Bucket T.na_Bucket_left fb.lef (fldR_at hp T.cl_Bucket T.na_Bucket_rate fb.rat (fldR_at hp T.cl_Bucket T.na_Bucket_since fb.sin ?_))
    walk_at "rd"
    intro x1 f1
    have s1 := same_new (o := .tup [.int (t - st), .int 1]) f1
    have h1 := at_int (H := H) (p := x1) (n := t - st)
    have hp := s1 _ _ hp
    have hr' := s1 _ _ hr'
    have hl := s1 _ _ hl
    generalize upd H x1 (.tup [.int (t - st), .int 1]) = H1 at s1 h1 hp hr' hl ⊢
    refine ⟨pr, x1, r, (t - st : Int), 300, rfl, hr', h1, by decide, z.r, .int zt, fun x2 f2' => ?_⟩
    have s2 := same_new (o := .tup (fq (r * ((t - st : Int) : Rat)))) f2'
    refine ⟨pl, x2, l, r * ((t - st : Int) : Rat), 600, rfl, s2 _ _ hl, upd_same, by decide, z.l.mono (by decide), (z.r.mul (.int zt)).mono (by decide), fun x3 f3 => hR _ _ ?_⟩
    have s3 := same_new (o := .tup (fq (l + r * ((t - st : Int) : Rat)))) f3
    have sm := (s1.trans s2).trans s3
    have hp := s3 _ _ (s2 _ _ hp)
    have h3 : upd (upd H1 x2 (.tup (fq (r * ((t - st : Int) : Rat))))) x3 (.tup (fq (l + r * ((t - st : Int) : Rat)))) x3 = some (.tup (fq (l + r * ((t - st : Int) : Rat)))) := upd_same
    generalize upd (upd H1 x2 (.tup (fq (r * ((t - st : Int) : Rat))))) x3 (.tup (fq (l + r * ((t - st : Int) : Rat)))) = H3 at sm hp h3 ⊢
    walk_at "rd"
    refine fldR_at hp T.cl_Bucket T.na_Bucket_depth fb.dep ?_
    walk_at "rd"
    intro x4 f4
    have s4 := same_new (o := .tup [.int d, .int 1]) f4
    refine ⟨x3, x4, _, d, rfl, s4 _ _ h3, at_int, (z.l.add (z.r.mul (.int zt))).mono (by decide), (Sw.SzQ.int z.d).mono (by decide), fun x5 f5 => ?_⟩
    exact k x5 _ ((sm.trans s4).trans (same_new f5)) upd_same
theorem m_Bucket_holds (T : Txt K mg c_WheelError c_NoRatio c_NoCurb c_Short c_Bucket) : MethD P w K mg base (CXX P w) 5 c_Bucket "holds" ["self", "at", "length"] [[]] (spHolds c_Bucket) := by
  have M_Bucket_level := m_Bucket_level (P := P) (w := w) (base := base) T
  have D_under := d_under (P := P) (w := w) (base := base) T
  refine T.me_Bucket_holds.okN (k := 4) sc_Bucket_holds (fun vs H Q E h => ?_) (fun f cdv A outer s H vs Q E hr h => ?_)
  · obtain ⟨p, t, n, d, r, s, l, rfl, _⟩ := h
    rfl
  · obtain ⟨p, t, n, d, r, st, l, rfl, B, z, zt, zn, k⟩ := h
    refine ⟨_, (pss_one (ps_ret (pe_not (pe_callX D_under (hr.mono (by decide)) rfl passN (pa_cons (pe_methX (dvs := []) M_Bucket_level (by simp) T.cl_Bucket (hr.mono (by decide)) passN (pv 0) (pa_cons (pv 1) pa_nil)) (pa_cons (pe_tup (pa_cons (pv 2) (pa_cons pe_int pa_nil))) pa_nil)))))), ?_⟩
    show tRet _ _ [some (.ref p), some (.int t), some (.int n)] H
    obtain ⟨dx, fs, pr, pl, hp, fb, hr', hl⟩ := id B.ex
    walk_at "rd"
    refine meth_at hp (fb.no _ (by decide +kernel) (by decide +kernel) (by decide +kernel) (by decide +kernel)) ?_
    walk_at "rd"
    refine ⟨p, t, d, r, st, l, rfl, B, z, zt, fun q H1 s1 hq => ?_⟩
    walk_at "rd"
    intro x f1
    refine ⟨q, x, _, n, rfl, same_new f1 _ _ hq, at_int, (lvl_sz z zt).mono (by decide), (Sw.SzQ.int zn).mono (by decide), ?_⟩
    walk_at "rd"
    exact k _ (s1.trans (same_new f1))
theorem m_Bucket_pay (T : Txt K mg c_WheelError c_NoRatio c_NoCurb c_Short c_Bucket) : MethD P w K mg base (CXX P w) 5 c_Bucket "pay" ["self", "at", "length"] [[]] (spPay c_Short c_Bucket) := by
  have M_Bucket_level := m_Bucket_level (P := P) (w := w) (base := base) T
  have D_under := d_under (P := P) (w := w) (base := base) T
  have D_minus := d_minus (P := P) (w := w) (base := base) T
  have I_Short := i_Short (P := P) (w := w) (base := base) T
  refine T.me_Bucket_pay.okX (k := 4) sc_Bucket_pay (fun vs H Q E h => ?_) (fun f cdv A outer s H vs Q E hr h => ?_)
  · obtain ⟨p, t, n, d, r, s, l, rfl, _⟩ := h
    rfl
  · obtain ⟨p, t, n, d, r, st, l, rfl, B, z, zt, zn, k, kx⟩ := h
    refine ⟨_, (pss_cons (ps_set (i := 3) sc_Bucket_pay.nd rfl (by first | exact Or.inl rfl | exact Or.inr rfl) (pe_callX D_minus (hr.mono (by decide)) rfl passF (pa_cons (pe_methX (dvs := []) M_Bucket_level (by simp) T.cl_Bucket (hr.mono (by decide)) passF (pv 0) (pa_cons (pv 1) pa_nil)) (pa_cons (pe_tup (pa_cons (pv 2) (pa_cons pe_int pa_nil))) pa_nil)))) (pss_cons (ps_if (pt_val (pe_callX D_under (hr.mono (by decide)) rfl passF (pa_cons (pv 3) (pa_cons (pe_tup (pa_cons pe_int (pa_cons pe_int pa_nil))) pa_nil)))) (pss_one (ps_raise K rfl rfl raiseF (pe_xmk1 I_Short T.xc_Short T.kp_Short (hr.mono (by decide)) passN rfl T.mg_Short (pa_cons (pe_callX D_minus (hr.mono (by decide)) rfl passF (pa_cons (pe_tup (pa_cons pe_int (pa_cons pe_int pa_nil))) (pa_cons (pv 3) pa_nil))) pa_nil)))) pss_nil) (pss_cons (ps_fld (pv 0) (pv 1) rfl) (pss_one (ps_fld (pv 0) (pv 3) rfl))))), ?_⟩
    show tSeq _ _ _ [some (.ref p), some (.int t), some (.int n), none] H
    obtain ⟨dx, fs, pr, pl, hp, fb, hr', hl⟩ := id B.ex
    have zl := lvl_sz z zt
    refine seq_step fun R hR => ?_
    walk_at "rd"
    refine meth_at hp (fb.no _ (by decide +kernel) (by decide +kernel) (by decide +kernel) (by decide +kernel)) ?_
    walk_at "rd"
    refine ⟨p, t, d, r, st, l, rfl, B, z, zt, fun q H1 s1 hq => ?_⟩
    generalize Sw.lvl d r st l t = v at zl k kx hq
    walk_at "rd"
    intro x f1
    have s2 := same_new (o := .tup [.int n, .int 1]) f1
    refine ⟨q, x, v, n, 1000, rfl, s2 _ _ hq, at_int, by decide, zl, (Sw.SzQ.int zn).mono (by decide), fun y f2' => hR _ _ ?_⟩
    have s3 := same_new (o := .tup (fq (v - (n : Rat)))) f2'
    have sm := (s1.trans s2).trans s3
    have hy : upd (upd H1 x (.tup [.int n, .int 1])) y (.tup (fq (v - (n : Rat)))) y = some (.tup (fq (v - (n : Rat)))) := upd_same
    generalize upd (upd H1 x (.tup [.int n, .int 1])) y (.tup (fq (v - (n : Rat)))) = H2 at sm hy ⊢
    have zr : Sw.SzQ 2000 (v - (n : Rat)) := (zl.sub (.int zn)).mono (by decide)
    refine seq_step fun R hR => ?_
    walk_at "rd"
    intro x2 f3
    have s4 := same_new (o := .tup [.int 0, .int 1]) f3
    refine ⟨y, x2, v - (n : Rat), 0, rfl, s4 _ _ hy, at_int (n := 0), zr.mono (by decide), szq_int (Sw.Sz.zero _), ?_⟩
    have sm := sm.trans s4
    have hy := s4 _ _ hy
    generalize upd H2 x2 (.tup [.int 0, .int 1]) = H3 at sm hy ⊢
    walk_at "rd"
    refine ite2 (fun h => ?_) fun h => hR _ _ ?_
    · intro x3 f4
      have s5 := same_new (o := .tup [.int 0, .int 1]) f4
      refine ⟨x3, y, 0, v - (n : Rat), 2000, rfl, at_int (n := 0), s5 _ _ hy, by decide, ⟨Sw.Sz.zero _, Sw.Sz.one _⟩, zr, fun pm f5 => ?_⟩
      have s6 := same_new (o := .tup (fq (0 - (v - (n : Rat))))) f5
      have sm := (sm.trans s5).trans s6
      have hm : upd (upd H3 x3 (.tup [.int 0, .int 1])) pm (.tup (fq (0 - (v - (n : Rat))))) pm = some (.tup (fq ((n : Rat) - v))) := by
        rw [upd_same, show (0 - (v - (n : Rat))) = (n : Rat) - v by grind]
      generalize upd (upd H3 x3 (.tup [.int 0, .int 1])) pm (.tup (fq (0 - (v - (n : Rat))))) = H4 at sm hm ⊢
      refine mk1 fun e x H5 X => ⟨_, _, X.he, T.xc_Short, kx (by grind) e x pm _ (fun b o w => ?_) upd_same ?_ ?_⟩
      · have w1 := sm _ _ w
        rw [upd_ne (ne_of_none w1 X.fe)]
        exact X.sm _ _ w1
      · rw [upd_ne X.ne]; exact X.hd
      · rw [upd_ne (ne_of_none hm X.fe)]
        exact X.sm _ _ hm
    · have hp := sm _ _ hp
      refine seq_step fun R hR => ?_
      walk_at "rd"
      refine set_at hp T.cl_Bucket T.na_Bucket_since (by have := fb.len; omega) (hR _ _ ?_)
      walk_at "rd"
      refine set_at upd_same T.cl_Bucket T.na_Bucket_left (by rw [putF_len fb.sin]; have := fb.len; omega) ?_
      rw [upd_upd]
      have ny : y ≠ p := ne_of hy hp (by intro w; cases w)
      have np : pr ≠ p := ne_of (sm _ _ hr') hp (by intro w; cases w)
      exact k (by grind) _ (fun b o nb e => by rw [upd_ne nb]; exact sm _ _ e) ⟨dx, _, pr, y, upd_same, fb.pay, by rw [upd_ne np]; exact sm _ _ hr', by rw [upd_ne ny]; exact hy⟩
def spOf : Sp := fun vs H Q _ => ∃ l ps qs who, vs = [.ref l, .int who] ∧ Row H l ps qs ∧ qs.length ≤ 63 ∧ ∀ D H', Same H H' → H D = none → H' D = some (.lst ((plcs qs who qs.length).map natV)) → Q (.ref D) H'
theorem d_of_sender (T : Txt K mg c_WheelError c_NoRatio c_NoCurb c_Short c_Bucket) : Def P w K mg base (CXX P w) 1 "of_sender" ["row", "who"] spOf := by
  refine T.src_of_sender.okN (k := 0) sc_of_sender (fun vs H Q E h => ?_) (fun f cdv A outer s H vs Q E hr h => ?_)
  · obtain ⟨l, ps, qs, who, rfl, _⟩ := h
    rfl
  · obtain ⟨l, ps, qs, who, rfl, R, hlen, k⟩ := h
    refine ⟨_, (pss_one (ps_ret (pe_lc ["place", "piece"] [("who", 1)] rfl (by with_unfolding_all rfl) (by decide +kernel) rfl (by decide +kernel) (by exact ⟨rfl, True.intro⟩) (by with_unfolding_all rfl) ⟨⟨rfl, rfl, rfl⟩, True.intro⟩ (pi_enumK K rfl rfl T.no_enumerate (pa_cons (pv 0) pa_nil)) (fun _ _ _ => (pg_tupK (n := 2) K rfl rfl (pgs_cons (pg_name (i := 0) (show (["place", "piece", "who"] : List Str).Nodup from by decide +kernel) rfl (by first | exact Or.inl rfl | exact Or.inr rfl)) (pgs_cons (pg_name (i := 1) (show (["place", "piece", "who"] : List Str).Nodup from by decide +kernel) rfl (by first | exact Or.inl rfl | exact Or.inr rfl)) pgs_nil)))) (fun _ _ _ => (pifs_one (pt_cmpR op_eq (pe_ix (ix_tupK K rfl) (pv 1) pe_int (fun _ _ => rfl)) (pv 2) (nomark _)))) (fun _ _ _ => (pv 0))))), ?_⟩
    show tRet _ _ [some (.ref l), some (.int who)] H
    walk_at "rd"
    refine ⟨⟨_, .of R.hl⟩, fun D hD => ?_⟩
    refine comp_enum (xs := ps.map V.ref) (fun i τ H' => (∃ v1 v2, τ = [v1, v2, some (.int who)]) ∧ Same H H' ∧ H' D = some (.lst ((plcs qs who i).map natV))) ⟨⟨none, none, rfl⟩, same_new hD, upd_same⟩ (fun i τ H' _ ⟨_, sm, _⟩ => .of (sm _ _ R.hl)) ?_ ?_
    · rintro i x τ H' p hx ⟨⟨v1, v2, rfl⟩, sm, hl⟩ hp
      obtain ⟨pp, hpp, rfl⟩ : ∃ p, ps[i]? = some p ∧ V.ref p = x := by simpa using hx
      obtain ⟨q, hq, ht⟩ := R.r.get hpp
      have hi : i < qs.length := (List.getElem?_eq_some_iff.mp hq).1
      have sm2 := same_new (o := .tup [.int i, .ref pp]) hp
      have hT : SqT K (upd H' p (.tup [.int i, .ref pp])) pp (q4 q) := .of (sm2 _ _ (sm _ _ ht))
      have hm : mine qs who i = decide (q.2.1 = who) := by unfold mine; rw [hq]; simp
      refine ⟨p, _, rfl, .of upd_same, rfl, ?_⟩
      walk_at "rd"
      refine ixT_at hT rfl ?_
      walk_at "rd"
      have hlD := sm2 _ _ hl
      have e := plcs_succ qs who i
      refine ite2 (fun c => ⟨_, hlD, line_lt ?_, fun b o z => ?_, ?_⟩) fun c => ⟨sm.trans sm2, ?_⟩
      · have := plcs_len qs who i
        rw [List.length_map]; omega
      · rw [upd_ne (ne_of_none z hD)]; exact sm2 _ _ (sm _ _ z)
      · rw [upd_same, e, hm, decide_eq_true c]
        simp [natV]
      · rw [hlD, e, hm, decide_eq_false c]
        simp
    · rintro τ H' ⟨_, sm, hl⟩
      rw [List.length_map, R.r.len] at hl
      exact k D H' sm hD hl
def spBF : Sp := fun vs H Q _ => ∃ (l : Addr) (ps : List Addr) (qs : List Q4) (pl : Addr) (js : List Nat) (jl : Nat) (ln pr : Addr) (b : Int) (r : Rat), vs = [.ref l, .ref pl, .ref ln] ∧ Row H l ps qs ∧ H pl = some (.lst (js.map natV)) ∧ js.getLast? = some jl ∧ (∀ j ∈ js, j < qs.length) ∧ js.length ≤ 63 ∧ Small qs ∧ H ln = some (.tup [.int b, .ref pr]) ∧ H pr = some (.tup (fq r)) ∧ Sw.Sz 200 b ∧ Sw.SzQ 200 r ∧
  ∀ H', Same H H' → Q (optN (scanF qs b r ((qs[jl]?).getD (0, 0, 0, 0)).1 0 js.reverse)) H'
theorem d_breaking_first (T : Txt K mg c_WheelError c_NoRatio c_NoCurb c_Short c_Bucket) : Def P w K mg base (CXX P w) 5 "breaking_first" ["row", "places", "line"] spBF := by
  have D_under := d_under (P := P) (w := w) (base := base) T
  have D_allowed := d_allowed (P := P) (w := w) (base := base) T
  refine T.src_breaking_first.okN (k := 4) sc_breaking_first (fun vs H Q E h => ?_) (fun f cdv A outer s H vs Q E hr h => ?_)
  · obtain ⟨l, ps, qs, pl, js, jl, ln, pr, b, r, rfl, _⟩ := h
    rfl
  · obtain ⟨l, ps, qs, pl, js, jl, ln, pr, b, r, rfl, R0, hpl, hjl, hj, lj, sm0, hln, hpr, zb, zr, k⟩ := h
    refine ⟨_, (pss_cons (ps_set (i := 3) sc_breaking_first.nd rfl (by first | exact Or.inl rfl | exact Or.inr rfl) (pe_ix (ix_tupK K rfl) (pe_ix (ix_listK K rfl) (pv 0) (pe_ix (ix_listK K rfl) (pv 1) (pe_un un_neg pe_int) (fun _ _ => rfl)) (fun _ _ => rfl)) pe_int (fun _ _ => rfl))) (pss_cons (ps_set (i := 4) sc_breaking_first.nd rfl (by first | exact Or.inl rfl | exact Or.inr rfl) pe_int) (pss_cons (ps_for PassesOwn.never rfl (pi_rev K rfl rfl T.no_reversed (pa_cons (pv 1) pa_nil)) (pg_name (i := 5) sc_breaking_first.nd rfl (by first | exact Or.inl rfl | exact Or.inr rfl)) (pss_cons (ps_set (i := 4) sc_breaking_first.nd rfl (by first | exact Or.inl rfl | exact Or.inr rfl) (pe_op op_add (pv 4) (pe_ix (ix_tupK K rfl) (pe_ix (ix_listK K rfl) (pv 0) (pv 5) (fun _ _ => rfl)) pe_int (fun _ _ => rfl)))) (pss_one (ps_if (pt_val (pe_callX D_under (hr.mono (by decide)) rfl passN (pa_cons (pe_callX D_allowed (hr.mono (by decide)) rfl passN (pa_cons (pv 2) (pa_cons (pe_op op_sub (pv 3) (pe_ix (ix_tupK K rfl) (pe_ix (ix_listK K rfl) (pv 0) (pv 5) (fun _ _ => rfl)) pe_int (fun _ _ => rfl))) pa_nil))) (pa_cons (pe_tup (pa_cons (pv 4) (pa_cons pe_int pa_nil))) pa_nil)))) (pss_one (ps_ret (pv 5))) pss_nil)))) (pss_one (ps_ret pe_non))))), ?_⟩
    show tSeq _ _ _ [some (.ref l), some (.ref pl), some (.ref ln), none, none, none] H
    have len := R0.r.len
    have item : ∀ j, j < qs.length → ∃ p q, atI (ps.map V.ref) (j : Int) = some (.ref p) ∧ qs[j]? = some q ∧ H p = some (.tup (q4 q)) := fun j hj => by
      have h1 : ps[j]? = some ps[j] := List.getElem?_eq_getElem (by omega)
      obtain ⟨q, h2, h3⟩ := R0.r.get h1
      exact ⟨ps[j], q, atI_nat (by rw [List.getElem?_map, h1]; rfl), h2, h3⟩
    have hlast : js ≠ [] := fun z => by rw [z] at hjl; cases hjl
    have jlm : jl ∈ js := List.mem_of_getLast? hjl
    obtain ⟨pL, qL, aL, eL, hL⟩ := item jl (hj jl jlm)
    have zL := sm0 qL (List.mem_of_getElem? eL)
    rw [eL] at k
    replace k : ∀ H', Same H H' → Q (optN (scanF qs b r qL.1 0 js.reverse)) H' := k
    refine seq_step fun R hR => ?_
    walk_at "rd"
    refine ixL_at (.of hpl) (v := natV jl) ?_ ?_
    · rw [List.getLast?_eq_getElem?] at hjl
      have hl0 : js.length ≠ 0 := fun z => hlast (List.length_eq_zero_iff.mp z)
      unfold atI ixN
      rw [if_neg (by decide), List.length_map, if_pos (by omega)]
      show (List.map natV js)[((js.length : Int) + -1).toNat]? = _
      rw [show ((js.length : Int) + -1).toNat = js.length - 1 by omega, List.getElem?_map, hjl]
      rfl
    refine ixL_at (.of R0.hl) aL (ixT_at (.of hL) rfl (hR _ _ ?_))
    refine seq_step fun R hR => ?_
    walk_at "rd"
    refine hR _ _ ?_
    refine seq_step fun R hR => ?_
    refine for_step fun Z hZ => ?_
    walk_at "rd"
    refine ⟨_, .of hpl, hZ _ _ ?_⟩
    refine for_rev (K := K) (a := pl) (xs := js.map natV) (fun i σ H' => Same H H' ∧ ∃ acc v, σ = [some (.ref l), some (.ref pl), some (.ref ln), some (.int qL.1), some (.int acc), v] ∧ 0 ≤ acc ∧ acc ≤ i * 1000000000 ∧ scanF qs b r qL.1 0 js.reverse = scanF qs b r qL.1 acc (js.reverse.drop i)) ⟨Same.refl _, 0, none, rfl, Int.le_refl _, by omega, rfl⟩ (fun i σ H' _ q => .of (q.1 _ _ hpl)) ?_ ?_
    · rintro i x σ H1 hx ⟨sm, acc, v, rfl, a0, a1, es⟩
      obtain ⟨j, hjx, rfl⟩ : ∃ j, js.reverse[i]? = some j ∧ natV j = x := by
        rw [← List.map_reverse, List.getElem?_map] at hx
        cases e : js.reverse[i]? with
        | none => rw [e] at hx; cases hx
        | some z => rw [e] at hx; exact ⟨z, rfl, Option.some.inj hx⟩
      have hi : i < js.length := by have := (List.getElem?_eq_some_iff.mp hjx).1; simpa using this
      have hjm : j ∈ js := by have := List.mem_of_getElem? hjx; simpa using this
      obtain ⟨p, q, ap, eq, hp⟩ := item j (hj j hjm)
      have zq := sm0 q (List.mem_of_getElem? eq)
      rw [Sw.drop_get hjx] at es
      have es2 : scanF qs b r qL.1 0 js.reverse = (if (b : Rat) + r * ((qL.1 - q.1 : Int) : Rat) < ((acc + q.2.2.1 : Int) : Rat) then some j else scanF qs b r qL.1 (acc + q.2.2.1) (js.reverse.drop (i + 1))) := by
        rw [es]
        show (if (b : Rat) + r * ((qL.1 - ((qs[j]?).getD (0, 0, 0, 0)).1 : Int) : Rat) < ((acc + ((qs[j]?).getD (0, 0, 0, 0)).2.2.1 : Int) : Rat) then some j else scanF qs b r qL.1 (acc + ((qs[j]?).getD (0, 0, 0, 0)).2.2.1) (js.reverse.drop (i + 1))) = _
        rw [eq]
        rfl
      have hp1 := sm _ _ hp
      have hl1 := sm _ _ R0.hl
      show tSeq _ _ _ [some (.ref l), some (.ref pl), some (.ref ln), some (.int qL.1), some (.int acc), some (.int j)] H1
      refine seq_step fun R' hR' => ?_
      walk_at "rd"
      refine ixL_at (.of hl1) ap (ixT_at (.of hp1) rfl ⟨_, rfl, hR' _ _ ?_⟩)
      refine nx_step fun R' hR' => ?_
      walk_at "rd"
      refine ixL_at (.of hl1) ap (ixT_at (.of hp1) rfl ?_)
      walk_at "rd"
      have zt : Sw.Sz 70 (qL.1 - q.1) := Sw.Sz.r18 (by omega) (by omega)
      have zc : Sw.Sz 70 (acc + q.2.2.1) := Sw.Sz.r18 (by omega) (by omega)
      refine ⟨ln, pr, b, r, qL.1 - q.1, rfl, sm _ _ hln, sm _ _ hpr, zb.mono (by decide), zt.mono (by decide), zr.mono (by decide), fun y H2 s2 hy => ?_⟩
      walk_at "rd"
      intro y2 f2'
      have n2 := same_new (o := .tup [.int (acc + q.2.2.1), .int 1]) f2'
      refine ⟨y, y2, _, (acc + q.2.2.1 : Int), rfl, n2 _ _ hy, at_int, ((Sw.SzQ.int zb).add (zr.mul (.int zt))).mono (by decide), (Sw.SzQ.int zc).mono (by decide), ?_⟩
      walk_at "rd"
      refine ite2 (fun h => ?_) fun h => hR' _ _ ⟨(sm.trans s2).trans n2, acc + q.2.2.1, _, rfl, by omega, by omega, by rw [es2, if_neg h]⟩
      have := k _ ((sm.trans s2).trans n2)
      rw [es2, if_pos h] at this
      exact this
    · rintro σ H1 ⟨sm, acc, v, rfl, a0, a1, es⟩
      refine hR _ _ ?_
      walk_at "rd"
      have := k _ sm
      rw [es, List.drop_eq_nil_of_le (by simp)] at this
      exact this
def spBreach : Sp := fun vs H Q _ => ∃ (l : Addr) (ps : List Addr) (qs : List Q4) (who : Int) (ln pr : Addr) (b : Int) (r : Rat), vs = [.ref l, .int who, .ref ln] ∧ Row H l ps qs ∧ qs.length ≤ 63 ∧ Small qs ∧ H ln = some (.tup [.int b, .ref pr]) ∧ H pr = some (.tup (fq r)) ∧ Sw.Sz 200 b ∧ Sw.SzQ 200 r ∧
  (breachF qs who b r = none → ∀ H', Same H H' → Q .non H') ∧ (∀ f j, breachF qs who b r = some (f, j) → ∀ t H', Same H H' → H' t = some (.tup [.int (f : Nat), .int (j : Nat)]) → Q (.ref t) H')
theorem d_breach (T : Txt K mg c_WheelError c_NoRatio c_NoCurb c_Short c_Bucket) : Def P w K mg base (CXX P w) 6 "breach" ["row", "who", "line"] spBreach := by
  have D_of_sender := d_of_sender (P := P) (w := w) (base := base) T
  have D_breaking_first := d_breaking_first (P := P) (w := w) (base := base) T
  refine T.src_breach.okN (k := 5) sc_breach (fun vs H Q E h => ?_) (fun f cdv A outer s H vs Q E hr h => ?_)
  · obtain ⟨l, ps, qs, who, ln, pr, b, r, rfl, _⟩ := h
    rfl
  · obtain ⟨l, ps, qs, who, ln, pr, b, r, rfl, R0, lq, sm0, hln, hpr, zb, zr, kn, ks⟩ := h
    refine ⟨_, (pss_cons (ps_set (i := 3) sc_breach.nd rfl (by first | exact Or.inl rfl | exact Or.inr rfl) (pe_callX D_of_sender (hr.mono (by decide)) rfl passN (pa_cons (pv 0) (pa_cons (pv 1) pa_nil)))) (pss_cons (ps_for PassesOwn.never rfl (pi_enum1 K rfl rfl T.no_enumerate (pa_cons (pv 3) pa_nil) pe_int) (pg_tupK (n := 2) K rfl rfl (pgs_cons (pg_name (i := 4) sc_breach.nd rfl (by first | exact Or.inl rfl | exact Or.inr rfl)) (pgs_cons (pg_name (i := 5) sc_breach.nd rfl (by first | exact Or.inl rfl | exact Or.inr rfl)) pgs_nil))) (pss_cons (ps_set (i := 6) sc_breach.nd rfl (by first | exact Or.inl rfl | exact Or.inr rfl) (pe_callX D_breaking_first (hr.mono (by decide)) rfl passN (pa_cons (pv 0) (pa_cons (pe_slice (sl_listK K rfl) (pv 3) po_none (po_some (pv 4))) (pa_cons (pv 2) pa_nil))))) (pss_one (ps_if (pt_cmpR op_notN (pv 6) pe_non (nomark _)) (pss_one (ps_ret (pe_tup (pa_cons (pv 6) (pa_cons (pv 5) pa_nil))))) pss_nil)))) (pss_one (ps_ret pe_non)))), ?_⟩
    show tSeq _ _ _ [some (.ref l), some (.int who), some (.ref ln), none, none, none, none] H
    refine seq_step fun R hR => ?_
    walk_at "rd"
    refine ⟨l, ps, qs, who, rfl, R0, lq, fun pl H1 s1 _ hpl => hR _ _ ?_⟩
    have lj : (plcs qs who qs.length).length ≤ 63 := Nat.le_trans (plcs_len qs who qs.length) lq
    have jlt : ∀ j ∈ plcs qs who qs.length, j < qs.length := fun j h => plcs_lt h
    unfold breachF at kn ks
    generalize plcs qs who qs.length = js at hpl lj jlt kn ks
    refine seq_step fun R hR => ?_
    refine for_step fun Z hZ => ?_
    walk_at "rd"
    refine ⟨⟨_, .of hpl⟩, hZ _ _ ?_⟩
    refine for_enum1 (K := K) (a := pl) (xs := js.map natV) (fun i σ H' => Same H H' ∧ H' pl = some (.lst (js.map natV)) ∧ (∃ v4 v5 v6, σ = [some (.ref l), some (.int who), some (.ref ln), some (.ref pl), v4, v5, v6]) ∧ brF qs b r js js.length 0 = brF qs b r js (js.length - i) i) ⟨s1, hpl, ⟨none, none, none, rfl⟩, rfl⟩ (fun i σ H' _ q => .of q.2.1) ?_ ?_
    · rintro i x σ H2 p hx ⟨sm, hpl, ⟨v4, v5, v6, rfl⟩, eb⟩ hp
      obtain ⟨j, hjx, rfl⟩ : ∃ j, js[i]? = some j ∧ natV j = x := by
        rw [List.getElem?_map] at hx
        cases e : js[i]? with
        | none => rw [e] at hx; cases hx
        | some z => rw [e] at hx; exact ⟨z, rfl, Option.some.inj hx⟩
      have hi : i < js.length := (List.getElem?_eq_some_iff.mp hjx).1
      obtain ⟨n', en⟩ : ∃ n', js.length - i = n' + 1 := ⟨js.length - i - 1, by omega⟩
      rw [en, brF_step hjx] at eb
      have n2 := same_new (o := .tup [.int ((i + 1 : Nat) : Int), natV j]) hp
      have sm := sm.trans n2
      have hpl := n2 _ _ hpl
      have hT : SqT K (upd H2 p (.tup [.int ((i + 1 : Nat) : Int), natV j])) p [.int ((i + 1 : Nat) : Int), natV j] := .of upd_same
      generalize upd H2 p (.tup [.int ((i + 1 : Nat) : Int), natV j]) = H3 at sm hpl hT ⊢
      refine ⟨p, _, rfl, hT, rfl, _, _, rfl, _, _, rfl, rfl, ?_⟩
      show tSeq _ _ _ [some (.ref l), some (.int who), some (.ref ln), some (.ref pl), some (.int ((i + 1 : Nat) : Int)), some (.int j), v6] H3
      refine seq_step fun R' hR' => ?_
      walk_at "rd"
      refine slL_at (.of hpl) fun sl hsl => ?_
      have n4 := same_new (o := .lst (cutV (js.map natV) none (some ((i + 1 : Nat) : Int)))) hsl
      have ec : cutV (js.map natV) none (some ((i + 1 : Nat) : Int)) = (js.take (i + 1)).map natV := by
        rw [cut_take _ _ (by rw [List.length_map]; omega), List.map_take]
      have hs4 : upd H3 sl (.lst (cutV (js.map natV) none (some ((i + 1 : Nat) : Int)))) sl = some (.lst ((js.take (i + 1)).map natV)) := by rw [upd_same, ec]
      have sm4 := sm.trans n4
      have hpl4 := n4 _ _ hpl
      generalize upd H3 sl (.lst (cutV (js.map natV) none (some ((i + 1 : Nat) : Int)))) = H4 at hs4 sm4 hpl4 ⊢
      have hlast : (js.take (i + 1)).getLast? = some j := by
        rw [take_succ_of hjx]
        simp
      refine ⟨l, ps, qs, sl, js.take (i + 1), j, ln, pr, b, r, rfl, R0.same sm4, hs4, hlast, fun j h => jlt j (List.mem_of_mem_take h), by rw [List.length_take]; omega, sm0, sm4 _ _ hln, sm4 _ _ hpr, zb, zr, fun H5 s5 => hR' _ _ ?_⟩
      refine nx_step fun R' hR' => ?_
      have eq2 : ((qs[j]?).getD (0, 0, 0, 0)).1 = atQ qs j := rfl
      rw [eq2]
      cases e : scanF qs b r (atQ qs j) 0 (js.take (i + 1)).reverse with
      | none =>
        rw [e] at eb
        show tIfS _ _ _ _ [some (.ref l), some (.int who), some (.ref ln), some (.ref pl), some (.int ((i + 1 : Nat) : Int)), some (.int j), some .non] H5
        walk_at "rd"
        exact hR' _ _ ⟨sm4.trans s5, s5 _ _ hpl4, ⟨_, _, _, rfl⟩, by rw [eb, show js.length - (i + 1) = n' by omega]⟩
      | some f =>
        rw [e] at eb
        show tIfS _ _ _ _ [some (.ref l), some (.int who), some (.ref ln), some (.ref pl), some (.int ((i + 1 : Nat) : Int)), some (.int j), some (.int f)] H5
        walk_at "rd"
        refine iteN (by intro z; cases z) fun t ht => ?_
        exact ks f j eb t _ ((sm4.trans s5).trans (same_new ht)) upd_same
    · rintro σ H2 ⟨sm, hpl, ⟨v4, v5, v6, rfl⟩, eb⟩
      refine hR _ _ ?_
      walk_at "rd"
      rw [List.length_map, Nat.sub_self] at eb
      exact kn eb _ sm
theorem At.dict {C : Addr} {H : Hp} {p a : Addr} {d : Int} {r : Rat} {t level : Int} {kvs kvs' : List (Key × V)} (h : At C H p d r t level) (ha : H a = some (.dK kvs)) : At C (upd H a (.dK kvs')) p d r t level := by
  obtain ⟨s', n', ⟨dx, fs, pr, pl', h1, h2, h3, h4⟩, x⟩ := h.ex
  have st : ∀ b o, b ≠ a → H b = some o → upd H a (.dK kvs') b = some o := fun b o n e => by rw [upd_ne n]; exact e
  exact ⟨s', n', ⟨dx, fs, pr, pl', st _ _ (ne_of h1 ha (by intro z; cases z)) h1, h2, st _ _ (ne_of h3 ha (by intro z; cases z)) h3, st _ _ (ne_of h4 ha (by intro z; cases z)) h4⟩, x⟩
theorem At.but {C : Addr} {H H' : Hp} {p a : Addr} {d : Int} {r : Rat} {t level : Int} {C' dx' : Addr} {fs' : List (Str × V)} (h : At C H p d r t level) (bt : But a H H') (ha : H a = some (.ins C' dx' fs')) (ne : p ≠ a) : At C H' p d r t level := by
  obtain ⟨s', n', ⟨dx, fs, pr, pl', h1, h2, h3, h4⟩, x⟩ := h.ex
  exact ⟨s', n', ⟨dx, fs, pr, pl', bt _ _ ne h1, h2, bt.tup ha h3, bt.tup ha h4⟩, x⟩
def spBy (C : Addr) : Sp := fun vs H Q _ => ∃ pl lv ls, vs = [.ref pl] ∧ H pl = some (.lst lv) ∧ LnsAt H lv ls ∧ (∀ l ∈ ls, LnOk l) ∧ ls.length ≤ 12 ∧ ∀ d kvs bp H', Same H H' → H d = none → H' d = some (.dK kvs) → (∀ w, lnOf ls w ≠ none → H (bp w) = none) → Bks C H' kvs (lnOf ls) bp 0 [] → Q (.ref d) H'
theorem d_buckets_by (T : Txt K mg c_WheelError c_NoRatio c_NoCurb c_Short c_Bucket) : Def P w K mg base (CXX P w) 5 "buckets_by" ["lines"] (spBy c_Bucket) := by
  have K_Bucket := k_Bucket (P := P) (w := w) (base := base) T
  refine T.src_buckets_by.okN (k := 4) sc_buckets_by (fun vs H Q E h => ?_) (fun f cdv A outer s H vs Q E hr h => ?_)
  · obtain ⟨pl, lv, ls, rfl, _⟩ := h
    rfl
  · obtain ⟨pl, lv, ls, rfl, hl, la, lok, len, k⟩ := h
    refine ⟨_, (pss_cons (ps_set (i := 1) sc_buckets_by.nd rfl (by first | exact Or.inl rfl | exact Or.inr rfl) pe_dnewK) (pss_cons (ps_for PassesOwn.never rfl (pi_enumK K rfl rfl T.no_enumerate (pa_cons (pv 0) pa_nil)) (pg_tupK (n := 2) K rfl rfl (pgs_cons (pg_name (i := 2) sc_buckets_by.nd rfl (by first | exact Or.inl rfl | exact Or.inr rfl)) (pgs_cons (pg_name (i := 3) sc_buckets_by.nd rfl (by first | exact Or.inl rfl | exact Or.inr rfl)) pgs_nil))) (pss_one (ps_if (pt_cmpR op_notN (pv 3) pe_non (nomark _)) (pss_one (ps_dput (hu_of hr) (pv 1) (pv 2) (pe_makeX (dvs := [V.int 0]) K_Bucket (by simp) (hr.mono (by decide)) passN rfl T.mg_Bucket (pa_cons (pe_ix (ix_tupK K rfl) (pv 3) pe_int (fun _ _ => rfl)) (pa_cons (pe_ix (ix_tupK K rfl) (pv 3) pe_int (fun _ _ => rfl)) pa_nil))) rfl)) pss_nil))) (pss_one (ps_ret (pv 1))))), ?_⟩
    show tSeq _ _ _ [some (.ref pl), none, none, none] H
    have ll := Paired.length la
    refine seq_step fun R hR => ?_
    walk_at "rd"
    intro d hd0
    refine hR _ _ ?_
    have s0 := same_new (o := .dK []) hd0
    have hd : upd H d (.dK []) d = some (.dK []) := upd_same
    generalize upd H d (.dK []) = H0 at s0 hd ⊢
    refine seq_step fun R hR => ?_
    refine for_step fun Z hZ => ?_
    walk_at "rd"
    refine ⟨⟨_, .of (s0 _ _ hl)⟩, hZ _ _ ?_⟩
    refine for_enum (K := K) (a := pl) (xs := lv) (fun i σ H' => ∃ kvs bp v2 v3, σ = [some (.ref pl), some (.ref d), v2, v3] ∧ Same H H' ∧ H' d = some (.dK kvs) ∧ kvs.length ≤ i ∧ (∀ w, lnOf (ls.take i) w ≠ none → H (bp w) = none ∧ bp w ≠ d) ∧ Bks c_Bucket H' kvs (lnOf (ls.take i)) bp 0 [])
      ⟨[], fun _ => 0, none, none, rfl, s0, hd, Nat.le_refl _, fun w h => absurd (by rw [List.take_zero]; exact lnOf_nil w) h, ⟨fun w => by rw [List.take_zero, lnOf_nil]; rfl, fun w b r h => (by rw [List.take_zero, lnOf_nil] at h; cases h), fun w w' h => absurd (by rw [List.take_zero]; exact lnOf_nil w) h⟩⟩ (fun i σ H' _ ⟨_, _, _, _, _, sm, _⟩ => .of (sm _ _ hl)) ?_ ?_
    · rintro i x σ H1 pt hx ⟨kvs, bp, v2, v3, rfl, sm, hd, kl, fr, bk⟩ hpt
      obtain ⟨l, hl2, hla⟩ := paired_get la hx
      have hi : i < ls.length := (List.getElem?_eq_some_iff.mp hl2).1
      have sn := same_new (o := .tup [.int i, x]) hpt
      have sm := sm.trans sn
      have hd := sn _ _ hd
      have bk := bk.same sn
      have hla := hla.keep fun _ _ q => sm _ _ q
      refine ⟨pt, _, rfl, .of upd_same, rfl, _, _, rfl, _, _, rfl, rfl, ?_⟩
      generalize upd H1 pt (.tup [.int i, x]) = H2 at sm hd bk hla ⊢
      clear sn hpt
      refine nx_step fun R hR => ?_
      have nxt := lnOf_next hl2
      cases l with
      | none =>
        have hla : x = .non := hla
        subst hla
        walk_at "rd"
        have same : lnOf (ls.take (i + 1)) = lnOf (ls.take i) := funext fun w => by
          rw [nxt]
          split
          · rename_i e
            subst e
            symm
            unfold lnOf
            rw [if_pos (by omega), Int.toNat_natCast, List.getElem?_take, if_neg (by omega)]
            rfl
          · rfl
        refine hR _ _ ⟨kvs, bp, _, _, rfl, sm, hd, by omega, ?_, ?_⟩
        · rw [same]; exact fr
        · rw [same]; exact bk
      | some z =>
        obtain ⟨ln, pr, rfl, h1, h2⟩ := hla
        have bd : Bd z.1 z.2 := lok _ (List.mem_of_getElem? hl2) z.1 z.2 rfl
        walk_at "rd"
        rw [if_neg (by intro z; cases z)]
        refine ixT_at (.of h1) rfl (ixT_at (.of h1) rfl fun x dx hx hdx _ => ?_)
        have sm1 := same_make (C := c_Bucket) hx hdx
        refine ⟨x, dx, z.1, pr, z.2, 0, rfl, upd_same, sm1 _ _ h2, bd.rz.mono (by decide), fun _ H3 bt B => ?_, fun n => absurd ⟨bd.d1, bd.r0⟩ n⟩
        have ndx : d ≠ x := ne_of_none hd hx
        have s3 := bt.same sm1 hx
        have hd3 := s3 _ _ hd
        have x0 := sm.free hx
        refine ⟨rfl, _, DPut.k (k := Sum.inl (i : Int)) hd3 (line_lt (by omega)), hR _ _ ?_⟩
        have lput := length_putK kvs (Sum.inl (i : Int) : Key) (.ref x)
        refine ⟨_, fun w => if w = (i : Int) then x else bp w, _, _, rfl, fun b o e => ?_, upd_same, by omega, fun w hw => ?_, ⟨fun w => ?_, fun w b r e => ?_, fun w w' hw hw' e => ?_⟩⟩
        · rw [upd_ne (ne_of_none e hd0)]; exact s3 _ _ (sm _ _ e)
        · show H (if w = (i : Int) then x else bp w) = none ∧ (if w = (i : Int) then x else bp w) ≠ d
          rw [nxt] at hw
          split
          · exact ⟨x0, ndx.symm⟩
          · rename_i ne
            rw [if_neg ne] at hw
            exact fr w hw
        · rw [valV_put, nxt]
          by_cases e : w = (i : Int)
          · subst e
            simp
          · rw [if_neg (fun y => e (Sum.inl.inj y)), if_neg e, bk.val]
            simp [e]
        · rw [nxt] at e
          by_cases ew : w = (i : Int)
          · rw [if_pos ew] at e
            cases e
            rw [if_pos ew]
            exact At.dict (At.init B bd (Int.le_refl _)) hd3
          · rw [if_neg ew] at e
            rw [if_neg ew]
            exact At.dict ((bk.at_ w b r e).same s3) hd3
        · rw [nxt] at hw hw'
          have other : ∀ w, ¬ w = (i : Int) → lnOf (ls.take i) w ≠ none → bp w ≠ x := fun w _ h => by
            cases q : lnOf (ls.take i) w with
            | none => exact absurd q h
            | some y =>
              obtain ⟨b, r⟩ := y
              obtain ⟨_, _, _, _, _, hi2, _⟩ := (bk.at_ w b r q).ins
              exact ne_of_none hi2 hx
          by_cases ew : w = (i : Int)
          · by_cases ew' : w' = (i : Int)
            · rw [ew, ew']
            · rw [if_pos ew, if_neg ew'] at e
              rw [if_neg ew'] at hw'
              exact absurd e.symm (other w' ew' hw')
          · by_cases ew' : w' = (i : Int)
            · rw [if_neg ew, if_pos ew'] at e
              rw [if_neg ew] at hw
              exact absurd e (other w ew hw)
            · rw [if_neg ew, if_neg ew'] at e
              rw [if_neg ew] at hw
              rw [if_neg ew'] at hw'
              exact bk.inj w w' hw hw' e
    · rintro σ H1 ⟨kvs, bp, v2, v3, rfl, sm, hd, kl, fr, bk⟩
      refine hR _ _ ?_
      walk_at "rd"
      rw [show ls.take lv.length = ls by rw [ll]; exact List.take_length] at fr bk
      exact k d kvs bp H1 sm hd0 hd (fun w h => (fr w h).1) bk
def spClip (C : Addr) : Sp := fun vs H Q _ => ∃ l ps qs pl lv ls, vs = [.ref l, .ref pl] ∧ Row H l ps qs ∧ Fits qs ∧ qs.length ≤ 60 ∧ H pl = some (.lst lv) ∧ LnsAt H lv ls ∧ (∀ l ∈ ls, LnOk l) ∧ ls.length ≤ 12 ∧
  ∀ D pd H', Same H H' → H D = none → Row H' D pd (Sw.dueF (lnOf ls) qs) → Q (.ref D) H'
theorem d_clipped (T : Txt K mg c_WheelError c_NoRatio c_NoCurb c_Short c_Bucket) : Def P w K mg base (CXX P w) 6 "clipped" ["row", "lines"] (spClip c_Bucket) := by
  have D_buckets_by := d_buckets_by (P := P) (w := w) (base := base) T
  have D_anew := d_anew (P := P) (w := w) (base := base) T
  have M_Bucket_holds := m_Bucket_holds (P := P) (w := w) (base := base) T
  have M_Bucket_pay := m_Bucket_pay (P := P) (w := w) (base := base) T
  refine T.src_clipped.okN (k := 5) sc_clipped (fun vs H Q E h => ?_) (fun f cdv A outer s H vs Q E hr h => ?_)
  · obtain ⟨l, ps, qs, pl, lv, ls, rfl, _⟩ := h
    rfl
  · obtain ⟨l, ps, qs, pl, lv, ls, rfl, R0, fit, lq, hl, la, lok, len, k⟩ := h
    refine ⟨_, (pss_cons (ps_set (i := 2) sc_clipped.nd rfl (by first | exact Or.inl rfl | exact Or.inr rfl) (pe_callX D_buckets_by (hr.mono (by decide)) rfl passN (pa_cons (pv 1) pa_nil))) (pss_cons (ps_set (i := 3) sc_clipped.nd rfl (by first | exact Or.inl rfl | exact Or.inr rfl) (pe_lst pa_nil)) (pss_cons (ps_for PassesOwn.never rfl (pi_listK K rfl (pv 0)) (pg_name (i := 4) sc_clipped.nd rfl (by first | exact Or.inl rfl | exact Or.inr rfl)) (pss_cons (ps_set (i := 5) sc_clipped.nd rfl (by first | exact Or.inl rfl | exact Or.inr rfl) (pe_dget1 (hu_of hr) (pv 2) (pe_ix (ix_tupK K rfl) (pv 4) pe_int (fun _ _ => rfl)) ⟨rfl, rfl, rfl, rfl⟩)) (pss_one (ps_if (pt_cmpR op_isN (pv 5) pe_non (nomark _)) (pss_one (ps_expr (pe_bm PySem.F.plainAttrs_list PySem.F.slot_list_append PySem.F.type_list_append mt_append (pv 3) (pa_cons (pe_callX D_anew (hr.mono (by decide)) rfl passN (pa_cons (pv 4) pa_nil)) pa_nil)))) (pss_one (ps_if (pt_val (pe_methX (dvs := []) M_Bucket_holds (by simp) T.cl_Bucket (hr.mono (by decide)) passN (pv 5) (pa_cons (pe_ix (ix_tupK K rfl) (pv 4) pe_int (fun _ _ => rfl)) (pa_cons (pe_ix (ix_tupK K rfl) (pv 4) pe_int (fun _ _ => rfl)) pa_nil)))) (pss_cons (ps_expr (pe_methX (dvs := []) M_Bucket_pay (by simp) T.cl_Bucket (hr.mono (by decide)) passN (pv 5) (pa_cons (pe_ix (ix_tupK K rfl) (pv 4) pe_int (fun _ _ => rfl)) (pa_cons (pe_ix (ix_tupK K rfl) (pv 4) pe_int (fun _ _ => rfl)) pa_nil)))) (pss_one (ps_expr (pe_bm PySem.F.plainAttrs_list PySem.F.slot_list_append PySem.F.type_list_append mt_append (pv 3) (pa_cons (pe_callX D_anew (hr.mono (by decide)) rfl passN (pa_cons (pv 4) pa_nil)) pa_nil))))) pss_nil)))))) (pss_one (ps_ret (pv 3)))))), ?_⟩
    show tSeq _ _ _ [some (.ref l), some (.ref pl), none, none, none, none] H
    have lps := R0.r.len
    refine seq_step fun R hR => ?_
    walk_at "rd"
    refine ⟨pl, lv, ls, rfl, hl, la, lok, len, fun d kvs bp H1 s1 hd0 hd fr bk => hR _ _ ?_⟩
    refine seq_step fun R hR => ?_
    walk_at "rd"
    intro st hst
    refine hR _ _ ?_
    have sn := same_new (o := .lst []) hst
    have st0 := s1.free hst
    have bk := bk.same sn
    have hd := sn _ _ hd
    have hst2 : upd H1 st (.lst []) st = some (.lst (([] : List Addr).map V.ref)) := upd_same
    have s1 := s1.trans sn
    generalize upd H1 st (.lst []) = H2 at bk hd hst2 s1 ⊢
    clear sn hst
    have bok : ∀ w b r, lnOf ls w = some (b, r) → Bd b r := fun w b r e => lnOf_ok lok e
    refine seq_step fun R hR => ?_
    refine for_step fun Z hZ => ?_
    walk_at "rd"
    refine ⟨⟨_, .of (s1 _ _ R0.hl)⟩, hZ _ _ ?_⟩
    refine for_list (K := K) (a := l) (xs := ps.map V.ref) (fun i σ H' => ∃ t pd v4 v5, σ = [some (.ref l), some (.ref pl), some (.ref d), some (.ref st), v4, v5] ∧ Same H H' ∧ H' d = some (.dK kvs) ∧ H' st = some (.lst (pd.map V.ref)) ∧ Tups H' pd (Sw.dueF (lnOf ls) (qs.take i)) ∧ Bks c_Bucket H' kvs (lnOf ls) bp t (Sw.dueF (lnOf ls) (qs.take i)) ∧ 0 ≤ t ∧ ∀ q ∈ qs.drop i, t ≤ q.1)
      ⟨0, [], none, none, rfl, s1, hd, hst2, by rw [List.take_zero]; exact .nil, by rw [List.take_zero]; exact bk, Int.le_refl _, fun q h => (fit.1 q (by simpa using h)).1⟩ (fun i σ H' _ ⟨_, _, _, _, _, sm, _⟩ => .of (sm _ _ R0.hl)) ?_ ?_
    · rintro i x σ H3 hx ⟨t, pd, v4, v5, rfl, sm, hd, hst, tu, bk, t0, hq⟩
      obtain ⟨p, hp, rfl⟩ : ∃ p, ps[i]? = some p ∧ V.ref p = x := by simpa using hx
      obtain ⟨q, hq1, hq2⟩ := R0.r.get hp
      have pok := fit.1 q (List.mem_of_getElem? hq1)
      have hdrop := Sw.drop_get hq1
      have hlt := hq q (by rw [hdrop]; simp)
      have hnext : ∀ q' ∈ qs.drop (i + 1), q.1 ≤ q'.1 := by
        have pw : (qs.drop i).Pairwise (fun a b => a.1 ≤ b.1) := List.Pairwise.sublist (List.drop_sublist _ _) fit.2
        rw [hdrop] at pw
        exact (List.pairwise_cons.mp pw).1
      have hq2 := sm _ _ hq2
      have bk := bk.later bok hlt
      have dn := Sw.dueF_next (ln := lnOf ls) hq1
      have kl : (Sw.dueF (lnOf ls) (qs.take i)).length ≤ 60 := by
        have := Sw.dueF_len (lnOf ls) (qs.take i)
        rw [List.length_take] at this
        omega
      have pdl := tu.len
      have push : ∀ (v5 : Option V) (R : L2.St → Hp → Prop) (H4 : Hp), Same H H4 → H4 d = some (.dK kvs) → H4 st = some (.lst (pd.map V.ref)) → Tups H4 pd (Sw.dueF (lnOf ls) (qs.take i)) → Sw.keepsF (lnOf ls) (Sw.dueF (lnOf ls) (qs.take i)) q = true → Bks c_Bucket H4 kvs (lnOf ls) bp q.1 (Sw.dueF (lnOf ls) (qs.take i) ++ [q]) →
          (∀ σ H', (∃ t pd v4 v5, σ = [some (.ref l), some (.ref pl), some (.ref d), some (.ref st), v4, v5] ∧ Same H H' ∧ H' d = some (.dK kvs) ∧ H' st = some (.lst (pd.map V.ref)) ∧ Tups H' pd (Sw.dueF (lnOf ls) (qs.take (i + 1))) ∧ Bks c_Bucket H' kvs (lnOf ls) bp t (Sw.dueF (lnOf ls) (qs.take (i + 1))) ∧ 0 ≤ t ∧ ∀ q ∈ qs.drop (i + 1), t ≤ q.1) → R σ H') →
          ∀ r, H4 r = none → R [some (.ref l), some (.ref pl), some (.ref d), some (.ref st), some (.ref p), v5] (upd (upd H4 r (.tup (q4 q))) st (.lst (pd.map V.ref ++ [.ref r]))) := by
        intro v5 R H4 sm hd hst tu kp bk hR r hr0
        have sn := same_new (o := .tup (q4 q)) hr0
        have nst : ∀ b o, b ≠ st → upd H4 r (.tup (q4 q)) b = some o → upd (upd H4 r (.tup (q4 q))) st (.lst (pd.map V.ref ++ [.ref r])) b = some o := fun b o n e => by rw [upd_ne n]; exact e
        have hst1 := sn _ _ hst
        have kt : ∀ b xs, upd H4 r (.tup (q4 q)) b = some (.tup xs) → upd (upd H4 r (.tup (q4 q))) st (.lst (pd.map V.ref ++ [.ref r])) b = some (.tup xs) := fun b xs e => nst _ _ (ne_of e hst1 (by intro z; cases z)) e
        have ebk : Sw.dueF (lnOf ls) (qs.take (i + 1)) = Sw.dueF (lnOf ls) (qs.take i) ++ [q] := by rw [dn]; unfold Sw.stepF; rw [if_pos kp]
        refine hR _ _ ⟨q.1, pd ++ [r], _, _, rfl, fun b o e => nst _ _ (ne_of_none e st0) (sn _ _ (sm _ _ e)), nst _ _ (ne_of (sn _ _ hd) hst1 (by intro z; cases z)) (sn _ _ hd), by rw [upd_same, List.map_append]; rfl, ?_, ?_, pok.1, hnext⟩
        · rw [ebk]
          exact Tups.snoc (kt _ _ upd_same) ((tu.same sn).keep kt)
        · rw [ebk]
          refine ⟨bk.val, fun w b r e => ?_, bk.inj⟩
          obtain ⟨s', n', ⟨dx, fs, pr, pl', h1, h2, h3, h4⟩, x⟩ := ((bk.at_ w b r e).same sn).ex
          exact ⟨s', n', ⟨dx, fs, pr, pl', nst _ _ (ne_of h1 hst1 (by intro z; cases z)) h1, h2, kt _ _ h3, kt _ _ h4⟩, x⟩
      refine seq_step fun R hR => ?_
      walk_at "rd"
      refine ⟨.inl ⟨kvs, .inl hd⟩, ixT_at (.of hq2) rfl ⟨_, DGet.k (k := Sum.inl q.2.1) hd, hR _ _ ?_⟩⟩
      rw [bk.val]
      refine nx_step fun R hR => ?_
      cases e : lnOf ls q.2.1 with
      | none =>
        have kp : Sw.keepsF (lnOf ls) (Sw.dueF (lnOf ls) (qs.take i)) q = true := by unfold Sw.keepsF; rw [e]
        walk_at "rd"
        simp only [Option.map_none, Option.getD_none, if_true]
        have bk2 : Bks c_Bucket H3 kvs (lnOf ls) bp q.1 (Sw.dueF (lnOf ls) (qs.take i) ++ [q]) := by
          refine ⟨bk.val, fun w b r e2 => ?_, bk.inj⟩
          have ne : ¬ q.2.1 = w := fun z => by rw [z, e2] at e; cases e
          rw [Sw.paysF_snoc, if_neg ne]
          exact bk.at_ w b r e2
        refine ⟨tyL_at hst, p, q, rfl, hq2, fun r hr0 => ?_⟩
        refine app_at (same_new hr0 _ _ hst) (by rw [List.length_map]; omega) ?_
        exact push _ R H3 sm hd hst tu kp bk2 hR r hr0
      | some z =>
        obtain ⟨b, r⟩ := z
        have bd := bok _ _ _ e
        have a := bk.at_ _ _ _ e
        have kv := keeps_lv (ks := Sw.dueF (lnOf ls) (qs.take i)) e
        simp only [Option.map_some, Option.getD_some]
        walk_at "rd"
        refine rMeth_map (holds_of a bd (by omega) (by omega) (by omega) fun H4 s4 => ?_) fun z => ixT_at (.of hq2) rfl (ixT_at (.of hq2) rfl z)
        have sm4 := sm.trans s4
        have hd4 := s4 _ _ hd
        have hst4 := s4 _ _ hst
        have tu4 := tu.same s4
        have bk4 := bk.same s4
        have hq4 := s4 _ _ hq2
        have a4 := a.same s4
        refine ⟨_, rfl, ?_⟩
        refine ite2 (fun hc => ?_) fun hc => ?_
        · have kp : Sw.keepsF (lnOf ls) (Sw.dueF (lnOf ls) (qs.take i)) q = true := by rw [kv]; exact hc
          refine seq_step fun R2 hR2 => ?_
          walk_at "rd"
          refine rMeth_map (pay_of (cS := c_Short) a4 bd (by omega) (by omega) (by omega) (by omega) (fun hle H5 bt a5 => ?_) fun hn => absurd (of_decide_eq_true hc) hn) fun z => ixT_at (.of hq4) rfl (ixT_at (.of hq4) rfl z)
          refine hR2 _ _ ?_
          obtain ⟨dx, fs, _, _, _, hins, _⟩ := a4.ins
          have np : H (bp q.2.1) = none := fr _ (by rw [e]; simp)
          have sm5 : Same H H5 := fun b' o h => bt _ _ (ne_of_none h np) (sm4 _ _ h)
          have hd5 := bt _ _ (ne_of hd4 hins (by intro z; cases z)) hd4
          have hst5 := bt _ _ (ne_of hst4 hins (by intro z; cases z)) hst4
          have tu5 : Tups H5 pd (Sw.dueF (lnOf ls) (qs.take i)) := tu4.keep fun p xs h => bt.tup hins h
          have hq5 := bt.tup hins hq4
          have bk5 : Bks c_Bucket H5 kvs (lnOf ls) bp q.1 (Sw.dueF (lnOf ls) (qs.take i) ++ [q]) := by
            refine ⟨bk4.val, fun w b' r' e2 => ?_, bk4.inj⟩
            rw [Sw.paysF_snoc]
            by_cases ew : q.2.1 = w
            · subst ew
              rw [e] at e2
              cases e2
              have dp := Sw.q_den_pos r
              rw [if_pos rfl, Sw.lvOf_pay (Int.mul_nonneg (by omega) (by omega))]
              exact a5
            · rw [if_neg ew]
              refine At.but (bk4.at_ w b' r' e2) bt hins fun z => ew (bk4.inj _ _ (by rw [e]; simp) (by rw [e2]; simp) z.symm)
          refine nx_step fun R3 hR3 => ?_
          walk_at "rd"
          refine ⟨tyL_at hst5, p, q, rfl, hq5, fun r hr0 => ?_⟩
          refine app_at (same_new hr0 _ _ hst5) (by rw [List.length_map]; omega) ?_
          exact push _ R3 H5 sm5 hd5 hst5 tu5 kp bk5 (fun σ' H' z => hR3 _ _ (hR _ _ z)) r hr0
        · have kp : ¬ Sw.keepsF (lnOf ls) (Sw.dueF (lnOf ls) (qs.take i)) q = true := by rw [kv]; exact hc
          have ebk : Sw.dueF (lnOf ls) (qs.take (i + 1)) = Sw.dueF (lnOf ls) (qs.take i) := by rw [dn]; unfold Sw.stepF; rw [if_neg kp]
          exact hR _ _ ⟨q.1, pd, _, _, rfl, sm4, hd4, hst4, by rw [ebk]; exact tu4, by rw [ebk]; exact bk4, pok.1, hnext⟩
    · rintro σ H3 ⟨t, pd, v4, v5, rfl, sm, hd, hst, tu, bk, t0, hq⟩
      refine hR _ _ ?_
      walk_at "rd"
      rw [List.length_map, lps, List.take_length] at tu
      exact k st pd H3 sm st0 ⟨hst, tu⟩
theorem Tups.rev {H : Hp} {ps : List Addr} {qs : List Q4} (h : Tups H ps qs) : Tups H ps.reverse qs.reverse := by
  induction h with
  | nil => exact .nil
  | cons a b ih => rw [List.reverse_cons, List.reverse_cons]; exact Tups.snoc a ih
def cutF (zs : List Q4) (who : Int) : List (Int × Int) := (zs.filter fun q => decide (q.2.1 = who)).map fun q => (q.1, q.2.2.1)
theorem cutF_cons (z : Q4) (zs : List Q4) (who : Int) : cutF (z :: zs) who = if z.2.1 = who then (z.1, z.2.2.1) :: cutF zs who else cutF zs who := by
  unfold cutF
  rw [List.filter_cons]
  by_cases h : z.2.1 = who
  · simp [h]
  · simp [h]
def spToo : Sp := fun vs H Q _ => ∃ kl pk ks p q ln pr b r, vs = [.ref kl, .ref p, .ref ln] ∧ Row H kl pk ks ∧ ks.length ≤ 60 ∧ H p = some (.tup (q4 q)) ∧ H ln = some (.tup [.int b, .ref pr]) ∧ H pr = some (.tup (fq r)) ∧ Bd b r ∧ (∀ z ∈ ks ++ [q], 0 ≤ z.1 ∧ z.1 ≤ 1000000000000 ∧ 1 ≤ z.2.2.1 ∧ z.2.2.1 ≤ 1000000) ∧
  ∀ H', Same H H' → Q (.bl (Sw.tooF (b * (r.den : Int)) r.num (r.den : Int) q.1 ((q.1, q.2.2.1) :: Sw.paysF ks q.2.1) 0)) H'
theorem d__law_too_much (T : Txt K mg c_WheelError c_NoRatio c_NoCurb c_Short c_Bucket) : Def P w K mg base (CXX P w) 1 "_law_too_much" ["_law_kept", "_law_piece", "_law_told"] spToo := by
  refine T.src__law_too_much.okN (k := 0) sc__law_too_much (fun vs H Q E h => ?_) (fun f cdv A outer s H vs Q E hr h => ?_)
  · obtain ⟨kl, pk, ks, p, q, ln, pr, b, r, rfl, _⟩ := h
    rfl
  · obtain ⟨kl, pk, ks, p, q, ln, pr, b, r, rfl, R0, lk, hp, hln, hpr, bd, fit, k⟩ := h
    refine ⟨_, (pss_cons (ps_set (i := 3) sc__law_too_much.nd rfl (by first | exact Or.inl rfl | exact Or.inr rfl) pe_int) (pss_cons (ps_for PassesOwn.never rfl (pi_rev K rfl rfl T.no_reversed (pa_cons (pe_op op_cat (pv 0) (pe_lst (pa_cons (pv 1) pa_nil))) pa_nil)) (pg_name (i := 4) sc__law_too_much.nd rfl (by first | exact Or.inl rfl | exact Or.inr rfl)) (pss_one (ps_if (pt_cmpR op_eq (pe_ix (ix_tupK K rfl) (pv 4) pe_int (fun _ _ => rfl)) (pe_ix (ix_tupK K rfl) (pv 1) pe_int (fun _ _ => rfl)) (nomark _)) (pss_cons (ps_set (i := 3) sc__law_too_much.nd rfl (by first | exact Or.inl rfl | exact Or.inr rfl) (pe_op op_add (pv 3) (pe_ix (ix_tupK K rfl) (pv 4) pe_int (fun _ _ => rfl)))) (pss_one (ps_if (pt_cmpR op_gt (pe_op op_mulL (pe_op op_sub (pv 3) (pe_ix (ix_tupK K rfl) (pv 2) pe_int (fun _ _ => rfl))) (pe_ix (ix_tupK K rfl) (pe_ix (ix_tupK K rfl) (pv 2) pe_int (fun _ _ => rfl)) pe_int (fun _ _ => rfl))) (pe_op op_mulL (pe_ix (ix_tupK K rfl) (pe_ix (ix_tupK K rfl) (pv 2) pe_int (fun _ _ => rfl)) pe_int (fun _ _ => rfl)) (pe_op op_sub (pe_ix (ix_tupK K rfl) (pv 1) pe_int (fun _ _ => rfl)) (pe_ix (ix_tupK K rfl) (pv 4) pe_int (fun _ _ => rfl)))) (nomark _)) (pss_one (ps_ret pe_bl)) pss_nil))) pss_nil))) (pss_one (ps_ret pe_bl)))), ?_⟩
    show tSeq _ _ _ [some (.ref kl), some (.ref p), some (.ref ln), none, none] H
    have lpk := R0.r.len
    refine seq_step fun R hR => ?_
    walk_at "rd"
    refine hR _ _ ?_
    refine seq_step fun R hR => ?_
    refine for_step fun Z hZ => ?_
    walk_at "rd"
    intro p1 hp1
    have s1 := same_new (o := .lst [.ref p]) hp1
    refine ⟨kl, p1, _, _, rfl, rfl, s1 _ _ R0.hl, upd_same, ?_, fun p2 hp2 => ?_⟩
    · rw [List.length_map]; simp only [List.length_cons, List.length_nil]; exact Nat.le_of_lt (line_lt (by omega))
    refine ⟨p2, rfl, _, .of upd_same, hZ _ _ ?_⟩
    have s2 := s1.trans (same_new (o := .lst (pk.map V.ref ++ [.ref p])) hp2)
    have hp3 : upd (upd H p1 (.lst [.ref p])) p2 (.lst (pk.map V.ref ++ [.ref p])) p2 = some (.lst (pk.map V.ref ++ [.ref p])) := upd_same
    generalize upd (upd H p1 (.lst [.ref p])) p2 (.lst (pk.map V.ref ++ [.ref p])) = H2 at s2 hp3 ⊢
    clear s1 hp1 hp2
    have T1 : Tups H (pk ++ [p]).reverse (ks ++ [q]).reverse := Tups.rev (Tups.snoc hp R0.r)
    have pays : Sw.paysF (ks ++ [q]) q.2.1 = (q.1, q.2.2.1) :: Sw.paysF ks q.2.1 := by rw [Sw.paysF_snoc, if_pos rfl]
    rw [← pays] at k
    have cf : Sw.paysF (ks ++ [q]) q.2.1 = cutF (ks ++ [q]).reverse q.2.1 := rfl
    rw [cf] at k
    refine for_rev (K := K) (a := p2) (xs := pk.map V.ref ++ [.ref p]) (fun i σ H' => H' = H2 ∧ ∃ many v4, σ = [some (.ref kl), some (.ref p), some (.ref ln), some (.int many), v4] ∧ 0 ≤ many ∧ many ≤ i * 1000000 ∧ Sw.tooF (b * (r.den : Int)) r.num (r.den : Int) q.1 (cutF (ks ++ [q]).reverse q.2.1) 0 = Sw.tooF (b * (r.den : Int)) r.num (r.den : Int) q.1 (cutF ((ks ++ [q]).reverse.drop i) q.2.1) many)
      ⟨rfl, 0, none, rfl, Int.le_refl _, by omega, rfl⟩ (fun i σ H' _ ⟨e, _⟩ => by rw [e]; exact .of hp3) ?_ ?_
    · rintro i x σ H3 hx ⟨rfl, many, v4, rfl, m0, m1, ev⟩
      have hx : ((pk ++ [p]).reverse.map V.ref)[i]? = some x := by
        rw [List.map_reverse, List.map_append]
        exact hx
      obtain ⟨po, hpo, rfl⟩ : ∃ p', (pk ++ [p]).reverse[i]? = some p' ∧ V.ref p' = x := by simpa only [List.getElem?_map, Option.map_eq_some_iff] using hx
      obtain ⟨z, hz, hzt⟩ := T1.get hpo
      have hdrop := Sw.drop_get hz
      have zb := fit z (List.mem_reverse.mp (List.mem_of_getElem? hz))
      have qb := fit q (List.mem_append_right _ (by simp))
      have hi : i < 61 := by
        have := (List.getElem?_eq_some_iff.mp hz).1
        simp at this
        omega
      have hzt := s2 _ _ hzt
      have hp := s2 _ _ hp
      have hln := s2 _ _ hln
      have hpr := s2 _ _ hpr
      rw [hdrop] at ev
      have rz := bd.rz
      have d1 := bd.d1
      have d2 := bd.d2
      show tIfS _ _ _ _ [some (.ref kl), some (.ref p), some (.ref ln), some (.int many), some (.ref po)] _
      refine nx_step fun R hR => ?_
      walk_at "rd"
      refine ixT_at (.of hzt) rfl (ixT_at (.of hp) rfl ?_)
      walk_at "rd"
      rw [cutF_cons] at ev
      refine ite2 (fun hw => ?_) fun hw => hR _ _ ⟨rfl, many, _, rfl, m0, by omega, ev.trans (by rw [if_neg hw])⟩
      rw [if_pos hw] at ev
      refine seq_step fun R2 hR2 => ?_
      walk_at "rd"
      refine ixT_at (.of hzt) rfl ⟨_, rfl, hR2 _ _ ?_⟩
      refine nx_step fun R2 hR2 => ?_
      walk_at "rd"
      refine ixT_at (.of hln) rfl ?_
      walk_at "rd"
      refine ixT_at (.of hln) rfl (ixT_at (.of hpr) rfl ?_)
      walk_at "rd"
      refine ⟨⟨(Sw.Sz.r18 (by omega) (by omega)).mono (by decide), rz.d.mono (by decide)⟩, ixT_at (.of hln) rfl (ixT_at (.of hpr) rfl ?_)⟩
      walk_at "rd"
      refine ixT_at (.of hp) rfl ?_
      walk_at "rd"
      refine ixT_at (.of hzt) rfl ?_
      walk_at "rd"
      refine ⟨⟨rz.n.mono (by decide), (Sw.Sz.r18 (by omega) (by omega)).mono (by decide)⟩, ?_⟩
      have e1 : (many + z.2.2.1 - b) * (r.den : Int) = (many + z.2.2.1) * (r.den : Int) - b * (r.den : Int) := Int.sub_mul _ _ _
      rw [e1]
      have ev2 : Sw.tooF (b * (r.den : Int)) r.num (r.den : Int) q.1 (cutF (ks ++ [q]).reverse q.2.1) 0 = if b * (r.den : Int) + r.num * (q.1 - z.1) < (many + z.2.2.1) * (r.den : Int) then true else Sw.tooF (b * (r.den : Int)) r.num (r.den : Int) q.1 (cutF ((ks ++ [q]).reverse.drop (i + 1)) q.2.1) (many + z.2.2.1) := ev
      refine ite2 (fun hc => ?_) fun hc => hR2 _ _ (hR _ _ ⟨rfl, many + z.2.2.1, _, rfl, by omega, by omega, ev2.trans (by rw [if_neg (by omega)])⟩)
      rw [if_pos (by omega)] at ev2
      have := k _ s2
      rw [ev2] at this
      exact this
    · rintro σ H3 ⟨rfl, many, v4, rfl, m0, m1, ev⟩
      refine hR _ _ ?_
      walk_at "rd"
      rw [List.drop_eq_nil_of_le (by simp [lpk])] at ev
      have := k _ s2
      rw [ev] at this
      exact this
def spRow19 (K : PySem.W.Frag) : Sp := fun vs H Q _ => ∃ (a : Addr) (ns : List Int) (way few : Int), vs = [.ref a, .int way, .int few] ∧ SqL K H a (ns.map V.int) ∧ ns.length ≤ 63 ∧ 0 ≤ way ∧ way < 2 ∧ 0 < few ∧ few ≤ 12 ∧ ∀ H' l ps qs, Same H H' → H l = none → Row H' l ps qs → qs.length ≤ 60 → Fits qs → Q (.ref l) H'
theorem d__law_row (T : Txt K mg c_WheelError c_NoRatio c_NoCurb c_Short c_Bucket) : Def P w K mg base (CXX P w) 2 "_law_row" ["_law_script", "_law_way", "_law_few"] (spRow19 K) := by
  have D__law_mix := d__law_mix (P := P) (w := w) (base := base) T
  refine T.src__law_row.okN (k := 1) sc__law_row (fun vs H Q E h => ?_) (fun f cdv A outer s H vs Q E hr h => ?_)
  · obtain ⟨a, ns, way, few, rfl, _⟩ := h
    rfl
  · obtain ⟨a, ns, way, few, rfl, hS, hlen, w0, w1, few0, few1, k⟩ := h
    refine ⟨_, (pss_cons (ps_set (i := 3) sc__law_row.nd rfl (by first | exact Or.inl rfl | exact Or.inr rfl) pe_int) (pss_cons (ps_set (i := 4) sc__law_row.nd rfl (by first | exact Or.inl rfl | exact Or.inr rfl) (pe_lst pa_nil)) (pss_cons (ps_for PassesOwn.never rfl (pi_listK K rfl (pe_slice (sl_listK K rfl) (pv 0) (po_some pe_int) (po_some pe_int))) (pg_name (i := 5) sc__law_row.nd rfl (by first | exact Or.inl rfl | exact Or.inr rfl)) (pss_cons (ps_set (i := 3) sc__law_row.nd rfl (by first | exact Or.inl rfl | exact Or.inr rfl) (pe_op op_add (pv 3) (pe_op op_mod (pe_callX D__law_mix (hr.mono (by decide)) rfl passN (pa_cons (pv 5) (pa_cons pe_int pa_nil))) (pe_ix (ix_listK K rfl) (pe_lst (pa_cons pe_int (pa_cons (pe_op op_pow pe_int pe_int) pa_nil))) (pv 1) (fun _ _ => rfl))))) (pss_cons (ps_set (i := 6) sc__law_row.nd rfl (by first | exact Or.inl rfl | exact Or.inr rfl) (pe_ix (ix_listK K rfl) (pe_lst (pa_cons pe_int (pa_cons (pe_op op_pow pe_int pe_int) pa_nil))) (pv 1) (fun _ _ => rfl))) (pss_cons (ps_set (i := 7) sc__law_row.nd rfl (by first | exact Or.inl rfl | exact Or.inr rfl) (pe_op op_mod (pe_callX D__law_mix (hr.mono (by decide)) rfl passN (pa_cons (pv 5) (pa_cons pe_int pa_nil))) (pv 2))) (pss_one (ps_expr (pe_bm PySem.F.plainAttrs_list PySem.F.slot_list_append PySem.F.type_list_append mt_append (pv 4) (pa_cons (pe_tup (pa_cons (pv 3) (pa_cons (pv 7) (pa_cons (pe_op op_add pe_int (pe_op op_mod (pe_callX D__law_mix (hr.mono (by decide)) rfl passN (pa_cons (pv 5) (pa_cons pe_int pa_nil))) (pv 6))) (pa_cons (pe_op op_add pe_int (pe_op op_mod (pe_callX D__law_mix (hr.mono (by decide)) rfl passN (pa_cons (pv 5) (pa_cons pe_int pa_nil))) (pv 6))) pa_nil))))) pa_nil)))))))) (pss_one (ps_ret (pv 4)))))), ?_⟩
    show tSeq _ _ _ [some (.ref a), some (.int way), some (.int few), none, none, none, none, none] H
    refine seq_step fun R hR => ?_
    walk_at "rd"
    refine hR _ _ ?_
    refine seq_step fun R hR => ?_
    walk_at "rd"
    intro l hl
    refine hR _ _ ?_
    have s1 := same_new (o := .lst []) hl
    refine seq_step fun R hR => ?_
    refine for_step fun Z hZ => ?_
    walk_at "rd"
    obtain ⟨ms, em, hm⟩ := cutV_ints ns (some 2) (some 42)
    have hm40 : ms.length ≤ 40 := by
      have e : (ms.map V.int).length = ms.length := List.length_map _
      rw [← e, ← em]
      unfold cutV
      rw [List.length_take]
      refine Nat.le_trans (Nat.min_le_left _ _) ?_
      rw [show (some (42 : Int)) = some ((42 : Nat) : Int) from rfl, show (some (2 : Int)) = some ((2 : Nat) : Int) from rfl, HT.sIx_nat, HT.sIx_nat]
      omega
    refine slL_at (s1.seq hS) fun p hp => ?_
    walk_at "rd"
    refine ⟨⟨_, .of upd_same⟩, hZ _ _ ?_⟩
    have s2 := same_new (o := .lst (cutV (ns.map V.int) (some 2) (some 42))) hp
    have hpl : p ≠ l := fun z => by rw [z, upd_same] at hp; cases hp
    have I0 : RowI H (upd (upd H l (.lst [])) p (.lst (cutV (ns.map V.int) (some 2) (some 42)))) p (ms.map V.int) l [] [] := ⟨s1.trans s2, by rw [upd_same, em], s2 _ _ upd_same, .nil⟩
    generalize upd (upd H l (.lst [])) p (.lst (cutV (ns.map V.int) (some 2) (some 42))) = H5 at I0 ⊢
    clear s1 s2 hp em
    refine for_list (xs := ms.map V.int) (fun i σ H' => ∃ at' ps qs v5 v6 v7, RowI H H' p (ms.map V.int) l ps qs ∧ qs.length = i ∧ σ = [some (.ref a), some (.int way), some (.int few), some (.int at'), some (.ref l), v5, v6, v7] ∧ Fits qs ∧ (∀ q ∈ qs, q.1 ≤ at') ∧ 0 ≤ at' ∧ at' ≤ i * 1000000)
      ⟨0, [], [], none, none, none, I0, rfl, rfl, ⟨fun q h => absurd h List.not_mem_nil, .nil⟩, fun q h => absurd h List.not_mem_nil, Int.le_refl _, by omega⟩ (fun i σ H' _ ⟨_, _, _, _, _, _, I, _⟩ => .of I.hp) ?_ ?_
    · rintro i x σ H6 hx ⟨at', ps, qs, v5, v6, v7, I, hi', rfl, sq, rat, at0, at1⟩
      obtain ⟨c, rfl⟩ : ∃ c, x = V.int c := by
        rw [List.getElem?_map] at hx
        cases e : ms[i]? with
        | none => rw [e] at hx; cases hx
        | some c => rw [e] at hx; exact ⟨c, (Option.some.inj hx).symm⟩
      have hil : i < ms.length := by simpa using (List.getElem?_eq_some_iff.mp hx).1
      show tSeq _ _ _ [some (.ref a), some (.int way), some (.int few), some (.int at'), some (.ref l), some (.int c), v6, v7] H6
      refine seq_step fun R hR => ?_
      walk_at "rd"
      refine ⟨_, _, rfl, by decide, by decide, fun m1 H7 s7 _ _ => ?_⟩
      have I := I.same s7
      walk_at "rd"
      intro q1 f1
      refine pickM [3, 10000] w0 w1 fun z hz => ?_
      have z0 : 0 < z ∧ z ≤ 1000000 := by
        simp only [List.mem_cons, List.not_mem_nil, or_false] at hz
        omega
      refine ⟨z, rfl, z0.1, hR _ _ ?_⟩
      have I := I.same (same_new (o := .lst (([3, 10000] : List Int).map V.int)) f1)
      generalize upd H7 q1 (.lst (([3, 10000] : List Int).map V.int)) = H8 at I ⊢
      have g0 := Int.emod_nonneg m1 (show z ≠ 0 by omega)
      have g1 := Int.emod_lt_of_pos m1 z0.1
      generalize hat : at' + m1 % z = at2
      have at20 : at' ≤ at2 := by omega
      have at21 : at2 ≤ at' + 1000000 := by omega
      clear hat g0 g1 f1 hz
      refine seq_step fun R hR => ?_
      walk_at "rd"
      intro q2 f2'
      refine pickM [9, 1000000] w0 w1 fun many hz => hR _ _ ?_
      have b1 : 0 < many ∧ many ≤ 1000000 := by
        simp only [List.mem_cons, List.not_mem_nil, or_false] at hz
        omega
      have I := I.same (same_new (o := .lst (([9, 1000000] : List Int).map V.int)) f2')
      generalize upd H8 q2 (.lst (([9, 1000000] : List Int).map V.int)) = H9 at I ⊢
      refine seq_step fun R hR => ?_
      walk_at "rd"
      refine ⟨_, _, rfl, by decide, by decide, fun m2 H10 s10 _ _ => ⟨_, rfl, few0, hR _ _ ?_⟩⟩
      have I := I.same s10
      refine nx_step fun R hR => ?_
      walk_at "rd"
      refine ⟨.inl ⟨rfl, _, .of I.hl⟩, _, _, rfl, by decide, by decide, fun m3 H11 s11 _ _ => ⟨_, rfl, b1.1, _, _, rfl, by decide, by decide, fun m4 H12 s12 _ _ => ⟨_, rfl, b1.1, fun t ht => ?_⟩⟩⟩
      have I := (I.same s11).same s12
      have l0 := Int.emod_nonneg m3 (show many ≠ 0 by omega)
      have l1 := Int.emod_lt_of_pos m3 b1.1
      have w0 := Int.emod_nonneg m2 (show few ≠ 0 by omega)
      have w1 := Int.emod_lt_of_pos m2 few0
      generalize hwho : m2 % few = who at ht w0 w1 ⊢
      generalize hle : 1 + m3 % many = le at ht ⊢
      generalize 1 + m4 % many = sh at ht ⊢
      have I2 := I.same (same_new (o := .tup [.int at2, .int who, .int le, .int sh]) ht)
      have rl := I2.r.len
      refine ⟨l, _, _, rfl, rfl, I2.hl, by rw [List.length_map]; exact line_lt (by omega), hR _ _ ?_⟩
      refine ⟨at2, ps ++ [t], qs ++ [(at2, who, le, sh)], _, _, _, I2.snoc (q := (at2, who, le, sh)) hl hpl upd_same, by simp [hi'], rfl, ⟨fun q h => ?_, ?_⟩, fun q h => ?_, by omega, by omega⟩
      · rcases List.mem_append.mp h with z | z
        · exact sq.1 q z
        · have : q = (at2, who, le, sh) := by simpa using z
          rw [this]
          exact ⟨by show 0 ≤ at2; omega, by show at2 ≤ 1000000000000; omega, by show 0 ≤ who; omega, by show who ≤ 11; omega, by show 1 ≤ le; omega, by show le ≤ 1000000; omega⟩
      · refine List.pairwise_append.mpr ⟨sq.2, List.pairwise_singleton _ _, fun x hx y hy => ?_⟩
        have : y = (at2, who, le, sh) := by simpa using hy
        rw [this]
        have := rat x hx
        show x.1 ≤ at2
        omega
      · rcases List.mem_append.mp h with z | z
        · have := rat q z; omega
        · have : q = (at2, who, le, sh) := by simpa using z
          rw [this]; exact Int.le_refl _
    · rintro σ H6 ⟨at', ps, qs, v5, v6, v7, I, hi', rfl, sq, rat, at0, at1⟩
      refine hR _ _ ?_
      walk_at "rd"
      rw [List.length_map] at hi'
      exact k _ l ps qs I.sm hl ⟨I.hl, I.r⟩ (by omega) sq
def spLine19 : Sp := fun vs H Q _ => ∃ (c way : Int), vs = [.int c, .int way] ∧ 0 ≤ way ∧ way < 2 ∧ ∀ v l H', Same H H' → LnAt H' v l → LnOk l → Q v H'
theorem d__law_line (T : Txt K mg c_WheelError c_NoRatio c_NoCurb c_Short c_Bucket) : Def P w K mg base (CXX P w) 2 "_law_line" ["_law_cell", "_law_way"] spLine19 := by
  have D__law_mix := d__law_mix (P := P) (w := w) (base := base) T
  have D__law_divisor := d__law_divisor (P := P) (w := w) (base := base) T
  refine T.src__law_line.okN (k := 1) sc__law_line (fun vs H Q E h => ?_) (fun f cdv A outer s H vs Q E hr h => ?_)
  · obtain ⟨c, way, rfl, _⟩ := h
    rfl
  · obtain ⟨c, way, rfl, w0, w1, k⟩ := h
    refine ⟨_, (pss_cons (ps_if (pt_cmpR op_eq (pe_op op_mod (pv 0) pe_int) pe_int (nomark _)) (pss_one (ps_ret pe_non)) pss_nil) (pss_cons (ps_set (i := 2) sc__law_line.nd rfl (by first | exact Or.inl rfl | exact Or.inr rfl) (pe_op op_mod (pe_callX D__law_mix (hr.mono (by decide)) rfl passN (pa_cons (pv 0) (pa_cons pe_int pa_nil))) (pe_ix (ix_listK K rfl) (pe_lst (pa_cons pe_int (pa_cons (pe_op op_pow pe_int pe_int) pa_nil))) (pv 1) (fun _ _ => rfl)))) (pss_cons (ps_set (i := 3) sc__law_line.nd rfl (by first | exact Or.inl rfl | exact Or.inr rfl) (pe_op op_add pe_int (pe_op op_mod (pe_callX D__law_mix (hr.mono (by decide)) rfl passN (pa_cons (pv 0) (pa_cons pe_int pa_nil))) (pe_ix (ix_listK K rfl) (pe_lst (pa_cons pe_int (pa_cons pe_int pa_nil))) (pv 1) (fun _ _ => rfl))))) (pss_cons (ps_if (pt_cmpR op_eq (pe_op op_mod (pv 0) pe_int) pe_int (nomark _)) (pss_one (ps_set (i := 2) sc__law_line.nd rfl (by first | exact Or.inl rfl | exact Or.inr rfl) pe_int)) pss_nil) (pss_cons (ps_set (i := 4) sc__law_line.nd rfl (by first | exact Or.inl rfl | exact Or.inr rfl) (pe_callX D__law_divisor (hr.mono (by decide)) rfl passN (pa_cons (pv 2) (pa_cons (pv 3) pa_nil)))) (pss_one (ps_ret (pe_tup (pa_cons (pe_op op_add pe_int (pe_op op_mod (pe_callX D__law_mix (hr.mono (by decide)) rfl passN (pa_cons (pv 0) (pa_cons pe_int pa_nil))) (pe_ix (ix_listK K rfl) (pe_lst (pa_cons pe_int (pa_cons (pe_op op_mulL pe_int (pe_op op_pow pe_int pe_int)) pa_nil))) (pv 1) (fun _ _ => rfl)))) (pa_cons (pe_tup (pa_cons (pe_op op_fdivL (pv 2) (pv 4)) (pa_cons (pe_op op_fdivL (pv 3) (pv 4)) pa_nil))) pa_nil)))))))))), ?_⟩
    show tSeq _ _ _ [some (.int c), some (.int way), none, none, none] H
    refine seq_step fun R hR => ?_
    walk_at "rd"
    refine ite2 (fun _ => k .non none H (Same.refl _) rfl fun b r z => by cases z) fun _ => hR _ _ ?_
    refine seq_step fun R hR => ?_
    walk_at "rd"
    refine ⟨_, _, rfl, by decide, by decide, fun m1 H1 s1 _ _ => ?_⟩
    walk_at "rd"
    intro q2 f2'
    refine pickM [12, 100000] w0 w1 fun y hy => ?_
    have y0 : 0 < y ∧ y ≤ 100000 := by
      simp only [List.mem_cons, List.not_mem_nil, or_false] at hy
      omega
    refine ⟨y, rfl, y0.1, hR _ _ ?_⟩
    have sm := s1.trans (same_new (o := .lst (([12, 100000] : List Int).map V.int)) f2')
    generalize upd H1 q2 (.lst (([12, 100000] : List Int).map V.int)) = H2 at sm ⊢
    have t0 := Int.emod_nonneg m1 (show y ≠ 0 by omega)
    have t1 := Int.emod_lt_of_pos m1 y0.1
    generalize m1 % y = top at t0 t1 ⊢
    refine seq_step fun R hR => ?_
    walk_at "rd"
    refine ⟨_, _, rfl, by decide, by decide, fun m2 H3 s3 _ _ => ?_⟩
    walk_at "rd"
    intro q3 f3
    refine pickM [7, 1000] w0 w1 fun x hx => ?_
    have x0 : 0 < x ∧ x ≤ 1000 := by
      simp only [List.mem_cons, List.not_mem_nil, or_false] at hx
      omega
    refine ⟨x, rfl, x0.1, hR _ _ ?_⟩
    have sm := (sm.trans s3).trans (same_new (o := .lst (([7, 1000] : List Int).map V.int)) f3)
    generalize upd H3 q3 (.lst (([7, 1000] : List Int).map V.int)) = H4 at sm ⊢
    have u0 := Int.emod_nonneg m2 (show x ≠ 0 by omega)
    have u1 := Int.emod_lt_of_pos m2 x0.1
    generalize hbo : 1 + m2 % x = bot
    have v0 : 0 < bot ∧ bot ≤ 1000 := by omega
    clear hbo u0 u1 f3 f2' hx hy s1 s3
    refine seq_step fun R hR => ?_
    have key : ∀ top : Int, 0 ≤ top → top ≤ 100000 → R [some (.int c), some (.int way), some (.int top), some (.int bot), none] H4 := fun top h1 h2 => by
      refine hR _ _ ?_
      refine seq_step fun R hR => ?_
      walk_at "rd"
      refine ⟨top, bot, rfl, by omega, hR _ _ ?_⟩
      have sb : Sw.Sz 70 bot := Sw.Sz.r18 (by omega) (by omega)
      have stp : Sw.Sz 70 top := Sw.Sz.r18 (by omega) (by omega)
      have hg : 0 < Sw.dv top bot := Sw.dv_pos (by omega)
      have hz : Sw.Sz 5000 (Sw.dv top bot) := (sb.dvd (Sw.dv_r top bot) (by omega)).mono (by decide)
      walk_at "rd"
      refine ⟨_, _, rfl, by decide, by decide, fun m3 H5 s5 _ _ => ?_⟩
      walk_at "rd"
      intro q4 f4
      refine pickM [40, 4000000] w0 w1 fun z hz2 => ?_
      have z0 : 0 < z ∧ z ≤ 4000000 := by
        simp only [List.mem_cons, List.not_mem_nil, or_false] at hz2
        omega
      have g0 := Int.emod_nonneg m3 (show z ≠ 0 by omega)
      have g1 := Int.emod_lt_of_pos m3 z0.1
      have sm := (sm.trans s5).trans (same_new (o := .lst (([40, 4000000] : List Int).map V.int)) f4)
      generalize upd H5 q4 (.lst (([40, 4000000] : List Int).map V.int)) = H6 at sm ⊢
      refine ⟨z, rfl, z0.1, ?_⟩
      generalize hb : 1 + m3 % z = b
      walk_at "rd"
      refine ⟨⟨hg, hz⟩, ⟨hg, hz⟩, fun p hp ln hln => ?_⟩
      have e := fq_low (t := top) v0.1
      rw [e] at hln ⊢
      have n2 := same_new (o := .tup [.int b, .ref p]) hln
      refine k (.ref ln) (some (b, _)) _ ((sm.trans (same_new hp)).trans n2) ⟨ln, p, rfl, upd_same, n2 _ _ upd_same⟩ fun b' r' z' => ?_
      cases z'
      refine ⟨by omega, by omega, ?_, .of (by omega) rfl stp sb⟩
      have : ¬ (top : Rat) / (bot : Rat) < 0 := by
        rw [Rat.div_lt_iff (Sw.q_cast_pos v0.1), Rat.zero_mul]
        intro z
        have z' : (top : Rat) < ((0 : Int) : Rat) := z
        rw [Rat.intCast_lt_intCast] at z'
        omega
      grind
    walk_at "rds"
    exact ite2 (fun _ => key _ (by omega) (by omega)) fun _ => key _ (by omega) (by omega)
def plV (j : Nat) : V := .int j
def spDue19 : Sp := fun vs H Q _ => ∃ l ps qs pl lv ls, vs = [.ref l, .ref pl] ∧ Row H l ps qs ∧ Fits qs ∧ qs.length ≤ 60 ∧ H pl = some (.lst lv) ∧ LnsAt H lv ls ∧ (∀ l ∈ ls, LnOk l) ∧ ls.length ≤ 12 ∧
  ∀ t kl pk d kvs H', Same H H' → H' t = some (.tup [.ref kl, .ref d]) → Row H' kl pk (Sw.dueF (lnOf ls) qs) → H' d = some (.dK kvs) → (∀ w, valV kvs (Sum.inl w : Key) = (Sw.lostF (lnOf ls) qs w qs.length).map plV) → Q (.ref t) H'
theorem d__law_due (T : Txt K mg c_WheelError c_NoRatio c_NoCurb c_Short c_Bucket) : Def P w K mg base (CXX P w) 2 "_law_due" ["_law_row_here", "_law_lines"] spDue19 := by
  have D__law_too_much := d__law_too_much (P := P) (w := w) (base := base) T
  refine T.src__law_due.okN (k := 1) sc__law_due (fun vs H Q E h => ?_) (fun f cdv A outer s H vs Q E hr h => ?_)
  · obtain ⟨l, ps, qs, pl, lv, ls, rfl, _⟩ := h
    rfl
  · obtain ⟨l, ps, qs, pl, lv, ls, rfl, R0, fit, lq, hl, la, lok, len, k⟩ := h
    refine ⟨_, (pss_cons (ps_set (i := 2) sc__law_due.nd rfl (by first | exact Or.inl rfl | exact Or.inr rfl) (pe_lst pa_nil)) (pss_cons (ps_set (i := 3) sc__law_due.nd rfl (by first | exact Or.inl rfl | exact Or.inr rfl) pe_dnewK) (pss_cons (ps_for PassesOwn.never rfl (pi_enumK K rfl rfl T.no_enumerate (pa_cons (pv 0) pa_nil)) (pg_tupK (n := 2) K rfl rfl (pgs_cons (pg_name (i := 4) sc__law_due.nd rfl (by first | exact Or.inl rfl | exact Or.inr rfl)) (pgs_cons (pg_name (i := 5) sc__law_due.nd rfl (by first | exact Or.inl rfl | exact Or.inr rfl)) pgs_nil))) (pss_cons (ps_set (i := 6) sc__law_due.nd rfl (by first | exact Or.inl rfl | exact Or.inr rfl) pe_non) (pss_cons (ps_if (pt_cmpR op_lt (pe_ix (ix_tupK K rfl) (pv 5) pe_int (fun _ _ => rfl)) (pe_callB (call_lenK K rfl) rfl T.no_len boot_len (pa_cons (pv 1) pa_nil)) (nomark _)) (pss_one (ps_set (i := 6) sc__law_due.nd rfl (by first | exact Or.inl rfl | exact Or.inr rfl) (pe_ix (ix_listK K rfl) (pv 1) (pe_ix (ix_tupK K rfl) (pv 5) pe_int (fun _ _ => rfl)) (fun _ _ => rfl)))) pss_nil) (pss_one (ps_if (PW.pt (pw_or (pt_cmpR op_isN (pv 6) pe_non (nomark _)) (pw_or1 (pt_not (pt_val (pe_callX D__law_too_much (hr.mono (by decide)) rfl passN (pa_cons (pv 2) (pa_cons (pv 5) (pa_cons (pv 6) pa_nil))))))))) (pss_one (ps_expr (pe_bm PySem.F.plainAttrs_list PySem.F.slot_list_append PySem.F.type_list_append mt_append (pv 2) (pa_cons (pv 5) pa_nil)))) (pss_one (ps_expr (pe_dsd (pv 3) (pe_ix (ix_tupK K rfl) (pv 5) pe_int (fun _ _ => rfl)) (pv 4) ⟨rfl, rfl, rfl, rfl⟩)))))))) (pss_one (ps_ret (pe_tup (pa_cons (pv 2) (pa_cons (pv 3) pa_nil)))))))), ?_⟩
    show tSeq _ _ _ [some (.ref l), some (.ref pl), none, none, none, none, none] H
    have lps := R0.r.len
    have ll := Paired.length la
    refine seq_step fun R hR => ?_
    walk_at "rd"
    intro kl hkl
    refine hR _ _ ?_
    have s1 := same_new (o := .lst []) hkl
    have hk1 : upd H kl (.lst []) kl = some (.lst (([] : List Addr).map V.ref)) := upd_same
    generalize upd H kl (.lst []) = H1 at s1 hk1 ⊢
    refine seq_step fun R hR => ?_
    walk_at "rd"
    intro d hd0
    refine hR _ _ ?_
    have s2 := same_new (o := .dK []) hd0
    have d0 := s1.free hd0
    have hk1 := s2 _ _ hk1
    have hd1 : upd H1 d (.dK []) d = some (.dK []) := upd_same
    have s1 := s1.trans s2
    generalize upd H1 d (.dK []) = H2 at s1 hk1 hd1 ⊢
    clear s2 hd0
    refine seq_step fun R hR => ?_
    refine for_step fun Z hZ => ?_
    walk_at "rd"
    refine ⟨⟨_, .of (s1 _ _ R0.hl)⟩, hZ _ _ ?_⟩
    refine for_enum (K := K) (a := l) (xs := ps.map V.ref) (fun i σ H' => ∃ pk kvs v4 v5 v6, σ = [some (.ref l), some (.ref pl), some (.ref kl), some (.ref d), v4, v5, v6] ∧ Same H H' ∧ Row H' kl pk (Sw.dueF (lnOf ls) (qs.take i)) ∧ H' d = some (.dK kvs) ∧ kvs.length ≤ i ∧ ∀ w, valV kvs (Sum.inl w : Key) = (Sw.lostF (lnOf ls) qs w i).map plV)
      ⟨[], [], none, none, none, rfl, s1, ⟨hk1, by rw [List.take_zero]; exact .nil⟩, hd1, Nat.le_refl _, fun w => rfl⟩ (fun i σ H' _ ⟨_, _, _, _, _, _, sm, _⟩ => .of (sm _ _ R0.hl)) ?_ ?_
    · rintro i x σ H3 pt hx ⟨pk, kvs, v4, v5, v6, rfl, sm, RK, hd, kvl, lost⟩ hpt
      obtain ⟨p, hp, rfl⟩ : ∃ p, ps[i]? = some p ∧ V.ref p = x := by simpa using hx
      obtain ⟨q, hq1, hq2⟩ := R0.r.get hp
      have pok := fit.1 q (List.mem_of_getElem? hq1)
      have hi : i < qs.length := (List.getElem?_eq_some_iff.mp hq1).1
      have sn := same_new (o := .tup [.int i, .ref p]) hpt
      have sm := sm.trans sn
      have hd := sn _ _ hd
      have RK := RK.same sn
      have hq2 := sm _ _ hq2
      refine ⟨pt, _, rfl, .of upd_same, rfl, _, _, rfl, _, _, rfl, rfl, ?_⟩
      generalize upd H3 pt (.tup [.int i, .ref p]) = H4 at sm hd RK hq2 ⊢
      clear sn hpt
      show tSeq _ _ _ [some (.ref l), some (.ref pl), some (.ref kl), some (.ref d), some (.int i), some (.ref p), v6] H4
      have kl60 : (Sw.dueF (lnOf ls) (qs.take i)).length ≤ i := by
        have := Sw.dueF_len (lnOf ls) (qs.take i)
        rw [List.length_take] at this
        omega
      have pkl := RK.r.len
      have dn := Sw.dueF_next (ln := lnOf ls) hq1
      have ln1 : ∀ w, Sw.lostF (lnOf ls) qs w (i + 1) = match Sw.lostF (lnOf ls) qs w i with
          | some j => some j
          | none => if q.2.1 = w ∧ Sw.keepsF (lnOf ls) (Sw.dueF (lnOf ls) (qs.take i)) q = false then some i else none := fun w => by
        show (match Sw.lostF (lnOf ls) qs w i with | some j => some j | none => match qs[i]? with | some q => _ | none => none) = _
        rw [hq1]
      refine seq_step fun R hR => ?_
      walk_at "rd"
      refine hR _ _ ?_
      refine seq_step fun R hR => ?_
      have key : ∀ v, LnAt H4 v (lnOf ls q.2.1) → R [some (.ref l), some (.ref pl), some (.ref kl), some (.ref d), some (.int i), some (.ref p), some v] H4 := by
        intro v hv
        refine hR _ _ ?_
        refine nx_step fun R hR => ?_
        have keep : Sw.keepsF (lnOf ls) (Sw.dueF (lnOf ls) (qs.take i)) q = true → ∀ H5, Same H4 H5 → R [some (.ref l), some (.ref pl), some (.ref kl), some (.ref d), some (.int i), some (.ref p), some v] (upd H5 kl (.lst (pk.map V.ref ++ [.ref p]))) := by
          intro kp H5 s5
          have RK := RK.same s5
          have kt : ∀ b xs, H5 b = some (.tup xs) → upd H5 kl (.lst (pk.map V.ref ++ [.ref p])) b = some (.tup xs) := fun b xs e => by rw [upd_ne (ne_of e RK.hl (by intro z; cases z))]; exact e
          refine hR _ _ ⟨pk ++ [p], kvs, _, _, _, rfl, fun b o e => ?_, ⟨by rw [upd_same, List.map_append]; rfl, ?_⟩, by rw [upd_ne (ne_of (s5 _ _ hd) RK.hl (by intro z; cases z))]; exact s5 _ _ hd, by omega, fun w => ?_⟩
          · rw [upd_ne (ne_of_none e hkl)]; exact s5 _ _ (sm _ _ e)
          · rw [dn]; unfold Sw.stepF; rw [if_pos kp]
            exact Tups.snoc (kt _ _ (s5 _ _ hq2)) (RK.r.keep kt)
          · rw [lost w, ln1 w]
            cases Sw.lostF (lnOf ls) qs w i with
            | some j => rfl
            | none => dsimp only; rw [if_neg (by rw [kp]; simp)]
        cases e : lnOf ls q.2.1 with
        | none =>
          have kp : Sw.keepsF (lnOf ls) (Sw.dueF (lnOf ls) (qs.take i)) q = true := by unfold Sw.keepsF; rw [e]
          rw [e] at hv
          have hv : v = .non := hv
          subst hv
          walk_at "rd"
          refine ⟨tyL_at RK.hl, app_at RK.hl (by rw [List.length_map]; omega) (keep kp H4 (Same.refl _))⟩
        | some z =>
          obtain ⟨b, r⟩ := z
          rw [e] at hv
          obtain ⟨lna, pr, rfl, h1, h2⟩ := hv
          have bd := lnOf_ok lok e
          have kv : Sw.keepsF (lnOf ls) (Sw.dueF (lnOf ls) (qs.take i)) q = !Sw.tooF (b * (r.den : Int)) r.num (r.den : Int) q.1 ((q.1, q.2.2.1) :: Sw.paysF (Sw.dueF (lnOf ls) (qs.take i)) q.2.1) 0 := by unfold Sw.keepsF; rw [e]
          walk_at "rd"
          rw [if_neg (by intro z; cases z)]
          refine ⟨kl, pk, _, p, q, lna, pr, b, r, rfl, RK, by omega, hq2, h1, h2, bd, fun z hz => ?_, fun H5 s5 => ?_⟩
          · have : z ∈ qs := by
              rcases List.mem_append.mp hz with y | y
              · exact List.mem_of_mem_take (Sw.dueF_sub _ _ z y)
              · have : z = q := by simpa using y
                rw [this]; exact List.mem_of_getElem? hq1
            have := fit.1 z this
            exact ⟨this.1, this.2.1, this.2.2.2.2.1, this.2.2.2.2.2⟩
          generalize Sw.tooF (b * (r.den : Int)) r.num (r.den : Int) q.1 ((q.1, q.2.2.1) :: Sw.paysF (Sw.dueF (lnOf ls) (qs.take i)) q.2.1) 0 = tm at kv ⊢
          cases tm with
          | false =>
            walk_at "rd"
            refine ⟨tyL_at (s5 _ _ RK.hl), app_at (s5 _ _ RK.hl) (by rw [List.length_map]; omega) (keep kv H5 s5)⟩
          | true =>
            walk_at "rd"
            have kv : Sw.keepsF (lnOf ls) (Sw.dueF (lnOf ls) (qs.take i)) q = false := kv
            have ebk : Sw.dueF (lnOf ls) (qs.take (i + 1)) = Sw.dueF (lnOf ls) (qs.take i) := by rw [dn]; unfold Sw.stepF; rw [if_neg (by rw [kv]; decide)]
            have hd5 := s5 _ _ hd
            have RK5 := RK.same s5
            refine ⟨.inl ⟨kvs, .inl hd5⟩, ixT_at (.of (s5 _ _ hq2)) rfl ?_⟩
            cases el : Sw.lostF (lnOf ls) qs q.2.1 i with
            | some j =>
              refine ⟨plV j, H5, ⟨kvs, Sum.inl q.2.1, hd5, rfl, line_lt (by omega), .inl ⟨by rw [lost, el]; rfl, rfl⟩⟩, hR _ _ ⟨pk, kvs, _, _, _, rfl, sm.trans s5, by rw [ebk]; exact RK5, hd5, by omega, fun w => ?_⟩⟩
              rw [lost w, ln1 w]
              cases ew : Sw.lostF (lnOf ls) qs w i with
              | some j' => rfl
              | none =>
                dsimp only
                rw [if_neg (fun z => by rw [← z.1, el] at ew; cases ew)]
            | none =>
              have lput := length_putK kvs (Sum.inl q.2.1 : Key) (.int i)
              refine ⟨.int i, _, ⟨kvs, Sum.inl q.2.1, hd5, rfl, line_lt (by omega), .inr ⟨by rw [lost, el]; rfl, rfl, rfl⟩⟩, hR _ _ ⟨pk, _, _, _, _, rfl, fun b' o h => ?_, ?_, upd_same, by omega, fun w => ?_⟩⟩
              · rw [upd_ne (ne_of_none h d0)]; exact s5 _ _ (sm _ _ h)
              · rw [ebk]
                exact ⟨by rw [upd_ne (ne_of RK5.hl hd5 (by intro z; cases z))]; exact RK5.hl, RK5.r.keep fun p' z e' => by rw [upd_ne (ne_of e' hd5 (by intro w; cases w))]; exact e'⟩
              · rw [valV_put, ln1 w]
                by_cases ew : w = q.2.1
                · subst ew
                  rw [if_pos rfl, el]
                  dsimp only
                  rw [if_pos ⟨rfl, kv⟩]
                  rfl
                · rw [if_neg (fun y => ew (Sum.inl.inj y)), lost w]
                  cases Sw.lostF (lnOf ls) qs w i with
                  | some j => rfl
                  | none =>
                    dsimp only
                    rw [if_neg (fun z => ew z.1.symm)]
      walk_at "rd"
      refine ixT_at (.of hq2) rfl ?_
      walk_at "rd"
      refine len_at (.of (sm _ _ hl)) ?_
      walk_at "rd"
      refine ite2 (fun hc => ?_) fun hc => key .non ?_
      · have hw : q.2.1.toNat < lv.length := by omega
        have hv : lv[q.2.1.toNat]? = some (lv[q.2.1.toNat]'hw) := List.getElem?_eq_getElem _
        obtain ⟨l', hl', hla⟩ := paired_get la hv
        have el : lnOf ls q.2.1 = l' := by unfold lnOf; rw [if_pos pok.2.2.1, hl']; rfl
        have hix := atI_nat (xs := lv) (j := q.2.1.toNat) hv
        rw [Int.toNat_of_nonneg pok.2.2.1] at hix
        refine ixT_at (.of hq2) rfl (ixL_at (.of (sm _ _ hl)) hix ?_)
        refine key _ ?_
        rw [el]
        exact hla.keep fun _ _ z => sm _ _ z
      · have el : lnOf ls q.2.1 = none := by
          unfold lnOf
          rw [if_pos pok.2.2.1, List.getElem?_eq_none (by omega)]
          rfl
        rw [el]
        rfl
    · rintro σ H3 ⟨pk, kvs, v4, v5, v6, rfl, sm, RK, hd, kvl, lost⟩
      refine hR _ _ ?_
      walk_at "rd"
      intro t ht
      have sn := same_new (o := .tup [.ref kl, .ref d]) ht
      rw [List.length_map, lps, List.take_length] at RK
      rw [List.length_map, lps] at lost
      exact k t kl pk d kvs _ (sm.trans sn) upd_same (RK.same sn) (sn _ _ hd) lost
def spAlike19 : Sp := fun vs H Q _ => ∃ f pf d pd ks, vs = [.ref f, .ref d] ∧ Row H f pf ks ∧ Row H d pd ks ∧ ks.length ≤ 60 ∧ ∀ H', Same H H' → Q (.bl true) H'
theorem d__law_alike (T : Txt K mg c_WheelError c_NoRatio c_NoCurb c_Short c_Bucket) : Def P w K mg base (CXX P w) 1 "_law_alike" ["_law_found", "_law_due_here"] spAlike19 := by
  refine T.src__law_alike.okN (k := 0) sc__law_alike (fun vs H Q E h => ?_) (fun f cdv A outer s H vs Q E hr h => ?_)
  · obtain ⟨f, pf, d, pd, ks, rfl, _⟩ := h
    rfl
  · obtain ⟨fo, pf, d, pd, ks, rfl, R1, R2, lk, k⟩ := h
    refine ⟨_, (pss_cons (ps_if (PW.pt (pw_or (pt_not (pt_val (pe_callB (call_isinstK K rfl) rfl T.no_isinstance boot_isinstance (pa_cons (pv 0) (pa_cons (pe_bltn (v := .ty "list") rfl T.no_list boot_list rfl) pa_nil))))) (pw_or1 (pt_cmpR (op_neDK K rfl hr.units) (pv 0) (pv 1) (nomark _))))) (pss_one (ps_ret pe_bl)) pss_nil) (pss_cons (ps_for PassesOwn.never rfl (pi_listK K rfl (pv 0)) (pg_name (i := 2) sc__law_alike.nd rfl (by first | exact Or.inl rfl | exact Or.inr rfl)) (pss_one (ps_if (PW.pt (pw_or (pt_not (pt_val (pe_callB (call_isinstK K rfl) rfl T.no_isinstance boot_isinstance (pa_cons (pv 2) (pa_cons (pe_bltn (v := .ty "tuple") rfl T.no_tuple boot_tuple rfl) pa_nil))))) (pw_or1 (pt_val (pe_callB (call_anyK K rfl rfl) rfl T.no_any boot_any (pa_cons (pe_lc ["_law_number"] [] rfl (by with_unfolding_all rfl) (by decide +kernel) rfl (by decide +kernel) (by exact True.intro) (by with_unfolding_all rfl) True.intro (pi_tupK K rfl (pv 2)) (fun _ _ _ => (pg_name (i := 0) (show (["_law_number"] : List Str).Nodup from by decide +kernel) rfl (by first | exact Or.inl rfl | exact Or.inr rfl))) (fun _ _ _ => pifs_nil) (fun _ _ _ => (pe_callB (call_isinstK K rfl) rfl T.no_isinstance boot_isinstance (pa_cons (pv 0) (pa_cons (pe_bltn (v := .ty "bool") rfl T.no_bool boot_bool rfl) pa_nil))))) pa_nil)))))) (pss_one (ps_ret pe_bl)) pss_nil))) (pss_one (ps_ret pe_bl)))), ?_⟩
    show tSeq _ _ _ [some (.ref fo), some (.ref d), none] H
    have lpf := R1.r.len
    refine seq_step fun R hR => ?_
    walk_at "rd"
    refine ⟨_, _, _, _, true, rfl, rfl, .lst R1.hl, kit_list, ?_⟩
    walk_at "rd"
    refine ne_same R1.deep R2.deep (shaped_row ks) ?_
    walk_at "rd"
    refine hR _ _ ?_
    refine seq_step fun R hR => ?_
    refine for_step fun Z hZ => ?_
    walk_at "rd"
    refine ⟨⟨_, .of R1.hl⟩, hZ _ _ ?_⟩
    refine for_list (K := K) (a := fo) (xs := pf.map V.ref) (fun i σ H' => Same H H' ∧ ∃ v2, σ = [some (.ref fo), some (.ref d), v2]) ⟨Same.refl _, none, rfl⟩ (fun i σ H' _ ⟨sm, _⟩ => .of (sm _ _ R1.hl)) ?_ ?_
    · rintro i x σ H' hx ⟨sm, v2, rfl⟩
      obtain ⟨p, hp, rfl⟩ : ∃ p, pf[i]? = some p ∧ V.ref p = x := by simpa using hx
      obtain ⟨q, hq1, hq2⟩ := R1.r.get hp
      have hp2 := sm _ _ hq2
      show tIfS _ _ _ _ [some (.ref fo), some (.ref d), some (.ref p)] _
      refine nx_step fun R hR => ?_
      walk_at "rd"
      refine ⟨_, _, _, _, true, rfl, rfl, .tup hp2, kit_tuple, ?_⟩
      walk_at "rd"
      refine ⟨⟨_, .of hp2⟩, fun D hD => ?_⟩
      refine comp_walkT (xs := q4 q) (fun i τ H2 => (∃ v, τ = [v]) ∧ H2 = upd H' D (.lst (List.replicate i (.bl false)))) ⟨⟨_, rfl⟩, rfl⟩ (fun i τ H2 _ ⟨_, e⟩ => by rw [e]; exact .of (same_new hD _ _ hp2)) ?_ ?_
      · rintro j x τ H2 hx ⟨⟨v, rfl⟩, rfl⟩
        obtain ⟨n, rfl⟩ : ∃ n, x = V.int n := by
          have := List.mem_of_getElem? hx
          unfold q4 at this
          simp at this
          rcases this with z | z | z | z <;> exact ⟨_, z⟩
        have hj : j < 4 := (List.getElem?_eq_some_iff.mp hx).1
        walk_at "rd"
        unfold tYes
        walk_at "rd"
        refine ⟨_, _, _, _, false, rfl, rfl, .int n, kit_int_bool, ?_⟩
        refine ⟨_, upd_same, line_lt (by simp; omega), ?_⟩
        rw [upd_upd, List.replicate_succ']
      · rintro τ H2 ⟨_, rfl⟩
        refine ⟨D, List.replicate 4 false, rfl, .of upd_same, ?_⟩
        walk_at "rd"
        exact hR _ _ ⟨sm.trans (same_new hD), _, rfl⟩
    · rintro σ H' ⟨sm, v2, rfl⟩
      refine hR _ _ ?_
      walk_at "rd"
      exact k _ sm
def lnD : Ln → PyData
  | none => .none
  | some z => .tuple [.int z.1, .tuple [.int z.2.num, .int (z.2.den : Int)]]
theorem lnD_lay (l : Ln) : (lnD l).canLay0 = true := by cases l <;> rfl
theorem lnD_depth (l : Ln) : (lnD l).depth ≤ 2 := by
  cases l with
  | none => simp [lnD, PyData.depth]
  | some z => simp [lnD, PyData.depth, PyData.depthAll]
theorem lns_deep {K : PySem.W.Frag} {H : Hp} : ∀ {vs : List V} {ls : List Ln}, LnsAt H vs ls → DeepAll K H vs (ls.map lnD)
  | _, _, Paired.nil => .nil
  | _, _, Paired.cons (b := l) a b => by
    refine .cons ?_ (lns_deep b)
    cases l with
    | none =>
      have a : _ = V.non := a
      subst a
      exact .non
    | some z =>
      obtain ⟨ln, pr, rfl, h2, h3⟩ := a
      exact .tup (.of h2) (.cons (.int _) (.cons (fq_deep h3) .nil))
theorem shaped_lns (ls : List Ln) : PySem.SeqAt.shaped (.list (ls.map lnD)) = true := shaped_list lnD_lay lnD_depth (by decide) ls
theorem shaped_both (qs : List Q4) (ls : List Ln) : PySem.SeqAt.shaped (.list [.list (qs.map q4D), .list (ls.map lnD)]) = true := by
  have ha := shaped_row qs
  have hb := shaped_lns ls
  have da := depth_all q4D_depth qs
  have db := depth_all lnD_depth ls
  unfold PySem.SeqAt.shaped at ha hb ⊢
  rw [Bool.and_eq_true, decide_eq_true_eq] at ha hb ⊢
  refine ⟨?_, ?_⟩
  · simp only [PyData.canLay0, PyData.canLayAll0] at ha hb ⊢
    simp only [ha.1, hb.1, Bool.and_self]
  · simp only [PyData.depth, PyData.depthAll]
    omega
theorem due_sublist (ln : Sw.Lines) (qs : List Q4) : (Sw.dueF ln qs).Sublist qs := by
  induction qs using Sw.snoc_ind with
  | h0 => exact List.Sublist.refl _
  | h1 l a ih =>
    rw [Sw.dueF_snoc]
    unfold Sw.stepF
    split
    · exact List.Sublist.append ih (List.Sublist.refl _)
    · exact List.Sublist.trans ih (List.sublist_append_left _ _)
theorem Fits.due {qs : List Q4} (h : Fits qs) (ln : Sw.Lines) : Fits (Sw.dueF ln qs) := ⟨fun q z => h.1 q ((due_sublist ln qs).mem z), List.Pairwise.sublist (due_sublist ln qs) h.2⟩
theorem ok_law {f : Addr} {fd : FuncData} (F : Fun K "law" "law" s_law f fd) (T : Txt K mg c_WheelError c_NoRatio c_NoCurb c_Short c_Bucket) : FnOk P w K mg base CX0 7 f fd ["_law_script"] (spLaw K) := by
  have D__law_cell_at := d__law_cell_at (P := P) (w := w) (base := base) T
  have D__law_row := d__law_row (P := P) (w := w) (base := base) T
  have D__law_line := d__law_line (P := P) (w := w) (base := base) T
  have D__law_due := d__law_due (P := P) (w := w) (base := base) T
  have D__law_alike := d__law_alike (P := P) (w := w) (base := base) T
  have D_clipped := d_clipped (P := P) (w := w) (base := base) T
  have D_breach := d_breach (P := P) (w := w) (base := base) T
  refine F.ok sc_law (fun vs H Q E h => ?_) (fun cdv A outer s H vs Q E hr h => ?_)
  · obtain ⟨a, ns, rfl, _⟩ := h
    rfl
  · obtain ⟨a, ns, rfl, hS, hlen, k⟩ := h
    refine ⟨_, (pss_cons (ps_set (i := 1) sc_law.nd rfl (by first | exact Or.inl rfl | exact Or.inr rfl) (pe_callX D__law_cell_at (hr.mono (by decide)) rfl passN (pa_cons (pv 0) (pa_cons pe_int pa_nil)))) (pss_cons (ps_set (i := 2) sc_law.nd rfl (by first | exact Or.inl rfl | exact Or.inr rfl) (pe_op op_mod (pv 1) pe_int)) (pss_cons (ps_set (i := 3) sc_law.nd rfl (by first | exact Or.inl rfl | exact Or.inr rfl) (pe_callX D__law_row (hr.mono (by decide)) rfl passN (pa_cons (pv 0) (pa_cons (pv 2) (pa_cons (pe_op op_add pe_int (pe_op op_mod (pe_op op_fdivL (pv 1) pe_int) pe_int)) pa_nil))))) (pss_cons (ps_set (i := 4) sc_law.nd rfl (by first | exact Or.inl rfl | exact Or.inr rfl) (pe_callX D__law_cell_at (hr.mono (by decide)) rfl passN (pa_cons (pv 0) (pa_cons pe_int pa_nil)))) (pss_cons (ps_setL (i0 := 5) ["_law_k"] [("_law_way", 2), ("_law_second", 4)] rfl (by with_unfolding_all rfl) (by decide +kernel) rfl (by decide +kernel) (by exact ⟨rfl, ⟨rfl, True.intro⟩⟩) (by with_unfolding_all rfl) ⟨⟨rfl, rfl, rfl⟩, ⟨⟨rfl, rfl, rfl⟩, True.intro⟩⟩ (pi_range1 rfl T.no_range (pa_cons (pe_op op_mod (pv 4) pe_int) pa_nil)) (fun _ _ _ => (pg_name (i := 0) (show (["_law_k", "_law_way", "_law_second"] : List Str).Nodup from by decide +kernel) rfl (by first | exact Or.inl rfl | exact Or.inr rfl))) (fun _ _ _ => pifs_nil) (fun _ _ _ => (pe_callX D__law_line (hr.mono (by decide)) rfl passN (pa_cons (pe_op op_add (pe_op op_fdivL (pv 2) pe_int) (pe_op op_mulL pe_int (pv 0))) (pa_cons (pv 1) pa_nil)))) (by with_unfolding_all rfl) sc_law.nd rfl (by first | exact Or.inl rfl | exact Or.inr rfl)) (pss_cons (ps_asg (pe_callX D__law_due (hr.mono (by decide)) rfl passN (pa_cons (pv 3) (pa_cons (pv 5) pa_nil))) (pg_tupK (n := 2) K rfl rfl (pgs_cons (pg_name (i := 6) sc_law.nd rfl (by first | exact Or.inl rfl | exact Or.inr rfl)) (pgs_cons (pg_name (i := 7) sc_law.nd rfl (by first | exact Or.inl rfl | exact Or.inr rfl)) pgs_nil)))) (pss_cons (ps_set (i := 8) sc_law.nd rfl (by first | exact Or.inl rfl | exact Or.inr rfl) (pe_lst (pa_cons (pe_callTy (call_listK K rfl) rfl T.no_list boot_list (pa_cons (pv 3) pa_nil)) (pa_cons (pe_callTy (call_listK K rfl) rfl T.no_list boot_list (pa_cons (pv 5) pa_nil)) pa_nil)))) (pss_cons (ps_set (i := 9) sc_law.nd rfl (by first | exact Or.inl rfl | exact Or.inr rfl) (pe_callX D_clipped (hr.mono (by decide)) rfl passN (pa_cons (pe_ix (ix_listK K rfl) (pv 8) pe_int (fun _ _ => rfl)) (pa_cons (pe_ix (ix_listK K rfl) (pv 8) pe_int (fun _ _ => rfl)) pa_nil)))) (pss_cons (ps_if (PW.pt (pw_or (pt_not (pt_val (pe_callX D__law_alike (hr.mono (by decide)) rfl passN (pa_cons (pv 9) (pa_cons (pv 6) pa_nil))))) (pw_or1 (pt_cmpR (op_neDK K rfl hr.units) (pv 8) (pe_lst (pa_cons (pv 3) (pa_cons (pv 5) pa_nil))) (nomark _))))) (pss_one (ps_ret pe_bl)) pss_nil) (pss_cons (ps_if (pt_not (pt_val (pe_callX D__law_alike (hr.mono (by decide)) rfl passN (pa_cons (pe_callX D_clipped (hr.mono (by decide)) rfl passN (pa_cons (pe_callTy (call_listK K rfl) rfl T.no_list boot_list (pa_cons (pv 9) pa_nil)) (pa_cons (pe_callTy (call_listK K rfl) rfl T.no_list boot_list (pa_cons (pv 5) pa_nil)) pa_nil))) (pa_cons (pv 6) pa_nil))))) (pss_one (ps_ret pe_bl)) pss_nil) (pss_cons (ps_for PassesOwn.never rfl (pi_range1 rfl T.no_range (pa_cons (pe_callB (call_lenK K rfl) rfl T.no_len boot_len (pa_cons (pv 5) pa_nil)) pa_nil)) (pg_name (i := 10) sc_law.nd rfl (by first | exact Or.inl rfl | exact Or.inr rfl)) (pss_one (ps_if (pt_cmpR op_notN (pe_ix (ix_listK K rfl) (pv 5) (pv 10) (fun _ _ => rfl)) pe_non (nomark _)) (pss_cons (ps_set (i := 11) sc_law.nd rfl (by first | exact Or.inl rfl | exact Or.inr rfl) (pe_callX D_breach (hr.mono (by decide)) rfl passN (pa_cons (pe_callTy (call_listK K rfl) rfl T.no_list boot_list (pa_cons (pv 3) pa_nil)) (pa_cons (pv 10) (pa_cons (pe_ix (ix_listK K rfl) (pv 5) (pv 10) (fun _ _ => rfl)) pa_nil))))) (pss_cons (ps_if (pt_cmpR op_ne (pe_cmpR op_isN (pv 11) pe_non (nomark _)) (pe_cmp (pc_dnotin (hu_of hr) (pv 10) (pv 7))) (nomark _)) (pss_one (ps_ret pe_bl)) pss_nil) (pss_one (ps_if (PW.pt (pw_and (pt_cmp (pc_din (hu_of hr) (pv 10) (pv 7))) (pw_and1 (pt_cmpR op_ne (pe_ix (ix_tupK K rfl) (pv 11) pe_int (fun _ _ => rfl)) (pe_dget (hu_of hr) (pv 7) (pv 10) (fun _ _ => rfl)) (nomark _))))) (pss_one (ps_ret pe_bl)) pss_nil)))) pss_nil))) (pss_cons (ps_expr (pe_bm PySem.F.plainAttrs_list PySem.F.slot_list_append PySem.F.type_list_append mt_append (pv 9) (pa_cons (pe_tup (pa_cons pe_int (pa_cons pe_int (pa_cons pe_int (pa_cons pe_int pa_nil))))) pa_nil))) (pss_one (ps_ret (pe_and (pe_cmpR (op_eqDK K rfl hr.units) (pv 8) (pe_lst (pa_cons (pv 3) (pa_cons (pv 5) pa_nil))) (nomark _)) (pe_one (pe_callX D__law_alike (hr.mono (by decide)) rfl passN (pa_cons (pe_callX D_clipped (hr.mono (by decide)) rfl passN (pa_cons (pe_callTy (call_listK K rfl) rfl T.no_list boot_list (pa_cons (pv 3) pa_nil)) (pa_cons (pe_callTy (call_listK K rfl) rfl T.no_list boot_list (pa_cons (pv 5) pa_nil)) pa_nil))) (pa_cons (pv 6) pa_nil))))))))))))))))))), ?_⟩
    show tSeq _ _ _ [some (.ref a), none, none, none, none, none, none, none, none, none, none, none] H
    refine seq_step fun R hR => ?_
    walk_at "rd"
    refine spCell_of hS (by decide) (hR _ _ ?_)
    generalize cellI ns 0 = first
    refine seq_step fun R hR => ?_
    walk_at "rd"
    refine hR _ _ ?_
    have w0 := Int.emod_nonneg first (show (2 : Int) ≠ 0 by decide)
    have w1 := Int.emod_lt_of_pos first (show (0 : Int) < 2 by decide)
    generalize first % 2 = way at w0 w1 ⊢
    refine seq_step fun R hR => ?_
    walk_at "rd"
    refine ⟨a, ns, way, _, rfl, hS, hlen, w0, w1, by omega, by omega, fun H1 l ps qs s1 hl0 R0 lq fit => hR _ _ ?_⟩
    refine seq_step fun R hR => ?_
    walk_at "rd"
    refine spCell_of (s1.seq hS) (by decide) (hR _ _ ?_)
    generalize cellI ns 1 = second
    have small : Small qs := fun q h => by
      obtain ⟨b1, b2, b3, b4, b5, b6⟩ := fit.1 q h
      exact ⟨b1, by omega, by omega, by omega⟩
    clear hS s1 hl0
    have n0 := Int.emod_nonneg second (show (13 : Int) ≠ 0 by decide)
    have n1 := Int.emod_lt_of_pos second (show (0 : Int) < 13 by decide)
    refine seq_step fun R hR => ?_
    walk_at "rd"
    refine ⟨by omega, by omega, fun pl hpl0 => ?_⟩
    refine comp_range (fun i τ H' => (∃ v, τ = [v, some (.int way), some (.int second)]) ∧ Same H1 H' ∧ ∃ lv ls, H' pl = some (.lst lv) ∧ LnsAt H' lv ls ∧ (∀ l ∈ ls, LnOk l) ∧ ls.length = i) ⟨⟨none, rfl⟩, same_new hpl0, [], [], upd_same, .nil, fun l h => absurd h List.not_mem_nil, rfl⟩ ?_ ?_
    · rintro i τ H2 hi ⟨⟨v, rfl⟩, sm, lv, ls, hlv, la, lok, ll⟩
      walk_at "rd"
      unfold tYes
      walk_at "rd"
      refine ⟨⟨Sw.Sz.lit (by decide), (Sw.Sz.r18 (by omega) (by omega)).mono (by decide)⟩, _, _, rfl, w0, w1, fun v l' H3 s3 lat lk => ?_⟩
      have hlv := s3 _ _ hlv
      have lvl := Paired.length la
      have kt : ∀ b xs, H3 b = some (.tup xs) → upd H3 pl (.lst (lv ++ [v])) b = some (.tup xs) := fun b xs e => by rw [upd_ne (ne_of e hlv (by intro z; cases z))]; exact e
      refine ⟨_, hlv, line_lt (by omega), fun b o e => ?_, lv ++ [v], upd_same, ls ++ [l'], ?_, fun x hx => ?_, by simp [ll]⟩
      · rw [upd_ne (ne_of_none e hpl0)]; exact s3 _ _ (sm _ _ e)
      · exact paired_snoc (lat.keep kt) (lns_keep (lns_keep la fun _ _ z => s3 _ _ z) kt)
      · rcases List.mem_append.mp hx with z | z
        · exact lok x z
        · have : x = l' := by simpa using z
          rw [this]; exact lk
    · rintro τ H2 ⟨_, s2, lv, ls, hlv, la, lok, ll⟩
      refine hR _ _ ?_
      have ls12 : ls.length ≤ 12 := by omega
      have R0 := R0.same s2
      clear s2 hpl0
      have lvl := Paired.length la
      refine seq_step fun R hR => ?_
      walk_at "rd"
      refine ⟨l, ps, qs, pl, lv, ls, rfl, R0, fit, lq, hlv, la, lok, ls12, fun t kl pk d kvs H3 s3 ht RK hd lost => ?_⟩
      walk_at "rd"
      refine ⟨_, .of ht, rfl, _, _, rfl, _, _, rfl, rfl, hR _ _ ?_⟩
      have R0 := R0.same s3
      have hlv := s3 _ _ hlv
      have la := lns_keep la fun _ _ z => s3 _ _ z
      clear s3 ht
      refine seq_step fun R hR => ?_
      walk_at "rd"
      refine lst_at (.of R0.hl) fun l2 hl2 => ?_
      have R2 := R0.copy hl2
      have s4 := same_new (o := .lst (ps.map V.ref)) hl2
      refine lst_at (.of (s4 _ _ hlv)) fun pl2 hpl2 => fun h hh => hR _ _ ?_
      have s5 := (same_new (o := .lst lv) hpl2).trans (same_new (o := .lst [.ref l2, .ref pl2]) hh)
      have hlv2 : upd (upd (upd H3 l2 (.lst (ps.map V.ref))) pl2 (.lst lv)) h (.lst [.ref l2, .ref pl2]) pl2 = some (.lst lv) := same_new (o := .lst [.ref l2, .ref pl2]) hh _ _ upd_same
      have hhl : upd (upd (upd H3 l2 (.lst (ps.map V.ref))) pl2 (.lst lv)) h (.lst [.ref l2, .ref pl2]) h = some (.lst [.ref l2, .ref pl2]) := upd_same
      have R2 := R2.same s5
      have s6 := s4.trans s5
      have R0 := R0.same s6
      have hlv := s6 _ _ hlv
      have la := lns_keep la fun _ _ z => s6 _ _ z
      have RK := RK.same s6
      have hd := s6 _ _ hd
      generalize upd (upd (upd H3 l2 (.lst (ps.map V.ref))) pl2 (.lst lv)) h (.lst [.ref l2, .ref pl2]) = H4 at hlv2 hhl R2 R0 hlv la RK hd ⊢
      clear s4 s5 s6 hl2 hpl2 hh
      refine seq_step fun R hR => ?_
      walk_at "rd"
      refine ixL_at (.of hhl) (v := .ref l2) rfl (ixL_at (.of hhl) (v := .ref pl2) rfl ?_)
      refine ⟨l2, ps, qs, pl2, lv, ls, rfl, R2, fit, lq, hlv2, la, lok, ls12, fun D pd H5 s5 hD0 RD => hR _ _ ?_⟩
      have nD1 : l ≠ D := ne_of_none R0.hl hD0
      have nD2 : l2 ≠ D := ne_of_none R2.hl hD0
      have nD3 : pl ≠ D := ne_of_none hlv hD0
      have nD4 : pl2 ≠ D := ne_of_none hlv2 hD0
      have nD5 : h ≠ D := ne_of_none hhl hD0
      have nD6 : kl ≠ D := ne_of_none RK.hl hD0
      have R0 := R0.same s5
      have R2 := R2.same s5
      have hlv := s5 _ _ hlv
      have hlv2 := s5 _ _ hlv2
      have hhl := s5 _ _ hhl
      have la := lns_keep la fun _ _ z => s5 _ _ z
      have RK := RK.same s5
      have hd := s5 _ _ hd
      clear s5 hD0
      have dl : (Sw.dueF (lnOf ls) qs).length ≤ 60 := by have := Sw.dueF_len (lnOf ls) qs; omega
      refine seq_step fun R hR => ?_
      walk_at "rd"
      refine ⟨D, pd, kl, pk, _, rfl, RD, RK, dl, fun H6 s6 => ?_⟩
      have R0 := R0.same s6
      have R2 := R2.same s6
      have hlv := s6 _ _ hlv
      have hlv2 := s6 _ _ hlv2
      have hhl := s6 _ _ hhl
      have la := lns_keep la fun _ _ z => s6 _ _ z
      have RK := RK.same s6
      have RD := RD.same s6
      have hd := s6 _ _ hd
      clear s6
      walk_at "rd"
      intro pz hpz
      have sz := same_new (o := .lst [.ref l, .ref pl]) hpz
      have laz := lns_keep la fun _ _ z => sz _ _ z
      refine ne_same (d := .list [.list (qs.map q4D), .list (ls.map lnD)]) (.lst (.of (sz _ _ hhl)) (.cons ((R2.same sz).deep (K := K)) (.cons (.lst (.of (sz _ _ hlv2)) (lns_deep laz)) .nil))) (.lst (.of upd_same) (.cons ((R0.same sz).deep (K := K)) (.cons (.lst (.of (sz _ _ hlv)) (lns_deep laz)) .nil))) (shaped_both qs ls) ⟨false, rfl, ?_⟩
      rw [if_neg (by decide)]
      refine hR _ _ ?_
      have R0 := R0.same sz
      have R2 := R2.same sz
      have hlv := sz _ _ hlv
      have hlv2 := sz _ _ hlv2
      have hhl := sz _ _ hhl
      have RK := RK.same sz
      have RD := RD.same sz
      have hd := sz _ _ hd
      have la := laz
      generalize upd H6 pz (.lst [.ref l, .ref pl]) = H7 at R0 R2 hlv hlv2 hhl RK RD hd la ⊢
      clear sz hpz laz
      refine seq_step fun R hR => ?_
      walk_at "rd"
      refine lst_at (.of RD.hl) fun f2 hf2 => ?_
      have RF := RD.copy hf2
      have s8 := same_new (o := .lst (pd.map V.ref)) hf2
      refine lst_at (.of (s8 _ _ hlv)) fun p3 hp3 => ?_
      have s9 := same_new (o := .lst lv) hp3
      have s10 := s8.trans s9
      refine ⟨f2, pd, _, p3, lv, ls, rfl, RF.same s9, fit.due (lnOf ls), dl, upd_same, lns_keep la fun _ _ z => s10 _ _ z, lok, ls12, fun D3 pd3 H8 s11 _ RD3 => ?_⟩
      rw [Sw.dueF_again] at RD3
      have s12 := s10.trans s11
      refine ⟨D3, pd3, kl, pk, _, rfl, RD3, RK.same s12, dl, fun H9 s13 => ?_⟩
      have s14 := s12.trans s13
      walk_at "rd"
      refine hR _ _ ?_
      have R0 := R0.same s14
      have R2 := R2.same s14
      have hlv := s14 _ _ hlv
      have hlv2 := s14 _ _ hlv2
      have hhl := s14 _ _ hhl
      have la := lns_keep la fun _ _ z => s14 _ _ z
      have RK := RK.same s14
      have RD := RD.same s14
      have hd := s14 _ _ hd
      clear s8 s9 s10 s11 s12 s13 s14 hf2 hp3 RF RD3
      refine seq_step fun R hR => ?_
      refine for_step fun Z hZ => ?_
      walk_at "rd"
      refine len_at (.of hlv) ?_
      walk_at "rd"
      refine ⟨by omega, by omega, hZ _ _ ?_⟩
      rw [Int.toNat_natCast]
      refine for_range (fun i σ H' => Same H9 H' ∧ ∃ v10 v11, σ = [some (.ref a), some (.int first), some (.int way), some (.ref l), some (.int second), some (.ref pl), some (.ref kl), some (.ref d), some (.ref h), some (.ref D), v10, v11]) ⟨Same.refl _, none, none, rfl⟩ ?_ ?_
      · rintro i σ H10 hi ⟨sm, v10, v11, rfl⟩
        have R0 := R0.same sm
        have hlv := sm _ _ hlv
        have la := lns_keep la fun _ _ z => sm _ _ z
        have hd := sm _ _ hd
        show tIfS _ _ _ _ [some (.ref a), some (.int first), some (.int way), some (.ref l), some (.int second), some (.ref pl), some (.ref kl), some (.ref d), some (.ref h), some (.ref D), some (.int (0 + (i : Int))), v11] _
        rw [show (0 : Int) + (i : Int) = (i : Int) by omega]
        have hv : lv[i]? = some (lv[i]'hi) := List.getElem?_eq_getElem _
        obtain ⟨l', hl', hla⟩ := paired_get la hv
        have hix := atI_nat (xs := lv) (j := i) hv
        have el : lnOf ls (i : Int) = l' := by unfold lnOf; rw [if_pos (by omega), Int.toNat_natCast, hl']; rfl
        refine nx_step fun R hR => ?_
        walk_at "rd"
        refine ixL_at (.of hlv) hix ?_
        generalize lv[i]'hi = v at hla hix ⊢
        cases l' with
        | none =>
          have hla : v = .non := hla
          subst hla
          walk_at "rd"
          exact hR _ _ ⟨sm, _, _, rfl⟩
        | some z =>
          obtain ⟨ln, pr, rfl, h1, h2⟩ := hla
          have bd : Bd z.1 z.2 := lok _ (List.mem_of_getElem? hl') z.1 z.2 rfl
          walk_at "rd"
          rw [if_neg (by intro y; cases y)]
          have bl := Sw.breach_lost (ln := lnOf ls) (qs := qs) (who := (i : Int)) (b := z.1) (r := z.2) el qs.length 0 (by omega) rfl
          have d1 := bd.d1
          have d2 := bd.d2
          refine seq_step fun R2 hR2 => ?_
          walk_at "rd"
          refine lst_at (.of R0.hl) fun l3 hl3 => ?_
          have R3 := R0.copy hl3
          have s3 := same_new (o := .lst (ps.map V.ref)) hl3
          have hlv := s3 _ _ hlv
          have h1 := s3 _ _ h1
          have h2 := s3 _ _ h2
          have hd := s3 _ _ hd
          have sm := sm.trans s3
          generalize upd H10 l3 (.lst (ps.map V.ref)) = H11 at R3 hlv h1 h2 hd sm ⊢
          refine ixL_at (.of hlv) hix ?_
          refine ⟨l3, ps, qs, i, ln, pr, z.1, z.2, rfl, R3, by omega, small, h1, h2, (Sw.Sz.r18 (by omega) (by omega)).mono (by decide), bd.rz.mono (by decide), fun hn H12 s12 => hR2 _ _ ?_, fun f j hf t H12 s12 ht => hR2 _ _ ?_⟩
          · have hlost : Sw.lostF (lnOf ls) qs (i : Int) qs.length = none := by
              rcases bl with ⟨x, _⟩ | ⟨f, j, _, y⟩
              · exact x
              · have y : breachF qs (i : Int) z.1 z.2 = some (f, j) := y
                rw [hn] at y; cases y
            have hval := lost (i : Int)
            rw [hlost] at hval
            have hd := s12 _ _ hd
            refine seq_step fun R3 hR3 => ?_
            walk_at "rd"
            refine ⟨_, DGet.k (k := Sum.inl (i : Int)) hd, ?_⟩
            rw [hval]
            walk_at "rd"
            refine hR3 _ _ ?_
            refine nx_step fun R3 hR3 => ?_
            walk_at "rd"
            refine ⟨_, DGet.k (k := Sum.inl (i : Int)) hd, ?_⟩
            rw [hval]
            walk_at "rd"
            exact hR3 _ _ (hR _ _ ⟨sm.trans s12, _, _, rfl⟩)
          · have hlost : Sw.lostF (lnOf ls) qs (i : Int) qs.length = some j := by
              rcases bl with ⟨_, y⟩ | ⟨f', j', x, y⟩
              · have y : breachF qs (i : Int) z.1 z.2 = none := y
                rw [hf] at y; cases y
              · have y : breachF qs (i : Int) z.1 z.2 = some (f', j') := y
                rw [hf] at y; cases y
                exact x
            have hval := lost (i : Int)
            rw [hlost] at hval
            have hd := s12 _ _ hd
            refine seq_step fun R3 hR3 => ?_
            walk_at "rd"
            refine ⟨_, DGet.k (k := Sum.inl (i : Int)) hd, ?_⟩
            rw [hval]
            walk_at "rd"
            refine hR3 _ _ ?_
            refine nx_step fun R3 hR3 => ?_
            walk_at "rd"
            refine ⟨_, DGet.k (k := Sum.inl (i : Int)) hd, ?_⟩
            rw [hval]
            simp only [Option.map_some, Option.isSome_some, if_true]
            walk_at "rd"
            refine ixT_at (.of ht) (v := .int j) rfl ?_
            walk_at "rd"
            have hg := DGet.k (k := Sum.inl (i : Int)) hd
            rw [hval] at hg
            refine ⟨plV j, hg, ?_⟩
            unfold plV
            walk_at "rd"
            exact hR3 _ _ (hR _ _ ⟨sm.trans s12, _, _, rfl⟩)
      · rintro σ H10 ⟨sm, v10, v11, rfl⟩
        refine hR _ _ ?_
        have R0 := R0.same sm
        have R2 := R2.same sm
        have hlv := sm _ _ hlv
        have hlv2 := sm _ _ hlv2
        have hhl := sm _ _ hhl
        have la := lns_keep la fun _ _ z => sm _ _ z
        have RK := RK.same sm
        have RD := RD.same sm
        clear sm hd
        have pdl := RD.r.len
        refine seq_step fun R hR => ?_
        walk_at "rd"
        refine ⟨tyL_at RD.hl, fun pn hpn => ?_⟩
        have sn := same_new (o := .tup [.int 0, .int 0, .int 1, .int 1]) hpn
        have RDn := RD.same sn
        refine app_at RDn.hl (by rw [List.length_map]; omega) (hR _ _ ?_)
        have R0 := (R0.same sn).upd RDn.hl nD1 (ys := pd.map V.ref ++ [.ref pn])
        have R2 := (R2.same sn).upd RDn.hl nD2 (ys := pd.map V.ref ++ [.ref pn])
        have RK := (RK.same sn).upd RDn.hl nD6 (ys := pd.map V.ref ++ [.ref pn])
        have kt : ∀ b xs, upd H10 pn (.tup [.int 0, .int 0, .int 1, .int 1]) b = some (.tup xs) → upd (upd H10 pn (.tup [.int 0, .int 0, .int 1, .int 1])) D (.lst (pd.map V.ref ++ [.ref pn])) b = some (.tup xs) := fun b xs e => by rw [upd_ne (ne_of e RDn.hl (by intro z; cases z))]; exact e
        have la := lns_keep (lns_keep la fun _ _ z => sn _ _ z) kt
        have hlv : upd (upd H10 pn (.tup [.int 0, .int 0, .int 1, .int 1])) D (.lst (pd.map V.ref ++ [.ref pn])) pl = some (.lst lv) := by rw [upd_ne nD3]; exact sn _ _ hlv
        have hlv2 : upd (upd H10 pn (.tup [.int 0, .int 0, .int 1, .int 1])) D (.lst (pd.map V.ref ++ [.ref pn])) pl2 = some (.lst lv) := by rw [upd_ne nD4]; exact sn _ _ hlv2
        have hhl : upd (upd H10 pn (.tup [.int 0, .int 0, .int 1, .int 1])) D (.lst (pd.map V.ref ++ [.ref pn])) h = some (.lst [.ref l2, .ref pl2]) := by rw [upd_ne nD5]; exact sn _ _ hhl
        generalize upd (upd H10 pn (.tup [.int 0, .int 0, .int 1, .int 1])) D (.lst (pd.map V.ref ++ [.ref pn])) = H11 at R0 R2 RK la hlv hlv2 hhl ⊢
        clear kt sn RDn RD
        walk_at "rd"
        intro pz hpz
        have sz := same_new (o := .lst [.ref l, .ref pl]) hpz
        have laz := lns_keep la fun _ _ z => sz _ _ z
        refine eq_same (d := .list [.list (qs.map q4D), .list (ls.map lnD)]) (.lst (.of (sz _ _ hhl)) (.cons ((R2.same sz).deep (K := K)) (.cons (.lst (.of (sz _ _ hlv2)) (lns_deep laz)) .nil))) (.lst (.of upd_same) (.cons ((R0.same sz).deep (K := K)) (.cons (.lst (.of (sz _ _ hlv)) (lns_deep laz)) .nil))) (shaped_both qs ls) ?_
        walk_at "rd"
        have R0 := R0.same sz
        have RK := RK.same sz
        have hlv := sz _ _ hlv
        generalize upd H11 pz (.lst [.ref l, .ref pl]) = H12 at R0 RK hlv laz ⊢
        refine lst_at (.of R0.hl) fun l4 hl4 => ?_
        have R4 := R0.copy hl4
        have s4 := same_new (o := .lst (ps.map V.ref)) hl4
        refine lst_at (.of (s4 _ _ hlv)) fun p4 hp4 => ?_
        have s5 := same_new (o := .lst lv) hp4
        have s6 := s4.trans s5
        refine ⟨l4, ps, qs, p4, lv, ls, rfl, R4.same s5, fit, lq, upd_same, lns_keep laz fun _ _ z => s6 _ _ z, lok, ls12, fun D5 pd5 H13 s7 _ RD5 => ?_⟩
        refine ⟨D5, pd5, kl, pk, _, rfl, RD5, (RK.same s6).same s7, dl, fun H14 s8 => ?_⟩
        walk_at "rd"
        exact k _
end
theorem all_mk {l : PySem.W.OpenLaw} {w : World} {K : PySem.W.Frag} {h : Heap} {mg : Str → Option Value} {fa f1 f2 f3 f4 f5 f6 f7 f8 f9 f10 f11 f12 f13 f14 f15 f16 f17 f18 f19 f20 f21 f22 f23 : Addr} (X : K.In h) (G : h.Ns mainGlobals mg) (hfa : mg "law" = some (.ref fa))
    {od1 an1 od2 an2 od3 an3 od4 an4 od5 an5 od6 an6 od7 an7 od8 an8 od9 an9 od10 an10 od11 an11 od12 an12 od13 an13 od14 an14 od15 an15 od16 an16 od17 an17 od18 an18 od19 an19 od20 an20 od21 an21 od22 an22 od23 an23 : Option Addr} {sl1 sl2 sl3 sl4 sl5 sl6 sl7 sl8 sl9 sl10 sl11 sl12 sl13 sl14 sl15 sl16 sl17 sl18 sl19 sl20 sl21 sl22 sl23 : Array (Option Value)} {oc1 kV1 dc1 pm1 cd1 ct1 oc2 kV2 dc2 pm2 cd2 ct2 oc3 kV3 dc3 pm3 cd3 ct3 oc4 kV4 dc4 pm4 cd4 ct4 oc5 kV5 dc5 pm5 cd5 ct5 oc6 kV6 dc6 pm6 cd6 ct6 oc7 kV7 dc7 pm7 cd7 ct7 oc8 kV8 dc8 pm8 cd8 ct8 oc9 kV9 dc9 pm9 cd9 ct9 oc10 kV10 dc10 pm10 cd10 ct10 oc11 kV11 dc11 pm11 cd11 ct11 oc12 kV12 dc12 pm12 cd12 ct12 oc13 kV13 dc13 pm13 cd13 ct13 oc14 kV14 dc14 pm14 cd14 ct14 oc15 kV15 dc15 pm15 cd15 ct15 oc16 kV16 dc16 pm16 cd16 ct16 oc17 kV17 dc17 pm17 cd17 ct17 oc18 kV18 dc18 pm18 cd18 ct18 oc19 kV19 dc19 pm19 cd19 ct19 oc20 kV20 dc20 pm20 cd20 ct20 oc21 kV21 dc21 pm21 cd21 ct21 oc22 kV22 dc22 pm22 cd22 ct22 oc23 kV23 dc23 pm23 cd23 ct23 : Value}
    {c_WheelError c_NoRatio c_NoCurb c_Short : Addr}
    {cd_WheelError cd_NoRatio cd_NoCurb cd_Short : ClassData}
    (b_WheelError : PySem.W.nsIn K mainGlobals "WheelError" = some (some (.ref c_WheelError)))
    (hd_WheelError : PySem.W.hasDictIn K c_WheelError = true)
    (ga_WheelError : PySem.W.findIn K (.ref c_WheelError) "__getattribute__" = some (some (.builtin "BaseException.__getattribute__")))
    (gn_WheelError : PySem.W.findIn K (.ref c_WheelError) "__getattr__" = some none)
    (sa_WheelError : PySem.W.findIn K (.ref c_WheelError) "__setattr__" = some (some (.builtin "object.__setattr__")))
    (cl_WheelError : PySem.W.findIn K (.ref c_WheelError) "__class__" = some (some (.builtin "object.__class__")))
    (be_WheelError : PySem.W.mroIn K c_WheelError (.type "BaseException") = some true)
    (ob_WheelError : PySem.W.mroIn K c_WheelError (.type "object") = some true)
    (kp_WheelError : PySem.W.keepIn K (.ref c_WheelError) = true)
    (ci_WheelError : PySem.W.clsIn K c_WheelError = some cd_WheelError)
    (ti_WheelError : PySem.W.typeIn K (.ref c_WheelError) = some (.type "type"))
    (ex_WheelError : PySem.W.excIn K c_WheelError bmV "ValueError.__new__" = true)
    (b_NoRatio : PySem.W.nsIn K mainGlobals "NoRatio" = some (some (.ref c_NoRatio)))
    (hd_NoRatio : PySem.W.hasDictIn K c_NoRatio = true)
    (ga_NoRatio : PySem.W.findIn K (.ref c_NoRatio) "__getattribute__" = some (some (.builtin "BaseException.__getattribute__")))
    (gn_NoRatio : PySem.W.findIn K (.ref c_NoRatio) "__getattr__" = some none)
    (sa_NoRatio : PySem.W.findIn K (.ref c_NoRatio) "__setattr__" = some (some (.builtin "object.__setattr__")))
    (cl_NoRatio : PySem.W.findIn K (.ref c_NoRatio) "__class__" = some (some (.builtin "object.__class__")))
    (be_NoRatio : PySem.W.mroIn K c_NoRatio (.type "BaseException") = some true)
    (ob_NoRatio : PySem.W.mroIn K c_NoRatio (.type "object") = some true)
    (kp_NoRatio : PySem.W.keepIn K (.ref c_NoRatio) = true)
    (ci_NoRatio : PySem.W.clsIn K c_NoRatio = some cd_NoRatio)
    (ti_NoRatio : PySem.W.typeIn K (.ref c_NoRatio) = some (.type "type"))
    (ex_NoRatio : PySem.W.excIn K c_NoRatio bmV "ValueError.__new__" = true)
    (b_NoCurb : PySem.W.nsIn K mainGlobals "NoCurb" = some (some (.ref c_NoCurb)))
    (hd_NoCurb : PySem.W.hasDictIn K c_NoCurb = true)
    (ga_NoCurb : PySem.W.findIn K (.ref c_NoCurb) "__getattribute__" = some (some (.builtin "BaseException.__getattribute__")))
    (gn_NoCurb : PySem.W.findIn K (.ref c_NoCurb) "__getattr__" = some none)
    (sa_NoCurb : PySem.W.findIn K (.ref c_NoCurb) "__setattr__" = some (some (.builtin "object.__setattr__")))
    (cl_NoCurb : PySem.W.findIn K (.ref c_NoCurb) "__class__" = some (some (.builtin "object.__class__")))
    (be_NoCurb : PySem.W.mroIn K c_NoCurb (.type "BaseException") = some true)
    (ob_NoCurb : PySem.W.mroIn K c_NoCurb (.type "object") = some true)
    (kp_NoCurb : PySem.W.keepIn K (.ref c_NoCurb) = true)
    (ci_NoCurb : PySem.W.clsIn K c_NoCurb = some cd_NoCurb)
    (ti_NoCurb : PySem.W.typeIn K (.ref c_NoCurb) = some (.type "type"))
    (ex_NoCurb : PySem.W.excIn K c_NoCurb bmV "ValueError.__new__" = true)
    (b_Short : PySem.W.nsIn K mainGlobals "Short" = some (some (.ref c_Short)))
    (hd_Short : PySem.W.hasDictIn K c_Short = true)
    (ga_Short : PySem.W.findIn K (.ref c_Short) "__getattribute__" = some (some (.builtin "BaseException.__getattribute__")))
    (gn_Short : PySem.W.findIn K (.ref c_Short) "__getattr__" = some none)
    (sa_Short : PySem.W.findIn K (.ref c_Short) "__setattr__" = some (some (.builtin "object.__setattr__")))
    (cl_Short : PySem.W.findIn K (.ref c_Short) "__class__" = some (some (.builtin "object.__class__")))
    (be_Short : PySem.W.mroIn K c_Short (.type "BaseException") = some true)
    (ob_Short : PySem.W.mroIn K c_Short (.type "object") = some true)
    (kp_Short : PySem.W.keepIn K (.ref c_Short) = true)
    (ci_Short : PySem.W.clsIn K c_Short = some cd_Short)
    (ti_Short : PySem.W.typeIn K (.ref c_Short) = some (.type "type"))
    {nm_Short : Str}
    {qn_Short : Str}
    {N_Short : Addr}
    {bs_Short : List Value}
    {hdct_Short : Bool}
    {sn_Short : List Str}
    {sub_Short : List Value}
    {ab_Short : Bool}
    {col_Short : Option Bool}
    {dd_Short : Option Addr}
    {k0_Short : Option Value}
    {k1_Short : Option Value}
    {k2_Short : Option Value}
    {k3_Short : Option Value}
    {k5_Short : Option Value}
    (lk_Short : K.lookup c_Short = some (excClassObj nm_Short qn_Short c_Short N_Short bs_Short (.ref c_WheelError :: bmV) hdct_Short sn_Short sub_Short ab_Short col_Short dd_Short k0_Short k1_Short k2_Short k3_Short k5_Short "ValueError.__new__"))
    {i_Short : Addr} {od_Short an_Short : Option Addr} {sl_Short : Array (Option Value)} {oc_Short kV_Short dc_Short pm_Short co_Short ct_Short : Value}
    (fi_Short : PySem.W.findIn K (.ref c_Short) "__init__" = some (some (.ref i_Short)))
    (li_Short : K.lookup i_Short = some ⟨oc_Short, od_Short, .func (PySem.W.fnOf "__init__" "Short.__init__" (defArgs s_Short_init) (defBody s_Short_init) (defScope s_Short_init) .none kV_Short dc_Short pm_Short an_Short co_Short ct_Short), sl_Short⟩)
    (tf_Short : PySem.W.typeIn K (.ref i_Short) = some (.type "function"))
    (cc_Short : PySem.W.codeIn K co_Short "Short.__init__" = true)
    (kk_Short : PySem.W.keepIn K (.ref i_Short) = true)
    (tk_Short_missing : PySem.W.takerIn K c_Short "missing" = some none)
    (fl_Short_missing : PySem.W.findIn K (.ref c_Short) "missing" = some none)
    (kg : PySem.W.specialIn K (.builtin "object.__class__") "__get__" = some (some (.builtin "getset_descriptor.__get__")))
    (kt : PySem.W.takesIn K (.builtin "object.__class__") = some true)
    (s_NoCurb_WheelError : PySem.W.subIn K (.ref c_NoCurb) (.ref c_WheelError) = some true)
    (n_NoCurb_WheelError : (Value.ref c_NoCurb == Value.ref c_WheelError) = false)
    (s_NoCurb_NoRatio : PySem.W.subIn K (.ref c_NoCurb) (.ref c_NoRatio) = some false)
    (n_NoCurb_NoRatio : (Value.ref c_NoCurb == Value.ref c_NoRatio) = false)
    (s_NoCurb_NoCurb : PySem.W.subIn K (.ref c_NoCurb) (.ref c_NoCurb) = some true)
    (s_NoCurb_Short : PySem.W.subIn K (.ref c_NoCurb) (.ref c_Short) = some false)
    (n_NoCurb_Short : (Value.ref c_NoCurb == Value.ref c_Short) = false)
    (v_NoCurb_VE : PySem.W.subIn K (.ref c_NoCurb) (.type "ValueError") = some true)
    (s_Short_WheelError : PySem.W.subIn K (.ref c_Short) (.ref c_WheelError) = some true)
    (n_Short_WheelError : (Value.ref c_Short == Value.ref c_WheelError) = false)
    (s_Short_NoRatio : PySem.W.subIn K (.ref c_Short) (.ref c_NoRatio) = some false)
    (n_Short_NoRatio : (Value.ref c_Short == Value.ref c_NoRatio) = false)
    (s_Short_NoCurb : PySem.W.subIn K (.ref c_Short) (.ref c_NoCurb) = some false)
    (n_Short_NoCurb : (Value.ref c_Short == Value.ref c_NoCurb) = false)
    (s_Short_Short : PySem.W.subIn K (.ref c_Short) (.ref c_Short) = some true)
    (v_Short_VE : PySem.W.subIn K (.ref c_Short) (.type "ValueError") = some true)
    (a1 : PySem.W.nsIn K mainGlobals "anew" = some (some (.ref f1))) (l1 : K.lookup f1 = some ⟨oc1, od1, .func (PySem.W.fnOf "anew" "anew" (defArgs s_anew) (defBody s_anew) (defScope s_anew) .none kV1 dc1 pm1 an1 cd1 ct1), sl1⟩) (c1 : PySem.W.codeIn K cd1 "anew" = true) (k1 : PySem.W.keepIn K (.ref f1) = true)
    (a2 : PySem.W.nsIn K mainGlobals "of_sender" = some (some (.ref f2))) (l2 : K.lookup f2 = some ⟨oc2, od2, .func (PySem.W.fnOf "of_sender" "of_sender" (defArgs s_of_sender) (defBody s_of_sender) (defScope s_of_sender) .none kV2 dc2 pm2 an2 cd2 ct2), sl2⟩) (c2 : PySem.W.codeIn K cd2 "of_sender" = true) (k2 : PySem.W.keepIn K (.ref f2) = true)
    (a3 : PySem.W.nsIn K mainGlobals "divisor" = some (some (.ref f3))) (l3 : K.lookup f3 = some ⟨oc3, od3, .func (PySem.W.fnOf "divisor" "divisor" (defArgs s_divisor) (defBody s_divisor) (defScope s_divisor) .none kV3 dc3 pm3 an3 cd3 ct3), sl3⟩) (c3 : PySem.W.codeIn K cd3 "divisor" = true) (k3 : PySem.W.keepIn K (.ref f3) = true)
    (a4 : PySem.W.nsIn K mainGlobals "ratio" = some (some (.ref f4))) (l4 : K.lookup f4 = some ⟨oc4, od4, .func (PySem.W.fnOf "ratio" "ratio" (defArgs s_ratio) (defBody s_ratio) (defScope s_ratio) .none kV4 dc4 pm4 an4 cd4 ct4), sl4⟩) (c4 : PySem.W.codeIn K cd4 "ratio" = true) (k4 : PySem.W.keepIn K (.ref f4) = true)
    (a5 : PySem.W.nsIn K mainGlobals "plus" = some (some (.ref f5))) (l5 : K.lookup f5 = some ⟨oc5, od5, .func (PySem.W.fnOf "plus" "plus" (defArgs s_plus) (defBody s_plus) (defScope s_plus) .none kV5 dc5 pm5 an5 cd5 ct5), sl5⟩) (c5 : PySem.W.codeIn K cd5 "plus" = true) (k5 : PySem.W.keepIn K (.ref f5) = true)
    (a6 : PySem.W.nsIn K mainGlobals "minus" = some (some (.ref f6))) (l6 : K.lookup f6 = some ⟨oc6, od6, .func (PySem.W.fnOf "minus" "minus" (defArgs s_minus) (defBody s_minus) (defScope s_minus) .none kV6 dc6 pm6 an6 cd6 ct6), sl6⟩) (c6 : PySem.W.codeIn K cd6 "minus" = true) (k6 : PySem.W.keepIn K (.ref f6) = true)
    (a7 : PySem.W.nsIn K mainGlobals "times" = some (some (.ref f7))) (l7 : K.lookup f7 = some ⟨oc7, od7, .func (PySem.W.fnOf "times" "times" (defArgs s_times) (defBody s_times) (defScope s_times) .none kV7 dc7 pm7 an7 cd7 ct7), sl7⟩) (c7 : PySem.W.codeIn K cd7 "times" = true) (k7 : PySem.W.keepIn K (.ref f7) = true)
    (a8 : PySem.W.nsIn K mainGlobals "under" = some (some (.ref f8))) (l8 : K.lookup f8 = some ⟨oc8, od8, .func (PySem.W.fnOf "under" "under" (defArgs s_under) (defBody s_under) (defScope s_under) .none kV8 dc8 pm8 an8 cd8 ct8), sl8⟩) (c8 : PySem.W.codeIn K cd8 "under" = true) (k8 : PySem.W.keepIn K (.ref f8) = true)
    (a9 : PySem.W.nsIn K mainGlobals "lesser" = some (some (.ref f9))) (l9 : K.lookup f9 = some ⟨oc9, od9, .func (PySem.W.fnOf "lesser" "lesser" (defArgs s_lesser) (defBody s_lesser) (defScope s_lesser) .none kV9 dc9 pm9 an9 cd9 ct9), sl9⟩) (c9 : PySem.W.codeIn K cd9 "lesser" = true) (k9 : PySem.W.keepIn K (.ref f9) = true)
    (a10 : PySem.W.nsIn K mainGlobals "buckets_by" = some (some (.ref f10))) (l10 : K.lookup f10 = some ⟨oc10, od10, .func (PySem.W.fnOf "buckets_by" "buckets_by" (defArgs s_buckets_by) (defBody s_buckets_by) (defScope s_buckets_by) .none kV10 dc10 pm10 an10 cd10 ct10), sl10⟩) (c10 : PySem.W.codeIn K cd10 "buckets_by" = true) (k10 : PySem.W.keepIn K (.ref f10) = true)
    (a11 : PySem.W.nsIn K mainGlobals "clipped" = some (some (.ref f11))) (l11 : K.lookup f11 = some ⟨oc11, od11, .func (PySem.W.fnOf "clipped" "clipped" (defArgs s_clipped) (defBody s_clipped) (defScope s_clipped) .none kV11 dc11 pm11 an11 cd11 ct11), sl11⟩) (c11 : PySem.W.codeIn K cd11 "clipped" = true) (k11 : PySem.W.keepIn K (.ref f11) = true)
    (a12 : PySem.W.nsIn K mainGlobals "allowed" = some (some (.ref f12))) (l12 : K.lookup f12 = some ⟨oc12, od12, .func (PySem.W.fnOf "allowed" "allowed" (defArgs s_allowed) (defBody s_allowed) (defScope s_allowed) .none kV12 dc12 pm12 an12 cd12 ct12), sl12⟩) (c12 : PySem.W.codeIn K cd12 "allowed" = true) (k12 : PySem.W.keepIn K (.ref f12) = true)
    (a13 : PySem.W.nsIn K mainGlobals "breaking_first" = some (some (.ref f13))) (l13 : K.lookup f13 = some ⟨oc13, od13, .func (PySem.W.fnOf "breaking_first" "breaking_first" (defArgs s_breaking_first) (defBody s_breaking_first) (defScope s_breaking_first) .none kV13 dc13 pm13 an13 cd13 ct13), sl13⟩) (c13 : PySem.W.codeIn K cd13 "breaking_first" = true) (k13 : PySem.W.keepIn K (.ref f13) = true)
    (a14 : PySem.W.nsIn K mainGlobals "breach" = some (some (.ref f14))) (l14 : K.lookup f14 = some ⟨oc14, od14, .func (PySem.W.fnOf "breach" "breach" (defArgs s_breach) (defBody s_breach) (defScope s_breach) .none kV14 dc14 pm14 an14 cd14 ct14), sl14⟩) (c14 : PySem.W.codeIn K cd14 "breach" = true) (k14 : PySem.W.keepIn K (.ref f14) = true)
    (a15 : PySem.W.nsIn K mainGlobals "_law_cell_at" = some (some (.ref f15))) (l15 : K.lookup f15 = some ⟨oc15, od15, .func (PySem.W.fnOf "_law_cell_at" "_law_cell_at" (defArgs s__law_cell_at) (defBody s__law_cell_at) (defScope s__law_cell_at) .none kV15 dc15 pm15 an15 cd15 ct15), sl15⟩) (c15 : PySem.W.codeIn K cd15 "_law_cell_at" = true) (k15 : PySem.W.keepIn K (.ref f15) = true)
    (a16 : PySem.W.nsIn K mainGlobals "_law_mix" = some (some (.ref f16))) (l16 : K.lookup f16 = some ⟨oc16, od16, .func (PySem.W.fnOf "_law_mix" "_law_mix" (defArgs s__law_mix) (defBody s__law_mix) (defScope s__law_mix) .none kV16 dc16 pm16 an16 cd16 ct16), sl16⟩) (c16 : PySem.W.codeIn K cd16 "_law_mix" = true) (k16 : PySem.W.keepIn K (.ref f16) = true)
    (a17 : PySem.W.nsIn K mainGlobals "_law_divisor" = some (some (.ref f17))) (l17 : K.lookup f17 = some ⟨oc17, od17, .func (PySem.W.fnOf "_law_divisor" "_law_divisor" (defArgs s__law_divisor) (defBody s__law_divisor) (defScope s__law_divisor) .none kV17 dc17 pm17 an17 cd17 ct17), sl17⟩) (c17 : PySem.W.codeIn K cd17 "_law_divisor" = true) (k17 : PySem.W.keepIn K (.ref f17) = true)
    (a18 : PySem.W.nsIn K mainGlobals "_law_row" = some (some (.ref f18))) (l18 : K.lookup f18 = some ⟨oc18, od18, .func (PySem.W.fnOf "_law_row" "_law_row" (defArgs s__law_row) (defBody s__law_row) (defScope s__law_row) .none kV18 dc18 pm18 an18 cd18 ct18), sl18⟩) (c18 : PySem.W.codeIn K cd18 "_law_row" = true) (k18 : PySem.W.keepIn K (.ref f18) = true)
    (a19 : PySem.W.nsIn K mainGlobals "_law_line" = some (some (.ref f19))) (l19 : K.lookup f19 = some ⟨oc19, od19, .func (PySem.W.fnOf "_law_line" "_law_line" (defArgs s__law_line) (defBody s__law_line) (defScope s__law_line) .none kV19 dc19 pm19 an19 cd19 ct19), sl19⟩) (c19 : PySem.W.codeIn K cd19 "_law_line" = true) (k19 : PySem.W.keepIn K (.ref f19) = true)
    (a20 : PySem.W.nsIn K mainGlobals "_law_too_much" = some (some (.ref f20))) (l20 : K.lookup f20 = some ⟨oc20, od20, .func (PySem.W.fnOf "_law_too_much" "_law_too_much" (defArgs s__law_too_much) (defBody s__law_too_much) (defScope s__law_too_much) .none kV20 dc20 pm20 an20 cd20 ct20), sl20⟩) (c20 : PySem.W.codeIn K cd20 "_law_too_much" = true) (k20 : PySem.W.keepIn K (.ref f20) = true)
    (a21 : PySem.W.nsIn K mainGlobals "_law_due" = some (some (.ref f21))) (l21 : K.lookup f21 = some ⟨oc21, od21, .func (PySem.W.fnOf "_law_due" "_law_due" (defArgs s__law_due) (defBody s__law_due) (defScope s__law_due) .none kV21 dc21 pm21 an21 cd21 ct21), sl21⟩) (c21 : PySem.W.codeIn K cd21 "_law_due" = true) (k21 : PySem.W.keepIn K (.ref f21) = true)
    (a22 : PySem.W.nsIn K mainGlobals "_law_alike" = some (some (.ref f22))) (l22 : K.lookup f22 = some ⟨oc22, od22, .func (PySem.W.fnOf "_law_alike" "_law_alike" (defArgs s__law_alike) (defBody s__law_alike) (defScope s__law_alike) .none kV22 dc22 pm22 an22 cd22 ct22), sl22⟩) (c22 : PySem.W.codeIn K cd22 "_law_alike" = true) (k22 : PySem.W.keepIn K (.ref f22) = true)
    (a23 : PySem.W.nsIn K mainGlobals "law" = some (some (.ref f23))) (l23 : K.lookup f23 = some ⟨oc23, od23, .func (PySem.W.fnOf "law" "law" (defArgs s_law) (defBody s_law) (defScope s_law) .none kV23 dc23 pm23 an23 cd23 ct23), sl23⟩) (c23 : PySem.W.codeIn K cd23 "law" = true) (k23 : PySem.W.keepIn K (.ref f23) = true)
    (z1 : PySem.W.nsIn K mainGlobals "enumerate" = some none)
    (z2 : PySem.W.nsIn K mainGlobals "abs" = some none)
    (z3 : PySem.W.nsIn K mainGlobals "reversed" = some none)
    (z4 : PySem.W.nsIn K mainGlobals "len" = some none)
    (z5 : PySem.W.nsIn K mainGlobals "range" = some none)
    (z6 : PySem.W.nsIn K mainGlobals "any" = some none)
    (z7 : PySem.W.nsIn K mainGlobals "isinstance" = some none)
    (z8 : PySem.W.nsIn K mainGlobals "bool" = some none)
    (z9 : PySem.W.nsIn K mainGlobals "tuple" = some none)
    (z10 : PySem.W.nsIn K mainGlobals "list" = some none)
    {c_Bucket : Addr}
    (b_Bucket : PySem.W.nsIn K mainGlobals "Bucket" = some (some (.ref c_Bucket)))
    (pg_Bucket : PySem.W.plainGet K c_Bucket Str.empty = true)
    (hd_Bucket : PySem.W.hasDictIn K c_Bucket = true)
    (po_Bucket : PySem.W.plainOver K c_Bucket = true)
    (sa_Bucket : PySem.W.findIn K (.ref c_Bucket) "__setattr__" = some (some (.builtin "object.__setattr__")))
    (mk_Bucket : PySem.W.makesIn K c_Bucket = true)
    (kc_Bucket : PySem.W.keepIn K (.ref c_Bucket) = true)
    (na_Bucket_depth : PySem.W.findIn K (.ref c_Bucket) "depth" = some none)
    (na_Bucket_rate : PySem.W.findIn K (.ref c_Bucket) "rate" = some none)
    (na_Bucket_since : PySem.W.findIn K (.ref c_Bucket) "since" = some none)
    (na_Bucket_left : PySem.W.findIn K (.ref c_Bucket) "left" = some none)
    {i_Bucket_init : Addr} {od_Bucket_init an_Bucket_init : Option Addr} {sl_Bucket_init : Array (Option Value)} {oc_Bucket_init kV_Bucket_init dc_Bucket_init pm_Bucket_init co_Bucket_init ct_Bucket_init : Value}
    {dt_Bucket_init : Addr} {do_Bucket_init : Value} {dd_Bucket_init : Option Addr} {dn_Bucket_init : Nat} {dl_Bucket_init : Array (Option Value)} {tk0_Bucket_init : Tok}
    (a_Bucket_init : PySem.W.findIn K (.ref c_Bucket) "__init__" = some (some (.ref i_Bucket_init)))
    (i_Bucket_init_fn : PySem.W.isFn K (.ref i_Bucket_init) = true)
    (l_Bucket_init : K.lookup i_Bucket_init = some ⟨oc_Bucket_init, od_Bucket_init, .func (PySem.W.fnOf "__init__" "Bucket.__init__" (defArgs s_Bucket_init) (defBody s_Bucket_init) (defScope s_Bucket_init) (.ref dt_Bucket_init) kV_Bucket_init dc_Bucket_init pm_Bucket_init an_Bucket_init co_Bucket_init ct_Bucket_init), sl_Bucket_init⟩)
    (c_Bucket_init_cd : PySem.W.codeIn K co_Bucket_init "Bucket.__init__" = true)
    (k_Bucket_init : PySem.W.keepIn K (.ref i_Bucket_init) = true)
    (dk_Bucket_init : K.lookup dt_Bucket_init = some ⟨do_Bucket_init, dd_Bucket_init, .seq #[.int 0 tk0_Bucket_init] dn_Bucket_init, dl_Bucket_init⟩)
    {i_Bucket_level : Addr} {od_Bucket_level an_Bucket_level : Option Addr} {sl_Bucket_level : Array (Option Value)} {oc_Bucket_level kV_Bucket_level dc_Bucket_level pm_Bucket_level co_Bucket_level ct_Bucket_level : Value}
    (a_Bucket_level : PySem.W.findIn K (.ref c_Bucket) "level" = some (some (.ref i_Bucket_level)))
    (i_Bucket_level_fn : PySem.W.isFn K (.ref i_Bucket_level) = true)
    (l_Bucket_level : K.lookup i_Bucket_level = some ⟨oc_Bucket_level, od_Bucket_level, .func (PySem.W.fnOf "level" "Bucket.level" (defArgs s_Bucket_level) (defBody s_Bucket_level) (defScope s_Bucket_level) .none kV_Bucket_level dc_Bucket_level pm_Bucket_level an_Bucket_level co_Bucket_level ct_Bucket_level), sl_Bucket_level⟩)
    (c_Bucket_level_cd : PySem.W.codeIn K co_Bucket_level "Bucket.level" = true)
    (k_Bucket_level : PySem.W.keepIn K (.ref i_Bucket_level) = true)
    {i_Bucket_holds : Addr} {od_Bucket_holds an_Bucket_holds : Option Addr} {sl_Bucket_holds : Array (Option Value)} {oc_Bucket_holds kV_Bucket_holds dc_Bucket_holds pm_Bucket_holds co_Bucket_holds ct_Bucket_holds : Value}
    (a_Bucket_holds : PySem.W.findIn K (.ref c_Bucket) "holds" = some (some (.ref i_Bucket_holds)))
    (i_Bucket_holds_fn : PySem.W.isFn K (.ref i_Bucket_holds) = true)
    (l_Bucket_holds : K.lookup i_Bucket_holds = some ⟨oc_Bucket_holds, od_Bucket_holds, .func (PySem.W.fnOf "holds" "Bucket.holds" (defArgs s_Bucket_holds) (defBody s_Bucket_holds) (defScope s_Bucket_holds) .none kV_Bucket_holds dc_Bucket_holds pm_Bucket_holds an_Bucket_holds co_Bucket_holds ct_Bucket_holds), sl_Bucket_holds⟩)
    (c_Bucket_holds_cd : PySem.W.codeIn K co_Bucket_holds "Bucket.holds" = true)
    (k_Bucket_holds : PySem.W.keepIn K (.ref i_Bucket_holds) = true)
    {i_Bucket_pay : Addr} {od_Bucket_pay an_Bucket_pay : Option Addr} {sl_Bucket_pay : Array (Option Value)} {oc_Bucket_pay kV_Bucket_pay dc_Bucket_pay pm_Bucket_pay co_Bucket_pay ct_Bucket_pay : Value}
    (a_Bucket_pay : PySem.W.findIn K (.ref c_Bucket) "pay" = some (some (.ref i_Bucket_pay)))
    (i_Bucket_pay_fn : PySem.W.isFn K (.ref i_Bucket_pay) = true)
    (l_Bucket_pay : K.lookup i_Bucket_pay = some ⟨oc_Bucket_pay, od_Bucket_pay, .func (PySem.W.fnOf "pay" "Bucket.pay" (defArgs s_Bucket_pay) (defBody s_Bucket_pay) (defScope s_Bucket_pay) .none kV_Bucket_pay dc_Bucket_pay pm_Bucket_pay an_Bucket_pay co_Bucket_pay ct_Bucket_pay), sl_Bucket_pay⟩)
    (c_Bucket_pay_cd : PySem.W.codeIn K co_Bucket_pay "Bucket.pay" = true)
    (k_Bucket_pay : PySem.W.keepIn K (.ref i_Bucket_pay) = true)
    : ∃ fd : FuncData, (∀ (s : Shared) (v : Value), BindsTo s fd ⟨[v], []⟩ [("_law_script", v)]) ∧ ∀ base : Heap, K.In base → base.Ns mainGlobals mg → FnOk l.prog w K mg base CX0 7 fa fd ["_law_script"] (spLaw K) := by
  have e := hfa.symm.trans (PySem.W.mg_of X G a23)
  cases e
  have xc_WheelError : XC K c_WheelError := ⟨hd_WheelError, ga_WheelError, gn_WheelError, sa_WheelError, cl_WheelError, kg, kt, be_WheelError, ob_WheelError, xc_plain ex_WheelError⟩
  have xc_NoRatio : XC K c_NoRatio := ⟨hd_NoRatio, ga_NoRatio, gn_NoRatio, sa_NoRatio, cl_NoRatio, kg, kt, be_NoRatio, ob_NoRatio, xc_plain ex_NoRatio⟩
  have xc_NoCurb : XC K c_NoCurb := ⟨hd_NoCurb, ga_NoCurb, gn_NoCurb, sa_NoCurb, cl_NoCurb, kg, kt, be_NoCurb, ob_NoCurb, xc_plain ex_NoCurb⟩
  have xc_Short : XC K c_Short := ⟨hd_Short, ga_Short, gn_Short, sa_Short, cl_Short, kg, kt, be_Short, ob_Short, xc_init ex_WheelError lk_Short⟩
  have F_Short := fun_mk (st := s_Short_init) li_Short cc_Short kk_Short
  have F1 := fun_mk (st := s_anew) l1 c1 k1
  have F2 := fun_mk (st := s_of_sender) l2 c2 k2
  have F3 := fun_mk (st := s_divisor) l3 c3 k3
  have F4 := fun_mk (st := s_ratio) l4 c4 k4
  have F5 := fun_mk (st := s_plus) l5 c5 k5
  have F6 := fun_mk (st := s_minus) l6 c6 k6
  have F7 := fun_mk (st := s_times) l7 c7 k7
  have F8 := fun_mk (st := s_under) l8 c8 k8
  have F9 := fun_mk (st := s_lesser) l9 c9 k9
  have F10 := fun_mk (st := s_buckets_by) l10 c10 k10
  have F11 := fun_mk (st := s_clipped) l11 c11 k11
  have F12 := fun_mk (st := s_allowed) l12 c12 k12
  have F13 := fun_mk (st := s_breaking_first) l13 c13 k13
  have F14 := fun_mk (st := s_breach) l14 c14 k14
  have F15 := fun_mk (st := s__law_cell_at) l15 c15 k15
  have F16 := fun_mk (st := s__law_mix) l16 c16 k16
  have F17 := fun_mk (st := s__law_divisor) l17 c17 k17
  have F18 := fun_mk (st := s__law_row) l18 c18 k18
  have F19 := fun_mk (st := s__law_line) l19 c19 k19
  have F20 := fun_mk (st := s__law_too_much) l20 c20 k20
  have F21 := fun_mk (st := s__law_due) l21 c21 k21
  have F22 := fun_mk (st := s__law_alike) l22 c22 k22
  have F_Bucket_init := funE_mk (st := s_Bucket_init) l_Bucket_init c_Bucket_init_cd
  have B0_Bucket_init : Binds K _ ["self", "depth", "rate", "start"] [] := binds_dflt (fd := PySem.W.fnOf "__init__" "Bucket.__init__" (defArgs s_Bucket_init) (defBody s_Bucket_init) (defScope s_Bucket_init) (.ref dt_Bucket_init) kV_Bucket_init dc_Bucket_init pm_Bucket_init an_Bucket_init co_Bucket_init ct_Bucket_init) rfl dk_Bucket_init (fun us hl => match us, (show us.length = 4 by simpa using hl) with | [_, _, _, _], _ => ⟨_, rfl, rfl⟩)
  have B1_Bucket_init : Binds K _ ["self", "depth", "rate", "start"] [.int 0 tk0_Bucket_init] := binds_dflt (fd := PySem.W.fnOf "__init__" "Bucket.__init__" (defArgs s_Bucket_init) (defBody s_Bucket_init) (defScope s_Bucket_init) (.ref dt_Bucket_init) kV_Bucket_init dc_Bucket_init pm_Bucket_init an_Bucket_init co_Bucket_init ct_Bucket_init) rfl dk_Bucket_init (fun us hl => match us, (show us.length = 3 by simpa using hl) with | [_, _, _], _ => ⟨_, rfl, rfl⟩)
  have F_Bucket_level := funE_mk (st := s_Bucket_level) l_Bucket_level c_Bucket_level_cd
  have B_Bucket_level := (fun_mk (st := s_Bucket_level) l_Bucket_level c_Bucket_level_cd k_Bucket_level).binds (ps := ["self", "at"]) (fun _ _ _ _ _ _ us hl => match us, hl with | [_, _], _ => rfl)
  have F_Bucket_holds := funE_mk (st := s_Bucket_holds) l_Bucket_holds c_Bucket_holds_cd
  have B_Bucket_holds := (fun_mk (st := s_Bucket_holds) l_Bucket_holds c_Bucket_holds_cd k_Bucket_holds).binds (ps := ["self", "at", "length"]) (fun _ _ _ _ _ _ us hl => match us, hl with | [_, _, _], _ => rfl)
  have F_Bucket_pay := funE_mk (st := s_Bucket_pay) l_Bucket_pay c_Bucket_pay_cd
  have B_Bucket_pay := (fun_mk (st := s_Bucket_pay) l_Bucket_pay c_Bucket_pay_cd k_Bucket_pay).binds (ps := ["self", "at", "length"]) (fun _ _ _ _ _ _ us hl => match us, hl with | [_, _, _], _ => rfl)
  have T : Txt K mg c_WheelError c_NoRatio c_NoCurb c_Short c_Bucket := ⟨PySem.W.mg_of X G b_WheelError, xc_WheelError, kp_WheelError, ex_WheelError, PySem.W.mg_of X G b_NoRatio, xc_NoRatio, kp_NoRatio, ex_NoRatio, PySem.W.mg_of X G b_NoCurb, xc_NoCurb, kp_NoCurb, ex_NoCurb, PySem.W.mg_of X G b_Short, xc_Short, kp_Short, ⟨⟨_, _, F_Short, F_Short.binds (ps := ["self", "missing"]) (fun _ _ _ _ _ _ us hl => match us, hl with | [_, _], _ => rfl), fi_Short, tf_Short⟩⟩, tk_Short_missing, fl_Short_missing, s_NoCurb_WheelError, kit_of n_NoCurb_WheelError ci_WheelError ti_WheelError s_NoCurb_WheelError, s_NoCurb_NoRatio, kit_of n_NoCurb_NoRatio ci_NoRatio ti_NoRatio s_NoCurb_NoRatio, s_NoCurb_NoCurb, kit_self, s_NoCurb_Short, kit_of n_NoCurb_Short ci_Short ti_Short s_NoCurb_Short, kit_ve v_NoCurb_VE, s_Short_WheelError, kit_of n_Short_WheelError ci_WheelError ti_WheelError s_Short_WheelError, s_Short_NoRatio, kit_of n_Short_NoRatio ci_NoRatio ti_NoRatio s_Short_NoRatio, s_Short_NoCurb, kit_of n_Short_NoCurb ci_NoCurb ti_NoCurb s_Short_NoCurb, s_Short_Short, kit_self, kit_ve v_Short_VE, PySem.W.mg_none_of X G z1, PySem.W.mg_none_of X G z2, PySem.W.mg_none_of X G z3, PySem.W.mg_none_of X G z4, PySem.W.mg_none_of X G z5, PySem.W.mg_none_of X G z6, PySem.W.mg_none_of X G z7, PySem.W.mg_none_of X G z8, PySem.W.mg_none_of X G z9, PySem.W.mg_none_of X G z10, ⟨_, _, F1, F1.binds (ps := ["piece"]) (fun _ _ _ _ _ _ us hl => match us, hl with | [_], _ => rfl), PySem.W.mg_of X G a1⟩, ⟨_, _, F2, F2.binds (ps := ["row", "who"]) (fun _ _ _ _ _ _ us hl => match us, hl with | [_, _], _ => rfl), PySem.W.mg_of X G a2⟩, ⟨_, _, F3, F3.binds (ps := ["one", "other"]) (fun _ _ _ _ _ _ us hl => match us, hl with | [_, _], _ => rfl), PySem.W.mg_of X G a3⟩, ⟨_, _, F4, F4.binds (ps := ["top", "bottom"]) (fun _ _ _ _ _ _ us hl => match us, hl with | [_, _], _ => rfl), PySem.W.mg_of X G a4⟩, ⟨_, _, F5, F5.binds (ps := ["one", "other"]) (fun _ _ _ _ _ _ us hl => match us, hl with | [_, _], _ => rfl), PySem.W.mg_of X G a5⟩, ⟨_, _, F6, F6.binds (ps := ["one", "other"]) (fun _ _ _ _ _ _ us hl => match us, hl with | [_, _], _ => rfl), PySem.W.mg_of X G a6⟩, ⟨_, _, F7, F7.binds (ps := ["one", "other"]) (fun _ _ _ _ _ _ us hl => match us, hl with | [_, _], _ => rfl), PySem.W.mg_of X G a7⟩, ⟨_, _, F8, F8.binds (ps := ["one", "other"]) (fun _ _ _ _ _ _ us hl => match us, hl with | [_, _], _ => rfl), PySem.W.mg_of X G a8⟩, ⟨_, _, F9, F9.binds (ps := ["one", "other"]) (fun _ _ _ _ _ _ us hl => match us, hl with | [_, _], _ => rfl), PySem.W.mg_of X G a9⟩, ⟨_, _, F10, F10.binds (ps := ["lines"]) (fun _ _ _ _ _ _ us hl => match us, hl with | [_], _ => rfl), PySem.W.mg_of X G a10⟩, ⟨_, _, F11, F11.binds (ps := ["row", "lines"]) (fun _ _ _ _ _ _ us hl => match us, hl with | [_, _], _ => rfl), PySem.W.mg_of X G a11⟩, ⟨_, _, F12, F12.binds (ps := ["line", "time"]) (fun _ _ _ _ _ _ us hl => match us, hl with | [_, _], _ => rfl), PySem.W.mg_of X G a12⟩, ⟨_, _, F13, F13.binds (ps := ["row", "places", "line"]) (fun _ _ _ _ _ _ us hl => match us, hl with | [_, _, _], _ => rfl), PySem.W.mg_of X G a13⟩, ⟨_, _, F14, F14.binds (ps := ["row", "who", "line"]) (fun _ _ _ _ _ _ us hl => match us, hl with | [_, _, _], _ => rfl), PySem.W.mg_of X G a14⟩, ⟨_, _, F15, F15.binds (ps := ["_law_script", "_law_k"]) (fun _ _ _ _ _ _ us hl => match us, hl with | [_, _], _ => rfl), PySem.W.mg_of X G a15⟩, ⟨_, _, F16, F16.binds (ps := ["_law_cell", "_law_k"]) (fun _ _ _ _ _ _ us hl => match us, hl with | [_, _], _ => rfl), PySem.W.mg_of X G a16⟩, ⟨_, _, F17, F17.binds (ps := ["_law_one", "_law_other"]) (fun _ _ _ _ _ _ us hl => match us, hl with | [_, _], _ => rfl), PySem.W.mg_of X G a17⟩, ⟨_, _, F18, F18.binds (ps := ["_law_script", "_law_way", "_law_few"]) (fun _ _ _ _ _ _ us hl => match us, hl with | [_, _, _], _ => rfl), PySem.W.mg_of X G a18⟩, ⟨_, _, F19, F19.binds (ps := ["_law_cell", "_law_way"]) (fun _ _ _ _ _ _ us hl => match us, hl with | [_, _], _ => rfl), PySem.W.mg_of X G a19⟩, ⟨_, _, F20, F20.binds (ps := ["_law_kept", "_law_piece", "_law_told"]) (fun _ _ _ _ _ _ us hl => match us, hl with | [_, _, _], _ => rfl), PySem.W.mg_of X G a20⟩, ⟨_, _, F21, F21.binds (ps := ["_law_row_here", "_law_lines"]) (fun _ _ _ _ _ _ us hl => match us, hl with | [_, _], _ => rfl), PySem.W.mg_of X G a21⟩, ⟨_, _, F22, F22.binds (ps := ["_law_found", "_law_due_here"]) (fun _ _ _ _ _ _ us hl => match us, hl with | [_, _], _ => rfl), PySem.W.mg_of X G a22⟩, PySem.W.mg_of X G b_Bucket, ⟨pg_Bucket, hd_Bucket, po_Bucket, sa_Bucket⟩, na_Bucket_depth, na_Bucket_rate, na_Bucket_since, na_Bucket_left, ⟨⟨_, _, F_Bucket_init, ⟨mk_Bucket, a_Bucket_init, i_Bucket_init_fn, kc_Bucket⟩, (fun dvs h => by simp only [List.mem_cons, List.not_mem_nil, or_false] at h; rcases h with rfl | rfl <;> first | exact ⟨_, .nil, B0_Bucket_init⟩ | exact ⟨_, (.cons ⟨_, rfl⟩ .nil), B1_Bucket_init⟩)⟩⟩, ⟨⟨_, _, F_Bucket_level, ⟨a_Bucket_level, i_Bucket_level_fn, k_Bucket_level⟩, (fun dvs h => by simp only [List.mem_cons, List.not_mem_nil, or_false] at h; subst h; exact BindsV.nil B_Bucket_level)⟩⟩, ⟨⟨_, _, F_Bucket_holds, ⟨a_Bucket_holds, i_Bucket_holds_fn, k_Bucket_holds⟩, (fun dvs h => by simp only [List.mem_cons, List.not_mem_nil, or_false] at h; subst h; exact BindsV.nil B_Bucket_holds)⟩⟩, ⟨⟨_, _, F_Bucket_pay, ⟨a_Bucket_pay, i_Bucket_pay_fn, k_Bucket_pay⟩, (fun dvs h => by simp only [List.mem_cons, List.not_mem_nil, or_false] at h; subst h; exact BindsV.nil B_Bucket_pay)⟩⟩⟩
  exact ⟨PySem.W.fnOf "law" "law" (defArgs s_law) (defBody s_law) (defScope s_law) .none kV23 dc23 pm23 an23 cd23 ct23, fun s v => .of_eq rfl, fun base _ _ => ok_law (fun_mk (st := s_law) l23 c23 k23) T⟩
theorem walk {l : PySem.W.OpenLaw} {q : Program} {loose : List Str} {XP : (Str → Option Value) → Heap → Prop} {YP : World → Heap → Prop} {d : DefRec} {K : Params → PySem.W.Frag} (hn : l.most = some 63) (hdf : d.params.defaults = [])
    (hY : ∀ (w : World) (h : Heap), YP w h → (K w.params).In h)
    (F : ∀ (w : World) (mg : Str → Option Value) (fa : Addr) (h : Heap), (K w.params).In h → h.Ns mainGlobals mg → mg d.name = some (.ref fa) →
      ∃ fd : FuncData, (∀ (s : Shared) (u : Value), BindsTo s fd ⟨[u], []⟩ [("_law_script", u)]) ∧ ∀ base : Heap, (K w.params).In base → base.Ns mainGlobals mg → FnOk l.prog w (K w.params) mg base CX0 7 fa fd ["_law_script"] (spLaw (K w.params))) :
    PySem.W.WalkO q loose XP YP l.row.toRowW d [] (fun f vs => PySem.call f vs) :=
  L2.walk_of (n := 63) (k := 7) (x := "_law_script") (CX := fun _ => CX0) (sp := fun w => spLaw (K w.params)) hn (by decide) hdf ⟨rfl, by decide, by decide⟩ hY F (fun _ _ a ns hl _ hS => ⟨a, ns, rfl, hS, hl, fun _ => rfl⟩) fun _ _ _ _ _ z => z
end K19
open PySem PySem.W PyProof.Rows
set_option maxRecDepth 100000 in
set_option maxHeartbeats 0 in
theorem PySem.Challenge.cw_sharewheel_k19_whole_clipped_by_lines_holds : PySem.Challenge.rw_sharewheel_k19_whole_clipped_by_lines.Holds := by
  w_on; o_law; k_head; (case hw => w_witness2)
  k_fill
  refine K19.walk (l := PySem.Challenge.rw_sharewheel_k19_whole_clipped_by_lines) rfl rfl (fun w h Y => PySem.W.kIn_of Y) ?F
  case F =>
    intro w mg fa h KX G hmg
    refine' K19.all_mk KX G hmg ?b_WheelError ?hd_WheelError ?ga_WheelError ?gn_WheelError ?sa_WheelError ?cl_WheelError ?be_WheelError ?ob_WheelError ?kp_WheelError ?ci_WheelError ?ti_WheelError ?ex_WheelError ?b_NoRatio ?hd_NoRatio ?ga_NoRatio ?gn_NoRatio ?sa_NoRatio ?cl_NoRatio ?be_NoRatio ?ob_NoRatio ?kp_NoRatio ?ci_NoRatio ?ti_NoRatio ?ex_NoRatio ?b_NoCurb ?hd_NoCurb ?ga_NoCurb ?gn_NoCurb ?sa_NoCurb ?cl_NoCurb ?be_NoCurb ?ob_NoCurb ?kp_NoCurb ?ci_NoCurb ?ti_NoCurb ?ex_NoCurb ?b_Short ?hd_Short ?ga_Short ?gn_Short ?sa_Short ?cl_Short ?be_Short ?ob_Short ?kp_Short ?ci_Short ?ti_Short ?lk_Short ?fi_Short ?li_Short ?tf_Short ?cc_Short ?kk_Short ?tk_Short_missing ?fl_Short_missing ?kg ?kt ?s_NoCurb_WheelError ?n_NoCurb_WheelError ?s_NoCurb_NoRatio ?n_NoCurb_NoRatio ?s_NoCurb_NoCurb ?s_NoCurb_Short ?n_NoCurb_Short ?v_NoCurb_VE ?s_Short_WheelError ?n_Short_WheelError ?s_Short_NoRatio ?n_Short_NoRatio ?s_Short_NoCurb ?n_Short_NoCurb ?s_Short_Short ?v_Short_VE ?a1 ?l1 ?c1 ?k1 ?a2 ?l2 ?c2 ?k2 ?a3 ?l3 ?c3 ?k3 ?a4 ?l4 ?c4 ?k4 ?a5 ?l5 ?c5 ?k5 ?a6 ?l6 ?c6 ?k6 ?a7 ?l7 ?c7 ?k7 ?a8 ?l8 ?c8 ?k8 ?a9 ?l9 ?c9 ?k9 ?a10 ?l10 ?c10 ?k10 ?a11 ?l11 ?c11 ?k11 ?a12 ?l12 ?c12 ?k12 ?a13 ?l13 ?c13 ?k13 ?a14 ?l14 ?c14 ?k14 ?a15 ?l15 ?c15 ?k15 ?a16 ?l16 ?c16 ?k16 ?a17 ?l17 ?c17 ?k17 ?a18 ?l18 ?c18 ?k18 ?a19 ?l19 ?c19 ?k19 ?a20 ?l20 ?c20 ?k20 ?a21 ?l21 ?c21 ?k21 ?a22 ?l22 ?c22 ?k22 ?a23 ?l23 ?c23 ?k23 ?z1 ?z2 ?z3 ?z4 ?z5 ?z6 ?z7 ?z8 ?z9 ?z10 ?b_Bucket ?pg_Bucket ?hd_Bucket ?po_Bucket ?sa_Bucket ?mk_Bucket ?kc_Bucket ?na_Bucket_depth ?na_Bucket_rate ?na_Bucket_since ?na_Bucket_left ?a_Bucket_init ?i_Bucket_init_fn ?l_Bucket_init ?c_Bucket_init_cd ?k_Bucket_init ?dk_Bucket_init ?a_Bucket_level ?i_Bucket_level_fn ?l_Bucket_level ?c_Bucket_level_cd ?k_Bucket_level ?a_Bucket_holds ?i_Bucket_holds_fn ?l_Bucket_holds ?c_Bucket_holds_cd ?k_Bucket_holds ?a_Bucket_pay ?i_Bucket_pay_fn ?l_Bucket_pay ?c_Bucket_pay_cd ?k_Bucket_pay
    (case b_WheelError => k_is)
    (case hd_WheelError => k_is)
    (case ga_WheelError => k_is)
    (case gn_WheelError => k_is)
    (case sa_WheelError => k_is)
    (case cl_WheelError => k_is)
    (case be_WheelError => k_is)
    (case ob_WheelError => k_is)
    (case kp_WheelError => k_is)
    (case ci_WheelError => k_is)
    (case ti_WheelError => k_is)
    (case ex_WheelError => k_exc)
    (case b_NoRatio => k_is)
    (case hd_NoRatio => k_is)
    (case ga_NoRatio => k_is)
    (case gn_NoRatio => k_is)
    (case sa_NoRatio => k_is)
    (case cl_NoRatio => k_is)
    (case be_NoRatio => k_is)
    (case ob_NoRatio => k_is)
    (case kp_NoRatio => k_is)
    (case ci_NoRatio => k_is)
    (case ti_NoRatio => k_is)
    (case ex_NoRatio => k_exc)
    (case b_NoCurb => k_is)
    (case hd_NoCurb => k_is)
    (case ga_NoCurb => k_is)
    (case gn_NoCurb => k_is)
    (case sa_NoCurb => k_is)
    (case cl_NoCurb => k_is)
    (case be_NoCurb => k_is)
    (case ob_NoCurb => k_is)
    (case kp_NoCurb => k_is)
    (case ci_NoCurb => k_is)
    (case ti_NoCurb => k_is)
    (case ex_NoCurb => k_exc)
    (case b_Short => k_is)
    (case hd_Short => k_is)
    (case ga_Short => k_is)
    (case gn_Short => k_is)
    (case sa_Short => k_is)
    (case cl_Short => k_is)
    (case be_Short => k_is)
    (case ob_Short => k_is)
    (case kp_Short => k_is)
    (case ci_Short => k_is)
    (case ti_Short => k_is)
    (case lk_Short => k_is)
    (case fi_Short => k_is)
    (case li_Short => k_is)
    (case tf_Short => k_is)
    (case cc_Short => k_is)
    (case kk_Short => k_is)
    (case tk_Short_missing => k_is)
    (case fl_Short_missing => k_is)
    (case kg => k_is)
    (case kt => k_is)
    (case s_NoCurb_WheelError => k_is)
    (case n_NoCurb_WheelError => rfl)
    (case s_NoCurb_NoRatio => k_is)
    (case n_NoCurb_NoRatio => rfl)
    (case s_NoCurb_NoCurb => k_is)
    (case s_NoCurb_Short => k_is)
    (case n_NoCurb_Short => rfl)
    (case v_NoCurb_VE => k_is)
    (case s_Short_WheelError => k_is)
    (case n_Short_WheelError => rfl)
    (case s_Short_NoRatio => k_is)
    (case n_Short_NoRatio => rfl)
    (case s_Short_NoCurb => k_is)
    (case n_Short_NoCurb => rfl)
    (case s_Short_Short => k_is)
    (case v_Short_VE => k_is)
    (case a1 => k_is)
    (case l1 => k_is)
    (case c1 => k_is)
    (case k1 => k_is)
    (case a2 => k_is)
    (case l2 => k_is)
    (case c2 => k_is)
    (case k2 => k_is)
    (case a3 => k_is)
    (case l3 => k_is)
    (case c3 => k_is)
    (case k3 => k_is)
    (case a4 => k_is)
    (case l4 => k_is)
    (case c4 => k_is)
    (case k4 => k_is)
    (case a5 => k_is)
    (case l5 => k_is)
    (case c5 => k_is)
    (case k5 => k_is)
    (case a6 => k_is)
    (case l6 => k_is)
    (case c6 => k_is)
    (case k6 => k_is)
    (case a7 => k_is)
    (case l7 => k_is)
    (case c7 => k_is)
    (case k7 => k_is)
    (case a8 => k_is)
    (case l8 => k_is)
    (case c8 => k_is)
    (case k8 => k_is)
    (case a9 => k_is)
    (case l9 => k_is)
    (case c9 => k_is)
    (case k9 => k_is)
    (case a10 => k_is)
    (case l10 => k_is)
    (case c10 => k_is)
    (case k10 => k_is)
    (case a11 => k_is)
    (case l11 => k_is)
    (case c11 => k_is)
    (case k11 => k_is)
    (case a12 => k_is)
    (case l12 => k_is)
    (case c12 => k_is)
    (case k12 => k_is)
    (case a13 => k_is)
    (case l13 => k_is)
    (case c13 => k_is)
    (case k13 => k_is)
    (case a14 => k_is)
    (case l14 => k_is)
    (case c14 => k_is)
    (case k14 => k_is)
    (case a15 => k_is)
    (case l15 => k_is)
    (case c15 => k_is)
    (case k15 => k_is)
    (case a16 => k_is)
    (case l16 => k_is)
    (case c16 => k_is)
    (case k16 => k_is)
    (case a17 => k_is)
    (case l17 => k_is)
    (case c17 => k_is)
    (case k17 => k_is)
    (case a18 => k_is)
    (case l18 => k_is)
    (case c18 => k_is)
    (case k18 => k_is)
    (case a19 => k_is)
    (case l19 => k_is)
    (case c19 => k_is)
    (case k19 => k_is)
    (case a20 => k_is)
    (case l20 => k_is)
    (case c20 => k_is)
    (case k20 => k_is)
    (case a21 => k_is)
    (case l21 => k_is)
    (case c21 => k_is)
    (case k21 => k_is)
    (case a22 => k_is)
    (case l22 => k_is)
    (case c22 => k_is)
    (case k22 => k_is)
    (case a23 => k_is)
    (case l23 => k_is)
    (case c23 => k_is)
    (case k23 => k_is)
    (case z1 => k_is)
    (case z2 => k_is)
    (case z3 => k_is)
    (case z4 => k_is)
    (case z5 => k_is)
    (case z6 => k_is)
    (case z7 => k_is)
    (case z8 => k_is)
    (case z9 => k_is)
    (case z10 => k_is)
    (case b_Bucket => k_is)
    (case pg_Bucket => k_is)
    (case hd_Bucket => k_is)
    (case po_Bucket => k_is)
    (case sa_Bucket => k_is)
    (case mk_Bucket => k_is)
    (case kc_Bucket => k_is)
    (case na_Bucket_depth => k_is)
    (case na_Bucket_rate => k_is)
    (case na_Bucket_since => k_is)
    (case na_Bucket_left => k_is)
    (case a_Bucket_init => k_is)
    (case i_Bucket_init_fn => k_is)
    (case l_Bucket_init => k_is)
    (case c_Bucket_init_cd => k_is)
    (case k_Bucket_init => k_is)
    (case dk_Bucket_init => k_is)
    (case a_Bucket_level => k_is)
    (case i_Bucket_level_fn => k_is)
    (case l_Bucket_level => k_is)
    (case c_Bucket_level_cd => k_is)
    (case k_Bucket_level => k_is)
    (case a_Bucket_holds => k_is)
    (case i_Bucket_holds_fn => k_is)
    (case l_Bucket_holds => k_is)
    (case c_Bucket_holds_cd => k_is)
    (case k_Bucket_holds => k_is)
    (case a_Bucket_pay => k_is)
    (case i_Bucket_pay_fn => k_is)
    (case l_Bucket_pay => k_is)
    (case c_Bucket_pay_cd => k_is)
    (case k_Bucket_pay => k_is)
