import PyProof.Rows.All
import Wide.All
import OpenK.AllK
import Wide.FinOn
import Lean
import PyProof.EqAt
import PyProof.EqKinds
import PyProof.TupleCall
import PySem.Challenge.RW_sharewheel_k81_fractions_written
set_option Elab.async false
set_option linter.all false
set_option maxRecDepth 100000
namespace L2
open PySem PySem.Spec PyProof.Rows
abbrev Key := Sum Int Str
def keyIs : Key → Value → Bool
  | .inl k, v => Value.isInt k v
  | .inr x, v => Value.isStrOf x v
def keyH (w : World) : Key → Int
  | .inl k => hashInt k
  | .inr x => hashStr w x
theorem keyIs_shape : ∀ {k : Key} {v : Value}, keyIs k v = true → (∃ i t, k = Sum.inl i ∧ v = Value.int i t) ∨ (∃ x t, k = Sum.inr x ∧ v = Value.str x t)
  | .inl i, v, h => by
    obtain ⟨t, e⟩ := Value.isInt_shape (k := i) (v := v) h
    exact .inl ⟨i, t, rfl, e⟩
  | .inr x, v, h => by
    obtain ⟨t, e⟩ := Value.isStrOf_shape (x := x) (v := v) h
    exact .inr ⟨x, t, rfl, e⟩
theorem key_ll (a b : Int) : decide ((Sum.inl a : Key) = Sum.inl b) = (a == b) := by
  by_cases e : a = b
  · subst e; simp
  · have h : ¬ (Sum.inl a : Key) = Sum.inl b := fun q => e (Sum.inl.inj q)
    rw [decide_eq_false h]
    exact (beq_eq_false_iff_ne.mpr e).symm
theorem key_rr (a b : Str) : decide ((Sum.inr a : Key) = Sum.inr b) = decide (a = b) := by
  by_cases e : a = b
  · subst e; simp
  · have h : ¬ (Sum.inr a : Key) = Sum.inr b := fun q => e (Sum.inr.inj q)
    rw [decide_eq_false h, decide_eq_false e]
theorem key_lr (a : Int) (b : Str) : decide ((Sum.inl a : Key) = Sum.inr b) = false := decide_eq_false (fun q => nomatch q)
theorem key_rl (a : Str) (b : Int) : decide ((Sum.inr a : Key) = Sum.inl b) = false := decide_eq_false (fun q => nomatch q)
def mixKind (prog : Program) (w : World) : PySem.KeyKind prog w Key where
  is := keyIs
  hash := keyH w
  inj := fun v a b ha hb => by
    rcases keyIs_shape ha with ⟨i, t, rfl, rfl⟩ | ⟨x, t, rfl, rfl⟩
    · rcases keyIs_shape hb with ⟨j, u, rfl, e⟩ | ⟨y, u, rfl, e⟩
      · injection e with e1 _; rw [e1]
      · exact nomatch e
    · rcases keyIs_shape hb with ⟨j, u, rfl, e⟩ | ⟨y, u, rfl, e⟩
      · exact nomatch e
      · injection e with e1 _; rw [e1]
  byValue := fun k v h => by
    rcases keyIs_shape h with ⟨i, t, rfl, rfl⟩ | ⟨x, t, rfl, rfl⟩ <;> rfl
  pyHash := fun hv h => by
    rcases keyIs_shape hv with ⟨i, t, rfl, rfl⟩ | ⟨x, t, rfl, rfl⟩
    · exact wpAny_pyHash_int h
    · exact wpAny_pyHash_str h
  eqBool := fun hu hv h => by
    rcases keyIs_shape hu with ⟨i, t, rfl, rfl⟩ | ⟨x, t, rfl, rfl⟩
    · rcases keyIs_shape hv with ⟨j, u, rfl, rfl⟩ | ⟨y, u, rfl, rfl⟩
      · rw [key_ll] at h; exact wpAny_eqBool_int h
      · rw [key_lr] at h; exact SeqAt.EqAt.int_str i t y u _ _ _ _ h
    · rcases keyIs_shape hv with ⟨j, u, rfl, rfl⟩ | ⟨y, u, rfl, rfl⟩
      · rw [key_rl] at h; exact SeqAt.EqAt.str_int x t j u _ _ _ _ h
      · rw [key_rr] at h; exact wpAny_eqBool_str h
  «strs» := fun k x t v h => by
    rcases keyIs_shape h with ⟨i, u, rfl, e⟩ | ⟨y, u, rfl, e⟩
    · exact nomatch e
    · injection e with e1 _
      subst e1
      cases v <;> rfl
end L2
namespace L2
open PySem PySem.Spec PyProof.Rows
inductive V where
  | non | bl (b : Bool) | int (i : Int) | str (x : Str) | byt (b : Array UInt8) | flt (b : UInt64) | ref (a : Addr) | ty (n : String)
  deriving DecidableEq
def RelV : V → Value → Prop
  | .non, u => u = Value.none
  | .bl b, u => u = Value.bool b
  | .int i, u => ∃ t, u = Value.int i t
  | .str x, u => ∃ t, u = Value.str x t
  | .byt b, u => ∃ t, u = Value.bytes b t
  | .flt b, u => ∃ t, u = Value.float b t
  | .ref a, u => u = Value.ref a
  | .ty n, u => u = Value.type n
abbrev Vals : List V → List Value → Prop := Paired RelV
theorem Vals.length {xs : List V} {us : List Value} (r : Vals xs us) : xs.length = us.length := Paired.length r
theorem Vals.get : ∀ {xs : List V} {us : List Value} {i : Nat} {x : V}, Vals xs us → xs[i]? = some x → ∃ u, us[i]? = some u ∧ RelV x u
  | _, _, _, _, .nil, e => by simp at e
  | _, _, 0, _, .cons r _, e => by simp at e; subst e; exact ⟨_, rfl, r⟩
  | _, _, i + 1, x, .cons _ t, e => by
    obtain ⟨u, h1, h2⟩ := Vals.get (i := i) (x := x) t (by simpa using e)
    exact ⟨u, by simpa using h1, h2⟩
theorem Vals.set {x : V} {u : Value} (r : RelV x u) : ∀ {xs : List V} {us : List Value} (i : Nat), Vals xs us → Vals (xs.set i x) (us.set i u)
  | _, _, _, .nil => .nil
  | _, _, 0, .cons _ t => .cons r t
  | _, _, i + 1, .cons q t => .cons q (Vals.set r i t)
theorem Vals.append : ∀ {xs ys : List V} {us ws : List Value}, Vals xs us → Vals ys ws → Vals (xs ++ ys) (us ++ ws)
  | _, _, _, _, .nil, s => s
  | _, _, _, _, .cons r t, s => .cons r (Vals.append t s)
theorem Vals.take : ∀ {xs : List V} {us : List Value} (n : Nat), Vals xs us → Vals (xs.take n) (us.take n)
  | _, _, 0, _ => .nil
  | _, _, _ + 1, .nil => .nil
  | _, _, n + 1, .cons r t => .cons r (Vals.take n t)
theorem Vals.drop : ∀ {xs : List V} {us : List Value} (n : Nat), Vals xs us → Vals (xs.drop n) (us.drop n)
  | _, _, 0, r => r
  | _, _, _ + 1, .nil => .nil
  | _, _, n + 1, .cons _ t => Vals.drop n t
def RelO : Option V → Option Value → Prop
  | some v, some u => RelV v u
  | none, none => True
  | _, _ => False
def KV {κ : Type} : List (κ × V) → List (κ × Value) → Prop := Paired fun (p : κ × V) (q : κ × Value) => p.1 = q.1 ∧ RelV p.2 q.2
def kV : Key → V
  | .inl i => .int i
  | .inr x => .str x
inductive HO where
  /-- a list -/
  | lst (xs : List V)
  /-- a tuple (never changes) -/
  | tup (xs : List V)
  /-- a dict whose keys are ints and texts; one whose keys are tuples of ints and texts (the empty one is both) -/
  | dK (kvs : List (Key × V)) | dT (kvs : List (List Key × V))
  /-- a set of ints: its members, its size -/
  | set (S : Int → Bool) (n : Nat)
  /-- an instance of the class at C, its dict at dx, its attributes -/
  | ins (C dx : Addr) (fs : List (Str × V))
  /-- the dict of the instance at x -/
  | own (x : Addr)
  /-- the dict of an exception -/
  | xd (fs : List (Str × V))
  /-- a bound method, f of x -/
  | met (f x : Addr)
  /-- a range object lo, lo + 1, .. below hi -/
  | rng (lo hi : Int)
  /-- a thing that is known to the object (the script; a dict while a loop walks it): read, never written while it is so -/
  | frz (o : Obj) (u : HO)
  /-- a code object's table -/
  | tbl (ps : Array Value)
  /-- any other thing, by what is true of its one object (a def of one's own: SetO a S n := HO.ext fun h => ..) -/
  | ext (φ : Heap → Prop)
abbrev Hp := Addr → Option HO
def upd (H : Hp) (a : Addr) (o : HO) : Hp := fun b => if b = a then some o else H b
theorem upd_same {H : Hp} {a : Addr} {o : HO} : upd H a o a = some o := by unfold upd; rw [if_pos rfl]
theorem upd_ne {H : Hp} {a b : Addr} {o : HO} (h : b ≠ a) : upd H a o b = H b := by unfold upd; rw [if_neg h]
theorem upd_upd {H : Hp} {a : Addr} {o u : HO} : upd (upd H a o) a u = upd H a u := by
  funext b; unfold upd; split <;> rfl
theorem ne_of {H : Hp} {a b : Addr} {o u : HO} (h : H a = some o) (h' : H b = some u) (d : o ≠ u) : a ≠ b := by
  intro e; subst e; rw [h] at h'; exact d (Option.some.inj h')
theorem ne_of_none {H : Hp} {a b : Addr} {o : HO} (h : H a = some o) (h' : H b = none) : a ≠ b := by
  intro e; subst e; rw [h] at h'; cases h'
section
variable (P : Program) (w : World)
def ObjOk (H : Hp) (h : Heap) (a : Addr) : HO → Prop
  | .lst xs => xs.length ≤ sizeLine ∧ ∃ (its : List Value) (n : Nat), Vals xs its ∧ h.get? a = some { cls := .type "list", data := .seq its.toArray n }
  | .tup xs => xs.length ≤ sizeLine ∧ ∃ its : List Value, Vals xs its ∧ IsTup h a its.toArray
  | .dK kvs => kvs.length ≤ sizeLine ∧ (a == sysModules) = false ∧ ∃ vs, KV kvs vs ∧ h.DictOf (mixKind P w) a vs
  | .dT kvs => kvs.length ≤ sizeLine ∧ (a == sysModules) = false ∧ ∃ xs : List (List Key × Addr × Value),
      Paired (fun (p : List Key × V) (q : List Key × Addr × Value) => p.1 = q.1 ∧ H q.2.1 = some (.tup (p.1.map kV)) ∧ RelV p.2 q.2.2) kvs xs ∧
      ∃ o es ep, h.get? a = some o ∧ o.ExactDict ∧ o.data = .dict es ep ∧ es.toList = xs.map (entryOfKey (tupleKind (mixKind P w))) ∧ (xs.map (·.1)).Nodup
  | .set S n => h.SetOf (intKind P w) a S n
  | .ins C dx fs => H dx = some (.own a) ∧ fs.length ≤ 1000 ∧ dx ≠ a ∧ h.get? a = some (PySem.W.instObj C dx) ∧
      ∃ mA, h.Ns1 dx mA ∧ (∀ f, RelO (fs.lookup f) (mA f)) ∧ PySem.Within mA (fs.map (·.1))
  | .own _ => ∃ o, h.get? a = some o
  | .xd fs => ∃ mA, h.Ns1 a mA ∧ ∀ f, RelO (fs.lookup f) (mA f)
  | .rng lo hi => ∃ t u v, h.get? a = some { cls := .type "range", data := .fields #[.int lo t, .int hi u, .int 1 v] }
  | .frz o u => h.get? a = some o ∧ ObjOk H h a u
  | .tbl ps => h.get? a = some { cls := .none, data := .fields ps }
  | .met f x => h.get? a = some (PySem.W.methodObj (.ref f) (.ref x))
  | .ext φ => φ h ∧ (∃ o, h.get? a = some o) ∧ ∀ h1 h2 : Heap, φ h1 → (∀ o, h1.get? a = some o → h2.get? a = some o) → φ h2
def HOk (H : Hp) (h : Heap) : Prop := ∀ a o, H a = some o → ObjOk P w H h a o
end
section
variable {P : Program} {w : World} {H H' : Hp} {h h' : Heap} {a : Addr} {o : HO}
theorem ObjOk.lt (x : ObjOk P w H h a o) : a < h.objs.size := by
  cases o with
  | lst xs => obtain ⟨_, _, _, _, e⟩ := x; exact Heap.lt_size e
  | tup xs => obtain ⟨_, _, _, p⟩ := x; exact p.lt
  | dK kvs => obtain ⟨_, _, _, _, o, _, _, e, _⟩ := x; exact Heap.lt_size e
  | dT kvs => obtain ⟨_, _, _, _, o, _, _, e, _⟩ := x; exact Heap.lt_size e
  | set S n => obtain ⟨o, _, _, _, e, _⟩ := x; exact Heap.lt_size e
  | ins C dx fs => obtain ⟨_, _, _, e, _⟩ := x; exact Heap.lt_size e
  | own y => obtain ⟨_, e⟩ := x; exact Heap.lt_size e
  | xd fs => obtain ⟨_, ⟨_, _, _, e, _⟩, _⟩ := x; exact Heap.lt_size e
  | rng lo hi => obtain ⟨_, _, _, e⟩ := x; exact Heap.lt_size e
  | frz ob u => obtain ⟨e, _⟩ := x; exact Heap.lt_size e
  | tbl ps => exact Heap.lt_size (show h.get? a = some _ from x)
  | met f y => exact Heap.lt_size (show h.get? a = some _ from x)
  | ext φ => obtain ⟨_, ⟨_, e⟩, _⟩ := x; exact Heap.lt_size e
theorem Paired.mapP {α β : Type} {F G : α → β → Prop} : ∀ {l₁ : List α} {l₂ : List β}, Paired F l₁ l₂ → (∀ a b, F a b → G a b) → Paired G l₁ l₂
  | _, _, .nil, _ => .nil
  | _, _, .cons r t, f => .cons (f _ _ r) (Paired.mapP t f)
theorem ObjOk.stay (x : ObjOk P w H h a o) (k : ∀ b u, (b = a ∨ H b = some (.own a)) → h.get? b = some u → h'.get? b = some u)
    (ho : ∀ b, H b = some (.own a) → H' b = some (.own a)) (ht : ∀ b xs, H b = some (.tup xs) → H' b = some (.tup xs)) : ObjOk P w H' h' a o := by
  induction o with
  | lst xs => obtain ⟨z, its, n, r, e⟩ := x; exact ⟨z, its, n, r, k _ _ (.inl rfl) e⟩
  | tup xs => obtain ⟨z, its, r, ob, e, c⟩ := x; exact ⟨z, its, r, ob, k _ _ (.inl rfl) e, c⟩
  | dK kvs => obtain ⟨z, y, vs, r, ob, es, ep, e, c⟩ := x; exact ⟨z, y, vs, r, ob, es, ep, k _ _ (.inl rfl) e, c⟩
  | dT kvs =>
    obtain ⟨z, y, xs, r, ob, es, ep, e, c⟩ := x
    exact ⟨z, y, xs, Paired.mapP r fun p q z => ⟨z.1, ht _ _ z.2.1, z.2.2⟩, ob, es, ep, k _ _ (.inl rfl) e, c⟩
  | set S n => obtain ⟨ob, es, ep, t, e, c⟩ := x; exact ⟨ob, es, ep, t, k _ _ (.inl rfl) e, c⟩
  | ins C dx fs =>
    obtain ⟨d, z, ne, e, mA, ⟨od, es, ep, e2, c⟩, r⟩ := x
    exact ⟨ho _ d, z, ne, k _ _ (.inl rfl) e, mA, ⟨od, es, ep, k _ _ (.inr d) e2, c⟩, r⟩
  | own y => obtain ⟨ob, e⟩ := x; exact ⟨ob, k _ _ (.inl rfl) e⟩
  | xd fs => obtain ⟨mA, ⟨od, es, ep, e, c⟩, r⟩ := x; exact ⟨mA, ⟨od, es, ep, k _ _ (.inl rfl) e, c⟩, r⟩
  | rng lo hi => obtain ⟨t, u, v, e⟩ := x; exact ⟨t, u, v, k _ _ (.inl rfl) e⟩
  | frz ob u ih => obtain ⟨e, q⟩ := x; exact ⟨k _ _ (.inl rfl) e, ih q⟩
  | tbl ps =>
    have e : h.get? a = some { cls := .none, data := .fields ps } := x
    show h'.get? a = some { cls := .none, data := .fields ps }
    exact k a _ (.inl rfl) e
  | met f y =>
    have e : h.get? a = some (PySem.W.methodObj (.ref f) (.ref y)) := x
    show h'.get? a = some (PySem.W.methodObj (.ref f) (.ref y))
    exact k a _ (.inl rfl) e
  | ext φ => obtain ⟨p, ⟨o, e⟩, st⟩ := x; exact ⟨st _ _ p fun o q => k _ _ (.inl rfl) q, ⟨o, k _ _ (.inl rfl) e⟩, st⟩
theorem HOk.lt (x : HOk P w H h) (e : H a = some o) : a < h.objs.size := (x a o e).lt
theorem HOk.fresh (x : HOk P w H h) (e : h.objs.size ≤ a) : H a = none := by
  cases q : H a with
  | none => rfl
  | some u => exact absurd (Nat.lt_of_lt_of_le (x.lt q) e) (Nat.lt_irrefl _)
theorem HOk.kept (x : HOk P w H h) (k : ∀ b u, h.get? b = some u → h'.get? b = some u) : HOk P w H h' := fun a o e =>
  (x a o e).stay (fun b u _ q => k b u q) (fun _ q => q) fun _ _ q => q
theorem HOk.laid (x : HOk P w H h) (k : ∀ b u, h.get? b = some u → h'.get? b = some u) (hp : h.objs.size ≤ a) (new : ObjOk P w (upd H a o) h' a o) : HOk P w (upd H a o) h' := fun b u e => by
  have hn := x.fresh hp
  by_cases hb : b = a
  · subst hb; rw [upd_same] at e; cases e; exact new
  · rw [upd_ne hb] at e
    exact (x b u e).stay (fun c v _ q => k c v q) (fun c q => by rw [upd_ne (ne_of_none q hn)]; exact q) fun c xs q => by rw [upd_ne (ne_of_none q hn)]; exact q
end
def Rd (H : Hp) (a : Addr) (u : HO) : Prop := H a = some u ∨ ∃ o, H a = some (.frz o u)
theorem Rd.of {H : Hp} {a : Addr} {u : HO} (h : H a = some u) : Rd H a u := .inl h
theorem Rd.ok {P : Program} {w : World} {H : Hp} {h : Heap} {a : Addr} {u : HO} (r : Rd H a u) (x : HOk P w H h) : ObjOk P w H h a u := by
  rcases r with r | ⟨o, r⟩
  · exact x a u r
  · obtain ⟨_, q⟩ := x a _ r
    exact q
def Mut : Option HO → Prop
  | some (.lst _) => True
  | some (.dK _) => True
  | some (.dT _) => True
  | some (.set _ _) => True
  | some (.ins _ _ _) => True
  | some (.ext _) => True
  | _ => False
section
variable {P : Program} {w : World} {H : Hp} {h h' : Heap} {x e : Addr} {o' : HO}
theorem HOk.write (ok : HOk P w H h) (mu : Mut (H x)) (he : e = x ∨ H e = some (.own x)) (k : ∀ b u, b ≠ e → h.get? b = some u → h'.get? b = some u) (heo : ∃ u, h'.get? e = some u)
    (new : ObjOk P w (upd H x o') h' x o') : HOk P w (upd H x o') h' := fun b u q => by
  have nown : ∀ c y, H c = some (.own y) → c ≠ x := fun c y r z => by subst z; rw [r] at mu; exact mu
  have ntup : ∀ c xs, H c = some (.tup xs) → c ≠ x := fun c xs r z => by subst z; rw [r] at mu; exact mu
  by_cases hb : b = x
  · subst hb; rw [upd_same] at q; cases q; exact new
  · rw [upd_ne hb] at q
    by_cases hbe : b = e
    · have q' : H b = some (.own x) := by
        rcases he with z | z
        · exact absurd (hbe.trans z) hb
        · rw [hbe]; exact z
      rw [q] at q'; cases q'
      obtain ⟨v, hv⟩ := heo
      exact ⟨v, by rw [hbe]; exact hv⟩
    · refine (ok b u q).stay (fun c v hc r => k c v ?_ r) (fun c r => by rw [upd_ne (nown c b r)]; exact r) fun c xs r => by rw [upd_ne (ntup c xs r)]; exact r
      rcases hc with rfl | hc
      · exact hbe
      · rintro rfl
        rcases he with z | z
        · exact nown c b hc z
        · rw [hc] at z; cases z; exact hb rfl
end
structure Un (fs ex : List Addr) (H H' : Hp) (h h' : Heap) : Prop where
  keep : ∀ b o, h.get? b = some o → H b = none → b ∉ fs → b ∉ ex → h'.get? b = some o
  slot : ∀ b o, h.get? b = some o → H b = none → b ∈ fs → b ∉ ex → ∃ sl, h'.get? b = some { o with slots := sl }
  free : ∀ b o, h.get? b = some o → H b = none → b ∉ ex → H' b = none
  there : ∀ b o, h.get? b = some o → b ∉ ex → ∃ o', h'.get? b = some o'
  tups : ∀ b xs, H b = some (.tup xs) → H' b = some (.tup xs)
  frzs : ∀ b o u, H b = some (.frz o u) → H' b = some (.frz o u)
  tbls : ∀ b ps, H b = some (.tbl ps) → ∃ more, H' b = some (.tbl (ps ++ more))
section
variable {fs fs' ex ex' : List Addr} {H H1 H2 : Hp} {h h1 h2 h' : Heap} {a x e : Addr} {o : HO}
theorem Un.any (u : Un fs ex H H1 h h1) {b : Addr} {ob : Obj} (q : h.get? b = some ob) (n : H b = none) (hx : b ∉ ex) : ∃ sl, h1.get? b = some { ob with slots := sl } := by
  by_cases hb : b ∈ fs
  · exact u.slot b ob q n hb hx
  · exact ⟨ob.slots, u.keep b ob q n hb hx⟩
theorem Un.trans (a : Un fs ex H H1 h h1) (b : Un fs ex H1 H2 h1 h2) : Un fs ex H H2 h h2 where
  keep := fun c ob q n hc hx => b.keep c ob (a.keep c ob q n hc hx) (a.free c ob q n hx) hc hx
  slot := fun c ob q n hc hx => by
    obtain ⟨sl, e1⟩ := a.slot c ob q n hc hx
    obtain ⟨sl', e2⟩ := b.slot c _ e1 (a.free c ob q n hx) hc hx
    exact ⟨sl', e2⟩
  free := fun c ob q n hx => by
    obtain ⟨o', e1⟩ := a.there c ob q hx
    exact b.free c o' e1 (a.free c ob q n hx) hx
  there := fun c ob q hx => by
    obtain ⟨o', e1⟩ := a.there c ob q hx
    exact b.there c o' e1 hx
  tups := fun c xs q => b.tups c xs (a.tups c xs q)
  frzs := fun c ob xs q => b.frzs c ob xs (a.frzs c ob xs q)
  tbls := fun c ps q => by
    obtain ⟨m1, e1⟩ := a.tbls c ps q
    obtain ⟨m2, e2⟩ := b.tbls c _ e1
    exact ⟨m1 ++ m2, by rw [e2, Array.append_assoc]⟩
theorem Un.kept (k : ∀ b u, h.get? b = some u → h'.get? b = some u) : Un fs ex H H h h' :=
  ⟨fun b ob q _ _ _ => k b ob q, fun b ob q _ _ _ => ⟨ob.slots, k b ob q⟩, fun _ _ _ n _ => n, fun b ob q _ => ⟨ob, k b ob q⟩, fun _ _ q => q, fun _ _ _ q => q, fun _ ps q => ⟨#[], by rw [q]; simp⟩⟩
theorem Un.refl : Un fs ex H H h h := Un.kept fun _ _ q => q
theorem Un.laid (k : ∀ b u, h.get? b = some u → h'.get? b = some u) (hp : h.objs.size ≤ a) (hn : H a = none) : Un fs ex H (upd H a o) h h' where
  keep := fun b u q _ _ _ => k b u q
  slot := fun b u q _ _ _ => ⟨u.slots, k b u q⟩
  free := fun b u q n _ => by rw [upd_ne (Nat.ne_of_lt (Nat.lt_of_lt_of_le (Heap.lt_size q) hp))]; exact n
  there := fun b u q _ => ⟨u, k b u q⟩
  tups := fun b xs q => by rw [upd_ne (ne_of_none q hn)]; exact q
  frzs := fun b u xs q => by rw [upd_ne (ne_of_none q hn)]; exact q
  tbls := fun b ps q => ⟨#[], by rw [upd_ne (ne_of_none q hn), q]; simp⟩
theorem Un.write (mu : Mut (H x)) (he : e = x ∨ H e = some (.own x)) (k : ∀ b u, b ≠ e → h.get? b = some u → h'.get? b = some u) (heo : ∃ u, h'.get? e = some u) : Un fs ex H (upd H x o) h h' := by
  have hx : ∀ b, H b = none → b ≠ x := fun b n z => by subst z; rw [n] at mu; exact mu
  have hb : ∀ b, H b = none → b ≠ e := fun b n z => by
    subst z
    rcases he with r | r
    · exact hx b n r
    · rw [n] at r; cases r
  have hm : ∀ b u, H b = some u → ¬ Mut (some u) → b ≠ x := fun b u q nm z => by subst z; rw [q] at mu; exact nm mu
  refine ⟨fun b u q n _ _ => k b u (hb b n) q, fun b u q n _ _ => ⟨u.slots, k b u (hb b n) q⟩, fun b u q n _ => by rw [upd_ne (hx b n)]; exact n, fun b u q _ => ?_,
    fun b xs q => by rw [upd_ne (hm b _ q fun z => z)]; exact q, fun b u xs q => by rw [upd_ne (hm b _ q fun z => z)]; exact q, fun b ps q => ⟨#[], by rw [upd_ne (hm b _ q fun z => z), q]; simp⟩⟩
  by_cases hbe : b = e
  · subst hbe; exact heo
  · exact ⟨u, k b u hbe q⟩
theorem Un.mono (u : Un fs ex H H1 h h1) (hs : ∀ b ∈ fs, b ∈ fs') (hx : ∀ b ∈ ex, b ∈ ex') : Un fs' ex' H H1 h h1 :=
  ⟨fun b ob q n hb he => u.keep b ob q n (fun z => hb (hs b z)) fun z => he (hx b z), fun _ _ q n _ he => u.any q n fun z => he (hx _ z), fun b ob q n he => u.free b ob q n fun z => he (hx b z), fun b ob q he => u.there b ob q fun z => he (hx b z), u.tups, u.frzs, u.tbls⟩
end
def trk (h : Heap) (H : Hp) : List Addr := (List.range h.objs.size).filter fun a => (H a).isSome
def hidT (h : Heap) (H : Hp) : Heap := PySem.W.hideAll h (trk h H)
theorem hidT_size (h : Heap) (H : Hp) : (hidT h H).objs.size = h.objs.size := PySem.W.hideAll_size _ _
theorem hidT_get {h : Heap} {H : Hp} {b : Addr} {o : Obj} (e : h.get? b = some o) (n : H b = none) : (hidT h H).get? b = some o :=
  PySem.W.hideAll_get _ e fun hm => by
    have q : (H b).isSome = true := (List.mem_filter.mp hm).2
    rw [n] at q; simp at q
theorem of_hidT {h : Heap} {H : Hp} {b : Addr} {o : Obj} (e : (hidT h H).get? b = some o) : h.get? b = some o ∧ H b = none := by
  have e' : h.get? b = some o := PySem.W.of_hideAll (trk h H) e
  refine ⟨e', ?_⟩
  cases q : H b with
  | none => rfl
  | some x =>
    have hm : b ∈ trk h H := List.mem_filter.mpr ⟨List.mem_range.mpr (Heap.lt_size e'), by simp [q]⟩
    have z : (hidT h H).get? b = none := PySem.W.hideAll_none (trk h H) hm
    rw [z] at e; cases e
def allNews (g h : Heap) (L : Addr) : List (Addr × Obj) := (List.range h.objs.size).filterMap fun a => if a = L ∨ (g.get? a).isSome = true then none else (h.get? a).map fun o => (a, o)
def rest (g h : Heap) (L d : Addr) : List (Addr × Obj) := (allNews g h L).filter fun p => decide (p.1 ≠ d)
end L2
namespace L2
open PySem PySem.Spec PyProof.Rows
structure Mod (K : PySem.W.Frag) (mg : Str → Option Value) (base : Heap) : Prop where
  kin : K.In base
  glob : base.Ns mainGlobals mg
  blt : ∃ mb, base.Ns builtinsNs mb ∧ ∀ x : Str, x ≠ "__name__" → mb x = bootBuiltins x
  nolimit : base.NoLimit
structure Cx where
  prog : Program
  w : World
  K : PySem.W.Frag
  mg : Str → Option Value
  base : Heap
  A : Around
  N : List Str
  s₀ : Shared
  H₀ : Hp
  env : Env
  outer : List Env
  stack : List Env
  ex : List Addr
  fn : Str → Bool
  calm : Bool
  pn : List (Addr × Obj)
  xe : Value → Shared → Prop
def frs (l : List Env) : List Addr := l.filterMap (·.frame)
abbrev Cx.fs (X : Cx) : List Addr := frs X.outer
def Vis (sc : Scope) (x : Str) : Prop := sc.names.lookup x = some .local ∨ sc.names.lookup x = some .cell ∨ sc.names.lookup x = some .free
def Loc (sc : Scope) (x : Str) : Prop := sc.names.lookup x = some .local ∨ sc.names.lookup x = some .cell
def Look (env : Env) (h : Heap) (m : Str → Option Value) (x : Str) (u : Value) : Prop :=
  (env.kindOf x = some .local ∧ m x = some u) ∨ ((env.kindOf x = some .cell ∨ env.kindOf x = some .free) ∧ ∃ c, env.cells.lookup x = some c ∧ h.IsCell c (some u))
structure Cx.Ok (X : Cx) : Prop where
  mod : Mod X.K X.mg X.base
  kind : X.env.scope.kind = .function
  glob : X.env.globals = mainGlobals
  blt : X.env.builtins = builtinsNs
  above : X.s₀.heap.objs.size ≤ X.env.locals
  inj : ∀ x y c, X.env.cells.lookup x = some c → X.env.cells.lookup y = some c → x = y
  has : ∀ x, (X.env.kindOf x = some .cell ∨ X.env.kindOf x = some .free) → ∃ c, X.env.cells.lookup x = some c
  cab : ∀ x c, X.fn x = true → X.env.cells.lookup x = some c → X.s₀.heap.objs.size ≤ c
  hd : X.calm = true → X.A.handled = none
  frames : X.A.frames = some X.stack
  stk : X.stack = X.outer ∨ (X.stack = X.env :: X.outer ∧ X.env.frame = some X.env.locals)
  exf : ∀ b ∈ X.ex, b ≠ X.env.locals ∧ ∀ x c, X.env.cells.lookup x = some c → c ≠ b
  bs : ∀ b o, X.base.get? b = some o → X.s₀.heap.get? b = some o ∧ X.H₀ b = none
  bsz : X.base.objs.size ≤ X.s₀.heap.objs.size
  noex : ∀ b o, X.base.get? b = some o → b ∉ X.ex
  exfs : ∀ b ∈ X.ex, b ∉ X.fs
  funs : X.s₀.heap.FunFrames X.base X.outer
  frf : ∀ b ∈ X.fs, X.H₀ b = none
structure Inv (X : Cx) (pins : List (Addr × Obj)) (σ : List (Option V)) (H : Hp) (s : Shared) : Prop where
  ok : X.Ok
  os : s.os = X.s₀.os
  bare : AllBare s.gens
  base : Un X.fs X.ex X.H₀ H X.s₀.heap s.heap
  loc : ∃ m, s.heap.Ns X.env.locals m ∧ ∀ (i : Nat) (x : Str) (v : V), X.N[i]? = some x → σ[i]? = some (some v) → Vis X.env.scope x → ∃ u, RelV v u ∧ Look X.env s.heap m x u
  cell : ∀ x c, X.env.cells.lookup x = some c → ∃ v, s.heap.IsCell c v
  free : H X.env.locals = none
  freeC : ∀ x c, X.env.cells.lookup x = some c → H c = none
  pin : ∀ p ∈ X.pn ++ pins, s.heap.get? p.1 = some p.2 ∧ H p.1 = none ∧ p.1 ≠ X.env.locals ∧ p.1 ∉ X.fs ∧ ∀ v, p.2.data ≠ .cell v
  hok : HOk X.prog X.w H s.heap
  len : σ.length = X.N.length
section
variable {X : Cx} {pins : List (Addr × Obj)} {σ : List (Option V)} {H H' : Hp} {s : Shared} {h' : Heap}
theorem Cx.Ok.nofr (ok : X.Ok) {b : Addr} {o : Obj} (e : X.base.get? b = some o) : b ∉ X.fs := fun hb => by
  have := (ok.funs.mem hb).1
  rw [e] at this; cases this
theorem Inv.bs (I : Inv X pins σ H s) : ∀ b o, X.base.get? b = some o → s.heap.get? b = some o ∧ H b = none := fun b o e =>
  ⟨I.base.keep b o (I.ok.bs b o e).1 (I.ok.bs b o e).2 (I.ok.nofr e) (I.ok.noex b o e), I.base.free b o (I.ok.bs b o e).1 (I.ok.bs b o e).2 (I.ok.noex b o e)⟩
theorem Inv.bk (I : Inv X pins σ H s) : ∀ b o, X.base.get? b = some o → s.heap.get? b = some o := fun b o e => (I.bs b o e).1
theorem Inv.mod (I : Inv X pins σ H s) : Mod X.K X.mg X.base := I.ok.mod
theorem Inv.kIn (I : Inv X pins σ H s) : X.K.In s.heap := I.ok.mod.kin.keeps I.bk
theorem Inv.nolimit (I : Inv X pins σ H s) : s.heap.NoLimit := I.ok.mod.nolimit.keeps I.bk
theorem Inv.fr (I : Inv X pins σ H s) : ∃ m, Fr X.base X.env.locals s.heap m :=
  let ⟨m, hn, _⟩ := I.loc
  ⟨m, hn, I.bk, Nat.le_trans I.ok.bsz I.ok.above⟩
theorem Inv.lt (I : Inv X pins σ H s) : X.env.locals < s.heap.objs.size := let ⟨_, hn, _⟩ := I.loc; hn.lt
theorem Inv.sz (I : Inv X pins σ H s) : X.s₀.heap.objs.size ≤ s.heap.objs.size := Nat.le_trans I.ok.above (Nat.le_of_lt I.lt)
theorem Inv.nofs (I : Inv X pins σ H s) {a : Addr} (h : s.heap.objs.size ≤ a) : a ∉ X.fs := fun hb => by
  obtain ⟨_, o, ho, _⟩ := I.ok.funs.mem hb
  exact absurd (Nat.lt_of_lt_of_le (Heap.lt_size ho) (Nat.le_trans I.sz h)) (Nat.lt_irrefl _)
theorem Inv.cne (I : Inv X pins σ H s) : ∀ x c, X.env.cells.lookup x = some c → c ≠ X.env.locals := fun x c e z => by
  obtain ⟨v, o, ho, hd⟩ := I.cell x c e
  obtain ⟨m, ⟨o', es, ep, ho', hd', _⟩, _⟩ := I.loc
  rw [z, ho'] at ho; cases ho; rw [hd'] at hd; cases hd
theorem Inv.funs (I : Inv X pins σ H s) : s.heap.FunFrames X.base X.outer := by
  have all : ∀ (l : List Env), (∀ b ∈ frs l, b ∈ X.fs) → X.s₀.heap.FunFrames X.base l → s.heap.FunFrames X.base l := by
    intro l
    induction l with
    | nil => intro _ _; trivial
    | cons env r ih =>
      intro hs hl
      obtain ⟨hk, ⟨L, o, hf, hn, ho, hd⟩, hr⟩ := hl
      have hL : L ∈ X.fs := hs L (by unfold frs; rw [List.filterMap_cons, hf]; exact List.mem_cons_self)
      obtain ⟨sl, e⟩ := I.base.slot L o ho (I.ok.frf L hL) hL fun z => I.ok.exfs L z hL
      exact ⟨hk, ⟨L, _, hf, hn, e, hd⟩, ih (fun b hb => hs b (by unfold frs; rw [List.filterMap_cons, hf]; exact List.mem_cons_of_mem _ hb)) hr⟩
  exact all X.outer (fun _ hb => hb) I.ok.funs
theorem Inv.stack (I : Inv X pins σ H s) : s.heap.FunFrames X.base X.stack := by
  rcases I.ok.stk with e | ⟨e, hf⟩
  · rw [e]; exact I.funs
  · rw [e]
    obtain ⟨m, hn, _⟩ := I.loc
    refine .cons (by rw [I.ok.kind]; decide) hf hn ?_ I.funs
    exact Heap.get?_none_of_le (Nat.le_trans I.ok.bsz I.ok.above)
theorem Inv.stkSub (I : Inv X pins σ H s) : ∀ b ∈ frs X.stack, b ∈ X.env.locals :: X.fs := fun b hb => by
  rcases I.ok.stk with e | ⟨e, hf⟩
  · rw [e] at hb; exact List.mem_cons_of_mem _ hb
  · rw [e] at hb
    unfold frs at hb
    rw [List.filterMap_cons, hf] at hb
    exact hb
theorem Inv.stkFree (I : Inv X pins σ H s) : ∀ b ∈ frs X.stack, H b = none := fun b hb => by
  rcases List.mem_cons.mp (I.stkSub b hb) with e | hb
  · rw [e]; exact I.free
  · obtain ⟨_, o, ho, _⟩ := I.ok.funs.mem hb
    exact I.base.free b o ho (I.ok.frf b hb) fun z => I.ok.exfs b z hb
theorem Inv.step {g' : Array GenState} {t' : Nat} {d' : Drawn} {ch : List Addr} (I : Inv X pins σ H s)
    (hch : ∀ b ∈ ch, (b ∈ X.ex ∨ X.s₀.heap.objs.size ≤ b) ∧ b ≠ X.env.locals ∧ (∀ x c, X.env.cells.lookup x = some c → c ≠ b) ∧ ∀ p ∈ X.pn ++ pins, p.1 ≠ b)
    (keep : ∀ b o, b ≠ X.env.locals → b ∉ X.fs → b ∉ ch → s.heap.get? b = some o → H b = none → h'.get? b = some o)
    (slot : ∀ b o, b ≠ X.env.locals → b ∈ X.fs → b ∉ ch → s.heap.get? b = some o → H b = none → ∃ sl, h'.get? b = some { o with slots := sl }) (free : ∀ b o, b ∉ ch → s.heap.get? b = some o → H b = none → H' b = none)
    (there : ∀ b o, b ∉ ch → s.heap.get? b = some o → ∃ o', h'.get? b = some o')
    (tups : ∀ b xs, H b = some (.tup xs) → H' b = some (.tup xs)) (frzs : ∀ b o u, H b = some (.frz o u) → H' b = some (.frz o u)) (tbls : ∀ b ps, H b = some (.tbl ps) → ∃ more, H' b = some (.tbl (ps ++ more)))
    (ns : ∀ m, s.heap.Ns X.env.locals m → h'.Ns X.env.locals m) (hok : HOk X.prog X.w H' h') (hg : AllBare g') :
    Inv X pins σ H' { s with heap := h', gens := g', drawn := d', toks := t' } := by
  have neL : ∀ b o, X.s₀.heap.get? b = some o → b ≠ X.env.locals := fun b o e => Nat.ne_of_lt (Nat.lt_of_lt_of_le (Heap.lt_size e) I.ok.above)
  have neC : ∀ b o, X.s₀.heap.get? b = some o → b ∉ X.ex → b ∉ ch := fun b o e hx hb => by
    rcases (hch b hb).1 with z | z
    · exact hx z
    · exact absurd (Nat.lt_of_lt_of_le (Heap.lt_size e) z) (Nat.lt_irrefl _)
  have cellK : ∀ x c, X.env.cells.lookup x = some c → ∀ v, s.heap.IsCell c v → h'.IsCell c v := fun x c e v ⟨o, ho, hd⟩ => by
    have nch : c ∉ ch := fun z => (hch c z).2.2.1 x c e rfl
    by_cases hc : c ∈ X.fs
    · obtain ⟨sl, q⟩ := slot c o (I.cne x c e) hc nch ho (I.freeC x c e)
      exact ⟨_, q, hd⟩
    · exact ⟨o, keep c o (I.cne x c e) hc nch ho (I.freeC x c e), hd⟩
  refine ⟨I.ok, I.os, hg, ⟨fun b o e n hb hx => ?_, fun b o e n hb hx => ?_, fun b o e n hx => ?_, fun b o e hx => ?_, fun b xs e => tups b xs (I.base.tups b xs e), fun b o xs e => frzs b o xs (I.base.frzs b o xs e), fun b ps e => ?_⟩, ?_, fun x c e => ?_, ?_, fun x c e => ?_, fun p hp => ?_, hok, I.len⟩
  · exact keep b o (neL b o e) hb (neC b o e hx) (I.base.keep b o e n hb hx) (I.base.free b o e n hx)
  · obtain ⟨sl, e1⟩ := I.base.slot b o e n hb hx
    obtain ⟨sl', e2⟩ := slot b _ (neL b o e) hb (neC b o e hx) e1 (I.base.free b o e n hx)
    exact ⟨sl', e2⟩
  · obtain ⟨o', e1⟩ := I.base.there b o e hx
    exact free b o' (neC b o e hx) e1 (I.base.free b o e n hx)
  · obtain ⟨o', e1⟩ := I.base.there b o e hx
    exact there b o' (neC b o e hx) e1
  · obtain ⟨m1, e1⟩ := I.base.tbls b ps e
    obtain ⟨m2, e2⟩ := tbls b _ e1
    exact ⟨m1 ++ m2, by rw [e2, Array.append_assoc]⟩
  · obtain ⟨m, hn, hl⟩ := I.loc
    refine ⟨m, ns m hn, fun i x v e1 e2 e3 => ?_⟩
    obtain ⟨u, r, l⟩ := hl i x v e1 e2 e3
    refine ⟨u, r, ?_⟩
    rcases l with l | ⟨k, c, e, z⟩
    · exact .inl l
    · exact .inr ⟨k, c, e, cellK x c e _ z⟩
  · obtain ⟨v, z⟩ := I.cell x c e
    exact ⟨v, cellK x c e v z⟩
  · obtain ⟨m, ⟨o, _, _, ho, _⟩, _⟩ := I.loc
    exact free _ o (fun z => (hch _ z).2.1 rfl) ho I.free
  · obtain ⟨v, o, ho, hd⟩ := I.cell x c e
    exact free c o (fun z => (hch c z).2.2.1 x c e rfl) ho (I.freeC x c e)
  · obtain ⟨e, n, ne, nf, d⟩ := I.pin p hp
    have nch : p.1 ∉ ch := fun z => (hch p.1 z).2.2.2 p hp rfl
    exact ⟨keep p.1 p.2 ne nf nch e n, free p.1 p.2 nch e n, ne, nf, d⟩
theorem Inv.un {t' : Nat} (I : Inv X pins σ H s) (u : Un X.fs [] H H' s.heap h') (hok : HOk X.prog X.w H' h') : Inv X pins σ H' { s with heap := h', toks := t' } := by
  obtain ⟨m, ⟨o, es, ep, ho, r⟩, _⟩ := id I.loc
  obtain ⟨sl, hL⟩ := u.any ho I.free (by simp)
  exact I.step (g' := s.gens) (d' := s.drawn) (ch := []) (fun _ z => nomatch z) (fun b o _ hb _ e n => u.keep b o e n hb (by simp)) (fun b o _ hb _ e n => u.slot b o e n hb (by simp)) (fun b o _ e n => u.free b o e n (by simp)) (fun b o _ e => u.there b o e (by simp)) u.tups u.frzs u.tbls (fun m' hm => by
    obtain ⟨o', es', ep', ho', r'⟩ := hm
    rw [ho] at ho'; cases ho'
    exact ⟨_, es', ep', hL, r'⟩) hok I.bare
theorem Inv.call {g' : Array GenState} {t' : Nat} {d' : Drawn} {ch : List Addr} (I : Inv X pins σ H s) (u : Un (frs X.stack) ch H H' s.heap h') (hok : HOk X.prog X.w H' h') (hg : AllBare g')
    (hch : ∀ b ∈ ch, (b ∈ X.ex ∨ X.s₀.heap.objs.size ≤ b) ∧ b ≠ X.env.locals ∧ (∀ x c, X.env.cells.lookup x = some c → c ≠ b) ∧ ∀ p ∈ X.pn ++ pins, p.1 ≠ b) :
    Inv X pins σ H' { s with heap := h', gens := g', drawn := d', toks := t' } := by
  obtain ⟨m, ⟨o, es, ep, ho, r⟩, _⟩ := id I.loc
  obtain ⟨sl, hL⟩ := u.any ho I.free fun z => (hch _ z).2.1 rfl
  exact I.step (ch := ch) hch (fun b o hL hb hc e n => u.keep b o e n (fun z => (List.mem_cons.mp (I.stkSub b z)).elim hL hb) hc) (fun b o _ _ hc e n => u.any e n hc) (fun b o hc e n => u.free b o e n hc) (fun b o hc e => u.there b o e hc) u.tups u.frzs u.tbls (fun m' hm => by
    obtain ⟨o', es', ep', ho', r'⟩ := hm
    rw [ho] at ho'; cases ho'
    exact ⟨_, es', ep', hL, r'⟩) hok hg
theorem Inv.turned {t' : Nat} {it : Addr} (I : Inv X pins σ H s) (k : ∀ b o, b ≠ it → s.heap.get? b = some o → h'.get? b = some o) (hn : H it = none) (hL : it ≠ X.env.locals)
    (h1 : it ∈ X.ex ∨ X.s₀.heap.objs.size ≤ it) (h2 : ∀ x c, X.env.cells.lookup x = some c → c ≠ it) (h3 : ∀ p ∈ X.pn ++ pins, p.1 ≠ it) : Inv X pins σ H { s with heap := h', toks := t' } := by
  have nit : ∀ b u, H b = some u → b ≠ it := fun b u e z => by rw [z, hn] at e; cases e
  refine I.step (g' := s.gens) (d' := s.drawn) (ch := [it]) (fun b hb => ?_) (fun b o _ _ hc e _ => k b o (fun z => hc (by simp [z])) e) (fun b o _ _ hc e _ => ⟨o.slots, k b o (fun z => hc (by simp [z])) e⟩) (fun _ _ _ _ n => n)
    (fun b o hc e => ⟨o, k b o (fun z => hc (by simp [z])) e⟩) (fun _ _ e => e) (fun _ _ _ e => e) (fun b ps e => ⟨#[], by rw [e]; simp⟩) (fun m hm => ?_) (fun b u e => ?_) I.bare
  · have e : b = it := by simpa using hb
    subst e
    exact ⟨h1, hL, h2, h3⟩
  · obtain ⟨o, es, ep, ho, r⟩ := hm
    exact ⟨o, es, ep, k _ o (Ne.symm hL) ho, r⟩
  · refine (I.hok b u e).stay (fun c v hc q => k c v ?_ q) (fun _ q => q) fun _ _ q => q
    rcases hc with z | z
    · rw [z]; exact nit b u e
    · exact nit c _ z
theorem Inv.tok (I : Inv X pins σ H s) (t : Nat) : Inv X pins σ H { s with toks := t } := I.un (h' := s.heap) (t' := t) Un.refl I.hok
theorem Inv.kept {t' : Nat} (I : Inv X pins σ H s) (k : ∀ b u, s.heap.get? b = some u → h'.get? b = some u) : Inv X pins σ H { s with heap := h', toks := t' } := I.un (Un.kept k) (I.hok.kept k)
theorem Inv.laid {a : Addr} {o : HO} {t' : Nat} (I : Inv X pins σ H s) (k : ∀ b u, s.heap.get? b = some u → h'.get? b = some u) (hp : s.heap.objs.size ≤ a) (new : ObjOk X.prog X.w (upd H a o) h' a o) :
    Inv X pins σ (upd H a o) { s with heap := h', toks := t' } := I.un (Un.laid k hp (I.hok.fresh hp)) (I.hok.laid k hp new)
theorem Inv.write {x e : Addr} {o : HO} {t' : Nat} (I : Inv X pins σ H s) (mu : Mut (H x)) (he : e = x ∨ H e = some (.own x)) (k : ∀ b u, b ≠ e → s.heap.get? b = some u → h'.get? b = some u) (heo : ∃ u, h'.get? e = some u)
    (new : ObjOk X.prog X.w (upd H x o) h' x o) : Inv X pins σ (upd H x o) { s with heap := h', toks := t' } := I.un (Un.write mu he k heo) (I.hok.write mu he k heo new)
theorem Inv.pins_of {pins' : List (Addr × Obj)} (I : Inv X pins σ H s) (h : ∀ p ∈ pins', s.heap.get? p.1 = some p.2 ∧ H p.1 = none ∧ p.1 ≠ X.env.locals ∧ p.1 ∉ X.fs ∧ ∀ v, p.2.data ≠ .cell v) : Inv X pins' σ H s :=
  ⟨I.ok, I.os, I.bare, I.base, I.loc, I.cell, I.free, I.freeC, fun p hp => (List.mem_append.mp hp).elim (fun z => I.pin p (List.mem_append_left _ z)) (h p), I.hok, I.len⟩
theorem nodup_ix {N : List Str} (hN : N.Nodup) {i j : Nat} {x : Str} (a : N[i]? = some x) (b : N[j]? = some x) : i = j := by
  obtain ⟨h1, e1⟩ := List.getElem?_eq_some_iff.mp a
  obtain ⟨h2, e2⟩ := List.getElem?_eq_some_iff.mp b
  exact (List.getElem_inj hN).mp (e1.trans e2.symm)
theorem store_ok2 {M : Model} {A : Around} {E : Value → Shared → Prop} {i : Nat} {x : Str} {v : V} {u : Value} {Q : Unit → Shared → Prop} (I : Inv X pins σ H s) (hN : X.N.Nodup) (hi : X.N[i]? = some x) (hx : Loc X.env.scope x) (r : RelV v u)
    (h : ∀ s', Inv X pins (σ.set i (some v)) H s' → (∃ a, Heap.SameBut a s.heap s'.heap ∧ (a = X.env.locals ∨ X.env.cells.lookup x = some a)) → Q () s') (hf : X.fn x = true ∨ X.env.scope.names.lookup x = some .local := by first | exact .inl rfl | exact .inr rfl | assumption) : wpAny M A (storeName X.env x u) Q E s := by
  obtain ⟨m, hn, hl⟩ := id I.loc
  have hcls : (X.env.scope.kind == .class || (X.env.scope.kind == .module && X.env.locals != X.env.globals)) = false := by rw [I.ok.kind]; rfl
  have hiσ : i < σ.length := by rw [I.len]; exact (List.getElem?_eq_some_iff.mp hi).1
  have cne := I.cne
  have tracked : ∀ {a : Addr} {h' : Heap}, (∃ o, s.heap.get? a = some o ∧ H a = none) → Heap.SameBut a s.heap h' → HOk X.prog X.w H h' := fun {a h'} ha hs b ob e => by
    obtain ⟨_, _, hfree⟩ := ha
    refine (I.hok b ob e).stay (fun c w' hc q => (hs.2 c ?_).trans q) (fun _ q => q) fun _ _ q => q
    rintro rfl
    rcases hc with rfl | hc
    · rw [hfree] at e; cases e
    · rw [hfree] at hc; cases hc
  rcases hx with hk | hk
  · refine wpAny_storeName_local hk hn (fun h' hn' hs => ?_) hcls
    obtain ⟨oL, _, _, hoL, _⟩ := id hn
    refine h _ ⟨I.ok, I.os, I.bare, ⟨fun b o e n hb hx => ?_, fun b o e n hb hx => ?_, I.base.free, fun b o e hx => ?_, I.base.tups, I.base.frzs, I.base.tbls⟩, ⟨_, hn', fun j y v' e1 e2 e3 => ?_⟩, fun y c e => ?_, I.free, I.freeC, fun p hp => ?_, tracked ⟨oL, hoL, I.free⟩ hs, by simpa using I.len⟩ ⟨_, hs, .inl rfl⟩
    · exact (hs.2 b (Nat.ne_of_lt (Nat.lt_of_lt_of_le (Heap.lt_size e) I.ok.above))).trans (I.base.keep b o e n hb hx)
    · obtain ⟨sl, e1⟩ := I.base.slot b o e n hb hx
      exact ⟨sl, (hs.2 b (Nat.ne_of_lt (Nat.lt_of_lt_of_le (Heap.lt_size e) I.ok.above))).trans e1⟩
    · obtain ⟨o', e1⟩ := I.base.there b o e hx
      exact ⟨o', (hs.2 b (Nat.ne_of_lt (Nat.lt_of_lt_of_le (Heap.lt_size e) I.ok.above))).trans e1⟩
    · by_cases hj : j = i
      · subst hj
        rw [hi] at e1; cases e1
        rw [List.getElem?_set_self hiσ] at e2
        cases e2
        exact ⟨u, r, .inl ⟨hk, by simp⟩⟩
      · rw [List.getElem?_set_ne (Ne.symm hj)] at e2
        obtain ⟨u', r', q⟩ := hl j y v' e1 e2 e3
        refine ⟨u', r', ?_⟩
        rcases q with ⟨k, e⟩ | ⟨k, c, e, z⟩
        · refine .inl ⟨k, ?_⟩
          have : y ≠ x := fun e => hj (nodup_ix hN e1 (e ▸ hi))
          simp [this, e]
        · exact .inr ⟨k, c, e, z.sameBut hs (cne y c e)⟩
    · obtain ⟨w', z⟩ := I.cell y c e
      exact ⟨w', z.sameBut hs (cne y c e)⟩
    · obtain ⟨e, n, ne, nf, d⟩ := I.pin p hp
      exact ⟨(hs.2 p.1 ne).trans e, n, ne, nf, d⟩
  · have hfn : X.fn x = true := by
      rcases hf with z | z
      · exact z
      · rw [z] at hk; cases hk
    obtain ⟨c, hc⟩ := I.ok.has x (.inl hk)
    obtain ⟨w', z⟩ := I.cell x c hc
    refine wpAny_storeName_cell I.ok.kind hk hc z (fun h' hc' hs => ?_)
    obtain ⟨oc, hoc, hocd⟩ := id z
    refine h { s with heap := h' } ⟨I.ok, I.os, I.bare, ⟨fun b o e n hb hx => ?_, fun b o e n hb hx => ?_, I.base.free, fun b o e hx => ?_, I.base.tups, I.base.frzs, I.base.tbls⟩, ⟨m, hn.sameBut hs (Ne.symm (cne x c hc)), fun j y v' e1 e2 e3 => ?_⟩, fun y c' e => ?_, I.free, I.freeC, fun p hp => ?_, tracked ⟨oc, hoc, I.freeC x c hc⟩ hs, by simpa using I.len⟩ ⟨c, hs, .inr hc⟩
    · exact (hs.2 b (Nat.ne_of_lt (Nat.lt_of_lt_of_le (Heap.lt_size e) (I.ok.cab x c hfn hc)))).trans (I.base.keep b o e n hb hx)
    · obtain ⟨sl, e1⟩ := I.base.slot b o e n hb hx
      exact ⟨sl, (hs.2 b (Nat.ne_of_lt (Nat.lt_of_lt_of_le (Heap.lt_size e) (I.ok.cab x c hfn hc)))).trans e1⟩
    · obtain ⟨o', e1⟩ := I.base.there b o e hx
      exact ⟨o', (hs.2 b (Nat.ne_of_lt (Nat.lt_of_lt_of_le (Heap.lt_size e) (I.ok.cab x c hfn hc)))).trans e1⟩
    · by_cases hj : j = i
      · subst hj
        rw [hi] at e1; cases e1
        rw [List.getElem?_set_self hiσ] at e2
        cases e2
        exact ⟨u, r, .inr ⟨.inl hk, c, hc, hc'⟩⟩
      · rw [List.getElem?_set_ne (Ne.symm hj)] at e2
        obtain ⟨u', r', q⟩ := hl j y v' e1 e2 e3
        refine ⟨u', r', ?_⟩
        rcases q with q | ⟨k, c', e, z'⟩
        · exact .inl q
        · refine .inr ⟨k, c', e, z'.sameBut hs ?_⟩
          rintro rfl
          exact hj (nodup_ix hN e1 (I.ok.inj _ _ _ e hc ▸ hi))
    · by_cases hcc : c' = c
      · subst hcc; exact ⟨_, hc'⟩
      · obtain ⟨w2, z2⟩ := I.cell y c' e
        exact ⟨w2, z2.sameBut hs hcc⟩
    · obtain ⟨e, n, ne, nf, d⟩ := I.pin p hp
      refine ⟨(hs.2 p.1 ?_).trans e, n, ne, nf, d⟩
      intro q
      rw [q, hoc] at e
      have q' : oc = p.2 := Option.some.inj e
      exact d w' (by rw [← q']; exact hocd)
theorem store_ok {M : Model} {A : Around} {E : Value → Shared → Prop} {i : Nat} {x : Str} {v : V} {u : Value} {Q : Unit → Shared → Prop} (I : Inv X pins σ H s) (hN : X.N.Nodup) (hi : X.N[i]? = some x) (hx : Loc X.env.scope x) (r : RelV v u)
    (h : ∀ s', Inv X pins (σ.set i (some v)) H s' → Q () s') (hf : X.fn x = true ∨ X.env.scope.names.lookup x = some .local := by first | exact .inl rfl | exact .inr rfl | assumption) : wpAny M A (storeName X.env x u) Q E s :=
  store_ok2 I hN hi hx r (fun s' I' _ => h s' I') hf
theorem Inv.call' {s' : Shared} {ch : List Addr} (I : Inv X pins σ H s) (ho : s'.os = s.os) (u : Un (frs X.stack) ch H H' s.heap s'.heap) (hok : HOk X.prog X.w H' s'.heap) (hg : AllBare s'.gens)
    (hch : ∀ b ∈ ch, (b ∈ X.ex ∨ X.s₀.heap.objs.size ≤ b) ∧ b ≠ X.env.locals ∧ (∀ x c, X.env.cells.lookup x = some c → c ≠ b) ∧ ∀ p ∈ X.pn ++ pins, p.1 ≠ b) : Inv X pins σ H' s' := by
  obtain ⟨h', g', d', t', o'⟩ := s'
  have e : o' = s.os := ho
  subst e
  exact I.call (g' := g') (t' := t') (d' := d') u hok hg hch
end
abbrev XK := Value → Option Addr → Hp → Prop
abbrev St := List (Option V)
abbrev VK := V → Hp → Prop
abbrev TE := St → Hp → VK → Prop
abbrev TT := St → Hp → (Bool → Hp → Prop) → Prop
abbrev TA := St → Hp → (List V → Hp → Prop) → Prop
structure Ends where
  nx : St → Hp → Prop
  rt : VK
  bk : St → Hp → Prop := fun _ _ => False
  ct : St → Hp → Prop := fun _ _ => False
abbrev TS := Ends → St → Hp → Prop
def EP (X : Cx) (pins : List (Addr × Obj)) (σ : St) (Q : VK) (u : Value) (s' : Shared) : Prop := ∃ v H', Inv X pins σ H' s' ∧ RelV v u ∧ Q v H'
def TP (X : Cx) (pins : List (Addr × Obj)) (σ : St) (Q : Bool → Hp → Prop) (b : Bool) (s' : Shared) : Prop := ∃ H', Inv X pins σ H' s' ∧ Q b H'
def AP (X : Cx) (pins : List (Addr × Obj)) (σ : St) (Q : List V → Hp → Prop) (us : List Value) (s' : Shared) : Prop := ∃ vs H', Inv X pins σ H' s' ∧ Vals vs us ∧ Q vs H'
def SP (X : Cx) (pins : List (Addr × Obj)) (D : Ends) (f : Flow) (s' : Shared) : Prop :=
  match f with
  | .next => ∃ σ' H', Inv X pins σ' H' s' ∧ D.nx σ' H'
  | .brk => ∃ σ' H', Inv X pins σ' H' s' ∧ D.bk σ' H'
  | .cont => ∃ σ' H', Inv X pins σ' H' s' ∧ D.ct σ' H'
  | .ret u => ∃ v σ' H', Inv X pins σ' H' s' ∧ RelV v u ∧ D.rt v H'
def PE (X : Cx) (e : Expr) (t : TE) : Prop :=
  ∀ (pins : List (Addr × Obj)) (s : Shared) (σ : St) (H : Hp) (Q : VK), Inv X pins σ H s → t σ H Q → wpAny (model X.prog X.w) X.A (eval e X.env) (EP X pins σ Q) X.xe s
def PT (X : Cx) (e : Expr) (t : TT) : Prop :=
  ∀ (pins : List (Addr × Obj)) (s : Shared) (σ : St) (H : Hp) (Q : Bool → Hp → Prop), Inv X pins σ H s → t σ H Q → wpAny (model X.prog X.w) X.A (isTrue e X.env (eval e X.env)) (TP X pins σ Q) X.xe s
def PW (X : Cx) (e : Expr) (t : TT) : Prop :=
  ∀ (whole : Sem Value) (pins : List (Addr × Obj)) (s : Shared) (σ : St) (H : Hp) (Q : Bool → Hp → Prop), Inv X pins σ H s → t σ H Q → wpAny (model X.prog X.w) X.A (isTrue e X.env whole) (TP X pins σ Q) X.xe s
theorem PW.pt {X : Cx} {e : Expr} {t : TT} (h : PW X e t) : PT X e t := h _
def PA (X : Cx) (es : List Expr) (t : TA) : Prop :=
  ∀ (pos : Pos) (pins : List (Addr × Obj)) (s : Shared) (σ : St) (H : Hp) (Q : List V → Hp → Prop), Inv X pins σ H s → t σ H Q → wpAny (model X.prog X.w) X.A (spliced (backTo pos (starEach es X.env))) (AP X pins σ Q) X.xe s
def PS (X : Cx) (st : Stmt) (t : TS) : Prop :=
  ∀ (pins : List (Addr × Obj)) (s : Shared) (σ : St) (H : Hp) (D : Ends), Inv X pins σ H s → t D σ H → wpAny (model X.prog X.w) X.A (exec st X.env) (SP X pins D) X.xe s
def PSs (X : Cx) (st : List Stmt) (t : TS) : Prop :=
  ∀ (pins : List (Addr × Obj)) (s : Shared) (σ : St) (H : Hp) (D : Ends), Inv X pins σ H s → t D σ H → wpAny (model X.prog X.w) X.A (execs st X.env) (SP X pins D) X.xe s
theorem thn {α : Type} {t : Sem α} {Q Q' : α → Shared → Prop} {M : Model} {A : Around} {E : Value → Shared → Prop} {s : Shared} (h : wpAny M A t Q E s) (hQ : ∀ a s, Q a s → Q' a s) : wpAny M A t Q' E s := wpAny_mono h hQ fun _ _ x => x
end L2
namespace L2
open PySem PySem.Spec PyProof.Rows
section
variable {X : Cx}
def tVar (i : Nat) : TE := fun σ H Q => ∃ v, σ[i]? = some (some v) ∧ Q v H
def tC (v : V) : TE := fun _ H Q => Q v H
theorem pe_var {i : Nat} {x : Str} {pos : Pos} (hN : X.N[i]? = some x) (hv : Vis X.env.scope x) (hd : (x == ("__debug__" : Str)) = false := by decide) (hcd : (x == ("__classdict__" : Str)) = false := by decide) : PE X (.Name x pos) (tVar i) := by
  intro pins s σ H Q I h
  obtain ⟨v, e, h⟩ := h
  obtain ⟨m, hn, hl⟩ := I.loc
  obtain ⟨u, r, l⟩ := hl i x v hN e hv
  have fin : EP X pins σ Q u s := ⟨v, H, I, r, h⟩
  rcases l with ⟨hk, hm⟩ | ⟨hk, c, hc, hcell⟩
  · exact wpAny_Name (wpAny_loadName_local I.ok.kind hk hn hm fin) hd
  · rcases hk with hk | hk
    · exact wpAny_Name (wpAny_loadName_cell I.ok.kind hk hc hcell fin) hd
    · exact wpAny_Name (wpAny_loadName_free I.ok.kind hk hc hcell fin hcd) hd
theorem pe_int {i j pos} : PE X (.Constant (.int i) j pos) (tC (.int i)) := fun _ _ _ H _ I h => wpAny_Constant_int ⟨.int i, H, I.tok _, ⟨_, rfl⟩, h⟩
theorem pe_bl {b j pos} : PE X (.Constant (.bool b) j pos) (tC (.bl b)) := fun _ _ _ H _ I h => Constant_bool ⟨.bl b, H, I, rfl, h⟩
theorem pe_non {j pos} : PE X (.Constant .none j pos) (tC .non) := fun _ _ _ H _ I h => Constant_none ⟨.non, H, I, rfl, h⟩
theorem pe_str {x j pos} : PE X (.Constant (.str x) j pos) (tC (.str x)) := fun _ _ _ H _ I h => Calls.Constant_str ⟨.str x, H, I.tok _, ⟨_, rfl⟩, h⟩
def Gl (X : Cx) (x : Str) : Prop := X.env.kindOf x = some .globalImplicit
theorem ld_glob {E : Value → Shared → Prop} {pins : List (Addr × Obj)} {s : Shared} {σ : St} {H : Hp} {x : Str} {u : Value} {pos : Pos} {Q : Value → Shared → Prop} (I : Inv X pins σ H s) (hg : Gl X x) (hm : X.mg x = some u) (h : Q u s)
    (hd : (x == ("__debug__" : Str)) = false := by decide) : wpAny (model X.prog X.w) X.A (eval (.Name x pos) X.env) Q E s :=
  Calls.Name_function_global I.ok.kind hg (Calls.loadGlobal_global (by rw [I.ok.glob]; exact I.mod.glob.keeps I.bk) hm h) hd
theorem ld_blt {E : Value → Shared → Prop} {pins : List (Addr × Obj)} {s : Shared} {σ : St} {H : Hp} {x : Str} {u : Value} {pos : Pos} {Q : Value → Shared → Prop} (I : Inv X pins σ H s) (hg : Gl X x) (hm : X.mg x = none) (hv : bootBuiltins x = some u) (h : Q u s)
    (hn : x ≠ "__name__" := by decide) (hd : (x == ("__debug__" : Str)) = false := by decide) : wpAny (model X.prog X.w) X.A (eval (.Name x pos) X.env) Q E s := by
  obtain ⟨mb, h1, h2⟩ := I.mod.blt
  exact Calls.Name_function_global I.ok.kind hg (Calls.loadGlobal_builtin (by rw [I.ok.glob]; exact I.mod.glob.keeps I.bk) hm (by rw [I.ok.blt]; exact h1.keeps I.bk) ((h2 x hn).trans hv) h) hd
theorem pe_glob {x : Str} {v : V} {u : Value} {pos : Pos} (hg : Gl X x) (hm : X.mg x = some u) (r : RelV v u) (hd : (x == ("__debug__" : Str)) = false := by decide) : PE X (.Name x pos) (tC v) :=
  fun _ _ _ H _ I h => ld_glob I hg hm ⟨v, H, I, r, h⟩ hd
theorem pe_bltn {x : Str} {v : V} {u : Value} {pos : Pos} (hg : Gl X x) (hm : X.mg x = none) (hv : bootBuiltins x = some u) (r : RelV v u) (hn : x ≠ "__name__" := by decide) (hd : (x == ("__debug__" : Str)) = false := by decide) : PE X (.Name x pos) (tC v) :=
  fun _ _ _ H _ I h => ld_blt I hg hm hv ⟨v, H, I, r, h⟩ hn hd
variable {a b : Expr} {ta tb : TE} {pos : Pos}
def tB (t : TE) : TT := fun σ H Q => t σ H fun x H1 => ∃ c, x = .bl c ∧ Q c H1
theorem pt_val {e : Expr} {t : TE} (h : PE X e t) (he : ∀ whole, isTrue e X.env whole = (do let v ← whole; standAt e.pos; holding [v] (truthy v)) := by intro _; rfl) : PT X e (tB t) := by
  intro pins s σ H Q I hw
  refine isTrue_plain (thn (h pins s σ H _ I hw) fun v s1 ⟨x, H1, I1, r1, q1⟩ => ?_) (he _)
  obtain ⟨d, rfl, q⟩ := q1
  cases r1
  exact wpAny_truthy_bool ⟨H1, I1, q⟩
variable {tA tB' : TT} {rest : List Expr}
def tAnd (t u : TT) : TT := fun σ H Q => t σ H fun c H1 => if c = true then u σ H1 Q else Q false H1
def tOr (t u : TT) : TT := fun σ H Q => t σ H fun c H1 => if c = true then Q true H1 else u σ H1 Q
def tNot (t : TT) : TT := fun σ H Q => t σ H fun c H1 => Q (!c) H1
theorem pw_and1 (ha : PT X a tA) : PW X (.BoolOp .And [a] pos) tA := by
  intro wh pins s σ H Q I h
  refine isTrue_and (thn (ha pins s σ H Q I h) fun c s1 e => ?_)
  cases c with
  | true => exact isTrue_and_nil e
  | false => exact e
theorem pw_or1 (ha : PT X a tA) : PW X (.BoolOp .Or [a] pos) tA := by
  intro wh pins s σ H Q I h
  refine isTrue_or (thn (ha pins s σ H Q I h) fun c s1 e => ?_)
  cases c with
  | false => exact isTrue_or_nil e
  | true => exact e
theorem pw_and (ha : PT X a tA) (hb : PW X (.BoolOp .And (b :: rest) pos) tB') : PW X (.BoolOp .And (a :: b :: rest) pos) (tAnd tA tB') := by
  intro wh pins s σ H Q I h
  refine isTrue_and (thn (ha pins s σ H _ I h) fun c s1 ⟨H1, I1, q1⟩ => ?_)
  cases c with
  | true => exact hb wh pins s1 σ H1 Q I1 q1
  | false => exact ⟨H1, I1, q1⟩
theorem pw_or (ha : PT X a tA) (hb : PW X (.BoolOp .Or (b :: rest) pos) tB') : PW X (.BoolOp .Or (a :: b :: rest) pos) (tOr tA tB') := by
  intro wh pins s σ H Q I h
  refine isTrue_or (thn (ha pins s σ H _ I h) fun c s1 ⟨H1, I1, q1⟩ => ?_)
  cases c with
  | true => exact ⟨H1, I1, q1⟩
  | false => exact hb wh pins s1 σ H1 Q I1 q1
theorem pt_not (ha : PT X a tA) : PT X (.UnaryOp .Not a pos) (tNot tA) := by
  intro pins s σ H Q I h
  exact isTrue_not (ha pins s σ H (fun c H1 => Q (!c) H1) I h)
def tAndV (ta tb : TE) : TE := fun σ H Q => ta σ H fun x H1 => ∃ c, x = .bl c ∧ if c = true then tb σ H1 Q else Q (.bl false) H1
def tOrV (ta tb : TE) : TE := fun σ H Q => ta σ H fun x H1 => ∃ c, x = .bl c ∧ if c = true then Q (.bl true) H1 else tb σ H1 Q
def tNotV (ta : TE) : TE := fun σ H Q => ta σ H fun x H1 => ∃ c, x = .bl c ∧ Q (.bl (!c)) H1
theorem pe_one {op} {t : TE} (h : PE X a t) : PE X (.BoolOp op [a] pos) t := fun pins s σ H Q I hw => BoolOp_one (h pins s σ H Q I hw)
theorem pe_and (ha : PE X a ta) (hb : PE X (.BoolOp .And (b :: rest) pos) tb) : PE X (.BoolOp .And (a :: b :: rest) pos) (tAndV ta tb) := by
  intro pins s σ H Q I h
  refine BoolOp_and (thn (ha pins s σ H _ I h) fun v s1 ⟨x, H1, I1, r1, q1⟩ => ?_)
  obtain ⟨c, rfl, q1⟩ := q1
  cases r1
  refine wpAny_truthy_bool ?_
  cases c with
  | true => exact hb pins s1 σ H1 Q I1 q1
  | false => exact ⟨.bl false, H1, I1, rfl, q1⟩
theorem pe_not (ha : PE X a ta) : PE X (.UnaryOp .Not a pos) (tNotV ta) := by
  intro pins s σ H Q I h
  refine UnaryOp_ (thn (ha pins s σ H _ I h) fun v s1 ⟨x, H1, I1, r1, q1⟩ => ?_)
  obtain ⟨c, rfl, q1⟩ := q1
  cases r1
  exact not_of (wpAny_truthy_bool ⟨.bl (!c), H1, I1, rfl, q1⟩)
def tIf (t : TT) (ta tb : TE) : TE := fun σ H Q => t σ H fun c H1 => if c = true then ta σ H1 Q else tb σ H1 Q
theorem pe_ifExp {c : Expr} (hc : PT X c tA) (ha : PE X a ta) (hb : PE X b tb) : PE X (.IfExp c a b pos) (tIf tA ta tb) := by
  intro pins s σ H Q I h
  refine wpAny_IfExp (thn (hc pins s σ H _ I h) fun d s1 ⟨H1, I1, q1⟩ => ?_)
  cases d with
  | true => exact ha pins s1 σ H1 Q I1 q1
  | false => exact hb pins s1 σ H1 Q I1 q1
end
end L2
namespace L2
open PySem PySem.Spec PyProof.Rows
def SqL (K : PySem.W.Frag) (H : Hp) (a : Addr) (xs : List V) : Prop :=
  Rd H a (.lst xs) ∨
    ∃ (o : Obj) (its : Array Value) (n : Nat), K.lookup a = some o ∧ o.cls = .type "list" ∧ o.dict = none ∧ o.data = .seq its n ∧ its.size ≤ sizeLine ∧ Vals xs its.toList
def SqT (K : PySem.W.Frag) (H : Hp) (a : Addr) (xs : List V) : Prop :=
  Rd H a (.tup xs) ∨
    ∃ (o : Obj) (its : Array Value) (n : Nat), K.lookup a = some o ∧ o.cls = .type "tuple" ∧ o.data = .seq its n ∧ its.size ≤ sizeLine ∧ Vals xs its.toList
def absV : Value → Option V
  | .none => some .non
  | .bool b => some (.bl b)
  | .int i _ => some (.int i)
  | .str x _ => some (.str x)
  | .bytes b _ => some (.byt b)
  | .float b _ => some (.flt b)
  | .ref a => some (.ref a)
  | .type n => some (.ty n)
  | _ => none
theorem RelV.abs {x : V} {u : Value} (r : RelV x u) : absV u = some x := by
  cases x with
  | non => cases r; rfl
  | bl _ => cases r; rfl
  | int _ => obtain ⟨t, rfl⟩ := r; rfl
  | str _ => obtain ⟨t, rfl⟩ := r; rfl
  | byt _ => obtain ⟨t, rfl⟩ := r; rfl
  | flt _ => obtain ⟨t, rfl⟩ := r; rfl
  | ref _ => cases r; rfl
  | ty _ => cases r; rfl
theorem RelV.inj {x y : V} {u : Value} (r : RelV x u) (q : RelV y u) : x = y := Option.some.inj (r.abs.symm.trans q.abs)
theorem Vals.inj : ∀ {xs ys : List V} {us : List Value}, Vals xs us → Vals ys us → xs = ys
  | _, _, _, .nil, .nil => rfl
  | _, _, _, .cons r t, .cons r' t' => by rw [r.inj r', Vals.inj t t']
section
variable {X : Cx} {pins : List (Addr × Obj)} {σ : St} {H : Hp} {s : Shared} {a : Addr} {xs ys : List V}
theorem SqL.of {K : PySem.W.Frag} (h : H a = some (.lst xs)) : SqL K H a xs := .inl (.inl h)
theorem SqT.of {K : PySem.W.Frag} (h : H a = some (.tup xs)) : SqT K H a xs := .inl (.inl h)
theorem Inv.list (I : Inv X pins σ H s) (h : SqL X.K H a xs) : ∃ its : List Value, Vals xs its ∧ PlainL s.heap a its.toArray ∧ xs.length ≤ sizeLine := by
  rcases h with h | ⟨o, its, n, hk, hc, hd, hs, hz, r⟩
  · obtain ⟨z, its, n, r, e⟩ := h.ok I.hok
    exact ⟨its, r, ⟨_, n, e, rfl, rfl, rfl⟩, z⟩
  · refine ⟨its.toList, r, ⟨o, n, I.kIn a o hk, hc, hd, by simpa using hs⟩, ?_⟩
    have e := r.length
    simp only [Array.length_toList] at e
    omega
theorem Inv.tuple (I : Inv X pins σ H s) (h : SqT X.K H a xs) : ∃ its : List Value, Vals xs its ∧ IsTup s.heap a its.toArray ∧ xs.length ≤ sizeLine := by
  rcases h with h | ⟨o, its, n, hk, hc, hs, hz, r⟩
  · obtain ⟨z, its, r, p⟩ := h.ok I.hok
    exact ⟨its, r, p, z⟩
  · refine ⟨its.toList, r, ⟨o, I.kIn a o hk, hc, n, by simpa using hs⟩, ?_⟩
    have e := r.length
    simp only [Array.length_toList] at e
    omega
theorem Inv.tuple_inj (I : Inv X pins σ H s) (h : SqT X.K H a xs) (h' : SqT X.K H a ys) : xs = ys := by
  obtain ⟨its, r, ⟨o, e, _, n, d⟩, _⟩ := I.tuple h
  obtain ⟨its', r', ⟨o', e', _, n', d'⟩, _⟩ := I.tuple h'
  rw [e] at e'; cases e'
  rw [d] at d'
  injection d' with d1 _
  have : its = its' := by simpa using congrArg Array.toList d1
  subst this
  exact r.inj r'
end
abbrev Cx.wish (X : Cx) (E : Value → Shared → Prop) : Cx := { X with xe := E }
abbrev Cx.nox (X : Cx) : Cx := X.wish fun _ _ => False
theorem Cx.Ok.wish {X : Cx} (ok : X.Ok) (E : Value → Shared → Prop) : (X.wish E).Ok :=
  ⟨ok.mod, ok.kind, ok.glob, ok.blt, ok.above, ok.inj, ok.has, ok.cab, ok.hd, ok.frames, ok.stk, ok.exf, ok.bs, ok.bsz, ok.noex, ok.exfs, ok.funs, ok.frf⟩
theorem Cx.Ok.unwish {X : Cx} {E : Value → Shared → Prop} (ok : (X.wish E).Ok) : X.Ok :=
  ⟨ok.mod, ok.kind, ok.glob, ok.blt, ok.above, ok.inj, ok.has, ok.cab, ok.hd, ok.frames, ok.stk, ok.exf, ok.bs, ok.bsz, ok.noex, ok.exfs, ok.funs, ok.frf⟩
section
variable {X : Cx} {pins : List (Addr × Obj)} {σ : St} {H : Hp} {s : Shared} {E : Value → Shared → Prop}
theorem Inv.wish (I : Inv X pins σ H s) (E : Value → Shared → Prop) : Inv (X.wish E) pins σ H s := ⟨I.ok.wish E, I.os, I.bare, I.base, I.loc, I.cell, I.free, I.freeC, I.pin, I.hok, I.len⟩
theorem Inv.unwish (I : Inv (X.wish E) pins σ H s) : Inv X pins σ H s := ⟨I.ok.unwish, I.os, I.bare, I.base, I.loc, I.cell, I.free, I.freeC, I.pin, I.hok, I.len⟩
theorem SP.unwish {D : Ends} {f : Flow} {s' : Shared} (h : SP (X.wish E) pins D f s') : SP X pins D f s' := by
  cases f with
  | next => obtain ⟨σ', H', I, q⟩ := h; exact ⟨σ', H', I.unwish, q⟩
  | brk => obtain ⟨σ', H', I, q⟩ := h; exact ⟨σ', H', I.unwish, q⟩
  | cont => obtain ⟨σ', H', I, q⟩ := h; exact ⟨σ', H', I.unwish, q⟩
  | ret u => obtain ⟨v, σ', H', I, r, q⟩ := h; exact ⟨v, σ', H', I.unwish, r, q⟩
theorem PE.nox {e : Expr} {t : TE} (h : PE X.nox e t) : PE X e t := fun pins s σ H Q I hw =>
  wpAny_mono (h pins s σ H Q (I.wish _) hw) (fun _ _ ⟨v, H', I', r, q⟩ => ⟨v, H', I'.unwish, r, q⟩) fun _ _ z => False.elim z
theorem PT.nox {e : Expr} {t : TT} (h : PT X.nox e t) : PT X e t := fun pins s σ H Q I hw =>
  wpAny_mono (h pins s σ H Q (I.wish _) hw) (fun _ _ ⟨H', I', q⟩ => ⟨H', I'.unwish, q⟩) fun _ _ z => False.elim z
theorem PSs.nox {st : List Stmt} {t : TS} (h : PSs X.nox st t) : PSs X st t := fun pins s σ H D I hw =>
  wpAny_mono (h pins s σ H D (I.wish _) hw) (fun _ _ q => q.unwish) fun _ _ z => False.elim z
end
section
variable {X : Cx} {st : Stmt} {rest : List Stmt} {t u : TS} {e : Expr} {te : TE} {pos : Pos}
def tNext : TS := fun D σ H => D.nx σ H
def tSeq (t u : TS) : TS := fun D σ H => t { D with nx := u D } σ H
theorem pss_nil : PSs X [] tNext := fun _ _ σ H _ I h => wpAny_execs_nil ⟨σ, H, I, h⟩
theorem pss_cons (h1 : PS X st t) (h2 : PSs X rest u) : PSs X (st :: rest) (tSeq t u) := by
  intro pins s σ H D I h
  refine wpAny_execs_cons (thn (h1 pins s σ H { D with nx := u D } I h) fun f s1 q => ?_)
  cases f with
  | next =>
    obtain ⟨σ', H', I', q⟩ := q
    exact h2 pins s1 σ' H' D I' q
  | ret v => exact q
  | brk => exact q
  | cont => exact q
theorem pss_one (h1 : PS X st t) : PSs X [st] t := by
  intro pins s σ H D I h
  refine wpAny_execs_cons (thn (h1 pins s σ H D I h) fun f s1 q => ?_)
  cases f with
  | next => exact wpAny_execs_nil q
  | ret v => exact q
  | brk => exact q
  | cont => exact q
theorem Inv.quiet {pins : List (Addr × Obj)} {σ : St} {H : Hp} {s : Shared} (I : Inv X pins σ H s) : interactive X.env = false := by simp [interactive, I.ok.kind]
def tDrop (te : TE) : TS := fun D σ H => te σ H fun _ H1 => D.nx σ H1
theorem ps_expr (he : PE X e te) (hs : swapsWith e none pos.line X.env = pure false := by rfl) : PS X (.Expr e pos) (tDrop te) := by
  intro pins s σ H D I h
  exact wpAny_Expr_any (thn (he pins s σ H _ I h) fun v s1 ⟨x, H1, I1, r1, q1⟩ => ⟨σ, H1, I1, q1⟩) I.quiet hs
def tRet (te : TE) : TS := fun D σ H => te σ H D.rt
theorem ps_ret (he : PE X e te) : PS X (.Return (some e) pos) (tRet te) := by
  intro pins s σ H D I h
  exact wpAny_Return_some (thn (he pins s σ H _ I h) fun v s1 ⟨x, H1, I1, r1, q1⟩ => ⟨x, σ, H1, I1, r1, q1⟩)
def tRetN : TS := fun D _ H => D.rt .non H
def tIfS (c : TT) (t u : TS) : TS := fun D σ H => c σ H fun b H1 => if b = true then t D σ H1 else u D σ H1
theorem ps_if {c : Expr} {a b : List Stmt} {tc : TT} (hc : PT X c tc) (ha : PSs X a t) (hb : PSs X b u) : PS X (.If c a b pos) (tIfS tc t u) := by
  intro pins s σ H D I h
  refine wpAny_If (thn (hc pins s σ H _ I h) fun d s1 ⟨H1, I1, q1⟩ => ?_)
  cases d with
  | true => exact ha pins s1 σ H1 D I1 q1
  | false => exact hb pins s1 σ H1 D I1 q1
def tNever : TS := fun _ _ _ => False
theorem ps_never : PS X st tNever := fun _ _ _ _ _ _ h => h.elim
end
abbrev TG := V → St → Hp → (St → Hp → Prop) → Prop
abbrev TGs := List V → St → Hp → (St → Hp → Prop) → Prop
def PG (X : Cx) (target : Expr) (t : TG) : Prop :=
  ∀ (pins : List (Addr × Obj)) (s : Shared) (σ : St) (H : Hp) (v : V) (u : Value) (Q : St → Hp → Prop), Inv X pins σ H s → RelV v u → t v σ H Q →
    wpAny (model X.prog X.w) X.A (assign target X.env u) (fun _ s' => ∃ σ' H', Inv X pins σ' H' s' ∧ Q σ' H') X.xe s
def PGs (X : Cx) (ts : List Expr) (t : TGs) : Prop :=
  ∀ (pins : List (Addr × Obj)) (s : Shared) (σ : St) (H : Hp) (vs : List V) (us : List Value) (Q : St → Hp → Prop), Inv X pins σ H s → Vals vs us → t vs σ H Q →
    wpAny (model X.prog X.w) X.A (assignInOrder ((assignEach ts X.env).map (·.2)) us) (fun _ s' => ∃ σ' H', Inv X pins σ' H' s' ∧ Q σ' H') X.xe s
section
variable {X : Cx} {pos : Pos}
def gName (i : Nat) : TG := fun v σ H Q => Q (σ.set i (some v)) H
theorem pg_name {i : Nat} {x : Str} (hN : X.N.Nodup) (hi : X.N[i]? = some x) (hx : Loc X.env.scope x) (hf : X.fn x = true ∨ X.env.scope.names.lookup x = some .local := by first | exact .inl rfl | exact .inr rfl | assumption) : PG X (.Name x pos) (gName i) := by
  intro pins s σ H v u Q I r h
  exact wpAny_assign_Name (store_ok I hN hi hx r (fun s' I' => ⟨_, H, I', h⟩) hf)
def gNil : TGs := fun vs σ H Q => vs = [] ∧ Q σ H
def gCons (t : TG) (u : TGs) : TGs := fun vs σ H Q => ∃ v r, vs = v :: r ∧ t v σ H fun σ' H' => u r σ' H' Q
theorem pgs_nil : PGs X [] gNil := by
  intro pins s σ H vs us Q I r h
  obtain ⟨e, h⟩ := h
  subst e
  cases r
  exact assignInOrder_nil ⟨σ, H, I, h⟩
theorem pgs_cons {e : Expr} {es : List Expr} {t : TG} {u : TGs} (h1 : PG X e t) (h2 : PGs X es u)
    (hs : (assignEach (e :: es) X.env).map (·.2) = assign e X.env :: (assignEach es X.env).map (·.2) := by rfl) : PGs X (e :: es) (gCons t u) := by
  intro pins s σ H vs us Q I r h
  obtain ⟨v, vr, e1, h⟩ := h
  subst e1
  cases r with
  | cons r rr =>
    rw [hs]
    refine assignInOrder_cons (thn (h1 pins s σ H _ _ _ I r h) fun _ s1 ⟨σ1, H1, I1, q1⟩ => ?_)
    exact h2 pins s1 σ1 H1 _ _ Q I1 rr q1
def gTup (K : PySem.W.Frag) (n : Nat) (t : TGs) : TG := fun v σ H Q => ∃ a xs, v = .ref a ∧ SqT K H a xs ∧ xs.length = n ∧ t xs σ H Q
theorem pg_tup {es : List Expr} {k : Nat} {t : TGs} {n : Nat} (hc : X.calm = true) (h : PGs X es t)
    (hn : (assignEach es X.env).length = n := by rfl) (hst : (assignEach es X.env).findIdx? (·.1) = none := by rfl) : PG X (.Tuple es k pos) (gTup X.K n t) := by
  intro pins s σ H v u Q I r hw
  obtain ⟨a, xs, e1, hq, hl, hw⟩ := hw
  subst e1
  cases r
  obtain ⟨its, rv, ht, hz⟩ := I.tuple hq
  refine assign_Tuple_tuple (I.ok.hd hc) ht (by simp [hn, ← hl, rv.length]) hst fun h' hx => ?_
  have I1 : Inv X pins σ H { s with heap := h' } := I.kept (t' := s.toks) fun b o e => hx b o (Nat.ne_of_lt (Heap.lt_size e)) e
  exact h pins _ σ H xs _ Q I1 (by simpa using rv) hw
def tAsg (te : TE) (g : TG) : TS := fun D σ H => te σ H fun x H1 => g x σ H1 D.nx
theorem ps_asg {tg e : Expr} {te : TE} {g : TG} (he : PE X e te) (hg : PG X tg g) (hs : swapsWithSole [tg] e pos.line X.env = pure false := by rfl) (hw : swappedStores [tg] e X.env = pure none := by rfl)
    (h1 : (assignEach [tg] X.env).map (·.2) = [assign tg X.env] := by rfl) : PS X (.Assign [tg] e pos) (tAsg te g) := by
  intro pins s σ H D I h
  refine wpAny_Assign_stores (thn (he pins s σ H _ I h) fun v s1 ⟨x, H1, I1, r1, q1⟩ => ?_) hs hw
  rw [h1]
  exact thn (hg pins s1 σ H1 x v _ I1 r1 q1) fun _ s2 q => q
theorem ps_set {i : Nat} {x : Str} {e : Expr} {te : TE} {pos' : Pos} (hN : X.N.Nodup) (hi : X.N[i]? = some x) (hx : Loc X.env.scope x) (he : PE X e te) (hs : swapsWith e (some (.Name x pos')) pos.line X.env = pure false := by rfl) (hf : X.fn x = true ∨ X.env.scope.names.lookup x = some .local := by first | exact .inl rfl | exact .inr rfl | assumption) :
    PS X (.Assign [.Name x pos'] e pos) (tAsg te (gName i)) := by
  intro pins s σ H D I h
  refine wpAny_Assign_Name (thn (he pins s σ H _ I h) fun v s1 ⟨y, H1, I1, r1, q1⟩ => ?_) hs
  exact store_ok I1 hN hi hx r1 (fun s2 I2 => ⟨_, H1, I2, q1⟩) hf
def tPar (i j : Nat) (ta : TA) : TS := fun D σ H => ta σ H fun vs H1 => ∃ v w, vs = [v, w] ∧ D.nx ((σ.set i (some v)).set j (some w)) H1
theorem ps_par {i j : Nat} {x y : Str} {a b : Expr} {ta : TA} {px py pt : Pos} {kt k2 pt2} (hc : X.calm = true) (hN : X.N.Nodup) (hi : X.N[i]? = some x) (hj : X.N[j]? = some y) (hij : i ≠ j)
    (hx : X.env.scope.names.lookup x = some .local) (hy : X.env.scope.names.lookup y = some .local) (ha : PA X [a, b] ta)
    (hw : swappedStores [.Tuple [.Name x px, .Name y py] kt pt] (.Tuple [a, b] k2 pt2) X.env = pure (some [x, y]))
    (hs : swapsWithSole [.Tuple [.Name x px, .Name y py] kt pt] (.Tuple [a, b] k2 pt2) pos.line X.env = pure false := by rfl) :
    PS X (.Assign [.Tuple [.Name x px, .Name y py] kt pt] (.Tuple [a, b] k2 pt2) pos) (tPar i j ta) := by
  intro pins s σ H D I h
  rw [exec_Assign_arm]
  refine wpAny_bind (wpAny_standAt ?_)
  rw [hs]
  refine wpAny_bind (wpAny_pure ?_)
  rw [if_neg (by decide)]
  refine wpAny_bind (Tuple_ (thn (ha _ pins s σ H _ I h) fun us s1 ⟨vs, H1, I1, r1, q1⟩ => ?_))
  obtain ⟨v, w, e1, q1⟩ := q1
  subst e1
  obtain ⟨u1, u2, rfl, rv, rw'⟩ : ∃ u1 u2, us = [u1, u2] ∧ RelV v u1 ∧ RelV w u2 := by
    cases r1 with
    | cons p q =>
      cases q with
      | cons p' q' =>
        cases q'
        exact ⟨_, _, rfl, p, p'⟩
  refine wpAny_newObj_type ?_ (by show 2 ≤ sizeLine; decide)
  have I2 : Inv X pins σ H1 { s1 with heap := s1.heap.push { cls := .type "tuple", data := .seq [u1, u2].toArray } } := I1.kept (t' := s1.toks) fun b o e => Heap.get?_push_of_some _ e
  rw [hw]
  refine wpAny_bind (wpAny_pure ?_)
  show wpAny (model X.prog X.w) X.A (do rule "assign.swapped-stores"; let items ← unpackItems (.ref s1.heap.objs.size) 2 none; assignInOrder [fun v => bindName X.env y v, fun v => bindName X.env x v] items.reverse; pure Flow.next) _ _ _
  refine wpAny_bind (wpAny_rule (wpAny_bind (unpackItems_tuple (items := #[u1, u2]) (I.ok.hd hc) (IsTup.new s1.heap _) fun h' hx' => ?_)))
  have I3 := I2.kept (h' := h') (t' := s1.toks) fun b o e => hx' b o (Nat.ne_of_lt (Heap.lt_size e)) e
  show wpAny _ _ (assignInOrder [fun v => bindName X.env y v, fun v => bindName X.env x v] [u2, u1] >>= fun _ => pure Flow.next) _ _ _
  refine wpAny_bind (assignInOrder_cons (wpAny_bindName (store_ok I3 hN hj (.inl hy) rw' (fun s2 I4 => ?_) (.inr hy))))
  refine assignInOrder_cons (wpAny_bindName (store_ok I4 hN hi (.inl hx) rv (fun s3 I5 => assignInOrder_nil (wpAny_pure ?_)) (.inr hx)))
  rw [List.set_comm _ _ (Ne.symm hij)] at I5
  exact ⟨_, H1, I5, q1⟩
end
section
variable {X : Cx} {pos : Pos}
def tWhile (c : TT) (tb : TS) : TS := fun D σ H => ∃ W : Nat → St → Hp → Prop, (∃ m, W m σ H) ∧ ∀ m σ H, W m σ H →
  c σ H fun b H1 => if b = true then ∃ N : St → Hp → Prop, (∀ σ' H', N σ' H' → ∃ m', m' < m ∧ W m' σ' H') ∧ tb { D with nx := N, ct := N, bk := D.nx } σ H1 else D.nx σ H1
theorem ps_while {c : Expr} {body : List Stmt} {tc : TT} {tb : TS} (hp : PassesOwn (model X.prog X.w) X.A X.env X.xe) (hc : PT X c tc) (hb : PSs X body tb) : PS X (.While c body [] pos) (tWhile tc tb) := by
  intro pins s σ H D I h
  obtain ⟨W, ⟨m0, w0⟩, turn⟩ := h
  refine wpAny_While (codeAny_whileLoop (fun n s' => ∃ σ' H', Inv X pins σ' H' s' ∧ W n σ' H') ?_ m0 ⟨σ, H, I, w0⟩)
  rintro n s1 ⟨σ1, H1, I1, w1⟩
  refine wpAny_passesOwn hp (thn (hc pins s1 σ1 H1 _ I1 (turn n σ1 H1 w1)) fun b s2 ⟨H2, I2, q2⟩ => ?_)
  cases b with
  | true =>
    obtain ⟨N, hN, q2⟩ := q2
    rw [if_pos rfl]
    refine wpAny_passesOwn hp (thn (hb pins s2 σ1 H2 _ I2 q2) fun f s3 q3 => ?_)
    cases f with
    | next =>
      obtain ⟨σ3, H3, I3, n3⟩ := q3
      obtain ⟨m', hm, w3⟩ := hN σ3 H3 n3
      exact ⟨m', hm, σ3, H3, I3, w3⟩
    | cont =>
      obtain ⟨σ3, H3, I3, n3⟩ := q3
      obtain ⟨m', hm, w3⟩ := hN σ3 H3 n3
      exact ⟨m', hm, σ3, H3, I3, w3⟩
    | brk => exact q3
    | ret v => exact q3
  | false =>
    rw [if_neg Bool.false_ne_true]
    exact wpAny_execs_nil ⟨σ1, H2, I2, q2⟩
end
structure It where
  go : Nat → Hp → Prop
  yld : Nat → Hp → V → Hp → Prop
  stop : Nat → Hp → Prop
def FpOk (X : Cx) (pins : List (Addr × Obj)) (H : Hp) (b : Addr) : Prop :=
  H b = none ∧ b ≠ X.env.locals ∧ b ∉ X.fs ∧ (b ∈ X.ex ∨ X.s₀.heap.objs.size ≤ b) ∧ (∀ x c, X.env.cells.lookup x = some c → c ≠ b) ∧ ∀ p ∈ X.pn ++ pins, p.1 ≠ b
theorem Inv.fpOk {X : Cx} {pins : List (Addr × Obj)} {σ : St} {H H' : Hp} {s : Shared} {b : Addr} (I : Inv X pins σ H s) (hb : s.heap.objs.size ≤ b) (hn : H' b = none) : FpOk X pins H' b := by
  refine ⟨hn, Nat.ne_of_gt (Nat.lt_of_lt_of_le I.lt hb), I.nofs hb, .inr (Nat.le_trans I.sz hb), fun x c e z => ?_, fun p hp z => ?_⟩
  · obtain ⟨v, q⟩ := I.cell x c e
    exact absurd (Nat.lt_of_lt_of_le q.lt (by rw [z]; exact hb)) (Nat.lt_irrefl _)
  · exact absurd (Nat.lt_of_lt_of_le (Heap.lt_size (I.pin p hp).1) (by rw [z]; exact hb)) (Nat.lt_irrefl _)
structure Turn (P : Program) (w : World) (K : PySem.W.Frag) (tg : Expr) (J : It) (fp : List Addr) (it : Addr) (tn : Nat → Heap → Prop) : Prop where
  mem : it ∈ fp
  obj : ∀ i h, tn i h → ∀ b ∈ fp, ∃ o, h.get? b = some o ∧ ∀ v, o.data ≠ .cell v
  keep : ∀ i h h', tn i h → (∀ b ∈ fp, ∀ o, h.get? b = some o → h'.get? b = some o) → tn i h'
  item : ∀ (X : Cx), X.prog = P → X.w = w → X.K = K → X.calm = true → ∀ (i : Nat) (pins : List (Addr × Obj)) (s : Shared) (σ : St) (H : Hp) (E : Value → Shared → Prop), Inv X pins σ H s → (∀ b ∈ fp, FpOk X pins H b) → tn i s.heap → J.go i H →
    wpAny (model P w) X.A (pyNext (.ref it)) (fun r s1 => ∃ u, r = some u ∧
      wpAny (model P w) X.A (letOwnedTupleGo tg (.ref it) u) (fun _ s2 => ∃ x H', Inv X pins σ H' s2 ∧ RelV x u ∧ J.yld i H x H' ∧ tn (i + 1) s2.heap ∧ ∀ b ∈ fp, H' b = none) E s1) E s
  done : ∀ (X : Cx), X.prog = P → X.w = w → X.K = K → X.calm = true → ∀ (i : Nat) (pins : List (Addr × Obj)) (s : Shared) (σ : St) (H : Hp) (E : Value → Shared → Prop), Inv X pins σ H s → (∀ b ∈ fp, FpOk X pins H b) → tn i s.heap → J.stop i H →
    wpAny (model P w) X.A (pyNext (.ref it)) (fun r s1 => r = none ∧ Inv X pins σ H s1) E s
  self : ∀ (A : Around) (i : Nat) (s : Shared) (Q : Value → Shared → Prop) (E : Value → Shared → Prop), tn i s.heap → Q (.ref it) s → wpAny (model P w) A (pyIter (.ref it)) Q E s
abbrev TI := St → Hp → (It → Hp → Prop) → Prop
def PIE (X : Cx) (pins : List (Addr × Obj)) (σ : St) (tg : Expr) (R : It → Hp → Prop) (itv : Value) (s2 : Shared) : Prop :=
  ∃ (it : Addr) (fp : List Addr) (tn : Nat → Heap → Prop) (J : It) (H' : Hp), itv = .ref it ∧ Inv X pins σ H' s2 ∧ Turn X.prog X.w X.K tg J fp it tn ∧ tn 0 s2.heap ∧ (∀ b ∈ fp, FpOk X pins H' b) ∧ R J H'
def PI (X : Cx) (tg iter : Expr) (wi : TI) : Prop :=
  ∀ (pins : List (Addr × Obj)) (s : Shared) (σ : St) (H : Hp) (R : It → Hp → Prop), Inv X pins σ H s → wi σ H R →
    wpAny (model X.prog X.w) X.A (eval iter X.env) (fun v s1 => wpAny (model X.prog X.w) X.A (pyIter v) (PIE X pins σ tg R) X.xe s1) X.xe s
theorem go_of {M : Model} {A : Around} {E : Value → Shared → Prop} {s : Shared} {tg : Expr} {it : Addr} {u : Value} {o : Obj} {n : String} {vs : Array Value} {Q : Unit → Shared → Prop} (ho : s.heap.get? it = some o) (hc : o.cls = .type n) (hd : o.data = .fields vs)
    (hn : ["enumerate", "zip", "dict_itemiterator", "dict_reverseitemiterator", "odict_iterator", "itertools.zip_longest", "itertools.pairwise"].contains n = false) (hQ : Q () s) : wpAny M A (letOwnedTupleGo tg (.ref it) u) Q E s := by
  unfold letOwnedTupleGo
  cases tg <;> first
    | exact wpAny_pure hQ
    | (cases u <;> first
        | exact wpAny_pure hQ
        | (refine wpAny_bind (wpAny_load ho ?_)
           rw [hc, hd]
           show wpAny M A (if (["enumerate", "zip", "dict_itemiterator", "dict_reverseitemiterator", "odict_iterator", "itertools.zip_longest", "itertools.pairwise"].contains n && vs[0]? == some (rawInt _)) = true then _ else _) Q E s
           rw [if_neg (by intro h; rw [hn, Bool.false_and] at h; cases h)]
           exact wpAny_pure hQ))
def Itl (K : PySem.W.Frag) (a : Addr) : It :=
  ⟨fun i H => ∃ xs x, SqL K H a xs ∧ xs[i]? = some x, fun i H x H' => H' = H ∧ ∀ xs, SqL K H a xs → xs[i]? = some x, fun i H => ∃ xs, SqL K H a xs ∧ xs.length ≤ i⟩
def Itt (K : PySem.W.Frag) (a : Addr) : It :=
  ⟨fun i H => ∃ xs x, SqT K H a xs ∧ xs[i]? = some x, fun i H x H' => H' = H ∧ ∀ xs, SqT K H a xs → xs[i]? = some x, fun i H => ∃ xs, SqT K H a xs ∧ xs.length ≤ i⟩
def Itr (lo : Int) (n : Nat) : It := ⟨fun i _ => i < n, fun i H x H' => H' = H ∧ x = .int (lo + i), fun i _ => n ≤ i⟩
theorem turn_tuple {P : Program} {w : World} {K : PySem.W.Frag} {tg : Expr} (a it : Addr) : Turn P w K tg (Itt K a) [it] it (fun i h => h.IsTupleIter it a i) where
  mem := by simp
  obj := fun i h st b hb => by
    have e : b = it := by simpa using hb
    subst e
    obtain ⟨o, e, c, d⟩ := st
    exact ⟨o, e, fun v z => by rw [d] at z; cases z⟩
  keep := fun i h h' st k => st.at fun o e => k it (by simp) o e
  item := by
    intro X hP hw hK hc i pins s σ H E I hf st hg
    subst hP hw hK
    obtain ⟨xs, x, hq, hx⟩ := hg
    obtain ⟨its, rv, p, hz⟩ := I.tuple hq
    obtain ⟨u, hu, ru⟩ := rv.get hx
    obtain ⟨f0, f1, f2, f3, f4, f5⟩ := hf it (by simp)
    refine wpAny_pyNext_tuple_item st (show s.heap.IsTuple a its.toArray from p) (x := u) (by simpa using hu) fun h' st' sb => ?_
    have I1 : Inv X pins σ H { s with heap := h' } := I.turned (t' := s.toks) (fun b o hb e => (sb.2 b hb).trans e) f0 f1 f3 f4 f5
    obtain ⟨o, e, c, d⟩ := id st'
    exact ⟨u, rfl, go_of (s := { s with heap := h' }) e c d (by decide) ⟨x, H, I1, ru, ⟨rfl, fun ys hy => by rw [I.tuple_inj hy hq]; exact hx⟩, st', fun b hb => (hf b hb).1⟩⟩
  done := by
    intro X hP hw hK hc i pins s σ H E I hf st hg
    subst hP hw hK
    obtain ⟨xs, hq, hx⟩ := hg
    obtain ⟨its, rv, p, hz⟩ := I.tuple hq
    obtain ⟨f0, f1, f2, f3, f4, f5⟩ := hf it (by simp)
    have hl := rv.length
    exact wpAny_pyNext_tuple_end (I.ok.hd hc) st (show s.heap.IsTuple a its.toArray from p) (by simp; omega) fun h' eb => ⟨rfl, I.turned (t' := s.toks) (fun b o hb e => eb b o hb e) f0 f1 f3 f4 f5⟩
  self := fun _ _ _ _ _ st h => wpAny_pyIter_tupleiter st h
end L2
namespace L2
open PySem PySem.Spec PyProof.Rows
section
variable {X : Cx} {tg : Expr}
def iList (K : PySem.W.Frag) (tl : TE) : TI := fun σ H R => tl σ H fun x H1 => ∃ a, x = .ref a ∧ (∃ xs, SqL K H1 a xs) ∧ R (Itl K a) H1
def iTup (K : PySem.W.Frag) (tl : TE) : TI := fun σ H R => tl σ H fun x H1 => ∃ a, x = .ref a ∧ (∃ xs, SqT K H1 a xs) ∧ R (Itt K a) H1
theorem pi_tup {l : Expr} {tl : TE} (hl : PE X l tl) : PI X tg l (iTup X.K tl) := by
  intro pins s σ H R I h
  refine thn (hl pins s σ H _ I h) fun v s1 ⟨x, H1, I1, r1, q1⟩ => ?_
  obtain ⟨a, e, ⟨xs, hq⟩, q⟩ := q1
  subst e
  cases r1
  obtain ⟨its, rv, p, hz⟩ := I1.tuple hq
  refine wpAny_pyIter_tuple (show s1.heap.IsTuple a its.toArray from p) ?_
  refine ⟨s1.heap.objs.size, [s1.heap.objs.size], _, _, H1, rfl, I1.kept (t' := s1.toks) fun b o e => Heap.get?_push_of_some _ e, turn_tuple a _, ⟨_, Heap.get?_push_size _ rfl, rfl, rfl⟩, fun b hb => ?_, q⟩
  have e : b = s1.heap.objs.size := by simpa using hb
  subst e
  exact I1.fpOk (Nat.le_refl _) (I1.hok.fresh (Nat.le_refl _))
def iRng1 (ta : TA) : TI := fun σ H R => ta σ H fun vs H1 => ∃ j : Int, vs = [.int j] ∧ -(2 ^ 62) ≤ j ∧ j < 2 ^ 62 ∧ R (Itr 0 j.toNat) H1
def iRng2 (ta : TA) : TI := fun σ H R => ta σ H fun vs H1 => ∃ i j : Int, vs = [.int i, .int j] ∧ (-(2 ^ 62) ≤ i ∧ i < 2 ^ 62 ∧ -(2 ^ 62) ≤ j ∧ j < 2 ^ 62) ∧ R (Itr i (j - i).toNat) H1
def pinsAt (fp : List Addr) (h : Heap) : List (Addr × Obj) := fp.filterMap fun b => (h.get? b).map fun o => (b, o)
theorem mem_pinsAt {fp : List Addr} {h : Heap} {b : Addr} {o : Obj} (hb : b ∈ fp) (e : h.get? b = some o) : (b, o) ∈ pinsAt fp h := List.mem_filterMap.mpr ⟨b, hb, by rw [e]; rfl⟩
theorem of_pinsAt {fp : List Addr} {h : Heap} {p : Addr × Obj} (hp : p ∈ pinsAt fp h) : p.1 ∈ fp ∧ h.get? p.1 = some p.2 := by
  obtain ⟨b, hb, e⟩ := List.mem_filterMap.mp hp
  cases q : h.get? b with
  | none => rw [q] at e; cases e
  | some o =>
    rw [q] at e
    have e' : (b, o) = p := Option.some.inj e
    subst e'
    exact ⟨hb, q⟩
theorem Inv.pinned {pins : List (Addr × Obj)} {σ : St} {H : Hp} {s : Shared} {fp : List Addr} (I : Inv X pins σ H s) (hf : ∀ b ∈ fp, FpOk X pins H b) (ho : ∀ b ∈ fp, ∃ o, s.heap.get? b = some o ∧ ∀ v, o.data ≠ .cell v) : Inv X (pins ++ pinsAt fp s.heap) σ H s :=
  I.pins_of fun p hp => (List.mem_append.mp hp).elim (fun z => I.pin p (List.mem_append_right _ z)) fun z => by
    obtain ⟨hb, e⟩ := of_pinsAt z
    obtain ⟨f0, f1, f2, _⟩ := hf p.1 hb
    obtain ⟨o, e', d⟩ := ho p.1 hb
    rw [e] at e'; cases e'
    exact ⟨e, f0, f1, f2, d⟩
theorem Inv.unpinned {pins pl : List (Addr × Obj)} {σ : St} {H : Hp} {s : Shared} (I : Inv X (pins ++ pl) σ H s) : Inv X pins σ H s := I.pins_of fun p hp => I.pin p (List.mem_append_right _ (List.mem_append_left _ hp))
end
end L2
namespace L2
open PySem PySem.Spec PyProof.Rows
abbrev R2 := V → V → Hp → VK → Prop
def OpR (X : Cx) (f : Value → Value → Sem Value) (r : R2) : Prop :=
  ∀ (pins : List (Addr × Obj)) (s : Shared) (σ : St) (H : Hp) (x y : V) (v u : Value) (Q : VK), Inv X pins σ H s → RelV x v → RelV y u → r x y H Q →
    wpAny (model X.prog X.w) X.A (f v u) (EP X pins σ Q) X.xe s
def UnR (X : Cx) (f : Value → Sem Value) (r : V → Hp → VK → Prop) : Prop :=
  ∀ (pins : List (Addr × Obj)) (s : Shared) (σ : St) (H : Hp) (x : V) (v : Value) (Q : VK), Inv X pins σ H s → RelV x v → r x H Q →
    wpAny (model X.prog X.w) X.A (f v) (EP X pins σ Q) X.xe s
def CallR (X : Cx) (f : Value) (r : List V → Hp → VK → Prop) : Prop :=
  ∀ (pins : List (Addr × Obj)) (s : Shared) (σ : St) (H : Hp) (xs : List V) (us : List Value) (Q : VK), Inv X pins σ H s → Vals xs us → r xs H Q →
    wpAny (model X.prog X.w) X.A (call f us) (EP X pins σ Q) X.xe s
def tOp (r : R2) (ta tb : TE) : TE := fun σ H Q => ta σ H fun x H1 => tb σ H1 fun y H2 => r x y H2 Q
def tUn (r : V → Hp → VK → Prop) (ta : TE) : TE := fun σ H Q => ta σ H fun x H1 => r x H1 Q
def rI (C : Int → Int → Prop) (g : Int → Int → V) : R2 := fun x y H Q => ∃ i j, x = .int i ∧ y = .int j ∧ C i j ∧ Q (g i j) H
def rI0 (g : Int → Int → V) : R2 := fun x y H Q => ∃ i j, x = .int i ∧ y = .int j ∧ Q (g i j) H
def rU (g : Int → V) : V → Hp → VK → Prop := fun x H Q => ∃ i, x = .int i ∧ Q (g i) H
section
variable {X : Cx} {a b c : Expr} {ta tb tc : TE} {pos : Pos}
theorem binT (ha : PE X a ta) (hb : PE X b tb) {pins : List (Addr × Obj)} {s : Shared} {σ : St} {H : Hp} {R : V → V → Hp → Prop} (I : Inv X pins σ H s)
    (h : ta σ H fun x H1 => tb σ H1 fun y H2 => R x y H2) {Q : Value → Shared → Prop} {f : Value → Value → Sem Value}
    (hf : ∀ v u s2 x y H2, Inv X pins σ H2 s2 → RelV x v → RelV y u → R x y H2 → wpAny (model X.prog X.w) X.A (f v u) Q X.xe s2) :
    wpAny (model X.prog X.w) X.A (eval a X.env) (fun v s₁ => wpAny (model X.prog X.w) X.A (eval b X.env) (fun u s₂ => wpAny (model X.prog X.w) X.A (f v u) Q X.xe s₂) X.xe s₁) X.xe s := by
  refine thn (ha pins s σ H _ I h) fun v s1 ⟨x, H1, I1, r1, q1⟩ => ?_
  refine thn (hb pins s1 σ H1 _ I1 q1) fun u s2 ⟨y, H2, I2, r2, q2⟩ => ?_
  exact hf v u s2 x y H2 I2 r1 r2 q2
theorem pe_op {op : Operator} {r : R2} (ho : OpR X (binaryOp op) r) (ha : PE X a ta) (hb : PE X b tb) : PE X (.BinOp a op b pos) (tOp r ta tb) := by
  intro pins s σ H Q I h
  exact wpAny_BinOp (binT ha hb I h fun v u s2 x y H2 I2 rx ry q => ho pins s2 σ H2 x y v u Q I2 rx ry q)
theorem pe_un {op : UnaryOp} {r : V → Hp → VK → Prop} (ho : UnR X (unaryOp op) r) (ha : PE X a ta) : PE X (.UnaryOp op a pos) (tUn r ta) := by
  intro pins s σ H Q I h
  exact UnaryOp_ (thn (ha pins s σ H _ I h) fun v s1 ⟨x, H1, I1, r1, q1⟩ => ho pins s1 σ H1 x v Q I1 r1 q1)
theorem opI {f : Value → Value → Sem Value} {C : Int → Int → Prop} {g : Int → Int → Int}
    (rule : ∀ (i j : Int) (t u : Tok) (s : Shared) (Q : Value → Shared → Prop) (E : Value → Shared → Prop), C i j → Q (.int (g i j) s.toks) { s with toks := s.toks + 1 } → wpAny (model X.prog X.w) X.A (f (.int i t) (.int j u)) Q E s) :
    OpR X f (rI C fun i j => .int (g i j)) := by
  intro pins s σ H x y v u Q I rx ry h
  obtain ⟨i, j, rfl, rfl, hc, q⟩ := h
  obtain ⟨t, rfl⟩ := rx
  obtain ⟨t', rfl⟩ := ry
  exact rule i j t t' s _ _ hc ⟨.int (g i j), H, I.tok _, ⟨_, rfl⟩, q⟩
theorem opI0 {f : Value → Value → Sem Value} {g : Int → Int → Int}
    (rule : ∀ (i j : Int) (t u : Tok) (s : Shared) (Q : Value → Shared → Prop) (E : Value → Shared → Prop), Q (.int (g i j) s.toks) { s with toks := s.toks + 1 } → wpAny (model X.prog X.w) X.A (f (.int i t) (.int j u)) Q E s) :
    OpR X f (rI0 fun i j => .int (g i j)) := by
  intro pins s σ H x y v u Q I rx ry h
  obtain ⟨i, j, rfl, rfl, q⟩ := h
  obtain ⟨t, rfl⟩ := rx
  obtain ⟨t', rfl⟩ := ry
  exact rule i j t t' s _ _ ⟨.int (g i j), H, I.tok _, ⟨_, rfl⟩, q⟩
theorem opB0 {f : Value → Value → Sem Value} {g : Int → Int → Bool}
    (rule : ∀ (i j : Int) (t u : Tok) (s : Shared) (Q : Value → Shared → Prop) (E : Value → Shared → Prop), Q (.bool (g i j)) s → wpAny (model X.prog X.w) X.A (f (.int i t) (.int j u)) Q E s) :
    OpR X f (rI0 fun i j => .bl (g i j)) := by
  intro pins s σ H x y v u Q I rx ry h
  obtain ⟨i, j, rfl, rfl, q⟩ := h
  obtain ⟨t, rfl⟩ := rx
  obtain ⟨t', rfl⟩ := ry
  exact rule i j t t' s _ _ ⟨.bl (g i j), H, I, rfl, q⟩
def CPow (i j : Int) : Prop := 0 ≤ j ∧ j ≤ 1000000 ∧ i.natAbs < 2 ^ 64
def CMul (i j : Int) : Prop := (-(2 ^ 64) < i ∧ i < 2 ^ 64) ∨ (-(2 ^ 64) < j ∧ j < 2 ^ 64)
theorem CMul.ok {i j : Int} (h : CMul i j) : IntMulOk i j := by
  rcases h with ⟨h1, h2⟩ | ⟨h1, h2⟩
  · exact .of_left (intBits_le_64 h1 h2)
  · exact .of_right (intBits_le_64 h1 h2)
theorem op_add : OpR X (binaryOp .Add) (rI0 fun i j => .int (i + j)) := opI0 fun _ _ _ _ _ _ _ q => add_int q
theorem op_sub : OpR X (binaryOp .Sub) (rI0 fun i j => .int (i - j)) := opI0 fun _ _ _ _ _ _ _ q => sub_int q
theorem op_mod : OpR X (binaryOp .Mod) (rI (fun _ j => 0 < j) fun i j => .int (i % j)) := opI fun i j _ _ _ _ _ hc q => by
  have h1 : (0 : Int) < j := hc
  exact mod_int' (by omega) (by rw [Int.fmod_eq_emod_of_nonneg i (by omega)]; exact q)
theorem op_pow : OpR X (binaryOp .Pow) (rI CPow fun i j => .int (i ^ j.toNat)) := opI fun _ _ _ _ _ _ _ hc q => pow_int_small hc.1 hc.2.1 hc.2.2 q
theorem unI {f : Value → Sem Value} {g : Int → Int}
    (rule : ∀ (i : Int) (t : Tok) (s : Shared) (Q : Value → Shared → Prop) (E : Value → Shared → Prop), Q (.int (g i) s.toks) { s with toks := s.toks + 1 } → wpAny (model X.prog X.w) X.A (f (.int i t)) Q E s) :
    UnR X f (rU fun i => .int (g i)) := by
  intro pins s σ H x v Q I rx h
  obtain ⟨i, rfl, q⟩ := h
  obtain ⟨t, rfl⟩ := rx
  exact rule i t s _ _ ⟨.int (g i), H, I.tok _, ⟨_, rfl⟩, q⟩
theorem un_neg : UnR X (unaryOp .USub) (rU fun i => .int (-i)) := unI fun _ _ _ _ _ q => neg_int q
end
def scal : V → V → Bool
  | .non, .non => true | .non, .int _ => true | .int _, .non => true | .non, .bl _ => true | .bl _, .non => true | .non, .str _ => true | .str _, .non => true
  | .int _, .int _ => true | .bl _, .bl _ => true | .str _, .str _ => true | .byt _, .byt _ => true
  | .int _, .str _ => true | .str _, .int _ => true | .bl _, .str _ => true | .str _, .bl _ => true
  | _, _ => false
def rEq : R2 := fun x y H Q => scal x y = true ∧ Q (.bl (decide (x = y))) H
def rNe : R2 := fun x y H Q => scal x y = true ∧ Q (.bl (!decide (x = y))) H
theorem dec_int {i j : Int} : decide (V.int i = V.int j) = (i == j) := by
  rw [Bool.eq_iff_iff]
  simp
theorem dec_bl {i j : Bool} : decide (V.bl i = V.bl j) = (i == j) := by
  rw [Bool.eq_iff_iff]
  simp
theorem dec_str {i j : Str} : decide (V.str i = V.str j) = (i == j) := by
  rw [Bool.eq_iff_iff]
  simp
theorem dec_byt {i j : Array UInt8} : decide (V.byt i = V.byt j) = (i.toList == j.toList) := by
  rw [Bool.eq_iff_iff]
  cases i
  cases j
  simp
section
variable {X : Cx} {a b c : Expr} {ta tb tc : TE} {pos : Pos}
theorem fin_bl {pins : List (Addr × Obj)} {σ : St} {H : Hp} {s : Shared} {Q : VK} {k k' : Bool} (I : Inv X pins σ H s) (q : Q (.bl k) H) (e : k = k') : EP X pins σ Q (.bool k') s := by
  subst e
  exact ⟨.bl k, H, I, rfl, q⟩
theorem op_eq : OpR X (compareOp .Eq) rEq := by
  intro pins s σ H x y v u Q I rx ry h
  obtain ⟨hs, q⟩ := h
  cases x with
  | non =>
    cases rx
    cases y with
    | non => cases ry; exact PySem.EqNone.eq_none_none (fin_bl I q (by simp))
    | bl j => cases ry; exact PySem.EqNone.eq_none_bool (fin_bl I q (by simp))
    | int j => obtain ⟨t', rfl⟩ := ry; exact PySem.EqNone.eq_none_int (fin_bl I q (by simp))
    | str j => obtain ⟨t', rfl⟩ := ry; exact PySem.EqNone.eq_none_str (fin_bl I q (by simp))
    | _ => exact absurd (show false = true from hs) Bool.false_ne_true
  | bl i =>
    cases rx
    cases y with
    | non => cases ry; exact PySem.EqNone.eq_bool_none (fin_bl I q (by simp))
    | bl j => cases ry; exact eq_bool (fin_bl I q dec_bl)
    | str j => obtain ⟨t', rfl⟩ := ry; exact PySem.EqMixed.eq_bool_str (fin_bl I q (by simp))
    | _ => exact absurd (show false = true from hs) Bool.false_ne_true
  | int i =>
    obtain ⟨t, rfl⟩ := rx
    cases y with
    | non => cases ry; exact PySem.EqNone.eq_int_none (fin_bl I q (by simp))
    | int j => obtain ⟨t', rfl⟩ := ry; exact eq_int (fin_bl I q dec_int)
    | str j => obtain ⟨t', rfl⟩ := ry; exact PySem.EqMixed.eq_int_str (fin_bl I q (by simp))
    | _ => exact absurd (show false = true from hs) Bool.false_ne_true
  | str i =>
    obtain ⟨t, rfl⟩ := rx
    cases y with
    | non => cases ry; exact PySem.EqNone.eq_str_none (fin_bl I q (by simp))
    | bl j => cases ry; exact PySem.EqMixed.eq_str_bool (fin_bl I q (by simp))
    | int j => obtain ⟨t', rfl⟩ := ry; exact PySem.EqMixed.eq_str_int (fin_bl I q (by simp))
    | str j => obtain ⟨t', rfl⟩ := ry; exact eq_str (fin_bl I q dec_str)
    | _ => exact absurd (show false = true from hs) Bool.false_ne_true
  | byt i =>
    obtain ⟨t, rfl⟩ := rx
    cases y with
    | byt j => obtain ⟨t', rfl⟩ := ry; exact PySem.W.eq_bytes (fin_bl I q dec_byt)
    | _ => exact absurd (show false = true from hs) Bool.false_ne_true
  | _ => cases y <;> exact absurd (show false = true from hs) Bool.false_ne_true
theorem op_ne : OpR X (compareOp .NotEq) rNe := by
  intro pins s σ H x y v u Q I rx ry h
  obtain ⟨hs, q⟩ := h
  cases x with
  | non =>
    cases rx
    cases y with
    | non => cases ry; exact PySem.EqNone.ne_none_none (fin_bl I q (by simp))
    | bl j => cases ry; exact PySem.EqNone.ne_none_bool (fin_bl I q (by simp))
    | int j => obtain ⟨t', rfl⟩ := ry; exact PySem.EqNone.ne_none_int (fin_bl I q (by simp))
    | str j => obtain ⟨t', rfl⟩ := ry; exact PySem.EqNone.ne_none_str (fin_bl I q (by simp))
    | _ => exact absurd (show false = true from hs) Bool.false_ne_true
  | bl i =>
    cases rx
    cases y with
    | non => cases ry; exact PySem.EqNone.ne_bool_none (fin_bl I q (by simp))
    | bl j => cases ry; exact ne_bool (fin_bl I q (congrArg not dec_bl))
    | str j => obtain ⟨t', rfl⟩ := ry; exact PySem.EqMixed.ne_bool_str (fin_bl I q (by simp))
    | _ => exact absurd (show false = true from hs) Bool.false_ne_true
  | int i =>
    obtain ⟨t, rfl⟩ := rx
    cases y with
    | non => cases ry; exact PySem.EqNone.ne_int_none (fin_bl I q (by simp))
    | int j => obtain ⟨t', rfl⟩ := ry; exact ne_int (fin_bl I q (congrArg not dec_int))
    | str j => obtain ⟨t', rfl⟩ := ry; exact PySem.EqMixed.ne_int_str (fin_bl I q (by simp))
    | _ => exact absurd (show false = true from hs) Bool.false_ne_true
  | str i =>
    obtain ⟨t, rfl⟩ := rx
    cases y with
    | non => cases ry; exact PySem.EqNone.ne_str_none (fin_bl I q (by simp))
    | bl j => cases ry; exact PySem.EqMixed.ne_str_bool (fin_bl I q (by simp))
    | int j => obtain ⟨t', rfl⟩ := ry; exact PySem.EqMixed.ne_str_int (fin_bl I q (by simp))
    | str j => obtain ⟨t', rfl⟩ := ry; exact ne_str (fin_bl I q (congrArg not dec_str))
    | _ => exact absurd (show false = true from hs) Bool.false_ne_true
  | byt i =>
    obtain ⟨t, rfl⟩ := rx
    cases y with
    | byt j => obtain ⟨t', rfl⟩ := ry; exact PySem.W.ne_bytes (fin_bl I q (congrArg not dec_byt))
    | _ => exact absurd (show false = true from hs) Bool.false_ne_true
  | _ => cases y <;> exact absurd (show false = true from hs) Bool.false_ne_true
theorem op_lt : OpR X (compareOp .Lt) (rI0 fun i j => .bl (decide (i < j))) := opB0 fun _ _ _ _ _ _ _ q => lt_int q
theorem op_le : OpR X (compareOp .LtE) (rI0 fun i j => .bl (decide (i ≤ j))) := opB0 fun _ _ _ _ _ _ _ q => le_int q
theorem op_gt : OpR X (compareOp .Gt) (rI0 fun i j => .bl (decide (j < i))) := opB0 fun _ _ _ _ _ _ _ q => gt_int q
theorem op_ge : OpR X (compareOp .GtE) (rI0 fun i j => .bl (decide (j ≤ i))) := opB0 fun _ _ _ _ _ _ _ q => ge_int q
theorem op_isN : OpR X (compareOp .Is) (fun x y H Q => y = .non ∧ Q (.bl (decide (x = .non))) H) := by
  intro pins s σ H x y v u Q I rx ry h
  obtain ⟨rfl, q⟩ := h
  cases ry
  refine is_none_gen (fin_bl I q ?_)
  cases x <;> first
    | (cases rx; rfl)
    | (obtain ⟨t, rfl⟩ := rx; rfl)
theorem nomark (b : Expr) {op : CmpOp} (h : op ≠ .In := by decide) (h2 : op ≠ .NotIn := by decide) : behindInMarks op b = false := by
  have e1 : (op == CmpOp.In) = false := by cases op <;> first | rfl | exact absurd rfl h
  have e2 : (op == CmpOp.NotIn) = false := by cases op <;> first | rfl | exact absurd rfl h2
  cases b <;> simp [behindInMarks, e1, e2]
theorem pe_cmpR {op : CmpOp} {r : R2} (ho : OpR X (compareOp op) r) (ha : PE X a ta) (hb : PE X b tb) (hm : behindInMarks op b = false) : PE X (.Compare a [op] [b] pos) (tOp r ta tb) := by
  intro pins s σ H Q I h
  exact wpAny_Compare1 (binT ha hb I h fun v u s2 x y H2 I2 rx ry q => ho pins s2 σ H2 x y v u Q I2 rx ry q) hm
def tTest (t : TE) : TT := fun σ H Q => t σ H fun x H' => ∃ k, x = .bl k ∧ Q k H'
theorem pt_cmpR {op : CmpOp} {r : R2} (ho : OpR X (compareOp op) r) (ha : PE X a ta) (hb : PE X b tb) (hm : behindInMarks op b = false) : PT X (.Compare a [op] [b] pos) (tTest (tOp r ta tb)) := by
  intro pins s σ H Q I h
  refine wpAny_isTrue_Compare1 (thn (ha pins s σ H _ I h) fun v s1 ⟨x, H1, I1, r1, q1⟩ => thn (hb pins s1 σ H1 _ I1 q1) fun u s2 ⟨y, H2, I2, r2, q2⟩ =>
    thn (ho pins s2 σ H2 x y v u _ I2 r1 r2 q2) fun c s3 ⟨z, H3, I3, r3, k, e, q3⟩ => ?_) hm
  subst e
  cases r3
  exact wpAny_truthy_bool ⟨H3, I3, q3⟩
def tChain (r r' : R2) (ta tb tc : TE) : TE := fun σ H Q => ta σ H fun x H1 => tb σ H1 fun y H2 => r x y H2 fun z H3 => ∃ k, z = .bl k ∧
  (if k = true then tc σ H3 fun w' H4 => r' y w' H4 Q else Q (.bl false) H3)
theorem pt_chain {op op' : CmpOp} {r r' : R2} (ho : OpR X (compareOp op) r) (ho' : OpR X (compareOp op') r') (ha : PE X a ta) (hb : PE X b tb) (hc : PE X c tc)
    (hm : lastMarks [op, op'] [b, c] = false := by with_unfolding_all rfl) : PT X (.Compare a [op, op'] [b, c] pos) (tTest (tChain r r' ta tb tc)) := by
  intro pins s σ H Q I h
  refine isTrue_chain (thn (ha pins s σ H _ I h) fun v s1 ⟨x, H1, I1, r1, q1⟩ => test_link (thn (hb pins s1 σ H1 _ I1 q1) fun u s2 ⟨y, H2, I2, r2, q2⟩ =>
    thn (ho pins s2 σ H2 x y v u _ I2 r1 r2 q2) fun d s3 ⟨z, H3, I3, r3, k, e, q3⟩ => ?_)) hm
  subst e
  cases r3
  refine wpAny_truthy_bool ?_
  cases k with
  | false =>
    obtain ⟨k', e', q'⟩ := q3
    cases e'
    exact ite_ff ⟨H3, I3, q'⟩
  | true =>
    refine ite_tt (test_last (thn (hc pins s3 σ H3 _ I3 q3) fun w' s4 ⟨z', H4, I4, r4, q4⟩ => thn (ho' pins s4 σ H4 y z' u w' _ I4 r2 r4 q4) fun d' s5 ⟨z2, H5, I5, r5, k2, e2, q5⟩ => ?_))
    subst e2
    cases r5
    exact wpAny_truthy_bool ⟨H5, I5, q5⟩
def TruV (K : PySem.W.Frag) (x : V) (H : Hp) (k : Bool) : Prop :=
  match x with
  | .non => k = false
  | .bl b => k = b
  | .int i => k = (i != 0)
  | .str y => y.length ≤ sizeLine ∧ k = ((y.length : Int) != 0)
  | .byt y => y.size ≤ sizeLine ∧ k = ((y.size : Int) != 0)
  | .ref p => (∃ xs, SqL K H p xs ∧ k = !xs.isEmpty) ∨ (∃ xs, SqT K H p xs ∧ k = !xs.isEmpty) ∨ ∃ kvs, H p = some (.dK kvs) ∧ k = !kvs.isEmpty
  | _ => False
theorem line63 : (sizeLine : Nat) < 2 ^ 63 := by rw [sizeLine_eq]; decide
theorem op_add_str : OpR X (binaryOp .Add) (fun x y H Q => ∃ i j, x = .str i ∧ y = .str j ∧ i.length + j.length ≤ sizeLine ∧ Q (.str (i ++ j)) H) := by
  intro pins s σ H x y v u Q I rx ry h
  obtain ⟨i, j, rfl, rfl, hz, q⟩ := h
  obtain ⟨t, rfl⟩ := rx
  obtain ⟨t', rfl⟩ := ry
  exact add_str (fun t' tk => ⟨.str (i ++ j), H, I.tok _, ⟨_, rfl⟩, q⟩) hz
theorem vals1 {x : V} {us : List Value} (r : Vals [x] us) : ∃ u, us = [u] ∧ RelV x u := by
  cases r with
  | cons r1 r2 => cases r2; exact ⟨_, rfl, r1⟩
theorem call_abs : CallR X (.builtin "abs") (fun xs H Q => ∃ i, xs = [.int i] ∧ Q (.int (if i < 0 then -i else i)) H) := by
  intro pins s σ H xs us Q I r h
  obtain ⟨i, rfl, q⟩ := h
  obtain ⟨u, rfl, t, rfl⟩ := vals1 r
  exact call_abs_int fun u tk => ⟨.int (if i < 0 then -i else i), H, I.tok _, ⟨_, rfl⟩, q⟩
end
end L2
namespace L2
open PySem PySem.Spec PyProof.Rows
structure ObjM (h : Heap) (x dx C : Addr) (mA : Str → Option Value) : Prop where
  obj : h.get? x = some (PySem.W.instObj C dx)
  ns : h.Ns1 dx mA
  ne : dx ≠ x
theorem lookIn_ns {h : Heap} {dx : Addr} {mA : Str → Option Value} (n : h.Ns1 dx mA) : ∃ od, h.get? dx = some od ∧ ∀ name, PySem.W.lookIn name od = some (mA name) := by
  obtain ⟨o, es, ep, ho, hd, hk, _, hm⟩ := n
  refine ⟨o, ho, fun name => ?_⟩
  have e := hm name
  unfold nsFind findBy at e
  rw [← Array.find?_toList] at e
  unfold PySem.W.lookIn
  rw [hd]
  dsimp only
  split
  · rename_i y q
    rw [q] at e
    exact congrArg some e
  · rename_i q
    rw [q] at e
    have a : es.toList.any (·.refKey) = false := by
      rw [List.any_eq_false]
      intro y hy
      obtain ⟨z, t, hkey⟩ := hk y (Array.mem_toList_iff.mp hy)
      simp [DictEntry.refKey, hkey]
    have a' : ¬ es.toList.any (·.refKey) = true := by rw [a]; exact Bool.false_ne_true
    rw [if_neg a']
    exact congrArg some e
theorem ObjM.look {h : Heap} {x dx C : Addr} {mA : Str → Option Value} (I : ObjM h x dx C mA) : ∃ od, PySem.W.InstAt h x (PySem.W.instObj C dx) C (some od) ∧ ∀ name, PySem.W.lookIn name od = some (mA name) :=
  let ⟨od, ho, hl⟩ := lookIn_ns I.ns
  ⟨od, ⟨I.obj, rfl, rfl, ho⟩, hl⟩
section
variable {prog : Program} {w : World} {A : Around} {E : Value → Shared → Prop} {s : Shared} {K : PySem.W.Frag} {x dx C f : Addr} {mA : Str → Option Value} {name : Str} {v : Value}
end
def putF (f : Str) (v : V) : List (Str × V) → List (Str × V)
  | [] => [(f, v)]
  | (g, x) :: r => if g = f then (g, v) :: r else (g, x) :: putF f v r
section
variable {P : Program} {w : World} {H H' : Hp} {h h' : Heap} {a C dx : Addr} {fs fs' : List (Str × V)}
theorem ins_get (hok : HOk P w H h) (e : H a = some (.ins C dx fs)) : ∃ mA, ObjM h a dx C mA ∧ (∀ f, RelO (fs.lookup f) (mA f)) ∧ PySem.Within mA (fs.map (·.1)) ∧ fs.length ≤ 1000 ∧ H dx = some (.own a) := by
  obtain ⟨d, z, ne, ob, mA, n, r, q⟩ := (show ObjOk P w H h a (.ins C dx fs) from hok a _ e)
  exact ⟨mA, ⟨ob, n, ne⟩, r, q, z, d⟩
end
structure Cls (K : PySem.W.Frag) (C : Addr) : Prop where
  pg : PySem.W.plainGet K C Str.empty = true
  hd : PySem.W.hasDictIn K C = true
  po : PySem.W.plainOver K C = true
  sa : PySem.W.findIn K (.ref C) "__setattr__" = some (some (.builtin "object.__setattr__"))
theorem Cls.get {K : PySem.W.Frag} {C : Addr} (c : Cls K C) (f : Str) : PySem.W.plainGet K C f = true := c.pg
def NoAttr (K : PySem.W.Frag) (C : Addr) (f : Str) : Prop := PySem.W.findIn K (.ref C) f = some none
structure Meth (K : PySem.W.Frag) (C : Addr) (m : Str) (f : Addr) : Prop where
  at_ : PySem.W.findIn K (.ref C) m = some (some (.ref f))
  fn : PySem.W.isFn K (.ref f) = true
  kp : PySem.W.keepIn K (.ref f) = true
section
variable {X : Cx} {pins : List (Addr × Obj)} {σ : St} {H : Hp} {s : Shared} {a C dx : Addr} {fs : List (Str × V)} {f : Str} {v : V} {A : Around} {E : Value → Shared → Prop}
end
def tFld (K : PySem.W.Frag) (ta : TE) (f : Str) : TE := fun σ H Q => ta σ H fun x H1 => ∃ a C dx fs v, x = .ref a ∧ H1 a = some (.ins C dx fs) ∧ Cls K C ∧ NoAttr K C f ∧ fs.lookup f = some v ∧ Q v H1
def sFld (K : PySem.W.Frag) (ta tv : TE) (f : Str) : TS := fun D σ H => tv σ H fun y H1 => ta σ H1 fun x H2 => ∃ a C dx fs, x = .ref a ∧ H2 a = some (.ins C dx fs) ∧ Cls K C ∧ NoAttr K C f ∧ fs.length < 1000 ∧
  D.nx σ (upd H2 a (.ins C dx (putF f y fs)))
section
variable {X : Cx} {o e value : Expr} {f : Str} {pos pos' tpos : Pos} {ta tv : TE}
end
section
variable {X : Cx} {pins : List (Addr × Obj)} {σ : St} {H : Hp} {s : Shared} {A : Around} {E : Value → Shared → Prop} {Q : Value → Shared → Prop} {c : Value} {b : Bool}
inductive TyOf (K : PySem.W.Frag) (H : Hp) : V → Value → Prop where
  | non : TyOf K H .non (.type "NoneType")
  | bl (x : Bool) : TyOf K H (.bl x) (.type "bool")
  | int (i : Int) : TyOf K H (.int i) (.type "int")
  | str (x : Str) : TyOf K H (.str x) (.type "str")
  | flt (x : UInt64) : TyOf K H (.flt x) (.type "float")
  | lst {a : Addr} {xs : List V} (e : H a = some (.lst xs)) : TyOf K H (.ref a) (.type "list")
  | frz {a : Addr} {o : Obj} {xs : List V} (e : H a = some (.frz o (.lst xs))) : TyOf K H (.ref a) (.type "list")
  | tup {a : Addr} {xs : List V} (e : H a = some (.tup xs)) : TyOf K H (.ref a) (.type "tuple")
  | dK {a : Addr} {kvs : List (Key × V)} (e : H a = some (.dK kvs)) : TyOf K H (.ref a) (.type "dict")
  | dT {a : Addr} {kvs : List (List Key × V)} (e : H a = some (.dT kvs)) : TyOf K H (.ref a) (.type "dict")
  | ins {a C dx : Addr} {fs : List (Str × V)} (e : H a = some (.ins C dx fs)) (cl : Cls K C) (ha : PySem.W.findIn K (.ref C) "__class__" = some (some (.builtin "object.__class__")))
      (hn : PySem.W.specialIn K (.builtin "object.__class__") "__get__" = some (some (.builtin "getset_descriptor.__get__"))) (htk : PySem.W.takesIn K (.builtin "object.__class__") = some true)
      (hm : PySem.W.mroIn K C (.type "object") = some true) : TyOf K H (.ref a) (.ref C)
theorem isinst_ok {x : V} {u t : Value} (I : Inv X pins σ H s) (rx : RelV x u) (ty : TyOf X.K H x t) (e : PySem.W.kitOne X.K t c = some b) (h : ∀ tk, Q (.bool b) { s with toks := tk }) :
    wpAny (model X.prog X.w) A (call (.builtin "isinstance") [u, c]) Q E s := by
  cases ty with
  | non => cases (show u = Value.none from rx); exact PySem.W.kia_one PySem.W.kitx_none I.kIn True.intro e (fun z => nomatch z) h
  | bl y => cases (show u = Value.bool y from rx); exact PySem.W.kia_one PySem.W.kitx_bool I.kIn True.intro e (fun z => nomatch z) h
  | int i => obtain ⟨t, q⟩ := (show ∃ t, u = Value.int i t from rx); cases q; exact PySem.W.kia_one PySem.W.kitx_int I.kIn True.intro e (fun z => nomatch z) h
  | str y => obtain ⟨t, q⟩ := (show ∃ t, u = Value.str y t from rx); cases q; exact PySem.W.kia_one PySem.W.kitx_str I.kIn True.intro e (fun z => nomatch z) h
  | flt y => obtain ⟨t, q⟩ := (show ∃ t, u = Value.float y t from rx); cases q; exact PySem.W.kia_one PySem.W.kitx_float I.kIn True.intro e (fun z => nomatch z) h
  | @lst a xs ea =>
    cases (show u = Value.ref a from rx)
    obtain ⟨_, _, n, _, h1⟩ := (show ObjOk X.prog X.w H s.heap a (.lst xs) from I.hok a _ ea)
    exact PySem.W.kia_one PySem.W.kitx_list I.kIn ⟨_, h1, rfl⟩ e (fun z => nomatch z) h
  | @frz a ob xs ea =>
    cases (show u = Value.ref a from rx)
    obtain ⟨_, _, _, n, _, h1⟩ := (show ObjOk X.prog X.w H s.heap a (.frz ob (.lst xs)) from I.hok a _ ea)
    exact PySem.W.kia_one PySem.W.kitx_list I.kIn ⟨_, h1, rfl⟩ e (fun z => nomatch z) h
  | @tup a xs ea =>
    cases (show u = Value.ref a from rx)
    obtain ⟨_, _, _, p⟩ := (show ObjOk X.prog X.w H s.heap a (.tup xs) from I.hok a _ ea)
    obtain ⟨o, h1, h2, _⟩ := p
    exact PySem.W.kia_one PySem.W.kitx_tuple I.kIn ⟨o, h1, h2⟩ e (fun z => nomatch z) h
  | @dK a kvs ea =>
    cases (show u = Value.ref a from rx)
    obtain ⟨_, _, vs, _, p⟩ := (show ObjOk X.prog X.w H s.heap a (.dK kvs) from I.hok a _ ea)
    obtain ⟨o, es, ep, h1, h2, _⟩ := p
    exact PySem.W.kia_one PySem.W.kitx_dict I.kIn ⟨o, h1, h2.1⟩ e (fun z => nomatch z) h
  | @dT a kvs ea =>
    cases (show u = Value.ref a from rx)
    obtain ⟨_, _, xs, _, o, es, ep, h1, h2, _⟩ := (show ObjOk X.prog X.w H s.heap a (.dT kvs) from I.hok a _ ea)
    exact PySem.W.kia_one PySem.W.kitx_dict I.kIn ⟨o, h1, h2.1⟩ e (fun z => nomatch z) h
  | @ins a C dx fs ea cl ha hn htk hm =>
    cases (show u = Value.ref a from rx)
    obtain ⟨mA, O, _⟩ := ins_get I.hok ea
    obtain ⟨od, J, _⟩ := O.look
    exact PySem.W.kia_one (PySem.W.kitx_own (cl.get _) cl.hd ha hn htk hm) I.kIn J e (fun z => nomatch z) h
end
end L2
namespace L2
open PySem PySem.Spec PyProof.Rows
structure Room (k : Nat) (A : Around) : Prop where
  hd : A.handled = none
  dp : A.depth + 3 * k + 5 < recursionLimit
  un : A.units + 16 * k + 200 < cLine
theorem Room.mono {j k : Nat} {A : Around} (r : Room k A) (h : j ≤ k) : Room j A := ⟨r.hd, by have := r.dp; omega, by have := r.un; omega⟩
theorem Room.deeper {k : Nat} {A : Around} (r : Room (k + 1) A) (env : Env) : Room k (A.deeper env) :=
  ⟨r.hd, by have := r.dp; show A.depth + 1 + 3 * k + 5 < _; omega, by have := r.un; show A.units + 3 + 16 * k + 200 < _; omega⟩
theorem Room.in1 {k : Nat} {A : Around} (r : Room (k + 1) A) : Room k A.in1 :=
  ⟨r.hd, by have := r.dp; show A.depth + 3 * k + 5 < _; omega, by have := r.un; show A.units + 1 + 16 * k + 200 < _; omega⟩
theorem Room.depth {k : Nat} {A : Around} (r : Room k A) : A.depth < recursionLimit := by have := r.dp; omega
theorem Room.units {k : Nat} {A : Around} (r : Room k A) : A.units + 64 < cLine := by have := r.un; omega
def tNil : TA := fun _ H Q => Q [] H
def tCons (ta : TE) (tr : TA) : TA := fun σ H Q => ta σ H fun x H1 => tr σ H1 fun xs H2 => Q (x :: xs) H2
section
variable {X : Cx} {e : Expr} {es : List Expr} {te : TE} {t : TA} {pos : Pos}
theorem pa_nil : PA X [] tNil := fun _ _ _ _ H Q I h => Calls.spliced_nil ⟨[], H, I, .nil, h⟩
theorem pa_cons (ha : PE X e te) (hr : PA X es t) (hs : starEach (e :: es) X.env = (false, eval e X.env) :: starEach es X.env := by rfl) : PA X (e :: es) (tCons te t) := by
  intro pos pins s σ H Q I h
  rw [hs]
  show wpAny _ _ (spliced ((false, eval e X.env) :: backTo pos (starEach es X.env))) _ _ s
  refine Calls.spliced_cons (thn (ha pins s σ H _ I h) fun u s1 ⟨x, H1, I1, r1, q1⟩ => ?_)
  exact thn (hr pos pins s1 σ H1 _ I1 q1) fun us s2 ⟨xs, H2, I2, r2, q2⟩ => ⟨x :: xs, H2, I2, .cons r1 r2, q2⟩
def tTup (t : TA) : TE := fun σ H Q => t σ H fun xs H1 => xs.length ≤ sizeLine ∧ ∀ p, H1 p = none → Q (.ref p) (upd H1 p (.tup xs))
def tLst (t : TA) : TE := fun σ H Q => t σ H fun xs H1 => xs.length ≤ sizeLine ∧ ∀ p, H1 p = none → Q (.ref p) (upd H1 p (.lst xs))
theorem pe_tup {x1} (h : PA X es t) : PE X (.Tuple es x1 pos) (tTup t) := by
  intro pins s σ H Q I hq
  refine wpAny_Tuple_spliced (thn (h pos pins s σ H _ I hq) fun us s1 ⟨xs, H1, I1, r, z, q⟩ => ⟨by rw [← r.length]; exact z, ?_⟩)
  have hf : H1 s1.heap.objs.size = none := I1.hok.fresh (Nat.le_refl _)
  refine ⟨.ref s1.heap.objs.size, upd H1 s1.heap.objs.size (.tup xs), I1.laid (t' := s1.toks) (fun b u e => Heap.get?_push_of_some _ e) (Nat.le_refl _) ?_, rfl, q _ hf⟩
  exact ⟨z, us, r, ⟨_, Heap.get?_push_size _ rfl, rfl, _, rfl⟩⟩
theorem pe_lst (h : PA X es t) : PE X (.List es pos) (tLst t) := by
  intro pins s σ H Q I hq
  refine wpAny_List_spliced (thn (h pos pins s σ H _ I hq) fun us s1 ⟨xs, H1, I1, r, z, q⟩ => ⟨by rw [← r.length]; exact z, ?_⟩)
  have hf : H1 s1.heap.objs.size = none := I1.hok.fresh (Nat.le_refl _)
  refine ⟨.ref s1.heap.objs.size, upd H1 s1.heap.objs.size (.lst xs), I1.laid (t' := s1.toks) (fun b u e => Heap.get?_push_of_some _ e) (Nat.le_refl _) ?_, rfl, q _ hf⟩
  exact ⟨z, us, 0, r, Heap.get?_push_size _ rfl⟩
end
abbrev Sp := List V → Hp → VK → XK → Prop
abbrev CXT := List Env → Hp → Shared → XK → Value → Shared → Prop
structure Env0 (P : Program) (w : World) (K : PySem.W.Frag) (mg : Str → Option Value) (base : Heap) (A : Around) (outer : List Env) (s : Shared) (H : Hp) : Prop where
  frames : A.frames = some outer
  mod : Mod K mg base
  bs : ∀ b o, base.get? b = some o → s.heap.get? b = some o ∧ H b = none
  bsz : base.objs.size ≤ s.heap.objs.size
  funs : s.heap.FunFrames base outer
  frf : ∀ b ∈ frs outer, H b = none
  hok : HOk P w H s.heap
  bare : AllBare s.gens
def CE (outer : List Env) (P : Program) (w : World) (H : Hp) (s : Shared) (Q : VK) (u : Value) (s' : Shared) : Prop :=
  ∃ v H', s'.os = s.os ∧ AllBare s'.gens ∧ Un (frs outer) [] H H' s.heap s'.heap ∧ HOk P w H' s'.heap ∧ RelV v u ∧ Q v H'
def CR (CX : CXT) (outer : List Env) (P : Program) (w : World) (H : Hp) (s : Shared) (Q : VK) (E : XK) (r : Result) (s' : Shared) : Prop :=
  match r with
  | .ok (.ret u) => CE outer P w H s Q u s'
  | .ok _ => False
  | .error e => CX outer H s E e s'
structure FnOk (P : Program) (w : World) (K : PySem.W.Frag) (mg : Str → Option Value) (base : Heap) (CX : CXT) (k : Nat) (f : Addr) (fd : FuncData) (ps : List Str) (sp : Sp) : Prop where
  len : ∀ vs H Q E, sp vs H Q E → vs.length = ps.length
  run : ∀ (A : Around) (outer : List Env) (s : Shared) (H : Hp) (args : Args) (us : List Value) (vs : List V) (Q : VK) (E : XK), Room k A → Env0 P w K mg base A outer s H → BindsTo s fd args (ps.zip us) → Vals vs us → sp vs H Q E →
    codeAny (model P w) A (.call (.ref f) args) (CR CX outer P w H s Q E) s
theorem FnOk.mono {P : Program} {w : World} {K : PySem.W.Frag} {mg : Str → Option Value} {base : Heap} {CX : CXT} {j k : Nat} {f : Addr} {fd : FuncData} {ps : List Str} {sp : Sp} (F : FnOk P w K mg base CX j f fd ps sp) (h : j ≤ k) :
    FnOk P w K mg base CX k f fd ps sp := ⟨F.len, fun A outer s H args us vs Q E hr => F.run A outer s H args us vs Q E (hr.mono h)⟩
theorem FnOk.imp {P : Program} {w : World} {K : PySem.W.Frag} {mg : Str → Option Value} {base : Heap} {CX : CXT} {k : Nat} {f : Addr} {fd : FuncData} {ps : List Str} {sp sp' : Sp} (F : FnOk P w K mg base CX k f fd ps sp)
    (h : ∀ vs H Q E, sp' vs H Q E → sp vs H Q E) : FnOk P w K mg base CX k f fd ps sp' :=
  ⟨fun vs H Q E q => F.len vs H Q E (h _ _ _ _ q), fun A outer s H args us vs Q E hr he hb hv hs => F.run A outer s H args us vs Q E hr he hb hv (h _ _ _ _ hs)⟩
theorem Env0.in1 {P : Program} {w : World} {K : PySem.W.Frag} {mg : Str → Option Value} {base : Heap} {A : Around} {outer : List Env} {s : Shared} {H : Hp} (e : Env0 P w K mg base A outer s H) :
    Env0 P w K mg base A.in1 outer s H := ⟨e.frames, e.mod, e.bs, e.bsz, e.funs, e.frf, e.hok, e.bare⟩
section
variable {X : Cx} {pins : List (Addr × Obj)} {σ : St} {H : Hp} {s s' : Shared}
theorem Inv.env0 (I : Inv X pins σ H s) : Env0 X.prog X.w X.K X.mg X.base X.A X.stack s H :=
  ⟨I.ok.frames, I.ok.mod, I.bs, Nat.le_trans I.ok.bsz I.sz, I.stack, I.stkFree, I.hok, I.bare⟩
theorem Inv.after {Q : VK} {u : Value} (I : Inv X pins σ H s) (h : CE X.stack X.prog X.w H s Q u s') : EP X pins σ Q u s' := by
  obtain ⟨v, H', os, bare, un, hok, r, q⟩ := h
  obtain ⟨hh, g, d, t, os'⟩ := s'
  obtain rfl : os' = s.os := os
  exact ⟨v, H', I.call (h' := hh) (g' := g) (d' := d) (t' := t) (ch := []) un hok bare (fun b z => absurd z (by simp)), r, q⟩
end
def tCall (sp : Sp) (dvs : List V) (E : XK) (t : TA) : TE := fun σ H Q => t σ H fun vs H1 => sp (vs ++ dvs) H1 Q E
def Binds (K : PySem.W.Frag) (fd : FuncData) (ps : List Str) (ds : List Value) : Prop :=
  ∀ (s : Shared) (us : List Value), K.In s.heap → (us ++ ds).length = ps.length → BindsTo s fd ⟨us, []⟩ (ps.zip (us ++ ds))
theorem Binds.all {K : PySem.W.Frag} {fd : FuncData} {ps : List Str} (h : ∀ us : List Value, us.length = ps.length → bindArgs fd ⟨us, []⟩ = pure (ps.zip us)) : Binds K fd ps [] := fun s us _ hl => by
  rw [List.append_nil] at hl ⊢
  exact .of_eq (h us hl)
section
variable {X : Cx} {CX : CXT} {k : Nat} {f C : Addr} {fd : FuncData} {ps : List Str} {sp : Sp} {dvs : List V} {ds : List Value} {E : XK} {x m : Str} {p pos apos : Pos} {e o : Expr} {es : List Expr} {ta : TE} {t : TA}
structure Mk (K : PySem.W.Frag) (C f : Addr) : Prop where
  makes : PySem.W.makesIn K C = true
  init : PySem.W.findIn K (.ref C) "__init__" = some (some (.ref f))
  fn : PySem.W.isFn K (.ref f) = true
  kp : PySem.W.keepIn K (.ref C) = true
end
section
variable {X : Cx} {CX : CXT} {k : Nat} {f C : Addr} {fd : FuncData} {ps ks : List Str} {sp : Sp} {E : XK} {x m : Str} {p pos apos kpos : Pos} {e o : Expr} {es : List Expr} {kws : List Keyword} {te ta : TE} {t tk : TA} {nm : Option Str}
variable {g : List Value → List Value → List Value} {gV : List V → List V → List V}
end
structure FnScope (N P : List Str) (sc : Scope) : Prop where
  kind : sc.kind = .function
  co : sc.isCoroutine = false
  gen : sc.isGenerator = false
  nd : N.Nodup
  pre : N.take P.length = P
  par : ∀ x ∈ P, sc.names.lookup x = some .local ∨ sc.names.lookup x = some .cell
  nofree : ∀ y ∈ sc.names, y.2 ≠ .free
theorem bindL_out {kindOf : Str → Option NameKind} {x : Str} : ∀ {binds : List (Str × Value)} {m : Str → Option Value}, (∀ v, (x, v) ∉ binds) → bindL kindOf binds m x = m x
  | [], _, _ => rfl
  | (n, v) :: r, m, h => by
    unfold bindL
    rw [bindL_out fun w hw => h w (List.mem_cons_of_mem _ hw)]
    split
    · have : x ≠ n := by rintro rfl; exact h v List.mem_cons_self
      simp [this]
    · rfl
theorem bindC_out {kindOf : Str → Option NameKind} {x : Str} : ∀ {binds : List (Str × Value)} {m : Str → Option Value}, (∀ v, (x, v) ∉ binds) → bindC kindOf binds m x = m x
  | [], _, _ => rfl
  | (n, v) :: r, m, h => by
    unfold bindC
    rw [bindC_out fun w hw => h w (List.mem_cons_of_mem _ hw)]
    split
    · rfl
    · have : x ≠ n := by rintro rfl; exact h v List.mem_cons_self
      simp [this]
theorem bindL_get {kindOf : Str → Option NameKind} {x : Str} {v : Value} : ∀ {P : List Str} {vs : List Value} {i : Nat} {m : Str → Option Value}, P.Nodup → P[i]? = some x → vs[i]? = some v → kindOf x = some .local →
    bindL kindOf (P.zip vs) m x = some v
  | [], _, _, _, _, h, _, _ => by simp at h
  | _ :: _, [], _, _, _, _, h, _ => by simp at h
  | p :: P, w :: vs, 0, m, nd, h1, h2, hk => by
    simp at h1 h2; subst h1; subst h2
    show bindL kindOf ((p, w) :: P.zip vs) m p = _
    unfold bindL
    rw [bindL_out fun v hv => (List.nodup_cons.mp nd).1 (List.of_mem_zip hv).1, if_pos hk]
    simp
  | p :: P, w :: vs, i + 1, m, nd, h1, h2, hk => by
    show bindL kindOf ((p, w) :: P.zip vs) m x = _
    unfold bindL
    exact bindL_get (i := i) (List.nodup_cons.mp nd).2 (by simpa using h1) (by simpa using h2) hk
theorem bindC_get {kindOf : Str → Option NameKind} {x : Str} {v : Value} : ∀ {P : List Str} {vs : List Value} {i : Nat} {m : Str → Option Value}, P.Nodup → P[i]? = some x → vs[i]? = some v → kindOf x ≠ some .local →
    bindC kindOf (P.zip vs) m x = some v
  | [], _, _, _, _, h, _, _ => by simp at h
  | _ :: _, [], _, _, _, _, h, _ => by simp at h
  | p :: P, w :: vs, 0, m, nd, h1, h2, hk => by
    simp at h1 h2; subst h1; subst h2
    show bindC kindOf ((p, w) :: P.zip vs) m p = _
    unfold bindC
    rw [bindC_out fun v hv => (List.nodup_cons.mp nd).1 (List.of_mem_zip hv).1, if_neg hk]
    simp
  | p :: P, w :: vs, i + 1, m, nd, h1, h2, hk => by
    show bindC kindOf ((p, w) :: P.zip vs) m x = _
    unfold bindC
    exact bindC_get (i := i) (List.nodup_cons.mp nd).2 (by simpa using h1) (by simpa using h2) hk
def start (N : List Str) (vs : List V) : St := vs.map some ++ List.replicate (N.length - vs.length) none
def cxOf (CX : CXT) (P : Program) (w : World) (K : PySem.W.Frag) (mg : Str → Option Value) (base : Heap) (N : List Str) (qual : Str) (scope : Scope) (f : Addr) (cd : Value) (A : Around) (outer : List Env) (s : Shared) (H : Hp) (E : XK) : Cx where
  prog := P
  w := w
  K := K
  mg := mg
  base := base
  A := A.deeper (envOfC qual scope s.heap.objs.size f cd)
  N := N
  s₀ := s
  H₀ := H
  env := envOfC qual scope s.heap.objs.size f cd
  outer := outer
  stack := envOfC qual scope s.heap.objs.size f cd :: outer
  ex := []
  calm := true
  fn := fun _ => true
  pn := []
  xe := fun e s' => wpAny (model P w) (A.deeper (envOfC qual scope s.heap.objs.size f cd)) (leaving (envOfC qual scope s.heap.objs.size f cd) e) (fun _ s'' => CX outer H s E e s'') (fun e' s'' => CX outer H s E e' s'') s'
theorem cell_has {sc : Scope} {n : Nat} {x : Str} (h : sc.names.lookup x = some .cell) : ∃ c, (cellsFrom n sc.names []).lookup x = some c := by
  have q := PySem.W.cellsFrom_some sc.names n [] (.inl h)
  exact Option.isSome_iff_exists.mp q
theorem inv_start {CX : CXT} {P : Program} {w : World} {K : PySem.W.Frag} {mg : Str → Option Value} {base : Heap} {N ps : List Str} {qual : Str} {scope : Scope} {f : Addr} {cd : Value} {A : Around} {outer : List Env} {s s1 : Shared} {H : Hp} {E : XK} {us : List Value} {vs : List V}
    (S : FnScope N ps scope) (hd : A.handled = none) (e0 : Env0 P w K mg base A outer s H) (hl : vs.length = ps.length) (r : Vals vs us)
    (x : InCallC s s.heap.objs.size (bindL (envOfC qual scope s.heap.objs.size f cd).kindOf (ps.zip us) fun _ => none) (cellsFrom (s.heap.objs.size + 1) scope.names []) (bindC (envOfC qual scope s.heap.objs.size f cd).kindOf (ps.zip us) fun _ => none) s1) :
    Inv (cxOf CX P w K mg base N qual scope f cd A outer s H E) [] (start N vs) H s1 := by
  have hpl : ps.length ≤ N.length := by have := congrArg List.length S.pre; rw [List.length_take] at this; omega
  obtain ⟨h1, tk, rfl, hk⟩ := x.done
  have noA : ∀ b : Addr, b ∉ (cxOf CX P w K mg base N qual scope f cd A outer s H E).ex := fun b z => absurd (show b ∈ ([] : List Addr) from z) (by simp)
  refine ⟨⟨e0.mod, S.kind, rfl, rfl, Nat.le_refl _, fun y z c h1 h2 => ?_, fun y hy => ?_, fun y c _ h => ?_, fun _ => hd, Around.frames_deeper e0.frames, .inr ⟨rfl, rfl⟩, fun b z => absurd z (noA b), e0.bs, e0.bsz, fun b _ _ => noA b, fun b z => absurd z (noA b), e0.funs, e0.frf⟩,
    rfl, e0.bare, Un.kept hk, ⟨_, x.toInCall.ns, fun i y v h1 h2 h3 => ?_⟩, fun y c h => ⟨_, x.cell y c h⟩, e0.hok.fresh (Nat.le_refl _), fun y c h => ?_, fun p hp => absurd (show p ∈ ([] : List (Addr × Obj)) from hp) (by simp), e0.hok.kept hk, ?_⟩
  · exact name_of_addr x.apart (PySem.mem_of_lookup h1) (PySem.mem_of_lookup h2)
  · have hy : scope.names.lookup y = some .cell ∨ scope.names.lookup y = some .free := hy
    rcases hy with hy | hy
    · exact cell_has hy
    · exact absurd rfl (S.nofree _ (PySem.mem_of_lookup hy))
  · exact Nat.le_of_lt (x.above y c (PySem.mem_of_lookup h))
  · have hi : i < vs.length := by
      unfold start at h2
      by_cases hi : i < vs.length
      · exact hi
      · rw [List.getElem?_append_right (by simpa using hi)] at h2
        rw [List.getElem?_replicate] at h2
        split at h2 <;> cases h2
    have ha : vs[i]? = some v := by
      unfold start at h2
      rw [List.getElem?_append_left (by simpa using hi), List.getElem?_map] at h2
      cases e : vs[i]? with
      | none => rw [e] at h2; cases h2
      | some a => rw [e] at h2; cases h2; rfl
    obtain ⟨u, hu, rv⟩ := r.get ha
    have hp : ps[i]? = some y := by
      rw [← S.pre, List.getElem?_take_of_lt (by omega)]; exact h1
    have ndP : ps.Nodup := by rw [← S.pre]; exact S.nd.sublist (List.take_sublist _ _)
    refine ⟨u, rv, ?_⟩
    rcases S.par y (List.mem_of_getElem? hp) with k | k
    · exact .inl ⟨k, bindL_get ndP hp hu k⟩
    · obtain ⟨c, e⟩ := cell_has (n := s.heap.objs.size + 1) k
      refine .inr ⟨.inl k, c, e, ?_⟩
      have q := x.cell y c e
      rw [bindC_get ndP hp hu (by show scope.names.lookup y ≠ _; rw [k]; decide)] at q
      exact q
  · exact e0.hok.fresh (Nat.le_of_lt (x.above y c (PySem.mem_of_lookup h)))
  · unfold start
    show _ = N.length
    rw [List.length_append, List.length_map, List.length_replicate]
    omega
theorem fn_of {CX : CXT} {P : Program} {w : World} {K : PySem.W.Frag} {mg : Str → Option Value} {base : Heap} {k : Nat} {f : Addr} {name qual : Str} {params : Arguments} {body : List Stmt} {scope : Scope} {dV kV doc pm cdv ct oc : Value} {an od : Option Addr}
    {osl : Array (Option Value)} {N ps : List Str} {sp : Sp} (lk : K.lookup f = some ⟨oc, od, .func (PySem.W.fnOf name qual params body scope dV kV doc pm an cdv ct), osl⟩) (hcd : PySem.W.codeIn K cdv qual = true) (S : FnScope N ps scope)
    (len : ∀ vs H Q E, sp vs H Q E → vs.length = ps.length)
    (hbody : ∀ (A : Around) (outer : List Env) (s : Shared) (H : Hp) (vs : List V) (Q : VK) (E : XK), Room k (A.deeper (envOfC qual scope s.heap.objs.size f cdv)) → sp vs H Q E →
      ∃ t, PSs (cxOf CX P w K mg base N qual scope f cdv A outer s H E) body t ∧ t { nx := fun _ H' => Q .non H', rt := Q } (start N vs) H) :
    FnOk P w K mg base CX (k + 1) f (PySem.W.fnOf name qual params body scope dV kV doc pm an cdv ct) ps sp := by
  refine ⟨len, fun A outer s H args us vs Q E hr e0 hb r hsp => ?_⟩
  have hl := len _ _ _ _ hsp
  have KX : K.In s.heap := e0.mod.kin.keeps fun b o e => (e0.bs b o e).1
  have lim : s.heap.NoLimit := e0.mod.nolimit.keeps fun b o e => (e0.bs b o e).1
  have hkind : ∀ y ∈ ps.zip us, scope.names.lookup y.1 = some .local ∨ (scope.names.lookup y.1 = some .cell ∧ ((cellsFrom (s.heap.objs.size + 1) scope.names []).lookup y.1).isSome = true) := fun ⟨n, v⟩ hy => by
    rcases S.par n (List.of_mem_zip hy).1 with q | q
    · exact .inl q
    · exact .inr ⟨q, PySem.W.cellsFrom_some _ _ _ (.inl q)⟩
  refine codeAny_call_function hr.depth (KX _ _ lk) rfl S.co S.gen rfl (PySem.W.codeRec_of KX hcd) (hb _ _ _ _ ?_)
  refine wpAny_newFunctionEnv_cells S.kind hkind fun env he s1 x => ?_
  subst he
  refine ⟨lim.keeps x.toInCall.keep, codeAny_func ?_⟩
  obtain ⟨t, ht, hq⟩ := hbody A outer s H vs Q E (hr.deeper _) hsp
  have I : Inv (cxOf CX P w K mg base N qual scope f cdv A outer s H E) [] (start N vs) H s1 := inv_start S hr.hd e0 hl r x
  refine wpAny_mono (ht [] s1 (start N vs) H _ I hq) (fun fl s' hs => ?_) fun e s' hs => hs
  have fin : ∀ {σ' : St} {H' : Hp} {v : V} {u : Value}, Inv (cxOf CX P w K mg base N qual scope f cdv A outer s H E) [] σ' H' s' → RelV v u → Q v H' → CE outer P w H s Q u s' :=
    fun {σ' H' v u} J rv q => ⟨v, H', J.os, J.bare, J.base, J.hok, rv, q⟩
  cases fl with
  | ret u =>
    obtain ⟨v, σ', H', J, rv, q⟩ := hs
    exact fin J rv q
  | next =>
    obtain ⟨σ', H', J, q⟩ := hs
    exact fin (v := V.non) (u := Value.none) J rfl q
  | brk =>
    obtain ⟨_, _, _, q⟩ := hs
    exact False.elim q
  | cont =>
    obtain ⟨_, _, _, q⟩ := hs
    exact False.elim q
end L2
namespace L2
open PySem PySem.Spec PyProof.Rows
section
variable {X : Cx} {x : Str} {p pos : Pos} {e : Expr} {es : List Expr} {t : TA} {id T : String} {r : List V → Hp → VK → Prop}
def tCB (r : List V → Hp → VK → Prop) (t : TA) : TE := fun σ H Q => t σ H fun vs H1 => r vs H1 Q
theorem pe_callB (hc : CallR X (.builtin id) r) (hg : Gl X x) (hm : X.mg x = none) (hv : bootBuiltins x = some (.builtin id)) (ha : PA X (e :: es) t) (hn : x ≠ "__name__" := by decide) (hdb : (x == ("__debug__" : Str)) = false := by decide)
    (he : starEach (e :: es) X.env = (false, eval e X.env) :: starEach es X.env := by rfl) (hpl : (backTo pos (starEach es X.env)).any (·.1) = false := by rfl) : PE X (.Call (.Name x p) (e :: es) [] pos) (tCB r t) := by
  intro pins s σ H Q I h
  refine wpAny_Call_Name_kw (ld_blt I hg hm hv ?_ hn hdb)
  exact PyProof.Rows.callWith_builtin1 (thn (ha pos pins s σ H _ I h) fun us s1 ⟨vs, H1, I1, r1, q1⟩ => hc pins s1 σ H1 vs us Q I1 r1 q1) he hpl
theorem pe_callTy (hc : CallR X (.type T) r) (hg : Gl X x) (hm : X.mg x = none) (hv : bootBuiltins x = some (.type T)) (ha : PA X (e :: es) t) (hn : x ≠ "__name__" := by decide) (hdb : (x == ("__debug__" : Str)) = false := by decide)
    (he : starEach (e :: es) X.env = (false, eval e X.env) :: starEach es X.env := by rfl) (hpl : (backTo pos (starEach es X.env)).any (·.1) = false := by rfl) : PE X (.Call (.Name x p) (e :: es) [] pos) (tCB r t) := by
  intro pins s σ H Q I h
  refine wpAny_Call_Name_kw (ld_blt I hg hm hv ?_ hn hdb)
  exact PyProof.Rows.callWith_type1 (thn (ha pos pins s σ H _ I h) fun us s1 ⟨vs, H1, I1, r1, q1⟩ => hc pins s1 σ H1 vs us Q I1 r1 q1) he hpl
end
end L2
namespace HT
open PySem PyProof.Rows
section
open PySem.SeqAt
open PySem.AutoSeq1 (wpAny_loadPart')
open PySem.MeetsSeq PySem.MeetsSeq2 PySem.MeetsSeq3
end
section
variable {prog : Program} {w : World} {A : Around} {E : Value → Shared → Prop} {s : Shared}
end
end HT
namespace L2
open PySem PySem.Spec PyProof.Rows
abbrev TO := St → Hp → (Option Int → Hp → Prop) → Prop
def PO (X : Cx) (e : Option Expr) (t : TO) : Prop :=
  ∀ (pins : List (Addr × Obj)) (s : Shared) (σ : St) (H : Hp) (Q : Option Int → Hp → Prop), Inv X pins σ H s → t σ H Q →
    wpAny (model X.prog X.w) X.A (evalPart e X.env) (fun u s' => ∃ o H', Inv X pins σ H' s' ∧ IsPart u o ∧ Q o H') X.xe s
def tNoPart : TO := fun _ H Q => Q none H
def tPart (t : TE) : TO := fun σ H Q => t σ H fun x H1 => ∃ i, x = .int i ∧ Q (some i) H1
section
variable {X : Cx} {e : Expr} {te : TE} {lo hi : Option Expr} {tl th : TO} {pos p2 : Pos}
theorem po_none : PO X none tNoPart := by
  intro pins s σ H Q I h
  rw [evalPart_none]
  exact wpAny_pure ⟨none, H, I, .none, h⟩
theorem po_some (h : PE X e te) : PO X (some e) (tPart te) := by
  intro pins s σ H Q I hw
  rw [evalPart_some]
  refine thn (h pins s σ H _ I hw) fun u s1 ⟨x, H1, I1, r1, q1⟩ => ?_
  obtain ⟨i, rfl, q⟩ := q1
  obtain ⟨t, rfl⟩ := r1
  exact ⟨some i, H1, I1, .int i t, q⟩
def SlR (X : Cx) (r : V → Option Int → Option Int → Hp → VK → Prop) : Prop :=
  ∀ (pins : List (Addr × Obj)) (s : Shared) (σ : St) (H : Hp) (x : V) (v vl vu : Value) (lo hi : Option Int) (sl : Addr) (Q : VK), Inv X pins σ H s → RelV x v → s.heap.IsSliceOf sl vl vu .none → IsPart vl lo → IsPart vu hi → r x lo hi H Q →
    ∃ T id, typeLookup (.type T) "__getitem__" = pure (some (.builtin id)) ∧ s.TypeIs v T ∧ wpAny (model X.prog X.w) X.A (getItem v (.ref sl)) (EP X pins σ Q) X.xe s
def tSl (r : V → Option Int → Option Int → Hp → VK → Prop) (te : TE) (tl th : TO) : TE := fun σ H Q => te σ H fun x H1 => tl σ H1 fun l H2 => th σ H2 fun u H3 => r x l u H3 Q
theorem pe_slice {r : V → Option Int → Option Int → Hp → VK → Prop} (hr : SlR X r) (he : PE X e te) (hl : PO X lo tl) (hu : PO X hi th) : PE X (.Subscript e (.Slice lo hi none p2) pos) (tSl r te tl th) := by
  intro pins s σ H Q I h
  refine Subscript_ (thn (he pins s σ H _ I h) fun v s1 ⟨x, H1, I1, r1, q1⟩ => ?_)
  refine wpAny_Slice (thn (hl pins s1 σ H1 _ I1 q1) fun vl s2 ⟨l, H2, I2, pl, q2⟩ => thn (hu pins s2 σ H2 _ I2 q2) fun vu s3 ⟨u, H3, I3, pu, q3⟩ => ?_)
  rw [evalPart_none]
  refine wpAny_pure ?_
  have I4 : Inv X pins σ H3 { s3 with heap := s3.heap.push { cls := .type "slice", data := .fields #[vl, vu, .none] } } := I3.kept (t' := s3.toks) fun b ob q => Heap.get?_push_of_some _ q
  obtain ⟨T, id, hT, ht, hg⟩ := hr pins { s3 with heap := s3.heap.push { cls := .type "slice", data := .fields #[vl, vu, .none] } } σ H3 x v vl vu l u s3.heap.objs.size Q I4 r1 (Heap.IsSliceOf.new ..) pl pu q3
  show wpAny (model X.prog X.w) X.A (subscriptTail e (.Slice lo hi none p2) v (.ref s3.heap.objs.size)) (EP X pins σ Q) X.xe { s3 with heap := s3.heap.push { cls := .type "slice", data := .fields #[vl, vu, .none] } }
  exact tail_any (ops := [.ref s3.heap.objs.size, v]) ht hT hg (by with_unfolding_all rfl)
end
end L2
namespace L2
open PySem PySem.Spec PyProof.Rows
def ixN (n : Nat) (i : Int) : Option Nat := if 0 ≤ i then (if i < n then some i.toNat else none) else if -(n : Int) ≤ i then some (i + n).toNat else none
def atI {α : Type} (xs : List α) (i : Int) : Option α := (ixN xs.length i).bind fun j => xs[j]?
theorem ixN_seq {n : Nat} {i : Int} {j : Nat} (h : ixN n i = some j) : seqIndex? i n = some j ∧ j < n ∧ -(n : Int) ≤ i ∧ i < n := by
  unfold ixN at h
  by_cases h0 : 0 ≤ i
  · rw [if_pos h0] at h
    by_cases h1 : i < n
    · rw [if_pos h1] at h
      have e : i.toNat = j := Option.some.inj h
      exact ⟨by rw [seqIndex_of h0 h1, e], by omega, by omega, h1⟩
    · rw [if_neg h1] at h; cases h
  · rw [if_neg h0] at h
    by_cases h1 : -(n : Int) ≤ i
    · rw [if_pos h1] at h
      have e : (i + n).toNat = j := Option.some.inj h
      exact ⟨by rw [seqIndex_neg (by omega) h1, e], by omega, h1, by omega⟩
    · rw [if_neg h1] at h; cases h
theorem atI_get {α : Type} {xs : List α} {i : Int} {v : α} (h : atI xs i = some v) : ∃ j, seqIndex? i xs.length = some j ∧ xs[j]? = some v ∧ j < xs.length ∧ -(xs.length : Int) ≤ i ∧ i < xs.length := by
  unfold atI at h
  cases e : ixN xs.length i with
  | none => rw [e] at h; cases h
  | some j =>
    rw [e] at h
    obtain ⟨h1, h2, h3, h4⟩ := ixN_seq e
    exact ⟨j, h1, h, h2, h3, h4⟩
theorem atI_nat {α : Type} {xs : List α} {j : Nat} {v : α} (h : xs[j]? = some v) : atI xs (j : Int) = some v := by
  have hj : j < xs.length := (List.getElem?_eq_some_iff.mp h).1
  have e : ixN xs.length (j : Int) = some j := by
    unfold ixN
    rw [if_pos (by omega), if_pos (by omega)]; simp
  unfold atI; rw [e]; exact h
def PlainIx (b : Expr) : Prop := ∀ o i, subscripted b false o i = operate [o, i] (getItem o i)
def IxR (X : Cx) (r : R2) : Prop :=
  ∀ (value slice : Expr) (pins : List (Addr × Obj)) (s : Shared) (σ : St) (H : Hp) (x y : V) (v u : Value) (Q : VK), Inv X pins σ H s → RelV x v → RelV y u → r x y H Q →
    subscripted slice false v u = operate [v, u] (getItem v u) → wpAny (model X.prog X.w) X.A (subscriptTail value slice v u) (EP X pins σ Q) X.xe s
def MtR (X : Cx) (id : String) (r : V → List V → Hp → VK → Prop) : Prop :=
  ∀ (pins : List (Addr × Obj)) (s : Shared) (σ : St) (H : Hp) (x : V) (xs : List V) (v : Value) (us : List Value) (Q : VK), Inv X pins σ H s → RelV x v → Vals xs us → r x xs H Q →
    wpAny (model X.prog X.w) X.A (call (.builtin id) (v :: us)) (EP X pins σ Q) X.xe s
section
variable {X : Cx} {a b : Expr} {ta tb : TE} {pos : Pos}
theorem pe_ix {r : R2} (hr : IxR X r) (ha : PE X a ta) (hb : PE X b tb) (hs : PlainIx b) : PE X (.Subscript a b pos) (tOp r ta tb) := by
  intro pins s σ H Q I h
  exact Subscript_ (binT ha hb I h fun v u s2 x y H2 I2 rx ry q => hr a b pins s2 σ H2 x y v u Q I2 rx ry q (hs _ _))
def rIxL (K : PySem.W.Frag) : R2 := fun x y H Q => ∃ p xs i v, x = .ref p ∧ y = .int i ∧ SqL K H p xs ∧ atI xs i = some v ∧ Q v H
def rIxT (K : PySem.W.Frag) : R2 := fun x y H Q => ∃ p xs i v, x = .ref p ∧ y = .int i ∧ SqT K H p xs ∧ atI xs i = some v ∧ Q v H
def rIxS : R2 := fun x y H Q => ∃ z i c, x = .str z ∧ y = .int i ∧ z.length ≤ sizeLine ∧ atI z.cps.toList i = some c ∧ Q (.str ⟨#[c]⟩) H
theorem ix_list : IxR X (rIxL X.K) := by
  intro value slice pins s σ H x y v u Q I rx ry h hs
  obtain ⟨p, xs, i, z, rfl, rfl, hq, he, q⟩ := h
  cases rx
  obtain ⟨t, rfl⟩ := ry
  obtain ⟨its, r, pl, hz⟩ := I.list hq
  obtain ⟨j, h1, h2, h3, h4, h5⟩ := atI_get he
  obtain ⟨w, ew, rw'⟩ := r.get h2
  have hl := r.length
  have hn := line63
  have fin : EP X pins σ Q w s := ⟨z, H, I, rw', q⟩
  by_cases h0 : 0 ≤ i
  · have hj : i.toNat = j := by
      rw [seqIndex_of h0 h5] at h1
      exact Option.some.inj h1
    exact item_listR pl.isList h0 (by omega) (by rw [hj]; simpa using ew) fin hs
  · have hj : (i + (its.toArray.size : Int)).toNat = j := by
      rw [seqIndex_neg (by omega) h4] at h1
      rw [List.size_toArray, ← hl]
      exact Option.some.inj h1
    exact subscriptTail_builtinR (x := w) pl.isList.typeIs slot_list_getitem.lookup
      (wpAny_getItem_list_neg (Q := fun r s' => r = w ∧ EP X pins σ Q r s') pl.isList (by omega) (by rw [List.size_toArray] <;> omega) (by omega) (by rw [hj]; simpa using ew) ⟨rfl, fin⟩) hs
theorem ix_tup : IxR X (rIxT X.K) := by
  intro value slice pins s σ H x y v u Q I rx ry h hs
  obtain ⟨p, xs, i, z, rfl, rfl, hq, he, q⟩ := h
  cases rx
  obtain ⟨t, rfl⟩ := ry
  obtain ⟨its, r, pl, hz⟩ := I.tuple hq
  obtain ⟨j, h1, h2, h3, h4, h5⟩ := atI_get he
  obtain ⟨w, ew, rw'⟩ := r.get h2
  have hl := r.length
  have hn := line63
  have fin : EP X pins σ Q w s := ⟨z, H, I, rw', q⟩
  exact subscriptTail_builtinR (x := w) pl.typeIs slot_tuple_getitem.lookup
    (getItem_tuple (j := j) (Q := fun r s' => r = w ∧ EP X pins σ Q r s') pl (by omega) (by omega) (by rw [List.size_toArray, ← hl]; exact h1) (by simpa using ew) ⟨rfl, fin⟩) hs
theorem ix_str : IxR X rIxS := by
  intro value slice pins s σ H x y v u Q I rx ry h hs
  obtain ⟨z, i, c, rfl, rfl, hz, he, q⟩ := h
  obtain ⟨t, rfl⟩ := rx
  obtain ⟨t', rfl⟩ := ry
  obtain ⟨j, h1, h2, h3, h4, h5⟩ := atI_get he
  have hl : z.cps.toList.length = z.length := by simp [Str.length]
  rw [hl] at h1 h4 h5
  have hn := line63
  exact tail_any (typeIs_str s z t) slot_str_getitem.lookup (getItem_str (c := c) (by
    have e1 : decide (i < -(2 ^ 63 : Int)) = false := decide_eq_false (by omega)
    have e2 : decide (i ≥ 2 ^ 63) = false := decide_eq_false (by omega)
    rw [e1, e2, Bool.or_false]) (by rw [h1]; simpa using h2) ⟨.str ⟨#[c]⟩, H, I.tok _, ⟨_, rfl⟩, q⟩) hs
theorem Inv.lst {pins : List (Addr × Obj)} {σ : St} {H : Hp} {s : Shared} {p : Addr} {xs : List V} (I : Inv X pins σ H s) (h : H p = some (.lst xs)) :
    ∃ (its : List Value) (n : Nat), Vals xs its ∧ s.heap.get? p = some { cls := .type "list", data := .seq its.toArray n } ∧ xs.length ≤ sizeLine := by
  obtain ⟨z, its, n, r, e⟩ := I.hok p _ h
  exact ⟨its, n, r, e, z⟩
theorem call_len_seq : CallR X (.builtin "len") (fun xs H Q => ∃ p ys, xs = [.ref p] ∧ (SqL X.K H p ys ∨ SqT X.K H p ys) ∧ Q (.int ys.length) H) := by
  intro pins s σ H xs us Q I r h
  obtain ⟨p, ys, rfl, hq, q⟩ := h
  obtain ⟨u, rfl, rx⟩ := vals1 r
  cases rx
  have hn := line63
  rcases hq with hq | hq
  · obtain ⟨its, r', pl, hz⟩ := I.list hq
    have hlen := r'.length
    exact Calls.call_len_list pl.isList (by simp only [List.size_toArray] <;> omega) ⟨.int ys.length, H, I.tok _, ⟨s.toks + 1, by rw [List.size_toArray, hlen]⟩, q⟩
  · obtain ⟨its, r', pl, hz⟩ := I.tuple hq
    have hlen := r'.length
    exact len_tuple pl (by simp only [List.size_toArray] <;> omega) ⟨.int ys.length, H, I.tok _, ⟨s.toks + 1, by rw [List.size_toArray, hlen]⟩, q⟩
theorem call_len_str : CallR X (.builtin "len") (fun xs H Q => ∃ z, xs = [.str z] ∧ z.length ≤ sizeLine ∧ Q (.int z.length) H) := by
  intro pins s σ H xs us Q I r h
  obtain ⟨z, rfl, hz, q⟩ := h
  obtain ⟨u, rfl, t, rfl⟩ := vals1 r
  have hn := line63
  exact len_str (by omega) ⟨.int z.length, H, I.tok _, ⟨_, rfl⟩, q⟩
def tyV (K : PySem.W.Frag) (T : String) (x : V) (H : Hp) : Prop := match x with
  | .str _ => T = "str"
  | .int _ => T = "int"
  | .ref p => (T = "list" ∧ ∃ xs, SqL K H p xs) ∨ (T = "tuple" ∧ ∃ o, K.lookup p = some o ∧ o.cls = .type "tuple" ∧ o.dict = none) ∨
      (T = "dict" ∧ ((∃ kvs, H p = some (.dK kvs)) ∨ ∃ kvs, H p = some (.dT kvs))) ∨ (T = "set" ∧ ∃ S n, H p = some (.set S n))
  | _ => False
theorem tyV_is {pins : List (Addr × Obj)} {σ : St} {H : Hp} {s : Shared} {T : String} {x : V} {v : Value} (I : Inv X pins σ H s) (r : RelV x v) (ty : tyV X.K T x H) :
    s.TypeIs v T ∧ ∀ a, v = .ref a → ∃ ob, s.heap.get? a = some ob ∧ ob.dict = none := by
  cases x with
  | str z =>
    obtain ⟨t, rfl⟩ := r
    cases (show T = "str" from ty)
    exact ⟨typeIs_str s z t, fun _ e => nomatch e⟩
  | int i =>
    obtain ⟨t, rfl⟩ := r
    cases (show T = "int" from ty)
    exact ⟨typeIs_int s i t, fun _ e => nomatch e⟩
  | ref p =>
    cases r
    rcases ty with ⟨rfl, xs, hq⟩ | ⟨rfl, o, hk, hc, hd⟩ | ⟨rfl, hk⟩ | ⟨rfl, S, n, hk⟩
    · obtain ⟨its, _, pl, _⟩ := I.list hq
      refine ⟨pl.isList.typeIs, fun a e => ?_⟩
      cases e
      obtain ⟨o, n, e, c, hd, _⟩ := pl
      exact ⟨o, e, hd⟩
    · refine ⟨⟨o, I.kIn p o hk, hc⟩, fun a e => ?_⟩
      cases e
      exact ⟨o, I.kIn _ o hk, hd⟩
    · have z : ∃ o, s.heap.get? p = some o ∧ o.ExactDict := by
        rcases hk with ⟨kvs, hk⟩ | ⟨kvs, hk⟩
        · obtain ⟨_, _, _, _, o, _, _, e, ex, _⟩ := I.hok p _ hk
          exact ⟨o, e, ex⟩
        · obtain ⟨_, _, _, _, o, _, _, e, ex, _⟩ := I.hok p _ hk
          exact ⟨o, e, ex⟩
      obtain ⟨o, e, ex⟩ := z
      refine ⟨⟨o, e, ex.1⟩, fun a e2 => ?_⟩
      cases e2
      exact ⟨o, e, ex.2.1⟩
    · obtain ⟨o, _, _, _, e, ex, _⟩ := I.hok p _ hk
      refine ⟨⟨o, e, ex.1⟩, fun a e2 => ?_⟩
      cases e2
      exact ⟨o, e, ex.2.1⟩
  | _ => exact False.elim ty
def tBM0 (K : PySem.W.Frag) (T : String) (r : V → List V → Hp → VK → Prop) (to : TE) : TE := fun σ H Q => to σ H fun x H1 => tyV K T x H1 ∧ r x [] H1 Q
def tBM (K : PySem.W.Frag) (T : String) (r : V → List V → Hp → VK → Prop) (to : TE) (t : TA) : TE := fun σ H Q => to σ H fun x H1 => tyV K T x H1 ∧ t σ H1 fun xs H2 => r x xs H2 Q
variable {o e : Expr} {es : List Expr} {to : TE} {t : TA} {name : Str} {apos cpos : Pos} {T id : String} {r : V → List V → Hp → VK → Prop}
theorem pe_bm (pa : PlainAttrs T) (slot : Slot T name id) (hty : typeOf (.builtin id) = pure (.type "method_descriptor")) (hm : MtR X id r) (ho : PE X o to) (ha : PA X (e :: es) t)
    (hbase : attributeBase o name X.env (eval o X.env) = eval o X.env := by rfl)
    (hfew : ((backTo cpos (starEach (e :: es) X.env)).all (fun x => !x.1) && (backToKw cpos (keywordEach [] X.env)).all (fun x => x.1.isSome)
      && decide ((e :: es).length + ([] : List Keyword).length + (if ([] : List Keyword).isEmpty then 0 else 1) < 30)) = true := by rfl)
    (hline : (apos.endLine == cpos.line) = true := by rfl) (hs : starEach (e :: es) X.env = (false, eval e X.env) :: starEach es X.env := by rfl) (hplain : (backTo cpos (starEach es X.env)).any (·.1) = false := by rfl) :
    PE X (.Call (.Attribute o name apos) (e :: es) [] cpos) (tBM X.K T r to t) := by
  intro pins s σ H Q I h
  refine wpAny_Call_method_late hbase hfew hline rfl (thn (ho pins s σ H _ I h) fun v s1 ⟨x, H1, I1, r1, ty, q1⟩ => ?_)
  obtain ⟨h1, h2⟩ := tyV_is I1 r1 ty
  refine ⟨T, id, pa, slot, hty, h1, h2, ?_⟩
  have hA := ha cpos pins s1 σ H1 _ I1 q1
  rw [hs] at hA ⊢
  refine Calls.callWith_builtin (by show (false || (backTo cpos (starEach es X.env)).any (·.1)) = false; rw [hplain] <;> rfl) (Calls.evalArgs_plain ?_)
  exact thn hA fun us s2 ⟨vs, H2, I2, r2, q2⟩ => hm pins s2 σ H2 x vs v us Q I2 r1 r2 q2
/- xs.append(e), list.index on a module's tuple .. are MtR facts of 06m -/
end
end L2
namespace L2
open PySem PySem.Spec PyProof.Rows
def MtM (X : Cx) (id : String) (r : V → List V → Hp → VK → Prop) : Prop :=
  ∀ (pins : List (Addr × Obj)) (s : Shared) (σ : St) (H : Hp) (x : V) (xs : List V) (v : Value) (us : List Value) (Q : VK), Inv X pins σ H s → RelV x v → Vals xs us → r x xs H Q →
    wpAny (model X.prog X.w) X.A (call (.builtin id) (v :: us)) (EP X pins σ Q) X.xe s
theorem Vals.one : ∀ {x : V} {us : List Value}, Vals [x] us → ∃ u, us = [u] ∧ RelV x u
  | _, _, .cons r .nil => ⟨_, rfl, r⟩
theorem Vals.two : ∀ {x y : V} {us : List Value}, Vals [x, y] us → ∃ u v, us = [u, v] ∧ RelV x u ∧ RelV y v
  | _, _, _, .cons r (.cons q .nil) => ⟨_, _, rfl, r, q⟩
theorem Vals.zero : ∀ {us : List Value}, Vals [] us → us = []
  | _, .nil => rfl
theorem Vals.dropLast {xs : List V} {us : List Value} (h : Vals xs us) : Vals xs.dropLast us.dropLast := by
  induction h with
  | nil => exact .nil
  | cons r t ih =>
    cases t with
    | nil => exact .nil
    | cons q t' => exact .cons r ih
theorem Vals.reverse {xs : List V} {us : List Value} (h : Vals xs us) : Vals xs.reverse us.reverse := by
  induction h with
  | nil => exact .nil
  | cons r t ih => rw [List.reverse_cons, List.reverse_cons]; exact Vals.append ih (.cons r .nil)
section
variable {X : Cx} {pins : List (Addr × Obj)} {σ : St} {H : Hp} {s : Shared} {l b : Addr} {xs ys zs : List V}
theorem Inv.lset {its its' : List Value} {n : Nat} {f : Array Value → Array Value} {t' : Nat} (I : Inv X pins σ H s) (hH : H l = some (.lst xs))
    (e : s.heap.get? l = some { cls := .type "list", data := .seq its.toArray n }) (hf : f its.toArray = its'.toArray) (hv : Vals ys its') (hz : ys.length ≤ sizeLine) :
    Inv X pins σ (upd H l (.lst ys)) { s with heap := s.heap.update l (Obj.mapSeq f), toks := t' } := by
  have q := PySem.IsL.update e f
  rw [hf] at q
  refine I.write (x := l) (e := l) (by rw [hH]; exact trivial) (.inl rfl) (fun b' u hb hu => (Heap.get?_update_other s.heap (Obj.mapSeq f) (Ne.symm hb)).trans hu) ⟨_, q⟩ ?_
  exact ⟨hz, its', _, hv, q⟩
theorem Inv.lnew {its : List Value} {t' : Nat} (I : Inv X pins σ H s) (hv : Vals ys its) (hz : ys.length ≤ sizeLine) :
    Inv X pins σ (upd H s.heap.objs.size (.lst ys)) { s with heap := s.heap.push { cls := .type "list", data := .seq its.toArray }, toks := t' } :=
  I.laid (fun _ _ q => Heap.get?_push_of_some _ q) (Nat.le_refl _) ⟨hz, its, 0, hv, Heap.get?_push_size _ rfl⟩
theorem Inv.fresh (I : Inv X pins σ H s) : H s.heap.objs.size = none := I.hok.fresh (Nat.le_refl _)
theorem Inv.lstM (I : Inv X pins σ H s) (hH : H l = some (.lst xs)) : xs.length ≤ sizeLine ∧ ∃ (its : List Value) (n : Nat), Vals xs its ∧ xs.length = its.length ∧ s.heap.get? l = some { cls := .type "list", data := .seq its.toArray n } := by
  obtain ⟨z, its, n, r, e⟩ := I.hok l _ hH
  exact ⟨z, its, n, r, r.length, e⟩
end
section
variable {X : Cx}
def rAppend : V → List V → Hp → VK → Prop := fun x vs H Q => ∃ l xs y, x = .ref l ∧ vs = [y] ∧ H l = some (.lst xs) ∧ xs.length < sizeLine ∧ Q .non (upd H l (.lst (xs ++ [y])))
theorem mt_append : MtM X "list.append" rAppend := by
  intro pins s σ H x vs v us Q I rx rv h
  obtain ⟨l, xs, y, rfl, rfl, hH, hz, q⟩ := h
  cases rx
  obtain ⟨u, rfl, ru⟩ := rv.one
  obtain ⟨z, its, n, r, hl, e⟩ := I.lstM hH
  refine call_meets F.slot_list_append ⟨_, e, rfl⟩ F.entry_list_append (F.args_list_append_2 _ _) (PySem.list_append l its.toArray n u (by rw [List.size_toArray]; omega)) ⟨e, ?_⟩
  refine ⟨.non, _, I.lset (its' := its ++ [u]) hH e (by simp) (r.append (.cons ru .nil)) ?_, rfl, q⟩
  rw [List.length_append, List.length_singleton]
  omega
def rCat : R2 := fun x y H Q => ∃ l b xs zs, x = .ref l ∧ y = .ref b ∧ H l = some (.lst xs) ∧ H b = some (.lst zs) ∧ xs.length + zs.length ≤ sizeLine ∧ ∀ p, H p = none → Q (.ref p) (upd H p (.lst (xs ++ zs)))
theorem op_cat : OpR X (binaryOp .Add) rCat := by
  intro pins s σ H x y v u Q I rx ry h
  obtain ⟨l, b, xs, zs, rfl, rfl, hH, hB, hz, q⟩ := h
  cases rx
  cases ry
  obtain ⟨z, its, n, r, hl, e⟩ := I.lstM hH
  obtain ⟨z2, its2, n2, r2, hl2, e2⟩ := I.lstM hB
  refine PySem.P.add_list e e2 ?_ (by rw [List.size_toArray, List.size_toArray]; omega)
  have ea : its.toArray ++ its2.toArray = (its ++ its2).toArray := by simp
  rw [ea]
  exact ⟨.ref _, _, I.lnew (t' := s.toks) (r.append r2) (by rw [List.length_append]; omega), rfl, q _ I.fresh⟩
end
section
variable {prog : Program} {w : World} {A : Around} {E : Value → Shared → Prop} {s : Shared}
end
section
variable {X : Cx}
end
end L2
namespace Att
open PySem PySem.W PySem.Calls PyProof.Rows
theorem ints_of_wellAll {P : Params} {h : Heap} : ∀ (ns : List Int) (vs : List Value), WellAll P h vs (ns.map WData.int) → IntsAre vs ns := by
  intro ns
  induction ns with
  | nil =>
    intro vs w
    rw [List.map_nil] at w
    cases w
    exact .nil
  | cons n ns ih =>
    intro vs w
    rw [List.map_cons] at w
    cases w with
    | cons a b =>
      cases a
      exact .cons _ _ (ih _ b)
theorem script_of {l : OpenLaw} {n : Nat} (hn : l.most = some n) {P : Params} {h : Heap} {args : List WData} {vals : List Value}
    (hpre : l.row.toRowW.claim.pre args = true) (hwl : WellAll P h vals args) :
    ∃ a vs ns, vals = [Value.ref a] ∧ args = [WData.list (ns.map WData.int)] ∧ h.get? a = some { cls := .type "list", data := .seq vs.toArray } ∧ IntsAre vs ns ∧ ns.length ≤ n := by
  have hsh : WShape.hasAll [] args [.list .int] = true := (pre_splitW hpre).1
  have hc : l.pre.holds [] { args := args } = true := (pre_splitW hpre).2
  obtain ⟨d, r, rfl, h1, h2⟩ := hasAllW_cons hsh
  obtain rfl := hasAllW_nil h2
  obtain ⟨xs, rfl, h3⟩ := hasW_list h1
  obtain ⟨ns, rfl⟩ := items_int h3
  have hlen : ns.length ≤ n := by
    unfold OpenLaw.pre at hc
    have h4 : (WTm.not (.lt (.lit (.int (n : Int))) (.len (.arg 0)))).holds [] { args := [.list (ns.map .int)] } = true := by
      have h4 := (holds_andW hc).1
      rw [hn] at h4
      exact h4
    have h5 := condW_of h4 (w_not (w_lt w_lit (w_len_list (w_arg rfl))))
    rw [List.length_map] at h5
    refine Nat.le_of_not_lt fun q => ?_
    have q' : (n : Int) < ((ns.length : Nat) : Int) := by omega
    first
      | (rw [decide_eq_true q'] at h5; exact absurd h5 (by decide))
      | (simp at h5; omega)
  cases hwl with
  | cons w1 w2 =>
    cases w2
    cases w1 with
    | list ho hall => exact ⟨_, _, ns, rfl, rfl, ho, ints_of_wellAll ns _ hall, hlen⟩
theorem post_true (l : OpenLaw) (args : List WData) : l.row.toRowW.claim.post args (.bool true) args = true :=
  postW_of (r := l.row.toRowW) (X := (true == true))
    (show WShape.has [] (.bool true) .bool = true by first | rfl | decide | simp [WShape.has, WShape.arms, WShape.armsAll])
    (show (WTm.eq .res (.lit (.bool true))).value [] { args := args, res := some (.bool true), after := args } = some (.bool (true == true)) from w_eq_bool (w_res rfl) w_lit) rfl
theorem attach_call {l : OpenLaw} {n : Nat} {q : Program} {loose : List Str} {XP : (Str → Option Value) → Heap → Prop} {YP : World → Heap → Prop} {d : DefRec}
    (hn : l.most = some n) (hdf : d.params.defaults = [])
    (call : ∀ (w : World) (s₀ s₁ : Shared) (mg mb : Str → Option Value) (fa : Addr) (o : Obj) (pm cd doc : Value) (a : Addr) (vs : List Value) (ns : List Int),
      Ground q loose [] XP w s₀ mg mb s₁.heap → YP w s₁.heap →
      s₁.heap.get? fa = some o → o.data = .func (docDef d.name d.params d.body d.scope pm cd doc) → s₁.heap.CodeRec cd d.name → mg d.name = some (.ref fa) →
      s₁.heap.get? a = some { cls := .type "list", data := .seq vs.toArray } → IntsAre vs ns → ns.length ≤ n → s₁.gens = #[] →
      codeAny (model l.prog w) callerA (.call (.ref fa) ⟨[.ref a], []⟩) (fun r s' => r = .ok (.ret (.bool true)) ∧ OldK s₁.heap s'.heap ∧ s'.os = s₁.os ∧ AllBare s'.gens) s₁) :
    WalkO q loose XP YP l.row.toRowW d [] (fun f vs => PySem.call f vs) := by
  intro w s₀ s₁ mg mb G Y fa o pm cd doc dV kV ho hd hcd hD hmg hg args vals as hpre hlay hrd hwl hlo
  obtain rfl : dV = .none := Dflts.none hD hdf
  obtain rfl : kV = .none := Dflts.noKw hD
  obtain ⟨a, vs, ns, rfl, rfl, hobj, hints, hlen⟩ := script_of hn hpre hwl
  refine enter_call (codeAny_mono (call w s₀ s₁ mg mb fa o pm cd doc a vs ns G Y ho (fd_plain hd) hcd hmg hobj hints hlen hg) fun r s' hq => ?_)
  obtain ⟨rfl, h2, h3, h4⟩ := hq
  exact ⟨.inl ⟨.bool true, .bool true, [], rfl, fun _ => rfl, .bool true, post_true l _, fun _ => ⟨List.Pairwise.nil, fun _ hm => (nomatch hm)⟩⟩, h2, h3, h4⟩
section
variable {prog : Program} {w : World} {A : Around} {E : Value → Shared → Prop} {s : Shared} {K : Frag}
end
end Att
namespace L2
open PySem PySem.Spec PyProof.Rows
theorem vals_ints : ∀ {vs : List Value} {ns : List Int}, IntsAre vs ns → Vals (ns.map V.int) vs
  | _, _, .nil => .nil
  | _, _, .cons n t h => .cons ⟨t, rfl⟩ (vals_ints h)
def Only (H : Hp) : Prop := ∀ b, H b = none ∨ ∃ o xs, H b = some (.frz o (.lst xs))
theorem law_call {P : Program} {w : World} {K : PySem.W.Frag} {mg mb : Str → Option Value} {CX : CXT} {k : Nat} {fa a : Addr} {fd : FuncData} {x : Str} {sp : Sp} {s₁ : Shared} {vs : List Value} {ns : List Int}
    (KX : K.In s₁.heap) (hns : s₁.heap.Ns mainGlobals mg) (hb : s₁.heap.Ns builtinsNs mb) (hbb : ∀ x : Str, x ≠ "__name__" → mb x = bootBuiltins x) (hlim : s₁.heap.NoLimit) (hg : s₁.gens = #[])
    (ha : s₁.heap.get? a = some { cls := .type "list", data := .seq vs.toArray }) (hi : IntsAre vs ns) (hl : ns.length ≤ sizeLine) (hr : Room k callerA)
    (F : ∀ base : Heap, K.In base → base.Ns mainGlobals mg → FnOk P w K mg base CX k fa fd [x] sp) (hbind : ∀ (s : Shared) (u : Value), BindsTo s fd ⟨[u], []⟩ [(x, u)])
    (hsp : ∀ H : Hp, Only H → SqL K H a (ns.map V.int) → sp [.ref a] H (fun v _ => v = .bl true) fun _ _ _ => False)
    (hCX : ∀ H e s', CX [] H s₁ (fun _ _ _ => False) e s' → False) :
    codeAny (model P w) callerA (.call (.ref fa) ⟨[.ref a], []⟩) (fun r s' => r = .ok (.ret (.bool true)) ∧ OldK s₁.heap s'.heap ∧ s'.os = s₁.os ∧ AllBare s'.gens) s₁ := by
  have rv := vals_ints hi
  have lenV := hi.length
  -- from an abstract heap in which nothing but the script may be tracked
  have core : ∀ H : Hp, Only H → SqL K H a (ns.map V.int) → HOk P w H s₁.heap → (∀ b, H b ≠ none → b = a) → (H a ≠ none → K.lookup a = none) →
      codeAny (model P w) callerA (.call (.ref fa) ⟨[.ref a], []⟩) (fun r s' => r = .ok (.ret (.bool true)) ∧ OldK s₁.heap s'.heap ∧ s'.os = s₁.os ∧ AllBare s'.gens) s₁ := by
    intro H hO hS hok hA hK
    have base_of : ∀ {b : Addr} {o : Obj}, s₁.heap.get? b = some o → H b = none → (hidT s₁.heap H).get? b = some o := fun e n => hidT_get e n
    have noA : ∀ {b : Addr} {o : Obj} {es : Array DictEntry} {ep : Nat}, s₁.heap.get? b = some o → o.data = .dict es ep → H b = none := fun {b o es ep} e d => by
      cases q : H b with
      | none => rfl
      | some u =>
        have e' : b = a := hA b (by rw [q]; simp)
        subst e'
        rw [ha] at e; cases e
        have d' : Data.seq vs.toArray _ = Data.dict es ep := d
        cases d'
    have nsK : ∀ {b : Addr} {m : Str → Option Value}, s₁.heap.Ns b m → (hidT s₁.heap H).Ns b m := fun {b m} ⟨o, es, ep, e, d, r⟩ => ⟨o, es, ep, base_of e (noA e d), d, r⟩
    have hKb : K.In (hidT s₁.heap H) := fun b o e => base_of (KX b o e) (by
      cases q : H b with
      | none => rfl
      | some u =>
        have e' : b = a := hA b (by rw [q]; simp)
        subst e'
        rw [hK (by rw [q]; simp)] at e; cases e)
    have hM : Mod K mg (hidT s₁.heap H) := ⟨hKb, nsK hns, ⟨mb, nsK hb, hbb⟩, let ⟨mc, h1, h2⟩ := hlim; ⟨mc, nsK h1, h2⟩⟩
    have e0 : Env0 P w K mg (hidT s₁.heap H) callerA [] s₁ H := ⟨rfl, hM, fun b o e => of_hidT e, Nat.le_of_eq (hidT_size _ _), trivial, fun b hb => absurd (show b ∈ ([] : List Addr) from hb) (by simp), hok, .of_eq hg⟩
    refine codeAny_mono ((F _ hKb (nsK hns)).run callerA [] s₁ H ⟨[.ref a], []⟩ [.ref a] [.ref a] _ _ hr e0 (hbind s₁ (.ref a)) (.cons rfl .nil) (hsp H hO hS)) fun r s' h => ?_
    cases r with
    | error e => exact (hCX H e s' h).elim
    | ok fl =>
      cases fl with
      | next => exact False.elim h
      | brk => exact False.elim h
      | cont => exact False.elim h
      | ret u =>
        obtain ⟨v, H', os, bare, un, hok', r', q⟩ := h
        have q' : v = .bl true := q
        subst q'
        obtain rfl : u = Value.bool true := r'
        refine ⟨rfl, OldK.of_keep fun b o e => ?_, os, bare⟩
        cases q : H b with
        | none => exact un.keep b o e q (by intro z; exact absurd (show b ∈ ([] : List Addr) from z) (by simp)) (by simp)
        | some u =>
          rcases hO b with z | ⟨ob, xs, z⟩
          · rw [q] at z; cases z
          · have z2 := un.frzs b ob _ z
            obtain ⟨e1, _⟩ := hok b _ z
            obtain ⟨e2, _⟩ := hok' b _ z2
            rw [e] at e1; cases e1
            exact e2
  cases hk : K.lookup a with
  | some o =>
    -- the script is one of the module's own objects
    have e := KX a o hk
    rw [ha] at e
    cases e
    refine core (fun _ => none) (fun _ => .inl rfl) (.inr ⟨_, vs.toArray, _, hk, rfl, rfl, rfl, by rw [List.size_toArray, lenV]; exact hl, by simpa using rv⟩) (fun b u z => by have z' : (none : Option HO) = some u := z; cases z') (fun b z => absurd rfl z) fun z => absurd rfl z
  | none =>
    refine core (fun b => if b = a then some (.frz { cls := .type "list", data := .seq vs.toArray } (.lst (ns.map V.int))) else none) (fun b => ?_) (.inl (.inr ⟨{ cls := .type "list", data := .seq vs.toArray }, if_pos rfl⟩)) (fun b u z => ?_) (fun b z => ?_) fun _ => hk
    · by_cases hb : b = a
      · exact .inr ⟨_, _, if_pos hb⟩
      · exact .inl (if_neg hb)
    · by_cases hb : b = a
      · have z' := (if_pos hb).symm.trans z
        cases z'
        subst hb
        exact ⟨ha, by rw [List.length_map]; exact hl, vs, _, rv, ha⟩
      · have z' := (if_neg hb).symm.trans z
        cases z'
    · by_cases hb : b = a
      · exact hb
      · exact absurd (if_neg hb) z
end L2
namespace L2
open PySem PySem.Spec PyProof.Rows
abbrev KOf {K : PySem.W.Frag} {h : Heap} (_ : K.In h) : PySem.W.Frag := K
theorem walk_of {l : PySem.W.OpenLaw} {n k : Nat} {q : Program} {loose : List Str} {XP : (Str → Option Value) → Heap → Prop} {YP : World → Heap → Prop} {d : DefRec} {K : Params → PySem.W.Frag} {CX : World → CXT} {sp : World → Sp} {x : Str}
    (hn : l.most = some n) (hn2 : n ≤ sizeLine) (hdf : d.params.defaults = []) (hr : Room k callerA)
    (hY : ∀ (w : World) (h : Heap), YP w h → (K w.params).In h)
    (F : ∀ (w : World) (mg : Str → Option Value) (fa : Addr) (h : Heap), (K w.params).In h → h.Ns mainGlobals mg → mg d.name = some (.ref fa) →
      ∃ fd : FuncData, (∀ (s : Shared) (u : Value), BindsTo s fd ⟨[u], []⟩ [(x, u)]) ∧
        ∀ base : Heap, (K w.params).In base → base.Ns mainGlobals mg → FnOk l.prog w (K w.params) mg base (CX w) k fa fd [x] (sp w))
    (hsp : ∀ (w : World) (H : Hp) (a : Addr) (ns : List Int), ns.length ≤ n → Only H → SqL (K w.params) H a (ns.map V.int) → sp w [.ref a] H (fun v _ => v = .bl true) fun _ _ _ => False)
    (hCX : ∀ (w : World) (H : Hp) (s : Shared) (e : Value) (s' : Shared), CX w [] H s (fun _ _ _ => False) e s' → False) :
    PySem.W.WalkO q loose XP YP l.row.toRowW d [] (fun f vs => PySem.call f vs) := by
  refine Att.attach_call hn hdf fun w s₀ s₁ mg mb fa o pm cd doc a vs ns G Y ho hd hcd hmg hobj hints hlen hg => ?_
  have KX := hY w _ Y
  obtain ⟨fd, hb, hF⟩ := F w mg fa _ KX G.T.g hmg
  exact law_call KX G.T.g G.T.b G.T.builtins G.T.nolimit hg hobj hints (Nat.le_trans hlen hn2) hr hF hb (fun H hO hS => hsp w H a ns hlen hO hS) fun H e s' => hCX w H s₁ e s'
end L2
/- THE LAST THEOREM (shape; LID, My.* are yours):
   My.Adr: a structure of the addresses that your layer names (classes, functions); My.Txt K t: a structure (Prop) of the equations over K;
   My.txt_mk : {K} {implicit addresses ..} (e1 : nsIn K mainGlobals "law" = some (some (.ref f))) (e2 : K.lookup f = some ⟨oc, od, .func (fnOf "law" "law" params body scope dV kV doc pm an cdv ct), sl⟩) (e3 : codeIn K cdv "law" = true) .. : ∃ t, My.Txt K t
set_option maxRecDepth 100000 in
set_option maxHeartbeats 0 in
theorem PySem.Challenge.cw_LID_holds : PySem.Challenge.rw_LID.Holds := by
  w_on; o_law; k_head; (case hw => w_witness2)
  k_fill
  refine L2.walk_of (l := PySem.Challenge.rw_LID) (n := 63) (k := 40) (x := "script") (CX := fun w => ..) (sp := fun _ => My.sp_law) rfl (by decide) rfl ⟨rfl, by decide, by decide⟩ (fun w h Y => PySem.W.kIn_of Y) ?F ?S ?C
  case F =>
    intro w mg fa h KX G hmg
    have T : ∃ t, My.Txt (L2.KOf KX) t := by
      dsimp only [L2.KOf]                          -- K must stand as «<heap const> w.params» for k_is
      refine' My.txt_mk ?e1 ?e2 ?e3 ..
      (case e1 => PySem.W.k_is)                    -- in the order: a name -> its address -> its object -> its parts
      (case e2 => PySem.W.k_is)
      ..
    obtain ⟨t, T⟩ := T
    have e0 := hmg.symm.trans (PySem.W.mg_of KX G T.law)
    cases e0                                       -- fa is the law's own address
    exact ⟨_, fun s u => .of_eq rfl, fun base kb nb => My.law_fn T kb nb⟩     -- if «.of_eq rfl» comes too early: refine' ⟨_, ?b, fun base kb nb => My.law_fn T kb nb⟩; exact fun s u => .of_eq rfl
  case S => exact fun w H a ns hl hO hS => ..
  case C => exact ..
(the tactic k_is has no namespace: write k_is) -/
namespace L2
open PySem PySem.Spec PyProof.Rows
def defArgs (s : Stmt) : Arguments := match s with
  | .FunctionDef _ a _ _ _ _ _ _ _ _ => a
  | _ => { posonlyargs := [], args := [], vararg := none, kwonlyargs := [], kw_defaults := [], kwarg := none, defaults := [] }
def defBody (s : Stmt) : List Stmt := match s with
  | .FunctionDef _ _ b _ _ _ _ _ _ _ => b
  | _ => []
def defScope (s : Stmt) : Scope := match s with
  | .FunctionDef _ _ _ _ _ _ sc _ _ _ => sc
  | _ => { kind := .function, names := [], isGenerator := false, isCoroutine := false }
abbrev CX0 : CXT := fun _ _ _ _ _ _ => False
abbrev E0 : XK := fun _ _ _ => False
structure Fun (K : PySem.W.Frag) (x qual : Str) (st : Stmt) (f : Addr) (fd : FuncData) : Prop where
  ex : ∃ (oc : Value) (od : Option Addr) (kV doc pm : Value) (an : Option Addr) (cdv ct : Value) (osl : Array (Option Value)),
    fd = PySem.W.fnOf x qual (defArgs st) (defBody st) (defScope st) .none kV doc pm an cdv ct ∧ K.lookup f = some ⟨oc, od, .func fd, osl⟩ ∧ PySem.W.codeIn K cdv qual = true
  kp : PySem.W.keepIn K (.ref f) = true
section
variable {P : Program} {w : World} {K : PySem.W.Frag} {mg : Str → Option Value} {base : Heap}
theorem Fun.ok {x qual : Str} {st : Stmt} {f : Addr} {fd : FuncData} {N ps : List Str} {k : Nat} {sp : Sp} (F : Fun K x qual st f fd) (S : FnScope N ps (defScope st)) (len : ∀ vs H Q E, sp vs H Q E → vs.length = ps.length)
    (hbody : ∀ (cdv : Value) (A : Around) (outer : List Env) (s : Shared) (H : Hp) (vs : List V) (Q : VK) (E : XK), Room k (A.deeper (envOfC qual (defScope st) s.heap.objs.size f cdv)) → sp vs H Q E →
      ∃ t, PSs (cxOf CX0 P w K mg base N qual (defScope st) f cdv A outer s H E).nox (defBody st) t ∧ t { nx := fun _ H' => Q .non H', rt := Q } (start N vs) H) : FnOk P w K mg base CX0 (k + 1) f fd ps sp := by
  obtain ⟨oc, od, kV, doc, pm, an, cdv, ct, osl, rfl, lk, hcd⟩ := F.ex
  refine fn_of lk hcd S len fun A outer s H vs Q E hr hsp => ?_
  obtain ⟨t, h, q⟩ := hbody cdv A outer s H vs Q E hr hsp
  exact ⟨t, h.nox, q⟩
theorem Fun.binds {x qual : Str} {st : Stmt} {f : Addr} {fd : FuncData} {ps : List Str} (F : Fun K x qual st f fd)
    (h : ∀ (kV doc pm : Value) (an : Option Addr) (cdv ct : Value) (us : List Value), us.length = ps.length → bindArgs (PySem.W.fnOf x qual (defArgs st) (defBody st) (defScope st) .none kV doc pm an cdv ct) ⟨us, []⟩ = pure (ps.zip us)) : Binds K fd ps [] := by
  obtain ⟨oc, od, kV, doc, pm, an, cdv, ct, osl, rfl, lk, hcd⟩ := F.ex
  exact .all (h kV doc pm an cdv ct)
theorem fun_mk {x qual : Str} {st : Stmt} {f : Addr} {oc : Value} {od an : Option Addr} {osl : Array (Option Value)} {kV doc pm cdv ct : Value} (l : K.lookup f = some ⟨oc, od, .func (PySem.W.fnOf x qual (defArgs st) (defBody st) (defScope st) .none kV doc pm an cdv ct), osl⟩)
    (c : PySem.W.codeIn K cdv qual = true) (k : PySem.W.keepIn K (.ref f) = true) : Fun K x qual st f (PySem.W.fnOf x qual (defArgs st) (defBody st) (defScope st) .none kV doc pm an cdv ct) := ⟨⟨oc, od, kV, doc, pm, an, cdv, ct, osl, rfl, l, c⟩, k⟩
end
section
variable {X : Cx}
theorem pv (i : Nat) {x : Str} {pos : Pos} (hN : X.N[i]? = some x := by rfl) (hv : Vis X.env.scope x := by first | exact Or.inl rfl | exact Or.inr (Or.inl rfl) | exact Or.inr (Or.inr rfl)) (hd : (x == ("__debug__" : Str)) = false := by decide)
    (hcd : (x == ("__classdict__" : Str)) = false := by decide) : PE X (.Name x pos) (tVar i) := pe_var hN hv hd hcd
end
theorem ite2 {c A B : Prop} [Decidable c] (h1 : c → A) (h2 : ¬ c → B) : if c then A else B := by
  by_cases h : c
  · rw [if_pos h]
    exact h1 h
  · rw [if_neg h]
    exact h2 h
def Same (H H' : Hp) : Prop := ∀ b o, H b = some o → H' b = some o
theorem Same.refl (H : Hp) : Same H H := fun _ _ h => h
theorem Same.trans {H H1 H2 : Hp} (a : Same H H1) (b : Same H1 H2) : Same H H2 := fun c o h => b c o (a c o h)
theorem Same.free {H H' : Hp} (e : Same H H') {l : Addr} (h : H' l = Option.none) : H l = Option.none := by
  cases q : H l with
  | none => rfl
  | some o =>
    rw [e l o q] at h
    cases h
theorem Same.seq {K : PySem.W.Frag} {H H' : Hp} {a : Addr} {xs : List V} (e : Same H H') (h : SqL K H a xs) : SqL K H' a xs := by
  rcases h with (h | ⟨o, h⟩) | h
  · exact .inl (.inl (e _ _ h))
  · exact .inl (.inr ⟨o, e _ _ h⟩)
  · exact .inr h
end L2
set_option maxHeartbeats 4000000
namespace L2
open PySem PySem.Spec PyProof.Rows
theorem hg {G : Prop} (h : ∀ G' : Prop, (G → G') → G') : G := h G id
theorem elc {α : Type} {P : List α → Prop} {n : Nat} (h : ∀ x r, r.length = n → P (x :: r)) : ∀ us : List α, us.length = n + 1 → P us
  | [], e => absurd e (by simp)
  | x :: r, e => h x r (by simpa using e)
theorem el0 {α : Type} {P : List α → Prop} (h : P []) : ∀ us : List α, us.length = 0 → P us
  | [], _ => h
  | _ :: _, e => absurd e (by simp)
theorem el1 {α : Type} {P : List α → Prop} (h : ∀ x0, P [x0]) : ∀ us : List α, us.length = 1 → P us := elc fun x r e => el0 (P := fun r => P (x :: r)) (h x) r e
theorem el2 {α : Type} {P : List α → Prop} (h : ∀ x0 x1, P [x0, x1]) : ∀ us : List α, us.length = 2 → P us := elc fun x r e => el1 (P := fun r => P (x :: r)) (h x) r e
end L2
namespace Sw
def dv (a b : Int) : Int := (Int.gcd a b : Nat)
theorem dv_nn (a b : Int) : 0 ≤ dv a b := Int.natCast_nonneg _
theorem dv_l (a b : Int) : dv a b ∣ a := Int.gcd_dvd_left a b
theorem dv_r (a b : Int) : dv a b ∣ b := Int.gcd_dvd_right a b
theorem dv_comm (a b : Int) : dv a b = dv b a := by unfold dv; rw [Int.gcd_comm]
theorem dv_negl (a b : Int) : dv (-a) b = dv a b := by unfold dv; rw [Int.neg_gcd]
theorem dv_negr (a b : Int) : dv a (-b) = dv a b := by unfold dv; rw [Int.gcd_neg]
theorem dv_zero (a : Int) (h : 0 ≤ a) : dv a 0 = a := by
  unfold dv; rw [Int.gcd_zero_right]; omega
theorem dv_eq0 {a b : Int} (h : dv a b = 0) : a = 0 ∧ b = 0 := by
  unfold dv at h
  exact Int.gcd_eq_zero_iff.mp (by omega)
theorem dv_pos {a b : Int} (h : b ≠ 0) : 0 < dv a b := by
  have := dv_nn a b
  rcases Int.lt_or_eq_of_le this with q | q
  · exact q
  · exact absurd (dv_eq0 q.symm).2 h
theorem dv_dvd {a b c : Int} (h1 : c ∣ a) (h2 : c ∣ b) : c ∣ dv a b := Int.dvd_coe_gcd h1 h2
theorem dv_ext {a b c d : Int} (h : ∀ x : Int, (x ∣ a ∧ x ∣ b) ↔ (x ∣ c ∧ x ∣ d)) : dv a b = dv c d := by
  have h1 : dv a b ∣ dv c d := dv_dvd ((h _).mp ⟨dv_l a b, dv_r a b⟩).1 ((h _).mp ⟨dv_l a b, dv_r a b⟩).2
  have h2 : dv c d ∣ dv a b := dv_dvd ((h _).mpr ⟨dv_l c d, dv_r c d⟩).1 ((h _).mpr ⟨dv_l c d, dv_r c d⟩).2
  exact Int.dvd_antisymm (dv_nn _ _) (dv_nn _ _) h1 h2
theorem dv_step (a b : Int) : dv b (a % b) = dv a b := by
  refine dv_ext fun x => ⟨fun ⟨h1, h2⟩ => ⟨?_, h1⟩, fun ⟨h1, h2⟩ => ⟨h2, ?_⟩⟩
  · have e := Int.mul_ediv_add_emod a b
    rw [← e]
    exact Int.dvd_add (Int.dvd_trans h1 (Int.dvd_mul_right b _)) h2
  · rw [Int.emod_def]
    exact Int.dvd_sub h1 (Int.dvd_trans h2 (Int.dvd_mul_right b _))
theorem dv_abs (a b : Int) : dv (if a < 0 then -a else a) (if b < 0 then -b else b) = dv a b := by
  split <;> split <;> simp only [dv_negl, dv_negr]
theorem dv_sub0 (a b : Int) : dv (0 - a) b = dv a b := by rw [Int.zero_sub, dv_negl]
theorem dv_scale (g a b : Int) (h : 0 ≤ g) : dv (g * a) (g * b) = g * dv a b := by
  unfold dv; rw [Int.gcd_mul_left]
  have : ((g.natAbs * a.gcd b : Nat) : Int) = (g.natAbs : Int) * (a.gcd b : Nat) := by simp
  rw [this]; congr 1; omega
theorem dv_quot {a b : Int} (h : dv a b ≠ 0) : dv (a / dv a b) (b / dv a b) = 1 := by
  have hp : 0 < dv a b := by have := dv_nn a b; omega
  have e1 : a = dv a b * (a / dv a b) := (Int.mul_ediv_cancel' (dv_l a b)).symm
  have e2 : b = dv a b * (b / dv a b) := (Int.mul_ediv_cancel' (dv_r a b)).symm
  have e : dv a b = dv a b * dv (a / dv a b) (b / dv a b) := by
    have := dv_scale (dv a b) (a / dv a b) (b / dv a b) (Int.le_of_lt hp)
    rw [← e1, ← e2] at this
    exact this
  have e' : dv a b * 1 = dv a b * dv (a / dv a b) (b / dv a b) := by rw [Int.mul_one]; exact e
  exact (Int.eq_of_mul_eq_mul_left (by omega) e').symm
structure Fr (n d : Int) : Prop where
  pos : 0 < d
  low : dv n d = 1
theorem cop_dvd {n d x : Int} (h : dv n d = 1) (q : d ∣ n * x) : d ∣ x := by
  have h' : Nat.Coprime d.natAbs n.natAbs := by
    unfold dv at h
    have : Int.gcd n d = 1 := by omega
    unfold Nat.Coprime
    rw [Nat.gcd_comm]; exact this
  have q' : d.natAbs ∣ n.natAbs * x.natAbs := by rw [← Int.natAbs_mul]; exact Int.natAbs_dvd_natAbs.mpr q
  exact Int.natAbs_dvd_natAbs.mp (h'.dvd_of_dvd_mul_left q')
theorem Fr.uniq {n d m e : Int} (h : Fr n d) (k : Fr m e) (q : n * e = m * d) : n = m ∧ d = e := by
  have h1 : d ∣ e := cop_dvd h.low ⟨m, by rw [q, Int.mul_comm]⟩
  have h2 : e ∣ d := cop_dvd k.low ⟨n, by rw [← q, Int.mul_comm]⟩
  have e1 : d = e := Int.dvd_antisymm (Int.le_of_lt h.pos) (Int.le_of_lt k.pos) h1 h2
  subst e1
  have := h.pos
  exact ⟨Int.eq_of_mul_eq_mul_right (by omega) q, rfl⟩
def rN (t b : Int) : Int := if b < 0 then t / (-(dv t b)) else t / dv t b
def rD (t b : Int) : Int := if b < 0 then b / (-(dv t b)) else b / dv t b
theorem rN_mul {t b : Int} : rN t b * (if b < 0 then -(dv t b) else dv t b) = t := by
  unfold rN
  split
  · exact Int.ediv_mul_cancel (Int.neg_dvd.mpr (dv_l t b))
  · exact Int.ediv_mul_cancel (dv_l t b)
theorem rD_mul {t b : Int} : rD t b * (if b < 0 then -(dv t b) else dv t b) = b := by
  unfold rD
  split
  · exact Int.ediv_mul_cancel (Int.neg_dvd.mpr (dv_r t b))
  · exact Int.ediv_mul_cancel (dv_r t b)
theorem rat_cross {t b : Int} (h : b ≠ 0) : rN t b * b = rD t b * t := by
  have e1 := rN_mul (t := t) (b := b)
  have e2 := rD_mul (t := t) (b := b)
  generalize (if b < 0 then -(dv t b) else dv t b) = c at e1 e2
  calc rN t b * b = rN t b * (rD t b * c) := by rw [e2]
    _ = rD t b * (rN t b * c) := by rw [← Int.mul_assoc, ← Int.mul_assoc, Int.mul_comm (rN t b)]
    _ = rD t b * t := by rw [e1]
theorem rat_fr {t b : Int} (h : b ≠ 0) : Fr (rN t b) (rD t b) := by
  have hp := dv_pos (a := t) h
  refine ⟨?_, ?_⟩
  · unfold rD
    by_cases hb : b < 0
    · rw [if_pos hb, Int.ediv_neg]
      obtain ⟨k, hk⟩ := dv_r t b
      have : b / dv t b = k := Int.ediv_eq_of_eq_mul_right (by omega) hk
      rw [this]
      rcases Int.lt_or_le k 0 with q | q
      · omega
      · have := Int.mul_nonneg (Int.le_of_lt hp) q; omega
    · rw [if_neg hb]
      obtain ⟨k, hk⟩ := dv_r t b
      have : b / dv t b = k := Int.ediv_eq_of_eq_mul_right (by omega) hk
      rw [this]
      rcases Int.lt_or_le 0 k with q | q
      · exact q
      · have := Int.mul_nonneg_of_nonpos_of_nonpos (a := -(dv t b)) (b := k) (by omega) q
        rw [Int.neg_mul] at this
        omega
  · have q := dv_quot (a := t) (b := b) (by omega)
    unfold rN rD
    by_cases hb : b < 0
    · rw [if_pos hb, if_pos hb, Int.ediv_neg, Int.ediv_neg, dv_negl, dv_negr]; exact q
    · rw [if_neg hb, if_neg hb]; exact q
theorem rat_uniq {t b n d : Int} (h : b ≠ 0) (f : Fr n d) (q : n * b = d * t) : rN t b = n ∧ rD t b = d := by
  refine Fr.uniq (rat_fr h) f ?_
  have e := rat_cross (t := t) h
  have hb : b ≠ 0 := h
  refine Int.eq_of_mul_eq_mul_right hb ?_
  calc rN t b * d * b = (rN t b * b) * d := by rw [Int.mul_assoc, Int.mul_comm d b, ← Int.mul_assoc]
    _ = rD t b * t * d := by rw [e]
    _ = rD t b * (d * t) := by rw [Int.mul_assoc, Int.mul_comm t d]
    _ = rD t b * (n * b) := by rw [q]
    _ = n * rD t b * b := by rw [← Int.mul_assoc, Int.mul_comm (rD t b) n]
def Sz (n : Nat) (x : Int) : Prop := x.natAbs < 2 ^ n
theorem Sz.mono {m n : Nat} {x : Int} (h : Sz m x) (hm : m ≤ n) : Sz n x := Nat.lt_of_lt_of_le h (Nat.pow_le_pow_right (by decide) hm)
theorem Sz.mul {m n : Nat} {x y : Int} (h : Sz m x) (k : Sz n y) : Sz (m + n) (x * y) := by
  unfold Sz at *
  rw [Int.natAbs_mul, Nat.pow_add]
  by_cases hy : y.natAbs = 0
  · rw [hy, Nat.mul_zero]; exact Nat.mul_pos (Nat.two_pow_pos m) (Nat.two_pow_pos n)
  · exact Nat.mul_lt_mul_of_lt_of_lt h k
theorem Sz.sub {n : Nat} {x y : Int} (h : Sz n x) (k : Sz n y) : Sz (n + 1) (x - y) := by
  unfold Sz at *
  rw [Nat.pow_succ]; omega
theorem Sz.neg {n : Nat} {x : Int} (h : Sz n x) : Sz n (-x) := by unfold Sz at *; omega
theorem Sz.le {n : Nat} {x y : Int} (h : Sz n y) (k : x.natAbs ≤ y.natAbs) : Sz n x := Nat.lt_of_le_of_lt k h
theorem Sz.zero (n : Nat) : Sz n 0 := Nat.two_pow_pos n
theorem Sz.of {n : Nat} {x : Int} (h1 : -(2 ^ n : Nat) < x) (h2 : x < (2 ^ n : Nat)) : Sz n x := by unfold Sz; omega
theorem Sz.div {n : Nat} {x y : Int} (h : Sz n x) : Sz n (x / y) := by
  unfold Sz at *
  rcases Int.le_total 0 x with q | q
  · have := Int.natAbs_ediv_le_natAbs x y
    omega
  · have := Int.natAbs_ediv_le_natAbs x y
    omega
theorem Sz.dvd {n : Nat} {x y : Int} (h : Sz n y) (d : x ∣ y) (hy : y ≠ 0) : Sz n x := by
  refine h.le ?_
  exact Nat.le_of_dvd (by omega) (Int.natAbs_dvd_natAbs.mpr d)
end Sw
namespace Sw
theorem Sz.lit {x : Int} (h : x.natAbs < 1606938044258990275541962092341162602522202993782792835301376) : Sz 5000 x := by
  have e : (2 : Nat) ^ 200 = 1606938044258990275541962092341162602522202993782792835301376 := by decide
  exact Nat.lt_of_lt_of_le (by rw [e]; exact h) (Nat.pow_le_pow_right (by decide) (by decide : 200 ≤ 5000))
end Sw
namespace Sw
end Sw
namespace Sw
theorem Sz.r18 {x : Int} (h1 : -100000000000000000000 < x) (h2 : x < 100000000000000000000) : Sz 70 x := by
  have e : (2 : Nat) ^ 70 = 1180591620717411303424 := by decide
  unfold Sz; rw [e]; omega
theorem Sz.one (n : Nat) : Sz (n + 1) 1 := by
  unfold Sz
  exact Nat.lt_of_lt_of_le (by decide : Int.natAbs 1 < 2 ^ 1) (Nat.pow_le_pow_right (by decide) (by omega))
end Sw
namespace L2
open PySem PySem.Spec PyProof.Rows
theorem bits_of_sz {n : Nat} {x : Int} (h : Sw.Sz n x) : Builtin.Int.intBits x ≤ n := by
  unfold Builtin.Int.intBits
  split
  · exact Nat.zero_le _
  · rename_i hx
    have hx' : x ≠ 0 := by simpa using hx
    have : x.natAbs.log2 < n := (Nat.log2_lt (by omega)).mpr h
    omega
def CMulL (i j : Int) : Prop := Sw.Sz 5000 i ∧ Sw.Sz 5000 j
def CDivL (i j : Int) : Prop := 0 < j ∧ Sw.Sz 5000 j
def CDivS (i j : Int) : Prop := j ≠ 0 ∧ Sw.Sz 5000 j
theorem pylong_of {i j : Int} (h0 : j ≠ 0) (h : Sw.Sz 5000 j) : Builtin.divisionGoesByPylong i j = false := by
  refine PyProof.noPylong_of_log2 ?_
  have : j.natAbs.log2 < 5000 := (Nat.log2_lt (by omega)).mpr h
  omega
section
variable {X : Cx}
theorem op_mulL : OpR X (binaryOp .Mult) (rI CMulL fun i j => .int (i * j)) := opI fun _ _ _ _ _ _ _ hc q =>
  mul_int q (IntMulOk.of_bits (Nat.le_trans (bits_of_sz hc.1) (by decide)) (Nat.le_trans (bits_of_sz hc.2) (by decide)))
theorem op_fdivL : OpR X (binaryOp .FloorDiv) (rI CDivL fun i j => .int (i / j)) := opI fun i j _ _ _ _ _ hc q => by
  have h1 : (0 : Int) < j := hc.1
  exact floordiv_int (by omega) (by rw [Int.fdiv_eq_ediv_of_nonneg i (by omega)]; exact q) (.inl (pylong_of (by omega) hc.2))
theorem op_fdivS : OpR X (binaryOp .FloorDiv) (rI CDivS fun i j => .int (i.fdiv j)) := opI fun _ _ _ _ _ _ _ hc q => floordiv_int hc.1 q (.inl (pylong_of hc.1 hc.2))
def clsV : V → Option Value
  | .ty n => some (.type n)
  | .ref a => some (.ref a)
  | _ => none
theorem call_isinst : CallR X (.builtin "isinstance") (fun xs H Q => ∃ x c t cv b, xs = [x, c] ∧ clsV c = some cv ∧ TyOf X.K H x t ∧ PySem.W.kitOne X.K t cv = some b ∧ Q (.bl b) H) := by
  intro pins s σ H xs us Q I r h
  obtain ⟨x, c, t, cv, b, rfl, hc, ty, e, q⟩ := h
  obtain ⟨u, v, rfl, rx, rc⟩ := Vals.two r
  have ec : v = cv := by
    cases c with
    | ty n => cases (show v = Value.type n from rc); exact Option.some.inj hc
    | ref a => cases (show v = Value.ref a from rc); exact Option.some.inj hc
    | _ => cases hc
  subst ec
  exact isinst_ok I rx ty e fun tk => ⟨.bl b, H, I.tok _, rfl, q⟩
structure Def (P : Program) (w : World) (K : PySem.W.Frag) (mg : Str → Option Value) (base : Heap) (CX : CXT) (k : Nat) (x : Str) (ps : List Str) (sp : Sp) : Prop where
  ex : ∃ (f : Addr) (fd : FuncData), FnOk P w K mg base CX k f fd ps sp ∧ Binds K fd ps [] ∧ PySem.W.keepIn K (.ref f) = true ∧ mg x = some (.ref f)
structure Src (K : PySem.W.Frag) (mg : Str → Option Value) (x : Str) (st : Stmt) (ps : List Str) : Prop where
  ex : ∃ (f : Addr) (fd : FuncData), Fun K x x st f fd ∧ Binds K fd ps [] ∧ mg x = some (.ref f)
theorem Src.ok {P : Program} {w : World} {K : PySem.W.Frag} {mg : Str → Option Value} {base : Heap} {x : Str} {st : Stmt} {N ps : List Str} {k : Nat} {sp : Sp} (F : Src K mg x st ps) (S : FnScope N ps (defScope st)) (len : ∀ vs H Q E, sp vs H Q E → vs.length = ps.length)
    (hbody : ∀ (f : Addr) (cdv : Value) (A : Around) (outer : List Env) (s : Shared) (H : Hp) (vs : List V) (Q : VK) (E : XK), Room k (A.deeper (envOfC x (defScope st) s.heap.objs.size f cdv)) → sp vs H Q E →
      ∃ t, PSs (cxOf CX0 P w K mg base N x (defScope st) f cdv A outer s H E).nox (defBody st) t ∧ t { nx := fun _ H' => Q .non H', rt := Q } (start N vs) H) : Def P w K mg base CX0 (k + 1) x ps sp := by
  obtain ⟨f, fd, F, b, m⟩ := F.ex
  exact ⟨f, fd, F.ok S len (hbody f), b, F.kp, m⟩
end
end L2
namespace L2
theorem while_det {c : TT} {tb : TS} {D : Ends} {σ : St} {H : Hp} (Pv : St → Hp → Prop) (μ : St → Hp → Nat) (h0 : Pv σ H)
    (hs : ∀ σ H, Pv σ H → ∃ b : Bool, (∀ Q : Bool → Hp → Prop, Q b H → c σ H Q) ∧ (b = true → tb { D with nx := fun σ' H' => Pv σ' H' ∧ μ σ' H' < μ σ H, ct := fun σ' H' => Pv σ' H' ∧ μ σ' H' < μ σ H, bk := D.nx } σ H) ∧ (b = false → D.nx σ H)) : tWhile c tb D σ H := by
  refine ⟨fun m σ H => m = μ σ H ∧ Pv σ H, ⟨_, rfl, h0⟩, ?_⟩
  rintro m σ H ⟨rfl, p⟩
  obtain ⟨b, hc, h1, h2⟩ := hs σ H p
  refine hc _ ?_
  cases b with
  | true => exact ⟨_, fun σ' H' ⟨p', l⟩ => ⟨_, l, rfl, p'⟩, h1 rfl⟩
  | false => exact h2 rfl
end L2
namespace L2
open PySem PySem.Spec PyProof.Rows
theorem pe_globI {X : Cx} {x : Str} {n : Int} {pos : Pos} (hg : Gl X x) (hm : ∃ t, X.mg x = some (.int n t)) (hd : (x == ("__debug__" : Str)) = false := by decide) : PE X (.Name x pos) (tC (.int n)) := by
  obtain ⟨t, hm⟩ := hm
  exact pe_glob hg hm ⟨t, rfl⟩ hd
def spLaw (K : PySem.W.Frag) : Sp := fun vs H Q _ => ∃ (a : Addr) (ns : List Int), vs = [.ref a] ∧ SqL K H a (ns.map V.int) ∧ ns.length ≤ 63 ∧ ∀ H', Q (.bl true) H'
end L2
namespace L2
open PySem PySem.Spec PyProof.Rows
def spInt1 (g : Int → Int) : Sp := fun vs H Q _ => ∃ a, vs = [.int a] ∧ Q (.int (g a)) H
def spInt2 (g : Int → Int → Int) : Sp := fun vs H Q _ => ∃ a b, vs = [.int a, .int b] ∧ Q (.int (g a b)) H
def cellI (ns : List Int) (k : Int) : Int := (ns[k.toNat]?).getD 0
def spCell (K : PySem.W.Frag) : Sp := fun vs H Q _ => ∃ a ns k, vs = [.ref a, .int k] ∧ SqL K H a (ns.map V.int) ∧ 0 ≤ k ∧ Q (.int (cellI ns k)) H
theorem cellAt_get {ns : List Int} {k : Int} (h0 : 0 ≤ k) (h : k < ns.length) : atI (ns.map V.int) k = some (V.int (cellI ns k)) := by
  have e : ((k.toNat : Nat) : Int) = k := by omega
  have hl : k.toNat < ns.length := by omega
  have q : (ns.map V.int)[k.toNat]? = some (V.int (cellI ns k)) := by
    rw [List.getElem?_map]
    unfold cellI
    rw [List.getElem?_eq_getElem hl]
    rfl
  have := atI_nat q
  rw [e] at this
  exact this
theorem cellAt_none {ns : List Int} {k : Int} (h0 : 0 ≤ k) (h : ¬ k < ns.length) : cellI ns k = 0 := by
  unfold cellI
  rw [List.getElem?_eq_none (by omega)]
  rfl
def spWhole : Sp := fun vs H Q _ => ∃ n, vs = [.int n] ∧ Q (.bl true) H
theorem kit_int_int {K : PySem.W.Frag} : PySem.W.kitOne K (.type "int") (.type "int") = some true := by rfl
theorem kit_int_bool {K : PySem.W.Frag} : PySem.W.kitOne K (.type "int") (.type "bool") = some false := by first | rfl | decide
end L2
namespace L2
theorem seq_step {t u : TS} {D : Ends} {σ : St} {H : Hp} (h : ∀ R : St → Hp → Prop, (∀ σ H, u D σ H → R σ H) → t { D with nx := R } σ H) : tSeq t u D σ H := h (u D) fun _ _ x => x
end L2
namespace L2
open PySem PySem.Spec PyProof.Rows
theorem spCell_of {K : PySem.W.Frag} {H : Hp} {a : Addr} {ns : List Int} {k : Int} {Q : VK} {E : XK} (hS : SqL K H a (ns.map V.int)) (h0 : 0 ≤ k) (q : Q (.int (cellI ns k)) H) : spCell K [.ref a, .int k] H Q E := ⟨a, ns, k, rfl, hS, h0, q⟩
end L2
namespace L2
theorem cmulL_lit {a b : Int} (h1 : a.natAbs < 1606938044258990275541962092341162602522202993782792835301376) (h2 : b.natAbs < 1606938044258990275541962092341162602522202993782792835301376) : CMulL a b := ⟨Sw.Sz.lit h1, Sw.Sz.lit h2⟩
theorem cdivL_lit {a b : Int} (h0 : 0 < b) (h2 : b.natAbs < 1606938044258990275541962092341162602522202993782792835301376) : CDivL a b := ⟨h0, Sw.Sz.lit h2⟩
end L2
namespace L2
open PySem
theorem line_lit {n : Nat} (h : n ≤ 1000) : n ≤ sizeLine := Nat.le_trans h (by decide)
theorem line_lt {n : Nat} (h : n < 1000) : n < sizeLine := Nat.lt_of_lt_of_le h (by decide)
end L2
namespace L2
open PySem
theorem ixT_at {K : PySem.W.Frag} {H : Hp} {p : Addr} {xs : List V} {i : Int} {v : V} {Q : VK} (hT : SqT K H p xs) (h : atI xs i = some v) (q : Q v H) : rIxT K (.ref p) (.int i) H Q := ⟨p, xs, i, v, rfl, rfl, hT, h, q⟩
theorem ixL_at {K : PySem.W.Frag} {H : Hp} {p : Addr} {xs : List V} {i : Int} {v : V} {Q : VK} (hT : SqL K H p xs) (h : atI xs i = some v) (q : Q v H) : rIxL K (.ref p) (.int i) H Q := ⟨p, xs, i, v, rfl, rfl, hT, h, q⟩
end L2
namespace L2
open PySem PySem.Spec PyProof.Rows
theorem kit_tuple {K : PySem.W.Frag} : PySem.W.kitOne K (.type "tuple") (.type "tuple") = some true := by rfl
end L2
namespace L2
theorem iteN {c A B : Prop} [Decidable c] (hc : ¬ c) (h : B) : if c then A else B := by rw [if_neg hc]; exact h
end L2
namespace L2
end L2
namespace L2
open PySem PySem.Spec PyProof.Rows
mutual
inductive Deep (K : PySem.W.Frag) (H : Hp) : V → PyData → Prop
  | non : Deep K H .non .none
  | bl (b : Bool) : Deep K H (.bl b) (.bool b)
  | int (i : Int) : Deep K H (.int i) (.int i)
  | str (x : Str) : Deep K H (.str x) (.str x)
  | tup {a : Addr} {xs : List V} {ds : List PyData} : SqT K H a xs → DeepAll K H xs ds → Deep K H (.ref a) (.tuple ds)
  | lst {a : Addr} {xs : List V} {ds : List PyData} : SqL K H a xs → DeepAll K H xs ds → Deep K H (.ref a) (.list ds)
inductive DeepAll (K : PySem.W.Frag) (H : Hp) : List V → List PyData → Prop
  | nil : DeepAll K H [] []
  | cons {x : V} {d : PyData} {xs : List V} {ds : List PyData} : Deep K H x d → DeepAll K H xs ds → DeepAll K H (x :: xs) (d :: ds)
end
section
variable {X : Cx} {pins : List (Addr × Obj)} {σ : St} {H : Hp} {s : Shared}
mutual
theorem deep_reads (I : Inv X pins σ H s) : ∀ {x : V} {d : PyData} {u : Value}, Deep X.K H x d → RelV x u → ∃ as, Reads s.heap u d as
  | _, _, u, .non, r => by cases (show u = Value.none from r); exact ⟨_, .none⟩
  | _, _, u, .bl b, r => by cases (show u = Value.bool b from r); exact ⟨_, .bool b⟩
  | _, _, u, .int i, r => by obtain ⟨t, rfl⟩ := (show ∃ t, u = Value.int i t from r); exact ⟨_, .int i t⟩
  | _, _, u, .str x, r => by obtain ⟨t, rfl⟩ := (show ∃ t, u = Value.str x t from r); exact ⟨_, .str x t⟩
  | _, _, u, .tup (a := a) q h, r => by
    cases (show u = Value.ref a from r)
    obtain ⟨its, rv, ⟨o, e, c, n, d⟩, hz⟩ := I.tuple q
    obtain ⟨as, ra⟩ := deep_readsAll I h rv
    exact ⟨as, reads_tuple_at e c d (by simpa using ra)⟩
  | _, _, u, .lst (a := a) q h, r => by
    cases (show u = Value.ref a from r)
    obtain ⟨its, rv, ⟨o, n, e, c, _, d⟩, hz⟩ := I.list q
    obtain ⟨as, ra⟩ := deep_readsAll I h rv
    exact ⟨_, reads_list_at e c d (by simpa using ra)⟩
theorem deep_readsAll (I : Inv X pins σ H s) : ∀ {xs : List V} {ds : List PyData} {us : List Value}, DeepAll X.K H xs ds → Vals xs us → ∃ as, ReadsAll s.heap us ds as
  | _, _, _, .nil, .nil => ⟨_, .nil⟩
  | _, _, _, .cons d h, .cons r t => by
    obtain ⟨as, q⟩ := deep_reads I d r
    obtain ⟨bs, p⟩ := deep_readsAll I h t
    exact ⟨_, .cons q p⟩
end
end
section
variable {X : Cx}
def rEqD (K : PySem.W.Frag) : R2 := fun x y H Q => ∃ d e, Deep K H x d ∧ Deep K H y e ∧ PySem.SeqAt.shaped d = true ∧ PySem.SeqAt.shaped e = true ∧ Q (.bl (PyData.eqv d e)) H
def rNeD (K : PySem.W.Frag) : R2 := fun x y H Q => ∃ d e, Deep K H x d ∧ Deep K H y e ∧ PySem.SeqAt.shaped d = true ∧ PySem.SeqAt.shaped e = true ∧ Q (.bl (!PyData.eqv d e)) H
theorem op_eqD (hu : X.A.units + 64 < cLine) : OpR X (compareOp .Eq) (rEqD X.K) := by
  intro pins s σ H x y v u Q I rx ry h
  obtain ⟨d, e, hd, he, sd, se, q⟩ := h
  obtain ⟨as, ra⟩ := deep_reads I hd rx
  obtain ⟨bs, rb⟩ := deep_reads I he ry
  exact eq_dataH ra rb sd se hu ⟨.bl _, H, I, rfl, q⟩
theorem op_neD (hu : X.A.units + 64 < cLine) : OpR X (compareOp .NotEq) (rNeD X.K) := by
  intro pins s σ H x y v u Q I rx ry h
  obtain ⟨d, e, hd, he, sd, se, q⟩ := h
  obtain ⟨as, ra⟩ := deep_reads I hd rx
  obtain ⟨bs, rb⟩ := deep_reads I he ry
  exact ne_dataH ra rb sd se hu ⟨.bl _, H, I, rfl, q⟩
end
theorem Same.seqT {K : PySem.W.Frag} {H H' : Hp} {a : Addr} {xs : List V} (e : Same H H') (h : SqT K H a xs) : SqT K H' a xs := by
  rcases h with h | h
  · refine .inl ?_
    rcases h with h | ⟨o, h⟩
    · exact .inl (e _ _ h)
    · exact .inr ⟨o, e _ _ h⟩
  · exact .inr h
theorem DeepAll.ints {K : PySem.W.Frag} {H : Hp} : ∀ ns : List Int, DeepAll K H (ns.map V.int) (ns.map PyData.int)
  | [] => .nil
  | n :: r => .cons (.int n) (DeepAll.ints r)
theorem same_new {H : Hp} {a : Addr} {o : HO} (h : H a = none) : Same H (upd H a o) := fun b u e => by rw [upd_ne (ne_of_none e h)]; exact e
end L2
namespace L2
open PySem PySem.Spec PyProof.Rows
def Ite (K : PySem.W.Frag) (a : Addr) : It :=
  ⟨fun i H => ∃ xs x, SqL K H a xs ∧ xs[i]? = some x,
   fun i H y H' => ∃ p x, y = .ref p ∧ H p = none ∧ (∀ xs, SqL K H a xs → xs[i]? = some x) ∧ H' = upd H p (.tup [.int i, x]),
   fun i H => ∃ xs, SqL K H a xs ∧ xs.length ≤ i⟩
section
variable {X : Cx}
def iEnum (K : PySem.W.Frag) (ta : TA) : TI := fun σ H R => ta σ H fun vs H1 => ∃ a, vs = [.ref a] ∧ (∃ xs, SqL K H1 a xs) ∧ R (Ite K a) H1
end
section
variable {prog : Program} {w : World} {A : Around} {R : Result → Shared → Prop} {s : Shared}
theorem codeAny_compLoop_go {elt target iter : Expr} {ifs : List Expr} {scope : Scope} {pos : Pos} {it acc : Value} {env : Env} (I : Nat → Shared → Prop)
    (turn : ∀ n s, I n s → wpAny (model prog w) A (pyNext it) (fun r s₁ => match r with
      | none => R (.ok .next) s₁
      | some v => wpAny (model prog w) A (letOwnedTupleGo target it v) (fun _ s₁' => wpAny (model prog w) A (assign target env v) (fun _ s₂ =>
          wpAny (model prog w) A (forIn ifs true fun c r => if r = true then do let ok ← isTrue c env (eval c env); pure (ForInStep.yield ok) else pure (ForInStep.yield r)) (fun ok s₃ =>
            if ok = true then wpAny (model prog w) A (eval elt env) (fun x s₄ =>
              wpAny (model prog w) A (call (.builtin "list.append") [acc, x]) (fun _ s₅ => ∃ m, m < n ∧ I m s₅) (notedBy (model prog w) A env fun e s' => R (.error e) s') s₄) (notedBy (model prog w) A env fun e s' => R (.error e) s') s₃
            else ∃ m, m < n ∧ I m s₃) (notedBy (model prog w) A env fun e s' => R (.error e) s') s₂) (notedBy (model prog w) A env fun e s' => R (.error e) s') s₁') (notedBy (model prog w) A env fun e s' => R (.error e) s') s₁) (notedBy (model prog w) A env fun e s' => R (.error e) s') s)
    (n : Nat) (h : I n s) :
    codeAny (model prog w) A (.compLoop (.ListComp elt [⟨target, iter, ifs, 0⟩] scope pos) 0 it acc env) R s := by
  refine codeAny_loop rfl I (fun n s hI => ?_) n h
  show wpAny _ A ((compTurn (.ListComp elt [⟨target, iter, ifs, 0⟩] scope pos) 0 it acc env).onRaise (fun x => do noteFrame x env; theTreesLotGoes x)) _ _ s
  refine wpAny_noted ?_
  rw [compTurn_list]
  refine wpAny_bind (wpAny_standAt (wpAny_bind (wpAny_mono (turn n s hI) (fun r s₁ h₁ => ?_) fun _ _ h' => h')))
  cases r with
  | none => exact wpAny_pure h₁
  | some v =>
    refine wpAny_bind (wpAny_mono h₁ (fun _ s₁' h₁' => ?_) fun _ _ h' => h')
    refine wpAny_bind (wpAny_mono h₁' (fun _ s₂ h₂ => wpAny_bind (wpAny_mono h₂ (fun ok s₃ h₃ => ?_) fun _ _ h' => h')) fun _ _ h' => h')
    cases ok with
    | false => exact wpAny_pure ⟨rfl, h₃⟩
    | true =>
      exact wpAny_bind (wpAny_bind (wpAny_mono h₃ (fun x s₄ h₄ => wpAny_bind (wpAny_mono h₄ (fun _ s₅ h₅ => wpAny_pure (wpAny_pure ⟨rfl, h₅⟩)) fun _ _ h' => h')) fun _ _ h' => h'))
end
def cxComp (X : Cx) (scope : Scope) (cl : List (Str × Addr)) (N : List Str) (fp : List Addr) (s : Shared) (H : Hp) : Cx :=
  { X with N := N, s₀ := s, H₀ := H, env := compEnvC scope cl s.heap.objs.size X.env, outer := X.stack, stack := X.stack, ex := fp, fn := fun _ => false, pn := [], xe := fun _ _ => False }
def FrOk (X : Cx) (sc : Scope) : List (Str × Nat) → Prop
  | [] => True
  | p :: r => (X.N[p.2]? = some p.1 ∧ sc.names.lookup p.1 = some .cell ∧ X.env.kindOf p.1 = some .cell) ∧ FrOk X sc r
theorem FrOk.mem {X : Cx} {sc : Scope} : ∀ {l : List (Str × Nat)}, FrOk X sc l → ∀ p ∈ l, X.N[p.2]? = some p.1 ∧ sc.names.lookup p.1 = some .cell ∧ X.env.kindOf p.1 = some .cell
  | [], _, p, hp => nomatch hp
  | q :: r, h, p, hp => by
    rcases List.mem_cons.mp hp with e | hp
    · rw [e]; exact h.1
    · exact FrOk.mem h.2 p hp
def PIfs (X : Cx) (ifs : List Expr) (t : TT) : Prop :=
  ∀ (pins : List (Addr × Obj)) (s : Shared) (σ : St) (H : Hp) (Q : Bool → Hp → Prop), Inv X pins σ H s → t σ H Q →
    wpAny (model X.prog X.w) X.A (forIn ifs true fun c r => if r = true then do let ok ← isTrue c X.env (eval c X.env); pure (ForInStep.yield ok) else pure (ForInStep.yield r)) (TP X pins σ Q) X.xe s
def tYes : TT := fun _ H Q => Q true H
theorem pifs_nil {X : Cx} : PIfs X [] tYes := fun _ _ _ H _ I h => wpAny_tests_nil ⟨H, I, h⟩
theorem pifs_one {X : Cx} {c : Expr} {t : TT} (hc : PT X c t) : PIfs X [c] t := fun pins s σ H Q I h => wpAny_tests_one (hc pins s σ H Q I h)
def tComp (nt : Nat) (fr : List (Str × Nat)) (wi : TI) (g : TG) (tc : TT) (te : TE) : TE := fun σ H Q => wi σ H fun J H1 => ∀ D, H1 D = none → ∃ W : Nat → Nat → St → Hp → Prop,
  (∃ m, W 0 m (List.replicate nt none ++ fr.map fun p => (σ[p.2]?).join) (upd H1 D (.lst []))) ∧ ∀ i m τ H', W i m τ H' →
    (J.stop i H' ∧ Q (.ref D) H') ∨ (J.go i H' ∧ ∃ N : St → Hp → Prop, (∀ τ' H'', N τ' H'' → ∃ m', m' < m ∧ W (i + 1) m' τ' H'') ∧
      ∀ x H2, J.yld i H' x H2 → g x τ H2 fun τ2 H3 => tc τ2 H3 fun b H4 => if b = true then te τ2 H4 fun y H5 => ∃ ys, H5 D = some (.lst ys) ∧ ys.length < sizeLine ∧ N τ2 (upd H5 D (.lst (ys ++ [y]))) else N τ2 H4)
section
variable {X : Cx}
theorem cx_start {scope : Scope} {cl : List (Str × Addr)} {ts : List Str} {fr : List (Str × Nat)} {fp : List Addr} {pins : List (Addr × Obj)} {σ : St} {H : Hp} {s : Shared} {h' : Heap} {m : Str → Option Value} {t' : Nat} (I : Inv X pins σ H s)
    (hkind : scope.kind = .function) (hcl : ∀ x c, cl.lookup x = some c → X.env.cells.lookup x = some c)
    (hhas : ∀ x, ((relabel scope X.env).names.lookup x = some .cell ∨ (relabel scope X.env).names.lookup x = some .free) → ∃ c, cl.lookup x = some c) (hfr : FrOk X (relabel scope X.env) fr)
    (hfp : ∀ b ∈ fp, FpOk X pins H b ∧ b < s.heap.objs.size) (hn : h'.Ns s.heap.objs.size m) (hk : ∀ b o, s.heap.get? b = some o → h'.get? b = some o) :
    Inv (cxComp X scope cl (ts ++ fr.map (·.1)) fp s H) [] (List.replicate ts.length none ++ fr.map fun p => (σ[p.2]?).join) H { s with heap := h', toks := t' } := by
  have cellK : ∀ c v, s.heap.IsCell c v → h'.IsCell c v := fun c v ⟨o, ho, hd⟩ => ⟨o, hk c o ho, hd⟩
  refine ⟨⟨I.ok.mod, hkind, I.ok.glob, I.ok.blt, Nat.le_refl _, fun x y c h1 h2 => I.ok.inj x y c (hcl x c h1) (hcl y c h2), hhas, fun x c h => (by cases h), I.ok.hd, I.ok.frames, .inl rfl, fun b hb => ?_, I.bs, Nat.le_trans I.ok.bsz I.sz, fun b o e hb => ?_, fun b hb z => ?_, I.stack, I.stkFree⟩,
    rfl, I.bare, Un.kept hk, ⟨m, hn, fun i x v e1 e2 e3 => ?_⟩, fun x c e => ?_, I.hok.fresh (Nat.le_refl _), fun x c e => I.freeC x c (hcl x c e), fun p hp => absurd (show p ∈ ([] : List (Addr × Obj)) from hp) (by simp), I.hok.kept hk, ?_⟩
  · obtain ⟨f, lt⟩ := hfp b hb
    exact ⟨Nat.ne_of_lt lt, fun x c e => f.2.2.2.2.1 x c (hcl x c e)⟩
  · obtain ⟨f, lt⟩ := hfp b hb
    rcases f.2.2.2.1 with z | z
    · exact I.ok.noex b o e z
    · exact absurd (Nat.lt_of_lt_of_le (Heap.lt_size e) (Nat.le_trans I.ok.bsz z)) (Nat.lt_irrefl _)
  · obtain ⟨f, lt⟩ := hfp b hb
    rcases List.mem_cons.mp (I.stkSub b z) with y | y
    · exact f.2.1 y
    · exact f.2.2.1 y
  · have hlen : (List.replicate ts.length (none : Option V)).length = ts.length := by simp
    by_cases hi : i < ts.length
    · rw [List.getElem?_append_left (by rw [hlen]; exact hi), List.getElem?_replicate, if_pos hi] at e2
      cases e2
    · rw [List.getElem?_append_right (by rw [hlen]; omega), hlen, List.getElem?_map] at e2
      have e1' : (ts ++ fr.map (·.1))[i]? = some x := e1
      rw [List.getElem?_append_right (by omega), List.getElem?_map] at e1'
      cases ep : fr[i - ts.length]? with
      | none => rw [ep] at e2; cases e2
      | some p =>
        rw [ep] at e1' e2
        have ex : p.1 = x := Option.some.inj e1'
        have ev : (σ[p.2]?).join = some v := Option.some.inj e2
        obtain ⟨a1, a2, a3⟩ := hfr.mem p (List.mem_of_getElem? ep)
        have ev' : σ[p.2]? = some (some v) := by
          cases q : σ[p.2]? with
          | none => rw [q] at ev; cases ev
          | some o => rw [q] at ev; cases o with
            | none => cases ev
            | some v' => cases ev; rfl
        obtain ⟨m', hn', hl'⟩ := I.loc
        obtain ⟨u, ru, lk⟩ := hl' p.2 p.1 v a1 ev' (.inr (.inl a3))
        subst ex
        refine ⟨u, ru, ?_⟩
        rcases lk with ⟨z, _⟩ | ⟨_, c, ec, z⟩
        · rw [z] at a3; cases a3
        · obtain ⟨c', ec'⟩ := hhas p.1 (.inl a2)
          have ecc : c' = c := Option.some.inj ((hcl _ _ ec').symm.trans ec)
          exact .inr ⟨.inl a2, c', ec', (by rw [ecc]; exact cellK _ _ z)⟩
  · obtain ⟨v, z⟩ := I.cell x c (hcl x c e)
    exact ⟨v, cellK _ _ z⟩
  · show _ = (ts ++ fr.map (·.1)).length
    simp
theorem pe_comp {elt target iter : Expr} {ifs : List Expr} {scope : Scope} {pos : Pos} {cl : List (Str × Addr)} {ts : List Str} {fr : List (Str × Nat)} {wi : TI} {g : TG} {tc : TT} {te : TE} (hcalm : X.calm = true)
    (hclos : closureFor scope X.env = pure cl) (hcell : ∀ y ∈ scope.names, y.2 ≠ .cell) (hkind : scope.kind = .function) (hnames : ∀ y ∈ scope.names, y.2 = .local → scope.names.lookup y.1 = some .local)
    (hcl : ∀ x c, cl.lookup x = some c → X.env.cells.lookup x = some c)
    (hhas : ∀ x, ((relabel scope X.env).names.lookup x = some .cell ∨ (relabel scope X.env).names.lookup x = some .free) → ∃ c, cl.lookup x = some c) (hfr : FrOk X (relabel scope X.env) fr)
    (hi : PI X target iter wi) (hg : ∀ fp s H, PG (cxComp X scope cl (ts ++ fr.map (·.1)) fp s H) target g) (hc : ∀ fp s H, PIfs (cxComp X scope cl (ts ++ fr.map (·.1)) fp s H) ifs tc)
    (he : ∀ fp s H, PE (cxComp X scope cl (ts ++ fr.map (·.1)) fp s H) elt te) (hs : ∀ x, foldedSetIterable iter X.env x = pure x := by intro _; rfl) :
    PE X (.ListComp elt [⟨target, iter, ifs, 0⟩] scope pos) (tComp ts.length fr wi g tc te) := by
  intro pins s σ H Q I h
  rw [eval_ListComp]
  refine wpAny_comprehension_free (use := none) rfl hs hclos hkind hnames (thn (hi pins s σ H _ I h) fun xv s1 h1 => thn h1 fun itv s2 h2 => ?_)
  obtain ⟨it, fp, tn, J, H2, rfl, I2, T, st2, f2, hR⟩ := h2
  have D0 : H2 s2.heap.objs.size = none := I2.hok.fresh (Nat.le_refl _)
  obtain ⟨W, ⟨m0, w0⟩, turn⟩ := hR s2.heap.objs.size D0
  refine wpAny_newObj_type (wpAny_newFunctionEnv hcell (by intro y hy; simp at hy) (fun h₁ hns₁ hsb₁ => ?_) hkind)
  dsimp only at hns₁ hsb₁ ⊢
  have I3 : Inv X pins σ (upd H2 s2.heap.objs.size (.lst [])) { s2 with heap := s2.heap.push { cls := .type "list", dict := none, data := .seq ([] : List Value).toArray } } :=
    I2.laid (t' := s2.toks) (fun _ _ q => Heap.get?_push_of_some _ q) (Nat.le_refl _) ⟨Nat.zero_le _, [], 0, .nil, Heap.get?_push_size _ rfl⟩
  have kp3 : ∀ b o, s2.heap.get? b = some o → (s2.heap.push { cls := .type "list", dict := none, data := .seq ([] : List Value).toArray }).get? b = some o := fun b o q => Heap.get?_push_of_some _ q
  have sz3 : (s2.heap.push { cls := .type "list", dict := none, data := .seq ([] : List Value).toArray }).objs.size = s2.heap.objs.size + 1 := Heap.size_push ..
  generalize s2.heap.push { cls := .type "list", dict := none, data := .seq ([] : List Value).toArray } = hp3 at hns₁ hsb₁ I3 kp3 sz3 ⊢
  have kp : ∀ b o, hp3.get? b = some o → h₁.get? b = some o := fun b o e => hsb₁.extBut b o (Nat.ne_of_lt (Heap.lt_size e)) (Heap.get?_push_of_some _ e)
  have flt : ∀ b ∈ fp, b < s2.heap.objs.size := fun b hb => by
    obtain ⟨o, e, _⟩ := T.obj _ _ st2 b hb
    exact Heap.lt_size e
  have fr3 : ∀ b ∈ fp, (upd H2 s2.heap.objs.size (.lst [])) b = none := fun b hb => by rw [upd_ne (Nat.ne_of_lt (flt b hb))]; exact (f2 b hb).1
  have f3 : ∀ b ∈ fp, FpOk X pins (upd H2 s2.heap.objs.size (.lst [])) b ∧ b < hp3.objs.size := fun b hb => ⟨⟨fr3 b hb, (f2 b hb).2⟩, by rw [sz3]; exact Nat.lt_succ_of_lt (flt b hb)⟩
  have I4 := cx_start (ts := ts) (t' := s2.toks + ([] : List (Str × Value)).length) I3 hkind hcl hhas hfr f3 hns₁ kp
  have st4 : tn 0 h₁ := T.keep _ _ _ st2 fun b hb o e => kp b o (kp3 b o e)
  have loop : codeAny (model X.prog X.w) X.A (.compLoop (.ListComp elt [⟨target, iter, ifs, 0⟩] scope pos) 0 (.ref it) (.ref s2.heap.objs.size) (compEnvC scope cl hp3.objs.size X.env))
      (compPost (model X.prog X.w) X.A X.xe none (EP X pins σ Q) (.ref s2.heap.objs.size) hp3.objs.size) { s2 with heap := h₁, toks := s2.toks + ([] : List (Str × Value)).length } := by
    refine codeAny_compLoop_go (fun n s' => ∃ i τ H', Inv (cxComp X scope cl (ts ++ fr.map (·.1)) fp { s2 with heap := hp3 } (upd H2 s2.heap.objs.size (.lst []))) [] τ H' s' ∧ tn i s'.heap ∧ (∀ b ∈ fp, H' b = none) ∧ W i n τ H') ?_ m0 ⟨0, _, _, I4, st4, fr3, w0⟩
    rintro n s5 ⟨i, τ, H5, I5, st5, fr5, w5⟩
    have stat : ∀ {H' : Hp}, (∀ b ∈ fp, H' b = none) → ∀ b ∈ fp, FpOk (cxComp X scope cl (ts ++ fr.map (·.1)) fp { s2 with heap := hp3 } (upd H2 s2.heap.objs.size (.lst []))) [] H' b :=
      fun hn b hb => ⟨hn b hb, (I5.ok.exf b hb).1, I5.ok.exfs b hb, .inl hb, (I5.ok.exf b hb).2, fun p hp => absurd (show p ∈ ([] : List (Addr × Obj)) from hp) (by simp)⟩
    rcases turn i n τ H5 w5 with ⟨stop, qn⟩ | ⟨go, Nn, hN, step⟩
    · refine thn (T.done (cxComp X scope cl (ts ++ fr.map (·.1)) fp { s2 with heap := hp3 } (upd H2 s2.heap.objs.size (.lst []))) rfl rfl rfl hcalm i [] s5 τ H5 _ I5 (stat fr5) st5 stop) fun r s6 ⟨hr, I6⟩ => ?_
      subst hr
      obtain ⟨m, hn, _⟩ := I6.loc
      refine ⟨m, hn, fun h' hs' => ⟨.ref s2.heap.objs.size, H5, ?_, rfl, qn⟩⟩
      have neC : ∀ b o, hp3.get? b = some o → b ≠ hp3.objs.size := fun b o e => Nat.ne_of_lt (Heap.lt_size e)
      have hs'' : Heap.SameBut hp3.objs.size s6.heap h' := hs'
      refine I3.call' (s' := { s6 with heap := h' }) (ch := fp) I6.os ⟨fun b o e n hb hx => ?_, fun b o e n hb hx => ?_, I6.base.free, fun b o e hx => ?_, I6.base.tups, I6.base.frzs, I6.base.tbls⟩ (fun b ob e => ?_) I6.bare (fun b hb => ?_)
      · exact (hs''.2 b (neC b o e)).trans (I6.base.keep b o e n hb hx)
      · obtain ⟨sl, q⟩ := I6.base.slot b o e n hb hx
        exact ⟨sl, (hs''.2 b (neC b o e)).trans q⟩
      · obtain ⟨o', q⟩ := I6.base.there b o e hx
        exact ⟨o', (hs''.2 b (neC b o e)).trans q⟩
      · refine (I6.hok b ob e).stay (fun c v hc q => (hs''.2 c ?_).trans q) (fun _ q => q) fun _ _ q => q
        intro z
        have fz : H5 hp3.objs.size = none := I6.free
        rcases hc with y | y
        · rw [← y, z, fz] at e; cases e
        · rw [z, fz] at y; cases y
      · exact ⟨(f2 b hb).2.2.2.1, (f2 b hb).2.1, (f2 b hb).2.2.2.2.1, (f2 b hb).2.2.2.2.2⟩
    · refine thn (T.item (cxComp X scope cl (ts ++ fr.map (·.1)) fp { s2 with heap := hp3 } (upd H2 s2.heap.objs.size (.lst []))) rfl rfl rfl hcalm i [] s5 τ H5 _ I5 (stat fr5) st5 go) fun r s6 ⟨u, hr, h6⟩ => ?_
      subst hr
      refine thn h6 fun _ s7 ⟨x, H7, I7, r7, y7, st7, fr7⟩ => ?_
      have I7' := I7.pinned (stat fr7) (T.obj _ _ st7)
      refine wpAny_mono (hg fp _ _ _ s7 τ H7 x u _ I7' r7 (step x H7 y7)) (fun _ s8 ⟨τ8, H8, I8, q8⟩ => ?_) fun _ _ z => False.elim z
      have again : ∀ {τ9 : St} {H9 : Hp} {s9 : Shared}, Inv (cxComp X scope cl (ts ++ fr.map (·.1)) fp { s2 with heap := hp3 } (upd H2 s2.heap.objs.size (.lst []))) ([] ++ pinsAt fp s7.heap) τ9 H9 s9 → Nn τ9 H9 →
          ∃ m, m < n ∧ ∃ i τ H', Inv (cxComp X scope cl (ts ++ fr.map (·.1)) fp { s2 with heap := hp3 } (upd H2 s2.heap.objs.size (.lst []))) [] τ H' s9 ∧ tn i s9.heap ∧ (∀ b ∈ fp, H' b = none) ∧ W i m τ H' := fun {τ9 H9 s9} I9 n9 => by
        obtain ⟨m', hm, w9⟩ := hN τ9 H9 n9
        refine ⟨m', hm, i + 1, τ9, H9, I9.unpinned, T.keep _ _ _ st7 fun b hb o e => (I9.pin (b, o) (List.mem_append_right _ (List.mem_append_right _ (mem_pinsAt hb e)))).1, fun b hb => ?_, w9⟩
        obtain ⟨o, e, d⟩ := T.obj _ _ st7 b hb
        exact (I9.pin (b, o) (List.mem_append_right _ (List.mem_append_right _ (mem_pinsAt hb e)))).2.1
      refine wpAny_mono (hc fp _ _ _ s8 τ8 H8 _ I8 q8) (fun ok s9 ⟨H9, I9, q9⟩ => ?_) fun _ _ z => False.elim z
      cases ok with
      | false => exact again I9 q9
      | true =>
        refine wpAny_mono (he fp _ _ _ s9 τ8 H9 _ I9 q9) (fun y s10 ⟨v, H10, I10, rv, ys, hD, hl, qN⟩ => ?_) fun _ _ z => False.elim z
        refine wpAny_mono (mt_append (X := cxComp X scope cl (ts ++ fr.map (·.1)) fp { s2 with heap := hp3 } (upd H2 s2.heap.objs.size (.lst []))) _ s10 τ8 H10 (.ref s2.heap.objs.size) [v] (.ref s2.heap.objs.size) [y] (fun _ H => Nn τ8 H) I10 rfl (.cons rv .nil) ⟨_, ys, v, rfl, rfl, hD, hl, qN⟩) (fun _ s11 ⟨_, H11, I11, _, q11⟩ => again I11 q11) fun _ _ z => False.elim z
  exact codeAny_compStart_list loop (T.self X.A 0 _ _ _ st4 loop)
end
end L2
namespace L2
open PySem PySem.Spec PyProof.Rows
section
variable {X : Cx} {tg : Expr}
theorem ix_listK (K : PySem.W.Frag) (h : X.K = K) : IxR X (rIxL K) := h ▸ ix_list
theorem ix_tupK (K : PySem.W.Frag) (h : X.K = K) : IxR X (rIxT K) := h ▸ ix_tup
def rLen (K : PySem.W.Frag) : List V → Hp → VK → Prop := fun xs H Q => ∃ p ys, xs = [.ref p] ∧ (SqL K H p ys ∨ SqT K H p ys) ∧ Q (.int ys.length) H
theorem call_lenK (K : PySem.W.Frag) (h : X.K = K) : CallR X (.builtin "len") (rLen K) := h ▸ call_len_seq
def rInst (K : PySem.W.Frag) : List V → Hp → VK → Prop := fun xs H Q => ∃ x c t cv b, xs = [x, c] ∧ clsV c = some cv ∧ TyOf K H x t ∧ PySem.W.kitOne K t cv = some b ∧ Q (.bl b) H
theorem call_isinstK (K : PySem.W.Frag) (h : X.K = K) : CallR X (.builtin "isinstance") (rInst K) := h ▸ call_isinst
theorem pg_tupK (K : PySem.W.Frag) (h : X.K = K) {es : List Expr} {k : Nat} {pos : Pos} {t : TGs} {n : Nat} (hc : X.calm = true) (hq : PGs X es t)
    (hn : (assignEach es X.env).length = n := by rfl) (hst : (assignEach es X.env).findIdx? (·.1) = none := by rfl) : PG X (.Tuple es k pos) (gTup K n t) := h ▸ pg_tup hc hq hn hst
theorem pi_tupK (K : PySem.W.Frag) (h : X.K = K) {l : Expr} {tl : TE} (hl : PE X l tl) : PI X tg l (iTup K tl) := h ▸ pi_tup hl
end
def ClOk (env : Env) : List (Str × Addr) → Prop
  | [] => True
  | p :: r => env.cells.lookup p.1 = some p.2 ∧ ClOk env r
theorem ClOk.get {env : Env} : ∀ {cl : List (Str × Addr)}, ClOk env cl → ∀ x c, cl.lookup x = some c → env.cells.lookup x = some c
  | [], _, x, c, e => by cases e
  | p :: r, h, x, c, e => by
    obtain ⟨k, a⟩ := p
    rw [List.lookup_cons] at e
    by_cases q : x = k
    · subst q
      rw [beq_self_eq_true] at e
      cases e
      exact h.1
    · rw [beq_eq_false_iff_ne.mpr q] at e
      exact ClOk.get h.2 x c e
def clAll (ns : List (Str × NameKind)) (cl : List (Str × Addr)) : Bool := ns.all fun y => match y.2 with
  | .cell => (cl.lookup y.1).isSome
  | .free => (cl.lookup y.1).isSome
  | _ => true
theorem clAll_get {ns : List (Str × NameKind)} {cl : List (Str × Addr)} (h : clAll ns cl = true) (x : Str) (q : ns.lookup x = some .cell ∨ ns.lookup x = some .free) : ∃ c, cl.lookup x = some c := by
  unfold clAll at h
  rw [List.all_eq_true] at h
  rcases q with q | q
  · have := h _ (PySem.mem_of_lookup q)
    exact Option.isSome_iff_exists.mp this
  · have := h _ (PySem.mem_of_lookup q)
    exact Option.isSome_iff_exists.mp this
theorem pe_lc {X : Cx} {elt target iter : Expr} {ifs : List Expr} {scope : Scope} {pos : Pos} {cl : List (Str × Addr)} (ts : List Str) (fr : List (Str × Nat)) {wi : TI} {g : TG} {tc : TT} {te : TE} (hcalm : X.calm = true)
    (hclos : closureFor scope X.env = pure cl) (hcell : ∀ y ∈ scope.names, y.2 ≠ .cell) (hkind : scope.kind = .function) (hnames : ∀ y ∈ scope.names, y.2 = .local → scope.names.lookup y.1 = some .local)
    (hcl : ClOk X.env cl) (hhas : clAll (relabel scope X.env).names cl = true) (hfr : FrOk X (relabel scope X.env) fr)
    (hi : PI X target iter wi) (hg : ∀ fp s H, PG (cxComp X scope cl (ts ++ fr.map (·.1)) fp s H) target g) (hc : ∀ fp s H, PIfs (cxComp X scope cl (ts ++ fr.map (·.1)) fp s H) ifs tc)
    (he : ∀ fp s H, PE (cxComp X scope cl (ts ++ fr.map (·.1)) fp s H) elt te) (hs : ∀ x, foldedSetIterable iter X.env x = pure x := by intro _; rfl) :
    PE X (.ListComp elt [⟨target, iter, ifs, 0⟩] scope pos) (tComp ts.length fr wi g tc te) :=
  pe_comp hcalm hclos hcell hkind hnames hcl.get (fun x q => clAll_get hhas x q) hfr hi hg hc he hs
end L2
namespace L2
open PySem PySem.Spec PyProof.Rows
def rAll (K : PySem.W.Frag) : List V → Hp → VK → Prop := fun xs H Q => ∃ (p : Addr) (bs : List Bool), xs = [.ref p] ∧ SqL K H p (bs.map V.bl) ∧ Q (.bl (bs.all id)) H
theorem bools_of {bs : List Bool} : ∀ {us : List Value}, Vals (bs.map V.bl) us → us = bs.map Value.bool := by
  induction bs with
  | nil => intro us r; cases r; rfl
  | cons b r ih =>
    intro us h
    cases h with
    | cons h1 h2 => rw [show _ = Value.bool b from h1, ih h2]; rfl
theorem range_all {bs : List Bool} (f : Nat → Bool) (h : ∀ i, i < bs.length → f i = bs.getD i false) : (List.range bs.length).all f = bs.all id := by
  rw [Bool.eq_iff_iff, List.all_eq_true, List.all_eq_true]
  constructor
  · intro q b hb
    obtain ⟨i, hi, e⟩ := List.getElem_of_mem hb
    have := q i (List.mem_range.mpr hi)
    rw [h i hi] at this
    rw [← e]
    simpa [List.getD_eq_getElem?_getD, hi] using this
  · intro q i hi
    have hi := List.mem_range.mp hi
    rw [h i hi]
    have := q bs[i] (List.getElem_mem hi)
    simpa [List.getD_eq_getElem?_getD, hi] using this
section
variable {X : Cx}
theorem walk_bools {pins : List (Addr × Obj)} {s : Shared} {σ : St} {H : Hp} {p : Addr} {bs : List Bool} {Q : Value → Shared → Prop} (I : Inv X pins σ H s) (hc : X.calm = true) (hq : SqL X.K H p (bs.map V.bl))
    (h : ∀ s₂ : Shared, (∀ (h' : Heap) (tk : Nat), (∀ b o, b ∉ [s.heap.objs.size] → s₂.heap.get? b = some o → h'.get? b = some o) → Inv X pins σ H { s₂ with heap := h', toks := tk }) →
      (s₂.heap.IsListIter s.heap.objs.size p 0 ∧ s₂.heap.IsList p (bs.map Value.bool).toArray) → p ≠ s.heap.objs.size → Q (.ref s.heap.objs.size) s₂) (E : Value → Shared → Prop) :
    wpAny (model X.prog X.w) X.A.in1 (pyIter (.ref p)) Q E s := by
  obtain ⟨its, rv, hp, hz⟩ := I.list hq
  rw [bools_of rv] at hp
  have hl := hp.isList
  have hlt : p < s.heap.objs.size := by obtain ⟨_, e, _⟩ := id hl; exact Heap.lt_size e
  refine wpAny_pyIter_list hl (h _ (fun h' tk hk => I.kept (t' := tk) fun b o e => ?_) ⟨⟨_, Heap.get?_push_size _ rfl, rfl, rfl⟩, hl.push _⟩ (Nat.ne_of_lt hlt))
  exact hk b o (by simp [Nat.ne_of_lt (Heap.lt_size e)]) (Heap.get?_push_of_some _ e)
theorem truth_bools {A : Around} {bs : List Bool} : TruthOf X.prog X.w A (fun i v => (bs.map Value.bool).toArray[i]? = some v) (fun i => bs.getD i false) := by
  intro i v s Q E hP hQ
  have e : bs[i]?.map Value.bool = some v := by simpa using hP
  cases q : bs[i]? with
  | none => rw [q] at e; cases e
  | some b =>
    rw [q] at e
    cases e
    dsimp only at hQ
    rw [List.getD_eq_getElem?_getD, q] at hQ
    exact wpAny_truthy_bool hQ
theorem call_allK (K : PySem.W.Frag) (h : X.K = K) (hc : X.calm = true) : CallR X (.builtin "all") (rAll K) := by
  subst h
  intro pins s σ H xs us Q I r h
  obtain ⟨p, bs, rfl, hq, q⟩ := h
  obtain ⟨u, rfl, ru⟩ := vals1 r
  cases (show u = Value.ref p from ru)
  refine call_all_walk (walk_bools I hc hq (fun s₂ J st hne => ⟨_, _, _, _, _, _, _, rfl, Walks.list (A := X.A.in1) (I.ok.hd hc) _ p hne _, st, truth_bools, fun h' tk hk => ⟨.bl _, H, J h' tk hk, ?_, q⟩⟩) _)
  show Value.bool _ = Value.bool _
  congr 1
  rw [List.size_toArray, List.length_map]
  exact range_all _ fun i hi => rfl
end
end L2
namespace L2
open PySem PySem.Spec PyProof.Rows
def CompG (J : It) (g : TG) (tc : TT) (te : TE) (D : Addr) (τ : St) (H : Hp) (Q : VK) : Prop :=
  ∃ W : Nat → Nat → St → Hp → Prop, (∃ m, W 0 m τ H) ∧ ∀ i m τ H', W i m τ H' →
    (J.stop i H' ∧ Q (.ref D) H') ∨ (J.go i H' ∧ ∃ N : St → Hp → Prop, (∀ τ' H'', N τ' H'' → ∃ m', m' < m ∧ W (i + 1) m' τ' H'') ∧
      ∀ x H2, J.yld i H' x H2 → g x τ H2 fun τ2 H3 => tc τ2 H3 fun b H4 => if b = true then te τ2 H4 fun y H5 => ∃ ys, H5 D = some (.lst ys) ∧ ys.length < sizeLine ∧ N τ2 (upd H5 D (.lst (ys ++ [y]))) else N τ2 H4)
theorem tComp_eq {nt : Nat} {fr : List (Str × Nat)} {wi : TI} {g : TG} {tc : TT} {te : TE} {σ : St} {H : Hp} {Q : VK} :
    tComp nt fr wi g tc te σ H Q = wi σ H fun J H1 => ∀ D, H1 D = none → CompG J g tc te D (List.replicate nt none ++ fr.map fun p => (σ[p.2]?).join) (upd H1 D (.lst [])) Q := rfl
abbrev Q4 := Int × Int × Int × Int
def q4 (q : Q4) : List V := [.int q.1, .int q.2.1, .int q.2.2.1, .int q.2.2.2]
abbrev Tups (H : Hp) : List Addr → List Q4 → Prop := Paired fun p q => H p = some (.tup (q4 q))
theorem Tups.len {H : Hp} {ps : List Addr} {qs : List Q4} (h : Tups H ps qs) : ps.length = qs.length := Paired.length h
theorem Tups.nil {H : Hp} : Tups H [] [] := Paired.nil
theorem Tups.keep {H H' : Hp} {ps : List Addr} {qs : List Q4} (h : Tups H ps qs) (e : ∀ p xs, H p = some (.tup xs) → H' p = some (.tup xs)) : Tups H' ps qs := Paired.mapP h fun _ _ q => e _ _ q
theorem Tups.take {H : Hp} : ∀ {ps : List Addr} {qs : List Q4} (n : Nat), Tups H ps qs → Tups H (ps.take n) (qs.take n)
  | _, _, 0, _ => .nil
  | _, _, _ + 1, Paired.nil => .nil
  | _, _, n + 1, Paired.cons a b => .cons a (Tups.take n b)
theorem Tups.get {H : Hp} : ∀ {ps : List Addr} {qs : List Q4} {i : Nat} {p : Addr}, Tups H ps qs → ps[i]? = some p → ∃ q, qs[i]? = some q ∧ H p = some (.tup (q4 q))
  | _, _, _, _, Paired.nil, e => by simp at e
  | _, _, 0, _, Paired.cons a _, e => by simp at e; subst e; exact ⟨_, rfl, a⟩
  | _, _, i + 1, _, Paired.cons _ b, e => by
    obtain ⟨q, h1, h2⟩ := Tups.get (i := i) b (by simpa using e)
    exact ⟨q, by simpa using h1, h2⟩
structure Row (H : Hp) (l : Addr) (ps : List Addr) (qs : List Q4) : Prop where
  hl : H l = some (.lst (ps.map V.ref))
  r : Tups H ps qs
mutual
theorem eqv_refl : ∀ d : PyData, d.canLay0 = true → PyData.eqv d d = true
  | .none, _ => rfl
  | .bool b, _ => by simp [PyData.eqv]
  | .int i, _ => by simp [PyData.eqv]
  | .str x, _ => by simp [PyData.eqv]
  | .list xs, h => by
    have h : PyData.canLayAll0 xs = true := by simpa only [PyData.canLay0] using h
    simpa only [PyData.eqv] using eqvAll_refl xs h
  | .tuple xs, h => by
    have h : PyData.canLayAll0 xs = true := by simpa only [PyData.canLay0] using h
    simpa only [PyData.eqv] using eqvAll_refl xs h
  | .dict _, h => by simp [PyData.canLay0] at h
theorem eqvAll_refl : ∀ ds : List PyData, PyData.canLayAll0 ds = true → PyData.eqvAll ds ds = true
  | [], _ => rfl
  | d :: r, h => by
    simp only [PyData.canLayAll0, Bool.and_eq_true] at h
    simp only [PyData.eqvAll, Bool.and_eq_true]
    exact ⟨eqv_refl d h.1, eqvAll_refl r h.2⟩
end
theorem depth_all {α : Type} {f : α → PyData} {n : Nat} (h : ∀ a, (f a).depth ≤ n) : ∀ l : List α, PyData.depthAll (l.map f) ≤ n
  | [] => Nat.zero_le _
  | a :: r => by
    have h1 := h a
    have h2 := depth_all h r
    simp only [List.map_cons, PyData.depthAll]
    omega
end L2
namespace L2
open PySem PySem.Spec PyProof.Rows
theorem Tups.mem {H : Hp} : ∀ {ps : List Addr} {qs : List Q4}, Tups H ps qs → ∀ x ∈ ps.map V.ref, ∃ p q, x = V.ref p ∧ q ∈ qs ∧ H p = some (.tup (q4 q))
  | _, _, Paired.nil, x, hx => by simp at hx
  | _, _, Paired.cons (b := q) a b, x, hx => by
    rw [List.map_cons] at hx
    rcases List.mem_cons.mp hx with e | hx
    · exact ⟨_, q, e, by simp, a⟩
    · obtain ⟨p, q, h1, h2, h3⟩ := Tups.mem b x hx
      exact ⟨p, q, h1, List.mem_cons_of_mem _ h2, h3⟩
end L2
namespace L2
open PySem PySem.Spec PyProof.Rows
section
variable {X : Cx}
theorem op_eqDK (K : PySem.W.Frag) (h : X.K = K) (hu : X.A.units + 64 < cLine) : OpR X (compareOp .Eq) (rEqD K) := h ▸ op_eqD hu
theorem op_neDK (K : PySem.W.Frag) (h : X.K = K) (hu : X.A.units + 64 < cLine) : OpR X (compareOp .NotEq) (rNeD K) := h ▸ op_neD hu
end
theorem eq_at {K : PySem.W.Frag} {H : Hp} {x y : V} {d e : PyData} {Q : VK} (hx : Deep K H x d) (hy : Deep K H y e) (sd : PySem.SeqAt.shaped d = true) (se : PySem.SeqAt.shaped e = true) (q : Q (.bl (PyData.eqv d e)) H) : rEqD K x y H Q := ⟨d, e, hx, hy, sd, se, q⟩
theorem ne_at {K : PySem.W.Frag} {H : Hp} {x y : V} {d e : PyData} {Q : VK} (hx : Deep K H x d) (hy : Deep K H y e) (sd : PySem.SeqAt.shaped d = true) (se : PySem.SeqAt.shaped e = true) (q : Q (.bl (!PyData.eqv d e)) H) : rNeD K x y H Q := ⟨d, e, hx, hy, sd, se, q⟩
theorem ne_same {K : PySem.W.Frag} {H : Hp} {x y : V} {d : PyData} {Q : VK} (hx : Deep K H x d) (hy : Deep K H y d) (sd : PySem.SeqAt.shaped d = true) (q : Q (.bl false) H) : rNeD K x y H Q := by
  refine ne_at hx hy sd sd ?_
  rw [eqv_refl d (PySem.SeqAt.canLay_of_shaped sd)]; exact q
theorem eq_same {K : PySem.W.Frag} {H : Hp} {x y : V} {d : PyData} {Q : VK} (hx : Deep K H x d) (hy : Deep K H y d) (sd : PySem.SeqAt.shaped d = true) (q : Q (.bl true) H) : rEqD K x y H Q := by
  refine eq_at hx hy sd sd ?_
  rw [eqv_refl d (PySem.SeqAt.canLay_of_shaped sd)]; exact q
theorem shaped_nil : PySem.SeqAt.shaped (.list []) = true := by decide
theorem eqv_nil {α : Type} {f : α → PyData} (l : List α) : PyData.eqv (.list (l.map f)) (.list []) = l.isEmpty := by
  cases l with
  | nil => rfl
  | cons a r => simp [PyData.eqv, PyData.eqvAll]
theorem len_at {K : PySem.W.Frag} {H : Hp} {p : Addr} {ys : List V} {Q : VK} (h : SqL K H p ys) (q : Q (.int ys.length) H) : rLen K [.ref p] H Q := ⟨p, ys, rfl, .inl h, q⟩
theorem lenT_at {K : PySem.W.Frag} {H : Hp} {p : Addr} {ys : List V} {Q : VK} (h : SqT K H p ys) (q : Q (.int ys.length) H) : rLen K [.ref p] H Q := ⟨p, ys, rfl, .inr h, q⟩
end L2
namespace L2
open PySem PySem.Spec PyProof.Rows
section
variable {prog : Program} {w : World} {A : Around} {R : Result → Shared → Prop}
end
end L2
namespace L2
open PySem PySem.Spec PyProof.Rows
def XTr (B : Heap) (e : Addr) (h : Heap) (vs : Array Value) : Option Value → Prop
  | none => vs[1]? = some Value.none
  | some f => ∃ T oT ts, vs[1]? = some (.ref T) ∧ B.get? T = none ∧ T ≠ e ∧ h.get? T = some oT ∧ oT.data = .fields ts ∧ ts[3]? = some f
structure XAt (B : Heap) (e : Addr) (cls : Value) (dct : Option Addr) (fl : Option Value) (h : Heap) : Prop where
  stay : B.StaysIn h
  new : B.get? e = none
  ex : ∃ oe vs, h.get? e = some oe ∧ oe.cls = cls ∧ oe.dict = dct ∧ oe.data = .fields vs ∧ 1 < vs.size ∧ XTr B e h vs fl
structure UpS (h h' : Heap) : Prop where
  sl : ∀ b o, h.get? b = some o → (∀ vs, o.data ≠ .fields vs) → ∃ sl, h'.get? b = some { o with slots := sl }
  th : ∀ b o, h.get? b = some o → ∃ o', h'.get? b = some o'
theorem UpS.refl (h : Heap) : UpS h h := ⟨fun _ o e _ => ⟨o.slots, e⟩, fun _ o e => ⟨o, e⟩⟩
theorem UpS.trans {h h1 h2 : Heap} (a : UpS h h1) (b : UpS h1 h2) : UpS h h2 := by
  refine ⟨fun c o e n => ?_, fun c o e => ?_⟩
  · obtain ⟨s1, e1⟩ := a.sl c o e n
    obtain ⟨s2, e2⟩ := b.sl c _ e1 n
    exact ⟨s2, e2⟩
  · obtain ⟨o1, e1⟩ := a.th c o e
    exact b.th c o1 e1
theorem UpS.funs {h h' B : Heap} {l : List Env} (u : UpS h h') (f : h.FunFrames B l) : h'.FunFrames B l := f.of_keeps fun b o e n => by
  obtain ⟨sl, q⟩ := u.sl b o e n
  exact ⟨_, q, rfl⟩
section
variable {M : Model} {A : Around} {E : Value → Shared → Prop} {s : Shared} {B : Heap} {env : Env} {outer : List Env} {L e : Addr} {cls : Value} {dct : Option Addr}
theorem entry_at {fl : Option Value} {head : Value} {b1 : Bool} {Q : Unit → Shared → Prop} (fr : A.frames = some (env :: outer)) (ff : s.heap.FunFrames B (env :: outer)) (hf : env.frame = some L) (x : XAt B e cls dct fl s.heap)
    (h : ∀ h', XAt B e cls dct (some (rawInt L)) h' → UpS s.heap h' → Q () { s with heap := h' }) :
    wpAny M A (do let a ← frameOf env; let pl ← entryPlaceOf L b1; let b ← EntryCells.newEntry head a .none (rawInt L) .none pl; setField (.ref e) 1 b) Q E s := by
  obtain ⟨stay, new, oe, vs, oe1, oe2, oe3, oe4, oe5, _⟩ := x
  have nf : e ∉ (env :: outer).filterMap (·.frame) := fun z => by
    obtain ⟨_, o, q, n⟩ := ff.mem z
    rw [oe1] at q
    cases q
    exact n vs oe4
  refine wpAny_bind (wpAny_frameOf_fun fr ff hf fun h1 sl => wpAny_bind (wpAny_entryPlaceOf fun pl ip => ?_))
  have e1 : h1.get? e = some oe := (sl.2.1 e nf).trans oe1
  have st1 : B.StaysIn h1 := fun b o q => (sl.2.1 b fun z => by rw [(ff.mem z).1] at q; cases q).trans (stay b o q)
  unfold EntryCells.newEntry newFields
  refine wpAny_bind (wpAny_newObj_type ?_ (ip.sizeOk5 _ _ _ _ _))
  generalize hT : ({ cls := .type "traceback", dict := none, data := .fields ([head, .ref L, .none, rawInt L, .none] ++ (if pl.isEmpty then List.replicate 6 Value.none else pl)).toArray } : Obj) = oT
  have e2 : (h1.push oT).get? e = some oe := Heap.get?_push_of_some _ e1
  have ne : h1.objs.size ≠ e := Nat.ne_of_gt (Heap.lt_size e1)
  refine wpAny_setField e2 oe4 oe5 (h _ ⟨fun b o q => ?_, new, _, _, Heap.get?_update_self _ e2 (Obj.isFreed_of_fields (Obj.data_mapFields oe4 _)), (Obj.cls_mapFields _ _).trans oe2, ?_, Obj.data_mapFields oe4 _, by simpa using oe5, h1.objs.size, oT, _, by simp [oe5], st1.fresh, ne, ?_, by rw [← hT], ?_⟩ ⟨fun b o q n => ?_, fun b o q => ?_⟩)
  · rw [Heap.get?_update_other _ _ fun z => by rw [← z, new] at q; cases q]
    exact Heap.get?_push_of_some _ (st1 b o q)
  · rw [← oe3]; cases oe with | mk c d da sl => cases da <;> rfl
  · rw [Heap.get?_update_other _ _ (Ne.symm ne)]
    exact Heap.get?_push_size _ (by rw [← hT]; rfl)
  · rcases ip with rfl | ⟨_, _, _, _, _, _, _, rfl⟩ <;> simp
  · obtain ⟨s1, q1⟩ := sl.2.2 b o q
    refine ⟨s1, ?_⟩
    rw [Heap.get?_update_other _ _ fun z => by rw [← z, oe1] at q; cases q; exact n vs oe4]
    exact Heap.get?_push_of_some _ q1
  · by_cases z : b = e
    · rw [z]; exact ⟨_, Heap.get?_update_self _ e2 (Obj.isFreed_of_fields (Obj.data_mapFields oe4 _))⟩
    · obtain ⟨s1, q1⟩ := sl.2.2 b o q
      exact ⟨_, (Heap.get?_update_other _ _ (Ne.symm z)).trans (Heap.get?_push_of_some _ q1)⟩
theorem land_at {f : Value} {Q : Unit → Shared → Prop} (x : XAt B e cls dct (some f) s.heap) (h : ∀ h', XAt B e cls dct (some .none) h' → UpS s.heap h' → Q () { s with heap := h' }) : wpAny M A (setFlight (.ref e) none) Q E s := by
  obtain ⟨stay, new, oe, vs, oe1, oe2, oe3, oe4, oe5, T, oT, ts, t1, t2, t3, t4, t5, t6⟩ := x
  unfold setFlight
  refine wpAny_bind (wpAny_field oe1 oe4 t1 ?_)
  rw [if_pos (show (Value.ref T != Value.none) = true by simp)]
  have h3 : 3 < ts.size := (Array.getElem?_eq_some_iff.mp t6).1
  have oth : ∀ (g : Obj → Obj) b, b ≠ T → (s.heap.update T g).get? b = s.heap.get? b := fun g b z => Heap.get?_update_other _ _ (Ne.symm z)
  refine wpAny_setField t4 t5 h3 (h _ ⟨fun b o q => ?_, new, oe, vs, by rw [oth _ _ (Ne.symm t3)]; exact oe1, oe2, oe3, oe4, oe5, T, _, _, t1, t2, t3, Heap.get?_update_self _ t4 (Obj.isFreed_of_fields (Obj.data_mapFields t5 _)), Obj.data_mapFields t5 _, by simp [h3]⟩ ⟨fun b o q n => ⟨o.slots, ?_⟩, fun b o q => ?_⟩)
  · rw [oth _ _ fun z => by rw [z, t2] at q; cases q]
    exact stay b o q
  · rw [oth _ _ fun z => by rw [z, t4] at q; cases q; exact n ts t5]
    exact q
  · by_cases z : b = T
    · rw [z]; exact ⟨_, Heap.get?_update_self _ t4 (Obj.isFreed_of_fields (Obj.data_mapFields t5 _))⟩
    · exact ⟨o, (oth _ _ z).trans q⟩
theorem note_at {fl : Option Value} {Q : Unit → Shared → Prop} (fr : A.frames = some (env :: outer)) (ff : s.heap.FunFrames B (env :: outer)) (hf : env.frame = some L) (x : XAt B e cls dct fl s.heap) (hfl : fl = none ∨ fl = some .none)
    (h : ∀ h', XAt B e cls dct (some (rawInt L)) h' → UpS s.heap h' → Q () { s with heap := h' }) : wpAny M A (noteFrame (.ref e) env) Q E s := by
  have x0 := x
  obtain ⟨stay, new, oe, vs, oe1, oe2, oe3, oe4, oe5, tr⟩ := x
  unfold noteFrame
  simp only [hf]
  rcases hfl with rfl | rfl
  · refine wpAny_bind (wpAny_field oe1 oe4 tr ?_)
    rw [if_neg (by decide)]
    exact entry_at fr ff hf x0 h
  · obtain ⟨T, oT, ts, t1, t2, t3, t4, t5, t6⟩ := tr
    refine wpAny_bind (wpAny_field oe1 oe4 t1 ?_)
    rw [if_pos (show (Value.ref T != Value.none) = true by simp)]
    refine wpAny_bind (wpAny_field t4 t5 t6 ?_)
    rw [if_neg (show ¬ ((Value.none == rawInt L) = true) by simp [rawInt])]
    have h3 : 3 < ts.size := (Array.getElem?_eq_some_iff.mp t6).1
    have oth : ∀ (g : Obj → Obj) b, b ≠ T → (s.heap.update T g).get? b = s.heap.get? b := fun g b z => Heap.get?_update_other _ _ (Ne.symm z)
    have up : ∀ g, UpS s.heap (s.heap.update T (Obj.mapFields g)) := fun g => ⟨fun b o q n => ⟨o.slots, by
      rw [oth _ _ fun z => by rw [z, t4] at q; cases q; exact n ts t5]; exact q⟩, fun b o q => by
      by_cases z : b = T
      · rw [z]; exact ⟨_, Heap.get?_update_self _ t4 (Obj.isFreed_of_fields (Obj.data_mapFields t5 _))⟩
      · exact ⟨o, (oth _ _ z).trans q⟩⟩
    refine wpAny_bind (wpAny_setField t4 t5 h3 ?_)
    refine entry_at (fl := some .none) fr ((up _).funs ff) hf ⟨fun b o q => ?_, new, oe, vs, by rw [oth _ _ (Ne.symm t3)]; exact oe1, oe2, oe3, oe4, oe5, T, _, _, t1, t2, t3, Heap.get?_update_self _ t4 (Obj.isFreed_of_fields (Obj.data_mapFields t5 _)), Obj.data_mapFields t5 _, by simp [h3]⟩ fun h' a b => h h' a ((up _).trans b)
    rw [oth _ _ fun z => by rw [z, t2] at q; cases q]
    exact stay b o q
theorem leave_at {fl : Option Value} {Q : Unit → Shared → Prop} (fr : A.frames = some (env :: outer)) (ff : s.heap.FunFrames B (env :: outer)) (hf : env.frame = some L) (x : XAt B e cls dct fl s.heap) (hfl : fl = none ∨ fl = some .none)
    (h : ∀ h', XAt B e cls dct (some .none) h' → UpS s.heap h' → Q () { s with heap := h' }) : wpAny M A (leaving env (.ref e)) Q E s := by
  unfold leaving
  exact wpAny_bind (note_at fr ff hf x hfl fun h1 x1 u1 => land_at (s := { s with heap := h1 }) x1 fun h2 x2 u2 => h h2 x2 (u1.trans u2))
end
end L2
namespace L2
open PySem PySem.Spec PyProof.Rows
abbrev bmV : List Value := [.type "ValueError", .type "Exception", .type "BaseException", .type "object"]
structure XC (K : PySem.W.Frag) (C : Addr) : Prop where
  hd : PySem.W.hasDictIn K C = true
  ga : PySem.W.findIn K (.ref C) "__getattribute__" = some (some (.builtin "BaseException.__getattribute__"))
  gn : PySem.W.findIn K (.ref C) "__getattr__" = some none
  sa : PySem.W.findIn K (.ref C) "__setattr__" = some (some (.builtin "object.__setattr__"))
  cl : PySem.W.findIn K (.ref C) "__class__" = some (some (.builtin "object.__class__"))
  kg : PySem.W.specialIn K (.builtin "object.__class__") "__get__" = some (some (.builtin "getset_descriptor.__get__"))
  kt : PySem.W.takesIn K (.builtin "object.__class__") = some true
  be : PySem.W.mroIn K C (.type "BaseException") = some true
  ob : PySem.W.mroIn K C (.type "object") = some true
  /-- its object and its line of classes -/
  ex : ∃ nm q N bs bm hdct sn sub ab col dd k0 k1 k2 k3 k5, K.lookup C = some (excClassObj nm q C N bs bm hdct sn sub ab col dd k0 k1 k2 k3 k5 "ValueError.__new__") ∧ PySem.W.tailIn K bmV bm = true
theorem XC.plain {K : PySem.W.Frag} {C : Addr} (q : PySem.W.excIn K C bmV "ValueError.__new__" = true) :
    ∃ nm q N bs bm hdct sn sub ab col dd k0 k1 k2 k3 k5, K.lookup C = some (excClassObj nm q C N bs bm hdct sn sub ab col dd k0 k1 k2 k3 k5 "ValueError.__new__") ∧ PySem.W.tailIn K bmV bm = true ∧ PySem.W.nsOkIn K N = true ∧ PySem.W.nsIn K N "__init__" = some none := by
  unfold PySem.W.excIn at q
  split at q
  · rename_i dd cd sl ho
    split at q
    · rename_i C' bm k0 k1 k2 k3 n k5 hm hs
      simp only [Bool.and_eq_true, beq_iff_eq, Bool.not_eq_true'] at q
      obtain ⟨⟨⟨⟨⟨rfl, rfl⟩, d1⟩, ht⟩, hok⟩, hni⟩ := q
      obtain ⟨nm, bs, mro, ns, qn, hd, sn, sub, ab, col, del⟩ := cd
      dsimp only at hm d1 hok hni
      subst hm d1
      obtain ⟨l⟩ := sl
      simp only at hs
      subst hs
      exact ⟨nm, qn, ns, bs, bm, hd, sn, sub, ab, col, dd, k0, k1, k2, k3, k5, ho, ht, hok, hni⟩
    · cases q
  · cases q
section
variable {prog : Program} {w : World} {A : Around} {E : Value → Shared → Prop} {s : Shared} {K : PySem.W.Frag} {x C : Addr} {ox : Obj} {od : Option Obj}
open PySem.W in
theorem xget_class {Q : Option Value → Shared → Prop} (X : K.In s.heap) (c : XC K C) (I : PySem.W.InstAt s.heap x ox C od) (h : Q (some (.ref C)) { s with toks := s.toks + 1 }) : wpAny (model prog w) A (getAttr? (.ref x) "__class__") Q E s := by
  have hf : findObj K C od "__class__" = some (.bind (.builtin "getset_descriptor.__get__") (.builtin "object.__class__")) := by
    obtain ⟨cd, hc, _⟩ := any_some c.hd
    unfold findObj
    rw [hc, Option.bind_some, c.cl, Option.bind_some]
    dsimp only
    rw [c.kg, Option.bind_some]
    dsimp only
    rw [c.kt, Option.bind_some]
  obtain ⟨hh, g, d, t, os⟩ := s
  have L0 := I.type (M := model prog w)
  have L1 := looks_findIn (M := model prog w) X c.ga
  have L2' := looks_findIn (M := model prog w) X c.gn
  have L3 := looks_find (M := model prog w) X I hf
  have sub : Looks (model prog w) hh (isInstance (.ref x) (.type "BaseException")) true := I.type.andThen (looks_mroIn X c.be)
  have hx : (Value.builtin "BaseException.__getattribute__" == Value.builtin "object.__getattribute__") = false := by decide +kernel
  have hx1 : ¬ ((onTheHeap (Value.ref C) && Value.builtin "BaseException.__getattribute__" == Value.builtin "object.__getattribute__") = true) := by rw [hx, Bool.and_false]; exact Bool.false_ne_true
  unfold getAttr? getAttrBy? getAttrBy
  refine wpAny_bind (wpAny_mkText (wpAny_bind (wpAny_attempt (wpAny_holding (wpAny_bind (L0.at (wpAny_bind (L1.at ?_))))))))
  show wpAny _ _ (if (onTheHeap (Value.ref C) && Value.builtin "BaseException.__getattribute__" == Value.builtin "object.__getattribute__") = true then _ else _) _ _ _
  rw [if_neg hx1]
  unfold getAttrByItsOwn hookBefore
  rw [if_pos (show onTheHeap (Value.ref C) = true from rfl)]
  refine wpAny_bind (L2'.at ?_)
  refine wpAny_bind (wpAny_attempt (wpAny_holding ?_))
  show wpAny _ _ (boundAndCalled (.builtin "BaseException.__getattribute__") (.ref x) (.str "__class__" t)) _ _ _
  unfold boundAndCalled
  refine wpAny_bind (wpAny_of_eq (PySem.F.attr_ValueError.ga.bind (.ref x)) ?_)
  show wpAny _ _ (call (.builtin "BaseException.__getattribute__") [.ref x, .str "__class__" t]) _ _ _
  have hk : builtinKind "BaseException.__getattribute__" = some .slot := by decide +kernel
  have hs : splitId "BaseException.__getattribute__" = some ("BaseException", "__getattribute__") := by decide +kernel
  refine wpAny_call (codeAny_call_builtin PySem.F.attr_ValueError.ga.plain PySem.F.entry_bexc_ga ?_)
  refine @check_slot (model prog w) _ _ _ "BaseException.__getattribute__" "BaseException" "__getattribute__" (.ref x) [.str "__class__" t] [] _ hk hs sub (PySem.F.args_bexc_ga _ _) ?_
  refine wpAny_bind (wpAny_pure (wpAny_bind (wpAny_pure (wpAny_bind (L0.at (wpAny_bind (L3.at ?_)))))))
  show wpAny _ _ (holding [Value.builtin "object.__class__"] (call (.builtin "getset_descriptor.__get__") [.builtin "object.__class__", .ref x, .ref C]) >>= ret) _ _ _
  refine wpAny_bind (wpAny_holding (wpAny_call (class_get (s := { heap := hh, gens := g, drawn := d, toks := t + 1, os := os }) X I c.ob (wpAny_pure ?_))))
  show wpAny _ _ (handedOut (.ref C)) _ _ _
  exact wpAny_pure (wpAny_pure h)
open PySem.W in
theorem kitx_exc (c : XC K C) : KitX K (.ref x) (.ref C) (fun h => ∃ ox od, PySem.W.InstAt h x ox C od) where
  ty := fun _ _ _ ⟨_, _, I⟩ => I.type
  it := fun _ _ X _ => by
    obtain ⟨cd, hc, _⟩ := any_some c.hd
    unfold clsIn at hc
    split at hc
    · rename_i ho
      intro A' Q' E' s' k q
      unfold isType loadHead
      exact wpAny_bind (wpAny_loadPart (k _ _ (X _ _ ho)) (wpAny_pure q))
    · cases hc
  ne := fun h tp dd its n sl X htp => by
    obtain ⟨cd, hc, _⟩ := any_some c.hd
    refine Bool.eq_false_iff.mpr fun q => ?_
    have e : C = tp := Value.ref.inj (beq_iff_eq.mp q)
    subst e
    unfold clsIn at hc
    split at hc
    · rename_i ho
      have z := (X _ _ ho).symm.trans htp
      cases z
    · cases hc
  ca := fun X ⟨_, _, I⟩ k => xget_class X c I k
theorem xmake0 {us : List Value} {Q : Value → Shared → Prop} (X : K.In s.heap) (q : PySem.W.excIn K C bmV "ValueError.__new__" = true) (hl : us.length ≤ sizeLine)
    (h : ∀ h' e, Heap.MadeExcOf s.heap h' e (.ref C) us → Q (.ref e) { s with heap := h' }) : wpAny (model prog w) A (call (.ref C) us) Q E s := by
  obtain ⟨nm, qn, N, bs, bm, hdct, sn, sub, ab, col, dd, k0, k1, k2, k3, k5, lk, tl, nk, ni⟩ := XC.plain q
  obtain ⟨hp, g, d, t, os⟩ := s
  exact wpAny_call_exc_subU PySem.F.excBase_ValueError rfl PySem.F.excBase_ValueError (PySem.W.tail_of_in X tl) (X _ _ lk) (.of_isNs (PySem.W.isNs_of_in X nk)) (PySem.W.nsMap_none_of_in X nk ni) (fun h' e m => h h' e m) hl
theorem xraise {env : Env} {y : Sem Value} {Q : Flow → Shared → Prop} (hh : A.handled = none)
    (h : wpAny (model prog w) A y (fun v s1 => ∃ C e oe vs, XC K C ∧ v = .ref e ∧ K.In s1.heap ∧ s1.heap.get? e = some oe ∧ oe.cls = .ref C ∧ oe.data = .fields vs ∧ vs[1]? = some Value.none ∧ E (.ref e) s1) E s) :
    wpAny (model prog w) A (raiseStmt env (some y) none) Q E s := by
  unfold raiseStmt
  refine wpAny_bind (wpAny_mono h (fun v s1 z => ?_) fun _ _ z => z)
  obtain ⟨C, e, oe, vs, c, rfl, X, e1, e2, e3, e4, fin⟩ := z
  obtain ⟨nm, qn, N, bs, bm, hdct, sn, sub, ab, col, dd, k0, k1, k2, k3, k5, lk, tl⟩ := c.ex
  obtain ⟨hp, g, d, t, os⟩ := s1
  have cl := X _ _ lk
  have hcB : (Value.ref C :: bm).contains (.type "BaseException") = true := by rw [List.contains_cons, (PySem.W.tail_of_in X tl).hasType (show bmV.contains (.type "BaseException") = true from rfl), Bool.or_true]
  obtain ⟨oc, od, oda, osl⟩ := oe
  dsimp only at e2 e3
  subst e2 e3
  have fl : ∀ {α : Type} {QQ : Value → Shared → Prop}, QQ .none ⟨hp, g, d, t, os⟩ → wpAny (model prog w) A (field (.ref e) 1) QQ E ⟨hp, g, d, t, os⟩ := fun {_ _} z => wpAny_field e1 rfl e4 z
  repeat (first | (with_reducible refine wpAny_isSubtype_exc cl ?_; rw [hcB]) | with_reducible refine wpAny_loadPart_at e1 ?_ | with_reducible refine wpAny_loadPart_at cl ?_ | with_reducible refine wpAny_field e1 rfl e4 ?_ | wp_step)
  exact wpAny_raiseNew_none hh fin
end
end L2
namespace L2
open PySem PySem.Spec PyProof.Rows
def XOb (e C : Addr) (dct : Option Addr) (fr : Bool) (h : Heap) : Prop := ∃ oe vs, h.get? e = some oe ∧ oe.cls = .ref C ∧ oe.dict = dct ∧ oe.data = .fields vs ∧ 1 < vs.size ∧ (fr = true → vs[1]? = some Value.none)
def excO (e C : Addr) (dct : Option Addr) (fr : Bool) : HO := .ext (XOb e C dct fr)
def XDt (d : Addr) (fs : List (Str × V)) (h : Heap) : Prop := ∃ mA, h.Ns1 d mA ∧ ∀ f, RelO (fs.lookup f) (mA f)
def xdO (d : Addr) (fs : List (Str × V)) : HO := .ext (XDt d fs)
section
variable {P : Program} {w : World} {H : Hp} {h : Heap}
theorem excO_ok {e C : Addr} {dct : Option Addr} {fr : Bool} (x : XOb e C dct fr h) : ObjOk P w H h e (excO e C dct fr) := by
  refine ⟨x, ?_, fun h1 h2 y k => ?_⟩
  · obtain ⟨oe, vs, e1, _⟩ := x
    exact ⟨oe, e1⟩
  · obtain ⟨oe, vs, e1, r⟩ := y
    exact ⟨oe, vs, k _ e1, r⟩
theorem ObjOk.there {a : Addr} {o : HO} (x : ObjOk P w H h a o) : ∃ ob, h.get? a = some ob := by
  cases o with
  | lst xs => obtain ⟨_, _, _, _, e⟩ := x; exact ⟨_, e⟩
  | tup xs => obtain ⟨_, _, _, _, e, _⟩ := x; exact ⟨_, e⟩
  | dK kvs => obtain ⟨_, _, _, _, o, _, _, e, _⟩ := x; exact ⟨_, e⟩
  | dT kvs => obtain ⟨_, _, _, _, o, _, _, e, _⟩ := x; exact ⟨_, e⟩
  | set S n => obtain ⟨o, _, _, _, e, _⟩ := x; exact ⟨_, e⟩
  | ins C dx fs => obtain ⟨_, _, _, e, _⟩ := x; exact ⟨_, e⟩
  | own y => exact x
  | xd fs => obtain ⟨_, ⟨_, _, _, e, _⟩, _⟩ := x; exact ⟨_, e⟩
  | rng lo hi => obtain ⟨_, _, _, e⟩ := x; exact ⟨_, e⟩
  | frz ob u => obtain ⟨e, _⟩ := x; exact ⟨_, e⟩
  | tbl ps => exact ⟨_, show h.get? a = some _ from x⟩
  | met f y => exact ⟨_, show h.get? a = some _ from x⟩
  | ext φ => exact x.2.1
theorem HOk.exc (x : HOk P w H h) {e C : Addr} {dct : Option Addr} {fr : Bool} (q : H e = some (excO e C dct fr)) : XOb e C dct fr h := (show ObjOk P w H h e (excO e C dct fr) from x e _ q).1
theorem HOk.xd (x : HOk P w H h) {d : Addr} {fs : List (Str × V)} (q : H d = some (xdO d fs)) : XDt d fs h := (show ObjOk P w H h d (xdO d fs) from x d _ q).1
end
structure Fly (P : Program) (w : World) (B : Heap) (l : List Env) (e C : Addr) (dct : Option Addr) (H : Hp) (h : Heap) : Prop where
  at_ : ∃ fl, (fl = none ∨ fl = some Value.none) ∧ XAt B e (.ref C) dct fl h
  ff : h.FunFrames B l
  hok : HOk P w H h
  he : H e = some (excO e C dct false)
  cov : ∀ a o, H a = some o → a ≠ e → ∃ ob, B.get? a = some ob
def CXX (P : Program) (w : World) : CXT := fun outer H s E e s' => ∃ B ea C dct H', e = .ref ea ∧ s'.os = s.os ∧ AllBare s'.gens ∧ Fly P w B outer ea C dct H' s'.heap ∧ Un (frs outer) [] H H' s.heap s'.heap ∧
  (∀ b o, s.heap.get? b = some o → H b = none → b ∉ frs outer → B.get? b = some o) ∧ E (.ref ea) dct H'
theorem hok_step {P : Program} {w : World} {B : Heap} {e C : Addr} {dct : Option Addr} {fl : Option Value} {H : Hp} {h h' : Heap} (x : HOk P w H h) (he : H e = some (excO e C dct false)) (cov : ∀ a o, H a = some o → a ≠ e → ∃ ob, B.get? a = some ob) (st : B.StaysIn h)
    (y : XAt B e (.ref C) dct fl h') : HOk P w H h' := fun a o q => by
  by_cases z : a = e
  · subst z
    rw [he] at q
    cases q
    obtain ⟨oe, vs, e1, e2, e3, e4, e5, _⟩ := y.ex
    exact excO_ok ⟨oe, vs, e1, e2, e3, e4, e5, fun z => by cases z⟩
  · refine (x a o q).stay (fun b u hb g => ?_) (fun _ q => q) fun _ _ q => q
    have hbe : ∃ o', H b = some o' ∧ b ≠ e := by
      rcases hb with rfl | hb
      · exact ⟨_, q, z⟩
      · refine ⟨_, hb, fun y => ?_⟩
        rw [y, he] at hb
        cases hb
    obtain ⟨o', h1, h2⟩ := hbe
    obtain ⟨ob, h3⟩ := cov b o' h1 h2
    have h4 := st b ob h3
    rw [g] at h4
    cases h4
    exact y.stay b _ h3
section
variable {X : Cx} {pins : List (Addr × Obj)} {σ : St} {H H' : Hp} {s : Shared} {h' : Heap}
theorem Inv.out (I : Inv X pins σ H s) (hex : X.ex = []) (u : Un (frs X.stack) [] H H' s.heap h') : Un X.fs [] X.H₀ H' X.s₀.heap h' := by
  have nl : ∀ b o, X.s₀.heap.get? b = some o → b ≠ X.env.locals := fun b o q z => absurd (Nat.lt_of_lt_of_le (Heap.lt_size q) (by rw [z]; exact I.ok.above)) (Nat.lt_irrefl _)
  have nx : ∀ b : Addr, b ∉ X.ex := fun b => by rw [hex]; simp
  have ns : ∀ b o, X.s₀.heap.get? b = some o → b ∉ X.fs → b ∉ frs X.stack := fun b o q n z => by
    rcases List.mem_cons.mp (I.stkSub b z) with y | y
    · exact nl b o q y
    · exact n y
  refine ⟨fun b o q n hb _ => u.keep b o (I.base.keep b o q n hb (nx b)) (I.base.free b o q n (nx b)) (ns b o q hb) (by simp), fun b o q n hb _ => ?_, fun b o q n _ => ?_, fun b o q _ => ?_, fun b xs q => u.tups b xs (I.base.tups b xs q), fun b o v q => u.frzs b o v (I.base.frzs b o v q), fun b ps q => ?_⟩
  · obtain ⟨sl, e⟩ := I.base.slot b o q n hb (nx b)
    have fr := I.base.free b o q n (nx b)
    by_cases hs : b ∈ frs X.stack
    · obtain ⟨sl2, e2⟩ := u.slot b _ e fr hs (by simp)
      exact ⟨sl2, e2⟩
    · exact ⟨sl, u.keep b _ e fr hs (by simp)⟩
  · obtain ⟨o1, e⟩ := I.base.there b o q (nx b)
    exact u.free b o1 e (I.base.free b o q n (nx b)) (by simp)
  · obtain ⟨o1, e⟩ := I.base.there b o q (nx b)
    exact u.there b o1 e (by simp)
  · obtain ⟨m1, e1⟩ := I.base.tbls b ps q
    obtain ⟨m2, e2⟩ := u.tbls b _ e1
    exact ⟨m1 ++ m2, by rw [e2, Array.append_assoc]⟩
def bOf (X : Cx) (e : Addr) (h : Heap) : Heap := PySem.W.hideAll h (e :: frs X.stack)
theorem Inv.flyB (I : Inv X pins σ H s) {e C : Addr} {dct : Option Addr} (he : H e = some (excO e C dct true)) :
    XAt (bOf X e s.heap) e (.ref C) dct none s.heap ∧ s.heap.FunFrames (bOf X e s.heap) X.stack ∧ (∀ b o, s.heap.get? b = some o → b ≠ e → b ∉ frs X.stack → (bOf X e s.heap).get? b = some o) := by
  obtain ⟨oe, vs, e1, e2, e3, e4, e5, e6⟩ := I.hok.exc he
  refine ⟨⟨fun b o q => PySem.W.of_hideAll _ q, PySem.W.hideAll_none _ (.head _), oe, vs, e1, e2, e3, e4, e5, e6 rfl⟩, PySem.W.funFrames_hide I.stack fun env hm a ha => .tail _ (List.mem_filterMap.mpr ⟨env, hm, ha⟩), fun b o q n1 n2 => PySem.W.hideAll_get _ q fun z => ?_⟩
  rcases List.mem_cons.mp z with y | y
  · exact n1 y
  · exact n2 y
theorem Inv.flyUn (I : Inv X pins σ H s) {e C : Addr} {dct : Option Addr} {fl : Option Value} (he : H e = some (excO e C dct true)) (x : XAt (bOf X e s.heap) e (.ref C) dct fl h') (u : UpS s.heap h') :
    Un (frs X.stack) [] H (upd H e (excO e C dct false)) s.heap h' ∧ HOk X.prog X.w (upd H e (excO e C dct false)) h' ∧ ∀ a o, upd H e (excO e C dct false) a = some o → a ≠ e → ∃ ob, (bOf X e s.heap).get? a = some ob := by
  obtain ⟨x0, ff, big⟩ := I.flyB he
  have cov : ∀ a o, upd H e (excO e C dct false) a = some o → a ≠ e → ∃ ob, (bOf X e s.heap).get? a = some ob := fun a o q n => by
    rw [upd_ne n] at q
    obtain ⟨ob, g⟩ := (I.hok a o q).there
    exact ⟨ob, big a ob g n fun z => by rw [I.stkFree a z] at q; cases q⟩
  have ne : ∀ b, H b = none → b ≠ e := fun b n z => by rw [z, he] at n; cases n
  refine ⟨⟨fun b o q n hb _ => x.stay b o (big b o q (ne b n) hb), fun b o q n hb _ => ?_, fun b o q n _ => by rw [upd_ne (ne b n)]; exact n, fun b o q _ => u.th b o q, fun b xs q => ?_, fun b o v q => ?_, fun b ps q => ⟨#[], ?_⟩⟩, ?_, cov⟩
  · obtain ⟨_, o1, g, nf⟩ := ff.mem (show b ∈ X.stack.filterMap (·.frame) from hb)
    rw [q] at g
    cases g
    exact u.sl b o q nf
  · rw [upd_ne fun z => by rw [z, he] at q; cases q]; exact q
  · rw [upd_ne fun z => by rw [z, he] at q; cases q]; exact q
  · rw [upd_ne fun z => by rw [z, he] at q; cases q]; simpa using q
  · have h0 : HOk X.prog X.w (upd H e (excO e C dct false)) s.heap := fun a o q => by
      by_cases z : a = e
      · subst z
        rw [upd_same] at q
        cases q
        obtain ⟨oe, vs, e1, e2, e3, e4, e5, _⟩ := I.hok.exc he
        exact excO_ok ⟨oe, vs, e1, e2, e3, e4, e5, fun z => by cases z⟩
      · rw [upd_ne z] at q
        refine (I.hok a o q).stay (fun _ _ _ g => g) (fun b g => ?_) fun b xs g => ?_
        · rw [upd_ne fun z => by rw [z, he] at g; cases g]; exact g
        · rw [upd_ne fun z => by rw [z, he] at g; cases g]; exact g
    exact hok_step h0 upd_same cov x0.stay x
end
end L2
namespace L2
open PySem PySem.Spec PyProof.Rows
abbrev XH := Value → Option Addr → St → Hp → Prop
def PassesX (CX : CXT) (X : Cx) (Ek : XH) : Prop := ∀ (pins : List (Addr × Obj)) (σ : St) (H : Hp) (s : Shared) (e : Value) (s' : Shared), Inv X pins σ H s → CX X.stack H s (fun v d H' => Ek v d σ H') e s' → X.xe e s'
def RaisesX (X : Cx) (Ek : XH) : Prop := ∀ (pins : List (Addr × Obj)) (σ : St) (H : Hp) (s : Shared) (e C : Addr) (dct : Option Addr), Inv X pins σ H s → H e = some (excO e C dct true) → Ek (.ref e) dct σ (upd H e (excO e C dct false)) → X.xe (.ref e) s
abbrev EX0 : XH := fun _ _ _ _ => False
theorem passN {P : Program} {w : World} {X : Cx} : PassesX (CXX P w) X EX0 := fun _ _ _ _ _ _ _ ⟨_, _, _, _, _, _, _, _, _, _, _, h⟩ => h.elim
section
variable {X : Cx} {pins : List (Addr × Obj)} {σ : St} {H H' : Hp} {s s' : Shared} {B h' : Heap} {e C : Addr} {dct : Option Addr} {fl : Option Value}
theorem fly_un (F : Fly X.prog X.w B X.stack e C dct H' s'.heap) (un : Un (frs X.stack) [] H H' s.heap s'.heap) (cv : ∀ b o, s.heap.get? b = some o → H b = none → b ∉ frs X.stack → B.get? b = some o)
    (x : XAt B e (.ref C) dct fl h') (u : UpS s'.heap h') : Un (frs X.stack) [] H H' s.heap h' ∧ HOk X.prog X.w H' h' := by
  obtain ⟨fl0, _, x0⟩ := F.at_
  refine ⟨⟨fun b o q n hb _ => x.stay b o (cv b o q n hb), fun b o q n hb _ => ?_, un.free, fun b o q hx => ?_, un.tups, un.frzs, un.tbls⟩, hok_step F.hok F.he F.cov x0.stay x⟩
  · obtain ⟨sl, e1⟩ := un.slot b o q n hb (by simp)
    obtain ⟨_, o1, g, nf⟩ := F.ff.mem (show b ∈ X.stack.filterMap (·.frame) from hb)
    rw [e1] at g
    cases g
    obtain ⟨sl2, e2⟩ := u.sl b _ e1 nf
    exact ⟨sl2, e2⟩
  · obtain ⟨o1, e1⟩ := un.there b o q hx
    exact u.th b o1 e1
theorem fly_inv (I : Inv X pins σ H s) (F : Fly X.prog X.w B X.stack e C dct H' s'.heap) (hos : s'.os = s.os) (hb : AllBare s'.gens) (un : Un (frs X.stack) [] H H' s.heap s'.heap)
    (cv : ∀ b o, s.heap.get? b = some o → H b = none → b ∉ frs X.stack → B.get? b = some o) (x : XAt B e (.ref C) dct fl h') (u : UpS s'.heap h') : Inv X pins σ H' { s' with heap := h' } := by
  obtain ⟨u2, ok⟩ := fly_un F un cv x u
  exact I.call' (s' := { s' with heap := h' }) (ch := []) hos u2 ok hb (fun b z => absurd z (by simp))
end
section
variable {P : Program} {w : World} {K : PySem.W.Frag} {mg : Str → Option Value} {base : Heap} {N : List Str} {qual : Str} {sc : Scope} {f : Addr} {cd : Value} {A : Around} {outer : List Env} {s₀ : Shared} {H₀ : Hp} {E : XK}
theorem raiseF : RaisesX (cxOf (CXX P w) P w K mg base N qual sc f cd A outer s₀ H₀ E) (fun v d _ H => E v d H) := by
  intro pins σ H s e C dct I he hE
  obtain ⟨x, ff, big⟩ := I.flyB he
  refine leave_at (outer := outer) (L := s₀.heap.objs.size) I.ok.frames ff rfl x (.inl rfl) fun h' x' u => ?_
  obtain ⟨un, ok, cov⟩ := I.flyUn he x' u
  refine ⟨_, e, C, dct, _, rfl, I.os, I.bare, ⟨⟨_, .inr rfl, x'⟩, (u.funs ff).2.2, ok, upd_same, cov⟩, I.out rfl un, fun b o q n hb => ?_, hE⟩
  have fr := I.base.free b o q n (by show b ∉ ([] : List Addr); simp)
  refine big b o (I.base.keep b o q n hb (by show b ∉ ([] : List Addr); simp)) (fun z => by rw [z, he] at fr; cases fr) fun z => ?_
  rcases List.mem_cons.mp (I.stkSub b z) with y | y
  · exact absurd (Nat.lt_of_lt_of_le (Heap.lt_size q) (by rw [y]; exact I.ok.above)) (Nat.lt_irrefl _)
  · exact hb y
theorem passF : PassesX (CXX P w) (cxOf (CXX P w) P w K mg base N qual sc f cd A outer s₀ H₀ E) (fun v d _ H => E v d H) := by
  intro pins σ H s e s' I q
  obtain ⟨B, ea, C, dct, H', rfl, hos, hb, F, un, cv, hE⟩ := q
  obtain ⟨fl0, hfl, x0⟩ := F.at_
  refine leave_at (outer := outer) (L := s₀.heap.objs.size) I.ok.frames F.ff rfl x0 hfl fun h' x' u => ?_
  obtain ⟨u2, ok⟩ := fly_un (X := cxOf (CXX P w) P w K mg base N qual sc f cd A outer s₀ H₀ E) F un cv x' u
  refine ⟨B, ea, C, dct, H', rfl, hos.trans I.os, hb, ⟨⟨_, .inr rfl, x'⟩, (u.funs F.ff).2.2, ok, F.he, F.cov⟩, I.out rfl u2, fun b o q n hb => ?_, hE⟩
  refine cv b o (I.base.keep b o q n hb (by show b ∉ ([] : List Addr); simp)) (I.base.free b o q n (by show b ∉ ([] : List Addr); simp)) fun z => ?_
  rcases List.mem_cons.mp (I.stkSub b z) with y | y
  · exact absurd (Nat.lt_of_lt_of_le (Heap.lt_size q) (by rw [y]; exact I.ok.above)) (Nat.lt_irrefl _)
  · exact hb y
end
def tryCx (P : Program) (w : World) (X : Cx) (pins : List (Addr × Obj)) (Hk : XH) : Cx :=
  { X with pn := X.pn ++ pins, xe := fun e s' => ∃ σ H s, Inv X pins σ H s ∧ CXX P w X.stack H s (fun v d H' => Hk v d σ H') e s' }
section
variable {P : Program} {w : World} {X : Cx} {pins pins' : List (Addr × Obj)} {Hk : XH} {σ : St} {H : Hp} {s : Shared}
theorem unTry (I : Inv (tryCx P w X pins Hk) pins' σ H s) : Inv X pins σ H s := by
  have o := I.ok
  exact ⟨⟨o.mod, o.kind, o.glob, o.blt, o.above, o.inj, o.has, o.cab, o.hd, o.frames, o.stk, o.exf, o.bs, o.bsz, o.noex, o.exfs, o.funs, o.frf⟩, I.os, I.bare, I.base, I.loc, I.cell, I.free, I.freeC, fun p hp => I.pin p (List.mem_append_left _ hp), I.hok, I.len⟩
theorem inTry (I : Inv X pins σ H s) : Inv (tryCx P w X pins Hk) [] σ H s := by
  have o := I.ok
  exact ⟨⟨o.mod, o.kind, o.glob, o.blt, o.above, o.inj, o.has, o.cab, o.hd, o.frames, o.stk, o.exf, o.bs, o.bsz, o.noex, o.exfs, o.funs, o.frf⟩, I.os, I.bare, I.base, I.loc, I.cell, I.free, I.freeC, fun p hp => I.pin p (by simpa [tryCx] using hp), I.hok, I.len⟩
theorem passT : PassesX (CXX P w) (tryCx P w X pins Hk) Hk := fun _ σ H s _ _ I q => ⟨σ, H, s, unTry I, q⟩
end
def sufCx (X : Cx) (e : Addr) : Cx := { X with A := X.A.mark (some (.ref e)), calm := false, xe := fun _ _ => False }
section
variable {X : Cx} {pins : List (Addr × Obj)} {σ : St} {H : Hp} {s : Shared} {e : Addr}
theorem inSuf (I : Inv X pins σ H s) : Inv (sufCx X e) pins σ H s := by
  have o := I.ok
  exact ⟨⟨o.mod, o.kind, o.glob, o.blt, o.above, o.inj, o.has, o.cab, (fun z => by cases z), o.frames, o.stk, o.exf, o.bs, o.bsz, o.noex, o.exfs, o.funs, o.frf⟩, I.os, I.bare, I.base, I.loc, I.cell, I.free, I.freeC, I.pin, I.hok, I.len⟩
theorem unSuf (o : X.Ok) (I : Inv (sufCx X e) pins σ H s) : Inv X pins σ H s :=
  ⟨o, I.os, I.bare, I.base, I.loc, I.cell, I.free, I.freeC, I.pin, I.hok, I.len⟩
end
def tCallX (sp : Sp) (Ek : XH) (t : TA) : TE := fun σ H Q => t σ H fun vs H1 => sp vs H1 Q (fun v d H' => Ek v d σ H')
section
variable {X : Cx} {CX : CXT} {k : Nat} {x : Str} {ps : List Str} {sp : Sp} {Ek : XH} {p pos : Pos} {e : Expr} {es : List Expr} {t : TA}
theorem pe_callX (D : Def X.prog X.w X.K X.mg X.base CX k x ps sp) (hr : Room k X.A) (hg : Gl X x) (hx : PassesX CX X Ek) (ha : PA X (e :: es) t)
    (hdb : (x == ("__debug__" : Str)) = false := by decide) (he : starEach (e :: es) X.env = (false, eval e X.env) :: starEach es X.env := by rfl) (hpl : (backTo pos (starEach es X.env)).any (·.1) = false := by rfl) :
    PE X (.Call (.Name x p) (e :: es) [] pos) (tCallX sp Ek t) := by
  obtain ⟨f, fd, F, hb, hk, hm⟩ := D.ex
  intro pins s σ H Q I h
  refine wpAny_Call_Name_kw (ld_glob I hg hm ?_ hdb)
  refine PySem.W.callWith_K (h₀ := X.base) I.ok.mod.kin hk (thn (ha pos pins s σ H _ I h) fun us s1 ⟨vs, H1, I1, r, q⟩ => ⟨I1.kIn, ?_⟩) he hpl
  have hl : (us ++ []).length = ps.length := by rw [List.append_nil, ← r.length]; exact F.len _ _ _ _ q
  have hbb := hb s1 us I1.kIn hl
  rw [List.append_nil] at hbb
  refine wpAny_call (codeAny_mono (F.run X.A X.stack s1 H1 ⟨us, []⟩ us vs Q _ hr I1.env0 hbb r q) fun r s' hq => ?_)
  cases r with
  | error e => exact hx pins σ H1 s1 e s' I1 hq
  | ok fl =>
    cases fl with
    | ret u => exact I1.after hq
    | next => exact False.elim hq
    | brk => exact False.elim hq
    | cont => exact False.elim hq
end
theorem Src.okN {P : Program} {w : World} {K : PySem.W.Frag} {mg : Str → Option Value} {base : Heap} {CX : CXT} {x : Str} {st : Stmt} {N ps : List Str} {k : Nat} {sp : Sp} (F : Src K mg x st ps) (S : FnScope N ps (defScope st)) (len : ∀ vs H Q E, sp vs H Q E → vs.length = ps.length)
    (hbody : ∀ (f : Addr) (cdv : Value) (A : Around) (outer : List Env) (s : Shared) (H : Hp) (vs : List V) (Q : VK) (E : XK), Room k (A.deeper (envOfC x (defScope st) s.heap.objs.size f cdv)) → sp vs H Q E →
      ∃ t, PSs (cxOf CX P w K mg base N x (defScope st) f cdv A outer s H E).nox (defBody st) t ∧ t { nx := fun _ H' => Q .non H', rt := Q } (start N vs) H) : Def P w K mg base CX (k + 1) x ps sp := by
  obtain ⟨f, fd, F, b, m⟩ := F.ex
  obtain ⟨oc, od, kV, doc, pm, an, cdv, ct, osl, rfl, lk, hcd⟩ := F.ex
  exact ⟨f, _, fn_of lk hcd S len fun A outer s H vs Q E hr hsp => by
    obtain ⟨t, h, q⟩ := hbody f cdv A outer s H vs Q E hr hsp
    exact ⟨t, h.nox, q⟩, b, F.kp, m⟩
theorem Src.okX {P : Program} {w : World} {K : PySem.W.Frag} {mg : Str → Option Value} {base : Heap} {x : Str} {st : Stmt} {N ps : List Str} {k : Nat} {sp : Sp} (F : Src K mg x st ps) (S : FnScope N ps (defScope st)) (len : ∀ vs H Q E, sp vs H Q E → vs.length = ps.length)
    (hbody : ∀ (f : Addr) (cdv : Value) (A : Around) (outer : List Env) (s : Shared) (H : Hp) (vs : List V) (Q : VK) (E : XK), Room k (A.deeper (envOfC x (defScope st) s.heap.objs.size f cdv)) → sp vs H Q E →
      ∃ t, PSs (cxOf (CXX P w) P w K mg base N x (defScope st) f cdv A outer s H E) (defBody st) t ∧ t { nx := fun _ H' => Q .non H', rt := Q } (start N vs) H) : Def P w K mg base (CXX P w) (k + 1) x ps sp := by
  obtain ⟨f, fd, F, b, m⟩ := F.ex
  obtain ⟨oc, od, kV, doc, pm, an, cdv, ct, osl, rfl, lk, hcd⟩ := F.ex
  exact ⟨f, _, fn_of lk hcd S len fun A outer s H vs Q E hr hsp => hbody f cdv A outer s H vs Q E hr hsp, b, F.kp, m⟩
theorem free_of {P : Program} {w : World} {H : Hp} {h : Heap} {a : Addr} (x : HOk P w H h) (e : h.get? a = none) : H a = none := by
  cases q : H a with
  | none => rfl
  | some o =>
    obtain ⟨ob, g⟩ := (x a o q).there
    rw [e] at g
    cases g
theorem Inv.laidN {X : Cx} {pins : List (Addr × Obj)} {σ : St} {H : Hp} {s : Shared} {h' : Heap} {a : Addr} {o : HO} {t' : Nat} (I : Inv X pins σ H s) (k : ∀ b u, s.heap.get? b = some u → h'.get? b = some u) (hn : s.heap.get? a = none) (new : ObjOk X.prog X.w (upd H a o) h' a o) :
    Inv X pins σ (upd H a o) { s with heap := h', toks := t' } := by
  have fr := free_of I.hok hn
  refine I.un (t' := t') ⟨fun b ob q _ _ _ => k b ob q, fun b ob q _ _ _ => ⟨ob.slots, k b ob q⟩, fun b ob q n _ => ?_, fun b ob q _ => ⟨ob, k b ob q⟩, fun b xs q => ?_, fun b ob v q => ?_, fun b ps q => ⟨#[], ?_⟩⟩ fun b ob q => ?_
  · rw [upd_ne fun z => by rw [z, hn] at q; cases q]; exact n
  · rw [upd_ne (ne_of_none q fr)]; exact q
  · rw [upd_ne (ne_of_none q fr)]; exact q
  · rw [upd_ne (ne_of_none q fr)]; simpa using q
  · by_cases z : b = a
    · subst z
      rw [upd_same] at q
      cases q
      exact new
    · rw [upd_ne z] at q
      exact (I.hok b ob q).stay (fun c u _ g => k c u g) (fun c g => by rw [upd_ne (ne_of_none g fr)]; exact g) fun c xs g => by rw [upd_ne (ne_of_none g fr)]; exact g
def tXmk (C : Addr) (t : TA) : TE := fun σ H Q => t σ H fun vs H1 => vs.length ≤ 1000 ∧ ∀ e, H1 e = none → Q (.ref e) (upd H1 e (excO e C none true))
def tRaise (K : PySem.W.Frag) (Ek : XH) (te : TE) : TS := fun _ σ H => te σ H fun v H1 => ∃ e C dct, v = .ref e ∧ H1 e = some (excO e C dct true) ∧ XC K C ∧ Ek (.ref e) dct σ (upd H1 e (excO e C dct false))
section
variable {X : Cx} {C : Addr} {x : Str} {p pos : Pos} {e : Expr} {es : List Expr} {t : TA}
theorem pe_xmk (q : PySem.W.excIn X.K C bmV "ValueError.__new__" = true) (kp : PySem.W.keepIn X.K (.ref C) = true) (hg : Gl X x) (hm : X.mg x = some (.ref C)) (ha : PA X (e :: es) t)
    (hdb : (x == ("__debug__" : Str)) = false := by decide) (he : starEach (e :: es) X.env = (false, eval e X.env) :: starEach es X.env := by rfl) (hpl : (backTo pos (starEach es X.env)).any (·.1) = false := by rfl) :
    PE X (.Call (.Name x p) (e :: es) [] pos) (tXmk C t) := by
  intro pins s σ H Q I h
  refine wpAny_Call_Name_kw (ld_glob I hg hm ?_ hdb)
  refine PySem.W.callWith_K (h₀ := X.base) I.ok.mod.kin kp (thn (ha pos pins s σ H _ I h) fun us s1 ⟨vs, H1, I1, r, hl, q1⟩ => ⟨I1.kIn, ?_⟩) he hpl
  refine xmake0 I1.kIn q (by rw [List.nil_append, ← r.length]; exact line_lit hl) fun h' ea m => ?_
  obtain ⟨tt, g1, g2, g3⟩ := m.there
  exact ⟨.ref ea, _, I1.laidN (t' := s1.toks) m.keeps m.new (excO_ok ⟨_, _, g1, rfl, rfl, rfl, Nat.lt_of_lt_of_le (by decide) (Nat.le_refl 6), fun _ => rfl⟩), rfl, q1 ea (free_of I1.hok m.new)⟩
theorem ps_raise {Ek : XH} {te : TE} (K : PySem.W.Frag) (hK : X.K = K) (hc : X.calm = true) (hx : RaisesX X Ek) (he : PE X e te) : PS X (.Raise (some e) none pos) (tRaise K Ek te) := by
  subst hK
  intro pins s σ H D I h
  rw [arm_exec_Raise]
  refine wpAny_bind (wpAny_standAt ?_)
  show wpAny _ _ (raiseStmt X.env (some (do let v ← eval e X.env; standAt pos; pure v)) none) _ _ _
  refine xraise (K := X.K) (I.ok.hd hc) (wpAny_bind (thn (he pins s σ H _ I h) fun u s1 ⟨v, H1, I1, r, ea, C, dct, hv, hh, c, q⟩ => wpAny_bind (wpAny_standAt (wpAny_pure ?_))))
  subst hv
  cases (show u = Value.ref ea from r)
  obtain ⟨oe, vs, e1, e2, e3, e4, e5, e6⟩ := I1.hok.exc hh
  exact ⟨C, ea, oe, vs, c, rfl, I1.kIn, e1, e2, e4, e6 rfl, hx pins σ H1 s1 ea C dct I1 hh q⟩
end
section
variable {prog : Program} {w : World} {A : Around} {E : Value → Shared → Prop} {s : Shared} {K : PySem.W.Frag} {e C C' : Addr}
theorem xmatch {oe : Obj} {b : Bool} {Q : Bool → Shared → Prop} (X : K.In s.heap) (c : XC K C') (he : s.heap.get? e = some oe) (hc : oe.cls = .ref C) (hs : PySem.W.subIn K (.ref C) (.ref C') = some b) (h : Q b s) : wpAny (model prog w) A (excMatches (.ref e) (.ref C')) Q E s := by
  obtain ⟨nm, qn, N, bs, bm, hdct, sn, sub, ab, col, dd, k0, k1, k2, k3, k5, lk, tl⟩ := c.ex
  obtain ⟨hp, g, d, t, os⟩ := s
  have cl := X _ _ lk
  have hcB : (Value.ref C' :: bm).contains (.type "BaseException") = true := by rw [List.contains_cons, (PySem.W.tail_of_in X tl).hasType (show bmV.contains (.type "BaseException") = true from rfl), Bool.or_true]
  have LS := PySem.W.looks_subIn (M := model prog w) X hs
  have f := tc_notTuple
  unfold excMatches
  repeat (first | (with_reducible refine wpAny_loadPart_at he ?_; rw [hc]) | with_reducible refine wpAny_loadPart_at cl ?_ | (with_reducible refine wpAny_isSubtype_exc cl ?_; rw [hcB]) | (with_reducible refine LS.at ?_) | wp_step)
  cases b with
  | true => wp_walk; exact h
  | false => wp_walk; exact h
end
def hkOf (K : PySem.W.Frag) (C' : Addr) (th : Addr → TS) (D : Ends) : XH := fun v d σ H => ∃ e C, v = .ref e ∧ H e = some (excO e C d false) ∧ PySem.W.subIn K (.ref C) (.ref C') = some true ∧ th e D σ H
def tTry (K : PySem.W.Frag) (C' : Addr) (tb : XH → TS) (th : TS) : TS := fun D σ H => tb (hkOf K C' (fun _ => th) D) D σ H
def tTryAs (K : PySem.W.Frag) (C' : Addr) (i : Nat) (tb : XH → TS) (th : TS) : TS := fun D σ H =>
  tb (hkOf K C' (fun e D σ H => th { nx := fun σ H => D.nx (σ.set i none) H, rt := D.rt, bk := fun σ H => D.bk (σ.set i none) H, ct := fun σ H => D.ct (σ.set i none) H } (σ.set i (some (.ref e))) H) D) D σ H
section
variable {P : Program} {w : World} {X : Cx} {C' : Addr} {x : Str} {np hpos pos : Pos} {body suite : List Stmt} {b0 : Stmt} {tb : XH → TS} {th : TS}
theorem SP.unTry {pins : List (Addr × Obj)} {Hk : XH} {D : Ends} {f : Flow} {s' : Shared} (h : SP (tryCx P w X pins Hk) [] D f s') : SP X pins D f s' := by
  cases f with
  | next => obtain ⟨σ, H, I, q⟩ := h; exact ⟨σ, H, L2.unTry I, q⟩
  | brk => obtain ⟨σ, H, I, q⟩ := h; exact ⟨σ, H, L2.unTry I, q⟩
  | cont => obtain ⟨σ, H, I, q⟩ := h; exact ⟨σ, H, L2.unTry I, q⟩
  | ret u => obtain ⟨v, σ, H, I, r, q⟩ := h; exact ⟨v, σ, H, L2.unTry I, r, q⟩
theorem SP.unSuf {pins : List (Addr × Obj)} {e : Addr} {D : Ends} {f : Flow} {s' : Shared} (o : X.Ok) (h : SP (sufCx X e) pins D f s') : SP X pins D f s' := by
  cases f with
  | next => obtain ⟨σ, H, I, q⟩ := h; exact ⟨σ, H, L2.unSuf o I, q⟩
  | brk => obtain ⟨σ, H, I, q⟩ := h; exact ⟨σ, H, L2.unSuf o I, q⟩
  | cont => obtain ⟨σ, H, I, q⟩ := h; exact ⟨σ, H, L2.unSuf o I, q⟩
  | ret u => obtain ⟨v, σ, H, I, r, q⟩ := h; exact ⟨v, σ, H, L2.unSuf o I, r, q⟩
theorem drop_ok {M : Model} {A : Around} {E : Value → Shared → Prop} {pins : List (Addr × Obj)} {σ : St} {H : Hp} {s : Shared} {i : Nat} {n : Str} {pos : Pos} {Q : Unit → Shared → Prop} (I : Inv X pins σ H s) (hN : X.N.Nodup) (hi : X.N[i]? = some n) (hl : X.env.scope.names.lookup n = some .local)
    (h : ∀ s', Inv X pins (σ.set i none) H s' → Q () s') : wpAny M A (do bindName X.env n .none; unbindBehindTheSuite X.env n pos) Q E s := by
  have hcls : (X.env.scope.kind == .class || (X.env.scope.kind == .module && X.env.locals != X.env.globals)) = false := by rw [I.ok.kind]; rfl
  refine wpAny_bind (wpAny_bindName (store_ok (v := V.non) I hN hi (.inl hl) rfl (fun s1 I1 => ?_) (.inr hl)))
  unfold unbindBehindTheSuite
  refine wpAny_onRaise ?_
  obtain ⟨m, hn, hlk⟩ := id I1.loc
  have hil : i < σ.length := by rw [I.len]; exact (List.getElem?_eq_some_iff.mp hi).1
  obtain ⟨u, ru, lk⟩ := hlk i n .non hi (by rw [List.getElem?_set_self hil]) (.inl hl)
  have mv : m n = some u := by
    rcases lk with ⟨_, z⟩ | ⟨z, _⟩
    · exact z
    · rcases z with z | z
      · rw [show X.env.kindOf n = some .local from hl] at z; cases z
      · rw [show X.env.kindOf n = some .local from hl] at z; cases z
  refine wpAny_unbindName_local (show X.env.kindOf n = some .local from hl) hn mv hcls fun h' u' hn' hs => h _ ?_
  have cne := I1.cne
  refine ⟨I1.ok, I1.os, I1.bare, ⟨fun b o e n hb hx => ?_, fun b o e n hb hx => ?_, I1.base.free, fun b o e hx => ?_, I1.base.tups, I1.base.frzs, I1.base.tbls⟩, ⟨_, hn', fun j y v' e1 e2 e3 => ?_⟩, fun y c e => ?_, I1.free, I1.freeC, fun p hp => ?_, fun b ob e => ?_, ?_⟩
  · exact (hs.2 b (Nat.ne_of_lt (Nat.lt_of_lt_of_le (Heap.lt_size e) I1.ok.above))).trans (I1.base.keep b o e n hb hx)
  · obtain ⟨sl, e1⟩ := I1.base.slot b o e n hb hx
    exact ⟨sl, (hs.2 b (Nat.ne_of_lt (Nat.lt_of_lt_of_le (Heap.lt_size e) I1.ok.above))).trans e1⟩
  · obtain ⟨o', e1⟩ := I1.base.there b o e hx
    exact ⟨o', (hs.2 b (Nat.ne_of_lt (Nat.lt_of_lt_of_le (Heap.lt_size e) I1.ok.above))).trans e1⟩
  · by_cases hj : j = i
    · subst hj
      rw [List.getElem?_set_self hil] at e2
      cases e2
    · have e2' : (σ.set i (some V.non))[j]? = some (some v') := by
        rw [List.getElem?_set_ne (Ne.symm hj)] at e2 ⊢; exact e2
      obtain ⟨u1, r1, q⟩ := hlk j y v' e1 e2' e3
      refine ⟨u1, r1, ?_⟩
      rcases q with ⟨k, e⟩ | ⟨k, c, e, z⟩
      · refine .inl ⟨k, ?_⟩
        have : y ≠ n := fun e => hj (nodup_ix hN e1 (e ▸ hi))
        simp [this, e]
      · exact .inr ⟨k, c, e, z.sameBut hs (cne y c e)⟩
  · obtain ⟨w', z⟩ := I1.cell y c e
    exact ⟨w', z.sameBut hs (cne y c e)⟩
  · obtain ⟨e, n, ne, nf, d⟩ := I1.pin p hp
    exact ⟨(hs.2 p.1 ne).trans e, n, ne, nf, d⟩
  · refine (I1.hok b ob e).stay (fun c w' hc q => (hs.2 c ?_).trans q) (fun _ q => q) fun _ _ q => q
    rintro rfl
    have fr : H X.env.locals = none := I1.free
    rcases hc with z | hc
    · rw [← z, fr] at e; cases e
    · rw [fr] at hc; cases hc
  · have := I1.len
    rw [List.length_set] at this ⊢
    exact this
theorem ps_tryAs {i : Nat} {n : Str} (hP : X.prog = P) (hw : X.w = w) (K : PySem.W.Frag) (hK : X.K = K) (hst : X.stack = X.env :: X.outer) (hf : X.env.frame = some X.env.locals) (c : XC K C') (hg : Gl X x) (hm : X.mg x = some (.ref C'))
    (hN : X.N.Nodup) (hi : X.N[i]? = some n) (hl : X.env.scope.names.lookup n = some .local)
    (hb : ∀ pins Hk, PSs (tryCx P w X pins Hk) body (tb Hk)) (hs : ∀ e, PSs (sufCx X e) (b0 :: suite) th) (hdb : (x == ("__debug__" : Str)) = false := by decide) :
    PS X (.Try body [.ExceptHandler (some (.Name x np)) (some n) (b0 :: suite) hpos] [] [] pos) (tTryAs K C' i tb th) := by
  subst hP hw hK
  intro pins s σ H D I h
  refine wpAny_Try_except (wpAny_mono (hb pins _ [] s σ H D (inTry I) h) (fun f s1 z => ?_) fun ev s1 z => ?_)
  · have z := SP.unTry z
    cases f with
    | next => obtain ⟨σ1, H1, I1, q⟩ := z; exact wpAny_execs_nil ⟨σ1, H1, I1, q⟩
    | brk => exact z
    | cont => exact z
    | ret u => exact z
  · obtain ⟨σ1, H1, s2, J, B, ea, C, dct, H', rfl, hos, hbr, F, un, cv, e2, C2, hv, he2, hsub, q⟩ := z
    cases hv
    have eC : C2 = C ∧ True := by
      obtain ⟨oe, vs, g1, g2, _⟩ := F.hok.exc he2
      obtain ⟨oe', vs', g1', g2', _⟩ := F.hok.exc F.he
      rw [g1] at g1'
      cases g1'
      rw [g2] at g2'
      exact ⟨Value.ref.inj g2', trivial⟩
    obtain ⟨rfl, _⟩ := eC
    obtain ⟨fl0, hfl, x0⟩ := F.at_
    refine note_at (outer := X.outer) (by rw [← hst]; exact J.ok.frames) (by rw [← hst]; exact F.ff) hf x0 hfl fun h1 x1 u1 => ?_
    refine land_at (s := { s1 with heap := h1 }) x1 fun h2 x2 u2 => ?_
    have J2 := fly_inv J F hos hbr un cv x2 (u1.trans u2)
    refine wpAny_handleBy_cons (codeAny_handlers_test (ld_glob (X := sufCx X ea) (inSuf J2) hg hm ?_ hdb)) (by intro z; cases z)
    obtain ⟨oe, vs, g1, g2, _⟩ := x2.ex
    refine xmatch J2.kIn c g1 g2 hsub (codeAny_handlers_suite_as ?_)
    refine land_at (s := { s1 with heap := h2 }) x2 fun h3 x3 u3 => ?_
    have J3 := fly_inv J F hos hbr un cv x3 ((u1.trans u2).trans u3)
    refine store_ok (X := sufCx X ea) (v := V.ref ea) (inSuf J3) hN hi (.inl hl) rfl (fun s4 J4 => ?_) (.inr hl)
    refine wpAny_mono (hs ea pins s4 _ H' _ J4 q) (fun f s5 z => ?_) fun _ _ z => False.elim z
    have o : X.Ok := J3.ok
    show wpAny _ _ _ (fun _ s6 => SP X pins D f s6) _ _
    cases f with
    | next => obtain ⟨σ5, H5, J5, q5⟩ := z; exact drop_ok (unSuf o J5) hN hi hl fun s6 J6 => ⟨_, _, J6, q5⟩
    | brk => obtain ⟨σ5, H5, J5, q5⟩ := z; exact drop_ok (unSuf o J5) hN hi hl fun s6 J6 => ⟨_, _, J6, q5⟩
    | cont => obtain ⟨σ5, H5, J5, q5⟩ := z; exact drop_ok (unSuf o J5) hN hi hl fun s6 J6 => ⟨_, _, J6, q5⟩
    | ret u => obtain ⟨v, σ5, H5, J5, r5, q5⟩ := z; exact drop_ok (unSuf o J5) hN hi hl fun s6 J6 => ⟨v, _, _, J6, r5, q5⟩
end
end L2
namespace L2
open PySem PySem.Spec PyProof.Rows
def XFull (H : Hp) (dct : Option Addr) : Prop := dct = none ∨ ∃ d fs, dct = some d ∧ H d = some (xdO d fs)
theorem xd_obj {d : Addr} {fs : List (Str × V)} {h : Heap} (x : XDt d fs h) : ∃ o, h.get? d = some o := by
  obtain ⟨mA, ⟨o, es, ep, e1, _⟩, _⟩ := x
  exact ⟨o, e1⟩
theorem exc_inst {P : Program} {w : World} {H : Hp} {h : Heap} {e C : Addr} {dct : Option Addr} {fr : Bool} (x : HOk P w H h) (he : H e = some (excO e C dct fr)) (hf : XFull H dct) : ∃ ox od, PySem.W.InstAt h e ox C od := by
  obtain ⟨oe, vs, e1, e2, e3, e4, _⟩ := x.exc he
  have no : PySem.W.notCls oe = true := by unfold PySem.W.notCls; rw [e4]
  rcases hf with rfl | ⟨d, fs, rfl, hd⟩
  · exact ⟨oe, none, e1, e2, no, by rw [e3]; trivial⟩
  · obtain ⟨o, g⟩ := xd_obj (x.xd hd)
    exact ⟨oe, some o, e1, e2, no, by rw [e3]; exact g⟩
def rInstX (K : PySem.W.Frag) : List V → Hp → VK → Prop := fun xs H Q => ∃ e C dct fr c cv b, xs = [.ref e, c] ∧ H e = some (excO e C dct fr) ∧ XFull H dct ∧ XC K C ∧ clsV c = some cv ∧ PySem.W.kitOne K (.ref C) cv = some b ∧ Q (.bl b) H
section
variable {X : Cx}
theorem call_isinstX (K : PySem.W.Frag) (hK : X.K = K) : CallR X (.builtin "isinstance") (rInstX K) := by
  subst hK
  intro pins s σ H xs us Q I r h
  obtain ⟨e, C, dct, fr, c, cv, b, rfl, he, hf, xc, hc, k, q⟩ := h
  obtain ⟨u, v, rfl, rx, rc⟩ := Vals.two r
  cases (show u = Value.ref e from rx)
  have ec : v = cv := by
    cases c with
    | ty n => cases (show v = Value.type n from rc); exact Option.some.inj hc
    | ref a => cases (show v = Value.ref a from rc); exact Option.some.inj hc
    | _ => cases hc
  subst ec
  exact PySem.W.kia_one (kitx_exc xc) I.kIn (exc_inst I.hok he hf) k (fun z => nomatch z) fun tk => ⟨.bl b, H, I.tok _, rfl, q⟩
end
end L2
namespace L2
open PySem PySem.Spec PyProof.Rows
section
variable {K : PySem.W.Frag} {C C' : Addr}
theorem xc_plain (q : PySem.W.excIn K C bmV "ValueError.__new__" = true) : ∃ nm q N bs bm hdct sn sub ab col dd k0 k1 k2 k3 k5, K.lookup C = some (excClassObj nm q C N bs bm hdct sn sub ab col dd k0 k1 k2 k3 k5 "ValueError.__new__") ∧ PySem.W.tailIn K bmV bm = true := by
  obtain ⟨nm, q, N, bs, bm, hdct, sn, sub, ab, col, dd, k0, k1, k2, k3, k5, l, t, _⟩ := XC.plain q
  exact ⟨nm, q, N, bs, bm, hdct, sn, sub, ab, col, dd, k0, k1, k2, k3, k5, l, t⟩
theorem kit_self : PySem.W.kitOne K (.ref C) (.ref C) = some true := by
  unfold PySem.W.kitOne
  rw [if_pos (by simp)]
theorem kit_of {cd : ClassData} {b : Bool} (n : (Value.ref C == Value.ref C') = false) (hc : PySem.W.clsIn K C' = some cd) (ht : PySem.W.typeIn K (.ref C') = some (.type "type")) (hs : PySem.W.subIn K (.ref C) (.ref C') = some b) : PySem.W.kitOne K (.ref C) (.ref C') = some b := by
  unfold PySem.W.kitOne
  rw [if_neg (by rw [n]; decide)]
  unfold PySem.W.kitCls
  dsimp only
  rw [if_pos (by rw [hc, ht]; rfl)]
  exact hs
theorem kit_ve {b : Bool} (hs : PySem.W.subIn K (.ref C) (.type "ValueError") = some b) : PySem.W.kitOne K (.ref C) (.type "ValueError") = some b := by
  unfold PySem.W.kitOne
  rw [if_neg (by simp)]
  unfold PySem.W.kitCls
  dsimp only
  rw [if_pos (by decide +kernel)]
  exact hs
end
end L2
namespace L2
open PySem PySem.Spec PyProof.Rows
end L2
namespace L2
open PySem PySem.Spec PyProof.Rows
section
variable {α : Type} {enc : α → List V} {H H' : Hp} {ps : List Addr} {qs : List α}
end
abbrev F2 := Int × Int
def f2 (q : F2) : List V := [.int q.1, .int q.2]
end L2
namespace Sw
open L2
theorem Sz.rN {z : Nat} {t b : Int} (h : Sz z t) : Sz z (Sw.rN t b) := by unfold Sw.rN; split <;> exact h.div
theorem Sz.rD {z : Nat} {t b : Int} (h : Sz z b) : Sz z (Sw.rD t b) := by unfold Sw.rD; split <;> exact h.div
end Sw
namespace L2
open PySem PySem.Spec PyProof.Rows
theorem tyL_at {K : PySem.W.Frag} {H : Hp} {l : Addr} {xs : List V} (h : H l = some (.lst xs)) : tyV K "list" (.ref l) H := .inl ⟨rfl, _, .of h⟩
end L2
namespace L2
open PySem PySem.Spec PyProof.Rows
structure RoomN (k : Nat) (A : Around) : Prop where
  dp : A.depth + 3 * k + 5 < recursionLimit
  un : A.units + 16 * k + 200 < cLine
theorem Room.mark {j k : Nat} {A : Around} {h : Option Value} (r : Room k A) (hj : j ≤ k := by decide) : RoomN j (A.mark h) := ⟨by have := r.dp; show A.depth + 3 * j + 5 < _; omega, by have := r.un; show A.units + 16 * j + 200 < _; omega⟩
theorem RoomN.mono {j k : Nat} {A : Around} (r : RoomN k A) (h : j ≤ k) : RoomN j A := ⟨by have := r.dp; omega, by have := r.un; omega⟩
theorem RoomN.deeper {k : Nat} {A : Around} (r : RoomN (k + 1) A) (env : Env) : RoomN k (A.deeper env) := ⟨by have := r.dp; show A.depth + 1 + 3 * k + 5 < _; omega, by have := r.un; show A.units + 3 + 16 * k + 200 < _; omega⟩
theorem RoomN.units {k : Nat} {A : Around} (r : RoomN k A) : A.units + 64 < cLine := by have := r.un; omega
def tCallN (sp : Sp) (t : TA) : TE := fun σ H Q => t σ H fun vs H1 => sp vs H1 Q E0
section
variable {P : Program} {w : World} {X : Cx} {k : Nat} {x : Str} {ps : List Str} {sp : Sp} {p pos : Pos} {e : Expr} {es : List Expr} {t : TA}
end
end L2
namespace L2
open PySem PySem.Spec PyProof.Rows
theorem inst_at {K : PySem.W.Frag} {H : Hp} {e C : Addr} {dct : Option Addr} {fr : Bool} {c : V} {cv : Value} {b : Bool} {Q : VK} (he : H e = some (excO e C dct fr)) (hf : XFull H dct) (xc : XC K C) (hc : clsV c = some cv) (k : PySem.W.kitOne K (.ref C) cv = some b) (q : Q (.bl b) H) : rInstX K [.ref e, c] H Q :=
  ⟨e, C, dct, fr, c, cv, b, rfl, he, hf, xc, hc, k, q⟩
end L2
namespace L2
open PySem PySem.Spec PyProof.Rows
end L2
namespace L2
open PySem PySem.Spec PyProof.Rows
section
variable {X : Cx} {o value : Expr} {f : Str} {pos pos' : Pos} {ta tv : TE}
end
structure MkX (P : Program) (w : World) (K : PySem.W.Frag) (mg : Str → Option Value) (base : Heap) (CX : CXT) (k : Nat) (C : Addr) (ps : List Str) (sp : Sp) : Prop where
  ex : ∃ (f : Addr) (fd : FuncData), FnOk P w K mg base CX k f fd ps sp ∧ Binds K fd ps [] ∧ PySem.W.findIn K (.ref C) "__init__" = some (some (.ref f)) ∧ PySem.W.typeIn K (.ref f) = some (.type "function")
def tXmk1 (C : Addr) (sp : Sp) (t : TA) : TE := fun σ H Q => t σ H fun vs H1 => vs.length ≤ 1000 ∧ ∀ e, H1 e = none → sp (.ref e :: vs) (upd H1 e (excO e C none true)) (fun v H2 => v = .non ∧ Q (.ref e) H2) E0
end L2
namespace L2
open PySem PySem.Spec PyProof.Rows
structure SrcI (K : PySem.W.Frag) (C : Addr) (qual : Str) (st : Stmt) (ps : List Str) : Prop where
  ex : ∃ (f : Addr) (fd : FuncData), Fun K "__init__" qual st f fd ∧ Binds K fd ps [] ∧ PySem.W.findIn K (.ref C) "__init__" = some (some (.ref f)) ∧ PySem.W.typeIn K (.ref f) = some (.type "function")
theorem SrcI.ok {P : Program} {w : World} {K : PySem.W.Frag} {mg : Str → Option Value} {base : Heap} {CX : CXT} {C : Addr} {qual : Str} {st : Stmt} {N ps : List Str} {k : Nat} {sp : Sp} (F : SrcI K C qual st ps) (S : FnScope N ps (defScope st)) (len : ∀ vs H Q E, sp vs H Q E → vs.length = ps.length)
    (hbody : ∀ (f : Addr) (cdv : Value) (A : Around) (outer : List Env) (s : Shared) (H : Hp) (vs : List V) (Q : VK) (E : XK), Room k (A.deeper (envOfC qual (defScope st) s.heap.objs.size f cdv)) → sp vs H Q E →
      ∃ t, PSs (cxOf CX P w K mg base N qual (defScope st) f cdv A outer s H E).nox (defBody st) t ∧ t { nx := fun _ H' => Q .non H', rt := Q } (start N vs) H) : MkX P w K mg base CX (k + 1) C ps sp := by
  obtain ⟨f, fd, F, b, m, ty⟩ := F.ex
  obtain ⟨oc, od, kV, doc, pm, an, cdv, ct, osl, rfl, lk, hcd⟩ := F.ex
  exact ⟨f, _, fn_of lk hcd S len fun A outer s H vs Q E hr hsp => by
    obtain ⟨t, h, q⟩ := hbody f cdv A outer s H vs Q E hr hsp
    exact ⟨t, h.nox, q⟩, b, m, ty⟩
structure XNew (H H' : Hp) (e C d : Addr) (fs : List (Str × V)) : Prop where
  sm : Same H H'
  he : H' e = some (excO e C (some d) true)
  hd : H' d = some (xdO d fs)
  fe : H e = none
  fd : H d = none
  ne : d ≠ e
structure XHas (H : Hp) (e C : Addr) (fs : List (Str × V)) : Prop where
  ex : ∃ d fr, H e = some (excO e C (some d) fr) ∧ H d = some (xdO d fs)
theorem XNew.has {H H' : Hp} {e C d : Addr} {fs : List (Str × V)} (x : XNew H H' e C d fs) : XHas H' e C fs := ⟨d, true, x.he, x.hd⟩
end L2
namespace L2
open PySem PySem.Spec PyProof.Rows
theorem comp_walkT {K : PySem.W.Frag} {a : Addr} {xs : List V} {g : TG} {tc : TT} {te : TE} {D : Addr} {τ : St} {H : Hp} {Q : VK} (Pv : Nat → St → Hp → Prop) (h0 : Pv 0 τ H) (hl : ∀ i τ H, i ≤ xs.length → Pv i τ H → SqT K H a xs)
    (hs : ∀ i x τ H, xs[i]? = some x → Pv i τ H → g x τ H fun τ2 H3 => tc τ2 H3 fun b H4 => if b = true then te τ2 H4 fun y H5 => ∃ ys, H5 D = some (.lst ys) ∧ ys.length < sizeLine ∧ Pv (i + 1) τ2 (upd H5 D (.lst (ys ++ [y]))) else Pv (i + 1) τ2 H4)
    (hd : ∀ τ H, Pv xs.length τ H → Q (.ref D) H) :
    CompG (Itt K a) g tc te D τ H Q := by
  refine ⟨fun i m τ H => m = xs.length - i ∧ i ≤ xs.length ∧ Pv i τ H, ⟨xs.length, by simp, Nat.zero_le _, h0⟩, ?_⟩
  rintro i m τ H ⟨rfl, hi, p⟩
  have q := hl i τ H hi p
  by_cases hlt : i < xs.length
  · refine .inr ⟨⟨xs, xs[i], q, by simp [hlt]⟩, Pv (i + 1), fun τ' H' p' => ⟨xs.length - (i + 1), by omega, rfl, hlt, p'⟩, fun x H2 z => ?_⟩
    obtain ⟨rfl, hx⟩ := z
    exact hs i x τ H2 (hx xs q) p
  · have e : i = xs.length := by omega
    subst e
    exact .inl ⟨⟨xs, q, Nat.le_refl _⟩, hd τ H p⟩
section
variable {X : Cx}
end
theorem Row.upd {H : Hp} {l f : Addr} {ps : List Addr} {qs : List Q4} {xs ys : List V} (R : Row H l ps qs) (hf : H f = some (.lst xs)) (ne : l ≠ f) : Row (L2.upd H f (.lst ys)) l ps qs :=
  ⟨by rw [upd_ne ne]; exact R.hl, R.r.keep fun p z e => by rw [upd_ne (ne_of e hf (by intro w; cases w))]; exact e⟩
theorem Row.ne {H : Hp} {l m : Addr} {ps : List Addr} {qs : List Q4} (R : Row H l ps qs) (h : H m = none) : l ≠ m := ne_of_none R.hl h
theorem Tups.app {H : Hp} {rs : List Addr} {ss : List Q4} (h2 : Tups H rs ss) : ∀ {ps : List Addr} {qs : List Q4}, Tups H ps qs → Tups H (ps ++ rs) (qs ++ ss)
  | _, _, Paired.nil => h2
  | _, _, Paired.cons a b => .cons a (Tups.app h2 b)
end L2
namespace Sw
open L2
def Fine (i : Nat) (b : Int) (q : Q4) : Prop := i < 60 ∧ 0 ≤ q.1 ∧ q.1 ≤ 1000000000000 ∧ 0 ≤ q.2.1 ∧ q.2.1 ≤ 11 ∧ 1 ≤ q.2.2.1 ∧ q.2.2.1 ≤ 1000000 ∧ 1 ≤ q.2.2.2 ∧ q.2.2.2 ≤ 1000000 ∧ b ≤ q.1
instance (i : Nat) (b : Int) (q : Q4) : Decidable (Fine i b q) := by unfold Fine; infer_instance
end Sw
namespace L2
open PySem PySem.Spec PyProof.Rows
def BindsV (K : PySem.W.Frag) (fd : FuncData) (ps : List Str) (dvs : List V) : Prop := ∃ ds, Vals dvs ds ∧ Binds K fd ps ds
theorem BindsV.nil {K : PySem.W.Frag} {fd : FuncData} {ps : List Str} (h : Binds K fd ps []) : BindsV K fd ps [] := ⟨[], .nil, h⟩
structure FunE (K : PySem.W.Frag) (x qual : Str) (st : Stmt) (f : Addr) (fd : FuncData) : Prop where
  ex : ∃ (oc : Value) (od : Option Addr) (dV kV doc pm : Value) (an : Option Addr) (cdv ct : Value) (osl : Array (Option Value)),
    fd = PySem.W.fnOf x qual (defArgs st) (defBody st) (defScope st) dV kV doc pm an cdv ct ∧ K.lookup f = some ⟨oc, od, .func fd, osl⟩ ∧ PySem.W.codeIn K cdv qual = true
structure MethD (P : Program) (w : World) (K : PySem.W.Frag) (mg : Str → Option Value) (base : Heap) (CX : CXT) (k : Nat) (C : Addr) (m : Str) (ps : List Str) (dss : List (List V)) (sp : Sp) : Prop where
  ex : ∃ (f : Addr) (fd : FuncData), FnOk P w K mg base CX k f fd ps sp ∧ Meth K C m f ∧ ∀ dvs ∈ dss, BindsV K fd ps dvs
structure MkD (P : Program) (w : World) (K : PySem.W.Frag) (mg : Str → Option Value) (base : Heap) (CX : CXT) (k : Nat) (C : Addr) (ps : List Str) (dss : List (List V)) (sp : Sp) : Prop where
  ex : ∃ (f : Addr) (fd : FuncData), FnOk P w K mg base CX k f fd ps sp ∧ Mk K C f ∧ ∀ dvs ∈ dss, BindsV K fd ps dvs
structure SrcM (K : PySem.W.Frag) (C : Addr) (m qual : Str) (st : Stmt) (ps : List Str) (dss : List (List V)) : Prop where
  ex : ∃ (f : Addr) (fd : FuncData), FunE K m qual st f fd ∧ Meth K C m f ∧ ∀ dvs ∈ dss, BindsV K fd ps dvs
structure SrcK (K : PySem.W.Frag) (C : Addr) (qual : Str) (st : Stmt) (ps : List Str) (dss : List (List V)) : Prop where
  ex : ∃ (f : Addr) (fd : FuncData), FunE K "__init__" qual st f fd ∧ Mk K C f ∧ ∀ dvs ∈ dss, BindsV K fd ps dvs
section
variable {P : Program} {w : World} {K : PySem.W.Frag} {mg : Str → Option Value} {base : Heap} {CX : CXT} {C : Addr} {m qual : Str} {st : Stmt} {N ps : List Str} {dss : List (List V)} {k : Nat} {sp : Sp}
theorem SrcM.okN (F : SrcM K C m qual st ps dss) (S : FnScope N ps (defScope st)) (len : ∀ vs H Q E, sp vs H Q E → vs.length = ps.length)
    (hbody : ∀ (f : Addr) (cdv : Value) (A : Around) (outer : List Env) (s : Shared) (H : Hp) (vs : List V) (Q : VK) (E : XK), Room k (A.deeper (envOfC qual (defScope st) s.heap.objs.size f cdv)) → sp vs H Q E →
      ∃ t, PSs (cxOf CX P w K mg base N qual (defScope st) f cdv A outer s H E).nox (defBody st) t ∧ t { nx := fun _ H' => Q .non H', rt := Q } (start N vs) H) : MethD P w K mg base CX (k + 1) C m ps dss sp := by
  obtain ⟨f, fd, F, me, b⟩ := F.ex
  obtain ⟨oc, od, dV, kV, doc, pm, an, cdv, ct, osl, rfl, lk, hcd⟩ := F.ex
  exact ⟨f, _, fn_of lk hcd S len fun A outer s H vs Q E hr hsp => by
    obtain ⟨t, h, q⟩ := hbody f cdv A outer s H vs Q E hr hsp
    exact ⟨t, h.nox, q⟩, me, b⟩
theorem SrcM.okX (F : SrcM K C m qual st ps dss) (S : FnScope N ps (defScope st)) (len : ∀ vs H Q E, sp vs H Q E → vs.length = ps.length)
    (hbody : ∀ (f : Addr) (cdv : Value) (A : Around) (outer : List Env) (s : Shared) (H : Hp) (vs : List V) (Q : VK) (E : XK), Room k (A.deeper (envOfC qual (defScope st) s.heap.objs.size f cdv)) → sp vs H Q E →
      ∃ t, PSs (cxOf (CXX P w) P w K mg base N qual (defScope st) f cdv A outer s H E) (defBody st) t ∧ t { nx := fun _ H' => Q .non H', rt := Q } (start N vs) H) : MethD P w K mg base (CXX P w) (k + 1) C m ps dss sp := by
  obtain ⟨f, fd, F, me, b⟩ := F.ex
  obtain ⟨oc, od, dV, kV, doc, pm, an, cdv, ct, osl, rfl, lk, hcd⟩ := F.ex
  exact ⟨f, _, fn_of lk hcd S len fun A outer s H vs Q E hr hsp => hbody f cdv A outer s H vs Q E hr hsp, me, b⟩
theorem SrcK.okN (F : SrcK K C qual st ps dss) (S : FnScope N ps (defScope st)) (len : ∀ vs H Q E, sp vs H Q E → vs.length = ps.length)
    (hbody : ∀ (f : Addr) (cdv : Value) (A : Around) (outer : List Env) (s : Shared) (H : Hp) (vs : List V) (Q : VK) (E : XK), Room k (A.deeper (envOfC qual (defScope st) s.heap.objs.size f cdv)) → sp vs H Q E →
      ∃ t, PSs (cxOf CX P w K mg base N qual (defScope st) f cdv A outer s H E).nox (defBody st) t ∧ t { nx := fun _ H' => Q .non H', rt := Q } (start N vs) H) : MkD P w K mg base CX (k + 1) C ps dss sp := by
  obtain ⟨f, fd, F, me, b⟩ := F.ex
  obtain ⟨oc, od, dV, kV, doc, pm, an, cdv, ct, osl, rfl, lk, hcd⟩ := F.ex
  exact ⟨f, _, fn_of lk hcd S len fun A outer s H vs Q E hr hsp => by
    obtain ⟨t, h, q⟩ := hbody f cdv A outer s H vs Q E hr hsp
    exact ⟨t, h.nox, q⟩, me, b⟩
theorem SrcK.okX (F : SrcK K C qual st ps dss) (S : FnScope N ps (defScope st)) (len : ∀ vs H Q E, sp vs H Q E → vs.length = ps.length)
    (hbody : ∀ (f : Addr) (cdv : Value) (A : Around) (outer : List Env) (s : Shared) (H : Hp) (vs : List V) (Q : VK) (E : XK), Room k (A.deeper (envOfC qual (defScope st) s.heap.objs.size f cdv)) → sp vs H Q E →
      ∃ t, PSs (cxOf (CXX P w) P w K mg base N qual (defScope st) f cdv A outer s H E) (defBody st) t ∧ t { nx := fun _ H' => Q .non H', rt := Q } (start N vs) H) : MkD P w K mg base (CXX P w) (k + 1) C ps dss sp := by
  obtain ⟨f, fd, F, me, b⟩ := F.ex
  obtain ⟨oc, od, dV, kV, doc, pm, an, cdv, ct, osl, rfl, lk, hcd⟩ := F.ex
  exact ⟨f, _, fn_of lk hcd S len fun A outer s H vs Q E hr hsp => hbody f cdv A outer s H vs Q E hr hsp, me, b⟩
end
def tMethX (C : Addr) (m : Str) (sp : Sp) (dvs : List V) (Ek : XH) (ta : TE) (t : TA) : TE := fun σ H Q => ta σ H fun x H1 => ∃ a dx fs, x = .ref a ∧ H1 a = some (.ins C dx fs) ∧ fs.lookup m = none ∧
  t σ H1 fun vs H2 => sp (x :: (vs ++ dvs)) H2 Q (fun v d H' => Ek v d σ H')
def tMakeX (C : Addr) (sp : Sp) (dvs : List V) (Ek : XH) (t : TA) : TE := fun σ H Q => t σ H fun vs H1 => ∀ x dx, H1 x = none → H1 dx = none → dx ≠ x →
  sp (.ref x :: (vs ++ dvs)) (upd (upd H1 dx (.own x)) x (.ins C dx [])) (fun v H2 => v = .non ∧ Q (.ref x) H2) (fun v d H' => Ek v d σ H')
section
variable {X : Cx} {CX : CXT} {k : Nat} {f C : Addr} {fd : FuncData} {ps : List Str} {sp : Sp} {dvs : List V} {dss : List (List V)} {Ek : XH} {x m : Str} {p pos apos : Pos} {e o : Expr} {es : List Expr} {ta : TE} {t : TA}
end
section
variable {X : Cx}
theorem op_isB : OpR X (compareOp .Is) (fun x y H Q => ∃ b c, x = .bl b ∧ y = .bl c ∧ Q (.bl (b == c)) H) := by
  intro pins s σ H x y v u Q I rx ry h
  obtain ⟨b, c, rfl, rfl, q⟩ := h
  cases rx
  cases ry
  exact is_bool (fin_bl I q rfl)
end
end L2
namespace L2
open PySem PySem.Spec PyProof.Rows
def Itrs (lo c : Int) (n : Nat) : It := ⟨fun i _ => i < n, fun i H x H' => H' = H ∧ x = .int (lo + i * c), fun i _ => n ≤ i⟩
structure RngOk (i j c : Int) (n : Nat) : Prop where
  nz : c ≠ 0
  np : Builtin.divisionGoesByPylong (j - i) c = false
  sm : Builtin.Range.small i j c = true
  eq : (n : Int) = Builtin.Range.rangeSize i j c
def iRng3 (ta : TA) : TI := fun σ H R => ta σ H fun vs H1 => ∃ i j c n, vs = [.int i, .int j, .int c] ∧ RngOk i j c n ∧ R (Itrs i c n) H1
section
variable {X : Cx} {tg : Expr}
end
section
variable {X : Cx}
end
end L2
namespace Sw
theorem q_cast_ne {d : Int} (h : d ≠ 0) : (d : Rat) ≠ 0 := by
  intro z
  exact h (Rat.intCast_inj.mp (by rw [z]; rfl))
theorem q_cast_pos {d : Int} (h : 0 < d) : (0 : Rat) < (d : Rat) := by
  have : ((0 : Int) : Rat) < (d : Rat) := Rat.intCast_lt_intCast.mpr h
  exact this
theorem q_self (q : Rat) : (q.num : Rat) / ((q.den : Int) : Rat) = q := by
  rw [← Rat.divInt_eq_div]; exact Rat.num_divInt_den q
theorem q_den_pos (q : Rat) : 0 < (q.den : Int) := by
  have := q.den_nz
  omega
theorem q_den_ne (q : Rat) : (q.den : Int) ≠ 0 := by
  have := q.den_nz
  omega
theorem q_num (q : Rat) : (q.num : Rat) = q * ((q.den : Int) : Rat) := by
  have h := q_self q
  have d := q_cast_ne (q_den_ne q)
  grind
theorem q_low (q : Rat) : dv q.num q.den = 1 := by
  unfold dv
  have := q.reduced
  unfold Nat.Coprime at this
  show ((Nat.gcd q.num.natAbs (q.den : Int).natAbs : Nat) : Int) = 1
  rw [Int.natAbs_natCast, this]
  rfl
theorem q_cross {q : Rat} {n d : Int} (hd : d ≠ 0) (h : q = (n : Rat) / (d : Rat)) : q.num * d = (q.den : Int) * n := by
  have h1 := q_cast_ne hd
  have : ((q.num * d : Int) : Rat) = (((q.den : Int) * n : Int) : Rat) := by
    rw [Rat.intCast_mul, Rat.intCast_mul, q_num]
    grind
  exact Rat.intCast_inj.mp this
structure SzQ (z : Nat) (q : Rat) : Prop where
  n : Sz z q.num
  d : Sz z (q.den : Int)
theorem SzQ.mono {m n : Nat} {q : Rat} (h : SzQ m q) (k : m ≤ n) : SzQ n q := ⟨h.n.mono k, h.d.mono k⟩
theorem cop_dvd' {n d x : Int} (h : dv n d = 1) (q : n ∣ d * x) : n ∣ x := cop_dvd (by rw [dv_comm]; exact h) q
theorem SzQ.of {z : Nat} {q : Rat} {n d : Int} (hd : d ≠ 0) (h : q = (n : Rat) / (d : Rat)) (s1 : Sz z n) (s2 : Sz z d) : SzQ z q := by
  have c := q_cross hd h
  refine ⟨?_, ?_⟩
  · by_cases hn : n = 0
    · subst hn
      rw [Int.mul_zero] at c
      have : q.num = 0 := by
        rcases Int.mul_eq_zero.mp c with z | z
        · exact z
        · exact absurd z hd
      rw [this]; exact Sz.zero z
    · exact s1.dvd (cop_dvd' (q_low q) ⟨d, c.symm⟩) hn
  · exact s2.dvd (cop_dvd (q_low q) ⟨n, c⟩) hd
theorem SzQ.int {z : Nat} {n : Int} (h : Sz (z + 1) n) : SzQ (z + 1) (n : Rat) := ⟨by rw [Rat.num_intCast]; exact h, by rw [Rat.den_intCast]; exact Sz.one z⟩
theorem sub_q (a b : Rat) : ((a.num * (b.den : Int) - b.num * (a.den : Int) : Int) : Rat) / (((a.den : Int) * (b.den : Int) : Int) : Rat) = a - b := by
  rw [Rat.intCast_sub, Rat.intCast_mul, Rat.intCast_mul, Rat.intCast_mul, q_num a, q_num b]
  have h1 := q_cast_ne (q_den_ne a)
  have h2 := q_cast_ne (q_den_ne b)
  grind
theorem mul_q (a b : Rat) : ((a.num * b.num : Int) : Rat) / (((a.den : Int) * (b.den : Int) : Int) : Rat) = a * b := by
  rw [Rat.intCast_mul, Rat.intCast_mul, q_num a, q_num b]
  have h1 := q_cast_ne (q_den_ne a)
  have h2 := q_cast_ne (q_den_ne b)
  grind
theorem div_q (a b : Rat) (hb : b.num ≠ 0) : ((a.num * (b.den : Int) : Int) : Rat) / (((a.den : Int) * b.num : Int) : Rat) = a / b := by
  rw [Rat.intCast_mul, Rat.intCast_mul, q_num a, q_num b]
  have h1 := q_cast_ne (q_den_ne a)
  have h2 := q_cast_ne (q_den_ne b)
  have h3 := q_cast_ne hb
  rw [q_num b] at h3
  grind
theorem SzQ.sub {m n : Nat} {a b : Rat} (h : SzQ m a) (k : SzQ n b) : SzQ (m + n + 1) (a - b) := by
  refine .of (Int.mul_ne_zero (q_den_ne a) (q_den_ne b)) (sub_q a b).symm ?_ ((h.d.mul k.d).mono (by omega))
  exact (h.n.mul k.d).sub ((k.n.mul h.d).mono (by omega))
theorem SzQ.mul {m n : Nat} {a b : Rat} (h : SzQ m a) (k : SzQ n b) : SzQ (m + n) (a * b) :=
  .of (Int.mul_ne_zero (q_den_ne a) (q_den_ne b)) (mul_q a b).symm (h.n.mul k.n) (h.d.mul k.d)
theorem SzQ.div {m n : Nat} {a b : Rat} (hb : b.num ≠ 0) (h : SzQ m a) (k : SzQ n b) : SzQ (m + n) (a / b) :=
  .of (Int.mul_ne_zero (q_den_ne a) hb) (div_q a b hb).symm (h.n.mul k.d) (h.d.mul k.n)
end Sw
namespace L2
def fq (q : Rat) : List V := [.int q.num, .int (q.den : Int)]
end L2
namespace Sw
def lvl (d : Int) (r : Rat) (since : Int) (left : Rat) (at_ : Int) : Rat := min (left + r * ((at_ - since : Int) : Rat)) (d : Rat)
theorem SzQ.min {z : Nat} {a b : Rat} (ha : SzQ z a) (hb : SzQ z b) : SzQ z (min a b) := by
  rw [Rat.min_def]
  split
  · exact ha
  · exact hb
end Sw
namespace L2
open PySem PySem.Spec PyProof.Rows
def But (p : Addr) (H H' : Hp) : Prop := ∀ b o, b ≠ p → H b = some o → H' b = some o
theorem Same.but {p : Addr} {H H' : Hp} (h : Same H H') : But p H H' := fun b o _ e => h b o e
theorem But.trans {p : Addr} {H H1 H2 : Hp} (a : But p H H1) (b : But p H1 H2) : But p H H2 := fun c o n h => b c o n (a c o n h)
theorem But.seq {K : PySem.W.Frag} {p : Addr} {H H' : Hp} {a C dx : Addr} {fs : List (Str × V)} {xs : List V} (e : But p H H') (hp : H p = some (.ins C dx fs)) (h : SqL K H a xs) : SqL K H' a xs := by
  rcases h with (h | ⟨o, h⟩) | h
  · exact .inl (.inl (e _ _ (ne_of h hp (by intro w; cases w)) h))
  · exact .inl (.inr ⟨o, e _ _ (ne_of h hp (by intro w; cases w)) h⟩)
  · exact .inr h
theorem But.tup {p : Addr} {H H' : Hp} {a C dx : Addr} {fs : List (Str × V)} {xs : List V} (e : But p H H') (hp : H p = some (.ins C dx fs)) (h : H a = some (.tup xs)) : H' a = some (.tup xs) := e _ _ (ne_of h hp (by intro w; cases w)) h
structure FB (fs : List (Str × V)) (d : Int) (pr : Addr) (s : Int) (pl : Addr) : Prop where
  dep : fs.lookup ("depth" : Str) = some (.int d)
  rat : fs.lookup ("rate" : Str) = some (.ref pr)
  sin : fs.lookup ("since" : Str) = some (.int s)
  lef : fs.lookup ("left" : Str) = some (.ref pl)
  no : ∀ m : Str, ¬ m = "depth" → ¬ m = "rate" → ¬ m = "since" → ¬ m = "left" → fs.lookup m = none
  len : fs.length < 900
structure Bk (C : Addr) (H : Hp) (p : Addr) (d : Int) (r : Rat) (s : Int) (l : Rat) : Prop where
  ex : ∃ dx fs pr pl, H p = some (.ins C dx fs) ∧ FB fs d pr s pl ∧ H pr = some (.tup (fq r)) ∧ H pl = some (.tup (fq l))
theorem Bk.but {C C' : Addr} {H H' : Hp} {p q dx' : Addr} {fs' : List (Str × V)} {d : Int} {r : Rat} {s : Int} {l : Rat} (b : Bk C H p d r s l) (h : But q H H') (hq : H q = some (.ins C' dx' fs')) (n : p ≠ q) : Bk C H' p d r s l := by
  obtain ⟨dx, fs, pr, pl, h1, h2, h3, h4⟩ := b.ex
  exact ⟨dx, fs, pr, pl, h _ _ n h1, h2, h.tup hq h3, h.tup hq h4⟩
end L2
namespace L2
open PySem PySem.Spec PyProof.Rows
def rFld (K : PySem.W.Frag) (f : Str) (x : V) (H : Hp) (Q : VK) : Prop := ∃ a C dx fs v, x = .ref a ∧ H a = some (.ins C dx fs) ∧ Cls K C ∧ NoAttr K C f ∧ fs.lookup f = some v ∧ Q v H
theorem tFld_eq {K : PySem.W.Frag} {ta : TE} {f : Str} {σ : St} {H : Hp} {Q : VK} : tFld K ta f σ H Q = ta σ H fun x H1 => rFld K f x H1 Q := rfl
def rSet (K : PySem.W.Frag) (f : Str) (y x : V) (H : Hp) (Z : Hp → Prop) : Prop := ∃ a C dx fs, x = .ref a ∧ H a = some (.ins C dx fs) ∧ Cls K C ∧ NoAttr K C f ∧ fs.length < 1000 ∧ Z (upd H a (.ins C dx (putF f y fs)))
theorem sFld_eq {K : PySem.W.Frag} {ta tv : TE} {f : Str} {D : Ends} {σ : St} {H : Hp} : sFld K ta tv f D σ H = tv σ H fun y H1 => ta σ H1 fun x H2 => rSet K f y x H2 (D.nx σ) := rfl
def rMeth (C : Addr) (m : Str) (x : V) (H : Hp) (Z : Prop) : Prop := ∃ a dx fs, x = .ref a ∧ H a = some (.ins C dx fs) ∧ fs.lookup m = none ∧ Z
theorem tMethX_eq {C : Addr} {m : Str} {sp : Sp} {dvs : List V} {Ek : XH} {ta : TE} {t : TA} {σ : St} {H : Hp} {Q : VK} :
    tMethX C m sp dvs Ek ta t σ H Q = ta σ H fun x H1 => rMeth C m x H1 (t σ H1 fun vs H2 => sp (x :: (vs ++ dvs)) H2 Q (fun v d H' => Ek v d σ H')) := by
  unfold tMethX rMeth
  rfl
end L2
namespace L2
open PySem PySem.Spec PyProof.Rows
structure At (C : Addr) (H : Hp) (p : Addr) (d : Int) (r : Rat) (t level : Int) : Prop where
  ex : ∃ s n : Int, Bk C H p d r s ((n : Rat) / ((r.den : Int) : Rat)) ∧ 0 ≤ n ∧ n ≤ d * (r.den : Int) ∧ 0 ≤ s ∧ s ≤ t ∧ Sw.lvl d r s ((n : Rat) / ((r.den : Int) : Rat)) t = (level : Rat) / ((r.den : Int) : Rat)
structure Bd (d : Int) (r : Rat) : Prop where
  d1 : 1 ≤ d
  d2 : d ≤ 1000000000000
  r0 : 0 ≤ r
  rz : Sw.SzQ 70 r
theorem lt_den {a b : Int} {r : Rat} : (a : Rat) / ((r.den : Int) : Rat) < (b : Rat) ↔ a < b * (r.den : Int) := by
  rw [Rat.div_lt_iff (Sw.q_cast_pos (Sw.q_den_pos r)), ← Rat.intCast_mul, Rat.intCast_lt_intCast]
theorem At.lv {C : Addr} {H : Hp} {p : Addr} {d : Int} {r : Rat} {t level : Int} (a : At C H p d r t level) (b : Bd d r) : 0 ≤ level ∧ level ≤ d * (r.den : Int) := by
  obtain ⟨s, n, B, n0, n1, s0, s1, e⟩ := a.ex
  have dp := Sw.q_cast_pos (Sw.q_den_pos r)
  have h1 : (level : Rat) / ((r.den : Int) : Rat) ≤ (d : Rat) := by
    rw [← e]; unfold Sw.lvl; rw [Rat.min_def]; grind
  have x0 : (0 : Rat) ≤ (n : Rat) / ((r.den : Int) : Rat) := by
    have h : ¬ (n : Rat) / ((r.den : Int) : Rat) < ((0 : Int) : Rat) := by rw [lt_den]; omega
    have z : ((0 : Int) : Rat) = 0 := rfl
    grind
  have y0 : (0 : Rat) ≤ r * ((t - s : Int) : Rat) := by
    refine Rat.mul_nonneg b.r0 ?_
    have : ((0 : Int) : Rat) ≤ ((t - s : Int) : Rat) := Rat.intCast_le_intCast.mpr (by omega)
    exact this
  have w0 : (0 : Rat) ≤ (d : Rat) := by
    have : ((0 : Int) : Rat) ≤ (d : Rat) := Rat.intCast_le_intCast.mpr (by have := b.d1; omega)
    exact this
  have h0 : (0 : Rat) ≤ (level : Rat) / ((r.den : Int) : Rat) := by
    rw [← e]; unfold Sw.lvl; rw [Rat.min_def]; grind
  have g0 : ¬ level < 0 * (r.den : Int) := by
    rw [← lt_den]
    have z : ((0 : Int) : Rat) = 0 := rfl
    grind
  have g1 : ¬ (d * (r.den : Int) < level) := by
    intro h
    have : (d : Rat) * ((r.den : Int) : Rat) < (level : Rat) := by rw [← Rat.intCast_mul]; exact Rat.intCast_lt_intCast.mpr h
    rw [← Rat.lt_div_iff dp] at this
    grind
  omega
theorem At.lz {C : Addr} {H : Hp} {p : Addr} {d : Int} {r : Rat} {t level : Int} (a : At C H p d r t level) (b : Bd d r) : Sw.Sz 140 level := by
  have h := a.lv b
  have d1 := b.d1
  have d2 := b.d2
  have sd : Sw.Sz 70 d := Sw.Sz.r18 (by omega) (by omega)
  exact (sd.mul b.rz.d).le (by omega)
theorem At.init {C : Addr} {H : Hp} {p : Addr} {d : Int} {r : Rat} {s : Int} (B : Bk C H p d r s (d : Rat)) (bd : Bd d r) (s0 : 0 ≤ s) : At C H p d r s (d * (r.den : Int)) := by
  have dn := Sw.q_cast_ne (Sw.q_den_ne r)
  have e : (d : Rat) = ((d * (r.den : Int) : Int) : Rat) / ((r.den : Int) : Rat) := by
    rw [Rat.intCast_mul]
    grind
  rw [e] at B
  have d1 := bd.d1
  refine ⟨s, _, B, Int.mul_nonneg (by omega) (Int.le_of_lt (Sw.q_den_pos r)), Int.le_refl _, s0, Int.le_refl _, ?_⟩
  rw [← e]
  unfold Sw.lvl
  rw [Int.sub_self, Rat.min_def]
  have : ((0 : Int) : Rat) = 0 := rfl
  rw [this]
  grind
theorem At.ins {C : Addr} {H : Hp} {p : Addr} {d : Int} {r : Rat} {t level : Int} (a : At C H p d r t level) : ∃ dx fs pr s pl, H p = some (.ins C dx fs) ∧ FB fs d pr s pl ∧ H pr = some (.tup (fq r)) := by
  obtain ⟨s, n, B, _⟩ := a.ex
  obtain ⟨dx, fs, pr, pl, h1, h2, h3, h4⟩ := B.ex
  exact ⟨dx, fs, pr, s, pl, h1, h2, h3⟩
end L2
namespace L2
open PySem PySem.Spec PyProof.Rows
end L2
namespace Sw
end Sw
namespace L2
open PySem PySem.Spec PyProof.Rows
end L2
namespace L2
open PySem PySem.Spec PyProof.Rows
section
variable {κ : Type} [DecidableEq κ]
def valV (kvs : List (κ × V)) (k : κ) : Option V := (kvs.find? fun kv => decide (kv.1 = k)).map (·.2)
def putK (kvs : List (κ × V)) (k : κ) (v : V) : List (κ × V) :=
  if (kvs.any fun kv => decide (kv.1 = k)) = true then kvs.map (fun kv => if kv.1 = k then (kv.1, v) else kv) else kvs ++ [(k, v)]
def dropK (kvs : List (κ × V)) (k : κ) : List (κ × V) := kvs.filter fun kv => decide (kv.1 ≠ k)
theorem valV_pos {p : κ × V} {r : List (κ × V)} {k : κ} (e : p.1 = k) : valV (p :: r) k = some p.2 := by simp [valV, List.find?_cons, e]
theorem valV_neg {p : κ × V} {r : List (κ × V)} {k : κ} (e : ¬ p.1 = k) : valV (p :: r) k = valV r k := by simp [valV, List.find?_cons, e]
theorem RelO.getD {o : Option V} {u : Option Value} {d : V} {d' : Value} (r : RelO o u) (rd : RelV d d') : RelV (o.getD d) (u.getD d') := by
  cases o with
  | none => cases u with
    | none => exact rd
    | some _ => exact (show False from r).elim
  | some _ => cases u with
    | none => exact (show False from r).elim
    | some _ => exact r
theorem KV.val {kvs : List (κ × V)} {vs : List (κ × Value)} (r : KV kvs vs) (k : κ) : RelO (valV kvs k) (valueAt vs k) := by
  unfold KV at r
  induction r with
  | nil => exact True.intro
  | @cons p q ps qs h t ih =>
    obtain ⟨h1, h2⟩ := h
    by_cases e : p.1 = k
    · have e' : q.1 = k := h1.symm.trans e
      have b : valueAt (q :: qs) k = some q.2 := by simp [valueAt, List.find?_cons, e']
      rw [valV_pos e, b]; exact h2
    · have e' : ¬ q.1 = k := fun z => e (h1.trans z)
      have b : valueAt (q :: qs) k = valueAt qs k := by simp [valueAt, List.find?_cons, e']
      rw [valV_neg e, b]; exact ih
theorem KV.any {kvs : List (κ × V)} {vs : List (κ × Value)} (r : KV kvs vs) (k : κ) : (kvs.any fun kv => decide (kv.1 = k)) = vs.any fun kv => decide (kv.1 = k) := by
  unfold KV at r
  induction r with
  | nil => rfl
  | cons h t ih => rw [List.any_cons, List.any_cons, ih, h.1]
theorem KV.drop {kvs : List (κ × V)} {vs : List (κ × Value)} (r : KV kvs vs) (k : κ) : KV (dropK kvs k) (without vs k) := by
  unfold KV at r ⊢
  unfold dropK without
  induction r with
  | nil => exact .nil
  | @cons p q ps qs h t ih =>
    obtain ⟨h1, h2⟩ := h
    rw [List.filter_cons, List.filter_cons]
    by_cases e : p.1 = k
    · have a : ¬ decide (p.1 ≠ k) = true := by simp [e]
      have b : ¬ decide (q.1 ≠ k) = true := by simp [h1.symm.trans e]
      rw [if_neg a, if_neg b]; exact ih
    · have e' : ¬ q.1 = k := fun z => e (h1.trans z)
      have a : decide (p.1 ≠ k) = true := by simp [e]
      have b : decide (q.1 ≠ k) = true := by simp [e']
      rw [if_pos a, if_pos b]; exact .cons ⟨h1, h2⟩ ih
theorem KV.keys {kvs : List (κ × V)} {vs : List (κ × Value)} (r : KV kvs vs) : kvs.map (·.1) = vs.map (·.1) := by
  unfold KV at r
  induction r with
  | nil => rfl
  | cons h t ih => rw [List.map_cons, List.map_cons, ih, h.1]
theorem KV.length {kvs : List (κ × V)} {vs : List (κ × Value)} (r : KV kvs vs) : kvs.length = vs.length := Paired.length r
end
abbrev KT (H : Hp) : List (List Key × V) → List (List Key × Addr × Value) → Prop := Paired fun p q => p.1 = q.1 ∧ H q.2.1 = some (.tup (p.1.map kV)) ∧ RelV p.2 q.2.2
theorem KT.val {H : Hp} {kvs : List (List Key × V)} {xs : List (List Key × Addr × Value)} (r : KT H kvs xs) (k : List Key) : RelO (valV kvs k) ((atKey xs k).map (·.2)) := by
  induction r with
  | nil => exact True.intro
  | @cons p q ps qs h t ih =>
    obtain ⟨h1, _, h2⟩ := h
    by_cases e : p.1 = k
    · have e' : q.1 = k := h1.symm.trans e
      have b : atKey (q :: qs) k = some q.2 := by simp [atKey, List.find?_cons, e']
      rw [valV_pos e, b]; exact h2
    · have e' : ¬ q.1 = k := fun z => e (h1.trans z)
      have b : atKey (q :: qs) k = atKey qs k := by simp [atKey, List.find?_cons, e']
      rw [valV_neg e, b]; exact ih
theorem KT.keeps {H H' : Hp} {kvs : List (List Key × V)} {xs : List (List Key × Addr × Value)} (r : KT H kvs xs) (ht : ∀ b ys, H b = some (.tup ys) → H' b = some (.tup ys)) : KT H' kvs xs :=
  Paired.mapP r fun _ _ z => ⟨z.1, ht _ _ z.2.1, z.2.2⟩
section
variable {P : Program} {w : World} {H : Hp} {h : Heap} {a : Addr}
end
def DGet (H : Hp) (a : Addr) (y : V) (r : Option V) : Prop :=
  (∃ kvs k, Rd H a (.dK kvs) ∧ y = kV k ∧ r = valV kvs k) ∨ ∃ kvs k b, Rd H a (.dT kvs) ∧ y = .ref b ∧ H b = some (.tup (k.map kV)) ∧ r = valV kvs k
def DPut (H : Hp) (a : Addr) (y v : V) (H' : Hp) : Prop :=
  (∃ kvs k, H a = some (.dK kvs) ∧ y = kV k ∧ kvs.length < sizeLine ∧ H' = upd H a (.dK (putK kvs k v))) ∨
  ∃ kvs k b, H a = some (.dT kvs) ∧ y = .ref b ∧ H b = some (.tup (k.map kV)) ∧ kvs.length < sizeLine ∧ H' = upd H a (.dT (putK kvs k v))
theorem DGet.k {H : Hp} {a : Addr} {kvs : List (Key × V)} {k : Key} (e : H a = some (.dK kvs)) : DGet H a (kV k) (valV kvs k) := .inl ⟨kvs, k, .inl e, rfl, rfl⟩
theorem DGet.t {H : Hp} {a b : Addr} {kvs : List (List Key × V)} {k : List Key} (e : H a = some (.dT kvs)) (eb : H b = some (.tup (k.map kV))) : DGet H a (.ref b) (valV kvs k) := .inr ⟨kvs, k, b, .inl e, rfl, eb, rfl⟩
theorem DPut.k {H : Hp} {a : Addr} {kvs : List (Key × V)} {k : Key} {v : V} (e : H a = some (.dK kvs)) (hl : kvs.length < sizeLine) : DPut H a (kV k) v (upd H a (.dK (putK kvs k v))) := .inl ⟨kvs, k, e, rfl, hl, rfl⟩
theorem DPut.t {H : Hp} {a b : Addr} {kvs : List (List Key × V)} {k : List Key} {v : V} (e : H a = some (.dT kvs)) (eb : H b = some (.tup (k.map kV))) (hl : kvs.length < sizeLine) :
    DPut H a (.ref b) v (upd H a (.dT (putK kvs k v))) := .inr ⟨kvs, k, b, e, rfl, eb, hl, rfl⟩
section
variable {X : Cx} {pins : List (Addr × Obj)} {σ : St} {H : Hp} {s : Shared} {a : Addr} {y v : V} {u r : Value} {o : Option V} {A : Around} {E : Value → Shared → Prop}
theorem Inv.big (I : Inv X pins σ H s) : sysModules < s.heap.objs.size := by
  have h : mainGlobals < s.heap.objs.size := (I.mod.glob.keeps I.bk).lt
  exact Nat.lt_trans (by decide) h
end
section
variable {X : Cx} {pins : List (Addr × Obj)} {σ : St} {H : Hp} {s : Shared} {a : Addr} {kvs : List (Key × V)} {k : Key} {u : Value} {A : Around} {E : Value → Shared → Prop}
end
def tDGet (td ty : TE) : TE := fun σ H Q => td σ H fun x H1 => ty σ H1 fun y H2 => ∃ a v, x = .ref a ∧ DGet H2 a y (some v) ∧ Q v H2
def tDIn (ty td : TE) : TE := fun σ H Q => ty σ H fun y H1 => td σ H1 fun x H2 => ∃ a o, x = .ref a ∧ DGet H2 a y o ∧ Q (.bl o.isSome) H2
def tDNotIn (ty td : TE) : TE := fun σ H Q => ty σ H fun y H1 => td σ H1 fun x H2 => ∃ a o, x = .ref a ∧ DGet H2 a y o ∧ Q (.bl (!o.isSome)) H2
def sDPut (td ty tv : TE) : TS := fun D σ H => tv σ H fun v H1 => td σ H1 fun x H2 => ty σ H2 fun y H3 => ∃ a H4, x = .ref a ∧ DPut H3 a y v H4 ∧ D.nx σ H4
section
variable {X : Cx} {o i e value : Expr} {pos pos' tpos : Pos} {td ty tv : TE}
end
def tDNewK : TE := fun _ H Q => ∀ p, H p = none → Q (.ref p) (upd H p (.dK []))
section
variable {X : Cx} {pos : Pos}
end
def IsD (H : Hp) (a : Addr) : Prop := (∃ kvs, Rd H a (.dK kvs)) ∨ ∃ kvs, Rd H a (.dT kvs)
section
variable {X : Cx} {pins : List (Addr × Obj)} {σ : St} {H : Hp} {s : Shared} {a : Addr} {y d : V} {u r : Value} {o : Option V} {A : Around} {E : Value → Shared → Prop}
end
def tDGet1 (td ty : TE) : TE := fun σ H Q => td σ H fun x H1 => ∃ a, x = .ref a ∧ IsD H1 a ∧ ty σ H1 fun y H2 => ∃ o, DGet H2 a y o ∧ Q (o.getD .non) H2
def tDGet2 (td ty tx : TE) : TE := fun σ H Q => td σ H fun x H1 => ∃ a, x = .ref a ∧ IsD H1 a ∧ ty σ H1 fun y H2 => tx σ H2 fun z H3 => ∃ o, DGet H3 a y o ∧ Q (o.getD z) H3
section
variable {X : Cx} {o e f : Expr} {apos cpos : Pos} {td ty tx : TE}
end
section
variable {X : Cx} {pins : List (Addr × Obj)} {σ : St} {H : Hp} {s : Shared} {a : Addr} {kvs : List (Key × V)} {A : Around} {E : Value → Shared → Prop}
end
section
variable {X : Cx} {pins : List (Addr × Obj)} {σ : St} {H : Hp} {s : Shared} {a : Addr} {y : V} {u : Value} {A : Around} {E : Value → Shared → Prop}
end
end L2
namespace L2
open PySem PySem.Spec PyProof.Rows
section
variable {X : Cx}
end
section
variable {κ : Type} [DecidableEq κ]
end
end L2
namespace L2
open PySem PySem.Spec PyProof.Rows
def tTru (K : PySem.W.Frag) (ta : TE) : TT := fun σ H Q => ta σ H fun x H1 => ∃ k, TruV K x H1 k ∧ Q k H1
end L2
namespace Sw
abbrev T3 := Rat × Rat × Int
def isHd (m : Rat) (u : T3) : Bool := !decide (m < u.1) && decide (m < u.2.1)
def hds (us : List T3) (m : Rat) : List T3 := us.filter (isHd m)
def sumS (hs : List T3) : Int := (hs.map fun u => u.2.2).sum
def minL : List Rat → Rat
  | [] => 0
  | q :: r => (q :: r).foldl min q
def fstE (hs : List T3) : Rat := minL (hs.map fun u => u.2.1)
theorem foldl_min_mem : ∀ (l : List Rat) (d : Rat), l.foldl min d = d ∨ l.foldl min d ∈ l
  | [], d => .inl rfl
  | q :: r, d => by
    rcases foldl_min_mem r (min d q) with h | h
    · rw [List.foldl_cons, h, Rat.min_def]
      split
      · exact .inl rfl
      · exact .inr (by simp)
    · exact .inr (by rw [List.foldl_cons]; exact List.mem_cons_of_mem _ h)
theorem minL_mem {l : List Rat} (h : l ≠ []) : minL l ∈ l := by
  cases l with
  | nil => exact absurd rfl h
  | cons q r =>
    show (q :: r).foldl min q ∈ q :: r
    rcases foldl_min_mem (q :: r) q with e | e
    · rw [e]; simp
    · exact e
theorem fstE_mem {hs : List T3} (h : hs ≠ []) : ∃ u ∈ hs, fstE hs = u.2.1 := by
  have := minL_mem (l := hs.map fun u => u.2.1) (by simpa using h)
  obtain ⟨u, hu, e⟩ := List.mem_map.mp this
  exact ⟨u, hu, e.symm⟩
theorem hds_mem {us : List T3} {m : Rat} {u : T3} (h : u ∈ hds us m) : u ∈ us ∧ m < u.2.1 := by
  obtain ⟨h1, h2⟩ := List.mem_filter.mp h
  unfold isHd at h2
  simp only [Bool.and_eq_true, Bool.not_eq_true', decide_eq_true_eq] at h2
  exact ⟨h1, h2.2⟩
theorem fstE_gt {us : List T3} {m : Rat} (h : hds us m ≠ []) : m < fstE (hds us m) := by
  obtain ⟨u, hu, e⟩ := fstE_mem h
  rw [e]; exact (hds_mem hu).2
def ahead (us : List T3) (m : Rat) : Nat := (us.filter fun u => decide (m < u.2.1)).length
theorem filter_len_lt {α : Type} {p q : α → Bool} : ∀ {l : List α}, (∀ x ∈ l, q x = true → p x = true) → (∃ x ∈ l, p x = true ∧ q x = false) → (l.filter q).length < (l.filter p).length
  | [], _, ⟨x, hx, _⟩ => absurd hx (by simp)
  | y :: r, h, ⟨x, hx, h1, h2⟩ => by
    have le : ∀ {l : List α}, (∀ x ∈ l, q x = true → p x = true) → (l.filter q).length ≤ (l.filter p).length := fun {l} => by
      induction l with
      | nil => intro _; exact Nat.le_refl _
      | cons z t ih =>
        intro hh
        have ih := ih fun x hx => hh x (List.mem_cons_of_mem _ hx)
        have hz := hh z (by simp)
        rw [List.filter_cons, List.filter_cons]
        cases e1 : q z <;> cases e2 : p z <;> simp_all <;> omega
    rcases List.mem_cons.mp hx with e | e
    · subst e
      have := le (l := r) fun x hx => h x (List.mem_cons_of_mem _ hx)
      rw [List.filter_cons, List.filter_cons, h1, h2]
      simp; omega
    · have ih := filter_len_lt (l := r) (fun x hx => h x (List.mem_cons_of_mem _ hx)) ⟨x, e, h1, h2⟩
      have hy := h y (by simp)
      rw [List.filter_cons, List.filter_cons]
      cases e1 : q y <;> cases e2 : p y <;> simp_all <;> omega
theorem ahead_lt {us : List T3} {m : Rat} (h : hds us m ≠ []) : ahead us (fstE (hds us m)) < ahead us m := by
  have gt := fstE_gt h
  obtain ⟨u, hu, e⟩ := fstE_mem h
  obtain ⟨h1, h2⟩ := hds_mem hu
  refine filter_len_lt (fun x _ hx => ?_) ⟨u, h1, decide_eq_true h2, ?_⟩
  · simp only [decide_eq_true_eq] at hx ⊢
    grind
  · rw [e]; simp only [decide_eq_false_iff_not]; grind
def markF (us : List T3) (t : Rat) : Nat → Rat → Rat → Rat
  | 0, _, re => re
  | n + 1, mo, re =>
    if hds us re = [] then re
    else if t < mo + (fstE (hds us re) - re) * (sumS (hds us re) : Rat) then re + (t - mo) / (sumS (hds us re) : Rat)
    else markF us t n (mo + (fstE (hds us re) - re) * (sumS (hds us re) : Rat)) (fstE (hds us re))
def markAt (us : List T3) (latest : Int) (reached : Rat) (t : Int) : Rat := markF us (t : Rat) (us.length + 1) (latest : Rat) reached
theorem ahead_le (us : List T3) (m : Rat) : ahead us m ≤ us.length := List.length_filter_le _ _
def Grd (D : Int) (q : Rat) : Prop := ∃ n : Int, q = (n : Rat) / (D : Rat)
theorem Grd.int {D : Int} (hD : D ≠ 0) (n : Int) : Grd D (n : Rat) := ⟨n * D, by have := q_cast_ne hD; rw [Rat.intCast_mul]; grind⟩
theorem Grd.sub {D : Int} {a b : Rat} (h : Grd D a) (k : Grd D b) : Grd D (a - b) := by
  obtain ⟨n, rfl⟩ := h
  obtain ⟨m, rfl⟩ := k
  exact ⟨n - m, by rw [Rat.intCast_sub]; grind⟩
theorem Grd.more {D : Int} {a : Rat} (hD : D ≠ 0) (h : Grd D a) {k : Int} (hk : k ≠ 0) : Grd (D * k) a := by
  obtain ⟨n, rfl⟩ := h
  have h1 := q_cast_ne hD
  have h2 := q_cast_ne hk
  exact ⟨n * k, by rw [Rat.intCast_mul, Rat.intCast_mul]; grind⟩
theorem Grd.sz {D M : Int} {a b : Nat} {q : Rat} (h : Grd D q) (hD : 0 < D) (zD : Sz a D) (zM : Sz b M) (h1 : -(M : Rat) ≤ q) (h2 : q ≤ (M : Rat)) (hb : 1 ≤ b) : SzQ (a + b) q := by
  obtain ⟨n, rfl⟩ := h
  have dp := q_cast_pos hD
  have dn := q_cast_ne (show D ≠ 0 by omega)
  refine .of (by omega) rfl ((zD.mul zM).le ?_) (zD.mono (by omega))
  have e : (n : Rat) / (D : Rat) * (D : Rat) = (n : Rat) := by grind
  have u : (n : Rat) ≤ ((M * D : Int) : Rat) := by
    rw [← e, Rat.intCast_mul]
    exact Rat.mul_le_mul_of_nonneg_right h2 (by grind)
  have l : ((-(M * D) : Int) : Rat) ≤ (n : Rat) := by
    rw [← e, Rat.intCast_neg, Rat.intCast_mul, show -((M : Rat) * (D : Rat)) = -(M : Rat) * (D : Rat) by grind]
    exact Rat.mul_le_mul_of_nonneg_right h1 (by grind)
  have u' := Rat.intCast_le_intCast.mp u
  have l' := Rat.intCast_le_intCast.mp l
  rw [Int.mul_comm D M]
  omega
end Sw
namespace L2
open PySem PySem.Spec PyProof.Rows
def TagAt (H : Hp) (p : Addr) (u : Sw.T3) : Prop := ∃ pb pe, H p = some (.tup [.ref pb, .ref pe, .int u.2.2]) ∧ H pb = some (.tup (fq u.1)) ∧ H pe = some (.tup (fq u.2.1))
abbrev TagsAt (H : Hp) (ps : List Addr) (us : List Sw.T3) : Prop := Paired (TagAt H) ps us
theorem TagAt.keep {H H' : Hp} {p : Addr} {u : Sw.T3} (h : TagAt H p u) (e : ∀ p xs, H p = some (.tup xs) → H' p = some (.tup xs)) : TagAt H' p u := by
  obtain ⟨pb, pe, h1, h2, h3⟩ := h
  exact ⟨pb, pe, e _ _ h1, e _ _ h2, e _ _ h3⟩
theorem tags_keep {H H' : Hp} {ps : List Addr} {us : List Sw.T3} (h : TagsAt H ps us) (e : ∀ p xs, H p = some (.tup xs) → H' p = some (.tup xs)) : TagsAt H' ps us := Paired.mapP h fun _ _ q => q.keep e
structure TagOk (D B : Int) (u : Sw.T3) : Prop where
  b : Sw.Grd D u.1
  e : Sw.Grd D u.2.1
  b0 : 0 ≤ u.1
  be : u.1 ≤ u.2.1
  eB : u.2.1 ≤ (B : Rat)
  s1 : 1 ≤ u.2.2
  s2 : u.2.2 ≤ 1000000
theorem sumS_ok {D B : Int} : ∀ {hs : List Sw.T3}, (∀ u ∈ hs, TagOk D B u) → hs ≠ [] → 1 ≤ Sw.sumS hs ∧ Sw.sumS hs ≤ hs.length * 1000000
  | [], _, h => absurd rfl h
  | [u], h, _ => by
    have t := h u (by simp)
    have a := t.s1
    have b := t.s2
    unfold Sw.sumS
    simp
    omega
  | u :: v :: r, h, _ => by
    have t := h u (by simp)
    have a := t.s1
    have b := t.s2
    have ih := sumS_ok (hs := v :: r) (fun x hx => h x (List.mem_cons_of_mem _ hx)) (by simp)
    have e : Sw.sumS (u :: v :: r) = u.2.2 + Sw.sumS (v :: r) := by unfold Sw.sumS; simp
    rw [e]
    simp only [List.length_cons] at ih ⊢
    omega
structure GB (D B : Int) : Prop where
  D0 : 0 < D
  Dz : Sw.Sz 1500 D
  B0 : 0 ≤ B
  B1 : B ≤ 10000000000
theorem GB.sz {D B M : Int} {q : Rat} (g : GB D B) (h : Sw.Grd D q) (h1 : -(M : Rat) ≤ q) (h2 : q ≤ (M : Rat)) (m1 : -100000000000000000000 < M) (m2 : M < 100000000000000000000) : Sw.SzQ 1570 q :=
  h.sz g.D0 g.Dz (Sw.Sz.r18 m1 m2) h1 h2 (by decide)
structure FT (fs : List (Str × V)) (lat : Int) (pr pu pe : Addr) : Prop where
  lat : fs.lookup ("latest" : Str) = some (.int lat)
  rch : fs.lookup ("reached" : Str) = some (.ref pr)
  unf : fs.lookup ("unflowed" : Str) = some (.ref pu)
  lst : fs.lookup ("last_ends" : Str) = some (.ref pe)
  no : ∀ m : Str, ¬ m = "latest" → ¬ m = "reached" → ¬ m = "unflowed" → ¬ m = "last_ends" → fs.lookup m = none
  len : fs.length < 900
structure TdM (C : Addr) (H : Hp) (p : Addr) (lat : Int) (re : Rat) (us : List Sw.T3) : Prop where
  ex : ∃ dx fs pr pu pe ps, H p = some (.ins C dx fs) ∧ FT fs lat pr pu pe ∧ H pr = some (.tup (fq re)) ∧ H pu = some (.lst (ps.map V.ref)) ∧ TagsAt H ps us
end L2
namespace L2
open PySem PySem.Spec PyProof.Rows
def EnAt (H : Hp) (kvs : List (Key × V)) (en : Int → Option Rat) : Prop := ∀ w : Int, (en w = none ∧ valV kvs (Sum.inl w : Key) = none) ∨ ∃ e q, en w = some e ∧ valV kvs (Sum.inl w : Key) = some (.ref q) ∧ H q = some (.tup (fq e))
theorem EnAt.keep {H H' : Hp} {kvs : List (Key × V)} {en : Int → Option Rat} (h : EnAt H kvs en) (e : ∀ p xs, H p = some (.tup xs) → H' p = some (.tup xs)) : EnAt H' kvs en := fun w => by
  rcases h w with z | ⟨x, q, h1, h2, h3⟩
  · exact .inl z
  · exact .inr ⟨x, q, h1, h2, e _ _ h3⟩
structure Td (C : Addr) (H : Hp) (p pe : Addr) (lat : Int) (re : Rat) (us : List Sw.T3) (en : Int → Option Rat) (m : Nat) : Prop where
  ex : ∃ dx fs pr pu ps kvs, H p = some (.ins C dx fs) ∧ FT fs lat pr pu pe ∧ H pr = some (.tup (fq re)) ∧ H pu = some (.lst (ps.map V.ref)) ∧ TagsAt H ps us ∧ H pe = some (.dK kvs) ∧ EnAt H kvs en ∧ kvs.length ≤ m ∧ us.length ≤ m
theorem Td.m {C : Addr} {H : Hp} {p pe : Addr} {lat : Int} {re : Rat} {us : List Sw.T3} {en : Int → Option Rat} {m : Nat} (h : Td C H p pe lat re us en m) : TdM C H p lat re us := by
  obtain ⟨dx, fs, pr, pu, ps, kvs, h1, h2, h3, h4, h5, _⟩ := h.ex
  exact ⟨dx, fs, pr, pu, pe, ps, h1, h2, h3, h4, h5⟩
def Kept (p d : Addr) (H H' : Hp) : Prop := ∀ b o, b ≠ p → b ≠ d → H b = some o → H' b = some o
theorem Same.kept {p d : Addr} {H H' : Hp} (h : Same H H') : Kept p d H H' := fun b o _ _ e => h b o e
theorem Kept.trans {p d : Addr} {H H1 H2 : Hp} (a : Kept p d H H1) (b : Kept p d H1 H2) : Kept p d H H2 := fun c o n1 n2 h => b c o n1 n2 (a c o n1 n2 h)
theorem Kept.other {C C' : Addr} {H H' : Hp} {p pe q qe dx' : Addr} {fs' : List (Str × V)} {kvs' : List (Key × V)} {lat : Int} {re : Rat} {us : List Sw.T3} {en : Int → Option Rat} {m : Nat} (h : Td C H p pe lat re us en m) (k : Kept q qe H H') (hq : H q = some (.ins C' dx' fs')) (hqe : H qe = some (.dK kvs')) (n1 : p ≠ q) (n2 : pe ≠ qe) : Td C H' p pe lat re us en m := by
  obtain ⟨dx, fs, pr, pu, ps, kvs, h1, h2, h3, h4, h5, h6, h7, h8⟩ := h.ex
  have kt : ∀ p xs, H p = some (.tup xs) → H' p = some (.tup xs) := fun p xs e => k _ _ (ne_of e hq (by intro z; cases z)) (ne_of e hqe (by intro z; cases z)) e
  exact ⟨dx, fs, pr, pu, ps, kvs, k _ _ n1 (ne_of h1 hqe (by intro z; cases z)) h1, h2, kt _ _ h3, k _ _ (ne_of h4 hq (by intro z; cases z)) (ne_of h4 hqe (by intro z; cases z)) h4, tags_keep h5 kt, k _ _ (ne_of h6 hq (by intro z; cases z)) n2 h6, h7.keep kt, h8⟩
end L2
namespace Sw
open L2
end Sw
namespace L2
open PySem PySem.Spec PyProof.Rows
end L2
namespace L2
open PySem PySem.Spec PyProof.Rows
def Ite1 (K : PySem.W.Frag) (a : Addr) : It :=
  ⟨fun i H => ∃ xs x, SqL K H a xs ∧ xs[i]? = some x,
   fun i H y H' => ∃ p x, y = .ref p ∧ H p = none ∧ (∀ xs, SqL K H a xs → xs[i]? = some x) ∧ H' = upd H p (.tup [.int ((i + 1 : Nat) : Int), x]),
   fun i H => ∃ xs, SqL K H a xs ∧ xs.length = i⟩
section
variable {X : Cx}
def iEnum1 (K : PySem.W.Frag) (ta : TA) : TI := fun σ H R => ta σ H fun vs H1 => ∃ a, vs = [.ref a] ∧ (∃ xs, SqL K H1 a xs) ∧ R (Ite1 K a) H1
end
end L2
namespace L2
open PySem PySem.Spec PyProof.Rows
section
variable {X : Cx}
def Itv (K : PySem.W.Frag) (a : Addr) (xs : List V) : It :=
  ⟨fun i H => SqL K H a xs ∧ i < xs.length, fun i H x H' => H' = H ∧ xs.reverse[i]? = some x, fun i H => SqL K H a xs ∧ xs.length = i⟩
def iRev (K : PySem.W.Frag) (ta : TA) : TI := fun σ H R => ta σ H fun vs H1 => ∃ a xs, vs = [.ref a] ∧ SqL K H1 a xs ∧ R (Itv K a xs) H1
end
end L2
namespace L2
end L2
namespace L2
open PySem PySem.Spec PyProof.Rows
def DSd (H : Hp) (a : Addr) (y d : V) (v : V) (H' : Hp) : Prop := ∃ kvs k, H a = some (.dK kvs) ∧ y = kV k ∧ kvs.length < sizeLine ∧ ((valV kvs k = some v ∧ H' = H) ∨ (valV kvs k = none ∧ v = d ∧ H' = upd H a (.dK (putK kvs k d))))
section
variable {X : Cx} {pins : List (Addr × Obj)} {σ : St} {H H' : Hp} {s : Shared} {a : Addr} {y d v : V} {u r : Value} {A : Around} {E : Value → Shared → Prop}
end
def tDSd (td ty tx : TE) : TE := fun σ H Q => td σ H fun x H1 => ∃ a, x = .ref a ∧ IsD H1 a ∧ ty σ H1 fun y H2 => tx σ H2 fun z H3 => ∃ v H4, DSd H3 a y z v H4 ∧ Q v H4
section
variable {X : Cx} {o e f : Expr} {td ty tx : TE} {apos cpos : Pos}
end
end L2
namespace Sw
open L2
def ov (low high : Rat) (u : T3) : Rat := if u.2.1 ≤ low then 0 else if high ≤ u.1 then 0 else (if u.2.1 ≤ high then u.2.1 else high) - (if low ≤ u.1 then u.1 else low)
def went (low high : Rat) : List T3 → Rat
  | [] => 0
  | u :: r => (u.2.2 : Rat) * ov low high u + went low high r
theorem ov_add {l m h : Rat} {u : T3} (h1 : l ≤ m) (h2 : m ≤ h) (hu : u.1 ≤ u.2.1) : ov l h u = ov l m u + ov m h u := by
  unfold ov
  grind
theorem went_add {l m h : Rat} (h1 : l ≤ m) (h2 : m ≤ h) : ∀ {us : List T3}, (∀ u ∈ us, u.1 ≤ u.2.1) → went l h us = went l m us + went m h us
  | [], _ => by unfold went; grind
  | u :: r, hu => by
    have e := ov_add (u := u) h1 h2 (hu u (by simp))
    have ih := went_add h1 h2 (us := r) fun x hx => hu x (List.mem_cons_of_mem _ hx)
    unfold went
    rw [e, ih, Rat.mul_add]
    grind
def Chain (us : List T3) (m : Rat) : Prop := ∀ u ∈ us, u.1 ≤ m ∨ ∃ v ∈ us, v.2.1 = u.1 ∧ v.1 < v.2.1
theorem Chain.on {us : List T3} {m m' : Rat} (h : Chain us m) (le : m ≤ m') : Chain us m' := fun u hu => by
  rcases h u hu with q | q
  · exact .inl (by grind)
  · exact .inr q
theorem filter_lt_len {l : List T3} {a b : Rat} (h : a < b) (hw : ∃ v ∈ l, v.1 = a) : (l.filter fun u => decide (u.1 < a)).length < (l.filter fun u => decide (u.1 < b)).length := by
  obtain ⟨v, hv, e⟩ := hw
  refine filter_len_lt (fun x _ hx => ?_) ⟨v, hv, decide_eq_true (by rw [e]; exact h), by rw [e]; simp only [decide_eq_false_iff_not]; grind⟩
  simp only [decide_eq_true_eq] at hx ⊢
  grind
theorem chain_first {us : List T3} {m : Rat} (c : Chain us m) : ∀ (n : Nat) (u : T3), u ∈ us → m < u.1 → (us.filter fun x => decide (x.1 < u.1)).length ≤ n → ∃ h ∈ hds us m, h.2.1 ≤ u.1
  | 0, u, hu, hm, hn => by
    rcases c u hu with q | ⟨v, hv, e1, e2⟩
    · grind
    · have : v ∈ us.filter fun x => decide (x.1 < u.1) := List.mem_filter.mpr ⟨hv, decide_eq_true (by grind)⟩
      have hz := List.length_eq_zero_iff.mp (Nat.le_zero.mp hn)
      rw [hz] at this
      cases this
  | n + 1, u, hu, hm, hn => by
    rcases c u hu with q | ⟨v, hv, e1, e2⟩
    · grind
    · by_cases hvm : v.1 ≤ m
      · refine ⟨v, List.mem_filter.mpr ⟨hv, ?_⟩, by grind⟩
        unfold isHd
        rw [decide_eq_false (by grind), decide_eq_true (by rw [e1]; exact hm)]
        rfl
      · have lt := filter_lt_len (l := us) (a := v.1) (b := u.1) (by grind) ⟨v, hv, rfl⟩
        obtain ⟨h, h1, h2⟩ := chain_first c n v hv (by grind) (by omega)
        exact ⟨h, h1, by grind⟩
theorem foldl_min_le : ∀ (l : List Rat) (d : Rat), l.foldl min d ≤ d ∧ ∀ x ∈ l, l.foldl min d ≤ x
  | [], d => ⟨by show d ≤ d; grind, fun x h => absurd h List.not_mem_nil⟩
  | q :: r, d => by
    obtain ⟨h1, h2⟩ := foldl_min_le r (min d q)
    have hm : min d q ≤ d ∧ min d q ≤ q := by rw [Rat.min_def]; split <;> constructor <;> grind
    refine ⟨by rw [List.foldl_cons]; grind, fun x hx => ?_⟩
    rw [List.foldl_cons]
    rcases List.mem_cons.mp hx with e | e
    · subst e; grind
    · exact h2 x e
theorem fstE_le {hs : List T3} {u : T3} (h : u ∈ hs) : fstE hs ≤ u.2.1 := by
  unfold fstE
  have hm : u.2.1 ∈ hs.map fun u => u.2.1 := List.mem_map.mpr ⟨u, h, rfl⟩
  generalize (hs.map fun u => u.2.1) = l at hm
  cases l with
  | nil => cases hm
  | cons q r => exact (foldl_min_le (q :: r) q).2 _ hm
theorem sumS_cons (u : T3) (r : List T3) : sumS (u :: r) = u.2.2 + sumS r := by unfold sumS; simp
theorem went_heads {m h : Rat} (le : m ≤ h) : ∀ {us : List T3}, (∀ u ∈ us, isHd m u = true → h ≤ u.2.1) → (∀ u ∈ us, m < u.1 → h ≤ u.1) → (∀ u ∈ us, u.1 ≤ u.2.1) → went m h us = (sumS (hds us m) : Rat) * (h - m)
  | [], _, _, _ => by
    have : sumS (hds [] m) = 0 := rfl
    rw [this]
    unfold went
    have z : ((0 : Int) : Rat) = 0 := rfl
    rw [z]; grind
  | u :: r, h1, h2, h3 => by
    have ih := went_heads le (us := r) (fun x hx => h1 x (List.mem_cons_of_mem _ hx)) (fun x hx => h2 x (List.mem_cons_of_mem _ hx)) fun x hx => h3 x (List.mem_cons_of_mem _ hx)
    have a1 := h1 u (by simp)
    have a2 := h2 u (by simp)
    have a3 := h3 u (by simp)
    have eh : hds (u :: r) m = (if isHd m u = true then u :: hds r m else hds r m) := by
      unfold hds
      rw [List.filter_cons]
    unfold went
    rw [ih, eh]
    cases e : isHd m u with
    | true =>
      rw [if_pos rfl, sumS_cons, Rat.intCast_add]
      have a1 := a1 e
      unfold isHd at e
      simp only [Bool.and_eq_true, Bool.not_eq_true', decide_eq_true_eq, decide_eq_false_iff_not] at e
      have eo : ov m h u = h - m := by
        unfold ov
        grind
      rw [eo, Rat.add_mul]
    | false =>
      rw [if_neg (by decide)]
      have eo : ov m h u = 0 := by
        unfold isHd at e
        unfold ov
        by_cases q : m < u.1
        · have := a2 q
          grind
        · rw [decide_eq_false q] at e
          have : ¬ m < u.2.1 := by simpa using e
          grind
      rw [eo]
      grind
theorem mark_went {us : List T3} {D B : Int} {t : Rat} (ok : ∀ u ∈ us, TagOk D B u) : ∀ (n : Nat) (mo re : Rat), Chain us re → mo ≤ t → ahead us re < n →
    re ≤ markF us t n mo re ∧ (((∃ u ∈ us, markF us t n mo re < u.2.1) ∧ went re (markF us t n mo re) us = t - mo) ∨ ((∀ u ∈ us, u.2.1 ≤ markF us t n mo re) ∧ went re (markF us t n mo re) us ≤ t - mo))
  | 0, mo, re, _, _, h => absurd h (by omega)
  | n + 1, mo, re, ch, hm, ha => by
    have be : ∀ u ∈ us, u.1 ≤ u.2.1 := fun u h => (ok u h).be
    unfold markF
    by_cases hn : hds us re = []
    · rw [if_pos hn]
      have w0 : went re re us = 0 := by
        have := went_add (l := re) (m := re) (h := re) (by grind) (by grind) be
        grind
      refine ⟨by grind, .inr ⟨fun u hu => ?_, by rw [w0]; grind⟩⟩
      rcases Classical.em (u.2.1 ≤ re) with q | q
      · exact q
      · exfalso
        by_cases hb : u.1 ≤ re
        · have : u ∈ hds us re := List.mem_filter.mpr ⟨hu, by unfold isHd; rw [decide_eq_false (by grind), decide_eq_true (by grind)]; rfl⟩
          rw [hn] at this; cases this
        · obtain ⟨h, h1, _⟩ := chain_first ch _ u hu (by grind) (Nat.le_refl _)
          rw [hn] at h1; cases h1
    · rw [if_neg hn]
      have gt := fstE_gt hn
      have hok : ∀ u ∈ hds us re, TagOk D B u := fun u h => ok u (hds_mem h).1
      have hS := sumS_ok hok hn
      have Sp : (0 : Rat) < (sumS (hds us re) : Rat) := q_cast_pos (by omega)
      have seg : ∀ h, re ≤ h → h ≤ fstE (hds us re) → went re h us = (sumS (hds us re) : Rat) * (h - re) := fun h l1 l2 => went_heads l1 (fun u hu e => by
          have : fstE (hds us re) ≤ u.2.1 := fstE_le (List.mem_filter.mpr ⟨hu, e⟩)
          grind) (fun u hu q => by
          obtain ⟨v, v1, v2⟩ := chain_first ch _ u hu q (Nat.le_refl _)
          have := fstE_le v1
          grind) be
      have al := ahead_lt hn
      obtain ⟨uf, huf, ef⟩ := fstE_mem hn
      by_cases hlt : t < mo + (fstE (hds us re) - re) * (sumS (hds us re) : Rat)
      · rw [if_pos hlt]
        have x0 : 0 ≤ (t - mo) / (sumS (hds us re) : Rat) := by
          have : ¬ (t - mo) / (sumS (hds us re) : Rat) < 0 := by rw [Rat.div_lt_iff Sp]; grind
          grind
        have x1 : (t - mo) / (sumS (hds us re) : Rat) < fstE (hds us re) - re := by rw [Rat.div_lt_iff Sp]; grind
        refine ⟨by grind, .inl ⟨⟨uf, (hds_mem huf).1, by rw [← ef]; grind⟩, ?_⟩⟩
        rw [seg _ (by grind) (by grind)]
        have : (sumS (hds us re) : Rat) ≠ 0 := by grind
        grind
      · rw [if_neg hlt]
        have sg := seg (fstE (hds us re)) (by grind) (by grind)
        obtain ⟨i1, i2⟩ := mark_went (t := t) ok n (mo + (fstE (hds us re) - re) * (sumS (hds us re) : Rat)) (fstE (hds us re)) (ch.on (by grind)) (by grind) (by omega)
        have ad := went_add (l := re) (m := fstE (hds us re)) (h := markF us t n (mo + (fstE (hds us re) - re) * (sumS (hds us re) : Rat)) (fstE (hds us re))) (by grind) i1 be
        refine ⟨by grind, ?_⟩
        rcases i2 with ⟨j1, j2⟩ | ⟨j1, j2⟩
        · exact .inl ⟨j1, by rw [ad, sg, j2]; grind⟩
        · exact .inr ⟨j1, by rw [ad, sg]; grind⟩
end Sw
namespace Sw
open L2
theorem markF_ge {us : List T3} {D B : Int} {t : Rat} (ok : ∀ u ∈ us, TagOk D B u) : ∀ (n : Nat) (mo re : Rat), mo ≤ t → re ≤ markF us t n mo re
  | 0, mo, re, _ => by unfold markF; grind
  | n + 1, mo, re, hm => by
    unfold markF
    by_cases hn : hds us re = []
    · rw [if_pos hn]; grind
    · rw [if_neg hn]
      have gt := fstE_gt hn
      have hS := sumS_ok (fun u h => ok u (hds_mem h).1) hn
      have Sp : (0 : Rat) < (sumS (hds us re) : Rat) := q_cast_pos (by omega)
      by_cases hlt : t < mo + (fstE (hds us re) - re) * (sumS (hds us re) : Rat)
      · rw [if_pos hlt]
        have : ¬ (t - mo) / (sumS (hds us re) : Rat) < 0 := by rw [Rat.div_lt_iff Sp]; grind
        grind
      · rw [if_neg hlt]
        have := markF_ge (t := t) ok n (mo + (fstE (hds us re) - re) * (sumS (hds us re) : Rat)) (fstE (hds us re)) (by grind)
        grind
theorem markF_mono {us : List T3} {D B : Int} {t t' : Rat} (ok : ∀ u ∈ us, TagOk D B u) (h : t ≤ t') : ∀ (n : Nat) (mo re : Rat), mo ≤ t → markF us t n mo re ≤ markF us t' n mo re
  | 0, mo, re, _ => by unfold markF; grind
  | n + 1, mo, re, hm => by
    unfold markF
    by_cases hn : hds us re = []
    · rw [if_pos hn, if_pos hn]; grind
    · rw [if_neg hn, if_neg hn]
      have gt := fstE_gt hn
      have hS := sumS_ok (fun u h => ok u (hds_mem h).1) hn
      have Sp : (0 : Rat) < (sumS (hds us re) : Rat) := q_cast_pos (by omega)
      have Sn : (sumS (hds us re) : Rat) ≠ 0 := by grind
      by_cases h1 : t < mo + (fstE (hds us re) - re) * (sumS (hds us re) : Rat)
      · rw [if_pos h1]
        by_cases h2 : t' < mo + (fstE (hds us re) - re) * (sumS (hds us re) : Rat)
        · rw [if_pos h2]
          have : ¬ (t' - mo) / (sumS (hds us re) : Rat) < (t - mo) / (sumS (hds us re) : Rat) := by
            rw [Rat.div_lt_iff Sp, show (t - mo) / (sumS (hds us re) : Rat) * (sumS (hds us re) : Rat) = t - mo by grind]
            grind
          grind
        · rw [if_neg h2]
          have x1 : (t - mo) / (sumS (hds us re) : Rat) < fstE (hds us re) - re := by rw [Rat.div_lt_iff Sp]; grind
          have := markF_ge (t := t') ok n (mo + (fstE (hds us re) - re) * (sumS (hds us re) : Rat)) (fstE (hds us re)) (by grind)
          grind
      · rw [if_neg h1, if_neg (by grind)]
        exact markF_mono ok h n _ _ (by grind)
theorem markF_end {us : List T3} {D B : Int} {t : Rat} (ok : ∀ u ∈ us, TagOk D B u) : ∀ (n : Nat) (mo re : Rat), ahead us re < n → (∀ u ∈ us, u.2.1 ≤ markF us t n mo re) → markF us t n mo re = re ∨ ∃ u ∈ us, u.2.1 = markF us t n mo re
  | 0, mo, re, h, _ => absurd h (by omega)
  | n + 1, mo, re, ha, hall => by
    unfold markF at hall ⊢
    by_cases hn : hds us re = []
    · rw [if_pos hn]; exact .inl rfl
    · rw [if_neg hn] at hall ⊢
      have al := ahead_lt hn
      obtain ⟨uf, huf, ef⟩ := fstE_mem hn
      by_cases hlt : t < mo + (fstE (hds us re) - re) * (sumS (hds us re) : Rat)
      · rw [if_pos hlt] at hall ⊢
        have hS := sumS_ok (fun u h => ok u (hds_mem h).1) hn
        have Sp : (0 : Rat) < (sumS (hds us re) : Rat) := q_cast_pos (by omega)
        have x1 : (t - mo) / (sumS (hds us re) : Rat) < fstE (hds us re) - re := by rw [Rat.div_lt_iff Sp]; grind
        have := hall uf (hds_mem huf).1
        rw [← ef] at this
        grind
      · rw [if_neg hlt] at hall ⊢
        rcases markF_end ok n _ _ (by omega) hall with h | h
        · exact .inr ⟨uf, (hds_mem huf).1, by rw [h, ef]⟩
        · exact .inr h
end Sw
namespace Sw
open L2
structure AllIn (all us : List T3) (re : Rat) : Prop where
  ch : Chain us re
  sub : ∀ u ∈ us, u ∈ all
  sup : ∀ u ∈ all, u.2.1 ≤ re ∨ u ∈ us
  eq : ∀ low high, re ≤ low → low ≤ high → went low high all = went low high us
  top : (all = [] ∧ re = 0) ∨ ∃ u ∈ all, re ≤ u.2.1
theorem went_past {low high : Rat} : ∀ {us : List T3}, (∀ u ∈ us, u.2.1 ≤ low) → went low high us = 0
  | [], _ => rfl
  | u :: r, h => by
    have h1 := h u (by simp)
    have ih := went_past (low := low) (high := high) (us := r) fun x hx => h x (List.mem_cons_of_mem _ hx)
    show (u.2.2 : Rat) * ov low high u + went low high r = 0
    rw [ih]
    unfold ov
    rw [if_pos h1]; grind
theorem AllIn.went {all us : List T3} {re : Rat} {D B lat now t : Int} (a : AllIn all us re) (ok : ∀ u ∈ us, TagOk D B u) (h1 : lat ≤ now) (h2 : now ≤ t) :
    markAt us lat re now ≤ markAt us lat re t ∧ (((∃ u ∈ all, markAt us lat re t < u.2.1) ∧ went (markAt us lat re now) (markAt us lat re t) all = ((t - now : Int) : Rat)) ∨
      ((∀ u ∈ all, u.2.1 ≤ markAt us lat re t) ∧ went (markAt us lat re now) (markAt us lat re t) all ≤ ((t - now : Int) : Rat) ∧ ((all = [] ∧ markAt us lat re t = 0) ∨ ∃ u ∈ all, u.2.1 = markAt us lat re t))) := by
  have c1 : (lat : Rat) ≤ (now : Rat) := Rat.intCast_le_intCast.mpr h1
  have c2 : (now : Rat) ≤ (t : Rat) := Rat.intCast_le_intCast.mpr h2
  have len := ahead_le us re
  have mono := markF_mono ok c2 (us.length + 1) (lat : Rat) re c1
  have g1 := mark_went ok (us.length + 1) (lat : Rat) re a.ch c1 (by omega)
  have g2 := mark_went ok (us.length + 1) (lat : Rat) re a.ch (show (lat : Rat) ≤ (t : Rat) by grind) (by omega)
  have ge := markF_end (t := (t : Rat)) ok (us.length + 1) (lat : Rat) re (by omega)
  have be : ∀ u ∈ us, u.1 ≤ u.2.1 := fun u h => (ok u h).be
  rw [Rat.intCast_sub]
  unfold markAt
  generalize markF us (now : Rat) (us.length + 1) (lat : Rat) re = lo at *
  generalize markF us (t : Rat) (us.length + 1) (lat : Rat) re = hi at *
  refine ⟨mono, ?_⟩
  rw [a.eq lo hi g1.1 mono]
  have ad := went_add g1.1 mono be
  rcases g2.2 with ⟨⟨u, hu, q⟩, w2⟩ | ⟨q, w2⟩
  · refine .inl ⟨⟨u, a.sub u hu, q⟩, ?_⟩
    rcases g1.2 with ⟨_, w1⟩ | ⟨q1, _⟩
    · grind
    · have := q1 u hu
      grind
  · refine .inr ⟨fun u hu => ?_, ?_, ?_⟩
    · rcases a.sup u hu with z | z
      · have := g2.1
        grind
      · exact q u z
    · rcases g1.2 with ⟨_, w1⟩ | ⟨q1, _⟩
      · grind
      · rw [went_past q1]; grind
    · rcases ge q with e | ⟨u, hu, e⟩
      · rcases a.top with ⟨e1, e2⟩ | ⟨u, hu, e1⟩
        · exact .inl ⟨e1, by rw [e, e2]⟩
        · refine .inr ⟨u, hu, ?_⟩
          rcases a.sup u hu with z | z
          · grind
          · have := q u z
            grind
      · exact .inr ⟨u, a.sub u hu, e⟩
theorem AllIn.nil : AllIn [] [] 0 := ⟨fun u h => absurd h List.not_mem_nil, fun u h => absurd h List.not_mem_nil, fun u h => absurd h List.not_mem_nil, fun _ _ _ _ => rfl, .inl ⟨rfl, rfl⟩⟩
end Sw
namespace L2
open PySem PySem.Spec PyProof.Rows
section
variable {X : Cx}
end
abbrev D2 := Int × Int
def d2 (g : D2) : List V := [.int g.1, .int g.2]
abbrev Duos (H : Hp) : List Addr → List D2 → Prop := Paired fun p g => H p = some (.tup (d2 g))
theorem Duos.len {H : Hp} {ps : List Addr} {gs : List D2} (h : Duos H ps gs) : ps.length = gs.length := Paired.length h
theorem Duos.keep {H H' : Hp} {ps : List Addr} {gs : List D2} (h : Duos H ps gs) (e : ∀ p xs, H p = some (.tup xs) → H' p = some (.tup xs)) : Duos H' ps gs := Paired.mapP h fun _ _ q => e _ _ q
theorem Duos.app {H : Hp} {rs : List Addr} {ss : List D2} (h2 : Duos H rs ss) : ∀ {ps : List Addr} {gs : List D2}, Duos H ps gs → Duos H (ps ++ rs) (gs ++ ss)
  | _, _, Paired.nil => h2
  | _, _, Paired.cons a b => .cons a (Duos.app h2 b)
theorem Duos.take {H : Hp} : ∀ {ps : List Addr} {gs : List D2} (n : Nat), Duos H ps gs → Duos H (ps.take n) (gs.take n)
  | _, _, 0, _ => .nil
  | _, _, _ + 1, Paired.nil => .nil
  | _, _, n + 1, Paired.cons a b => .cons a (Duos.take n b)
theorem Duos.drop {H : Hp} : ∀ {ps : List Addr} {gs : List D2} (n : Nat), Duos H ps gs → Duos H (ps.drop n) (gs.drop n)
  | _, _, 0, h => h
  | _, _, _ + 1, Paired.nil => .nil
  | _, _, n + 1, Paired.cons _ b => Duos.drop n b
theorem Duos.get {H : Hp} : ∀ {ps : List Addr} {gs : List D2} {i : Nat} {p : Addr}, Duos H ps gs → ps[i]? = some p → ∃ q, gs[i]? = some q ∧ H p = some (.tup (d2 q))
  | _, _, _, _, Paired.nil, e => by simp at e
  | _, _, 0, _, Paired.cons a _, e => by simp at e; subst e; exact ⟨_, rfl, a⟩
  | _, _, i + 1, _, Paired.cons _ b, e => by
    obtain ⟨q, h1, h2⟩ := Duos.get (i := i) b (by simpa using e)
    exact ⟨q, by simpa using h1, h2⟩
structure Gos (H : Hp) (l : Addr) (ps : List Addr) (gs : List D2) : Prop where
  hl : H l = some (.lst (ps.map V.ref))
  r : Duos H ps gs
theorem Gos.upd {H : Hp} {l f : Addr} {ps : List Addr} {gs : List D2} {xs ys : List V} (R : Gos H l ps gs) (hf : H f = some (.lst xs)) (ne : l ≠ f) : Gos (L2.upd H f (.lst ys)) l ps gs :=
  ⟨by rw [upd_ne ne]; exact R.hl, R.r.keep fun p z e => by rw [upd_ne (ne_of e hf (by intro w; cases w))]; exact e⟩
theorem shaped_two {a b : PyData} (ha : PySem.SeqAt.shaped a = true) (hb : PySem.SeqAt.shaped b = true) (da : a.depth ≤ 2) (db : b.depth ≤ 2) : PySem.SeqAt.shaped (.list [a, b]) = true := by
  unfold PySem.SeqAt.shaped at ha hb ⊢
  rw [Bool.and_eq_true, decide_eq_true_eq] at ha hb ⊢
  refine ⟨?_, ?_⟩
  · simp only [PyData.canLay0, PyData.canLayAll0, ha.1, hb.1, Bool.and_self]
  · simp only [PyData.depth, PyData.depthAll]
    omega
theorem Row.item {H : Hp} {l : Addr} {ps : List Addr} {qs : List Q4} (R : Row H l ps qs) {i : Int} (h0 : 0 ≤ i) (h1 : i < qs.length) : ∃ p q, atI (ps.map V.ref) i = some (.ref p) ∧ qs[i.toNat]? = some q ∧ H p = some (.tup (q4 q)) := by
  have len := R.r.len
  have hp : ps[i.toNat]? = some (ps[i.toNat]'(by omega)) := List.getElem?_eq_getElem _
  obtain ⟨q, h2, h3⟩ := R.r.get hp
  have := atI_nat (xs := ps.map V.ref) (j := i.toNat) (v := V.ref (ps[i.toNat]'(by omega))) (by rw [List.getElem?_map, hp]; rfl)
  rw [Int.toNat_of_nonneg h0] at this
  exact ⟨_, q, this, h2, h3⟩
theorem Gos.item {H : Hp} {l : Addr} {ps : List Addr} {gs : List D2} (R : Gos H l ps gs) {i : Int} (h0 : 0 ≤ i) (h1 : i < gs.length) : ∃ p g, atI (ps.map V.ref) i = some (.ref p) ∧ g ∈ gs ∧ H p = some (.tup (d2 g)) := by
  have len := R.r.len
  have hp : ps[i.toNat]? = some (ps[i.toNat]'(by omega)) := List.getElem?_eq_getElem _
  obtain ⟨q, h2, h3⟩ := R.r.get hp
  have := atI_nat (xs := ps.map V.ref) (j := i.toNat) (v := V.ref (ps[i.toNat]'(by omega))) (by rw [List.getElem?_map, hp]; rfl)
  rw [Int.toNat_of_nonneg h0] at this
  exact ⟨_, q, this, List.mem_of_getElem? h2, h3⟩
end L2
namespace Sw
open L2
end Sw
namespace L2
open PySem PySem.Spec PyProof.Rows
end L2
namespace L2
open PySem PySem.Spec PyProof.Rows
section
variable {X : Cx}
end
end L2
namespace L2
open PySem PySem.Spec PyProof.Rows
section
variable {X : Cx}
end
end L2
namespace L2
open PySem PySem.Spec PyProof.Rows
section
variable {X : Cx} {pins : List (Addr × Obj)} {σ : St} {H : Hp} {s : Shared} {a : Addr} {kvs : List (Key × V)} {o : Obj}
end
section
variable {X : Cx} {tg : Expr}
end
end L2
namespace L2
open PySem PySem.Spec PyProof.Rows
structure ClsFn (K : PySem.W.Frag) (C : Addr) (m : Str) (f : Addr) : Prop where
  mc : ∃ mc, PySem.W.readsIn K C mc = true ∧ PySem.W.findCls K (.ref C) mc m = some (.val (.ref f))
  ga : PySem.W.specialIn K (.ref C) "__getattribute__" = some (some (.builtin "type.__getattribute__"))
  kp : PySem.W.keepIn K (.ref f) = true
structure SrcU (K : PySem.W.Frag) (C : Addr) (m qual : Str) (st : Stmt) (ps : List Str) : Prop where
  ex : ∃ (f : Addr) (fd : FuncData), FunE K m qual st f fd ∧ ClsFn K C m f ∧ BindsV K fd ps []
structure UpD (P : Program) (w : World) (K : PySem.W.Frag) (mg : Str → Option Value) (base : Heap) (CX : CXT) (k : Nat) (C : Addr) (m : Str) (ps : List Str) (sp : Sp) : Prop where
  ex : ∃ (f : Addr) (fd : FuncData), FnOk P w K mg base CX k f fd ps sp ∧ ClsFn K C m f ∧ BindsV K fd ps []
section
variable {P : Program} {w : World} {K : PySem.W.Frag} {mg : Str → Option Value} {base : Heap} {CX : CXT} {C : Addr} {m qual : Str} {st : Stmt} {N ps : List Str} {k : Nat} {sp : Sp}
theorem SrcU.okN (F : SrcU K C m qual st ps) (S : FnScope N ps (defScope st)) (len : ∀ vs H Q E, sp vs H Q E → vs.length = ps.length)
    (hbody : ∀ (f : Addr) (cdv : Value) (A : Around) (outer : List Env) (s : Shared) (H : Hp) (vs : List V) (Q : VK) (E : XK), Room k (A.deeper (envOfC qual (defScope st) s.heap.objs.size f cdv)) → sp vs H Q E →
      ∃ t, PSs (cxOf CX P w K mg base N qual (defScope st) f cdv A outer s H E).nox (defBody st) t ∧ t { nx := fun _ H' => Q .non H', rt := Q } (start N vs) H) : UpD P w K mg base CX (k + 1) C m ps sp := by
  obtain ⟨f, fd, F, me, b⟩ := F.ex
  obtain ⟨oc, od, dV, kV, doc, pm, an, cdv, ct, osl, rfl, lk, hcd⟩ := F.ex
  exact ⟨f, _, fn_of lk hcd S len fun A outer s H vs Q E hr hsp => by
    obtain ⟨t, h, q⟩ := hbody f cdv A outer s H vs Q E hr hsp
    exact ⟨t, h.nox, q⟩, me, b⟩
end
section
variable {X : Cx} {CX : CXT} {k : Nat} {C : Addr} {ps : List Str} {sp : Sp} {Ek : XH} {x m : Str} {p pos apos : Pos} {e : Expr} {es : List Expr} {t : TA}
end
end L2
namespace L2
open PySem PySem.Spec PyProof.Rows
section
variable {X : Cx}
end
abbrev Nm := List (Str × Int)
def shOf (nm : Nm) (x : Str) : Option Int := (nm.find? fun p => decide (p.1 = x)).map (·.2)
def dropN (nm : Nm) (x : Str) : Nm := nm.filter fun p => decide (p.1 ≠ x)
theorem shOf_drop {nm : Nm} {x y : Str} : shOf (dropN nm x) y = if y = x then none else shOf nm y := by
  induction nm with
  | nil => unfold shOf dropN; simp
  | cons p r ih =>
    unfold shOf dropN at ih ⊢
    rw [List.filter_cons, List.find?_cons]
    by_cases hp : p.1 = x
    · rw [if_neg (by simp [hp]), ih]
      by_cases hy : y = x
      · rw [if_pos hy, if_pos hy]
      · rw [if_neg hy, if_neg hy]
        have : ¬ p.1 = y := fun z => hy (z.symm.trans hp)
        simp [this]
    · rw [if_pos (by simp [hp]), List.find?_cons]
      by_cases hy : p.1 = y
      · have : ¬ y = x := fun z => hp (hy.trans z)
        simp [hy, this]
      · simp only [decide_eq_false hy]
        exact ih
theorem shOf_mem {nm : Nm} {x : Str} {s : Int} (h : shOf nm x = some s) : (x, s) ∈ nm := by
  unfold shOf at h
  cases q : nm.find? fun p => decide (p.1 = x) with
  | none => rw [q] at h; cases h
  | some v =>
    rw [q] at h
    have e1 : v.2 = s := Option.some.inj h
    have e2 : v.1 = x := by simpa using List.find?_some q
    have := List.mem_of_find?_eq_some q
    rw [← e1, ← e2]; exact this
theorem shOf_of_mem {nm : Nm} {x : Str} {s : Int} (h : (x, s) ∈ nm) : shOf nm x ≠ none := by
  unfold shOf
  intro z
  have z : nm.find? (fun p => decide (p.1 = x)) = none := by simpa using z
  have := List.find?_eq_none.mp z _ h
  simp at this
end L2
namespace L2
open PySem PySem.Spec PyProof.Rows
structure RatD (H : Hp) (p : Addr) (f : Str → Option Rat) (n : Nat) : Prop where
  ex : ∃ kvs, H p = some (.dK kvs) ∧ (∀ x : Str, (f x = none ∧ valV kvs (Sum.inr x : Key) = none) ∨ ∃ r q, f x = some r ∧ valV kvs (Sum.inr x : Key) = some (.ref q) ∧ H q = some (.tup (fq r))) ∧ kvs.length ≤ n
theorem RatD.keep {H H' : Hp} {p : Addr} {f : Str → Option Rat} {n : Nat} (h : RatD H p f n) (e : ∀ b o, b = p ∨ (∃ xs, H b = some (.tup xs)) → H b = some o → H' b = some o) : RatD H' p f n := by
  obtain ⟨kvs, h1, h2, h3⟩ := h.ex
  refine ⟨kvs, e _ _ (.inl rfl) h1, fun x => ?_, h3⟩
  rcases h2 x with z | ⟨r, q, a, b, c⟩
  · exact .inl z
  · exact .inr ⟨r, q, a, b, e _ _ (.inr ⟨_, c⟩) c⟩
def delS (f : Str → Option Rat) (x : Str) : Str → Option Rat := fun y => if y = x then none else f y
theorem valV_drop (kvs : List (Key × V)) (k j : Key) : valV (dropK kvs k) j = if j = k then none else valV kvs j := by
  induction kvs with
  | nil => unfold valV dropK; simp
  | cons p r ih =>
    unfold dropK at ih ⊢
    rw [List.filter_cons]
    by_cases hp : p.1 = k
    · rw [if_neg (by simp [hp]), ih]
      by_cases hj : j = k
      · rw [if_pos hj, if_pos hj]
      · rw [if_neg hj, if_neg hj, valV_neg (fun z => hj (z.symm.trans hp))]
    · rw [if_pos (by simp [hp])]
      by_cases e : p.1 = j
      · have : ¬ j = k := fun z => hp (e.trans z)
        rw [valV_pos e, if_neg this, valV_pos e]
      · rw [valV_neg e, valV_neg e, ih]
theorem RatD.del {H : Hp} {p : Addr} {f : Str → Option Rat} {n : Nat} {x : Str} {kvs : List (Key × V)} (h1 : H p = some (.dK kvs)) (h2 : ∀ x : Str, (f x = none ∧ valV kvs (Sum.inr x : Key) = none) ∨ ∃ r q, f x = some r ∧ valV kvs (Sum.inr x : Key) = some (.ref q) ∧ H q = some (.tup (fq r)))
    (h3 : (dropK kvs (Sum.inr x : Key)).length ≤ n) : RatD (upd H p (.dK (dropK kvs (Sum.inr x : Key)))) p (delS f x) n := by
  have nt : ∀ b xs, H b = some (.tup xs) → upd H p (.dK (dropK kvs (Sum.inr x : Key))) b = some (.tup xs) := fun b xs e => by rw [upd_ne (ne_of e h1 (by intro z; cases z))]; exact e
  refine ⟨_, upd_same, fun y => ?_, h3⟩
  rw [valV_drop]
  unfold delS
  by_cases e : y = x
  · subst e
    rw [if_pos rfl, if_pos rfl]
    exact .inl ⟨rfl, rfl⟩
  · rw [if_neg e, if_neg (fun z => e (Sum.inr.inj z))]
    rcases h2 y with z | ⟨r', q', a, b, c⟩
    · exact .inl z
    · exact .inr ⟨r', q', a, b, nt _ _ c⟩
structure At5 where
  p : Addr
  pm : Addr
  ps : Addr
  pt : Addr
  pg : Addr
def Own (a : At5) (H H' : Hp) : Prop := ∀ b o, b ≠ a.p → b ≠ a.ps → b ≠ a.pt → b ≠ a.pg → H b = some o → H' b = some o
theorem Same.own {a : At5} {H H' : Hp} (s : Same H H') : Own a H H' := fun b o _ _ _ _ e => s b o e
theorem Own.trans {a : At5} {H H1 H2 : Hp} (x : Own a H H1) (y : Own a H1 H2) : Own a H H2 := fun b o n1 n2 n3 n4 e => y b o n1 n2 n3 n4 (x b o n1 n2 n3 n4 e)
theorem RatD.mono {H : Hp} {p : Addr} {f : Str → Option Rat} {n n' : Nat} (h : RatD H p f n) (l : n ≤ n') : RatD H p f n' := by
  obtain ⟨kvs, h1, h2, h3⟩ := h.ex
  exact ⟨kvs, h1, h2, by omega⟩
section
variable {C Cm : Addr} {H : Hp} {a : At5} {most : Int} {nm nm' : Nm} {tg gs tg' gs' : Str → Option Rat} {ck : Rat} {ch : V} {N N' : Nat} {k : List (Key × V)}
end
end L2
namespace L2
open PySem PySem.Spec PyProof.Rows
structure Iv (nm : Nm) (tg gs : Str → Option Rat) (ck : Rat) (D : Int) (n : Nat) : Prop where
  d0 : 0 < D
  dz : Sw.Sz (21 * n + 1) D
  cg : Sw.Grd D ck
  c0 : 0 ≤ ck
  cB : ck ≤ ((n * 2000000 : Int) : Rat)
  all : ∀ x s, shOf nm x = some s → 1 ≤ s ∧ s ≤ 1000000 ∧ ∃ t g, tg x = some t ∧ gs x = some g ∧ Sw.Grd D t ∧ Sw.Grd D g ∧ 0 ≤ t ∧ 0 ≤ g ∧ g ≤ ((1000000 : Int) : Rat) ∧ t ≤ ck + g
theorem Iv.sz {nm : Nm} {tg gs : Str → Option Rat} {ck : Rat} {D : Int} {n : Nat} (I : Iv nm tg gs ck D n) (hn : n ≤ 100) {q : Rat} (h : Sw.Grd D q) (h0 : 0 ≤ q) (h1 : q ≤ ((n * 2000000 + 1000000 : Int) : Rat)) : Sw.SzQ 2300 q := by
  have w : (0 : Rat) ≤ ((n * 2000000 + 1000000 : Int) : Rat) := by grind
  exact (h.sz (M := n * 2000000 + 1000000) (a := 21 * n + 1) (b := 70) I.d0 I.dz (Sw.Sz.r18 (by omega) (by omega)) (by grind) h1 (by decide)).mono (by omega)
theorem Iv.cz {nm : Nm} {tg gs : Str → Option Rat} {ck : Rat} {D : Int} {n : Nat} (I : Iv nm tg gs ck D n) (hn : n ≤ 100) : Sw.SzQ 2300 ck := by
  refine I.sz hn I.cg I.c0 ?_
  have := I.cB
  have e : ((n * 2000000 + 1000000 : Int) : Rat) = ((n * 2000000 : Int) : Rat) + ((1000000 : Int) : Rat) := by rw [Rat.intCast_add]
  have m : (0 : Rat) ≤ ((1000000 : Int) : Rat) := by decide
  rw [e]; grind
theorem Iv.one {nm : Nm} {tg gs : Str → Option Rat} {ck : Rat} {D : Int} {n : Nat} (I : Iv nm tg gs ck D n) (hn : n ≤ 100) {x : Str} {s : Int} (h : shOf nm x = some s) : ∃ t g, tg x = some t ∧ gs x = some g ∧ Sw.SzQ 2300 t ∧ Sw.SzQ 2300 g ∧ 0 ≤ g ∧ t ≤ ck + g := by
  obtain ⟨s0, s1, t, g, h1, h2, h3, h4, h5, h6, h7, h8⟩ := I.all x s h
  have cB := I.cB
  have c0 := I.c0
  have e : ((n * 2000000 + 1000000 : Int) : Rat) = ((n * 2000000 : Int) : Rat) + ((1000000 : Int) : Rat) := by rw [Rat.intCast_add]
  have m : (0 : Rat) ≤ ((1000000 : Int) : Rat) := by decide
  exact ⟨t, g, h1, h2, I.sz hn h3 h5 (by rw [e]; grind), I.sz hn h4 h6 (by rw [e]; grind), h6, h8⟩
theorem Iv.drop {nm : Nm} {tg gs : Str → Option Rat} {ck : Rat} {D : Int} {n : Nat} (I : Iv nm tg gs ck D n) (x : Str) : Iv (dropN nm x) (delS tg x) (delS gs x) ck D n := by
  refine ⟨I.d0, I.dz, I.cg, I.c0, I.cB, fun y r hy => ?_⟩
  rw [shOf_drop] at hy
  unfold delS
  by_cases e : y = x
  · rw [if_pos e] at hy; cases hy
  · rw [if_neg e] at hy
    obtain ⟨a, b, t, g, h1, h2, rest⟩ := I.all y r hy
    exact ⟨a, b, t, g, by rw [if_neg e]; exact h1, by rw [if_neg e]; exact h2, rest⟩
end L2
namespace L2
open PySem PySem.Spec PyProof.Rows
structure Hd where
  C : Addr
  i : Option Nat
  th : TS
def Hd.run (h : Hd) (e : Addr) : TS := fun D σ H => match h.i with
  | none => h.th D σ H
  | some i => h.th { nx := fun σ H => D.nx (σ.set i none) H, rt := D.rt, bk := fun σ H => D.bk (σ.set i none) H, ct := fun σ H => D.ct (σ.set i none) H } (σ.set i (some (.ref e))) H
section
variable {P : Program} {w : World} {X : Cx} {C' : Addr} {x : Str} {np hpos pos : Pos} {body suite : List Stmt} {b0 : Stmt} {tb : XH → TS} {th : TS} {h0 : ExceptHandler} {hds : List ExceptHandler} {hs : List Hd}
end
end L2
namespace L2
open PySem PySem.Spec PyProof.Rows PySem.MeetsSeq
section
variable {X : Cx}
end
end L2
namespace L2
open PySem PySem.Spec PyProof.Rows
section
variable {X : Cx}
end
end L2
namespace L2
open PySem PySem.Spec PyProof.Rows
section
variable {X : Cx}
end
section
variable {X : Cx} {pins : List (Addr × Obj)} {σ : St} {H : Hp} {s : Shared} {a vw : Addr} {kvs : List (Key × V)} {Q : VK}
end
end L2
namespace L2
open PySem PySem.Spec PyProof.Rows
section
variable {X : Cx}
end
section
variable {X : Cx}
end
theorem strs_deep {K : PySem.W.Frag} {H : Hp} : ∀ (ns : List Str), DeepAll K H (ns.map V.str) (ns.map PyData.str)
  | [] => .nil
  | _ :: r => .cons (.str _) (strs_deep r)
end L2
namespace L2
open PySem PySem.Spec PyProof.Rows
section
variable {C Cm : Addr} {H H' : Hp} {a : At5} {most : Int} {nm nm' : Nm} {q q' : List Str} {rs rs' : Nm} {tu tu' : Option Str} {ch ch' : V}
end
end L2
namespace Sw
open L2 PySem
theorem fst_drop (nm : Nm) (x : Str) : (dropN nm x).map (·.1) = (nm.map (·.1)).filter fun y => decide (y ≠ x) := by
  unfold dropN
  rw [List.filter_map]
  rfl
theorem sh_mem {nm : Nm} {x : Str} : shOf nm x ≠ none ↔ x ∈ nm.map (·.1) := by
  constructor
  · intro h
    cases e : shOf nm x with
    | none => exact absurd e h
    | some s => exact List.mem_map.mpr ⟨_, shOf_mem e, rfl⟩
  · intro h
    obtain ⟨p, hp, e⟩ := List.mem_map.mp h
    have : (x, p.2) ∈ nm := by rw [← e]; exact hp
    exact shOf_of_mem this
structure RI (most : Int) (nm : Nm) (q : List Str) (rs : Nm) (tu : Option Str) : Prop where
  m0 : 1 ≤ most
  ks : rs.map (·.1) = nm.map (·.1)
  nd : (nm.map (·.1)).Nodup
  pm : (q ++ tu.toList).Perm (nm.map (·.1))
  sh : ∀ x s, shOf nm x = some s → 1 ≤ s ∧ s ≤ 1000000
  bd : ∀ x s, shOf nm x = some s → ∃ r, shOf rs x = some r ∧ 0 - most < r ∧ r ≤ s * most ∧ (0 < r → tu = some x)
section
variable {most : Int} {nm : Nm} {q : List Str} {rs : Nm} {tu : Option Str}
theorem RI.nil (h : 1 ≤ most) : RI most [] [] [] none := ⟨h, rfl, .nil, .refl _, fun x s e => (by cases e), fun x s e => (by cases e)⟩
theorem RI.take (h : RI most nm q rs tu) {x : Str} (hx : shOf nm x ≠ none) : RI most (dropN nm x) (if tu = some x then q else q.erase x) (dropN rs x) (if tu = some x then none else tu) := by
  have ndq : (q ++ tu.toList).Nodup := h.pm.nodup_iff.mpr h.nd
  have e1 : (nm.map (·.1)).filter (fun y => decide (y ≠ x)) = (nm.map (·.1)).erase x := by
    rw [h.nd.erase_eq_filter]
    congr 1
    funext y
    by_cases c : y = x
    · simp [c]
    · simp [c]
  refine ⟨h.m0, ?_, ?_, ?_, fun y t e => ?_, fun y t e => ?_⟩
  · rw [fst_drop, fst_drop, h.ks]
  · rw [fst_drop]; exact h.nd.filter _
  · rw [fst_drop, e1]
    have := h.pm.erase x
    refine List.Perm.trans ?_ this
    by_cases c : tu = some x
    · rw [if_pos c, if_pos c]
      subst c
      have nq : x ∉ q := fun z => (List.nodup_append.mp ndq).2.2 x z x (by simp) rfl
      rw [List.erase_append_right _ nq]
      simp
    · rw [if_neg c, if_neg c]
      have xq : x ∈ q := by
        have := h.pm.mem_iff.mpr (sh_mem.mp hx)
        rcases List.mem_append.mp this with z | z
        · exact z
        · cases tu with
          | none => cases z
          | some y =>
            have : x = y := by simpa using z
            exact absurd (by rw [this]) c
      rw [List.erase_append_left _ xq]
  · rw [shOf_drop] at e
    split at e
    · cases e
    · exact h.sh y t e
  · rw [shOf_drop] at e ⊢
    split at e
    · cases e
    · rename_i c
      rw [if_neg c]
      obtain ⟨r, a1, a2, a3, a4⟩ := h.bd y t e
      refine ⟨r, a1, a2, a3, fun z => ?_⟩
      have := a4 z
      rw [if_neg (fun d => c (by rw [this] at d; exact Option.some.inj d))]
      exact this
end
end Sw
namespace L2
open PySem PySem.Spec PyProof.Rows
section
variable {X : Cx}
theorem pa_consS {x : Str} {j} {p : Pos} {es : List Expr} {t : TA} (hr : PA X es t) : PA X (.Constant (.str x) j p :: es) (tCons (tC (.str x)) t) := pa_cons pe_str hr rfl
end
end L2
namespace L2
open PySem PySem.Spec PyProof.Rows
def StR (H : Hp) (xr : Str × Rat) (kv : Key × V) : Prop := kv.1 = Sum.inr xr.1 ∧ ∃ q, kv.2 = V.ref q ∧ H q = some (.tup (fq xr.2))
structure StD (H : Hp) (p : Addr) (l : List (Str × Rat)) : Prop where
  ex : ∃ kvs, H p = some (.dK kvs) ∧ Paired (StR H) l kvs
theorem StR.keep {H H' : Hp} {xr : Str × Rat} {kv : Key × V} (h : StR H xr kv) (k : ∀ b zs, H b = some (.tup zs) → H' b = some (.tup zs)) : StR H' xr kv := by
  obtain ⟨h1, q, h2, h3⟩ := h
  exact ⟨h1, q, h2, k _ _ h3⟩
theorem StD.keep {H H' : Hp} {p : Addr} {l : List (Str × Rat)} (h : StD H p l) (k : ∀ b zs, H b = some (.tup zs) → H' b = some (.tup zs)) (kd : ∀ kvs, H p = some (.dK kvs) → H' p = some (.dK kvs)) : StD H' p l := by
  obtain ⟨kvs, h1, h2⟩ := h.ex
  exact ⟨kvs, kd _ h1, Paired.mapP h2 fun _ _ z => z.keep k⟩
theorem st_get {H : Hp} {x : Str} {r : Rat} : ∀ {l : List (Str × Rat)} {kvs : List (Key × V)}, Paired (StR H) l kvs → (l.map (·.1)).Nodup → (x, r) ∈ l → ∃ q, valV kvs (Sum.inr x : Key) = some (.ref q) ∧ H q = some (.tup (fq r))
  | _, _, .nil, _, h => by cases h
  | _, _, .cons (a := p) (b := kv) h t, nd, hm => by
    rw [List.map_cons, List.nodup_cons] at nd
    obtain ⟨h1, q, h2, h3⟩ := h
    rcases List.mem_cons.mp hm with e | e
    · subst e
      exact ⟨q, by rw [valV_pos h1, h2], h3⟩
    · have ne : p.1 ≠ x := fun z => nd.1 (List.mem_map.mpr ⟨_, e, z.symm⟩)
      rw [valV_neg (by rw [h1]; exact fun z => ne (Sum.inr.inj z))]
      exact st_get t nd.2 e
theorem StD.get {H : Hp} {p : Addr} {l : List (Str × Rat)} {x : Str} {r : Rat} (h : StD H p l) (nd : (l.map (·.1)).Nodup) (hm : (x, r) ∈ l) : ∃ q, DGet H p (.str x) (some (.ref q)) ∧ H q = some (.tup (fq r)) := by
  obtain ⟨kvs, h1, h2⟩ := h.ex
  obtain ⟨q, e, hq⟩ := st_get h2 nd hm
  have g := DGet.k (k := Sum.inr x) h1
  rw [e] at g
  exact ⟨q, g, hq⟩
end L2
namespace L2
open PySem PySem.Spec PyProof.Rows
section
variable {X : Cx}
end
end L2
namespace L2
open PySem PySem.Spec PyProof.Rows
section
variable {X : Cx}
def rSlS : V → Option Int → Option Int → Hp → VK → Prop := fun x lo hi H Q => ∃ z, x = .str z ∧ z.length ≤ sizeLine ∧ Q (.str (Txt.slice z lo hi)) H
theorem sl_str : SlR X rSlS := by
  intro pins s σ H x v vl vu lo hi sl Q I rx hs pl pu h
  obtain ⟨z, rfl, hz, q⟩ := h
  obtain ⟨t, rfl⟩ := rx
  refine ⟨"str", _, slot_str_getitem.lookup, typeIs_str s z t, ?_⟩
  have fin : ∀ l u : Option (Int × Tok), l.map (·.1) = lo → u.map (·.1) = hi → (sliceMade z t l u none).post (EP X pins σ Q) s := fun l u el eu => by
    unfold sliceMade
    unfold Txt.slice at q
    rw [← el, ← eu] at q
    have q : Q (.str (if ((Option.map (fun x : Int × Tok => x.1) none).getD 1 == 1 && (slicePicked z l u none).length == z.length) = true then z else { cps := (List.filterMap (fun x => z.cps[x]?) (slicePicked z l u none)).toArray })) H := q
    split
    · rename_i c
      rw [if_pos c] at q
      exact ⟨.str z, H, I, ⟨_, rfl⟩, q⟩
    · rename_i c
      rw [if_neg c] at q
      have le := Txt.slice_le z lo hi
      unfold Txt.slice at le
      rw [← el, ← eu] at le
      have le : (if ((Option.map (fun x : Int × Tok => x.1) none).getD 1 == 1 && (slicePicked z l u none).length == z.length) = true then z else { cps := (List.filterMap (fun x => z.cps[x]?) (slicePicked z l u none)).toArray }).length ≤ z.length := le
      rw [if_neg c] at le
      exact ⟨Nat.le_trans le hz, .str _, H, I.tok _, ⟨_, rfl⟩, q⟩
  cases pl with
  | none => cases pu with
    | none => exact wpAny_getItem_str_slice (l := none) (u := none) (st := none) hs rfl (fin none none rfl rfl)
    | int j uj => exact wpAny_getItem_str_slice (l := none) (u := some (j, uj)) (st := none) hs rfl (fin none (some (j, uj)) rfl rfl)
  | int i ui => cases pu with
    | none => exact wpAny_getItem_str_slice (l := some (i, ui)) (u := none) (st := none) hs rfl (fin (some (i, ui)) none rfl rfl)
    | int j uj => exact wpAny_getItem_str_slice (l := some (i, ui)) (u := some (j, uj)) (st := none) hs rfl (fin (some (i, ui)) (some (j, uj)) rfl rfl)
def rMulS : R2 := fun x y H Q => ∃ z n, x = .str z ∧ y = .int n ∧ 0 ≤ n ∧ n < 1000 ∧ z.length < 1000 ∧ Q (.str (Txt.mul z n)) H
theorem op_mulS : OpR X (binaryOp .Mult) rMulS := by
  intro pins s σ H x y v u Q I rx ry h
  obtain ⟨z, n, rfl, rfl, n0, n1, hz, q⟩ := h
  obtain ⟨t, rfl⟩ := rx
  obtain ⟨t', rfl⟩ := ry
  refine SB.mul ⟨?_, fun a b => ?_, fun a b => ?_⟩ fun t' k => ⟨.str _, H, I.tok _, ⟨_, rfl⟩, q⟩
  · simp; omega
  · have h1 : (z.length : Int) * n ≤ 2 ^ 63 - 1 := by
      have := Int.mul_le_mul (show (z.length : Int) ≤ 1000 by omega) (show n ≤ 1000 by omega) n0 (by decide)
      omega
    have := (Int.le_ediv_iff_mul_le (show 0 < n by omega)).mpr h1
    omega
  · unfold Builtin.Str.tooLong
    rw [decide_eq_false_iff_not]
    have h1 := Nat.mul_le_mul (show z.length ≤ 1000 by omega) (show n.toNat ≤ 1000 by omega)
    have hs : sizeLine = 16777216 := sizeLine_eq
    omega
end
end L2
namespace L2
open PySem PySem.Spec PyProof.Rows
section
variable {X : Cx}
end
end L2
namespace L2
open PySem PySem.Spec PyProof.Rows
def sg (c : Nat) : Str := ⟨#[c]⟩
def Its (z : Str) : It := ⟨fun i _ => i < z.length, fun i H x H' => H' = H ∧ ∃ c, z.cps.toList[i]? = some c ∧ x = .str (sg c), fun i _ => z.length ≤ i⟩
theorem turn_str {P : Program} {w : World} {K : PySem.W.Frag} {tg : Expr} (it : Addr) (z : Str) (t : Tok) (ty : String) (hty : ty = "str_ascii_iterator" ∨ ty = "str_iterator") : Turn P w K tg (Its z) [it] it (fun i h => h.IsStrIter it ty z t i) where
  mem := by simp
  obj := fun i h st b hb => by
    have e : b = it := by simpa using hb
    subst e
    obtain ⟨o, e, c, d⟩ := st
    exact ⟨o, e, fun v z => by rw [d] at z; cases z⟩
  keep := fun i h h' st k => by
    obtain ⟨o, e, r⟩ := st
    exact ⟨o, k it (by simp) o e, r⟩
  item := by
    intro X hP hw hK hc i pins s σ H E I hf st hg
    subst hP hw hK
    obtain ⟨f0, f1, f2, f3, f4, f5⟩ := hf it (by simp)
    have hg : i < z.cps.size := hg
    have W : Walks X.prog X.w X.A it [it] [it] z.cps.size (SignAt z) (fun i h => h.IsStrIter it ty z t i) := by
      rcases hty with rfl | rfl
      · exact Walks.strAscii (I.ok.hd hc) it z t
      · exact Walks.strWide (I.ok.hd hc) it z t
    refine W.item i s _ _ hg st fun v h' tk hv st' kk => ?_
    obtain ⟨c, u, hc1, rfl⟩ := hv
    have I1 : Inv X pins σ H { s with heap := h', toks := tk } := I.turned (fun b o hb e => kk b o (by simpa using hb) e) f0 f1 f3 f4 f5
    obtain ⟨o, e, c1, d⟩ := id st'
    refine ⟨_, rfl, go_of (s := { s with heap := h', toks := tk }) e c1 d (by rcases hty with rfl | rfl <;> decide) ⟨.str (sg c), H, I1, ⟨u, rfl⟩, ⟨rfl, c, by rw [Array.getElem?_toList]; exact hc1, rfl⟩, st', fun b hb => (hf b hb).1⟩⟩
  done := by
    intro X hP hw hK hc i pins s σ H E I hf st hg
    subst hP hw hK
    obtain ⟨f0, f1, f2, f3, f4, f5⟩ := hf it (by simp)
    have hg : z.cps.size ≤ i := hg
    rcases hty with rfl | rfl
    · exact wpAny_pyNext_ascii_end (I.ok.hd hc) st (by simpa using hg) fun h' eb => ⟨rfl, I.turned (t' := s.toks) (fun b o hb e => eb b o hb e) f0 f1 f3 f4 f5⟩
    · exact wpAny_pyNext_wide_end (I.ok.hd hc) st (by simpa using hg) fun h' eb => ⟨rfl, I.turned (t' := s.toks) (fun b o hb e => eb b o hb e) f0 f1 f3 f4 f5⟩
  self := fun _ _ _ _ _ st h => by
    rcases hty with rfl | rfl
    · exact wpAny_pyIter_striter_ascii st h
    · exact wpAny_pyIter_striter_wide st h
section
variable {X : Cx} {tg : Expr}
def iStr (tl : TE) : TI := fun σ H R => tl σ H fun x H1 => ∃ z, x = .str z ∧ R (Its z) H1
theorem pi_str {l : Expr} {tl : TE} (hl : PE X l tl) : PI X tg l (iStr tl) := by
  intro pins s σ H R I h
  refine thn (hl pins s σ H _ I h) fun v s1 ⟨x, H1, I1, r1, q1⟩ => ?_
  obtain ⟨z, rfl, q⟩ := q1
  obtain ⟨t, rfl⟩ := r1
  have fin : ∀ ty, (ty = "str_ascii_iterator" ∨ ty = "str_iterator") → PIE X pins σ tg R (.ref s1.heap.objs.size) { s1 with heap := s1.heap.push { cls := .type ty, data := .fields #[.str z t, .int 0 0] } } := fun ty hty => by
    refine ⟨s1.heap.objs.size, [s1.heap.objs.size], _, _, H1, rfl, I1.kept (t' := s1.toks) fun b o e => Heap.get?_push_of_some _ e, turn_str _ z t ty hty, ⟨_, Heap.get?_push_size _ rfl, rfl, rfl⟩, fun b hb => ?_, q⟩
    have e : b = s1.heap.objs.size := by simpa using hb
    subst e
    exact I1.fpOk (Nat.le_refl _) (I1.hok.fresh (Nat.le_refl _))
  cases ha : z.cps.all (· < 128)
  · exact wpAny_pyIter_wide ha (fin _ (.inr rfl))
  · exact wpAny_pyIter_ascii ha (fin _ (.inl rfl))
end
theorem comp_str {z : Str} {g : TG} {tc : TT} {te : TE} {D : Addr} {τ : St} {H : Hp} {Q : VK} (Pv : Nat → St → Hp → Prop) (h0 : Pv 0 τ H)
    (hs : ∀ i c τ H, z.cps.toList[i]? = some c → Pv i τ H → g (.str (sg c)) τ H fun τ2 H3 => tc τ2 H3 fun b H4 => if b = true then te τ2 H4 fun y H5 => ∃ ys, H5 D = some (.lst ys) ∧ ys.length < sizeLine ∧ Pv (i + 1) τ2 (upd H5 D (.lst (ys ++ [y]))) else Pv (i + 1) τ2 H4)
    (hd : ∀ τ H, Pv z.length τ H → Q (.ref D) H) : CompG (Its z) g tc te D τ H Q := by
  refine ⟨fun i m τ H => m = z.length - i ∧ i ≤ z.length ∧ Pv i τ H, ⟨z.length, by simp, Nat.zero_le _, h0⟩, ?_⟩
  rintro i m τ H ⟨rfl, hi, p⟩
  by_cases hlt : i < z.length
  · refine .inr ⟨hlt, Pv (i + 1), fun τ' H' p' => ⟨z.length - (i + 1), by omega, rfl, hlt, p'⟩, fun x H' y => ?_⟩
    obtain ⟨e, c, hc, y⟩ := y
    subst e y
    exact hs i c τ H' hc p
  · have : i = z.length := by omega
    subst this
    exact .inl ⟨Nat.le_refl _, hd _ _ p⟩
theorem strs_vals : ∀ {zs : List Str} {us : List Value}, Vals (zs.map V.str) us → ∃ l : List (Str × Tok), us = strValues l ∧ l.map (·.1) = zs
  | [], _, h => by cases h; exact ⟨[], rfl, rfl⟩
  | z :: r, _, h => by
    cases h with
    | cons h t =>
      obtain ⟨tk, rfl⟩ := h
      obtain ⟨l, e1, e2⟩ := strs_vals t
      exact ⟨(z, tk) :: l, by rw [e1]; rfl, by rw [List.map_cons, e2]⟩
section
variable {X : Cx}
def rInS : R2 := fun x y H Q => ∃ z w, x = .str z ∧ y = .str w ∧ Q (.bl (Txt.contains w z)) H
def rNotInS : R2 := fun x y H Q => ∃ z w, x = .str z ∧ y = .str w ∧ Q (.bl (!Txt.contains w z)) H
theorem op_inS : OpR X (compareOp .In) rInS := by
  intro pins s σ H x y v u Q I rx ry h
  obtain ⟨z, w, rfl, rfl, q⟩ := h
  obtain ⟨t, rfl⟩ := rx
  obtain ⟨t', rfl⟩ := ry
  exact SB.contains ⟨.bl _, H, I, rfl, q⟩
theorem op_notInS : OpR X (compareOp .NotIn) rNotInS := by
  intro pins s σ H x y v u Q I rx ry h
  obtain ⟨z, w, rfl, rfl, q⟩ := h
  obtain ⟨t, rfl⟩ := rx
  obtain ⟨t', rfl⟩ := ry
  exact SB.notContains ⟨.bl _, H, I, rfl, q⟩
def rStrI : List V → Hp → VK → Prop := fun xs H Q => ∃ n : Int, xs = [.int n] ∧ n.natAbs.log2 < 1920 ∧ Q (.str (Str.ofString (toString n))) H
theorem call_strI : CallR X (.type "str") rStrI := by
  intro pins s σ H xs us Q I r h
  obtain ⟨n, rfl, hn, q⟩ := h
  obtain ⟨u, rfl, t, rfl⟩ := vals1 r
  exact PySem.P.str_of_int hn ⟨.str _, H, I.tok _, ⟨_, rfl⟩, q⟩
def rIntS : List V → Hp → VK → Prop := fun xs H Q => ∃ (z : Str) (n : Int), xs = [.str z] ∧ PySem.intText? z = some n ∧ z.length ≤ 640 ∧ Q (.int n) H
theorem call_intS : CallR X (.type "int") rIntS := by
  intro pins s σ H xs us Q I r h
  obtain ⟨z, n, rfl, hn, hz, q⟩ := h
  obtain ⟨u, rfl, t, rfl⟩ := vals1 r
  exact PySem.W.KIN.call_text hn hz ⟨.int n, H, I.tok _, ⟨_, rfl⟩, q⟩
end
end L2
namespace L2
open PySem PySem.Spec PyProof.Rows
theorem pe_globS {X : Cx} {x z : Str} {pos : Pos} (hg : Gl X x) (hm : ∃ t, X.mg x = some (.str z t)) (hd : (x == ("__debug__" : Str)) = false := by decide) : PE X (.Name x pos) (tC (.str z)) := by
  obtain ⟨t, hm⟩ := hm
  exact pe_glob hg hm ⟨t, rfl⟩ hd
end L2
namespace L2
open PySem PySem.Spec PyProof.Rows
section
variable {M : Model} {A : Around} {E : Value → Shared → Prop} {s : Shared} {B : Heap} {env : Env} {outer : List Env} {L e : Addr} {cls : Value} {dct : Option Addr}
end
section
variable {X : Cx} {pins : List (Addr × Obj)} {σ : St} {H H' : Hp} {s : Shared} {h' : Heap}
end
section
variable {P : Program} {w : World} {X : Cx} {scope : Scope} {cl : List (Str × Addr)} {N : List Str} {Ek : XH} {fp : List Addr} {s s' : Shared} {H H' : Hp} {pins : List (Addr × Obj)} {τ : St}
end
section
variable {P : Program} {w : World} {K : PySem.W.Frag} {mg : Str → Option Value} {base : Heap} {N : List Str} {qual : Str} {sc : Scope} {f : Addr} {cd : Value} {A : Around} {outer : List Env} {s₀ : Shared} {H₀ : Hp} {E : XK}
end
end L2
namespace Sw
open PySem L2
def figs : Str := Str.ofString "0123456789"
theorem figs_list : figs.cps.toList = [48, 49, 50, 51, 52, 53, 54, 55, 56, 57] := by decide +kernel
theorem dig_iff {c : Nat} : c ∈ figs.cps.toList ↔ 48 ≤ c ∧ c ≤ 57 := by
  rw [figs_list]
  simp only [List.mem_cons, List.not_mem_nil, or_false]
  omega
theorem in_figs (c : Nat) : Txt.contains figs (sg c) = decide (c ∈ figs.cps.toList) := StrLaws.found_one figs c
theorem str_ext {x y : Str} (h : x.cps.toList = y.cps.toList) : x = y := by
  obtain ⟨a⟩ := x
  obtain ⟨b⟩ := y
  have : a = b := by
    apply Array.toList_inj.mp
    exact h
  rw [this]
theorem len_list (x : Str) : x.cps.toList.length = x.length := Array.length_toList
theorem sg_eq {c : Nat} {x : Str} : sg c = x ↔ x.cps.toList = [c] := by
  refine ⟨fun h => by rw [← h]; rfl, fun h => str_ext (by rw [h]; rfl)⟩
theorem zero_list : (Str.ofString "0").cps.toList = [48] := by decide +kernel
theorem empty_iff {x : Str} : x = Str.ofString "" ↔ x.length = 0 := by
  refine ⟨fun h => by rw [h]; decide +kernel, fun h => str_ext ?_⟩
  rw [← len_list] at h
  rw [List.length_eq_zero_iff.mp h]
  decide +kernel
def Nought (z : Str) : Prop := z.cps.toList[0]? = some 48 ∧ 1 < z.length
def Digs (z : Str) : Prop := ∀ c ∈ z.cps.toList, c ∈ figs.cps.toList
instance (z : Str) : Decidable (Nought z) := by unfold Nought; exact inferInstance
instance (z : Str) : Decidable (Digs z) := by unfold Digs; exact inferInstance
def wordN (most : Nat) (z : Str) : Option Int := if 1 ≤ z.length ∧ z.length ≤ most ∧ Digs z ∧ ¬ Nought z then some ((PySem.NumText.digitsVal z.cps.toList : Nat) : Int) else none
theorem wordN_yes {most : Nat} {z : Str} (h : 1 ≤ z.length ∧ z.length ≤ most ∧ Digs z ∧ ¬ Nought z) : wordN most z = some ((PySem.NumText.digitsVal z.cps.toList : Nat) : Int) := if_pos h
theorem wordN_no {most : Nat} {z : Str} (h : ¬ (1 ≤ z.length ∧ z.length ≤ most ∧ Digs z ∧ ¬ Nought z)) : wordN most z = none := if_neg h
theorem digs_text {z : Str} (h1 : 1 ≤ z.length) (h2 : z.length ≤ 640) (h : Digs z) : PySem.intText? z = some ((PySem.NumText.digitsVal z.cps.toList : Nat) : Int) := by
  refine PySem.intText_digits (fun c hc => dig_iff.mp (h c hc)) (fun e => ?_) (by omega)
  have := len_list z
  rw [e] at this
  simp at this
  omega
theorem wordN_nn {most : Nat} {z : Str} {n : Int} (h : wordN most z = some n) : 0 ≤ n := by
  unfold wordN at h
  split at h
  · cases h
    omega
  · cases h
def numS (n : Int) : Str := Str.ofString (toString n)
def N13 (n : Int) : Prop := 0 ≤ n ∧ n < 10000000000000
theorem N13.len {n : Int} (h : N13 n) : (numS n).length ≤ 13 := PyProof.Rows.toString_length_le h.1 (by decide) h.2
def lineS (q : Q4) : Str := Txt.join (Str.ofString " ") [numS q.1, numS q.2.1, numS q.2.2.1, numS q.2.2.2]
theorem empty_app (a : Str) : Str.empty ++ a = a := str_ext (by
  show ((#[] : Array Nat) ++ a.cps).toList = a.cps.toList
  simp)
theorem app_len (a b : Str) : (a ++ b).length = a.length + b.length := by
  show (a.cps ++ b.cps).size = _
  rw [Array.size_append]; rfl
theorem join_eq (sep : Str) (zs : List Str) : Txt.join sep zs = Str.join sep zs := StrLaws.glued_eq_join sep zs
def rowS (qs : List Q4) : Str := Txt.join (Str.ofString "\n") (qs.map lineS)
theorem sumLen_le {zs : List Str} {m : Nat} (h : ∀ z ∈ zs, z.length ≤ m) : (zs.map (·.length)).sum ≤ m * zs.length := by
  induction zs with
  | nil => exact Nat.zero_le _
  | cons z r ih =>
    have h1 := h z (by simp)
    have h2 := ih fun y hy => h y (List.mem_cons_of_mem _ hy)
    rw [List.map_cons, List.sum_cons, List.length_cons, Nat.mul_add]
    omega
theorem join_ok {sep : Str} {zs : List Str} {m : Nat} (h : ∀ z ∈ zs, z.length ≤ m) (hm : m ≤ 2000) (hl : zs.length ≤ 200) (hs : sep.length ≤ 16) : JoinOk sep zs = true := by
  refine PyProof.Rows.joinOk_of_weight ?_ hs
  have h1 := sumLen_le h
  have := Nat.mul_le_mul hm hl
  omega
def Ok (z : Str) : Prop := ∀ c ∈ z.cps.toList, c < 1114112
theorem ok_iff {z : Str} : PyData.strOk z = true ↔ Ok z := by
  unfold PyData.strOk Ok
  rw [Array.all_eq_true_iff_forall_mem]
  simp
theorem ok_of (s : String) : Ok (Str.ofString s) := fun c hc => by
  rw [PyProof.Rows.signs_ofString] at hc
  obtain ⟨ch, _, rfl⟩ := List.mem_map.mp hc
  have := ch.valid
  unfold Char.toNat
  unfold UInt32.isValidChar Nat.isValidChar at this
  omega
theorem Ok.app {y z : Str} (h : Ok y) (g : Ok z) : Ok (y ++ z) := fun c hc => by
  have : (y ++ z).cps = y.cps ++ z.cps := rfl
  rw [this, Array.toList_append] at hc
  rcases List.mem_append.mp hc with q | q
  · exact h c q
  · exact g c q
theorem Ok.slice {z : Str} (h : Ok z) (lo hi : Option Int) : Ok (Txt.slice z lo hi) := by
  unfold Txt.slice
  split
  · exact h
  · intro c hc
    have hc : c ∈ List.filterMap (fun x => z.cps[x]?) (Builtin.Str.strSliceIndices lo hi 1 z.length) := by simpa using hc
    obtain ⟨i, _, e⟩ := List.mem_filterMap.mp hc
    exact h c (Array.mem_toList_iff.mpr (Array.mem_of_getElem? e))
theorem Ok.sg {c : Nat} (h : c < 1114112) : Ok (sg c) := fun d hd => by
  have : d = c := by simpa [L2.sg] using hd
  rw [this]; exact h
theorem part_mem {x y t : Str} (h : t ∈ Txt.split x y) {c : Nat} (hc : c ∈ t.cps.toList) : c ∈ x.cps.toList := by
  rw [← StrLaws.join_split x y]
  exact (PyProof.Rows.mem_join y c _).mpr (.inl ⟨t, h, hc⟩)
theorem Ok.part {x y t : Str} (h : Ok x) (ht : t ∈ Txt.split x y) : Ok t := fun _ hc => h _ (part_mem ht hc)
theorem Ok.join {sep : Str} {zs : List Str} (h : Ok sep) (g : ∀ z ∈ zs, Ok z) : Ok (Txt.join sep zs) := fun c hc => by
  rw [join_eq] at hc
  rcases (PyProof.Rows.mem_join sep c zs).mp hc with ⟨t, ht, hc⟩ | ⟨_, hc⟩
  · exact g t ht c hc
  · exact h c hc
theorem Ok.line (q : Q4) : Ok (lineS q) := Ok.join (ok_of _) fun z hz => by
  simp only [List.mem_cons, List.not_mem_nil, or_false] at hz
  rcases hz with rfl | rfl | rfl | rfl <;> exact ok_of _
theorem Ok.row (qs : List Q4) : Ok (rowS qs) := Ok.join (ok_of _) fun z hz => by
  obtain ⟨q, _, rfl⟩ := List.mem_map.mp hz
  exact Ok.line q
end Sw
namespace PySem
open Sem (wp)
open Builtin Builtin.Str Builtin.Int
namespace F
theorem nolen_lri : typeLookup (.type "list_reverseiterator") "__len__" = pure none := by rw [typeLookup_type, builtinLookup_eq_fast]; kernel_rfl
theorem hint_lri : typeLookup (.type "list_reverseiterator") "__length_hint__" = pure (some (.builtin "list_reverseiterator.__length_hint__")) := by rw [typeLookup_type, builtinLookup_eq_fast]; kernel_rfl
end F
section
variable {prog : Program} {w : World} {A : Around} {E : Value → Shared → Prop} {s : Shared} {I : Addr} {fp wr : List Addr} {G : Array GenState → Array GenState → Prop} {n : Nat} {P : Nat → Value → Prop} {St : Nat → Shared → Prop}
theorem gather_rev {Q : List Value → Shared → Prop} (W : WalksS prog w A.in1 I fp wr G n P St) (hT : ∀ i s, St i s → s.TypeIs (.ref I) "list_reverseiterator") (hst : St 0 s) (hfp : ∀ b ∈ fp, b < s.heap.objs.size) (hI : I ∈ fp)
    (hQ : ∀ s' acc, Moved wr G s s' → ItemsOf P acc n → Q acc.toList s') (hn : n ≤ sizeLine) : wpAny (model prog w) A (collect (.ref I)) Q E s := by
  have nf : s.heap.objs.size ∉ fp := fun hm => Nat.lt_irrefl _ (hfp _ hm)
  have nI : s.heap.objs.size ≠ I := fun e => nf (e ▸ hI)
  unfold collect
  refine wpAny_bind (wpAny_runValue (codeAny_builtin F.entry_proto_collect ?_))
  rw [Around.under_plainId F.plain_proto_collect _]
  refine (show wpAny (model prog w) A.in1 (newList [] >>= fun l => again (.builtin "list.__iadd__" ⟨[l, .ref I], []⟩)) _ _ s from ?_)
  refine wpAny_bind (wpAny_newObj_type (wpAny_pure ⟨plainId_quiet F.plain_list_iadd _, codeAny_builtin F.entry_list_iadd ?_⟩))
  rw [Around.under_plainId F.plain_list_iadd _]
  have st1 := W.frame 0 s (s.heap.push { cls := .type "list", data := .seq ([] : List Value).toArray }) s.toks hst (Nat.le_refl _) fun b _ o e => Heap.get?_push_of_some _ e
  have g1 : (s.heap.push { cls := .type "list", data := .seq ([] : List Value).toArray }).get? s.heap.objs.size = some { cls := .type "list", data := .seq ([] : List Value).toArray } := Heap.get?_push_size _ rfl
  have h1 : Builtin.List.listSameRef (.ref s.heap.objs.size) (.ref I) = false := by simp [Builtin.List.listSameRef, nI]
  refine (show wpAny (model prog w) A.in1 (Builtin.List.listExtendWith (.ref s.heap.objs.size) (.ref I) (.ref s.heap.objs.size)) _ _ _ from ?_)
  unfold Builtin.List.listExtendWith
  refine wpAny_bind (wpAny_typeOf (hT 0 _ st1) ?_)
  rw [if_neg (by rw [h1]; decide)]
  refine wpAny_bind (W.self 0 _ _ _ st1 ?_)
  refine wpAny_bind (wpAny_holding ?_)
  unfold Builtin.List.listLengthHint
  refine wpAny_bind (wpAny_specialOf (hT 0 _ st1) F.nolen_lri ?_)
  refine (show wpAny (model prog w) A.in1 (specialOf (Value.ref I) (Str.ofString "__length_hint__") >>= _) _ _ _ from ?_)
  refine wpAny_bind (wpAny_specialOf (hT 0 _ st1) F.hint_lri ?_)
  generalize hid : ("list_reverseiterator.__length_hint__" : String) = id0
  wp_delta
  rw [show splitId id0 = some ("list_reverseiterator", "__length_hint__") from by subst hid; decide +kernel]
  subst hid
  refine wpAny_bind (wpAny_isInstance (b := true) (hT 0 _ st1) (by rw [isSubtype_type]; kernel_rfl) ?_)
  refine wpAny_pure ?_
  rw [if_neg (by decide)]
  refine wpAny_pure ⟨plainId_quiet F.plain_extend_loop _, codeAny_extend_loopS W hn _ nf _ n 0 _ _ _ rfl (Nat.zero_le _) st1 g1 (ItemsOf.nil P) fun s' acc' c' hm hS' hacc => ?_⟩
  refine (show wpAny (model prog w) A (load s.heap.objs.size >>= _) _ _ s' from ?_)
  exact wpAny_bind (wpAny_load hS' (wpAny_pure (hQ s' acc' (Moved.drop_new (o := { cls := .type "list", data := .seq ([] : List Value).toArray }) (tk := s.toks) hm (Nat.le_refl _)) hacc)))
end
theorem join_rev {prog : Program} {w : World} {A : Around} {E : Value → Shared → Prop} {s : Shared} {x : Str} {t : Tok} {Q : Value → Shared → Prop} {I D : Addr} {l : List (Str × Tok)} (hh : A.handled = none)
    (hit : s.heap.IsRevIter I D (((strValues l).toArray.size : Int) - 1)) (hl : s.heap.IsList D (strValues l).toArray) (hne : D ≠ I) (hok : JoinOk x (l.map (·.1)).reverse = true) (hn : l.length ≤ sizeLine)
    (hq : ∀ s' t' k, Moved [I] (fun a b => b = a) s s' → Q (.str (Txt.join x (l.map (·.1)).reverse) t') { s' with toks := k }) :
    wpAny (model prog w) A (call (.builtin "str.join") [.str x t, .ref I]) Q E s := by
  have W : WalksS prog w A.in1.in1 I [I, D] [I] (fun a b => b = a) (strValues l).toArray.size _ _ := (Walks.listRev (A := A.in1.in1) hh I D hne (strValues l).toArray).toS
  have sz : (strValues l).toArray.size = l.length := by simp [strValues]
  have hT : ∀ i (s : Shared), (i ≤ (strValues l).toArray.size ∧ s.heap.IsRevIter I D (((strValues l).toArray.size : Int) - 1 - (i : Int)) ∧ s.heap.IsList D (strValues l).toArray) → s.TypeIs (.ref I) "list_reverseiterator" := fun i s h => h.2.1.typeIs
  have h0 : (0 : Nat) ≤ (strValues l).toArray.size ∧ s.heap.IsRevIter I D (((strValues l).toArray.size : Int) - 1 - ((0 : Nat) : Int)) ∧ s.heap.IsList D (strValues l).toArray := ⟨Nat.zero_le _, by
    have : ((strValues l).toArray.size : Int) - 1 - ((0 : Nat) : Int) = ((strValues l).toArray.size : Int) - 1 := by omega
    rw [this]; exact hit, hl⟩
  refine wpAny_call (codeAny_call_builtin F.slot_str_join.plain F.entry_str_join (F.slot_str_join.check _ _ _ _ _ _ _ _ (typeIs_str _ _ _) (F.args_str_join_2 _ _) ?_))
  rw [join_tree_other]
  refine wpAny_bind (wpAny_typeOf hit.typeIs ?_)
  refine (show wpAny (model prog w) A.in1 ((pyIter (.ref I)).tryCatch _ >>= fun it => collect it >>= fun items => joinTail x items) _ _ s from ?_)
  refine wpAny_bind (wpAny_tryCatch (W.of_in1.self 0 s _ _ h0 ?_))
  have fp : ∀ b ∈ [I, D], b < s.heap.objs.size := fun b hb => by
    rcases List.mem_cons.mp hb with e | e
    · obtain ⟨o, ho, _⟩ := hit
      rw [e]; exact Heap.lt_size ho
    · obtain ⟨o, ho, _⟩ := hl
      rw [List.mem_singleton.mp e]; exact Heap.lt_size ho
  refine wpAny_bind (gather_rev W hT h0 fp (by simp) (fun s' acc hm hacc => ?_) (by rw [sz]; exact hn))
  have ea : acc.toList = strValues l.reverse := by
    apply List.ext_getElem?
    intro i
    obtain ⟨a1, a2⟩ := hacc
    by_cases hi : i < l.length
    · have hi2 : i < acc.size := by rw [a1, sz]; exact hi
      have e := a2 i _ (Array.getElem?_eq_getElem hi2)
      rw [Array.getElem?_toList, Array.getElem?_eq_getElem hi2, ← e]
      simp only [strValues, List.size_toArray, List.length_map, List.getElem?_toArray, List.getElem?_map]
      rw [List.getElem?_reverse hi]
    · rw [Array.getElem?_toList, Array.getElem?_eq_none (by rw [a1, sz]; omega), List.getElem?_eq_none (by simp [strValues]; omega)]
  rw [ea]
  have hok2 : JoinOk x (l.reverse.map (·.1)) = true := by rw [List.map_reverse]; exact hok
  have hq2 : ∀ t' k, Q (.str (Txt.join x (l.reverse.map (·.1))) t') { s' with toks := k } := fun t' k => by rw [List.map_reverse]; exact hq s' t' k hm
  generalize l.reverse = r at hok2 hq2
  unfold JoinOk at hok2
  rw [Bool.not_eq_true'] at hok2
  have g : Gives (joinTail x (strValues r)) (joinMade x r) := by
    have g0 := gives_joinTail x r hok2
    cases r with
    | nil => exact g0
    | cons p r => cases r with
      | nil => exact g0
      | cons q r' => exact g0
  exact g prog w A (wants Q E) s' (post_join r ⟨joinFit_length hok2, hq2⟩)
end PySem
namespace L2
open PySem PySem.Spec PyProof.Rows
def rPart : V → List V → Hp → VK → Prop := fun x vs H Q => ∃ (z y : Str), x = .str z ∧ vs = [.str y] ∧ (y.length == 0) = false ∧ z.length ≤ sizeLine ∧
  ∀ l, H l = none → Q (.ref l) (upd H l (.tup [.str (Txt.partition z y).1, .str (Txt.partition z y).2.1, .str (Txt.partition z y).2.2]))
def rStarts : V → List V → Hp → VK → Prop := fun x vs H Q => ∃ (z y : Str), x = .str z ∧ vs = [.str y] ∧ Q (.bl (Txt.startswith z y)) H
def rZfill : V → List V → Hp → VK → Prop := fun x vs H Q => ∃ (z : Str) (i : Int), x = .str z ∧ vs = [.int i] ∧ PadOk i = true ∧ Q (.str (Txt.zfill z i)) H
section
variable {X : Cx}
theorem mt_part : MtR X "str.partition" rPart := by
  intro pins s σ H x vs v us Q I rx rv h
  obtain ⟨z, y, rfl, rfl, hy, hz, q⟩ := h
  obtain ⟨t, rfl⟩ := rx
  obtain ⟨w, rfl, rw⟩ := rv.one
  obtain ⟨u, rfl⟩ := rw
  refine call_meets F.slot_str_partition (typeIs_str _ _ _) F.entry_str_partition (F.args_str_partition_2 _ _) (meets_str_partition z y t u hy hz) ?_
  have fin : ∀ (a b c : Str) (ta tb tc : Tok) (tk : Nat), Txt.partition z y = (a, b, c) → EP X pins σ Q (.ref s.heap.objs.size) { s with toks := tk, heap := s.heap.push { cls := .type "tuple", data := .seq [.str a ta, .str b tb, .str c tc].toArray } } := fun a b c ta tb tc tk e => by
    rw [e] at q
    exact ⟨.ref s.heap.objs.size, _, I.laid (o := .tup [.str a, .str b, .str c]) (fun b o h => Heap.get?_push_of_some _ h) (Nat.le_refl _) ⟨by show 3 ≤ sizeLine; decide, [.str a ta, .str b tb, .str c tc], .cons ⟨ta, rfl⟩ (.cons ⟨tb, rfl⟩ (.cons ⟨tc, rfl⟩ .nil)), _, Heap.get?_push_size _ rfl, rfl, _, rfl⟩, rfl, q _ I.fresh⟩
  unfold Txt.partition at fin
  cases ho : Builtin.Str.occurrences z y 0 z.length 1 with
  | nil => rw [ho] at fin; exact fin _ _ _ _ _ _ _ rfl
  | cons i r => rw [ho] at fin; exact fin _ _ _ _ _ _ _ rfl
theorem mt_starts : MtR X "str.startswith" rStarts := by
  intro pins s σ H x vs v us Q I rx rv h
  obtain ⟨z, y, rfl, rfl, q⟩ := h
  obtain ⟨t, rfl⟩ := rx
  obtain ⟨w, rfl, rw⟩ := rv.one
  obtain ⟨u, rfl⟩ := rw
  exact SC.startswith ⟨.bl _, H, I, rfl, q⟩
theorem mt_zfill : MtR X "str.zfill" rZfill := by
  intro pins s σ H x vs v us Q I rx rv h
  obtain ⟨z, i, rfl, rfl, hp, q⟩ := h
  obtain ⟨t, rfl⟩ := rx
  obtain ⟨w, rfl, rw⟩ := rv.one
  obtain ⟨u, rfl⟩ := rw
  exact SC.zfill hp fun t' k => ⟨.str _, H, I.tok _, ⟨_, rfl⟩, q⟩
def tJoinRev (K : PySem.W.Frag) (to : TE) (ta : TA) : TE := fun σ H Q => to σ H fun x H1 => ∃ z, x = .str z ∧ ta σ H1 fun vs H2 => ∃ (a : Addr) (zs : List Str), vs = [.ref a] ∧ H2 a = some (.lst (zs.map V.str)) ∧ JoinOk z zs.reverse = true ∧ Q (.str (Txt.join z zs.reverse)) H2
theorem pe_joinRev (K : PySem.W.Frag) {o l : Expr} {to : TE} {ta : TA} {apos cpos p pos : Pos} (hc : X.calm = true) (hg : Gl X "reversed") (hm : X.mg "reversed" = none) (ho : PE X o to) (ha : PA X [l] ta)
    (hbase : attributeBase o "join" X.env (eval o X.env) = eval o X.env := by rfl)
    (hfew : ((backTo cpos (starEach [.Call (.Name "reversed" p) [l] [] pos] X.env)).all (fun x => !x.1) && (backToKw cpos (keywordEach [] X.env)).all (fun x => x.1.isSome)
      && decide ([Expr.Call (.Name "reversed" p) [l] [] pos].length + ([] : List Keyword).length + (if ([] : List Keyword).isEmpty then 0 else 1) < 30)) = true := by rfl)
    (hline : (apos.endLine == cpos.line) = true := by rfl)
    (hs : starEach [.Call (.Name "reversed" p) [l] [] pos] X.env = [(false, eval (.Call (.Name "reversed" p) [l] [] pos) X.env)] := by rfl) (hs2 : starEach [l] X.env = [(false, eval l X.env)] := by rfl) :
    PE X (.Call (.Attribute o "join" apos) [.Call (.Name "reversed" p) [l] [] pos] [] cpos) (tJoinRev K to ta) := by
  intro pins s σ H Q I h
  refine wpAny_Call_method_late hbase hfew hline rfl (thn (ho pins s σ H _ I h) fun v s1 ⟨x, H1, I1, r1, q1⟩ => ?_)
  obtain ⟨z, rfl, q1⟩ := q1
  obtain ⟨t, rfl⟩ := r1
  refine ⟨"str", "str.join", PySem.F.plainAttrs_str, PySem.F.slot_str_join, PySem.F.type_str_join, typeIs_str _ _ _, (fun a e => by cases e), ?_⟩
  rw [hs]
  refine Calls.callWith_builtin rfl (Calls.evalArgs_plain (Calls.spliced_cons ?_))
  refine Call_ (ld_blt I1 hg hm boot_reversed (PyProof.Rows.callWith_type1 (thn (ha pos pins s1 σ H1 _ I1 q1) fun us s2 ⟨vs, H2, I2, r2, q2⟩ => ?_) hs2 rfl))
  obtain ⟨a, zs, rfl, hl, ok, q⟩ := q2
  obtain ⟨u, rfl, r⟩ := Vals.one r2
  cases r
  obtain ⟨lz, its, n, r, hn, e⟩ := I2.lstM hl
  obtain ⟨ps, rfl, rfl⟩ := strs_vals r
  have il : s2.heap.IsList a (strValues ps).toArray := ⟨_, e, rfl, _, rfl⟩
  refine call_reversed_list il ?_
  refine wpAny_pure ?_
  have hit : (s2.heap.push (revObj a (((strValues ps).toArray.size : Int) - 1))).IsRevIter s2.heap.objs.size a (((strValues ps).toArray.size : Int) - 1) := ⟨_, Heap.get?_push_size _ rfl, rfl, rfl⟩
  have hne : a ≠ s2.heap.objs.size := fun z => by
    obtain ⟨o, ho, _⟩ := il
    exact absurd z (Nat.ne_of_lt (Heap.lt_size ho))
  refine join_rev (I2.ok.hd hc) hit (il.at fun o e => Heap.get?_push_of_some _ e) hne ok (by simpa using lz) fun s' t' k m => ?_
  have hk : ∀ b o, s2.heap.get? b = some o → s'.heap.get? b = some o := fun b o eb => m.heap b o (fun z => by
    have := Heap.lt_size eb
    rw [List.mem_singleton.mp z] at this
    exact Nat.lt_irrefl _ this) (Heap.get?_push_of_some _ eb)
  have es : ({ s' with toks := k } : Shared) = { s2 with heap := s'.heap, toks := k } := by
    obtain ⟨h', g', d', t', o'⟩ := s'
    have e1 := m.gens
    have e2 := m.drawn
    have e3 := m.os
    simp only at e1 e2 e3
    subst e1 e2 e3
    rfl
  rw [es]
  exact ⟨.str _, H2, I2.kept hk, ⟨_, rfl⟩, q⟩
end
structure PAx (X : Cx) (es : List Expr) (t : TA) : Prop where
  h : PA X es t
section
variable {X : Cx}
theorem px_nil : PAx X [] tNil := ⟨pa_nil⟩
theorem px_str {x : Str} {j} {p : Pos} {es : List Expr} {t : TA} (hr : PAx X es t) : PAx X (.Constant (.str x) j p :: es) (tCons (tC (.str x)) t) := ⟨pa_consS hr.h⟩
theorem px_cons {e : Expr} {es : List Expr} {te : TE} {t : TA} (he : PE X e te) (hr : PAx X es t) (hs : starEach (e :: es) X.env = (false, eval e X.env) :: starEach es X.env := by rfl) : PAx X (e :: es) (tCons te t) := ⟨pa_cons he hr.h hs⟩
structure PEx (X : Cx) (e : Expr) (t : TE) : Prop where
  h : PE X e t
structure PSx (X : Cx) (st : Stmt) (t : TS) : Prop where
  h : PS X st t
structure PSsx (X : Cx) (b : List Stmt) (t : TS) : Prop where
  h : PSs X b t
theorem pex_lst {es : List Expr} {t : TA} {pos : Pos} (h : PAx X es t) : PEx X (.List es pos) (tLst t) := ⟨pe_lst h.h⟩
theorem pex_op {a b : Expr} {op : Operator} {r : R2} {ta tb : TE} {pos : Pos} (hr : OpR X (binaryOp op) r) (ha : PE X a ta) (hb : PEx X b tb) : PEx X (.BinOp a op b pos) (tOp r ta tb) := ⟨pe_op hr ha hb.h⟩
theorem psx_of {st : Stmt} {t : TS} (h : PS X st t) : PSx X st t := ⟨h⟩
theorem psx_set {i : Nat} {x : Str} {e : Expr} {te : TE} {pos' pos : Pos} (hN : X.N.Nodup) (hi : X.N[i]? = some x) (hx : Loc X.env.scope x) (he : PEx X e te) (hs : swapsWith e (some (.Name x pos')) pos.line X.env = pure false := by first | kernel_rfl | rfl) (hf : X.fn x = true ∨ X.env.scope.names.lookup x = some .local := by first | exact .inl rfl | exact .inr rfl | assumption) :
    PSx X (.Assign [.Name x pos'] e pos) (tAsg te (gName i)) := ⟨ps_set hN hi hx he.h hs hf⟩
theorem psx_one {st : Stmt} {t : TS} (h : PSx X st t) : PSsx X [st] t := ⟨pss_one h.h⟩
theorem psx_cons {st : Stmt} {t : TS} {rest : List Stmt} {u : TS} (h1 : PSx X st t) (h2 : PSsx X rest u) : PSsx X (st :: rest) (tSeq t u) := ⟨pss_cons h1.h h2.h⟩
theorem ex_x {b : List Stmt} {r : TS → Prop} (h : ∃ t, PSsx X b t ∧ r t) : ∃ t, PSs X b t ∧ r t := h.imp fun _ q => ⟨q.1.h, q.2⟩
end
end L2
namespace Sw
open PySem L2 PyProof.Rows
theorem ofs_app (a b : String) : Str.ofString (a ++ b) = Str.ofString a ++ Str.ofString b := str_ext (by
  have e : (Str.ofString a ++ Str.ofString b).cps = (Str.ofString a).cps ++ (Str.ofString b).cps := rfl
  rw [e, Array.toList_append, signs_ofString, signs_ofString, signs_ofString, String.toList_append, List.map_append])
theorem app_list (a b : Str) : (a ++ b).cps.toList = a.cps.toList ++ b.cps.toList := by
  have e : (a ++ b).cps = a.cps ++ b.cps := rfl
  rw [e, Array.toList_append]
theorem num_list (m : Nat) : (numS (m : Int)).cps.toList = (Nat.toDigits 10 m).map Char.toNat := PySem.W.KIN.signs_num m
theorem num_neg {m : Nat} (h : 0 < m) : numS (-(m : Int)) = Str.ofString "-" ++ numS (m : Int) := by
  obtain ⟨k, rfl⟩ : ∃ k, m = k + 1 := ⟨m - 1, by omega⟩
  unfold numS
  rw [← ofs_app]
  rfl
theorem num_digs (m : Nat) : Digs (numS (m : Int)) := fun c hc => by
  rw [num_list] at hc
  obtain ⟨ch, hch, rfl⟩ := List.mem_map.mp hc
  have r := Nat.isDigit_of_mem_toDigits (by decide) (by decide) hch
  refine dig_iff.mpr ?_
  simp only [Char.isDigit, Bool.and_eq_true, decide_eq_true_eq] at r
  obtain ⟨r1, r2⟩ := r
  exact ⟨r1, r2⟩
theorem num_all (m : Nat) : NumText.AllDigits (numS (m : Int)).cps.toList := fun c hc => dig_iff.mp (num_digs m c hc)
theorem num_val (m : Nat) : NumText.digitsVal (numS (m : Int)).cps.toList = m := by rw [num_list]; exact PySem.W.KIN.val_back m
theorem num_len1 (m : Nat) : 1 ≤ (numS (m : Int)).length := by
  rw [← len_list, num_list, List.length_map]
  exact toDigits_len_ge 10 m
theorem num_nought (m : Nat) : ¬ Nought (numS (m : Int)) := by
  rintro ⟨h0, h1⟩
  have hv := num_val m
  have ha := num_all m
  have hl : (numS (m : Int)).cps.toList.length = (Nat.toDigits 10 m).length := by rw [num_list, List.length_map]
  rw [← len_list] at h1
  generalize (numS (m : Int)).cps.toList = cs at h0 h1 hv ha hl
  match cs, h0 with
  | c :: r, h0 =>
    have h0 : c = 48 := by simpa using h0
    subst h0
    have e := NumText.toDigits_all (48 :: r) ha
    rw [hv] at e
    rw [e, List.dropWhile_cons] at hl
    have hd : (r.dropWhile (· == 48)).length ≤ r.length := (List.dropWhile_sublist _).length_le
    simp only [beq_self_eq_true, if_true] at hl
    cases hr : r.dropWhile (· == 48) with
    | nil =>
      rw [hr] at hl
      simp only [List.length_cons] at hl h1
      simp at hl
      rw [hl] at h1
      simp at h1
    | cons d q =>
      rw [hr] at hl hd
      simp only [List.length_cons, List.length_map] at hl hd
      omega
theorem word_num {k m : Nat} (hk : 0 < k) (h : m < 10 ^ k) : wordN k (numS (m : Int)) = some (m : Int) := by
  have hl : (numS (m : Int)).length ≤ k := toString_length_le (Int.natCast_nonneg m) hk (by exact_mod_cast h)
  rw [wordN_yes ⟨num_len1 m, hl, num_digs m, num_nought m⟩, num_val]
theorem sign_back {c : Nat} (h : c ≤ 57) : (Char.ofNat c).toNat = c := by
  have : ∀ d : Fin 58, (Char.ofNat d.val).toNat = d.val := by decide
  exact this ⟨c, by omega⟩
theorem num_word {k : Nat} {z : Str} {n : Int} (h : wordN k z = some n) : numS n = z := by
  unfold wordN at h
  split at h
  · rename_i g
    obtain ⟨g1, g2, g3, g4⟩ := g
    cases h
    refine str_ext ?_
    rw [num_list]
    have al : NumText.AllDigits z.cps.toList := fun c hc => dig_iff.mp (g3 c hc)
    have hl := len_list z
    rw [NumText.toDigits_digitsVal (z.length - 1) z.cps.toList (by omega) al ?_, List.map_map]
    · have : ∀ c ∈ z.cps.toList, (Char.toNat ∘ Char.ofNat) c = c := fun c hc => by
        have := (al c hc).2
        show (Char.ofNat c).toNat = c
        exact sign_back (by omega)
      rw [List.map_congr_left this]
      simp
    · by_cases h1 : z.length = 1
      · exact .inl (by omega)
      · refine .inr ?_
        unfold Nought at g4
        generalize z.cps.toList = cs at *
        match cs, hl with
        | c :: r, hl =>
          refine ⟨c, r, rfl, ?_⟩
          have := (al c (by simp)).1
          by_cases e : c = 48
          · subst e
            exact absurd ⟨rfl, by omega⟩ g4
          · omega
        | [], hl => simp at hl; omega
  · cases h
theorem num_inj {a b : Nat} (h : numS (a : Int) = numS (b : Int)) : a = b := by rw [← num_val a, h, num_val]
def ofL (l : List Nat) : Str := ⟨l.toArray⟩
theorem ofL_list (l : List Nat) : (ofL l).cps.toList = l := rfl
theorem ofL_self (z : Str) : ofL z.cps.toList = z := str_ext rfl
def slash : Str := Str.ofString "/"
theorem slash_eq : slash = sg 47 := by decide +kernel
theorem slash_list : slash.cps.toList = [47] := by decide +kernel
theorem minus_list : (Str.ofString "-").cps.toList = [45] := by decide +kernel
theorem part_of (x : Str) : (Txt.partition x slash = (x, Str.empty, Str.empty) ∧ 47 ∉ x.cps.toList) ∨ ∃ a b : List Nat, x.cps.toList = a ++ 47 :: b ∧ 47 ∉ a ∧ Txt.partition x slash = (ofL a, slash, ofL b) := by
  rw [slash_eq]
  rcases partition_whole x (sg 47) with ⟨h, hn⟩ | ⟨i, h, hi, hn⟩
  · refine .inl ⟨h, fun hm => ?_⟩
    obtain ⟨i, hi⟩ := (mem_iff_at x 47).mp hm
    exact hn i hi
  · have hx : x.cps.toList[i]? = some 47 := (StrLaws.subAt_one x 47 i).mp hi
    have hl : i < x.cps.toList.length := (List.getElem?_eq_some_iff.mp hx).1
    refine .inr ⟨x.cps.toList.take i, x.cps.toList.drop (i + 1), ?_, fun hm => ?_, ?_⟩
    · have := List.take_append_drop i x.cps.toList
      rw [List.drop_eq_getElem_cons hl] at this
      rw [(List.getElem?_eq_some_iff.mp hx).2] at this
      exact this.symm
    · obtain ⟨k, hk⟩ := List.mem_iff_getElem?.mp hm
      have kl : k < i := by
        have := (List.getElem?_eq_some_iff.mp hk).1
        rw [List.length_take] at this
        omega
      rw [List.getElem?_take_of_lt kl] at hk
      exact hn k kl ((StrLaws.subAt_one x 47 k).mpr hk)
    · rw [h]
      have e1 : Builtin.Str.strSub x 0 i = ofL (x.cps.toList.take i) := str_ext (by
        show (x.cps.extract 0 i).toList = _
        rw [Array.toList_extract]
        simp [ofL, List.extract_eq_drop_take])
      have e2 : Builtin.Str.strSub x (i + (sg 47).length) x.length = ofL (x.cps.toList.drop (i + 1)) := str_ext (by
        show (x.cps.extract (i + 1) x.cps.size).toList = _
        rw [Array.toList_extract]
        simp only [ofL, List.extract_eq_drop_take]
        exact List.take_of_length_le (by rw [List.length_drop, Array.length_toList]; omega))
      rw [e1, e2]
theorem cut_uniq {c : Nat} : ∀ {a a' b b' : List Nat}, a ++ c :: b = a' ++ c :: b' → c ∉ a → c ∉ a' → a = a' ∧ b = b'
  | [], [], b, b', h, _, _ => by
    injection h with _ h
    exact ⟨rfl, h⟩
  | [], x :: a', b, b', h, _, n => by
    injection h with h _
    exact absurd (by rw [h]; simp) n
  | x :: a, [], b, b', h, n, _ => by
    injection h with h _
    exact absurd (by rw [h]; simp) n
  | x :: a, y :: a', b, b', h, n, n' => by
    injection h with h1 h2
    obtain ⟨e1, e2⟩ := cut_uniq h2 (fun z => n (List.mem_cons_of_mem _ z)) fun z => n' (List.mem_cons_of_mem _ z)
    exact ⟨by rw [h1, e1], e2⟩
def Below (h : Str) : Prop := h.cps.toList[0]? = some 45
instance (h : Str) : Decidable (Below h) := by unfold Below; exact inferInstance
def figF (h : Str) : Str := if Below h then ofL (h.cps.toList.drop 1) else h
def fracF (z : Str) : Option (Int × Int) :=
  match wordN 40 (figF (Txt.partition z slash).1), (if (Txt.partition z slash).2.1 = slash then wordN 40 (Txt.partition z slash).2.2 else some 1) with
  | some n, some b => if (Below (Txt.partition z slash).1 ∧ n = 0) ∨ ((Txt.partition z slash).2.1 = slash ∧ (b < 2 ∨ dv n b ≠ 1)) then none else some (if Below (Txt.partition z slash).1 then 0 - n else n, b)
  | _, _ => none
def fracS (q : Int × Int) : Str := if q.2 = 1 then numS q.1 else numS q.1 ++ slash ++ numS q.2
theorem num_free (n : Int) : 47 ∉ (numS n).cps.toList := by
  have g : ∀ m : Nat, 47 ∉ (numS (m : Int)).cps.toList := fun m h => by
    have := (num_all m 47 h).1
    omega
  rcases Int.lt_or_le n 0 with h | h
  · obtain ⟨m, hm⟩ := Int.eq_ofNat_of_zero_le (show 0 ≤ -n by omega)
    have e : n = -(m : Int) := by omega
    rw [e, num_neg (by omega), app_list, minus_list]
    simp only [List.cons_append, List.nil_append, List.mem_cons]
    rintro (h | h)
    · omega
    · exact g m h
  · obtain ⟨m, hm⟩ := Int.eq_ofNat_of_zero_le h
    rw [hm]; exact g m
theorem below_num {n : Int} : Below (numS n) ↔ n < 0 := by
  rcases Int.lt_or_le n 0 with h | h
  · obtain ⟨m, hm⟩ := Int.eq_ofNat_of_zero_le (show 0 ≤ -n by omega)
    have e : n = -(m : Int) := by omega
    unfold Below
    rw [e, num_neg (by omega), app_list, minus_list]
    simp
    omega
  · obtain ⟨m, rfl⟩ := Int.eq_ofNat_of_zero_le h
    refine ⟨fun q => ?_, fun q => absurd q (by omega)⟩
    have := (num_all m 45 (List.mem_of_getElem? q)).1
    omega
theorem fig_num (n : Int) : figF (numS n) = numS (n.natAbs : Int) := by
  unfold figF
  rcases Int.lt_or_le n 0 with h | h
  · rw [if_pos (below_num.mpr h)]
    obtain ⟨m, hm⟩ := Int.eq_ofNat_of_zero_le (show 0 ≤ -n by omega)
    have e : n = -(m : Int) := by omega
    have e2 : n.natAbs = m := by omega
    rw [e2, e, num_neg (by omega), app_list, minus_list]
    exact ofL_self _
  · rw [if_neg (fun q => by have := below_num.mp q; omega)]
    have : (n.natAbs : Int) = n := by omega
    rw [this]
theorem part_num (n : Int) : Txt.partition (numS n) slash = (numS n, Str.empty, Str.empty) := by
  rcases part_of (numS n) with ⟨h, _⟩ | ⟨a, b, e, _, _⟩
  · exact h
  · exact absurd (by rw [e]; simp) (num_free n)
theorem part_frac (n d : Int) : Txt.partition (numS n ++ slash ++ numS d) slash = (numS n, slash, numS d) := by
  have e : (numS n ++ slash ++ numS d).cps.toList = (numS n).cps.toList ++ 47 :: (numS d).cps.toList := by rw [app_list, app_list, slash_list]; simp
  rcases part_of (numS n ++ slash ++ numS d) with ⟨_, h⟩ | ⟨a, b, e2, na, h⟩
  · exact absurd (by rw [e]; simp) h
  · rw [e] at e2
    obtain ⟨e3, e4⟩ := cut_uniq e2 (num_free n) na
    rw [h, ← e3, ← e4, ofL_self, ofL_self]
theorem empty_slash : ¬ (Str.empty = slash) := by
  intro h
  have := congrArg (·.cps.toList) h
  simp only [slash_list] at this
  exact absurd this (by decide)
theorem frac_back {n d : Int} (h1 : 1 ≤ d) (hg : dv n d = 1) (hn : n.natAbs < 10 ^ 40) (hd : d < 10 ^ 40) : fracF (fracS (n, d)) = some (n, d) := by
  have wn : wordN 40 (figF (numS n)) = some (n.natAbs : Int) := by rw [fig_num]; exact word_num (by decide) hn
  have nb : ¬ (Below (numS n) ∧ (n.natAbs : Int) = 0) := fun ⟨a, b⟩ => by
    have := below_num.mp a
    omega
  have eb : (if Below (numS n) then 0 - (n.natAbs : Int) else (n.natAbs : Int)) = n := by
    by_cases h : n < 0
    · rw [if_pos (below_num.mpr h)]; omega
    · rw [if_neg (fun q => h (below_num.mp q))]; omega
  unfold fracS fracF
  simp only
  by_cases e : d = 1
  · rw [if_pos e, part_num]
    simp only [wn]
    rw [if_neg empty_slash]
    simp only
    rw [if_neg (fun q => q.elim nb fun q => empty_slash q.1), eb, e]
  · rw [if_neg e, part_frac]
    simp only [wn]
    obtain ⟨m, rfl⟩ := Int.eq_ofNat_of_zero_le (show 0 ≤ d by omega)
    have wd : wordN 40 (numS (m : Int)) = some (m : Int) := word_num (by decide) (by exact_mod_cast hd)
    have ga : dv (n.natAbs : Int) (m : Int) = 1 := by
      rw [← hg]
      rcases Int.natAbs_eq n with q | q
      · rw [← q]
      · rw [show (n.natAbs : Int) = -n by omega, dv_negl]
    rw [if_pos trivial, wd]
    simp only
    rw [if_neg (fun q => q.elim nb fun q => q.2.elim (fun q => by omega) fun q => q ga), eb]
theorem top_back {h : Str} {n : Int} (hn : wordN 40 (figF h) = some n) : (Below h ∧ n = 0) ∨ (¬ (Below h ∧ n = 0) ∧ numS (if Below h then -n else n) = h) := by
  have e := num_word hn
  have n0 := wordN_nn hn
  unfold figF at e
  by_cases b : Below h
  · rw [if_pos b] at e
    by_cases z : n = 0
    · exact .inl ⟨b, z⟩
    · refine .inr ⟨fun q => z q.2, ?_⟩
      rw [if_pos b]
      obtain ⟨m, rfl⟩ := Int.eq_ofNat_of_zero_le n0
      rw [num_neg (by omega), e]
      refine str_ext ?_
      rw [app_list, minus_list, ofL_list]
      unfold Below at b
      generalize h.cps.toList = l at b
      match l, b with
      | c :: r, b =>
        have : c = 45 := by simpa using b
        rw [this]; rfl
  · rw [if_neg b] at e
    exact .inr ⟨fun q => b q.1, by rw [if_neg b]; exact e⟩
theorem abs_dv (n d : Int) : dv (n.natAbs : Int) d = dv n d := by
  rcases Int.natAbs_eq n with q | q
  · rw [← q]
  · rw [show (n.natAbs : Int) = -n by omega, dv_negl]
theorem if_dv {p : Prop} [Decidable p] (n d : Int) : dv (if p then -n else n) d = dv n d := by
  split
  · rw [dv_negl]
  · rfl
theorem fr_of {n d : Int} (h1 : 1 ≤ d) (h : dv n d = 1) : Fr n d := ⟨by omega, h⟩
theorem frac_read {z : Str} {n b : Int} (hn : wordN 40 (figF (Txt.partition z slash).1) = some n) (hb : (if (Txt.partition z slash).2.1 = slash then wordN 40 (Txt.partition z slash).2.2 else some 1) = some b) (b0 : b ≠ 0) :
    fracF z = if fracS (rN (if Below (Txt.partition z slash).1 then -n else n) b, rD (if Below (Txt.partition z slash).1 then -n else n) b) = z then some (rN (if Below (Txt.partition z slash).1 then -n else n) b, rD (if Below (Txt.partition z slash).1 then -n else n) b) else none := by
  have tb := top_back hn
  have n0 := wordN_nn hn
  unfold fracF
  rw [hn, hb]
  simp only
  rcases part_of z with ⟨e, hz⟩ | ⟨a, b', ez, na, e⟩
  · rw [e] at tb hb ⊢
    simp only at tb hb ⊢
    rw [if_neg empty_slash] at hb
    cases hb
    have f1 : Fr (if Below z then -n else n) 1 := fr_of (by decide) (by rw [if_dv]; unfold dv; simp)
    obtain ⟨e1, e2⟩ := rat_uniq (t := if Below z then -n else n) (b := 1) (by decide) f1 (by omega)
    rw [e1, e2]
    unfold fracS
    simp only [if_true]
    rcases tb with ⟨q1, q2⟩ | ⟨q1, q2⟩
    · rw [if_pos (.inl ⟨q1, q2⟩), if_neg]
      intro q
      rw [← q] at q1
      have := below_num.mp q1
      subst q2
      split at this <;> omega
    · rw [if_neg (fun q => q.elim q1 fun q => empty_slash q.1), if_pos q2]
      congr 2
      split <;> omega
  · rw [e] at tb hb ⊢
    simp only at tb hb ⊢
    rw [if_pos trivial] at hb
    have hw := num_word hb
    have bn := wordN_nn hb
    by_cases c : (Below (ofL a) ∧ n = 0) ∨ (b < 2 ∨ dv n b ≠ 1)
    · rw [if_pos (c.imp id fun q => ⟨trivial, q⟩), if_neg]
      intro q
      generalize ht : (if Below (ofL a) then -n else n) = tp at q
      have fr := rat_fr (t := tp) (b := b) b0
      generalize rN tp b = rn at q fr
      generalize rD tp b = rd at q fr
      have fd : 0 < rd := fr.1
      have fl : dv rn rd = 1 := fr.low
      unfold fracS at q
      simp only at q
      by_cases r1 : rd = 1
      · rw [if_pos r1] at q
        exact num_free rn (by rw [q, ez]; simp)
      · rw [if_neg r1] at q
        have e3 := part_frac rn rd
        rw [q, e] at e3
        injection e3 with e3 e4
        injection e4 with _ e4
        rw [e3] at c
        rw [e] at hn
        simp only at hn
        rw [e3, fig_num] at hn
        rw [← hw] at e4
        have en := num_word hn
        obtain ⟨m, rfl⟩ := Int.eq_ofNat_of_zero_le n0
        obtain ⟨k, rfl⟩ := Int.eq_ofNat_of_zero_le bn
        obtain ⟨r, rfl⟩ := Int.eq_ofNat_of_zero_le (Int.le_of_lt fd)
        have ek : k = r := num_inj e4
        have em : m = rn.natAbs := num_inj en
        rcases c with ⟨c1, c2⟩ | c | c
        · have := below_num.mp c1
          omega
        · omega
        · refine c ?_
          rw [em, ek, abs_dv]; exact fl
    · have c' : ¬ (Below (ofL a) ∧ n = 0) ∧ ¬ b < 2 ∧ dv n b = 1 := ⟨fun q => c (.inl q), fun q => c (.inr (.inl q)), Classical.byContradiction fun q => c (.inr (.inr q))⟩
      obtain ⟨c1, c2, c3⟩ := c'
      rw [if_neg (fun q => q.elim c1 fun q => q.2.elim c2 fun q => q c3)]
      have tb : numS (if Below (ofL a) then -n else n) = ofL a := by
        rcases tb with q | q
        · exact absurd q c1
        · exact q.2
      have f1 : Fr (if Below (ofL a) then -n else n) b := fr_of (by omega) (by rw [if_dv]; exact c3)
      obtain ⟨e1, e2⟩ := rat_uniq (t := if Below (ofL a) then -n else n) (b := b) b0 f1 (Int.mul_comm _ _)
      have key : fracS (if Below (ofL a) then -n else n, b) = z := by
        unfold fracS
        simp only
        rw [if_neg (show ¬ b = 1 by omega), tb, hw]
        refine str_ext ?_
        rw [app_list, app_list, slash_list, ez]
        simp [ofL]
      rw [e1, e2, if_pos key]
      congr 2
      split <;> omega
theorem frac_none1 {z : Str} (h : wordN 40 (figF (Txt.partition z slash).1) = none) : fracF z = none := by
  unfold fracF
  rw [h]
theorem frac_none2 {z : Str} (h : (if (Txt.partition z slash).2.1 = slash then wordN 40 (Txt.partition z slash).2.2 else some 1) = none) : fracF z = none := by
  unfold fracF
  rw [h]
  split
  · rename_i q; cases q
  · rfl
theorem frac_none3 {z : Str} (hs : (Txt.partition z slash).2.1 = slash) (h : wordN 40 (Txt.partition z slash).2.2 = some 0) : fracF z = none := by
  unfold fracF
  rw [if_pos hs, h]
  cases wordN 40 (figF (Txt.partition z slash).1) with
  | none => rfl
  | some n => simp only; rw [if_pos (.inr ⟨hs, .inl (by decide)⟩)]
theorem starts_below (z : Str) : Txt.startswith z (Str.ofString "-") = decide (Below z) := by
  have e : Str.ofString "-" = ⟨#[45]⟩ := by decide +kernel
  have h := StrLaws.subAt_one z 45 0
  rw [e]
  unfold Txt.startswith Below
  by_cases c : z.cps.toList[0]? = some 45
  · rw [decide_eq_true c]
    obtain ⟨h1, h2⟩ := h.mpr c
    rw [h2, decide_eq_true h1]; rfl
  · rw [decide_eq_false c]
    cases q : (decide (0 + (⟨#[45]⟩ : Str).length ≤ z.length) && Builtin.Str.subAt z ⟨#[45]⟩ 0) with
    | false => rfl
    | true =>
      rw [Bool.and_eq_true, decide_eq_true_eq] at q
      exact absurd (h.mp q) c
theorem slice_one (z : Str) : Txt.slice z (some 1) none = ofL (z.cps.toList.drop 1) := by
  by_cases h : 1 ≤ z.length
  · rw [slice_from_eq (b := (z.length : Int)) (by decide) (by omega) rfl]
    refine str_ext ?_
    show (z.cps.toList.drop 1).take _ = _
    exact List.take_of_length_le (by rw [List.length_drop, len_list]; omega)
  · rw [slice_beyond (by omega)]
    refine str_ext ?_
    have : z.cps.toList.length ≤ 1 := by rw [len_list]; omega
    rw [ofL_list, List.drop_of_length_le this]; rfl
theorem slice_head (z : Str) : Txt.slice z none (some 1) = Str.ofString "-" ↔ Below z := by
  have e : Str.ofString "-" = sg 45 := by decide +kernel
  rw [e]
  by_cases h : 1 ≤ z.length
  · have q : Txt.slice z none (some 1) = _ := beq_iff_eq.mp (slice_closes_to (x := z) (j := 1) ⟨by decide, by rw [len_list]; omega⟩)
    rw [q]
    unfold Below
    have hl : z.cps.toList.length ≥ 1 := by rw [len_list]; exact h
    generalize z.cps.toList = l at hl
    match l, hl with
    | c :: r, _ =>
      refine ⟨fun e => ?_, fun e => ?_⟩
      · have := congrArg (·.cps.toList) e
        simp [sg] at this
        rw [this]; rfl
      · have : c = 45 := by simpa using e
        rw [this]; rfl
  · refine ⟨fun q => ?_, fun q => ?_⟩
    · have := Txt.slice_le z none (some 1)
      rw [q] at this
      have e2 : (sg 45).length = 1 := rfl
      omega
    · unfold Below at q
      have := (List.getElem?_eq_some_iff.mp q).1
      rw [len_list] at this
      omega
theorem fig_len (z : Str) : (figF z).length ≤ z.length := by
  unfold figF
  split
  · rw [← len_list, ofL_list, List.length_drop, len_list]; omega
  · exact Nat.le_refl _
theorem part_len (z y : Str) : (Txt.partition z y).1.length ≤ z.length ∧ (Txt.partition z y).2.1.length ≤ z.length ∧ (Txt.partition z y).2.2.length ≤ z.length := by
  have e := congrArg PySem.Str.length (StrLaws.partition_sum z y)
  rw [app_len, app_len] at e
  omega
theorem part_sep (z : Str) : (Txt.partition z slash).2.1 = slash ∨ (Txt.partition z slash).2.1 = Str.empty := by
  rcases part_of z with ⟨e, _⟩ | ⟨_, _, _, _, e⟩
  · rw [e]; exact .inr rfl
  · rw [e]; exact .inl rfl
theorem Ok.parts {z : Str} (h : Ok z) (y : Str) : Ok (Txt.partition z y).1 ∧ Ok (Txt.partition z y).2.1 ∧ Ok (Txt.partition z y).2.2 := by
  have e := congrArg (fun x : Str => x.cps.toList) (StrLaws.partition_sum z y)
  simp only [app_list] at e
  refine ⟨fun c hc => h c ?_, fun c hc => h c ?_, fun c hc => h c ?_⟩ <;> rw [← e] <;> simp [hc]
theorem Ok.fig {z : Str} (h : Ok z) : Ok (figF z) := by
  unfold figF
  split
  · exact fun c hc => h c (List.mem_of_mem_drop hc)
  · exact h
theorem digits_lt : ∀ (n : Nat) (cs : List Nat), cs.length = n → NumText.AllDigits cs → NumText.digitsVal cs < 10 ^ n
  | 0, cs, h, _ => by
    rw [List.length_eq_zero_iff.mp h]
    decide
  | n + 1, cs, hl, h => by
    have hne : cs ≠ [] := by intro e; rw [e] at hl; simp at hl
    have e := List.dropLast_concat_getLast hne
    generalize cs.dropLast = ini at e
    generalize cs.getLast hne = c at e
    subst e
    have ih := digits_lt n ini (by rw [List.length_append, List.length_singleton] at hl; omega) fun d hd => h d (List.mem_append_left _ hd)
    have hc := (h c (List.mem_append_right _ (List.mem_singleton.mpr rfl))).2
    rw [NumText.digitsVal_snoc, Nat.pow_succ]
    omega
theorem word_lt {k : Nat} {z : Str} {n : Int} (h : wordN k z = some n) : n < 10 ^ k := by
  unfold wordN at h
  split at h
  · rename_i g
    cases h
    have h1 := digits_lt z.length z.cps.toList (len_list z) fun c hc => dig_iff.mp (g.2.2.1 c hc)
    have h2 : 10 ^ z.length ≤ 10 ^ k := Nat.pow_le_pow_right (by decide) g.2.1
    have h3 : NumText.digitsVal z.cps.toList < 10 ^ k := Nat.lt_of_lt_of_le h1 h2
    exact_mod_cast h3
  · cases h
end Sw
local macro_rules | `(tactic| walk_at "rd") => `(tactic| try simp only [L2.tAsg, L2.tOp, L2.tUn, L2.gName, L2.tVar, L2.tC, L2.rI, L2.rI0, L2.rU, L2.rEq, L2.rNe, L2.scal, L2.tTest, L2.tIfS, L2.tRet, L2.tRetN, L2.tNext, L2.tDrop, L2.tCB, L2.tCons, L2.tNil, L2.tCall, L2.tAndV, L2.tOrV, L2.tNotV, L2.tAnd, L2.tOr, L2.tNot, L2.tB, L2.tIf, L2.tChain, L2.tTup, L2.tLst, L2.tBM, L2.tBM0, L2.tComp_eq, L2.tCallX, L2.tCallN, L2.tDGet, L2.tDGet1, L2.tDGet2, L2.sDPut, L2.tDIn, L2.tDNotIn, L2.tDSd, L2.tDNewK, L2.tTru, L2.tFld_eq, L2.sFld_eq, L2.tMethX_eq, L2.tMakeX, L2.tXmk, L2.tXmk1, L2.tRaise, L2.tTry, L2.tTryAs, L2.hkOf, L2.iList, L2.iTup, L2.iEnum, L2.iRng1, L2.iRng2, L2.iRng3, L2.iEnum1, L2.iRev, L2.tSl, L2.tPart, L2.tNoPart, L2.gTup, L2.gCons, L2.gNil, L2.spInt1, L2.spInt2, L2.spWhole,
  List.getElem?_cons_zero, List.getElem?_cons_succ, List.set_cons_zero, List.set_cons_succ, List.cons_append, List.nil_append, List.append_nil, Option.some.injEq, L2.V.int.injEq, L2.V.bl.injEq, L2.V.ref.injEq, L2.V.str.injEq, List.cons.injEq, exists_eq_left', exists_eq_left, exists_eq_right, exists_and_left, exists_and_right, and_true, true_and, and_self, exists_const, exists_eq, exists_eq', and_assoc, decide_eq_true_eq, Bool.not_eq_true', Bool.not_true, Bool.not_false, Bool.false_eq_true, Bool.true_eq_false, if_true, if_false, decide_eq_false_iff_not, ite_not, ↓reduceIte, Int.reduceLT, Int.reduceLE, Int.reducePow, Int.reduceMul, Int.reduceAdd, Int.reduceSub, Int.reduceNeg, Int.reduceToNat, Int.reduceEq, Int.reduceNe, L2.CPow, L2.cmulL_lit, L2.line_lit, L2.line_lt, List.length_cons, List.length_nil, Nat.reduceAdd, Nat.zero_add, L2.cdivL_lit, Int.natAbs_natCast, Int.natAbs_neg, Nat.reducePow, Nat.reduceLT, Nat.reduceLeDiff, Int.natAbs, L2.tPar, ne_eq, not_false_eq_true, not_true_eq_false])
local macro_rules | `(tactic| walk_at "rds") => `(tactic| try simp only [L2.tSeq, L2.tAsg, L2.tOp, L2.tUn, L2.gName, L2.tVar, L2.tC, L2.rI, L2.rI0, L2.rU, L2.rEq, L2.rNe, L2.scal, L2.tTest, L2.tIfS, L2.tRet, L2.tRetN, L2.tNext, L2.tDrop, L2.tCB, L2.tCons, L2.tNil, L2.tCall, L2.tAndV, L2.tOrV, L2.tNotV, L2.tAnd, L2.tOr, L2.tNot, L2.tB, L2.tIf, L2.tChain, L2.tTup, L2.tLst, L2.tBM, L2.tBM0, L2.tComp_eq, L2.tCallX, L2.tCallN, L2.tDGet, L2.tDGet1, L2.tDGet2, L2.sDPut, L2.tDIn, L2.tDNotIn, L2.tDSd, L2.tDNewK, L2.tTru, L2.tFld_eq, L2.sFld_eq, L2.tMethX_eq, L2.tMakeX, L2.tXmk, L2.tXmk1, L2.tRaise, L2.tTry, L2.tTryAs, L2.hkOf, L2.iList, L2.iTup, L2.iEnum, L2.iRng1, L2.iRng2, L2.iRng3, L2.iEnum1, L2.iRev, L2.tSl, L2.tPart, L2.tNoPart, L2.gTup, L2.gCons, L2.gNil, L2.spInt1, L2.spInt2, L2.spWhole,
  List.getElem?_cons_zero, List.getElem?_cons_succ, List.set_cons_zero, List.set_cons_succ, List.cons_append, List.nil_append, List.append_nil, Option.some.injEq, L2.V.int.injEq, L2.V.bl.injEq, L2.V.ref.injEq, L2.V.str.injEq, List.cons.injEq, exists_eq_left', exists_eq_left, exists_eq_right, exists_and_left, exists_and_right, and_true, true_and, and_self, exists_const, exists_eq, exists_eq', and_assoc, decide_eq_true_eq, Bool.not_eq_true', Bool.not_true, Bool.not_false, Bool.false_eq_true, Bool.true_eq_false, if_true, if_false, decide_eq_false_iff_not, ite_not, ↓reduceIte, Int.reduceLT, Int.reduceLE, Int.reducePow, Int.reduceMul, Int.reduceAdd, Int.reduceSub, Int.reduceNeg, Int.reduceToNat, Int.reduceEq, Int.reduceNe, L2.CPow, L2.cmulL_lit, L2.line_lit, L2.line_lt, List.length_cons, List.length_nil, Nat.reduceAdd, Nat.zero_add, L2.cdivL_lit, Int.natAbs_natCast, Int.natAbs_neg, Nat.reducePow, Nat.reduceLT, Nat.reduceLeDiff, Int.natAbs, L2.tPar, ne_eq, not_false_eq_true, not_true_eq_false])
namespace K81
open PySem L2 PyProof.Rows
def top (i : Nat) : Stmt := PySem.Challenge.pw_sharewheel_k81_fractions_written.main.body.getD i (.Pass ⟨0, 0, 0, 0⟩)
abbrev s_divisor : Stmt := top 5
abbrev s_ratio : Stmt := top 6
abbrev s_figures_of : Stmt := top 10
abbrev s_show_fraction : Stmt := top 11
abbrev s_read_figures : Stmt := top 12
abbrev s_read_top : Stmt := top 13
abbrev s_read_bottom : Stmt := top 14
abbrev s_read_fraction : Stmt := top 15
abbrev s__law_cell_at : Stmt := top 17
abbrev s__law_divisor : Stmt := top 18
abbrev s__law_number : Stmt := top 19
abbrev s__law_due : Stmt := top 20
abbrev s__law_read : Stmt := top 21
abbrev s__law_pair : Stmt := top 22
abbrev s__law_right : Stmt := top 23
abbrev s__law_odd : Stmt := top 24
abbrev s__law_changed : Stmt := top 25
abbrev s_law : Stmt := top 26
theorem sc_divisor : FnScope ["one", "other", "great", "small", "rest"] ["one", "other"] (defScope s_divisor) := ⟨rfl, rfl, rfl, by decide +kernel, rfl, by decide +kernel, by decide +kernel⟩
theorem sc_ratio : FnScope ["top", "bottom", "common"] ["top", "bottom"] (defScope s_ratio) := ⟨rfl, rfl, rfl, by decide +kernel, rfl, by decide +kernel, by decide +kernel⟩
theorem sc_figures_of : FnScope ["number", "part", "written"] ["number"] (defScope s_figures_of) := ⟨rfl, rfl, rfl, by decide +kernel, rfl, by decide +kernel, by decide +kernel⟩
theorem sc_show_fraction : FnScope ["one", "sign", "top"] ["one"] (defScope s_show_fraction) := ⟨rfl, rfl, rfl, by decide +kernel, rfl, by decide +kernel, by decide +kernel⟩
theorem sc_read_figures : FnScope ["word", "most"] ["word", "most"] (defScope s_read_figures) := ⟨rfl, rfl, rfl, by decide +kernel, rfl, by decide +kernel, by decide +kernel⟩
theorem sc_read_top : FnScope ["word"] ["word"] (defScope s_read_top) := ⟨rfl, rfl, rfl, by decide +kernel, rfl, by decide +kernel, by decide +kernel⟩
theorem sc_read_bottom : FnScope ["word", "bottom"] ["word"] (defScope s_read_bottom) := ⟨rfl, rfl, rfl, by decide +kernel, rfl, by decide +kernel, by decide +kernel⟩
theorem sc_read_fraction : FnScope ["word", "parts", "one"] ["word"] (defScope s_read_fraction) := ⟨rfl, rfl, rfl, by decide +kernel, rfl, by decide +kernel, by decide +kernel⟩
theorem sc__law_cell_at : FnScope ["_law_script", "_law_k"] ["_law_script", "_law_k"] (defScope s__law_cell_at) := ⟨rfl, rfl, rfl, by decide +kernel, rfl, by decide +kernel, by decide +kernel⟩
theorem sc__law_divisor : FnScope ["_law_one", "_law_other"] ["_law_one", "_law_other"] (defScope s__law_divisor) := ⟨rfl, rfl, rfl, by decide +kernel, rfl, by decide +kernel, by decide +kernel⟩
theorem sc__law_number : FnScope ["_law_figures"] ["_law_figures"] (defScope s__law_number) := ⟨rfl, rfl, rfl, by decide +kernel, rfl, by decide +kernel, by decide +kernel⟩
theorem sc__law_due : FnScope ["_law_word", "_law_head", "_law_sign", "_law_tail", "_law_below", "_law_top", "_law_bottom"] ["_law_word"] (defScope s__law_due) := ⟨rfl, rfl, rfl, by decide +kernel, rfl, by decide +kernel, by decide +kernel⟩
theorem sc__law_read : FnScope ["_law_word", "_law_found", "e"] ["_law_word"] (defScope s__law_read) := ⟨rfl, rfl, rfl, by decide +kernel, rfl, by decide +kernel, by decide +kernel⟩
theorem sc__law_pair : FnScope ["_law_found"] ["_law_found"] (defScope s__law_pair) := ⟨rfl, rfl, rfl, by decide +kernel, rfl, by decide +kernel, by decide +kernel⟩
theorem sc__law_right : FnScope ["_law_word", "_law_due_here", "_law_found"] ["_law_word"] (defScope s__law_right) := ⟨rfl, rfl, rfl, by decide +kernel, rfl, by decide +kernel, by decide +kernel⟩
theorem sc__law_odd : FnScope ["_law_cell", "_law_some"] ["_law_cell"] (defScope s__law_odd) := ⟨rfl, rfl, rfl, by decide +kernel, rfl, by decide +kernel, by decide +kernel⟩
theorem sc__law_changed : FnScope ["_law_word", "_law_cell", "_law_at", "_law_sign"] ["_law_word", "_law_cell"] (defScope s__law_changed) := ⟨rfl, rfl, rfl, by decide +kernel, rfl, by decide +kernel, by decide +kernel⟩
theorem sc_law : FnScope ["_law_script", "_law_top", "_law_bottom", "_law_way", "_law_shared", "_law_one", "_law_word", "_law_cell", "_law_changed_here", "_law_again"] ["_law_script"] (defScope s_law) := ⟨rfl, rfl, rfl, by decide +kernel, rfl, by decide +kernel, by decide +kernel⟩
structure Txt (K : PySem.W.Frag) (mg : Str → Option Value) (c_WheelError : Addr) (c_NoText : Addr) : Prop where
  mg_WheelError : mg "WheelError" = some (.ref c_WheelError)
  xc_WheelError : XC K c_WheelError
  kp_WheelError : PySem.W.keepIn K (.ref c_WheelError) = true
  ex_WheelError : PySem.W.excIn K c_WheelError bmV "ValueError.__new__" = true
  mg_NoText : mg "NoText" = some (.ref c_NoText)
  xc_NoText : XC K c_NoText
  kp_NoText : PySem.W.keepIn K (.ref c_NoText) = true
  ex_NoText : PySem.W.excIn K c_NoText bmV "ValueError.__new__" = true
  sub_NoText_WheelError : PySem.W.subIn K (.ref c_NoText) (.ref c_WheelError) = some true
  kit_NoText_WheelError : PySem.W.kitOne K (.ref c_NoText) (.ref c_WheelError) = some true
  sub_NoText_NoText : PySem.W.subIn K (.ref c_NoText) (.ref c_NoText) = some true
  kit_NoText_NoText : PySem.W.kitOne K (.ref c_NoText) (.ref c_NoText) = some true
  kit_NoText_ValueError : PySem.W.kitOne K (.ref c_NoText) (.type "ValueError") = some true
  no_abs : mg "abs" = none
  no_reversed : mg "reversed" = none
  no_str : mg "str" = none
  no_int : mg "int" = none
  no_all : mg "all" = none
  no_len : mg "len" = none
  no_isinstance : mg "isinstance" = none
  no_bool : mg "bool" = none
  no_tuple : mg "tuple" = none
  mg_FIGURES : ∃ t, mg "FIGURES" = some (.str (Str.ofString "0123456789") t)
  mg_MOST_FRACTION_FIGURES : ∃ t, mg "MOST_FRACTION_FIGURES" = some (.int 40 t)
  src_divisor : Src K mg "divisor" s_divisor ["one", "other"]
  src_ratio : Src K mg "ratio" s_ratio ["top", "bottom"]
  src_figures_of : Src K mg "figures_of" s_figures_of ["number"]
  src_show_fraction : Src K mg "show_fraction" s_show_fraction ["one"]
  src_read_figures : Src K mg "read_figures" s_read_figures ["word", "most"]
  src_read_top : Src K mg "read_top" s_read_top ["word"]
  src_read_bottom : Src K mg "read_bottom" s_read_bottom ["word"]
  src_read_fraction : Src K mg "read_fraction" s_read_fraction ["word"]
  src__law_cell_at : Src K mg "_law_cell_at" s__law_cell_at ["_law_script", "_law_k"]
  src__law_divisor : Src K mg "_law_divisor" s__law_divisor ["_law_one", "_law_other"]
  src__law_number : Src K mg "_law_number" s__law_number ["_law_figures"]
  src__law_due : Src K mg "_law_due" s__law_due ["_law_word"]
  src__law_read : Src K mg "_law_read" s__law_read ["_law_word"]
  src__law_pair : Src K mg "_law_pair" s__law_pair ["_law_found"]
  src__law_right : Src K mg "_law_right" s__law_right ["_law_word"]
  src__law_odd : Src K mg "_law_odd" s__law_odd ["_law_cell"]
  src__law_changed : Src K mg "_law_changed" s__law_changed ["_law_word", "_law_cell"]
section
variable {P : Program} {w : World} {K : PySem.W.Frag} {mg : Str → Option Value} {base : Heap} {c_WheelError c_NoText : Addr}
theorem d_divisor (T : Txt K mg c_WheelError c_NoText) : Def P w K mg base (CXX P w) 1 "divisor" ["one", "other"] (spInt2 Sw.dv) := by
  refine T.src_divisor.okN (k := 0) sc_divisor (fun vs H Q E h => ?_) (fun f cdv A outer s H vs Q E hr h => ?_)
  · obtain ⟨a, b, rfl, _⟩ := h
    rfl
  · obtain ⟨a, b, rfl, k⟩ := h
    refine ⟨_, (pss_cons (ps_set (i := 2) sc_divisor.nd rfl (by first | exact Or.inl rfl | exact Or.inr rfl) (pe_callB call_abs rfl T.no_abs boot_abs (pa_cons (pv 0) pa_nil))) (pss_cons (ps_set (i := 3) sc_divisor.nd rfl (by first | exact Or.inl rfl | exact Or.inr rfl) (pe_callB call_abs rfl T.no_abs boot_abs (pa_cons (pv 1) pa_nil))) (pss_cons (ps_while PassesOwn.never (pt_cmpR op_ne (pv 3) pe_int (nomark _)) (pss_cons (ps_set (i := 4) sc_divisor.nd rfl (by first | exact Or.inl rfl | exact Or.inr rfl) (pe_op op_mod (pv 2) (pv 3))) (pss_cons (ps_set (i := 2) sc_divisor.nd rfl (by first | exact Or.inl rfl | exact Or.inr rfl) (pv 3)) (pss_one (ps_set (i := 3) sc_divisor.nd rfl (by first | exact Or.inl rfl | exact Or.inr rfl) (pv 4)))))) (pss_one (ps_ret (pv 2)))))), ?_⟩
    refine ⟨_, rfl, a, rfl, ?_⟩
    refine ⟨_, rfl, b, rfl, ?_⟩
    refine while_det (fun σ H' => H' = H ∧ ∃ g s r, σ = [some (.int a), some (.int b), some (.int g), some (.int s), r] ∧ 0 ≤ g ∧ 0 ≤ s ∧ Sw.dv g s = Sw.dv a b)
      (fun σ _ => match σ with | [_, _, _, some (.int s), _] => s.toNat | _ => 0) ⟨rfl, _, _, none, rfl, ?_, ?_, Sw.dv_abs a b⟩ ?_
    · split <;> omega
    · split <;> omega
    · rintro σ H' ⟨rfl, g, s, r, rfl, hg, hs, e⟩
      refine ⟨!decide (V.int s = V.int 0), fun Q hQ => ⟨_, rfl, rfl, _, rfl, hQ⟩, fun hb => ?_, fun hb => ?_⟩
      · have hs0 : s ≠ 0 := by intro z; subst z; simp at hb
        have hsp : 0 < s := by omega
        refine ⟨_, rfl, _, rfl, _, _, rfl, rfl, hsp, ?_⟩
        refine ⟨_, rfl, ?_⟩
        refine ⟨_, rfl, ?_⟩
        refine ⟨⟨rfl, s, g % s, _, rfl, hs, Int.emod_nonneg g hs0, by rw [Sw.dv_step]; exact e⟩, ?_⟩
        show (g % s).toNat < s.toNat
        have := Int.emod_lt_of_pos g hsp
        have := Int.emod_nonneg g hs0
        omega
      · have hs0 : s = 0 := by
          have : V.int s = V.int 0 := by simpa using hb
          exact V.int.inj this
        subst hs0
        rw [Sw.dv_zero g hg] at e
        refine ⟨_, rfl, ?_⟩
        show Q (.int g) H'
        rw [e]; exact k
def spRat : Sp := fun vs H Q _ => ∃ t b z, vs = [.int t, .int b] ∧ b ≠ 0 ∧ z ≤ 5000 ∧ Sw.Sz z b ∧ ∀ p, H p = none → Q (.ref p) (upd H p (.tup [.int (Sw.rN t b), .int (Sw.rD t b)]))
theorem d_ratio (T : Txt K mg c_WheelError c_NoText) : Def P w K mg base (CXX P w) 2 "ratio" ["top", "bottom"] spRat := by
  have D_divisor := d_divisor (P := P) (w := w) (base := base) T
  refine T.src_ratio.okN (k := 1) sc_ratio (fun vs H Q E h => ?_) (fun f cdv A outer s H vs Q E hr h => ?_)
  · obtain ⟨t, b, z, rfl, _⟩ := h
    rfl
  · obtain ⟨t, b, z, rfl, hb, z5, sb, k⟩ := h
    refine ⟨_, (pss_cons (ps_if (pt_cmpR op_eq (pv 1) pe_int (nomark _)) (pss_one ps_never) pss_nil) (pss_cons (ps_set (i := 2) sc_ratio.nd rfl (by first | exact Or.inl rfl | exact Or.inr rfl) (pe_callX D_divisor (hr.mono (by decide)) rfl passN (pa_cons (pv 0) (pa_cons (pv 1) pa_nil)))) (pss_cons (ps_if (pt_cmpR op_lt (pv 1) pe_int (nomark _)) (pss_one (ps_set (i := 2) sc_ratio.nd rfl (by first | exact Or.inl rfl | exact Or.inr rfl) (pe_un un_neg (pv 2)))) pss_nil) (pss_one (ps_ret (pe_tup (pa_cons (pe_op op_fdivS (pv 0) (pv 2)) (pa_cons (pe_op op_fdivS (pv 1) (pv 2)) pa_nil)))))))), ?_⟩
    show tSeq _ _ _ [some (.int t), some (.int b), none] H
    have hg : 0 < Sw.dv t b := Sw.dv_pos hb
    have hz : Sw.Sz 5000 (Sw.dv t b) := (sb.dvd (Sw.dv_r t b) hb).mono z5
    refine seq_step fun R hR => ?_
    walk_at "rd"
    refine iteN hb (hR _ _ ?_)
    refine seq_step fun R hR => ?_
    walk_at "rd"
    refine hR _ _ ?_
    refine seq_step fun R hR => ?_
    have fin : ∀ c : Int, (c = Sw.dv t b ∧ ¬ b < 0) ∨ (c = -(Sw.dv t b) ∧ b < 0) → R [some (.int t), some (.int b), some (.int c)] H := fun c hc => by
      refine hR _ _ ?_
      walk_at "rd"
      have c0 : c ≠ 0 := by rcases hc with ⟨e, _⟩ | ⟨e, _⟩ <;> omega
      have cz : Sw.Sz 5000 c := by
        rcases hc with ⟨e, _⟩ | ⟨e, _⟩
        · rw [e]; exact hz
        · rw [e]; exact hz.neg
      have d1 : c ∣ t := by
        rcases hc with ⟨e, _⟩ | ⟨e, _⟩
        · rw [e]; exact Sw.dv_l t b
        · rw [e]; exact Int.neg_dvd.mpr (Sw.dv_l t b)
      have d2 : c ∣ b := by
        rcases hc with ⟨e, _⟩ | ⟨e, _⟩
        · rw [e]; exact Sw.dv_r t b
        · rw [e]; exact Int.neg_dvd.mpr (Sw.dv_r t b)
      have e1 : t.fdiv c = Sw.rN t b := by
        rw [Int.fdiv_eq_ediv_of_dvd d1]
        unfold Sw.rN
        rcases hc with ⟨e, q⟩ | ⟨e, q⟩
        · rw [if_neg q, e]
        · rw [if_pos q, e]
      have e2 : b.fdiv c = Sw.rD t b := by
        rw [Int.fdiv_eq_ediv_of_dvd d2]
        unfold Sw.rD
        rcases hc with ⟨e, q⟩ | ⟨e, q⟩
        · rw [if_neg q, e]
        · rw [if_pos q, e]
      rw [e1, e2]
      exact ⟨⟨c0, cz⟩, ⟨c0, cz⟩, k⟩
    walk_at "rds"
    exact ite2 (fun c => fin _ (.inr ⟨rfl, c⟩)) fun c => fin _ (.inl ⟨rfl, c⟩)
def spDv : Sp := fun vs H Q _ => ∃ a b, vs = [.int a, .int b] ∧ 0 ≤ b ∧ Q (.int (Sw.dv a b)) H
theorem d__law_divisor (T : Txt K mg c_WheelError c_NoText) : Def P w K mg base (CXX P w) 1 "_law_divisor" ["_law_one", "_law_other"] spDv := by
  refine T.src__law_divisor.okN (k := 0) sc__law_divisor (fun vs H Q E h => ?_) (fun f cdv A outer s H vs Q E hr h => ?_)
  · obtain ⟨a, b, rfl, _⟩ := h
    rfl
  · obtain ⟨a, b, rfl, h2, k⟩ := h
    refine ⟨_, (pss_cons (ps_while PassesOwn.never (pt_cmpR op_ne (pv 1) pe_int (nomark _)) (pss_one (ps_par (i := 0) (j := 1) rfl sc__law_divisor.nd rfl rfl (by decide) rfl rfl (pa_cons (pv 1) (pa_cons (pe_op op_mod (pv 0) (pv 1)) pa_nil)) (by with_unfolding_all rfl)))) (pss_one (ps_ret (pe_callB call_abs rfl T.no_abs boot_abs (pa_cons (pv 0) pa_nil))))), ?_⟩
    refine while_det (fun σ H' => H' = H ∧ ∃ g s, σ = [some (.int g), some (.int s)] ∧ 0 ≤ s ∧ Sw.dv g s = Sw.dv a b)
      (fun σ _ => match σ with | [_, some (.int s)] => s.toNat | _ => 0) ⟨rfl, _, _, rfl, h2, rfl⟩ ?_
    rintro σ H' ⟨rfl, g, s, rfl, hs, e⟩
    refine ⟨!decide (V.int s = V.int 0), fun Q hQ => ⟨_, rfl, rfl, _, rfl, hQ⟩, fun hb => ?_, fun hb => ?_⟩
    · have hs0 : s ≠ 0 := by intro z; subst z; simp at hb
      have hsp : 0 < s := by omega
      refine ⟨_, rfl, _, rfl, _, rfl, _, _, rfl, rfl, hsp, _, _, rfl, ?_⟩
      refine ⟨⟨rfl, s, g % s, rfl, Int.emod_nonneg g hs0, by rw [Sw.dv_step]; exact e⟩, ?_⟩
      show (g % s).toNat < s.toNat
      have := Int.emod_lt_of_pos g hsp
      have := Int.emod_nonneg g hs0
      omega
    · have hs0 : s = 0 := by
        have : V.int s = V.int 0 := by simpa using hb
        exact V.int.inj this
      subst hs0
      have e' : (if g < 0 then -g else g) = Sw.dv a b := by
        rw [← e]
        split
        · rw [← Sw.dv_negl, Sw.dv_zero _ (by omega)]
        · rw [Sw.dv_zero _ (by omega)]
      walk_at "rd"
      rw [e']
      exact k
theorem d__law_cell_at (T : Txt K mg c_WheelError c_NoText) : Def P w K mg base (CXX P w) 1 "_law_cell_at" ["_law_script", "_law_k"] (spCell K) := by
  refine T.src__law_cell_at.okN (k := 0) sc__law_cell_at (fun vs H Q E h => ?_) (fun f cdv A outer s H vs Q E hr h => ?_)
  · obtain ⟨a, ns, i, rfl, _⟩ := h
    rfl
  · obtain ⟨a, ns, i, rfl, hS, hi, k⟩ := h
    refine ⟨_, (pss_cons (ps_if (pt_cmpR op_lt (pv 1) (pe_callB (call_lenK K rfl) rfl T.no_len boot_len (pa_cons (pv 0) pa_nil)) (nomark _)) (pss_one (ps_ret (pe_ix (ix_listK K rfl) (pv 0) (pv 1) (fun _ _ => rfl)))) pss_nil) (pss_one (ps_ret pe_int))), ?_⟩
    refine ⟨_, rfl, _, rfl, a, _, rfl, .inl hS, _, _, rfl, rfl, _, rfl, ?_⟩
    refine ite2 (fun h => ?_) (fun h => ?_)
    · have h' : i < (ns.map V.int).length := of_decide_eq_true h
      exact ⟨_, rfl, _, rfl, a, _, _, _, rfl, rfl, hS, cellAt_get hi (by simpa using h'), k⟩
    · have h' : ¬ i < (ns.map V.int).length := fun z => h (decide_eq_true z)
      show Q (.int 0) H
      rw [cellAt_none hi (by simpa using h')] at k
      exact k
abbrev Rs (c : Addr) (H : Hp) (E : XK) : Prop := ∀ e, H e = none → E (.ref e) none (upd H e (excO e c none false))
theorem rs_of {c : Addr} {H : Hp} {E : XK} (kx : Rs c H E) (xc : XC K c) : ∀ e, H e = none → ∃ x x1, upd H e (excO e c none true) e = some (excO e x x1 true) ∧ XC K x ∧ E (.ref e) x1 (upd (upd H e (excO e c none true)) e (excO e x x1 false)) := fun e he => ⟨c, none, upd_same, xc, by rw [upd_upd]; exact kx e he⟩
theorem lt_line {n : Nat} (h : n ≤ 1000000) : n < sizeLine := by rw [sizeLine_eq]; omega
theorem le_line {n : Nat} (h : n ≤ 1000000) : n ≤ sizeLine := Nat.le_of_lt (lt_line h)
theorem all_digs (z : Str) : ((z.cps.toList.map fun c => decide (c ∈ Sw.figs.cps.toList)).all id) = decide (Sw.Digs z) := by
  rw [Bool.eq_iff_iff, List.all_eq_true, decide_eq_true_eq]
  refine ⟨fun h c hc => ?_, fun h b hb => ?_⟩
  · have := h _ (List.mem_map.mpr ⟨c, hc, rfl⟩)
    simpa using this
  · obtain ⟨c, hc, rfl⟩ := List.mem_map.mp hb
    exact decide_eq_true (h c hc)
theorem take_get {α : Type} {l : List α} {i : Nat} {a : α} (h : l[i]? = some a) : l.take (i + 1) = l.take i ++ [a] := by
  obtain ⟨hi, e⟩ := List.getElem?_eq_some_iff.mp h
  rw [List.take_succ_eq_append_getElem hi, e]
def spFig (cT : Addr) : Sp := fun vs H Q E => ∃ (z : Str) (m : Int), vs = [.str z, .int m] ∧ 0 ≤ m ∧ m ≤ 600 ∧ z.length ≤ 10000 ∧ (∀ n, Sw.wordN m.toNat z = some n → ∀ H', Same H H' → Q (.int n) H') ∧ (Sw.wordN m.toNat z = none → ∀ H', Same H H' → Rs cT H' E)
theorem d_read_figures (T : Txt K mg c_WheelError c_NoText) : Def P w K mg base (CXX P w) 1 "read_figures" ["word", "most"] (spFig c_NoText) := by
  refine T.src_read_figures.okX (k := 0) sc_read_figures (fun vs H Q E h => ?_) (fun f cdv A outer s H vs Q E hr h => ?_)
  · obtain ⟨z, m, rfl, _⟩ := h
    rfl
  · obtain ⟨z, m, rfl, m0, m1, zl, k, kx⟩ := h
    refine ⟨_, (pss_cons (ps_if (PW.pt (pw_or (pt_not (pt_chain op_le op_le pe_int (pe_callB call_len_str rfl T.no_len boot_len (pa_cons (pv 0) pa_nil)) (pv 1))) (pw_or1 (pt_not (pt_val (pe_callB (call_allK K rfl rfl) rfl T.no_all boot_all (pa_cons (pe_lc ["sign"] [] rfl (by with_unfolding_all rfl) (by decide +kernel) rfl (by decide +kernel) (by exact True.intro) (by with_unfolding_all rfl) True.intro (pi_str (pv 0)) (fun _ _ _ => (pg_name (i := 0) (show (["sign"] : List Str).Nodup from by decide +kernel) rfl (by first | exact Or.inl rfl | exact Or.inr rfl))) (fun _ _ _ => pifs_nil) (fun _ _ _ => (pe_cmpR op_inS (pv 0) (pe_globS rfl T.mg_FIGURES) rfl))) pa_nil))))))) (pss_one (ps_raise K rfl rfl raiseF (pe_xmk T.ex_NoText T.kp_NoText rfl T.mg_NoText (pa_cons pe_str pa_nil)))) pss_nil) (pss_cons (ps_if (PW.pt (pw_and (pt_cmpR op_eq (pe_ix ix_str (pv 0) pe_int (fun _ _ => rfl)) pe_str (nomark _)) (pw_and1 (pt_cmpR op_ne (pv 0) pe_str (nomark _))))) (pss_one (ps_raise K rfl rfl raiseF (pe_xmk T.ex_NoText T.kp_NoText rfl T.mg_NoText (pa_cons pe_str pa_nil)))) pss_nil) (pss_one (ps_ret (pe_callTy call_intS rfl T.no_int boot_int (pa_cons (pv 0) pa_nil)))))), ?_⟩
    show tSeq _ _ _ [some (.str z), some (.int m)] H
    refine seq_step fun R hR => ?_
    walk_at "rd"
    refine ⟨le_line (by omega), ?_⟩
    have no : ∀ {H'}, Same H H' → ¬ (1 ≤ z.length ∧ z.length ≤ m.toNat ∧ Sw.Digs z ∧ ¬ Sw.Nought z) → ∀ e, H' e = none → ∃ x x1, upd H' e (excO e c_NoText none true) e = some (excO e x x1 true) ∧ XC K x ∧ E (.ref e) x1 (upd (upd H' e (excO e c_NoText none true)) e (excO e x x1 false)) := fun s n => rs_of (kx (Sw.wordN_no n) _ s) T.xc_NoText
    refine ite2 (fun l1 => ite2 (fun l2 => ?_) fun c => no (Same.refl _) fun y => c (by omega)) fun c => no (Same.refl _) fun y => c (by omega)
    simp only [iStr]
    walk_at "rd"
    intro D hD
    show CompG _ _ _ _ D [none] _ _
    refine comp_str (fun i τ H' => (∃ v, τ = [v]) ∧ Same H H' ∧ H' D = some (.lst (((z.cps.toList.take i).map fun c => decide (c ∈ Sw.figs.cps.toList)).map V.bl))) ⟨⟨none, rfl⟩, same_new hD, upd_same⟩ ?_ ?_
    · rintro i c τ H' hc ⟨⟨v, rfl⟩, s', hDl⟩
      walk_at "rd"
      simp only [tYes, if_true]
      walk_at "rd"
      have hi := (List.getElem?_eq_some_iff.mp hc).1
      rw [Sw.len_list] at hi
      refine ⟨sg c, Str.ofString "0123456789", rfl, rfl, ?_⟩
      refine ⟨_, hDl, lt_line (by rw [List.length_map, List.length_map, List.length_take]; omega), fun b o e => ?_, ?_⟩
      · rw [upd_ne (ne_of_none e hD)]; exact s' _ _ e
      · rw [upd_same, take_get hc, List.map_append, List.map_append]
        show some (HO.lst (_ ++ [V.bl (Txt.contains Sw.figs (sg c))])) = some (HO.lst (_ ++ [V.bl (decide (c ∈ Sw.figs.cps.toList))]))
        rw [Sw.in_figs c]
    · rintro τ H1 ⟨_, s1, hDl⟩
      rw [← Sw.len_list, List.take_length] at hDl
      refine ⟨D, _, rfl, .of hDl, _, rfl, ?_⟩
      rw [all_digs]
      refine ite2 (fun c => no s1 fun y => of_decide_eq_false c y.2.2.1) fun c => hR _ _ ?_
      have dg : Sw.Digs z := by simpa using c
      clear hR
      refine seq_step fun R hR => ?_
      obtain ⟨c0, hc0⟩ : ∃ c, z.cps.toList[0]? = some c := ⟨_, List.getElem?_eq_getElem (by rw [Sw.len_list]; omega)⟩
      have fin : ¬ Sw.Nought z → R [some (.str z), some (.int m)] H1 := fun nn => by
        refine hR _ _ ?_
        walk_at "rd"
        exact ⟨z, _, rfl, Sw.digs_text (by omega) (by omega) dg, by omega, k _ (Sw.wordN_yes ⟨by omega, by omega, dg, nn⟩) _ s1⟩
      clear hR
      walk_at "rd"
      refine ⟨z, 0, c0, rfl, rfl, le_line (by omega), atI_nat (j := 0) hc0, ?_⟩
      walk_at "rd"
      refine ite2 (fun c1 => ite2 (fun c2 => fin ?_) fun c2 => no s1 fun y => y.2.2.2 ⟨?_, ?_⟩) fun c1 => fin fun y => c1 ?_
      · intro y
        have := y.2
        rw [c2] at this
        exact absurd this (by decide +kernel)
      · have e : (Str.ofString "0").cps.toList = [c0] := Sw.sg_eq.mp c1
        rw [Sw.zero_list] at e
        cases e
        exact hc0
      · rcases Nat.lt_or_ge 1 z.length with h | h
        · exact h
        · refine absurd ?_ c2
          have e : (Str.ofString "0").cps.toList = [c0] := Sw.sg_eq.mp c1
          refine Sw.str_ext ?_
          rw [e]
          have hl := Sw.len_list z
          generalize z.cps.toList = l at hl hc0 ⊢
          match l, hl, hc0 with
          | [a], _, h0 => cases h0; rfl
          | [], _, h0 => cases h0
          | _ :: _ :: _, hl, _ => simp at hl; omega
      · have e := y.1
        rw [hc0] at e
        cases e
        exact Sw.sg_eq.mpr Sw.zero_list
def spFO : Sp := fun vs H Q _ => ∃ n : Nat, vs = [.int (n : Int)] ∧ n < 10 ^ 60 ∧ ∀ H', Same H H' → Q (.str (Sw.numS (n : Int))) H'
theorem log_lt {n : Nat} (h : n < 10 ^ 60) : (n : Int).natAbs.log2 < 1920 := by
  have h1 : n < 2 ^ 200 := Nat.lt_trans h (by decide)
  show n.log2 < 1920
  by_cases z : n = 0
  · rw [z]; decide
  · exact Nat.lt_trans ((Nat.log2_lt z).mpr h1) (by decide)
theorem d_figures_of (T : Txt K mg c_WheelError c_NoText) : Def P w K mg base (CXX P w) 1 "figures_of" ["number"] spFO := by
  refine T.src_figures_of.okN (k := 0) sc_figures_of (fun vs H Q E h => ?_) (fun f cdv A outer s H vs Q E hr h => ?_)
  · obtain ⟨n, rfl, _⟩ := h
    rfl
  · obtain ⟨n, rfl, hn, k⟩ := h
    refine ⟨_, (pss_cons (ps_set (i := 1) sc_figures_of.nd rfl (by first | exact Or.inl rfl | exact Or.inr rfl) (pe_op op_pow pe_int pe_int)) (pss_cons (ps_set (i := 2) sc_figures_of.nd rfl (by first | exact Or.inl rfl | exact Or.inr rfl) (pe_lst pa_nil)) (pss_cons (ps_while PassesOwn.never (pt_cmpR op_ge (pv 0) (pv 1) (nomark _)) (pss_cons (ps_expr (pe_bm PySem.F.plainAttrs_list PySem.F.slot_list_append PySem.F.type_list_append mt_append (pv 2) (pa_cons (pe_bm PySem.F.plainAttrs_str PySem.F.slot_str_zfill PySem.F.type_str_zfill mt_zfill (pe_callTy call_strI rfl T.no_str boot_str (pa_cons (pe_op op_mod (pv 0) (pv 1)) pa_nil)) (pa_cons pe_int pa_nil)) pa_nil))) (pss_one (ps_set (i := 0) sc_figures_of.nd rfl (by first | exact Or.inl rfl | exact Or.inr rfl) (pe_op op_fdivL (pv 0) (pv 1)))))) (pss_cons (ps_expr (pe_bm PySem.F.plainAttrs_list PySem.F.slot_list_append PySem.F.type_list_append mt_append (pv 2) (pa_cons (pe_callTy call_strI rfl T.no_str boot_str (pa_cons (pv 0) pa_nil)) pa_nil))) (pss_one (ps_ret (pe_joinRev K rfl rfl T.no_reversed pe_str (pa_cons (pv 2) pa_nil)))))))), ?_⟩
    show tSeq _ _ _ [some (.int (n : Int)), none, none] H
    refine seq_step fun R hR => ?_
    walk_at "rd"
    refine hR _ _ ?_
    clear hR
    refine seq_step fun R hR => ?_
    walk_at "rd"
    intro l hl
    refine hR _ _ ?_
    clear hR
    have s1 := same_new (o := .lst []) hl
    have h1 : upd H l (.lst []) l = some (.lst []) := upd_same
    generalize upd H l (.lst []) = H1 at s1 h1 ⊢
    refine seq_step fun R hR => ?_
    refine while_det (fun σ H' => σ = [some (.int (n : Int)), some (.int (10 ^ 60)), some (.ref l)] ∧ H' = H1) (fun _ _ => 0) ⟨rfl, rfl⟩ ?_
    rintro σ H' ⟨rfl, rfl⟩
    refine ⟨false, fun Q hQ => ?_, (fun hb => by cases hb), fun _ => hR _ _ ?_⟩
    · walk_at "rd"
      have e : decide ((1000000000000000000000000000000000000000000000000000000000000 : Int) ≤ (n : Int)) = false := decide_eq_false (by omega)
      rw [e]
      exact hQ
    clear hR
    refine seq_step fun R hR => ?_
    walk_at "rd"
    refine ⟨tyL_at h1, _, rfl, log_lt hn, l, _, _, rfl, rfl, h1, by decide, hR _ _ ?_⟩
    clear hR
    walk_at "rd"
    simp only [tJoinRev]
    walk_at "rd"
    refine ⟨[Sw.numS (n : Int)], upd_same, Sw.join_ok (m := 60) (fun z hz => ?_) (by decide) (by show 1 ≤ 200; decide) (by decide +kernel), ?_⟩
    · have : z = Sw.numS (n : Int) := by simpa using hz
      rw [this]
      exact PyProof.Rows.toString_length_le (Int.natCast_nonneg n) (by decide) (by exact_mod_cast hn)
    · have e : Txt.join (Str.ofString "") [Sw.numS (n : Int)].reverse = Sw.numS (n : Int) := by
        rw [Sw.join_eq]; rfl
      rw [e]
      exact k _ fun b o e => by rw [upd_ne (ne_of_none e hl)]; exact s1 _ _ e
def spShF (K : PySem.W.Frag) : Sp := fun vs H Q _ => ∃ (t : Addr) (n d : Int), vs = [.ref t] ∧ SqT K H t [.int n, .int d] ∧ n.natAbs < 10 ^ 60 ∧ 0 ≤ d ∧ d < 10 ^ 60 ∧ ∀ H', Same H H' → Q (.str (Sw.fracS (n, d))) H'
theorem num_len {n : Nat} (h : n < 10 ^ 60) : (Sw.numS (n : Int)).length ≤ 60 := PyProof.Rows.toString_length_le (Int.natCast_nonneg n) (by decide) (by exact_mod_cast h)
theorem d_show_fraction (T : Txt K mg c_WheelError c_NoText) : Def P w K mg base (CXX P w) 2 "show_fraction" ["one"] (spShF K) := by
  have D_figures_of := d_figures_of (P := P) (w := w) (base := base) T
  refine T.src_show_fraction.okN (k := 1) sc_show_fraction (fun vs H Q E h => ?_) (fun f cdv A outer s H vs Q E hr h => ?_)
  · obtain ⟨t, n, d, rfl, _⟩ := h
    rfl
  · obtain ⟨t, n, d, rfl, ht, hn, d0, d1, k⟩ := h
    refine ⟨_, (pss_cons (ps_set (i := 1) sc_show_fraction.nd rfl (by first | exact Or.inl rfl | exact Or.inr rfl) (pe_ifExp (pt_cmpR op_lt (pe_ix (ix_tupK K rfl) (pv 0) pe_int (fun _ _ => rfl)) pe_int (nomark _)) pe_str pe_str)) (pss_cons (ps_set (i := 2) sc_show_fraction.nd rfl (by first | exact Or.inl rfl | exact Or.inr rfl) (pe_op op_add_str (pv 1) (pe_callX D_figures_of (hr.mono (by decide)) rfl passN (pa_cons (pe_callB call_abs rfl T.no_abs boot_abs (pa_cons (pe_ix (ix_tupK K rfl) (pv 0) pe_int (fun _ _ => rfl)) pa_nil)) pa_nil)))) (pss_one (ps_ret (pe_ifExp (pt_cmpR op_eq (pe_ix (ix_tupK K rfl) (pv 0) pe_int (fun _ _ => rfl)) pe_int (nomark _)) (pv 2) (pe_op op_add_str (pe_op op_add_str (pv 2) pe_str) (pe_callX D_figures_of (hr.mono (by decide)) rfl passN (pa_cons (pe_ix (ix_tupK K rfl) (pv 0) pe_int (fun _ _ => rfl)) pa_nil)))))))), ?_⟩
    show tSeq _ _ _ [some (.ref t), none, none] H
    refine seq_step fun R hR => ?_
    have ix0 : ∀ {H'} {Q : VK}, Same H H' → Q (.int n) H' → rIxT K (.ref t) (.int 0) H' Q := fun s q => ixT_at (Same.seqT s ht) rfl q
    have ix1 : ∀ {H'} {Q : VK}, Same H H' → Q (.int d) H' → rIxT K (.ref t) (.int 1) H' Q := fun s q => ixT_at (Same.seqT s ht) rfl q
    walk_at "rd"
    have post : ∀ sgn : Str, sgn.length ≤ 1 → sgn ++ Sw.numS (n.natAbs : Int) = Sw.numS n → R [some (.ref t), some (.str sgn), none] H := fun sgn ls es => by
      refine hR _ _ ?_
      clear hR
      refine seq_step fun R hR => ?_
      walk_at "rd"
      refine ix0 (Same.refl _) ⟨n, rfl, ?_⟩
      have ea : (if n < 0 then -n else n) = (n.natAbs : Int) := by split <;> omega
      rw [ea]
      have ln := num_len hn
      refine ⟨_, rfl, hn, fun H1 s1 => ⟨_, rfl, le_line (by omega), hR _ _ ?_⟩⟩
      clear hR
      rw [es]
      have ln2 : (Sw.numS n).length ≤ 61 := by rw [← es, Sw.app_len]; omega
      walk_at "rd"
      refine ix1 s1 ⟨rfl, ?_⟩
      have k' : Q (.str (Sw.fracS (n, d))) H1 := k _ s1
      unfold Sw.fracS at k
      simp only at k
      refine ite2 (fun c => ?_) fun c => ?_
      · have c : d = 1 := by simpa using c
        rw [if_pos c] at k
        exact k _ s1
      · have c : d ≠ 1 := by simpa using c
        rw [if_neg c] at k
        obtain ⟨m, rfl⟩ := Int.eq_ofNat_of_zero_le d0
        have hm : m < 10 ^ 60 := by exact_mod_cast d1
        have lm := num_len hm
        have ls : (Sw.numS n ++ Sw.slash).length = (Sw.numS n).length + 1 := Sw.app_len _ _
        have l1 : (Str.ofString "/").length = 1 := by decide +kernel
        refine ⟨le_line (by omega), ix1 s1 ⟨m, rfl, hm, fun H2 s2 => ⟨_, rfl, le_line (by show (Sw.numS n ++ Sw.slash).length + _ ≤ _; omega), k _ (s1.trans s2)⟩⟩⟩
    clear hR
    refine ix0 (Same.refl _) ⟨n, rfl, ?_⟩
    split
    · rename_i hlt
      refine post _ (by decide +kernel) ?_
      have e : n = -(n.natAbs : Int) := by omega
      conv => rhs; rw [e]
      exact (Sw.num_neg (by omega)).symm
    · rename_i hlt
      refine post _ (by decide +kernel) ?_
      have e : (n.natAbs : Int) = n := by omega
      rw [e]
      exact Sw.empty_app _
def spTop (cT : Addr) : Sp := fun vs H Q E => ∃ (z : Str), vs = [.str z] ∧ z.length ≤ 9000 ∧ (∀ n, Sw.wordN 40 (Sw.figF z) = some n → ∀ H', Same H H' → Q (.int (if Sw.Below z then -n else n)) H') ∧ (Sw.wordN 40 (Sw.figF z) = none → ∀ H', Same H H' → Rs cT H' E)
theorem d_read_top (T : Txt K mg c_WheelError c_NoText) : Def P w K mg base (CXX P w) 2 "read_top" ["word"] (spTop c_NoText) := by
  have D_read_figures := d_read_figures (P := P) (w := w) (base := base) T
  refine T.src_read_top.okX (k := 1) sc_read_top (fun vs H Q E h => ?_) (fun f cdv A outer s H vs Q E hr h => ?_)
  · obtain ⟨z, rfl, _⟩ := h
    rfl
  · obtain ⟨z, rfl, zl, k, kx⟩ := h
    refine ⟨_, (pss_cons (ps_if (pt_val (pe_bm PySem.F.plainAttrs_str PySem.F.slot_str_startswith PySem.F.type_str_startswith mt_starts (pv 0) (pa_cons pe_str pa_nil))) (pss_one (ps_ret (pe_un un_neg (pe_callX D_read_figures (hr.mono (by decide)) rfl passF (pa_cons (pe_slice sl_str (pv 0) (po_some pe_int) po_none) (pa_cons (pe_globI rfl T.mg_MOST_FRACTION_FIGURES) pa_nil)))))) pss_nil) (pss_one (ps_ret (pe_callX D_read_figures (hr.mono (by decide)) rfl passF (pa_cons (pv 0) (pa_cons (pe_globI rfl T.mg_MOST_FRACTION_FIGURES) pa_nil)))))), ?_⟩
    show tSeq _ _ _ [some (.str z)] H
    have fl := Sw.fig_len z
    refine seq_step fun R hR => ?_
    walk_at "rd"
    refine ⟨rfl, z, _, rfl, rfl, _, rfl, ?_⟩
    rw [Sw.starts_below]
    refine ite2 (fun b => ?_) fun b => hR _ _ ?_
    · have b : Sw.Below z := by simpa using b
      have ef : Sw.figF z = Txt.slice z (some 1) none := by rw [Sw.slice_one]; unfold Sw.figF; rw [if_pos b]
      rw [ef] at k kx fl
      simp only [if_pos b] at k
      refine ⟨z, rfl, le_line (by omega), _, 40, rfl, by decide, by decide, by omega, fun n hn H1 s1 => ⟨n, rfl, k n hn _ s1⟩, fun hn H1 s1 => kx hn _ s1⟩
    · have b : ¬ Sw.Below z := by simpa using b
      have ef : Sw.figF z = z := by unfold Sw.figF; rw [if_neg b]
      rw [ef] at k kx
      simp only [if_neg b] at k
      clear hR
      walk_at "rd"
      exact ⟨z, 40, rfl, by decide, by decide, by omega, fun n hn H1 s1 => k n hn _ s1, fun hn H1 s1 => kx hn _ s1⟩
def spBot (cT : Addr) : Sp := fun vs H Q E => ∃ (z : Str), vs = [.str z] ∧ z.length ≤ 9000 ∧ (∀ n, Sw.wordN 40 z = some n → n ≠ 0 → ∀ H', Same H H' → Q (.int n) H') ∧ (Sw.wordN 40 z = none ∨ Sw.wordN 40 z = some 0 → ∀ H', Same H H' → Rs cT H' E)
theorem d_read_bottom (T : Txt K mg c_WheelError c_NoText) : Def P w K mg base (CXX P w) 2 "read_bottom" ["word"] (spBot c_NoText) := by
  have D_read_figures := d_read_figures (P := P) (w := w) (base := base) T
  refine T.src_read_bottom.okX (k := 1) sc_read_bottom (fun vs H Q E h => ?_) (fun f cdv A outer s H vs Q E hr h => ?_)
  · obtain ⟨z, rfl, _⟩ := h
    rfl
  · obtain ⟨z, rfl, zl, k, kx⟩ := h
    refine ⟨_, (pss_cons (ps_set (i := 1) sc_read_bottom.nd rfl (by first | exact Or.inl rfl | exact Or.inr rfl) (pe_callX D_read_figures (hr.mono (by decide)) rfl passF (pa_cons (pv 0) (pa_cons (pe_globI rfl T.mg_MOST_FRACTION_FIGURES) pa_nil)))) (pss_cons (ps_if (pt_cmpR op_eq (pv 1) pe_int (nomark _)) (pss_one (ps_raise K rfl rfl raiseF (pe_xmk T.ex_NoText T.kp_NoText rfl T.mg_NoText (pa_cons pe_str pa_nil)))) pss_nil) (pss_one (ps_ret (pv 1))))), ?_⟩
    show tSeq _ _ _ [some (.str z), none] H
    refine seq_step fun R hR => ?_
    walk_at "rd"
    refine ⟨z, 40, rfl, by decide, by decide, by omega, fun n hn H1 s1 => hR _ _ ?_, fun hn H1 s1 => kx (.inl hn) _ s1⟩
    clear hR
    refine seq_step fun R hR => ?_
    walk_at "rd"
    refine ite2 (fun c => ?_) fun c => hR _ _ ?_
    · have c : n = 0 := by simpa using c
      exact rs_of (kx (.inr (by rw [show Sw.wordN 40 z = some n from hn, c])) _ s1) T.xc_NoText
    · walk_at "rd"
      exact k n hn (by simpa using c) _ s1
theorem rN_le {t b : Int} (h : b ≠ 0) : (Sw.rN t b).natAbs ≤ t.natAbs := by
  have e := Sw.rN_mul (t := t) (b := b)
  have g := Sw.dv_pos (a := t) h
  have e2 : (Sw.rN t b).natAbs * (if b < 0 then -(Sw.dv t b) else Sw.dv t b).natAbs = t.natAbs := by rw [← Int.natAbs_mul, e]
  rw [← e2]
  exact Nat.le_mul_of_pos_right _ (by split <;> omega)
theorem rD_le {t b : Int} (h : b ≠ 0) : (Sw.rD t b).natAbs ≤ b.natAbs := by
  have e := Sw.rD_mul (t := t) (b := b)
  have g := Sw.dv_pos (a := t) h
  have e2 : (Sw.rD t b).natAbs * (if b < 0 then -(Sw.dv t b) else Sw.dv t b).natAbs = b.natAbs := by rw [← Int.natAbs_mul, e]
  rw [← e2]
  exact Nat.le_mul_of_pos_right _ (by split <;> omega)
def spRF (cT : Addr) : Sp := fun vs H Q E => ∃ (z : Str), vs = [.str z] ∧ z.length ≤ 9000 ∧ (∀ q, Sw.fracF z = some q → ∀ H' p, Same H H' → H' p = some (.tup [.int q.1, .int q.2]) → Q (.ref p) H') ∧ (Sw.fracF z = none → ∀ H', Same H H' → Rs cT H' E)
theorem d_read_fraction (T : Txt K mg c_WheelError c_NoText) : Def P w K mg base (CXX P w) 3 "read_fraction" ["word"] (spRF c_NoText) := by
  have D_read_top := d_read_top (P := P) (w := w) (base := base) T
  have D_read_bottom := d_read_bottom (P := P) (w := w) (base := base) T
  have D_ratio := d_ratio (P := P) (w := w) (base := base) T
  have D_show_fraction := d_show_fraction (P := P) (w := w) (base := base) T
  refine T.src_read_fraction.okX (k := 2) sc_read_fraction (fun vs H Q E h => ?_) (fun f cdv A outer s H vs Q E hr h => ?_)
  · obtain ⟨z, rfl, _⟩ := h
    rfl
  · obtain ⟨z, rfl, zl, k, kx⟩ := h
    refine ⟨_, (pss_cons (ps_set (i := 1) sc_read_fraction.nd rfl (by first | exact Or.inl rfl | exact Or.inr rfl) (pe_bm PySem.F.plainAttrs_str PySem.F.slot_str_partition PySem.F.type_str_partition mt_part (pv 0) (pa_cons pe_str pa_nil))) (pss_cons (ps_set (i := 2) sc_read_fraction.nd rfl (by first | exact Or.inl rfl | exact Or.inr rfl) (pe_callX D_ratio (hr.mono (by decide)) rfl passF (pa_cons (pe_callX D_read_top (hr.mono (by decide)) rfl passF (pa_cons (pe_ix (ix_tupK K rfl) (pv 1) pe_int (fun _ _ => rfl)) pa_nil)) (pa_cons (pe_ifExp (pt_cmpR op_eq (pe_ix (ix_tupK K rfl) (pv 1) pe_int (fun _ _ => rfl)) pe_str (nomark _)) pe_int (pe_callX D_read_bottom (hr.mono (by decide)) rfl passF (pa_cons (pe_ix (ix_tupK K rfl) (pv 1) pe_int (fun _ _ => rfl)) pa_nil))) pa_nil)))) (pss_cons (ps_if (pt_cmpR op_ne (pe_callX D_show_fraction (hr.mono (by decide)) rfl passF (pa_cons (pv 2) pa_nil)) (pv 0) (nomark _)) (pss_one (ps_raise K rfl rfl raiseF (pe_xmk T.ex_NoText T.kp_NoText rfl T.mg_NoText (pa_cons pe_str pa_nil)))) pss_nil) (pss_one (ps_ret (pv 2)))))), ?_⟩
    show tSeq _ _ _ [some (.str z), none, none] H
    refine seq_step fun R hR => ?_
    walk_at "rd"
    refine ⟨rfl, z, _, rfl, rfl, by decide +kernel, le_line (by omega), fun p fp => hR _ _ ?_⟩
    clear hR
    obtain ⟨pl1, pl2, pl3⟩ := Sw.part_len z Sw.slash
    have s1 := same_new (o := .tup [.str (Txt.partition z Sw.slash).1, .str (Txt.partition z Sw.slash).2.1, .str (Txt.partition z Sw.slash).2.2]) fp
    have hp : upd H p (.tup [.str (Txt.partition z Sw.slash).1, .str (Txt.partition z Sw.slash).2.1, .str (Txt.partition z Sw.slash).2.2]) p = some (.tup [.str (Txt.partition z Sw.slash).1, .str (Txt.partition z Sw.slash).2.1, .str (Txt.partition z Sw.slash).2.2]) := upd_same
    refine (show tSeq _ _ _ [some (.str z), some (.ref p), none] (upd H p (.tup [.str (Txt.partition z Sw.slash).1, .str (Txt.partition z Sw.slash).2.1, .str (Txt.partition z Sw.slash).2.2])) from ?_)
    generalize upd H p (.tup [.str (Txt.partition z Sw.slash).1, .str (Txt.partition z Sw.slash).2.1, .str (Txt.partition z Sw.slash).2.2]) = H1 at s1 hp ⊢
    refine seq_step fun R hR => ?_
    walk_at "rd"
    have ix : ∀ {H' : Hp} {i : Int} {v : V} {Q : VK}, Same H1 H' → atI [V.str (Txt.partition z Sw.slash).1, .str (Txt.partition z Sw.slash).2.1, .str (Txt.partition z Sw.slash).2.2] i = some v → Q v H' → rIxT K (.ref p) (.int i) H' Q := fun s e q => ixT_at (.of (s _ _ hp)) e q
    have post : ∀ (n b : Int) (H2 : Hp) (t : Addr), Sw.wordN 40 (Sw.figF (Txt.partition z Sw.slash).1) = some n → (if (Txt.partition z Sw.slash).2.1 = Sw.slash then Sw.wordN 40 (Txt.partition z Sw.slash).2.2 else some 1) = some b → b ≠ 0 → b < 10 ^ 40 → 0 ≤ b → Same H H2 →
        H2 t = some (.tup [.int (Sw.rN (if Sw.Below (Txt.partition z Sw.slash).1 then -n else n) b), .int (Sw.rD (if Sw.Below (Txt.partition z Sw.slash).1 then -n else n) b)]) → R [some (.str z), some (.ref p), some (.ref t)] H2 := by
      intro n b H2 t hn hb b0 bl bn s2 ht
      have fe := Sw.frac_read hn hb b0
      have n0 := Sw.wordN_nn hn
      have nl := Sw.word_lt hn
      generalize htp : (if Sw.Below (Txt.partition z Sw.slash).1 then -n else n) = tp at ht fe
      have tl : tp.natAbs < 10 ^ 40 := by
        have : tp.natAbs = n.natAbs := by rw [← htp]; split <;> omega
        omega
      have r1 := rN_le (t := tp) b0
      have r2 := rD_le (t := tp) b0
      have r3 := (Sw.rat_fr (t := tp) b0).pos
      generalize Sw.rN tp b = rn at ht fe r1
      generalize Sw.rD tp b = rd at ht fe r2 r3
      refine hR _ _ ?_
      clear hR
      refine seq_step fun R hR => ?_
      walk_at "rd"
      refine ⟨t, rn, rd, rfl, .of ht, by omega, by omega, by omega, fun H3 s3 => ⟨rfl, ?_⟩⟩
      refine ite2 (fun c => hR _ _ ?_) fun c => ?_
      · have c : Sw.fracS (rn, rd) = z := by simpa using c
        rw [if_pos c] at fe
        walk_at "rd"
        exact k _ fe _ t (s2.trans s3) (s3 _ _ ht)
      · have c : ¬ Sw.fracS (rn, rd) = z := by simpa using c
        rw [if_neg c] at fe
        exact rs_of (kx fe _ (s2.trans s3)) T.xc_NoText
    clear hR
    refine ix (Same.refl _) rfl ⟨_, rfl, by omega, fun n hn H2 s2 => ?_, fun hn H2 s2 => kx (Sw.frac_none1 hn) _ (s1.trans s2)⟩
    refine ix s2 rfl ⟨rfl, ?_⟩
    rcases Sw.part_sep z with hs | hs
    · rw [if_neg (fun q => by
        have q : (Txt.partition z Sw.slash).2.1 = Str.ofString "" := by simpa using q
        rw [hs] at q
        exact absurd q (by decide +kernel))]
      refine ix s2 rfl ⟨_, rfl, by omega, fun b hb b0 H3 s3 => ?_, fun hb H3 s3 => kx ?_ _ ((s1.trans s2).trans s3)⟩
      · have bn := Sw.wordN_nn hb
        have bl := Sw.word_lt hb
        refine ⟨_, b, 200, rfl, b0, by decide, ?_, fun t ft => post n b _ t hn (by rw [if_pos hs]; exact hb) b0 bl bn (((s1.trans s2).trans s3).trans (same_new ft)) upd_same⟩
        show b.natAbs < 2 ^ 200
        have : (10 : Nat) ^ 40 < 2 ^ 200 := by decide
        omega
      · rcases hb with hb | hb
        · exact Sw.frac_none2 (by rw [if_pos hs]; exact hb)
        · exact Sw.frac_none3 hs hb
    · rw [if_pos (by rw [hs]; decide +kernel)]
      have hs2 : ¬ (Txt.partition z Sw.slash).2.1 = Sw.slash := by rw [hs]; exact Sw.empty_slash
      exact ⟨_, 1, 200, rfl, by decide, by decide, by show (1 : Int).natAbs < 2 ^ 200; decide, fun t ft => post n 1 _ t hn (if_neg hs2) (by decide) (by decide) (by decide) ((s1.trans s2).trans (same_new ft)) upd_same⟩
theorem shaped_strs (l : List Str) (h : ∀ x ∈ l, PyData.strOk x = true) : PySem.SeqAt.shaped (.list (l.map PyData.str)) = true := by
  have c : PyData.canLayAll0 (l.map PyData.str) = true := by
    induction l with
    | nil => rfl
    | cons x r ih =>
      simp only [List.map_cons, PyData.canLayAll0, PyData.canLay0, Bool.and_eq_true]
      exact ⟨h x (by simp), ih fun y hy => h y (List.mem_cons_of_mem _ hy)⟩
  have d := depth_all (f := PyData.str) (n := 0) (fun _ => by simp [PyData.depth]) l
  unfold PySem.SeqAt.shaped
  rw [Bool.and_eq_true, decide_eq_true_eq]
  refine ⟨by simpa only [PyData.canLay0] using c, ?_⟩
  simp only [PyData.depth]
  omega
def numV : Option Int → V
  | none => .non
  | some n => .int n
def spLN : Sp := fun vs H Q _ => ∃ (z : Str), vs = [.str z] ∧ z.length ≤ 10000 ∧ Sw.Ok z ∧ ∀ H', Same H H' → Q (numV (Sw.wordN 40 z)) H'
theorem d__law_number (T : Txt K mg c_WheelError c_NoText) : Def P w K mg base (CXX P w) 1 "_law_number" ["_law_figures"] spLN := by
  refine T.src__law_number.okN (k := 0) sc__law_number (fun vs H Q E h => ?_) (fun f cdv A outer s H vs Q E hr h => ?_)
  · obtain ⟨z, rfl, _⟩ := h
    rfl
  · obtain ⟨z, rfl, zl, ok, k⟩ := h
    refine ⟨_, (pss_cons (ps_if (PW.pt (pw_or (pt_cmpR op_eq (pv 0) pe_str (nomark _)) (pw_or (pt_cmpR op_gt (pe_callB call_len_str rfl T.no_len boot_len (pa_cons (pv 0) pa_nil)) pe_int (nomark _)) (pw_or1 (PW.pt (pw_and (pt_cmpR op_eq (pe_ix ix_str (pv 0) pe_int (fun _ _ => rfl)) pe_str (nomark _)) (pw_and1 (pt_cmpR op_gt (pe_callB call_len_str rfl T.no_len boot_len (pa_cons (pv 0) pa_nil)) pe_int (nomark _))))))))) (pss_one (ps_ret pe_non)) pss_nil) (pss_cons (ps_if (pt_cmpR (op_neDK K rfl hr.units) (pe_lc ["_law_sign"] [] rfl (by with_unfolding_all rfl) (by decide +kernel) rfl (by decide +kernel) (by exact True.intro) (by with_unfolding_all rfl) True.intro (pi_str (pv 0)) (fun _ _ _ => (pg_name (i := 0) (show (["_law_sign"] : List Str).Nodup from by decide +kernel) rfl (by first | exact Or.inl rfl | exact Or.inr rfl))) (fun _ _ _ => (pifs_one (pt_cmpR op_notInS (pv 0) pe_str rfl))) (fun _ _ _ => (pv 0))) (pe_lst pa_nil) (nomark _)) (pss_one (ps_ret pe_non)) pss_nil) (pss_one (ps_ret (pe_callTy call_intS rfl T.no_int boot_int (pa_cons (pv 0) pa_nil)))))), ?_⟩
    show tSeq _ _ _ [some (.str z)] H
    have no : ∀ {H'}, Same H H' → ¬ (1 ≤ z.length ∧ z.length ≤ 40 ∧ Sw.Digs z ∧ ¬ Sw.Nought z) → Q .non H' := fun s n => by
      have := k _ s
      rw [Sw.wordN_no n] at this
      exact this
    refine seq_step fun R hR => ?_
    have go : 1 ≤ z.length → z.length ≤ 40 → ¬ Sw.Nought z → R [some (.str z)] H := fun l1 l2 nn => by
      refine hR _ _ ?_
      clear hR
      refine seq_step fun R hR => ?_
      walk_at "rd"
      simp only [iStr]
      walk_at "rd"
      intro D hD
      show CompG _ _ _ _ D [none] _ _
      refine comp_str (fun i τ H' => (∃ v, τ = [v]) ∧ Same H H' ∧ H' D = some (.lst ((((z.cps.toList.take i).filter fun c => !decide (c ∈ Sw.figs.cps.toList)).map sg).map V.str))) ⟨⟨none, rfl⟩, same_new hD, upd_same⟩ ?_ ?_
      · rintro i c τ H' hc ⟨⟨v, rfl⟩, s', hDl⟩
        have hi := (List.getElem?_eq_some_iff.mp hc).1
        rw [Sw.len_list] at hi
        walk_at "rd"
        refine ⟨sg c, Str.ofString "0123456789", rfl, rfl, _, rfl, ?_⟩
        have e := Sw.in_figs c
        unfold Sw.figs at e
        rw [e]
        refine ite2 (fun cc => ?_) fun cc => ?_
        · refine ⟨_, hDl, lt_line ?_, fun b o e => ?_, ?_⟩
          · rw [List.length_map, List.length_map]
            have := List.length_filter_le (fun c => !decide (c ∈ Sw.figs.cps.toList)) (z.cps.toList.take i)
            rw [List.length_take] at this
            omega
          · rw [upd_ne (ne_of_none e hD)]; exact s' _ _ e
          · rw [upd_same, take_get hc, List.filter_append, List.map_append, List.map_append, List.filter_cons_of_pos (by exact cc)]
            rfl
        · refine ⟨s', ?_⟩
          rw [take_get hc, List.filter_append, List.filter_cons_of_neg (by exact cc), List.filter_nil, List.append_nil]
          exact hDl
      · rintro τ H1 ⟨_, s1, hDl⟩
        rw [← Sw.len_list, List.take_length] at hDl
        walk_at "rd"
        intro p fp
        have s2 := same_new (o := .lst []) fp
        have dp : Deep K (upd H1 p (.lst [])) (.ref D) (.list ((((z.cps.toList.filter fun c => !decide (c ∈ Sw.figs.cps.toList)).map sg)).map PyData.str)) := .lst (.of (s2 _ _ hDl)) (strs_deep _)
        refine ne_at dp (.lst (.of upd_same) .nil) (shaped_strs _ fun x hx => ?_) shaped_nil ?_
        · obtain ⟨c, hc, rfl⟩ := List.mem_map.mp hx
          exact Sw.ok_iff.mpr (Sw.Ok.sg (ok c (List.mem_filter.mp hc).1))
        · rw [eqv_nil]
          refine ⟨_, rfl, ite2 (fun c => no (s1.trans s2) fun y => ?_) fun c => hR _ _ ?_⟩
          · have e : (z.cps.toList.filter fun c => !decide (c ∈ Sw.figs.cps.toList)) = [] := List.filter_eq_nil_iff.mpr fun a ha => by simpa using y.2.2.1 a ha
            rw [e] at c
            cases c
          · have dg : Sw.Digs z := by
              have c : ((z.cps.toList.filter fun c => !decide (c ∈ Sw.figs.cps.toList)).map sg) = [] := by simpa using c
              have e := List.map_eq_nil_iff.mp c
              intro a ha
              have := List.filter_eq_nil_iff.mp e a ha
              simpa using this
            walk_at "rd"
            refine ⟨z, _, rfl, Sw.digs_text l1 (by omega) dg, by omega, ?_⟩
            have := k _ (s1.trans s2)
            rw [Sw.wordN_yes ⟨l1, l2, dg, nn⟩] at this
            exact this
    clear hR
    walk_at "rd"
    refine ite2 (fun c => no (Same.refl _) fun y => ?_) fun c => ⟨le_line (by omega), ite2 (fun c2 => no (Same.refl _) fun y => ?_) fun c2 => ?_⟩
    · have := Sw.empty_iff.mp c
      omega
    · omega
    have l0 : ¬ z.length = 0 := fun y => c (Sw.empty_iff.mpr y)
    obtain ⟨c0, hc0⟩ : ∃ c, z.cps.toList[0]? = some c := ⟨_, List.getElem?_eq_getElem (by rw [Sw.len_list]; omega)⟩
    refine ⟨z, 0, c0, rfl, rfl, le_line (by omega), atI_nat (j := 0) hc0, ?_⟩
    walk_at "rd"
    refine ite2 (fun c1 => ⟨le_line (by omega), ite2 (fun c3 => no (Same.refl _) fun y => y.2.2.2 ⟨?_, by omega⟩) fun c3 => go (by omega) (by omega) fun y => c3 (by have := y.2; omega)⟩) fun c1 => go (by omega) (by omega) fun y => c1 ?_
    · have e : (Str.ofString "0").cps.toList = [c0] := Sw.sg_eq.mp c1
      rw [Sw.zero_list] at e
      cases e
      exact hc0
    · have e := y.1
      rw [hc0] at e
      cases e
      exact Sw.sg_eq.mpr Sw.zero_list
def spDue : Sp := fun vs H Q _ => ∃ (z : Str), vs = [.str z] ∧ z.length ≤ 9000 ∧ Sw.Ok z ∧ (Sw.fracF z = none → ∀ H', Same H H' → Q .non H') ∧ ∀ q, Sw.fracF z = some q → ∀ H' t, Same H H' → H' t = some (.tup [.int q.1, .int q.2]) → Q (.ref t) H'
theorem d__law_due (T : Txt K mg c_WheelError c_NoText) : Def P w K mg base (CXX P w) 2 "_law_due" ["_law_word"] spDue := by
  have D__law_number := d__law_number (P := P) (w := w) (base := base) T
  have D__law_divisor := d__law_divisor (P := P) (w := w) (base := base) T
  refine T.src__law_due.okN (k := 1) sc__law_due (fun vs H Q E h => ?_) (fun f cdv A outer s H vs Q E hr h => ?_)
  · obtain ⟨z, rfl, _⟩ := h
    rfl
  · obtain ⟨z, rfl, zl, ok, kn, ks⟩ := h
    refine ⟨_, (pss_cons (ps_asg (pe_bm PySem.F.plainAttrs_str PySem.F.slot_str_partition PySem.F.type_str_partition mt_part (pv 0) (pa_cons pe_str pa_nil)) (pg_tupK (n := 3) K rfl rfl (pgs_cons (pg_name (i := 1) sc__law_due.nd rfl (by first | exact Or.inl rfl | exact Or.inr rfl)) (pgs_cons (pg_name (i := 2) sc__law_due.nd rfl (by first | exact Or.inl rfl | exact Or.inr rfl)) (pgs_cons (pg_name (i := 3) sc__law_due.nd rfl (by first | exact Or.inl rfl | exact Or.inr rfl)) pgs_nil))))) (pss_cons (ps_set (i := 4) sc__law_due.nd rfl (by first | exact Or.inl rfl | exact Or.inr rfl) (pe_cmpR op_eq (pe_slice sl_str (pv 1) po_none (po_some pe_int)) pe_str (nomark _))) (pss_cons (ps_if (pt_val (pv 4)) (pss_one (ps_set (i := 1) sc__law_due.nd rfl (by first | exact Or.inl rfl | exact Or.inr rfl) (pe_slice sl_str (pv 1) (po_some pe_int) po_none))) pss_nil) (pss_cons (ps_set (i := 5) sc__law_due.nd rfl (by first | exact Or.inl rfl | exact Or.inr rfl) (pe_callX D__law_number (hr.mono (by decide)) rfl passN (pa_cons (pv 1) pa_nil))) (pss_cons (ps_set (i := 6) sc__law_due.nd rfl (by first | exact Or.inl rfl | exact Or.inr rfl) pe_int) (pss_cons (ps_if (pt_cmpR op_eq (pv 2) pe_str (nomark _)) (pss_one (ps_set (i := 6) sc__law_due.nd rfl (by first | exact Or.inl rfl | exact Or.inr rfl) (pe_callX D__law_number (hr.mono (by decide)) rfl passN (pa_cons (pv 3) pa_nil)))) pss_nil) (pss_cons (ps_if (PW.pt (pw_or (pt_cmpR op_isN (pv 5) pe_non (nomark _)) (pw_or (pt_cmpR op_isN (pv 6) pe_non (nomark _)) (pw_or1 (PW.pt (pw_and (pt_val (pv 4)) (pw_and1 (pt_cmpR op_eq (pv 5) pe_int (nomark _))))))))) (pss_one (ps_ret pe_non)) pss_nil) (pss_cons (ps_if (PW.pt (pw_and (pt_cmpR op_eq (pv 2) pe_str (nomark _)) (pw_and1 (PW.pt (pw_or (pt_cmpR op_lt (pv 6) pe_int (nomark _)) (pw_or1 (pt_cmpR op_ne (pe_callX D__law_divisor (hr.mono (by decide)) rfl passN (pa_cons (pv 5) (pa_cons (pv 6) pa_nil))) pe_int (nomark _)))))))) (pss_one (ps_ret pe_non)) pss_nil) (pss_cons (ps_if (pt_val (pv 4)) (pss_one (ps_set (i := 5) sc__law_due.nd rfl (by first | exact Or.inl rfl | exact Or.inr rfl) (pe_op op_sub pe_int (pv 5)))) pss_nil) (pss_one (ps_ret (pe_tup (pa_cons (pv 5) (pa_cons (pv 6) pa_nil)))))))))))))), ?_⟩
    show tSeq _ _ _ [some (.str z), none, none, none, none, none, none] H
    refine seq_step fun R hR => ?_
    walk_at "rd"
    refine ⟨rfl, z, _, rfl, rfl, by decide +kernel, le_line (by omega), fun p fp => ?_⟩
    refine ⟨p, rfl, _, .of upd_same, rfl, _, _, rfl, _, _, rfl, _, _, rfl, rfl, hR _ _ ?_⟩
    clear hR
    have s1 := same_new (o := .tup [.str (Txt.partition z Sw.slash).1, .str (Txt.partition z Sw.slash).2.1, .str (Txt.partition z Sw.slash).2.2]) fp
    refine (show tSeq _ _ _ [some (.str z), some (.str (Txt.partition z Sw.slash).1), some (.str (Txt.partition z Sw.slash).2.1), some (.str (Txt.partition z Sw.slash).2.2), none, none, none] (upd H p (.tup [.str (Txt.partition z Sw.slash).1, .str (Txt.partition z Sw.slash).2.1, .str (Txt.partition z Sw.slash).2.2])) from ?_)
    generalize upd H p (.tup [.str (Txt.partition z Sw.slash).1, .str (Txt.partition z Sw.slash).2.1, .str (Txt.partition z Sw.slash).2.2]) = H1 at s1 ⊢
    obtain ⟨pl1, pl2, pl3⟩ := Sw.part_len z Sw.slash
    obtain ⟨ok1, ok2, ok3⟩ := ok.parts Sw.slash
    have sep := Sw.part_sep z
    unfold Sw.fracF at kn ks
    generalize (Txt.partition z Sw.slash).1 = hd at *
    generalize (Txt.partition z Sw.slash).2.1 = sp at *
    generalize (Txt.partition z Sw.slash).2.2 = tl at *
    refine seq_step fun R hR => ?_
    walk_at "rd"
    have eb : decide (V.str (Txt.slice hd none (some 1)) = V.str (Str.ofString "-")) = decide (Sw.Below hd) := by
      refine decide_eq_decide.mpr ⟨fun q => (Sw.slice_head hd).mp (by injection q), fun q => by rw [(Sw.slice_head hd).mpr q]⟩
    refine ⟨hd, rfl, le_line (by omega), rfl, hR _ _ ?_⟩
    clear hR
    rw [eb]
    clear eb
    have fl := Sw.fig_len hd
    have fo := ok1.fig
    refine seq_step fun R hR => ?_
    have g1 : R [some (.str z), some (.str (Sw.figF hd)), some (.str sp), some (.str tl), some (.bl (decide (Sw.Below hd))), none, none] H1 := by
      refine hR _ _ ?_
      clear hR
      refine seq_step fun R hR => ?_
      walk_at "rd"
      refine ⟨_, rfl, by omega, fo, fun H2 s2 => hR _ _ ?_⟩
      clear hR
      refine seq_step fun R hR => ?_
      walk_at "rd"
      refine hR _ _ ?_
      clear hR
      refine seq_step fun R hR => ?_
      have g2 : ∀ H3, Same H H3 → R [some (.str z), some (.str (Sw.figF hd)), some (.str sp), some (.str tl), some (.bl (decide (Sw.Below hd))), some (numV (Sw.wordN 40 (Sw.figF hd))), some (numV (if sp = Sw.slash then Sw.wordN 40 tl else some 1))] H3 := by
        intro H3 s3
        refine hR _ _ ?_
        clear hR
        have w0 : ∀ n, Sw.wordN 40 (Sw.figF hd) = some n → 0 ≤ n := fun n e => Sw.wordN_nn e
        have w1 : ∀ b, (if sp = Sw.slash then Sw.wordN 40 tl else some 1) = some b → 0 ≤ b := fun b e => by
          split at e
          · exact Sw.wordN_nn e
          · cases e; decide
        generalize Sw.wordN 40 (Sw.figF hd) = wt at *
        generalize (if sp = Sw.slash then Sw.wordN 40 tl else some 1) = wb at *
        cases wt with
        | none =>
          refine seq_step fun R hR => ?_
          show tIfS _ _ _ _ [_, _, _, _, _, some .non, _] _
          walk_at "rd"
          exact kn (by cases wb <;> rfl) _ s3
        | some n =>
          have n0 := w0 n rfl
          cases wb with
          | none =>
            refine seq_step fun R hR => ?_
            show tIfS _ _ _ _ [_, _, _, _, _, some (.int n), some .non] _
            walk_at "rd"
            refine iteN (by intro y; cases y) ?_
            exact kn rfl _ s3
          | some b =>
            have b0 := w1 b rfl
            simp only at kn ks
            refine seq_step fun R hR => ?_
            show tIfS _ _ _ _ [_, _, _, _, _, some (.int n), some (.int b)] _
            have g3 : ¬ (Sw.Below hd ∧ n = 0) → R [some (.str z), some (.str (Sw.figF hd)), some (.str sp), some (.str tl), some (.bl (decide (Sw.Below hd))), some (.int n), some (.int b)] H3 := by
              intro c1
              refine hR _ _ ?_
              clear hR
              refine seq_step fun R hR => ?_
              have g4 : ¬ (sp = Sw.slash ∧ (b < 2 ∨ Sw.dv n b ≠ 1)) → R [some (.str z), some (.str (Sw.figF hd)), some (.str sp), some (.str tl), some (.bl (decide (Sw.Below hd))), some (.int n), some (.int b)] H3 := by
                intro c2
                refine hR _ _ ?_
                clear hR
                rw [if_neg (fun q => q.elim c1 c2)] at ks
                refine seq_step fun R hR => ?_
                have g5 : R [some (.str z), some (.str (Sw.figF hd)), some (.str sp), some (.str tl), some (.bl (decide (Sw.Below hd))), some (.int (if Sw.Below hd then 0 - n else n)), some (.int b)] H3 := by
                  refine hR _ _ ?_
                  clear hR
                  walk_at "rd"
                  intro t ft
                  exact ks _ rfl _ t (s3.trans (same_new ft)) upd_same
                clear hR
                walk_at "rd"
                refine ite2 (fun c => ?_) fun c => ?_
                · rw [if_pos c] at g5; exact g5
                · rw [if_neg c] at g5; exact g5
              clear hR
              walk_at "rd"
              refine ite2 (fun c => ite2 (fun c2 => ?_) fun c2 => ⟨n, b, rfl, b0, rfl, ite2 (fun c3 => g4 fun q => q.2.elim c2 fun q => q (by injection c3)) fun c3 => ?_⟩) fun c => g4 fun q => c q.1
              · exact kn (if_pos (.inr ⟨c, .inl c2⟩)) _ s3
              · exact kn (if_pos (.inr ⟨c, .inr fun q => c3 (by rw [q])⟩)) _ s3
            clear hR
            walk_at "rd"
            refine iteN (by intro y; cases y) (iteN (by intro y; cases y) (ite2 (fun c => ite2 (fun c2 => ?_) fun c2 => g3 fun q => c2 q.2) fun c => g3 fun q => c q.1))
            exact kn (if_pos (.inl ⟨c, c2⟩)) _ s3
      clear hR
      walk_at "rd"
      refine ite2 (fun c => ?_) fun c => ?_
      · refine ⟨_, rfl, by omega, ok3, fun H3 s3 => ?_⟩
        have := g2 H3 ((s1.trans s2).trans s3)
        rw [if_pos (show sp = Sw.slash from c)] at this
        exact this
      · have := g2 H2 (s1.trans s2)
        rw [if_neg (show ¬ sp = Sw.slash from c)] at this
        exact this
    clear hR
    walk_at "rd"
    unfold Sw.figF at g1
    refine ite2 (fun c => ?_) fun c => ?_
    · rw [if_pos c, ← Sw.slice_one] at g1
      exact ⟨hd, rfl, le_line (by omega), g1⟩
    · rw [if_neg c] at g1
      exact g1
def spLRead : Sp := fun vs H Q _ => ∃ (z : Str), vs = [.str z] ∧ z.length ≤ 9000 ∧ (∀ q, Sw.fracF z = some q → ∀ H' t, Same H H' → H' t = some (.tup [.int q.1, .int q.2]) → Q (.ref t) H') ∧ (Sw.fracF z = none → ∀ H', Same H H' → Q (.bl true) H')
theorem d__law_read (T : Txt K mg c_WheelError c_NoText) : Def P w K mg base (CXX P w) 4 "_law_read" ["_law_word"] spLRead := by
  have D_read_fraction := d_read_fraction (P := P) (w := w) (base := base) T
  refine T.src__law_read.okN (k := 3) sc__law_read (fun vs H Q E h => ?_) (fun f cdv A outer s H vs Q E hr h => ?_)
  · obtain ⟨z, rfl, _⟩ := h
    rfl
  · obtain ⟨z, rfl, zl, k, kn⟩ := h
    refine ⟨_, (pss_cons (ps_tryAs (i := 2) rfl rfl K rfl rfl rfl T.xc_NoText rfl T.mg_NoText sc__law_read.nd rfl rfl (fun _ _ => (pss_one (ps_set (i := 1) sc__law_read.nd rfl (by first | exact Or.inl rfl | exact Or.inr rfl) (pe_callX D_read_fraction (hr.mono (by decide)) rfl passT (pa_cons (pv 0) pa_nil))))) (fun _ => (pss_one (ps_ret (pe_callB (call_isinstX K rfl) rfl T.no_isinstance boot_isinstance (pa_cons (pv 2) (pa_cons (pe_glob (v := .ref c_WheelError) rfl T.mg_WheelError rfl) pa_nil))))))) (pss_one (ps_ret (pv 1)))), ?_⟩
    show tSeq _ _ _ [some (.str z), none, none] H
    refine seq_step fun R hR => ?_
    walk_at "rd"
    refine ⟨z, rfl, zl, fun q hq H1 t s1 ht => hR _ _ ?_, fun hn H1 s1 e fe => ?_⟩
    · walk_at "rd"
      exact k q hq _ t s1 ht
    · clear hR
      have xe : upd H1 e (excO e c_NoText none false) e = some (excO e c_NoText none false) := upd_same
      have s2 := s1.trans (same_new (o := excO e c_NoText none false) fe)
      generalize upd H1 e (excO e c_NoText none false) = H2 at xe s2 ⊢
      exact ⟨e, rfl, c_NoText, xe, T.sub_NoText_NoText, inst_at xe (.inl rfl) T.xc_NoText rfl T.kit_NoText_WheelError (kn hn _ s2)⟩
def spPair : Sp := fun vs H Q _ => ∃ t a b, vs = [.ref t] ∧ H t = some (.tup [.int a, .int b]) ∧ ∀ H', Same H H' → Q (.bl true) H'
theorem d__law_pair (T : Txt K mg c_WheelError c_NoText) : Def P w K mg base (CXX P w) 1 "_law_pair" ["_law_found"] spPair := by
  refine T.src__law_pair.okN (k := 0) sc__law_pair (fun vs H Q E h => ?_) (fun f cdv A outer s H vs Q E hr h => ?_)
  · obtain ⟨t, a, b, rfl, _⟩ := h
    rfl
  · obtain ⟨t, a, b, rfl, ht, k⟩ := h
    refine ⟨_, (pss_cons (ps_if (PW.pt (pw_or (pt_not (pt_val (pe_callB (call_isinstK K rfl) rfl T.no_isinstance boot_isinstance (pa_cons (pv 0) (pa_cons (pe_bltn (v := .ty "tuple") rfl T.no_tuple boot_tuple rfl) pa_nil))))) (pw_or1 (pt_cmpR op_ne (pe_callB (call_lenK K rfl) rfl T.no_len boot_len (pa_cons (pv 0) pa_nil)) pe_int (nomark _))))) (pss_one (ps_ret pe_bl)) pss_nil) (pss_one (ps_ret (pe_callB (call_allK K rfl rfl) rfl T.no_all boot_all (pa_cons (pe_lc ["_law_one"] [] rfl (by with_unfolding_all rfl) (by decide +kernel) rfl (by decide +kernel) (by exact True.intro) (by with_unfolding_all rfl) True.intro (pi_tupK K rfl (pv 0)) (fun _ _ _ => (pg_name (i := 0) (show (["_law_one"] : List Str).Nodup from by decide +kernel) rfl (by first | exact Or.inl rfl | exact Or.inr rfl))) (fun _ _ _ => pifs_nil) (fun _ _ _ => (pe_and (pe_callB (call_isinstK K rfl) rfl T.no_isinstance boot_isinstance (pa_cons (pv 0) (pa_cons (pe_bltn (v := .ty "int") rfl T.no_int boot_int rfl) pa_nil))) (pe_one (pe_not (pe_callB (call_isinstK K rfl) rfl T.no_isinstance boot_isinstance (pa_cons (pv 0) (pa_cons (pe_bltn (v := .ty "bool") rfl T.no_bool boot_bool rfl) pa_nil)))))))) pa_nil))))), ?_⟩
    show tSeq _ _ _ [some (.ref t)] H
    refine seq_step fun R hR => ?_
    walk_at "rd"
    refine ⟨_, _, _, _, true, rfl, rfl, .tup ht, kit_tuple, ⟨_, rfl, ?_⟩⟩
    rw [if_neg (by decide)]
    refine lenT_at (.of ht) ⟨rfl, ?_⟩
    refine ite2 (fun _ => hR _ _ ?_) fun c => absurd rfl c
    clear hR
    walk_at "rd"
    refine ⟨⟨_, .of ht⟩, fun D hD => ?_⟩
    show CompG _ _ _ _ D [none] _ _
    refine comp_walkT (xs := [.int a, .int b]) (fun j τ H2 => (∃ v, τ = [v]) ∧ Same H H2 ∧ H2 D = some (.lst ((List.replicate j true).map V.bl))) ⟨⟨none, rfl⟩, same_new hD, upd_same⟩ (fun j τ H2 _ ⟨_, s2, _⟩ => .of (s2 _ _ ht)) ?_ ?_
    · rintro j x τ H2 hx ⟨⟨v, rfl⟩, s2, hDl⟩
      have hj : j < 2 := (List.getElem?_eq_some_iff.mp hx).1
      obtain ⟨n, rfl⟩ : ∃ n : Int, x = .int n := by
        have := List.mem_of_getElem? hx
        simp only [List.mem_cons, List.not_mem_nil, or_false] at this
        rcases this with rfl | rfl <;> exact ⟨_, rfl⟩
      walk_at "rd"
      simp only [tYes, if_true]
      walk_at "rd"
      refine ⟨_, _, _, _, true, rfl, rfl, .int n, kit_int_int, ⟨_, rfl, ?_⟩⟩
      rw [if_pos rfl]
      refine ⟨_, _, _, _, false, rfl, rfl, .int n, kit_int_bool, ⟨_, rfl, _, hDl, lt_line (by rw [List.length_map, List.length_replicate]; omega), fun b o e => ?_, ?_⟩⟩
      · rw [upd_ne (ne_of_none e hD)]; exact s2 _ _ e
      · rw [upd_same, List.replicate_succ', List.map_append]; rfl
    · rintro τ H2 ⟨_, s2, hDl⟩
      exact ⟨D, _, rfl, .of hDl, k _ s2⟩
def spRight : Sp := fun vs H Q _ => ∃ (z : Str), vs = [.str z] ∧ z.length ≤ 9000 ∧ Sw.Ok z ∧ ∀ H', Same H H' → Q (.bl true) H'
theorem shaped_two (a b : Int) : PySem.SeqAt.shaped (.tuple [.int a, .int b]) = true := by
  simp [PySem.SeqAt.shaped, PyData.canLay0, PyData.canLayAll0, PyData.depth, PyData.depthAll]
theorem d__law_right (T : Txt K mg c_WheelError c_NoText) : Def P w K mg base (CXX P w) 5 "_law_right" ["_law_word"] spRight := by
  have D__law_due := d__law_due (P := P) (w := w) (base := base) T
  have D__law_read := d__law_read (P := P) (w := w) (base := base) T
  have D__law_pair := d__law_pair (P := P) (w := w) (base := base) T
  refine T.src__law_right.okN (k := 4) sc__law_right (fun vs H Q E h => ?_) (fun f cdv A outer s H vs Q E hr h => ?_)
  · obtain ⟨z, rfl, _⟩ := h
    rfl
  · obtain ⟨z, rfl, zl, ok, k⟩ := h
    refine ⟨_, (pss_cons (ps_set (i := 1) sc__law_right.nd rfl (by first | exact Or.inl rfl | exact Or.inr rfl) (pe_callX D__law_due (hr.mono (by decide)) rfl passN (pa_cons (pv 0) pa_nil))) (pss_cons (ps_set (i := 2) sc__law_right.nd rfl (by first | exact Or.inl rfl | exact Or.inr rfl) (pe_callX D__law_read (hr.mono (by decide)) rfl passN (pa_cons (pv 0) pa_nil))) (pss_cons (ps_if (pt_cmpR op_isN (pv 1) pe_non (nomark _)) (pss_one (ps_ret (pe_cmpR op_isB (pv 2) pe_bl (nomark _)))) pss_nil) (pss_one (ps_ret (pe_and (pe_callX D__law_pair (hr.mono (by decide)) rfl passN (pa_cons (pv 2) pa_nil)) (pe_one (pe_cmpR (op_eqDK K rfl hr.units) (pv 2) (pv 1) (nomark _))))))))), ?_⟩
    show tSeq _ _ _ [some (.str z), none, none] H
    refine seq_step fun R hR => ?_
    walk_at "rd"
    refine ⟨z, rfl, zl, ok, fun tn H1 s1 => hR _ _ ?_, fun q tq H1 t s1 ht => hR _ _ ?_⟩
    · clear hR
      refine seq_step fun R hR => ?_
      walk_at "rd"
      refine ⟨z, rfl, zl, fun q tq => (by rw [tn] at tq; cases tq), fun _ H2 s2 => hR _ _ ?_⟩
      clear hR
      refine seq_step fun R hR => ?_
      walk_at "rd"
      exact k _ (s1.trans s2)
    · clear hR
      refine seq_step fun R hR => ?_
      walk_at "rd"
      refine ⟨z, rfl, zl, fun q' tq' H2 t2 s2 ht2 => hR _ _ ?_, fun tn => (by rw [tn] at tq; cases tq)⟩
      rw [tq] at tq'
      cases tq'
      clear hR
      refine seq_step fun R hR => ?_
      walk_at "rd"
      refine iteN (by intro y; cases y) (hR _ _ ?_)
      clear hR
      walk_at "rd"
      refine ⟨t2, _, _, rfl, ht2, fun H3 s3 => ⟨_, rfl, ?_⟩⟩
      rw [if_pos rfl]
      exact eq_same (.tup (.of (s3 _ _ ht2)) (.cons (.int _) (.cons (.int _) .nil))) (.tup (.of ((s2.trans s3) _ _ ht)) (.cons (.int _) (.cons (.int _) .nil))) (shaped_two _ _) (k _ ((s1.trans s2).trans s3))
def spChanged : Sp := fun vs H Q _ => ∃ (z : Str) (c : Int), vs = [.str z, .int c] ∧ z.length ≤ 8000 ∧ Sw.Ok z ∧ ∀ z', z'.length ≤ 2 * z.length + 1 → Sw.Ok z' → Q (.str z') H
theorem d__law_changed (T : Txt K mg c_WheelError c_NoText) : Def P w K mg base (CXX P w) 1 "_law_changed" ["_law_word", "_law_cell"] spChanged := by
  refine T.src__law_changed.okN (k := 0) sc__law_changed (fun vs H Q E h => ?_) (fun f cdv A outer s H vs Q E hr h => ?_)
  · obtain ⟨z, c, rfl, _⟩ := h
    rfl
  · obtain ⟨z, c, rfl, zl, ok, k⟩ := h
    refine ⟨_, (pss_cons (ps_set (i := 2) sc__law_changed.nd rfl (by first | exact Or.inl rfl | exact Or.inr rfl) (pe_op op_mod (pe_op op_fdivL (pv 1) pe_int) (pe_op op_add (pe_callB call_len_str rfl T.no_len boot_len (pa_cons (pv 0) pa_nil)) pe_int))) (pss_cons (ps_set (i := 3) sc__law_changed.nd rfl (by first | exact Or.inl rfl | exact Or.inr rfl) (pe_ix ix_str pe_str (pe_op op_mod (pe_op op_fdivL (pv 1) pe_int) pe_int) (fun _ _ => rfl))) (pss_cons (ps_if (pt_cmpR op_eq (pe_op op_mod (pv 1) pe_int) pe_int (nomark _)) (pss_one (ps_ret (pe_op op_add_str (pe_op op_add_str (pe_slice sl_str (pv 0) po_none (po_some (pv 2))) (pv 3)) (pe_slice sl_str (pv 0) (po_some (pv 2)) po_none)))) pss_nil) (pss_cons (ps_if (pt_cmpR op_eq (pe_op op_mod (pv 1) pe_int) pe_int (nomark _)) (pss_one (ps_ret (pe_op op_add_str (pe_slice sl_str (pv 0) po_none (po_some (pv 2))) (pe_slice sl_str (pv 0) (po_some (pe_op op_add (pv 2) pe_int)) po_none)))) pss_nil) (pss_one (ps_ret (pe_op op_add_str (pe_op op_add_str (pe_slice sl_str (pv 0) po_none (po_some (pv 2))) (pv 3)) (pe_slice sl_str (pv 0) (po_some (pe_op op_add (pv 2) pe_int)) po_none)))))))), ?_⟩
    show tSeq _ _ _ [some (.str z), some (.int c), none, none] H
    refine seq_step fun R hR => ?_
    walk_at "rd"
    refine ⟨le_line (by omega), by omega, hR _ _ ?_⟩
    clear hR
    have a0 := Int.emod_nonneg (c / 3) (show ((z.length : Int) + 1) ≠ 0 by omega)
    generalize c / 3 % ((z.length : Int) + 1) = a1 at a0 ⊢
    refine seq_step fun R hR => ?_
    walk_at "rd"
    have x0 := Int.emod_nonneg (c / 300) (show (17 : Int) ≠ 0 by decide)
    have x1 := Int.emod_lt_of_pos (c / 300) (show (0 : Int) < 17 by decide)
    have hl : (Str.ofString "0123456789/- .+a1").cps.toList.length = 17 := by decide +kernel
    have lt : (c / 300 % 17).toNat < (Str.ofString "0123456789/- .+a1").cps.toList.length := by omega
    have e := atI_nat (xs := (Str.ofString "0123456789/- .+a1").cps.toList) (j := (c / 300 % 17).toNat) (List.getElem?_eq_getElem lt)
    rw [Int.toNat_of_nonneg x0] at e
    have osg := Sw.Ok.sg (Sw.ok_of "0123456789/- .+a1" _ (List.getElem_mem lt))
    refine ⟨_, _, _, rfl, rfl, by decide +kernel, e, hR _ _ ?_⟩
    clear hR
    generalize (Str.ofString "0123456789/- .+a1").cps.toList[(c / 300 % 17).toNat] = ch at osg ⊢
    have lsg : (sg ch).length = 1 := rfl
    have sl : ∀ lo hi, (Txt.slice z lo hi).length ≤ z.length := fun lo hi => Txt.slice_le z lo hi
    refine seq_step fun R hR => ?_
    walk_at "rd"
    have sk : ∀ lo hi, Sw.Ok (Txt.slice z lo hi) := fun lo hi => ok.slice lo hi
    have p1 := sl none (some a1)
    have p2 := sl (some a1) none
    have p3 := sl (some (a1 + 1)) none
    have q1 := sk none (some a1)
    have q2 := sk (some a1) none
    have q3 := sk (some (a1 + 1)) none
    have l1 : (Txt.slice z none (some a1) ++ sg ch).length = (Txt.slice z none (some a1)).length + 1 := Sw.app_len _ _
    refine ite2 (fun _ => ?_) fun _ => hR _ _ ?_
    · refine ⟨z, rfl, le_line (by omega), _, rfl, le_line (by show (Txt.slice z none (some a1)).length + 1 ≤ _; omega), z, rfl, le_line (by omega), _, rfl, le_line (by show (Txt.slice z none (some a1) ++ sg ch).length + _ ≤ _; omega), ?_⟩
      exact k _ (by show (Txt.slice z none (some a1) ++ sg ch ++ Txt.slice z (some a1) none).length ≤ _; rw [Sw.app_len]; omega) ((q1.app osg).app q2)
    clear hR
    refine seq_step fun R hR => ?_
    walk_at "rd"
    refine ite2 (fun _ => ?_) fun _ => hR _ _ ?_
    · refine ⟨z, rfl, le_line (by omega), ?_⟩
      walk_at "rd"
      refine ⟨z, rfl, le_line (by omega), ?_⟩
      walk_at "rd"
      refine ⟨le_line (by omega), ?_⟩
      exact k _ (by rw [Sw.app_len]; omega) (q1.app q3)
    clear hR
    walk_at "rd"
    refine ⟨z, rfl, le_line (by omega), _, rfl, le_line (by show (Txt.slice z none (some a1)).length + 1 ≤ _; omega), z, rfl, le_line (by omega), _, rfl, le_line (by show (Txt.slice z none (some a1) ++ sg ch).length + _ ≤ _; omega), ?_⟩
    exact k _ (by show (Txt.slice z none (some a1) ++ sg ch ++ Txt.slice z (some (a1 + 1)) none).length ≤ _; rw [Sw.app_len]; omega) ((q1.app osg).app q3)
def odd1 : List Str := [Str.ofString "", Str.ofString "-", Str.ofString "/", Str.ofString "1/", Str.ofString "/2", Str.ofString "-/2", Str.ofString "1/0", Str.ofString "0/1", Str.ofString "0/2", Str.ofString "2/1", Str.ofString "2/4", Str.ofString "-0", Str.ofString "-0/3", Str.ofString "00", Str.ofString "01", Str.ofString "1/02"]
def odd2 : List Str := [Str.ofString "+1", Str.ofString "1/+2", Str.ofString "1/-2", Str.ofString "--1", Str.ofString " 1", Str.ofString "1 ", Str.ofString "1 /2", Str.ofString "1/ 2", Str.ofString "1//2", Str.ofString "1/2/3", Str.ofString "1.5", Str.ofString "a", Str.ofString "1a", Str.ofString "1\n"]
def odd3 : List Str := [Str.ofString "-1/2", Str.ofString "-7", Str.ofString "0", Str.ofString "7/3", Str.ofString "10/21", Str.ofString "1_0", Str.ofString "x/y", Txt.mul (Str.ofString "9") 40, Txt.mul (Str.ofString "9") 41, Str.ofString "1/" ++ Txt.mul (Str.ofString "7") 41]
theorem odd_ok : ∀ z ∈ (odd1 ++ odd2) ++ odd3, z.length ≤ 100 ∧ PyData.strOk z = true := by decide +kernel
def spOdd : Sp := fun vs H Q _ => ∃ c : Int, vs = [.int c] ∧ ∀ z H', Same H H' → z.length ≤ 100 → Sw.Ok z → Q (.str z) H'
theorem d__law_odd (T : Txt K mg c_WheelError c_NoText) : Def P w K mg base (CXX P w) 1 "_law_odd" ["_law_cell"] spOdd := by
  refine T.src__law_odd.okN (k := 0) sc__law_odd (fun vs H Q E h => ?_) (fun f cdv A outer s H vs Q E hr h => ?_)
  · obtain ⟨c, rfl, _⟩ := h
    rfl
  · obtain ⟨c, rfl, k⟩ := h
    refine ex_x ⟨_, (psx_cons (psx_set (i := 1) sc__law_odd.nd rfl (by first | exact Or.inl rfl | exact Or.inr rfl) (pex_lst (px_str (px_str (px_str (px_str (px_str (px_str (px_str (px_str (px_str (px_str (px_str (px_str (px_str (px_str (px_str (px_str px_nil)))))))))))))))))) (psx_cons (psx_set (i := 1) sc__law_odd.nd rfl (by first | exact Or.inl rfl | exact Or.inr rfl) (pex_op op_cat (pv 1) (pex_lst (px_str (px_str (px_str (px_str (px_str (px_str (px_str (px_str (px_str (px_str (px_str (px_str (px_str (px_str px_nil))))))))))))))))) (psx_cons (psx_set (i := 1) sc__law_odd.nd rfl (by first | exact Or.inl rfl | exact Or.inr rfl) (pex_op op_cat (pv 1) (pex_lst (px_str (px_str (px_str (px_str (px_str (px_str (px_str (px_cons (pe_op op_mulS pe_str pe_int) (px_cons (pe_op op_mulS pe_str pe_int) (px_cons (pe_op op_add_str pe_str (pe_op op_mulS pe_str pe_int)) px_nil))))))))))))) (psx_one (psx_of (ps_ret (pe_ix (ix_listK K rfl) (pv 1) (pe_op op_mod (pv 0) (pe_callB (call_lenK K rfl) rfl T.no_len boot_len (pa_cons (pv 1) pa_nil))) (fun _ _ => rfl)))))))), ?_⟩
    show tSeq _ _ _ [some (.int c), none] H
    refine seq_step fun R hR => ?_
    walk_at "rd"
    intro p1 f1
    refine hR _ _ ?_
    clear hR
    have s1 := same_new (o := .lst (odd1.map V.str)) f1
    have h1 : upd H p1 (.lst (odd1.map V.str)) p1 = some (.lst (odd1.map V.str)) := upd_same
    refine (show tSeq _ _ _ [some (.int c), some (.ref p1)] (upd H p1 (.lst (odd1.map V.str))) from ?_)
    generalize upd H p1 (.lst (odd1.map V.str)) = H1 at s1 h1 ⊢
    refine seq_step fun R hR => ?_
    walk_at "rd"
    intro p2 f2
    have s2 := same_new (o := .lst (odd2.map V.str)) f2
    have h2 : upd H1 p2 (.lst (odd2.map V.str)) p2 = some (.lst (odd2.map V.str)) := upd_same
    have h1 := s2 _ _ h1
    have s1 := s1.trans s2
    refine (show rCat (V.ref p1) (V.ref p2) (upd H1 p2 (.lst (odd2.map V.str))) _ from ?_)
    generalize upd H1 p2 (.lst (odd2.map V.str)) = H2 at s1 h1 h2 ⊢
    refine ⟨p1, p2, _, _, rfl, rfl, h1, h2, le_line (by decide), fun p3 f3 => hR _ _ ?_⟩
    clear hR
    have h3 : upd H2 p3 (.lst (odd1.map V.str ++ odd2.map V.str)) p3 = some (.lst ((odd1 ++ odd2).map V.str)) := by rw [upd_same, List.map_append]
    have s1 := s1.trans (same_new (o := .lst (odd1.map V.str ++ odd2.map V.str)) f3)
    generalize upd H2 p3 (.lst (odd1.map V.str ++ odd2.map V.str)) = H3 at s1 h3 ⊢
    clear h1 h2 s2 f1 f2 f3
    refine seq_step fun R hR => ?_
    walk_at "rd"
    refine ⟨_, 40, rfl, rfl, by decide, by decide, by decide +kernel, _, 41, rfl, rfl, by decide, by decide, by decide +kernel, _, 41, rfl, rfl, by decide, by decide, by decide +kernel, _, rfl, le_line (by decide +kernel), fun p4 f4 => ?_⟩
    have s4 := same_new (o := .lst (odd3.map V.str)) f4
    have h4 : upd H3 p4 (.lst (odd3.map V.str)) p4 = some (.lst (odd3.map V.str)) := upd_same
    have h3 := s4 _ _ h3
    have s1 := s1.trans s4
    refine (show rCat (V.ref p3) (V.ref p4) (upd H3 p4 (.lst (odd3.map V.str))) _ from ?_)
    generalize upd H3 p4 (.lst (odd3.map V.str)) = H4 at s1 h3 h4 ⊢
    refine ⟨p3, p4, _, _, rfl, rfl, h3, h4, le_line (by rw [List.length_map, List.length_map]; decide), fun p5 f5 => hR _ _ ?_⟩
    clear hR
    have h5 : upd H4 p5 (.lst ((odd1 ++ odd2).map V.str ++ odd3.map V.str)) p5 = some (.lst (((odd1 ++ odd2) ++ odd3).map V.str)) := by rw [upd_same, List.map_append (l₁ := odd1 ++ odd2)]
    have s1 := s1.trans (same_new (o := .lst ((odd1 ++ odd2).map V.str ++ odd3.map V.str)) f5)
    generalize upd H4 p5 (.lst ((odd1 ++ odd2).map V.str ++ odd3.map V.str)) = H5 at s1 h5 ⊢
    have ok := odd_ok
    have ol : ((odd1 ++ odd2) ++ odd3).length = 40 := rfl
    generalize (odd1 ++ odd2) ++ odd3 = os at h5 ok ol
    walk_at "rd"
    refine len_at (.of h5) ⟨_, rfl, by rw [List.length_map]; omega, ?_⟩
    rw [List.length_map, ol]
    have a0 := Int.emod_nonneg c (show ((40 : Nat) : Int) ≠ 0 by decide)
    have a1 := Int.emod_lt_of_pos c (show (0 : Int) < ((40 : Nat) : Int) by decide)
    generalize c % ((40 : Nat) : Int) = ci at a0 a1
    have e := atI_nat (xs := os.map V.str) (j := ci.toNat) (v := V.str (os[ci.toNat]'(by omega))) (by simp)
    rw [Int.toNat_of_nonneg a0] at e
    obtain ⟨o1, o2⟩ := ok _ (List.getElem_mem (l := os) (n := ci.toNat) (by omega))
    exact ixL_at (.of h5) e (k _ _ s1 o1 (Sw.ok_iff.mp o2))
theorem num_lenZ {n : Int} (h : n.natAbs < 10 ^ 60) : (Sw.numS n).length ≤ 61 := by
  rcases Int.lt_or_le n 0 with q | q
  · have e : n = -(n.natAbs : Int) := by omega
    have l1 : (Str.ofString "-").length = 1 := by decide +kernel
    have := num_len h
    rw [e, Sw.num_neg (by omega), Sw.app_len]
    omega
  · have e : n = (n.natAbs : Int) := by omega
    have := num_len h
    rw [e]; omega
theorem pickX {K : PySem.W.Frag} {H : Hp} {t : Addr} {i : Int} {Q : VK} (xs : List Int) (h0 : 0 ≤ i) (h1 : i < xs.length) (k : ∀ z : Int, xs[i.toNat]? = some z → Q (.int z) (upd H t (.lst (xs.map V.int)))) : rIxL K (.ref t) (.int i) (upd H t (.lst (xs.map V.int))) Q := by
  have := atI_nat (xs := xs.map V.int) (j := i.toNat) (v := V.int (xs[i.toNat]'(by omega))) (by simp)
  rw [Int.toNat_of_nonneg h0] at this
  exact ixL_at (.of upd_same) this (k _ (List.getElem?_eq_getElem _))
theorem ok_law {f : Addr} {fd : FuncData} (F : Fun K "law" "law" s_law f fd) (T : Txt K mg c_WheelError c_NoText) : FnOk P w K mg base CX0 6 f fd ["_law_script"] (spLaw K) := by
  have D__law_cell_at := d__law_cell_at (P := P) (w := w) (base := base) T
  have D__law_divisor := d__law_divisor (P := P) (w := w) (base := base) T
  have D_show_fraction := d_show_fraction (P := P) (w := w) (base := base) T
  have D__law_read := d__law_read (P := P) (w := w) (base := base) T
  have D__law_pair := d__law_pair (P := P) (w := w) (base := base) T
  have D__law_right := d__law_right (P := P) (w := w) (base := base) T
  have D__law_odd := d__law_odd (P := P) (w := w) (base := base) T
  have D__law_changed := d__law_changed (P := P) (w := w) (base := base) T
  refine F.ok sc_law (fun vs H Q E h => ?_) (fun cdv A outer s H vs Q E hr h => ?_)
  · obtain ⟨a, ns, rfl, _⟩ := h
    rfl
  · obtain ⟨sc, ns, rfl, hS, hlen, k⟩ := h
    refine ⟨_, (pss_cons (ps_set (i := 1) sc_law.nd rfl (by first | exact Or.inl rfl | exact Or.inr rfl) (pe_op op_mod (pe_callX D__law_cell_at (hr.mono (by decide)) rfl passN (pa_cons (pv 0) (pa_cons pe_int pa_nil))) (pe_op op_pow pe_int pe_int))) (pss_cons (ps_set (i := 2) sc_law.nd rfl (by first | exact Or.inl rfl | exact Or.inr rfl) (pe_op op_add pe_int (pe_op op_mod (pe_callX D__law_cell_at (hr.mono (by decide)) rfl passN (pa_cons (pv 0) (pa_cons pe_int pa_nil))) (pe_op op_sub (pe_op op_pow pe_int pe_int) pe_int)))) (pss_cons (ps_set (i := 3) sc_law.nd rfl (by first | exact Or.inl rfl | exact Or.inr rfl) (pe_op op_mod (pe_callX D__law_cell_at (hr.mono (by decide)) rfl passN (pa_cons (pv 0) (pa_cons pe_int pa_nil))) pe_int)) (pss_cons (ps_if (pt_cmpR op_lt (pv 3) pe_int (nomark _)) (pss_cons (ps_set (i := 2) sc_law.nd rfl (by first | exact Or.inl rfl | exact Or.inr rfl) (pe_op op_add pe_int (pe_op op_mod (pe_callX D__law_cell_at (hr.mono (by decide)) rfl passN (pa_cons (pv 0) (pa_cons pe_int pa_nil))) (pe_ix (ix_listK K rfl) (pe_lst (pa_cons pe_int (pa_cons pe_int (pa_cons pe_int (pa_cons pe_int pa_nil))))) (pv 3) (fun _ _ => rfl))))) (pss_one (ps_set (i := 1) sc_law.nd rfl (by first | exact Or.inl rfl | exact Or.inr rfl) (pe_op op_mod (pv 1) (pe_ix (ix_listK K rfl) (pe_lst (pa_cons (pe_op op_pow pe_int pe_int) (pa_cons pe_int (pa_cons pe_int (pa_cons pe_int pa_nil))))) (pv 3) (fun _ _ => rfl)))))) pss_nil) (pss_cons (ps_if (pt_cmpR op_eq (pv 3) pe_int (nomark _)) (pss_one (ps_set (i := 1) sc_law.nd rfl (by first | exact Or.inl rfl | exact Or.inr rfl) (pe_op op_mod (pe_op op_mulL (pv 2) (pe_op op_mod (pv 1) pe_int)) (pe_op op_pow pe_int pe_int)))) pss_nil) (pss_cons (ps_set (i := 4) sc_law.nd rfl (by first | exact Or.inl rfl | exact Or.inr rfl) (pe_callX D__law_divisor (hr.mono (by decide)) rfl passN (pa_cons (pv 1) (pa_cons (pv 2) pa_nil)))) (pss_cons (ps_set (i := 5) sc_law.nd rfl (by first | exact Or.inl rfl | exact Or.inr rfl) (pe_tup (pa_cons (pe_op op_fdivL (pv 1) (pv 4)) (pa_cons (pe_op op_fdivL (pv 2) (pv 4)) pa_nil)))) (pss_cons (ps_if (pt_cmpR op_eq (pe_op op_mod (pv 3) pe_int) pe_int (nomark _)) (pss_one (ps_set (i := 5) sc_law.nd rfl (by first | exact Or.inl rfl | exact Or.inr rfl) (pe_tup (pa_cons (pe_op op_sub pe_int (pe_ix (ix_tupK K rfl) (pv 5) pe_int (fun _ _ => rfl))) (pa_cons (pe_ix (ix_tupK K rfl) (pv 5) pe_int (fun _ _ => rfl)) pa_nil))))) pss_nil) (pss_cons (ps_set (i := 6) sc_law.nd rfl (by first | exact Or.inl rfl | exact Or.inr rfl) (pe_callTy call_strI rfl T.no_str boot_str (pa_cons (pe_ix (ix_tupK K rfl) (pv 5) pe_int (fun _ _ => rfl)) pa_nil))) (pss_cons (ps_if (pt_cmpR op_gt (pe_ix (ix_tupK K rfl) (pv 5) pe_int (fun _ _ => rfl)) pe_int (nomark _)) (pss_one (ps_set (i := 6) sc_law.nd rfl (by first | exact Or.inl rfl | exact Or.inr rfl) (pe_op op_add_str (pe_op op_add_str (pv 6) pe_str) (pe_callTy call_strI rfl T.no_str boot_str (pa_cons (pe_ix (ix_tupK K rfl) (pv 5) pe_int (fun _ _ => rfl)) pa_nil))))) pss_nil) (pss_cons (ps_if (PW.pt (pw_or (pt_cmpR op_ne (pe_callX D_show_fraction (hr.mono (by decide)) rfl passN (pa_cons (pv 5) pa_nil)) (pv 6) (nomark _)) (pw_or (pt_cmpR (op_neDK K rfl hr.units) (pe_callX D__law_read (hr.mono (by decide)) rfl passN (pa_cons (pv 6) pa_nil)) (pv 5) (nomark _)) (pw_or1 (pt_not (pt_val (pe_callX D__law_pair (hr.mono (by decide)) rfl passN (pa_cons (pe_callX D__law_read (hr.mono (by decide)) rfl passN (pa_cons (pv 6) pa_nil)) pa_nil)))))))) (pss_one (ps_ret pe_bl)) pss_nil) (pss_cons (ps_set (i := 7) sc_law.nd rfl (by first | exact Or.inl rfl | exact Or.inr rfl) (pe_callX D__law_cell_at (hr.mono (by decide)) rfl passN (pa_cons (pv 0) (pa_cons pe_int pa_nil)))) (pss_cons (ps_set (i := 8) sc_law.nd rfl (by first | exact Or.inl rfl | exact Or.inr rfl) (pe_callX D__law_changed (hr.mono (by decide)) rfl passN (pa_cons (pv 6) (pa_cons (pv 7) pa_nil)))) (pss_cons (ps_set (i := 9) sc_law.nd rfl (by first | exact Or.inl rfl | exact Or.inr rfl) (pe_callX D__law_changed (hr.mono (by decide)) rfl passN (pa_cons (pv 8) (pa_cons (pe_callX D__law_cell_at (hr.mono (by decide)) rfl passN (pa_cons (pv 0) (pa_cons pe_int pa_nil))) pa_nil)))) (pss_one (ps_ret (pe_and (pe_callX D__law_right (hr.mono (by decide)) rfl passN (pa_cons (pv 8) pa_nil)) (pe_and (pe_callX D__law_right (hr.mono (by decide)) rfl passN (pa_cons (pv 9) pa_nil)) (pe_one (pe_callX D__law_right (hr.mono (by decide)) rfl passN (pa_cons (pe_callX D__law_odd (hr.mono (by decide)) rfl passN (pa_cons (pe_op op_fdivL (pv 7) pe_int) pa_nil)) pa_nil))))))))))))))))))))), ?_⟩
    show tSeq _ _ _ [some (.ref sc), none, none, none, none, none, none, none, none, none] H
    have hS : ∀ {H'}, Same H H' → SqL K H' sc (ns.map V.int) := fun s => s.seq hS
    refine seq_step fun R hR => ?_
    walk_at "rd"
    refine spCell_of (hS (Same.refl _)) (by omega) ⟨_, rfl, hR _ _ ?_⟩
    clear hR
    have t0 := Int.emod_nonneg (cellI ns 0) (show (10000000000000000000000000000000000000000 : Int) ≠ 0 by decide)
    have t1 := Int.emod_lt_of_pos (cellI ns 0) (show (0 : Int) < 10000000000000000000000000000000000000000 by decide)
    generalize cellI ns 0 % 10000000000000000000000000000000000000000 = t at t0 t1 ⊢
    refine seq_step fun R hR => ?_
    walk_at "rd"
    refine spCell_of (hS (Same.refl _)) (by omega) ⟨_, rfl, hR _ _ ?_⟩
    clear hR
    have b0 := Int.emod_nonneg (cellI ns 1) (show (9999999999999999999999999999999999999999 : Int) ≠ 0 by decide)
    have b1 := Int.emod_lt_of_pos (cellI ns 1) (show (0 : Int) < 9999999999999999999999999999999999999999 by decide)
    generalize hb : 1 + cellI ns 1 % 9999999999999999999999999999999999999999 = b
    have b0 : 1 ≤ b ∧ b < 10 ^ 40 := by omega
    clear hb b1
    refine seq_step fun R hR => ?_
    walk_at "rd"
    refine spCell_of (hS (Same.refl _)) (by omega) ⟨_, rfl, hR _ _ ?_⟩
    clear hR
    have w0 := Int.emod_nonneg (cellI ns 2) (show (12 : Int) ≠ 0 by decide)
    have w1 := Int.emod_lt_of_pos (cellI ns 2) (show (0 : Int) < 12 by decide)
    generalize cellI ns 2 % 12 = wy at w0 w1 ⊢
    have t1 : t < 10 ^ 40 := t1
    refine seq_step fun R hR => ?_
    have g1 : ∀ H' t b, Same H H' → 0 ≤ t → t < 10 ^ 40 → 1 ≤ b ∧ b < 10 ^ 40 → R [some (.ref sc), some (.int t), some (.int b), some (.int wy), none, none, none, none, none, none] H' := by
      clear t0 t1 b0
      intro H1 t b s1 t0 t1 b0
      refine hR _ _ ?_
      clear hR
      refine seq_step fun R hR => ?_
      have g2 : ∀ t, 0 ≤ t → t < 10 ^ 40 → R [some (.ref sc), some (.int t), some (.int b), some (.int wy), none, none, none, none, none, none] H1 := by
        clear t0 t1
        intro t t0 t1
        refine hR _ _ ?_
        clear hR
        refine seq_step fun R hR => ?_
        walk_at "rd"
        refine ⟨t, b, rfl, by omega, hR _ _ ?_⟩
        clear hR
        have gp : 0 < Sw.dv t b := Sw.dv_pos (by omega)
        have gq := Sw.dv_quot (a := t) (b := b) (by omega)
        have gl := Sw.dv_l t b
        have gr := Sw.dv_r t b
        refine seq_step fun R hR => ?_
        walk_at "rd"
        have dz : ∀ x : Int, x < 10 ^ 40 → 0 ≤ x → x.natAbs < 1606938044258990275541962092341162602522202993782792835301376 := fun x h1 h2 => by omega
        have gb : Sw.dv t b ≤ b := Int.le_of_dvd (by omega) gr
        refine ⟨⟨gp, Sw.Sz.lit (dz _ (by omega) (by omega))⟩, ⟨gp, Sw.Sz.lit (dz _ (by omega) (by omega))⟩, fun p fp => hR _ _ ?_⟩
        clear hR
        have s2 := s1.trans (same_new (o := .tup [.int (t / Sw.dv t b), .int (b / Sw.dv t b)]) fp)
        have hp : upd H1 p (.tup [.int (t / Sw.dv t b), .int (b / Sw.dv t b)]) p = some (.tup [.int (t / Sw.dv t b), .int (b / Sw.dv t b)]) := upd_same
        generalize upd H1 p (.tup [.int (t / Sw.dv t b), .int (b / Sw.dv t b)]) = H2 at s2 hp ⊢
        have n1 : (t / Sw.dv t b).natAbs < 10 ^ 40 := by
          have h1 := Int.ediv_nonneg t0 (Int.le_of_lt gp)
          have h2 := Int.ediv_le_self (Sw.dv t b) t0
          omega
        have d1 : 1 ≤ b / Sw.dv t b := Int.le_ediv_of_mul_le gp (by omega)
        have d2 : b / Sw.dv t b < 10 ^ 40 := by
          have h2 := Int.ediv_le_self (Sw.dv t b) (show 0 ≤ b by omega)
          omega
        generalize t / Sw.dv t b = n at hp n1 gq
        generalize b / Sw.dv t b = d at hp d1 d2 gq
        generalize Sw.dv t b = sh
        clear gl gr gp gb dz
        refine seq_step fun R hR => ?_
        have g3 : ∀ H2 p n, Same H H2 → H2 p = some (.tup [.int n, .int d]) → n.natAbs < 10 ^ 40 → Sw.dv n d = 1 → R [some (.ref sc), some (.int t), some (.int b), some (.int wy), some (.int sh), some (.ref p), none, none, none, none] H2 := by
          clear s2 hp n1 gq
          intro H2 p n s2 hp n1 gq
          refine hR _ _ ?_
          clear hR
          have hT : ∀ {H'}, Same H2 H' → SqT K H' p [.int n, .int d] := fun s => .of (s _ _ hp)
          refine seq_step fun R hR => ?_
          walk_at "rd"
          have lg : n.natAbs.log2 < 1920 := log_lt (n := n.natAbs) (by omega)
          refine ixT_at (hT (Same.refl _)) (v := .int n) rfl ⟨n, rfl, lg, hR _ _ ?_⟩
          clear hR
          have ln : (Sw.numS n).length ≤ 61 := num_lenZ (by omega)
          refine seq_step fun R hR => ?_
          have g4 : R [some (.ref sc), some (.int t), some (.int b), some (.int wy), some (.int sh), some (.ref p), some (.str (Sw.fracS (n, d))), none, none, none] H2 := by
            refine hR _ _ ?_
            clear hR
            have back := Sw.frac_back d1 gq n1 d2
            have lz : (Sw.fracS (n, d)).length ≤ 130 := by
              unfold Sw.fracS
              simp only
              split
              · omega
              · rw [Sw.app_len, Sw.app_len]
                have : Sw.slash.length = 1 := by decide +kernel
                have : (Sw.numS d).length ≤ 61 := num_lenZ (by omega)
                omega
            have okz : Sw.Ok (Sw.fracS (n, d)) := by
              unfold Sw.fracS
              simp only
              split
              · exact Sw.ok_of _
              · exact ((Sw.ok_of _).app (Sw.ok_of _)).app (Sw.ok_of _)
            refine seq_step fun R hR => ?_
            walk_at "rd"
            refine ⟨p, n, d, rfl, hT (Same.refl _), by omega, by omega, by omega, fun H3 s3 => ⟨rfl, ?_⟩⟩
            rw [if_pos rfl]
            generalize Sw.fracS (n, d) = z at *
            refine ⟨z, rfl, by omega, fun q hq H4 t4 s4 ht4 => ?_, fun hn => (by rw [back] at hn; cases hn)⟩
            rw [back] at hq
            cases hq
            refine ne_same (.tup (.of ht4) (.cons (.int _) (.cons (.int _) .nil))) (.tup (hT (s3.trans s4)) (.cons (.int _) (.cons (.int _) .nil))) (shaped_two _ _) ⟨_, rfl, ?_⟩
            rw [if_neg (by decide)]
            refine ⟨z, rfl, by omega, fun q hq H5 t5 s5 ht5 => ?_, fun hn => (by rw [back] at hn; cases hn)⟩
            refine ⟨t5, _, _, rfl, ht5, fun H6 s6 => ⟨_, rfl, ?_⟩⟩
            rw [if_neg (by decide)]
            refine hR _ _ ?_
            clear hR
            have s7 := ((((s2.trans s3).trans s4).trans s5).trans s6)
            refine seq_step fun R hR => ?_
            walk_at "rd"
            refine spCell_of (hS s7) (by omega) (hR _ _ ?_)
            clear hR
            generalize cellI ns 3 = c3
            refine seq_step fun R hR => ?_
            walk_at "rd"
            refine ⟨z, c3, rfl, by omega, okz, fun z2 lz2 ok2 => hR _ _ ?_⟩
            clear hR
            refine seq_step fun R hR => ?_
            walk_at "rd"
            refine spCell_of (hS s7) (by omega) ⟨z2, _, rfl, by omega, ok2, fun z3 lz3 ok3 => hR _ _ ?_⟩
            clear hR
            walk_at "rd"
            refine ⟨z2, rfl, by omega, ok2, fun H8 s8 => ⟨_, rfl, ?_⟩⟩
            rw [if_pos rfl]
            refine ⟨z3, rfl, by omega, ok3, fun H9 s9 => ⟨_, rfl, ?_⟩⟩
            rw [if_pos rfl]
            refine ⟨_, rfl, fun z4 H10 s10 lz4 ok4 => ⟨z4, rfl, by omega, ok4, fun H11 s11 => k _⟩⟩
          clear hR
          walk_at "rd"
          refine ixT_at (hT (Same.refl _)) (v := .int d) rfl ⟨d, rfl, ?_⟩
          unfold Sw.fracS at g4
          simp only at g4
          refine ite2 (fun c => ?_) fun c => ?_
          · rw [if_neg (by omega)] at g4
            have lg2 : d.natAbs.log2 < 1920 := log_lt (n := d.natAbs) (by omega)
            have l1 : (Str.ofString "/").length = 1 := by decide +kernel
            have ld : (Sw.numS d).length ≤ 61 := num_lenZ (by omega)
            have l2 : (Sw.numS n ++ Str.ofString "/").length = (Sw.numS n).length + (Str.ofString "/").length := Sw.app_len _ _
            exact ⟨le_line (by show (Sw.numS n).length + (Str.ofString "/").length ≤ _; omega), ixT_at (hT (Same.refl _)) (v := .int d) rfl ⟨d, rfl, lg2, _, rfl, le_line (by show (Sw.numS n ++ Str.ofString "/").length + (Sw.numS d).length ≤ _; omega), g4⟩⟩
          · rw [if_pos (by omega)] at g4
            exact g4
        clear hR
        walk_at "rd"
        have hT : SqT K H2 p [.int n, .int d] := .of hp
        refine ite2 (fun c => ixT_at hT (v := .int n) rfl ⟨n, rfl, ixT_at hT (v := .int d) rfl fun p2 f2 => ?_⟩) fun c => g3 _ _ _ s2 hp n1 gq
        exact g3 _ _ _ (s2.trans (same_new f2)) upd_same (by omega) (by rw [Sw.dv_sub0]; exact gq)
      clear hR
      walk_at "rd"
      refine ite2 (fun c => ⟨⟨Sw.Sz.lit (by omega), Sw.Sz.lit (by omega)⟩, g2 _ (Int.emod_nonneg _ (by decide)) (Int.emod_lt_of_pos _ (by decide))⟩) fun c => g2 t t0 t1
    clear hR
    walk_at "rd"
    refine ite2 (fun c => ?_) fun c => g1 _ _ _ (Same.refl _) t0 t1 b0
    refine seq_step fun R hR => ?_
    walk_at "rd"
    refine spCell_of (hS (Same.refl _)) (by omega) fun p fp => ?_
    have m0 : ∀ {u : Int} {i : Nat}, ([1, 12, 1000, 12] : List Int)[i]? = some u → 1 ≤ u ∧ u ≤ 1000 := fun hu => by
      have hm := List.mem_of_getElem? hu
      simp only [List.mem_cons, List.not_mem_nil, or_false] at hm
      omega
    have m1 : ∀ {u : Int} {i : Nat}, ([10 ^ 40, 12, 1000, 2] : List Int)[i]? = some u → 1 ≤ u ∧ u ≤ 10 ^ 40 := fun hu => by
      have hm := List.mem_of_getElem? hu
      simp only [List.mem_cons, List.not_mem_nil, or_false] at hm
      omega
    refine pickX [1, 12, 1000, 12] w0 c fun u hu => ?_
    obtain ⟨u0, u1⟩ := m0 hu
    refine ⟨_, rfl, u, rfl, by omega, hR _ _ ?_⟩
    clear hR
    have s1 := same_new (o := .lst (([1, 12, 1000, 12] : List Int).map V.int)) fp
    generalize upd H p (.lst (([1, 12, 1000, 12] : List Int).map V.int)) = H1 at s1 ⊢
    have e0 := Int.emod_nonneg (cellI ns 1) (show u ≠ 0 by omega)
    have e1 := Int.emod_lt_of_pos (cellI ns 1) (show 0 < u by omega)
    generalize hb : 1 + cellI ns 1 % u = b2
    have b2b : 1 ≤ b2 ∧ b2 < 10 ^ 40 := by omega
    walk_at "rd"
    intro p2 f2
    refine pickX [10 ^ 40, 12, 1000, 2] w0 c fun v hv => ?_
    obtain ⟨v0, v1⟩ := m1 hv
    have e2 := Int.emod_nonneg t (show v ≠ 0 by omega)
    have e3 := Int.emod_lt_of_pos t (show 0 < v by omega)
    exact ⟨v, rfl, by omega, g1 _ _ _ (s1.trans (same_new f2)) e2 (by omega) b2b⟩
end
theorem all_mk {l : PySem.W.OpenLaw} {w : World} {K : PySem.W.Frag} {h : Heap} {mg : Str → Option Value} {fa f1 f2 f3 f4 f5 f6 f7 f8 f9 f10 f11 f12 f13 f14 f15 f16 f17 f18 : Addr} (X : K.In h) (G : h.Ns mainGlobals mg) (hfa : mg "law" = some (.ref fa))
    {od1 an1 od2 an2 od3 an3 od4 an4 od5 an5 od6 an6 od7 an7 od8 an8 od9 an9 od10 an10 od11 an11 od12 an12 od13 an13 od14 an14 od15 an15 od16 an16 od17 an17 od18 an18 : Option Addr} {sl1 sl2 sl3 sl4 sl5 sl6 sl7 sl8 sl9 sl10 sl11 sl12 sl13 sl14 sl15 sl16 sl17 sl18 : Array (Option Value)} {oc1 kV1 dc1 pm1 cd1 ct1 oc2 kV2 dc2 pm2 cd2 ct2 oc3 kV3 dc3 pm3 cd3 ct3 oc4 kV4 dc4 pm4 cd4 ct4 oc5 kV5 dc5 pm5 cd5 ct5 oc6 kV6 dc6 pm6 cd6 ct6 oc7 kV7 dc7 pm7 cd7 ct7 oc8 kV8 dc8 pm8 cd8 ct8 oc9 kV9 dc9 pm9 cd9 ct9 oc10 kV10 dc10 pm10 cd10 ct10 oc11 kV11 dc11 pm11 cd11 ct11 oc12 kV12 dc12 pm12 cd12 ct12 oc13 kV13 dc13 pm13 cd13 ct13 oc14 kV14 dc14 pm14 cd14 ct14 oc15 kV15 dc15 pm15 cd15 ct15 oc16 kV16 dc16 pm16 cd16 ct16 oc17 kV17 dc17 pm17 cd17 ct17 oc18 kV18 dc18 pm18 cd18 ct18 : Value}
    {tk_FIGURES tk_MOST_FRACTION_FIGURES : Tok}
    {c_WheelError c_NoText : Addr}
    {cd_WheelError cd_NoText : ClassData}
    (b_WheelError : PySem.W.nsIn K mainGlobals "WheelError" = some (some (.ref c_WheelError)))
    (hd_WheelError : PySem.W.hasDictIn K c_WheelError = true)
    (ga_WheelError : PySem.W.findIn K (.ref c_WheelError) "__getattribute__" = some (some (.builtin "BaseException.__getattribute__")))
    (gn_WheelError : PySem.W.findIn K (.ref c_WheelError) "__getattr__" = some none)
    (sa_WheelError : PySem.W.findIn K (.ref c_WheelError) "__setattr__" = some (some (.builtin "object.__setattr__")))
    (cl_WheelError : PySem.W.findIn K (.ref c_WheelError) "__class__" = some (some (.builtin "object.__class__")))
    (be_WheelError : PySem.W.mroIn K c_WheelError (.type "BaseException") = some true)
    (ob_WheelError : PySem.W.mroIn K c_WheelError (.type "object") = some true)
    (kp_WheelError : PySem.W.keepIn K (.ref c_WheelError) = true)
    (ci_WheelError : PySem.W.clsIn K c_WheelError = some cd_WheelError)
    (ti_WheelError : PySem.W.typeIn K (.ref c_WheelError) = some (.type "type"))
    (ex_WheelError : PySem.W.excIn K c_WheelError bmV "ValueError.__new__" = true)
    (b_NoText : PySem.W.nsIn K mainGlobals "NoText" = some (some (.ref c_NoText)))
    (hd_NoText : PySem.W.hasDictIn K c_NoText = true)
    (ga_NoText : PySem.W.findIn K (.ref c_NoText) "__getattribute__" = some (some (.builtin "BaseException.__getattribute__")))
    (gn_NoText : PySem.W.findIn K (.ref c_NoText) "__getattr__" = some none)
    (sa_NoText : PySem.W.findIn K (.ref c_NoText) "__setattr__" = some (some (.builtin "object.__setattr__")))
    (cl_NoText : PySem.W.findIn K (.ref c_NoText) "__class__" = some (some (.builtin "object.__class__")))
    (be_NoText : PySem.W.mroIn K c_NoText (.type "BaseException") = some true)
    (ob_NoText : PySem.W.mroIn K c_NoText (.type "object") = some true)
    (kp_NoText : PySem.W.keepIn K (.ref c_NoText) = true)
    (ci_NoText : PySem.W.clsIn K c_NoText = some cd_NoText)
    (ti_NoText : PySem.W.typeIn K (.ref c_NoText) = some (.type "type"))
    (ex_NoText : PySem.W.excIn K c_NoText bmV "ValueError.__new__" = true)
    (kg : PySem.W.specialIn K (.builtin "object.__class__") "__get__" = some (some (.builtin "getset_descriptor.__get__")))
    (kt : PySem.W.takesIn K (.builtin "object.__class__") = some true)
    (s_NoText_WheelError : PySem.W.subIn K (.ref c_NoText) (.ref c_WheelError) = some true)
    (n_NoText_WheelError : (Value.ref c_NoText == Value.ref c_WheelError) = false)
    (s_NoText_NoText : PySem.W.subIn K (.ref c_NoText) (.ref c_NoText) = some true)
    (v_NoText_VE : PySem.W.subIn K (.ref c_NoText) (.type "ValueError") = some true)
    (a1 : PySem.W.nsIn K mainGlobals "divisor" = some (some (.ref f1))) (l1 : K.lookup f1 = some ⟨oc1, od1, .func (PySem.W.fnOf "divisor" "divisor" (defArgs s_divisor) (defBody s_divisor) (defScope s_divisor) .none kV1 dc1 pm1 an1 cd1 ct1), sl1⟩) (c1 : PySem.W.codeIn K cd1 "divisor" = true) (k1 : PySem.W.keepIn K (.ref f1) = true)
    (a2 : PySem.W.nsIn K mainGlobals "ratio" = some (some (.ref f2))) (l2 : K.lookup f2 = some ⟨oc2, od2, .func (PySem.W.fnOf "ratio" "ratio" (defArgs s_ratio) (defBody s_ratio) (defScope s_ratio) .none kV2 dc2 pm2 an2 cd2 ct2), sl2⟩) (c2 : PySem.W.codeIn K cd2 "ratio" = true) (k2 : PySem.W.keepIn K (.ref f2) = true)
    (a3 : PySem.W.nsIn K mainGlobals "figures_of" = some (some (.ref f3))) (l3 : K.lookup f3 = some ⟨oc3, od3, .func (PySem.W.fnOf "figures_of" "figures_of" (defArgs s_figures_of) (defBody s_figures_of) (defScope s_figures_of) .none kV3 dc3 pm3 an3 cd3 ct3), sl3⟩) (c3 : PySem.W.codeIn K cd3 "figures_of" = true) (k3 : PySem.W.keepIn K (.ref f3) = true)
    (a4 : PySem.W.nsIn K mainGlobals "show_fraction" = some (some (.ref f4))) (l4 : K.lookup f4 = some ⟨oc4, od4, .func (PySem.W.fnOf "show_fraction" "show_fraction" (defArgs s_show_fraction) (defBody s_show_fraction) (defScope s_show_fraction) .none kV4 dc4 pm4 an4 cd4 ct4), sl4⟩) (c4 : PySem.W.codeIn K cd4 "show_fraction" = true) (k4 : PySem.W.keepIn K (.ref f4) = true)
    (a5 : PySem.W.nsIn K mainGlobals "read_figures" = some (some (.ref f5))) (l5 : K.lookup f5 = some ⟨oc5, od5, .func (PySem.W.fnOf "read_figures" "read_figures" (defArgs s_read_figures) (defBody s_read_figures) (defScope s_read_figures) .none kV5 dc5 pm5 an5 cd5 ct5), sl5⟩) (c5 : PySem.W.codeIn K cd5 "read_figures" = true) (k5 : PySem.W.keepIn K (.ref f5) = true)
    (a6 : PySem.W.nsIn K mainGlobals "read_top" = some (some (.ref f6))) (l6 : K.lookup f6 = some ⟨oc6, od6, .func (PySem.W.fnOf "read_top" "read_top" (defArgs s_read_top) (defBody s_read_top) (defScope s_read_top) .none kV6 dc6 pm6 an6 cd6 ct6), sl6⟩) (c6 : PySem.W.codeIn K cd6 "read_top" = true) (k6 : PySem.W.keepIn K (.ref f6) = true)
    (a7 : PySem.W.nsIn K mainGlobals "read_bottom" = some (some (.ref f7))) (l7 : K.lookup f7 = some ⟨oc7, od7, .func (PySem.W.fnOf "read_bottom" "read_bottom" (defArgs s_read_bottom) (defBody s_read_bottom) (defScope s_read_bottom) .none kV7 dc7 pm7 an7 cd7 ct7), sl7⟩) (c7 : PySem.W.codeIn K cd7 "read_bottom" = true) (k7 : PySem.W.keepIn K (.ref f7) = true)
    (a8 : PySem.W.nsIn K mainGlobals "read_fraction" = some (some (.ref f8))) (l8 : K.lookup f8 = some ⟨oc8, od8, .func (PySem.W.fnOf "read_fraction" "read_fraction" (defArgs s_read_fraction) (defBody s_read_fraction) (defScope s_read_fraction) .none kV8 dc8 pm8 an8 cd8 ct8), sl8⟩) (c8 : PySem.W.codeIn K cd8 "read_fraction" = true) (k8 : PySem.W.keepIn K (.ref f8) = true)
    (a9 : PySem.W.nsIn K mainGlobals "_law_cell_at" = some (some (.ref f9))) (l9 : K.lookup f9 = some ⟨oc9, od9, .func (PySem.W.fnOf "_law_cell_at" "_law_cell_at" (defArgs s__law_cell_at) (defBody s__law_cell_at) (defScope s__law_cell_at) .none kV9 dc9 pm9 an9 cd9 ct9), sl9⟩) (c9 : PySem.W.codeIn K cd9 "_law_cell_at" = true) (k9 : PySem.W.keepIn K (.ref f9) = true)
    (a10 : PySem.W.nsIn K mainGlobals "_law_divisor" = some (some (.ref f10))) (l10 : K.lookup f10 = some ⟨oc10, od10, .func (PySem.W.fnOf "_law_divisor" "_law_divisor" (defArgs s__law_divisor) (defBody s__law_divisor) (defScope s__law_divisor) .none kV10 dc10 pm10 an10 cd10 ct10), sl10⟩) (c10 : PySem.W.codeIn K cd10 "_law_divisor" = true) (k10 : PySem.W.keepIn K (.ref f10) = true)
    (a11 : PySem.W.nsIn K mainGlobals "_law_number" = some (some (.ref f11))) (l11 : K.lookup f11 = some ⟨oc11, od11, .func (PySem.W.fnOf "_law_number" "_law_number" (defArgs s__law_number) (defBody s__law_number) (defScope s__law_number) .none kV11 dc11 pm11 an11 cd11 ct11), sl11⟩) (c11 : PySem.W.codeIn K cd11 "_law_number" = true) (k11 : PySem.W.keepIn K (.ref f11) = true)
    (a12 : PySem.W.nsIn K mainGlobals "_law_due" = some (some (.ref f12))) (l12 : K.lookup f12 = some ⟨oc12, od12, .func (PySem.W.fnOf "_law_due" "_law_due" (defArgs s__law_due) (defBody s__law_due) (defScope s__law_due) .none kV12 dc12 pm12 an12 cd12 ct12), sl12⟩) (c12 : PySem.W.codeIn K cd12 "_law_due" = true) (k12 : PySem.W.keepIn K (.ref f12) = true)
    (a13 : PySem.W.nsIn K mainGlobals "_law_read" = some (some (.ref f13))) (l13 : K.lookup f13 = some ⟨oc13, od13, .func (PySem.W.fnOf "_law_read" "_law_read" (defArgs s__law_read) (defBody s__law_read) (defScope s__law_read) .none kV13 dc13 pm13 an13 cd13 ct13), sl13⟩) (c13 : PySem.W.codeIn K cd13 "_law_read" = true) (k13 : PySem.W.keepIn K (.ref f13) = true)
    (a14 : PySem.W.nsIn K mainGlobals "_law_pair" = some (some (.ref f14))) (l14 : K.lookup f14 = some ⟨oc14, od14, .func (PySem.W.fnOf "_law_pair" "_law_pair" (defArgs s__law_pair) (defBody s__law_pair) (defScope s__law_pair) .none kV14 dc14 pm14 an14 cd14 ct14), sl14⟩) (c14 : PySem.W.codeIn K cd14 "_law_pair" = true) (k14 : PySem.W.keepIn K (.ref f14) = true)
    (a15 : PySem.W.nsIn K mainGlobals "_law_right" = some (some (.ref f15))) (l15 : K.lookup f15 = some ⟨oc15, od15, .func (PySem.W.fnOf "_law_right" "_law_right" (defArgs s__law_right) (defBody s__law_right) (defScope s__law_right) .none kV15 dc15 pm15 an15 cd15 ct15), sl15⟩) (c15 : PySem.W.codeIn K cd15 "_law_right" = true) (k15 : PySem.W.keepIn K (.ref f15) = true)
    (a16 : PySem.W.nsIn K mainGlobals "_law_odd" = some (some (.ref f16))) (l16 : K.lookup f16 = some ⟨oc16, od16, .func (PySem.W.fnOf "_law_odd" "_law_odd" (defArgs s__law_odd) (defBody s__law_odd) (defScope s__law_odd) .none kV16 dc16 pm16 an16 cd16 ct16), sl16⟩) (c16 : PySem.W.codeIn K cd16 "_law_odd" = true) (k16 : PySem.W.keepIn K (.ref f16) = true)
    (a17 : PySem.W.nsIn K mainGlobals "_law_changed" = some (some (.ref f17))) (l17 : K.lookup f17 = some ⟨oc17, od17, .func (PySem.W.fnOf "_law_changed" "_law_changed" (defArgs s__law_changed) (defBody s__law_changed) (defScope s__law_changed) .none kV17 dc17 pm17 an17 cd17 ct17), sl17⟩) (c17 : PySem.W.codeIn K cd17 "_law_changed" = true) (k17 : PySem.W.keepIn K (.ref f17) = true)
    (a18 : PySem.W.nsIn K mainGlobals "law" = some (some (.ref f18))) (l18 : K.lookup f18 = some ⟨oc18, od18, .func (PySem.W.fnOf "law" "law" (defArgs s_law) (defBody s_law) (defScope s_law) .none kV18 dc18 pm18 an18 cd18 ct18), sl18⟩) (c18 : PySem.W.codeIn K cd18 "law" = true) (k18 : PySem.W.keepIn K (.ref f18) = true)
    (z1 : PySem.W.nsIn K mainGlobals "abs" = some none)
    (z2 : PySem.W.nsIn K mainGlobals "reversed" = some none)
    (z3 : PySem.W.nsIn K mainGlobals "str" = some none)
    (z4 : PySem.W.nsIn K mainGlobals "int" = some none)
    (z5 : PySem.W.nsIn K mainGlobals "all" = some none)
    (z6 : PySem.W.nsIn K mainGlobals "len" = some none)
    (z7 : PySem.W.nsIn K mainGlobals "isinstance" = some none)
    (z8 : PySem.W.nsIn K mainGlobals "bool" = some none)
    (z9 : PySem.W.nsIn K mainGlobals "tuple" = some none)
    (v_FIGURES : PySem.W.nsIn K mainGlobals "FIGURES" = some (some (.str (Str.ofString "0123456789") tk_FIGURES)))
    (v_MOST_FRACTION_FIGURES : PySem.W.nsIn K mainGlobals "MOST_FRACTION_FIGURES" = some (some (.int 40 tk_MOST_FRACTION_FIGURES)))
    : ∃ fd : FuncData, (∀ (s : Shared) (v : Value), BindsTo s fd ⟨[v], []⟩ [("_law_script", v)]) ∧ ∀ base : Heap, K.In base → base.Ns mainGlobals mg → FnOk l.prog w K mg base CX0 6 fa fd ["_law_script"] (spLaw K) := by
  have e := hfa.symm.trans (PySem.W.mg_of X G a18)
  cases e
  have xc_WheelError : XC K c_WheelError := ⟨hd_WheelError, ga_WheelError, gn_WheelError, sa_WheelError, cl_WheelError, kg, kt, be_WheelError, ob_WheelError, xc_plain ex_WheelError⟩
  have xc_NoText : XC K c_NoText := ⟨hd_NoText, ga_NoText, gn_NoText, sa_NoText, cl_NoText, kg, kt, be_NoText, ob_NoText, xc_plain ex_NoText⟩
  have F1 := fun_mk (st := s_divisor) l1 c1 k1
  have F2 := fun_mk (st := s_ratio) l2 c2 k2
  have F3 := fun_mk (st := s_figures_of) l3 c3 k3
  have F4 := fun_mk (st := s_show_fraction) l4 c4 k4
  have F5 := fun_mk (st := s_read_figures) l5 c5 k5
  have F6 := fun_mk (st := s_read_top) l6 c6 k6
  have F7 := fun_mk (st := s_read_bottom) l7 c7 k7
  have F8 := fun_mk (st := s_read_fraction) l8 c8 k8
  have F9 := fun_mk (st := s__law_cell_at) l9 c9 k9
  have F10 := fun_mk (st := s__law_divisor) l10 c10 k10
  have F11 := fun_mk (st := s__law_number) l11 c11 k11
  have F12 := fun_mk (st := s__law_due) l12 c12 k12
  have F13 := fun_mk (st := s__law_read) l13 c13 k13
  have F14 := fun_mk (st := s__law_pair) l14 c14 k14
  have F15 := fun_mk (st := s__law_right) l15 c15 k15
  have F16 := fun_mk (st := s__law_odd) l16 c16 k16
  have F17 := fun_mk (st := s__law_changed) l17 c17 k17
  have T : Txt K mg c_WheelError c_NoText := ⟨PySem.W.mg_of X G b_WheelError, xc_WheelError, kp_WheelError, ex_WheelError, PySem.W.mg_of X G b_NoText, xc_NoText, kp_NoText, ex_NoText, s_NoText_WheelError, kit_of n_NoText_WheelError ci_WheelError ti_WheelError s_NoText_WheelError, s_NoText_NoText, kit_self, kit_ve v_NoText_VE, PySem.W.mg_none_of X G z1, PySem.W.mg_none_of X G z2, PySem.W.mg_none_of X G z3, PySem.W.mg_none_of X G z4, PySem.W.mg_none_of X G z5, PySem.W.mg_none_of X G z6, PySem.W.mg_none_of X G z7, PySem.W.mg_none_of X G z8, PySem.W.mg_none_of X G z9, ⟨_, PySem.W.mg_of X G v_FIGURES⟩, ⟨_, PySem.W.mg_of X G v_MOST_FRACTION_FIGURES⟩, ⟨_, _, F1, F1.binds (ps := ["one", "other"]) (fun _ _ _ _ _ _ => L2.el2 (fun _ _ => rfl)), PySem.W.mg_of X G a1⟩, ⟨_, _, F2, F2.binds (ps := ["top", "bottom"]) (fun _ _ _ _ _ _ => L2.el2 (fun _ _ => rfl)), PySem.W.mg_of X G a2⟩, ⟨_, _, F3, F3.binds (ps := ["number"]) (fun _ _ _ _ _ _ => L2.el1 (fun _ => rfl)), PySem.W.mg_of X G a3⟩, ⟨_, _, F4, F4.binds (ps := ["one"]) (fun _ _ _ _ _ _ => L2.el1 (fun _ => rfl)), PySem.W.mg_of X G a4⟩, ⟨_, _, F5, F5.binds (ps := ["word", "most"]) (fun _ _ _ _ _ _ => L2.el2 (fun _ _ => rfl)), PySem.W.mg_of X G a5⟩, ⟨_, _, F6, F6.binds (ps := ["word"]) (fun _ _ _ _ _ _ => L2.el1 (fun _ => rfl)), PySem.W.mg_of X G a6⟩, ⟨_, _, F7, F7.binds (ps := ["word"]) (fun _ _ _ _ _ _ => L2.el1 (fun _ => rfl)), PySem.W.mg_of X G a7⟩, ⟨_, _, F8, F8.binds (ps := ["word"]) (fun _ _ _ _ _ _ => L2.el1 (fun _ => rfl)), PySem.W.mg_of X G a8⟩, ⟨_, _, F9, F9.binds (ps := ["_law_script", "_law_k"]) (fun _ _ _ _ _ _ => L2.el2 (fun _ _ => rfl)), PySem.W.mg_of X G a9⟩, ⟨_, _, F10, F10.binds (ps := ["_law_one", "_law_other"]) (fun _ _ _ _ _ _ => L2.el2 (fun _ _ => rfl)), PySem.W.mg_of X G a10⟩, ⟨_, _, F11, F11.binds (ps := ["_law_figures"]) (fun _ _ _ _ _ _ => L2.el1 (fun _ => rfl)), PySem.W.mg_of X G a11⟩, ⟨_, _, F12, F12.binds (ps := ["_law_word"]) (fun _ _ _ _ _ _ => L2.el1 (fun _ => rfl)), PySem.W.mg_of X G a12⟩, ⟨_, _, F13, F13.binds (ps := ["_law_word"]) (fun _ _ _ _ _ _ => L2.el1 (fun _ => rfl)), PySem.W.mg_of X G a13⟩, ⟨_, _, F14, F14.binds (ps := ["_law_found"]) (fun _ _ _ _ _ _ => L2.el1 (fun _ => rfl)), PySem.W.mg_of X G a14⟩, ⟨_, _, F15, F15.binds (ps := ["_law_word"]) (fun _ _ _ _ _ _ => L2.el1 (fun _ => rfl)), PySem.W.mg_of X G a15⟩, ⟨_, _, F16, F16.binds (ps := ["_law_cell"]) (fun _ _ _ _ _ _ => L2.el1 (fun _ => rfl)), PySem.W.mg_of X G a16⟩, ⟨_, _, F17, F17.binds (ps := ["_law_word", "_law_cell"]) (fun _ _ _ _ _ _ => L2.el2 (fun _ _ => rfl)), PySem.W.mg_of X G a17⟩⟩
  exact ⟨PySem.W.fnOf "law" "law" (defArgs s_law) (defBody s_law) (defScope s_law) .none kV18 dc18 pm18 an18 cd18 ct18, fun s v => .of_eq rfl, fun base _ _ => ok_law (fun_mk (st := s_law) l18 c18 k18) T⟩
theorem walk {l : PySem.W.OpenLaw} {q : Program} {loose : List Str} {XP : (Str → Option Value) → Heap → Prop} {YP : World → Heap → Prop} {d : DefRec} {K : Params → PySem.W.Frag} (hn : l.most = some 63) (hdf : d.params.defaults = [])
    (hY : ∀ (w : World) (h : Heap), YP w h → (K w.params).In h)
    (F : ∀ (w : World) (mg : Str → Option Value) (fa : Addr) (h : Heap), (K w.params).In h → h.Ns mainGlobals mg → mg d.name = some (.ref fa) →
      ∃ fd : FuncData, (∀ (s : Shared) (u : Value), BindsTo s fd ⟨[u], []⟩ [("_law_script", u)]) ∧ ∀ base : Heap, (K w.params).In base → base.Ns mainGlobals mg → FnOk l.prog w (K w.params) mg base CX0 6 fa fd ["_law_script"] (spLaw (K w.params))) :
    PySem.W.WalkO q loose XP YP l.row.toRowW d [] (fun f vs => PySem.call f vs) :=
  L2.walk_of (n := 63) (k := 6) (x := "_law_script") (CX := fun _ => CX0) (sp := fun w => spLaw (K w.params)) hn (by decide) hdf ⟨rfl, by decide, by decide⟩ hY F (fun _ _ a ns hl _ hS => ⟨a, ns, rfl, hS, hl, fun _ => rfl⟩) fun _ _ _ _ _ z => z
end K81
theorem PySem.W.Fast.te8381384102921791838 : True := trivial
theorem PySem.W.Fast.tw10069231417938644319 : True := trivial
theorem PySem.W.Fast.tw5342276967768868055 : True := trivial
theorem PySem.W.Fast.tw17103324723905146228 : True := trivial
theorem PySem.W.Fast.tw48363226671726585 : True := trivial
theorem PySem.W.Fast.tw104500828532272166 : True := trivial
open PySem PySem.W PyProof.Rows
set_option maxRecDepth 100000 in
set_option maxHeartbeats 0 in
theorem PySem.Challenge.cw_sharewheel_k81_fractions_written_holds : PySem.Challenge.rw_sharewheel_k81_fractions_written.Holds := by
  w_on; o_law; k_head; (case hw => w_witness2)
  k_fill
  refine K81.walk (l := PySem.Challenge.rw_sharewheel_k81_fractions_written) rfl rfl (fun w h Y => PySem.W.kIn_of Y) ?F
  case F =>
    intro w mg fa h KX G hmg
    refine' K81.all_mk KX G hmg ?b_WheelError ?hd_WheelError ?ga_WheelError ?gn_WheelError ?sa_WheelError ?cl_WheelError ?be_WheelError ?ob_WheelError ?kp_WheelError ?ci_WheelError ?ti_WheelError ?ex_WheelError ?b_NoText ?hd_NoText ?ga_NoText ?gn_NoText ?sa_NoText ?cl_NoText ?be_NoText ?ob_NoText ?kp_NoText ?ci_NoText ?ti_NoText ?ex_NoText ?kg ?kt ?s_NoText_WheelError ?n_NoText_WheelError ?s_NoText_NoText ?v_NoText_VE ?a1 ?l1 ?c1 ?k1 ?a2 ?l2 ?c2 ?k2 ?a3 ?l3 ?c3 ?k3 ?a4 ?l4 ?c4 ?k4 ?a5 ?l5 ?c5 ?k5 ?a6 ?l6 ?c6 ?k6 ?a7 ?l7 ?c7 ?k7 ?a8 ?l8 ?c8 ?k8 ?a9 ?l9 ?c9 ?k9 ?a10 ?l10 ?c10 ?k10 ?a11 ?l11 ?c11 ?k11 ?a12 ?l12 ?c12 ?k12 ?a13 ?l13 ?c13 ?k13 ?a14 ?l14 ?c14 ?k14 ?a15 ?l15 ?c15 ?k15 ?a16 ?l16 ?c16 ?k16 ?a17 ?l17 ?c17 ?k17 ?a18 ?l18 ?c18 ?k18 ?z1 ?z2 ?z3 ?z4 ?z5 ?z6 ?z7 ?z8 ?z9 ?v_FIGURES ?v_MOST_FRACTION_FIGURES
    (case b_WheelError => k_is)
    (case hd_WheelError => k_is)
    (case ga_WheelError => k_is)
    (case gn_WheelError => k_is)
    (case sa_WheelError => k_is)
    (case cl_WheelError => k_is)
    (case be_WheelError => k_is)
    (case ob_WheelError => k_is)
    (case kp_WheelError => k_is)
    (case ci_WheelError => k_is)
    (case ti_WheelError => k_is)
    (case ex_WheelError => k_exc)
    (case b_NoText => k_is)
    (case hd_NoText => k_is)
    (case ga_NoText => k_is)
    (case gn_NoText => k_is)
    (case sa_NoText => k_is)
    (case cl_NoText => k_is)
    (case be_NoText => k_is)
    (case ob_NoText => k_is)
    (case kp_NoText => k_is)
    (case ci_NoText => k_is)
    (case ti_NoText => k_is)
    (case ex_NoText => k_exc)
    (case kg => k_is)
    (case kt => k_is)
    (case s_NoText_WheelError => k_is)
    (case n_NoText_WheelError => rfl)
    (case s_NoText_NoText => k_is)
    (case v_NoText_VE => k_is)
    (case a1 => k_is)
    (case l1 => k_is)
    (case c1 => k_is)
    (case k1 => k_is)
    (case a2 => k_is)
    (case l2 => k_is)
    (case c2 => k_is)
    (case k2 => k_is)
    (case a3 => k_is)
    (case l3 => k_is)
    (case c3 => k_is)
    (case k3 => k_is)
    (case a4 => k_is)
    (case l4 => k_is)
    (case c4 => k_is)
    (case k4 => k_is)
    (case a5 => k_is)
    (case l5 => k_is)
    (case c5 => k_is)
    (case k5 => k_is)
    (case a6 => k_is)
    (case l6 => k_is)
    (case c6 => k_is)
    (case k6 => k_is)
    (case a7 => k_is)
    (case l7 => k_is)
    (case c7 => k_is)
    (case k7 => k_is)
    (case a8 => k_is)
    (case l8 => k_is)
    (case c8 => k_is)
    (case k8 => k_is)
    (case a9 => k_is)
    (case l9 => k_is)
    (case c9 => k_is)
    (case k9 => k_is)
    (case a10 => k_is)
    (case l10 => k_is)
    (case c10 => k_is)
    (case k10 => k_is)
    (case a11 => k_is)
    (case l11 => k_is)
    (case c11 => k_is)
    (case k11 => k_is)
    (case a12 => k_is)
    (case l12 => k_is)
    (case c12 => k_is)
    (case k12 => k_is)
    (case a13 => k_is)
    (case l13 => k_is)
    (case c13 => k_is)
    (case k13 => k_is)
    (case a14 => k_is)
    (case l14 => k_is)
    (case c14 => k_is)
    (case k14 => k_is)
    (case a15 => k_is)
    (case l15 => k_is)
    (case c15 => k_is)
    (case k15 => k_is)
    (case a16 => k_is)
    (case l16 => k_is)
    (case c16 => k_is)
    (case k16 => k_is)
    (case a17 => k_is)
    (case l17 => k_is)
    (case c17 => k_is)
    (case k17 => k_is)
    (case a18 => k_is)
    (case l18 => k_is)
    (case c18 => k_is)
    (case k18 => k_is)
    (case z1 => k_is)
    (case z2 => k_is)
    (case z3 => k_is)
    (case z4 => k_is)
    (case z5 => k_is)
    (case z6 => k_is)
    (case z7 => k_is)
    (case z8 => k_is)
    (case z9 => k_is)
    (case v_FIGURES => k_is)
    (case v_MOST_FRACTION_FIGURES => k_is)
