import PyProof.Rows.All
import Wide.All
import OpenK.AllK
import Wide.FinOn
import Lean
import PyProof.EqAt
import PyProof.EqKinds
import PyProof.TupleCall
import PySem.Challenge.RW_sharewheel_k47_rooms
set_option Elab.async false
set_option linter.all false
set_option maxRecDepth 100000
namespace L2
open PySem PySem.Spec PyProof.Rows
abbrev Key := Sum Int Str
def keyIs : Key → Value → Bool
  | .inl k, v => Value.isInt k v
  | .inr x, v => Value.isStrOf x v
def keyH (w : World) : Key → Int
  | .inl k => hashInt k
  | .inr x => hashStr w x
theorem keyIs_shape : ∀ {k : Key} {v : Value}, keyIs k v = true → (∃ i t, k = Sum.inl i ∧ v = Value.int i t) ∨ (∃ x t, k = Sum.inr x ∧ v = Value.str x t)
  | .inl i, v, h => by
    obtain ⟨t, e⟩ := Value.isInt_shape (k := i) (v := v) h
    exact .inl ⟨i, t, rfl, e⟩
  | .inr x, v, h => by
    obtain ⟨t, e⟩ := Value.isStrOf_shape (x := x) (v := v) h
    exact .inr ⟨x, t, rfl, e⟩
theorem keyIs_int (i : Int) (t : Tok) : keyIs (.inl i) (.int i t) = true := by simp [keyIs, Value.isInt]
theorem keyIs_str (x : Str) (t : Tok) : keyIs (.inr x) (.str x t) = true := by simp [keyIs, Value.isStrOf]
theorem key_ll (a b : Int) : decide ((Sum.inl a : Key) = Sum.inl b) = (a == b) := by
  by_cases e : a = b
  · subst e; simp
  · have h : ¬ (Sum.inl a : Key) = Sum.inl b := fun q => e (Sum.inl.inj q)
    rw [decide_eq_false h]
    exact (beq_eq_false_iff_ne.mpr e).symm
theorem key_rr (a b : Str) : decide ((Sum.inr a : Key) = Sum.inr b) = decide (a = b) := by
  by_cases e : a = b
  · subst e; simp
  · have h : ¬ (Sum.inr a : Key) = Sum.inr b := fun q => e (Sum.inr.inj q)
    rw [decide_eq_false h, decide_eq_false e]
theorem key_lr (a : Int) (b : Str) : decide ((Sum.inl a : Key) = Sum.inr b) = false := decide_eq_false (fun q => nomatch q)
theorem key_rl (a : Str) (b : Int) : decide ((Sum.inr a : Key) = Sum.inl b) = false := decide_eq_false (fun q => nomatch q)
def mixKind (prog : Program) (w : World) : PySem.KeyKind prog w Key where
  is := keyIs
  hash := keyH w
  inj := fun v a b ha hb => by
    rcases keyIs_shape ha with ⟨i, t, rfl, rfl⟩ | ⟨x, t, rfl, rfl⟩
    · rcases keyIs_shape hb with ⟨j, u, rfl, e⟩ | ⟨y, u, rfl, e⟩
      · injection e with e1 _; rw [e1]
      · exact nomatch e
    · rcases keyIs_shape hb with ⟨j, u, rfl, e⟩ | ⟨y, u, rfl, e⟩
      · exact nomatch e
      · injection e with e1 _; rw [e1]
  byValue := fun k v h => by
    rcases keyIs_shape h with ⟨i, t, rfl, rfl⟩ | ⟨x, t, rfl, rfl⟩ <;> rfl
  pyHash := fun hv h => by
    rcases keyIs_shape hv with ⟨i, t, rfl, rfl⟩ | ⟨x, t, rfl, rfl⟩
    · exact wpAny_pyHash_int h
    · exact wpAny_pyHash_str h
  eqBool := fun hu hv h => by
    rcases keyIs_shape hu with ⟨i, t, rfl, rfl⟩ | ⟨x, t, rfl, rfl⟩
    · rcases keyIs_shape hv with ⟨j, u, rfl, rfl⟩ | ⟨y, u, rfl, rfl⟩
      · rw [key_ll] at h; exact wpAny_eqBool_int h
      · rw [key_lr] at h; exact SeqAt.EqAt.int_str i t y u _ _ _ _ h
    · rcases keyIs_shape hv with ⟨j, u, rfl, rfl⟩ | ⟨y, u, rfl, rfl⟩
      · rw [key_rl] at h; exact SeqAt.EqAt.str_int x t j u _ _ _ _ h
      · rw [key_rr] at h; exact wpAny_eqBool_str h
  «strs» := fun k x t v h => by
    rcases keyIs_shape h with ⟨i, u, rfl, e⟩ | ⟨y, u, rfl, e⟩
    · exact nomatch e
    · injection e with e1 _
      subst e1
      cases v <;> rfl
theorem mixKind_int (prog : Program) (w : World) (i : Int) (t : Tok) : (mixKind prog w).is (.inl i) (.int i t) = true := keyIs_int i t
theorem mixKind_str (prog : Program) (w : World) (x : Str) (t : Tok) : (mixKind prog w).is (.inr x) (.str x t) = true := keyIs_str x t
end L2
namespace L2
open PySem PySem.Spec PyProof.Rows
inductive V where
  | non | bl (b : Bool) | int (i : Int) | str (x : Str) | byt (b : Array UInt8) | flt (b : UInt64) | ref (a : Addr) | ty (n : String)
  deriving DecidableEq
def RelV : V → Value → Prop
  | .non, u => u = Value.none
  | .bl b, u => u = Value.bool b
  | .int i, u => ∃ t, u = Value.int i t
  | .str x, u => ∃ t, u = Value.str x t
  | .byt b, u => ∃ t, u = Value.bytes b t
  | .flt b, u => ∃ t, u = Value.float b t
  | .ref a, u => u = Value.ref a
  | .ty n, u => u = Value.type n
abbrev Vals : List V → List Value → Prop := Paired RelV
theorem Vals.length {xs : List V} {us : List Value} (r : Vals xs us) : xs.length = us.length := Paired.length r
theorem Vals.get : ∀ {xs : List V} {us : List Value} {i : Nat} {x : V}, Vals xs us → xs[i]? = some x → ∃ u, us[i]? = some u ∧ RelV x u
  | _, _, _, _, .nil, e => by simp at e
  | _, _, 0, _, .cons r _, e => by simp at e; subst e; exact ⟨_, rfl, r⟩
  | _, _, i + 1, x, .cons _ t, e => by
    obtain ⟨u, h1, h2⟩ := Vals.get (i := i) (x := x) t (by simpa using e)
    exact ⟨u, by simpa using h1, h2⟩
theorem Vals.set {x : V} {u : Value} (r : RelV x u) : ∀ {xs : List V} {us : List Value} (i : Nat), Vals xs us → Vals (xs.set i x) (us.set i u)
  | _, _, _, .nil => .nil
  | _, _, 0, .cons _ t => .cons r t
  | _, _, i + 1, .cons q t => .cons q (Vals.set r i t)
theorem Vals.append : ∀ {xs ys : List V} {us ws : List Value}, Vals xs us → Vals ys ws → Vals (xs ++ ys) (us ++ ws)
  | _, _, _, _, .nil, s => s
  | _, _, _, _, .cons r t, s => .cons r (Vals.append t s)
theorem Vals.take : ∀ {xs : List V} {us : List Value} (n : Nat), Vals xs us → Vals (xs.take n) (us.take n)
  | _, _, 0, _ => .nil
  | _, _, _ + 1, .nil => .nil
  | _, _, n + 1, .cons r t => .cons r (Vals.take n t)
theorem Vals.drop : ∀ {xs : List V} {us : List Value} (n : Nat), Vals xs us → Vals (xs.drop n) (us.drop n)
  | _, _, 0, r => r
  | _, _, _ + 1, .nil => .nil
  | _, _, n + 1, .cons _ t => Vals.drop n t
def RelO : Option V → Option Value → Prop
  | some v, some u => RelV v u
  | none, none => True
  | _, _ => False
def KV {κ : Type} : List (κ × V) → List (κ × Value) → Prop := Paired fun (p : κ × V) (q : κ × Value) => p.1 = q.1 ∧ RelV p.2 q.2
def kV : Key → V
  | .inl i => .int i
  | .inr x => .str x
inductive HO where
  /-- a list -/
  | lst (xs : List V)
  /-- a tuple (never changes) -/
  | tup (xs : List V)
  /-- a dict whose keys are ints and texts; one whose keys are tuples of ints and texts (the empty one is both) -/
  | dK (kvs : List (Key × V)) | dT (kvs : List (List Key × V))
  /-- a set of ints: its members, its size -/
  | set (S : Int → Bool) (n : Nat)
  /-- an instance of the class at C, its dict at dx, its attributes -/
  | ins (C dx : Addr) (fs : List (Str × V))
  /-- the dict of the instance at x -/
  | own (x : Addr)
  /-- the dict of an exception -/
  | xd (fs : List (Str × V))
  /-- a bound method, f of x -/
  | met (f x : Addr)
  /-- a range object lo, lo + 1, .. below hi -/
  | rng (lo hi : Int)
  /-- a thing that is known to the object (the script; a dict while a loop walks it): read, never written while it is so -/
  | frz (o : Obj) (u : HO)
  /-- a code object's table -/
  | tbl (ps : Array Value)
  /-- any other thing, by what is true of its one object (a def of one's own: SetO a S n := HO.ext fun h => ..) -/
  | ext (φ : Heap → Prop)
abbrev Hp := Addr → Option HO
def upd (H : Hp) (a : Addr) (o : HO) : Hp := fun b => if b = a then some o else H b
theorem upd_same {H : Hp} {a : Addr} {o : HO} : upd H a o a = some o := by unfold upd; rw [if_pos rfl]
theorem upd_ne {H : Hp} {a b : Addr} {o : HO} (h : b ≠ a) : upd H a o b = H b := by unfold upd; rw [if_neg h]
theorem upd_upd {H : Hp} {a : Addr} {o u : HO} : upd (upd H a o) a u = upd H a u := by
  funext b; unfold upd; split <;> rfl
theorem ne_of {H : Hp} {a b : Addr} {o u : HO} (h : H a = some o) (h' : H b = some u) (d : o ≠ u) : a ≠ b := by
  intro e; subst e; rw [h] at h'; exact d (Option.some.inj h')
theorem ne_of_none {H : Hp} {a b : Addr} {o : HO} (h : H a = some o) (h' : H b = none) : a ≠ b := by
  intro e; subst e; rw [h] at h'; cases h'
section
variable (P : Program) (w : World)
def ObjOk (H : Hp) (h : Heap) (a : Addr) : HO → Prop
  | .lst xs => xs.length ≤ sizeLine ∧ ∃ (its : List Value) (n : Nat), Vals xs its ∧ h.get? a = some { cls := .type "list", data := .seq its.toArray n }
  | .tup xs => xs.length ≤ sizeLine ∧ ∃ its : List Value, Vals xs its ∧ IsTup h a its.toArray
  | .dK kvs => kvs.length ≤ sizeLine ∧ (a == sysModules) = false ∧ ∃ vs, KV kvs vs ∧ h.DictOf (mixKind P w) a vs
  | .dT kvs => kvs.length ≤ sizeLine ∧ (a == sysModules) = false ∧ ∃ xs : List (List Key × Addr × Value),
      Paired (fun (p : List Key × V) (q : List Key × Addr × Value) => p.1 = q.1 ∧ H q.2.1 = some (.tup (p.1.map kV)) ∧ RelV p.2 q.2.2) kvs xs ∧
      ∃ o es ep, h.get? a = some o ∧ o.ExactDict ∧ o.data = .dict es ep ∧ es.toList = xs.map (entryOfKey (tupleKind (mixKind P w))) ∧ (xs.map (·.1)).Nodup
  | .set S n => h.SetOf (intKind P w) a S n
  | .ins C dx fs => H dx = some (.own a) ∧ fs.length ≤ 1000 ∧ dx ≠ a ∧ h.get? a = some (PySem.W.instObj C dx) ∧
      ∃ mA, h.Ns1 dx mA ∧ (∀ f, RelO (fs.lookup f) (mA f)) ∧ PySem.Within mA (fs.map (·.1))
  | .own _ => ∃ o, h.get? a = some o
  | .xd fs => ∃ mA, h.Ns1 a mA ∧ ∀ f, RelO (fs.lookup f) (mA f)
  | .rng lo hi => ∃ t u v, h.get? a = some { cls := .type "range", data := .fields #[.int lo t, .int hi u, .int 1 v] }
  | .frz o u => h.get? a = some o ∧ ObjOk H h a u
  | .tbl ps => h.get? a = some { cls := .none, data := .fields ps }
  | .met f x => h.get? a = some (PySem.W.methodObj (.ref f) (.ref x))
  | .ext φ => φ h ∧ (∃ o, h.get? a = some o) ∧ ∀ h1 h2 : Heap, φ h1 → (∀ o, h1.get? a = some o → h2.get? a = some o) → φ h2
def HOk (H : Hp) (h : Heap) : Prop := ∀ a o, H a = some o → ObjOk P w H h a o
end
section
variable {P : Program} {w : World} {H H' : Hp} {h h' : Heap} {a : Addr} {o : HO}
theorem ObjOk.lt (x : ObjOk P w H h a o) : a < h.objs.size := by
  cases o with
  | lst xs => obtain ⟨_, _, _, _, e⟩ := x; exact Heap.lt_size e
  | tup xs => obtain ⟨_, _, _, p⟩ := x; exact p.lt
  | dK kvs => obtain ⟨_, _, _, _, o, _, _, e, _⟩ := x; exact Heap.lt_size e
  | dT kvs => obtain ⟨_, _, _, _, o, _, _, e, _⟩ := x; exact Heap.lt_size e
  | set S n => obtain ⟨o, _, _, _, e, _⟩ := x; exact Heap.lt_size e
  | ins C dx fs => obtain ⟨_, _, _, e, _⟩ := x; exact Heap.lt_size e
  | own y => obtain ⟨_, e⟩ := x; exact Heap.lt_size e
  | xd fs => obtain ⟨_, ⟨_, _, _, e, _⟩, _⟩ := x; exact Heap.lt_size e
  | rng lo hi => obtain ⟨_, _, _, e⟩ := x; exact Heap.lt_size e
  | frz ob u => obtain ⟨e, _⟩ := x; exact Heap.lt_size e
  | tbl ps => exact Heap.lt_size (show h.get? a = some _ from x)
  | met f y => exact Heap.lt_size (show h.get? a = some _ from x)
  | ext φ => obtain ⟨_, ⟨_, e⟩, _⟩ := x; exact Heap.lt_size e
theorem Paired.mapP {α β : Type} {F G : α → β → Prop} : ∀ {l₁ : List α} {l₂ : List β}, Paired F l₁ l₂ → (∀ a b, F a b → G a b) → Paired G l₁ l₂
  | _, _, .nil, _ => .nil
  | _, _, .cons r t, f => .cons (f _ _ r) (Paired.mapP t f)
theorem ObjOk.stay (x : ObjOk P w H h a o) (k : ∀ b u, (b = a ∨ H b = some (.own a)) → h.get? b = some u → h'.get? b = some u)
    (ho : ∀ b, H b = some (.own a) → H' b = some (.own a)) (ht : ∀ b xs, H b = some (.tup xs) → H' b = some (.tup xs)) : ObjOk P w H' h' a o := by
  induction o with
  | lst xs => obtain ⟨z, its, n, r, e⟩ := x; exact ⟨z, its, n, r, k _ _ (.inl rfl) e⟩
  | tup xs => obtain ⟨z, its, r, ob, e, c⟩ := x; exact ⟨z, its, r, ob, k _ _ (.inl rfl) e, c⟩
  | dK kvs => obtain ⟨z, y, vs, r, ob, es, ep, e, c⟩ := x; exact ⟨z, y, vs, r, ob, es, ep, k _ _ (.inl rfl) e, c⟩
  | dT kvs =>
    obtain ⟨z, y, xs, r, ob, es, ep, e, c⟩ := x
    exact ⟨z, y, xs, Paired.mapP r fun p q z => ⟨z.1, ht _ _ z.2.1, z.2.2⟩, ob, es, ep, k _ _ (.inl rfl) e, c⟩
  | set S n => obtain ⟨ob, es, ep, t, e, c⟩ := x; exact ⟨ob, es, ep, t, k _ _ (.inl rfl) e, c⟩
  | ins C dx fs =>
    obtain ⟨d, z, ne, e, mA, ⟨od, es, ep, e2, c⟩, r⟩ := x
    exact ⟨ho _ d, z, ne, k _ _ (.inl rfl) e, mA, ⟨od, es, ep, k _ _ (.inr d) e2, c⟩, r⟩
  | own y => obtain ⟨ob, e⟩ := x; exact ⟨ob, k _ _ (.inl rfl) e⟩
  | xd fs => obtain ⟨mA, ⟨od, es, ep, e, c⟩, r⟩ := x; exact ⟨mA, ⟨od, es, ep, k _ _ (.inl rfl) e, c⟩, r⟩
  | rng lo hi => obtain ⟨t, u, v, e⟩ := x; exact ⟨t, u, v, k _ _ (.inl rfl) e⟩
  | frz ob u ih => obtain ⟨e, q⟩ := x; exact ⟨k _ _ (.inl rfl) e, ih q⟩
  | tbl ps =>
    have e : h.get? a = some { cls := .none, data := .fields ps } := x
    show h'.get? a = some { cls := .none, data := .fields ps }
    exact k a _ (.inl rfl) e
  | met f y =>
    have e : h.get? a = some (PySem.W.methodObj (.ref f) (.ref y)) := x
    show h'.get? a = some (PySem.W.methodObj (.ref f) (.ref y))
    exact k a _ (.inl rfl) e
  | ext φ => obtain ⟨p, ⟨o, e⟩, st⟩ := x; exact ⟨st _ _ p fun o q => k _ _ (.inl rfl) q, ⟨o, k _ _ (.inl rfl) e⟩, st⟩
theorem HOk.lt (x : HOk P w H h) (e : H a = some o) : a < h.objs.size := (x a o e).lt
theorem HOk.fresh (x : HOk P w H h) (e : h.objs.size ≤ a) : H a = none := by
  cases q : H a with
  | none => rfl
  | some u => exact absurd (Nat.lt_of_lt_of_le (x.lt q) e) (Nat.lt_irrefl _)
theorem HOk.kept (x : HOk P w H h) (k : ∀ b u, h.get? b = some u → h'.get? b = some u) : HOk P w H h' := fun a o e =>
  (x a o e).stay (fun b u _ q => k b u q) (fun _ q => q) fun _ _ q => q
theorem HOk.laid (x : HOk P w H h) (k : ∀ b u, h.get? b = some u → h'.get? b = some u) (hp : h.objs.size ≤ a) (new : ObjOk P w (upd H a o) h' a o) : HOk P w (upd H a o) h' := fun b u e => by
  have hn := x.fresh hp
  by_cases hb : b = a
  · subst hb; rw [upd_same] at e; cases e; exact new
  · rw [upd_ne hb] at e
    exact (x b u e).stay (fun c v _ q => k c v q) (fun c q => by rw [upd_ne (ne_of_none q hn)]; exact q) fun c xs q => by rw [upd_ne (ne_of_none q hn)]; exact q
end
def Rd (H : Hp) (a : Addr) (u : HO) : Prop := H a = some u ∨ ∃ o, H a = some (.frz o u)
theorem Rd.ok {P : Program} {w : World} {H : Hp} {h : Heap} {a : Addr} {u : HO} (r : Rd H a u) (x : HOk P w H h) : ObjOk P w H h a u := by
  rcases r with r | ⟨o, r⟩
  · exact x a u r
  · obtain ⟨_, q⟩ := x a _ r
    exact q
def Mut : Option HO → Prop
  | some (.lst _) => True
  | some (.dK _) => True
  | some (.dT _) => True
  | some (.set _ _) => True
  | some (.ins _ _ _) => True
  | some (.ext _) => True
  | _ => False
section
variable {P : Program} {w : World} {H : Hp} {h h' : Heap} {x e : Addr} {o' : HO}
theorem HOk.write (ok : HOk P w H h) (mu : Mut (H x)) (he : e = x ∨ H e = some (.own x)) (k : ∀ b u, b ≠ e → h.get? b = some u → h'.get? b = some u) (heo : ∃ u, h'.get? e = some u)
    (new : ObjOk P w (upd H x o') h' x o') : HOk P w (upd H x o') h' := fun b u q => by
  have nown : ∀ c y, H c = some (.own y) → c ≠ x := fun c y r z => by subst z; rw [r] at mu; exact mu
  have ntup : ∀ c xs, H c = some (.tup xs) → c ≠ x := fun c xs r z => by subst z; rw [r] at mu; exact mu
  by_cases hb : b = x
  · subst hb; rw [upd_same] at q; cases q; exact new
  · rw [upd_ne hb] at q
    by_cases hbe : b = e
    · have q' : H b = some (.own x) := by
        rcases he with z | z
        · exact absurd (hbe.trans z) hb
        · rw [hbe]; exact z
      rw [q] at q'; cases q'
      obtain ⟨v, hv⟩ := heo
      exact ⟨v, by rw [hbe]; exact hv⟩
    · refine (ok b u q).stay (fun c v hc r => k c v ?_ r) (fun c r => by rw [upd_ne (nown c b r)]; exact r) fun c xs r => by rw [upd_ne (ntup c xs r)]; exact r
      rcases hc with rfl | hc
      · exact hbe
      · rintro rfl
        rcases he with z | z
        · exact nown c b hc z
        · rw [hc] at z; cases z; exact hb rfl
end
structure Un (fs ex : List Addr) (H H' : Hp) (h h' : Heap) : Prop where
  keep : ∀ b o, h.get? b = some o → H b = none → b ∉ fs → b ∉ ex → h'.get? b = some o
  slot : ∀ b o, h.get? b = some o → H b = none → b ∈ fs → b ∉ ex → ∃ sl, h'.get? b = some { o with slots := sl }
  free : ∀ b o, h.get? b = some o → H b = none → b ∉ ex → H' b = none
  there : ∀ b o, h.get? b = some o → b ∉ ex → ∃ o', h'.get? b = some o'
  tups : ∀ b xs, H b = some (.tup xs) → H' b = some (.tup xs)
  frzs : ∀ b o u, H b = some (.frz o u) → H' b = some (.frz o u)
  tbls : ∀ b ps, H b = some (.tbl ps) → ∃ more, H' b = some (.tbl (ps ++ more))
section
variable {fs fs' ex ex' : List Addr} {H H1 H2 : Hp} {h h1 h2 h' : Heap} {a x e : Addr} {o : HO}
theorem Un.any (u : Un fs ex H H1 h h1) {b : Addr} {ob : Obj} (q : h.get? b = some ob) (n : H b = none) (hx : b ∉ ex) : ∃ sl, h1.get? b = some { ob with slots := sl } := by
  by_cases hb : b ∈ fs
  · exact u.slot b ob q n hb hx
  · exact ⟨ob.slots, u.keep b ob q n hb hx⟩
theorem Un.kept (k : ∀ b u, h.get? b = some u → h'.get? b = some u) : Un fs ex H H h h' :=
  ⟨fun b ob q _ _ _ => k b ob q, fun b ob q _ _ _ => ⟨ob.slots, k b ob q⟩, fun _ _ _ n _ => n, fun b ob q _ => ⟨ob, k b ob q⟩, fun _ _ q => q, fun _ _ _ q => q, fun _ ps q => ⟨#[], by rw [q]; simp⟩⟩
theorem Un.refl : Un fs ex H H h h := Un.kept fun _ _ q => q
theorem Un.laid (k : ∀ b u, h.get? b = some u → h'.get? b = some u) (hp : h.objs.size ≤ a) (hn : H a = none) : Un fs ex H (upd H a o) h h' where
  keep := fun b u q _ _ _ => k b u q
  slot := fun b u q _ _ _ => ⟨u.slots, k b u q⟩
  free := fun b u q n _ => by rw [upd_ne (Nat.ne_of_lt (Nat.lt_of_lt_of_le (Heap.lt_size q) hp))]; exact n
  there := fun b u q _ => ⟨u, k b u q⟩
  tups := fun b xs q => by rw [upd_ne (ne_of_none q hn)]; exact q
  frzs := fun b u xs q => by rw [upd_ne (ne_of_none q hn)]; exact q
  tbls := fun b ps q => ⟨#[], by rw [upd_ne (ne_of_none q hn), q]; simp⟩
theorem Un.write (mu : Mut (H x)) (he : e = x ∨ H e = some (.own x)) (k : ∀ b u, b ≠ e → h.get? b = some u → h'.get? b = some u) (heo : ∃ u, h'.get? e = some u) : Un fs ex H (upd H x o) h h' := by
  have hx : ∀ b, H b = none → b ≠ x := fun b n z => by subst z; rw [n] at mu; exact mu
  have hb : ∀ b, H b = none → b ≠ e := fun b n z => by
    subst z
    rcases he with r | r
    · exact hx b n r
    · rw [n] at r; cases r
  have hm : ∀ b u, H b = some u → ¬ Mut (some u) → b ≠ x := fun b u q nm z => by subst z; rw [q] at mu; exact nm mu
  refine ⟨fun b u q n _ _ => k b u (hb b n) q, fun b u q n _ _ => ⟨u.slots, k b u (hb b n) q⟩, fun b u q n _ => by rw [upd_ne (hx b n)]; exact n, fun b u q _ => ?_,
    fun b xs q => by rw [upd_ne (hm b _ q fun z => z)]; exact q, fun b u xs q => by rw [upd_ne (hm b _ q fun z => z)]; exact q, fun b ps q => ⟨#[], by rw [upd_ne (hm b _ q fun z => z), q]; simp⟩⟩
  by_cases hbe : b = e
  · subst hbe; exact heo
  · exact ⟨u, k b u hbe q⟩
end
def trk (h : Heap) (H : Hp) : List Addr := (List.range h.objs.size).filter fun a => (H a).isSome
def hidT (h : Heap) (H : Hp) : Heap := PySem.W.hideAll h (trk h H)
theorem hidT_size (h : Heap) (H : Hp) : (hidT h H).objs.size = h.objs.size := PySem.W.hideAll_size _ _
theorem hidT_get {h : Heap} {H : Hp} {b : Addr} {o : Obj} (e : h.get? b = some o) (n : H b = none) : (hidT h H).get? b = some o :=
  PySem.W.hideAll_get _ e fun hm => by
    have q : (H b).isSome = true := (List.mem_filter.mp hm).2
    rw [n] at q; simp at q
theorem of_hidT {h : Heap} {H : Hp} {b : Addr} {o : Obj} (e : (hidT h H).get? b = some o) : h.get? b = some o ∧ H b = none := by
  have e' : h.get? b = some o := PySem.W.of_hideAll (trk h H) e
  refine ⟨e', ?_⟩
  cases q : H b with
  | none => rfl
  | some x =>
    have hm : b ∈ trk h H := List.mem_filter.mpr ⟨List.mem_range.mpr (Heap.lt_size e'), by simp [q]⟩
    have z : (hidT h H).get? b = none := PySem.W.hideAll_none (trk h H) hm
    rw [z] at e; cases e
def allNews (g h : Heap) (L : Addr) : List (Addr × Obj) := (List.range h.objs.size).filterMap fun a => if a = L ∨ (g.get? a).isSome = true then none else (h.get? a).map fun o => (a, o)
def rest (g h : Heap) (L d : Addr) : List (Addr × Obj) := (allNews g h L).filter fun p => decide (p.1 ≠ d)
end L2
namespace L2
open PySem PySem.Spec PyProof.Rows
structure Mod (K : PySem.W.Frag) (mg : Str → Option Value) (base : Heap) : Prop where
  kin : K.In base
  glob : base.Ns mainGlobals mg
  blt : ∃ mb, base.Ns builtinsNs mb ∧ ∀ x : Str, x ≠ "__name__" → mb x = bootBuiltins x
  nolimit : base.NoLimit
structure Cx where
  prog : Program
  w : World
  K : PySem.W.Frag
  mg : Str → Option Value
  base : Heap
  A : Around
  N : List Str
  s₀ : Shared
  H₀ : Hp
  env : Env
  outer : List Env
  stack : List Env
  ex : List Addr
  fn : Str → Bool
  calm : Bool
  pn : List (Addr × Obj)
  xe : Value → Shared → Prop
def frs (l : List Env) : List Addr := l.filterMap (·.frame)
abbrev Cx.fs (X : Cx) : List Addr := frs X.outer
def Vis (sc : Scope) (x : Str) : Prop := sc.names.lookup x = some .local ∨ sc.names.lookup x = some .cell ∨ sc.names.lookup x = some .free
def Loc (sc : Scope) (x : Str) : Prop := sc.names.lookup x = some .local ∨ sc.names.lookup x = some .cell
def Look (env : Env) (h : Heap) (m : Str → Option Value) (x : Str) (u : Value) : Prop :=
  (env.kindOf x = some .local ∧ m x = some u) ∨ ((env.kindOf x = some .cell ∨ env.kindOf x = some .free) ∧ ∃ c, env.cells.lookup x = some c ∧ h.IsCell c (some u))
structure Cx.Ok (X : Cx) : Prop where
  mod : Mod X.K X.mg X.base
  kind : X.env.scope.kind = .function
  glob : X.env.globals = mainGlobals
  blt : X.env.builtins = builtinsNs
  above : X.s₀.heap.objs.size ≤ X.env.locals
  inj : ∀ x y c, X.env.cells.lookup x = some c → X.env.cells.lookup y = some c → x = y
  has : ∀ x, (X.env.kindOf x = some .cell ∨ X.env.kindOf x = some .free) → ∃ c, X.env.cells.lookup x = some c
  cab : ∀ x c, X.fn x = true → X.env.cells.lookup x = some c → X.s₀.heap.objs.size ≤ c
  hd : X.calm = true → X.A.handled = none
  frames : X.A.frames = some X.stack
  stk : X.stack = X.outer ∨ (X.stack = X.env :: X.outer ∧ X.env.frame = some X.env.locals)
  exf : ∀ b ∈ X.ex, b ≠ X.env.locals ∧ ∀ x c, X.env.cells.lookup x = some c → c ≠ b
  bs : ∀ b o, X.base.get? b = some o → X.s₀.heap.get? b = some o ∧ X.H₀ b = none
  bsz : X.base.objs.size ≤ X.s₀.heap.objs.size
  noex : ∀ b o, X.base.get? b = some o → b ∉ X.ex
  exfs : ∀ b ∈ X.ex, b ∉ X.fs
  funs : X.s₀.heap.FunFrames X.base X.outer
  frf : ∀ b ∈ X.fs, X.H₀ b = none
structure Inv (X : Cx) (pins : List (Addr × Obj)) (σ : List (Option V)) (H : Hp) (s : Shared) : Prop where
  ok : X.Ok
  os : s.os = X.s₀.os
  bare : AllBare s.gens
  base : Un X.fs X.ex X.H₀ H X.s₀.heap s.heap
  loc : ∃ m, s.heap.Ns X.env.locals m ∧ ∀ (i : Nat) (x : Str) (v : V), X.N[i]? = some x → σ[i]? = some (some v) → Vis X.env.scope x → ∃ u, RelV v u ∧ Look X.env s.heap m x u
  cell : ∀ x c, X.env.cells.lookup x = some c → ∃ v, s.heap.IsCell c v
  free : H X.env.locals = none
  freeC : ∀ x c, X.env.cells.lookup x = some c → H c = none
  pin : ∀ p ∈ X.pn ++ pins, s.heap.get? p.1 = some p.2 ∧ H p.1 = none ∧ p.1 ≠ X.env.locals ∧ p.1 ∉ X.fs ∧ ∀ v, p.2.data ≠ .cell v
  hok : HOk X.prog X.w H s.heap
  len : σ.length = X.N.length
section
variable {X : Cx} {pins : List (Addr × Obj)} {σ : List (Option V)} {H H' : Hp} {s : Shared} {h' : Heap}
theorem Cx.Ok.nofr (ok : X.Ok) {b : Addr} {o : Obj} (e : X.base.get? b = some o) : b ∉ X.fs := fun hb => by
  have := (ok.funs.mem hb).1
  rw [e] at this; cases this
theorem Inv.bs (I : Inv X pins σ H s) : ∀ b o, X.base.get? b = some o → s.heap.get? b = some o ∧ H b = none := fun b o e =>
  ⟨I.base.keep b o (I.ok.bs b o e).1 (I.ok.bs b o e).2 (I.ok.nofr e) (I.ok.noex b o e), I.base.free b o (I.ok.bs b o e).1 (I.ok.bs b o e).2 (I.ok.noex b o e)⟩
theorem Inv.bk (I : Inv X pins σ H s) : ∀ b o, X.base.get? b = some o → s.heap.get? b = some o := fun b o e => (I.bs b o e).1
theorem Inv.mod (I : Inv X pins σ H s) : Mod X.K X.mg X.base := I.ok.mod
theorem Inv.kIn (I : Inv X pins σ H s) : X.K.In s.heap := I.ok.mod.kin.keeps I.bk
theorem Inv.lt (I : Inv X pins σ H s) : X.env.locals < s.heap.objs.size := let ⟨_, hn, _⟩ := I.loc; hn.lt
theorem Inv.sz (I : Inv X pins σ H s) : X.s₀.heap.objs.size ≤ s.heap.objs.size := Nat.le_trans I.ok.above (Nat.le_of_lt I.lt)
theorem Inv.nofs (I : Inv X pins σ H s) {a : Addr} (h : s.heap.objs.size ≤ a) : a ∉ X.fs := fun hb => by
  obtain ⟨_, o, ho, _⟩ := I.ok.funs.mem hb
  exact absurd (Nat.lt_of_lt_of_le (Heap.lt_size ho) (Nat.le_trans I.sz h)) (Nat.lt_irrefl _)
theorem Inv.cne (I : Inv X pins σ H s) : ∀ x c, X.env.cells.lookup x = some c → c ≠ X.env.locals := fun x c e z => by
  obtain ⟨v, o, ho, hd⟩ := I.cell x c e
  obtain ⟨m, ⟨o', es, ep, ho', hd', _⟩, _⟩ := I.loc
  rw [z, ho'] at ho; cases ho; rw [hd'] at hd; cases hd
theorem Inv.funs (I : Inv X pins σ H s) : s.heap.FunFrames X.base X.outer := by
  have all : ∀ (l : List Env), (∀ b ∈ frs l, b ∈ X.fs) → X.s₀.heap.FunFrames X.base l → s.heap.FunFrames X.base l := by
    intro l
    induction l with
    | nil => intro _ _; trivial
    | cons env r ih =>
      intro hs hl
      obtain ⟨hk, ⟨L, o, hf, hn, ho, hd⟩, hr⟩ := hl
      have hL : L ∈ X.fs := hs L (by unfold frs; rw [List.filterMap_cons, hf]; exact List.mem_cons_self)
      obtain ⟨sl, e⟩ := I.base.slot L o ho (I.ok.frf L hL) hL fun z => I.ok.exfs L z hL
      exact ⟨hk, ⟨L, _, hf, hn, e, hd⟩, ih (fun b hb => hs b (by unfold frs; rw [List.filterMap_cons, hf]; exact List.mem_cons_of_mem _ hb)) hr⟩
  exact all X.outer (fun _ hb => hb) I.ok.funs
theorem Inv.stack (I : Inv X pins σ H s) : s.heap.FunFrames X.base X.stack := by
  rcases I.ok.stk with e | ⟨e, hf⟩
  · rw [e]; exact I.funs
  · rw [e]
    obtain ⟨m, hn, _⟩ := I.loc
    refine .cons (by rw [I.ok.kind]; decide) hf hn ?_ I.funs
    exact Heap.get?_none_of_le (Nat.le_trans I.ok.bsz I.ok.above)
theorem Inv.stkSub (I : Inv X pins σ H s) : ∀ b ∈ frs X.stack, b ∈ X.env.locals :: X.fs := fun b hb => by
  rcases I.ok.stk with e | ⟨e, hf⟩
  · rw [e] at hb; exact List.mem_cons_of_mem _ hb
  · rw [e] at hb
    unfold frs at hb
    rw [List.filterMap_cons, hf] at hb
    exact hb
theorem Inv.stkFree (I : Inv X pins σ H s) : ∀ b ∈ frs X.stack, H b = none := fun b hb => by
  rcases List.mem_cons.mp (I.stkSub b hb) with e | hb
  · rw [e]; exact I.free
  · obtain ⟨_, o, ho, _⟩ := I.ok.funs.mem hb
    exact I.base.free b o ho (I.ok.frf b hb) fun z => I.ok.exfs b z hb
theorem Inv.step {g' : Array GenState} {t' : Nat} {d' : Drawn} {ch : List Addr} (I : Inv X pins σ H s)
    (hch : ∀ b ∈ ch, (b ∈ X.ex ∨ X.s₀.heap.objs.size ≤ b) ∧ b ≠ X.env.locals ∧ (∀ x c, X.env.cells.lookup x = some c → c ≠ b) ∧ ∀ p ∈ X.pn ++ pins, p.1 ≠ b)
    (keep : ∀ b o, b ≠ X.env.locals → b ∉ X.fs → b ∉ ch → s.heap.get? b = some o → H b = none → h'.get? b = some o)
    (slot : ∀ b o, b ≠ X.env.locals → b ∈ X.fs → b ∉ ch → s.heap.get? b = some o → H b = none → ∃ sl, h'.get? b = some { o with slots := sl }) (free : ∀ b o, b ∉ ch → s.heap.get? b = some o → H b = none → H' b = none)
    (there : ∀ b o, b ∉ ch → s.heap.get? b = some o → ∃ o', h'.get? b = some o')
    (tups : ∀ b xs, H b = some (.tup xs) → H' b = some (.tup xs)) (frzs : ∀ b o u, H b = some (.frz o u) → H' b = some (.frz o u)) (tbls : ∀ b ps, H b = some (.tbl ps) → ∃ more, H' b = some (.tbl (ps ++ more)))
    (ns : ∀ m, s.heap.Ns X.env.locals m → h'.Ns X.env.locals m) (hok : HOk X.prog X.w H' h') (hg : AllBare g') :
    Inv X pins σ H' { s with heap := h', gens := g', drawn := d', toks := t' } := by
  have neL : ∀ b o, X.s₀.heap.get? b = some o → b ≠ X.env.locals := fun b o e => Nat.ne_of_lt (Nat.lt_of_lt_of_le (Heap.lt_size e) I.ok.above)
  have neC : ∀ b o, X.s₀.heap.get? b = some o → b ∉ X.ex → b ∉ ch := fun b o e hx hb => by
    rcases (hch b hb).1 with z | z
    · exact hx z
    · exact absurd (Nat.lt_of_lt_of_le (Heap.lt_size e) z) (Nat.lt_irrefl _)
  have cellK : ∀ x c, X.env.cells.lookup x = some c → ∀ v, s.heap.IsCell c v → h'.IsCell c v := fun x c e v ⟨o, ho, hd⟩ => by
    have nch : c ∉ ch := fun z => (hch c z).2.2.1 x c e rfl
    by_cases hc : c ∈ X.fs
    · obtain ⟨sl, q⟩ := slot c o (I.cne x c e) hc nch ho (I.freeC x c e)
      exact ⟨_, q, hd⟩
    · exact ⟨o, keep c o (I.cne x c e) hc nch ho (I.freeC x c e), hd⟩
  refine ⟨I.ok, I.os, hg, ⟨fun b o e n hb hx => ?_, fun b o e n hb hx => ?_, fun b o e n hx => ?_, fun b o e hx => ?_, fun b xs e => tups b xs (I.base.tups b xs e), fun b o xs e => frzs b o xs (I.base.frzs b o xs e), fun b ps e => ?_⟩, ?_, fun x c e => ?_, ?_, fun x c e => ?_, fun p hp => ?_, hok, I.len⟩
  · exact keep b o (neL b o e) hb (neC b o e hx) (I.base.keep b o e n hb hx) (I.base.free b o e n hx)
  · obtain ⟨sl, e1⟩ := I.base.slot b o e n hb hx
    obtain ⟨sl', e2⟩ := slot b _ (neL b o e) hb (neC b o e hx) e1 (I.base.free b o e n hx)
    exact ⟨sl', e2⟩
  · obtain ⟨o', e1⟩ := I.base.there b o e hx
    exact free b o' (neC b o e hx) e1 (I.base.free b o e n hx)
  · obtain ⟨o', e1⟩ := I.base.there b o e hx
    exact there b o' (neC b o e hx) e1
  · obtain ⟨m1, e1⟩ := I.base.tbls b ps e
    obtain ⟨m2, e2⟩ := tbls b _ e1
    exact ⟨m1 ++ m2, by rw [e2, Array.append_assoc]⟩
  · obtain ⟨m, hn, hl⟩ := I.loc
    refine ⟨m, ns m hn, fun i x v e1 e2 e3 => ?_⟩
    obtain ⟨u, r, l⟩ := hl i x v e1 e2 e3
    refine ⟨u, r, ?_⟩
    rcases l with l | ⟨k, c, e, z⟩
    · exact .inl l
    · exact .inr ⟨k, c, e, cellK x c e _ z⟩
  · obtain ⟨v, z⟩ := I.cell x c e
    exact ⟨v, cellK x c e v z⟩
  · obtain ⟨m, ⟨o, _, _, ho, _⟩, _⟩ := I.loc
    exact free _ o (fun z => (hch _ z).2.1 rfl) ho I.free
  · obtain ⟨v, o, ho, hd⟩ := I.cell x c e
    exact free c o (fun z => (hch c z).2.2.1 x c e rfl) ho (I.freeC x c e)
  · obtain ⟨e, n, ne, nf, d⟩ := I.pin p hp
    have nch : p.1 ∉ ch := fun z => (hch p.1 z).2.2.2 p hp rfl
    exact ⟨keep p.1 p.2 ne nf nch e n, free p.1 p.2 nch e n, ne, nf, d⟩
theorem Inv.un {t' : Nat} (I : Inv X pins σ H s) (u : Un X.fs [] H H' s.heap h') (hok : HOk X.prog X.w H' h') : Inv X pins σ H' { s with heap := h', toks := t' } := by
  obtain ⟨m, ⟨o, es, ep, ho, r⟩, _⟩ := id I.loc
  obtain ⟨sl, hL⟩ := u.any ho I.free (by simp)
  exact I.step (g' := s.gens) (d' := s.drawn) (ch := []) (fun _ z => nomatch z) (fun b o _ hb _ e n => u.keep b o e n hb (by simp)) (fun b o _ hb _ e n => u.slot b o e n hb (by simp)) (fun b o _ e n => u.free b o e n (by simp)) (fun b o _ e => u.there b o e (by simp)) u.tups u.frzs u.tbls (fun m' hm => by
    obtain ⟨o', es', ep', ho', r'⟩ := hm
    rw [ho] at ho'; cases ho'
    exact ⟨_, es', ep', hL, r'⟩) hok I.bare
theorem Inv.call {g' : Array GenState} {t' : Nat} {d' : Drawn} {ch : List Addr} (I : Inv X pins σ H s) (u : Un (frs X.stack) ch H H' s.heap h') (hok : HOk X.prog X.w H' h') (hg : AllBare g')
    (hch : ∀ b ∈ ch, (b ∈ X.ex ∨ X.s₀.heap.objs.size ≤ b) ∧ b ≠ X.env.locals ∧ (∀ x c, X.env.cells.lookup x = some c → c ≠ b) ∧ ∀ p ∈ X.pn ++ pins, p.1 ≠ b) :
    Inv X pins σ H' { s with heap := h', gens := g', drawn := d', toks := t' } := by
  obtain ⟨m, ⟨o, es, ep, ho, r⟩, _⟩ := id I.loc
  obtain ⟨sl, hL⟩ := u.any ho I.free fun z => (hch _ z).2.1 rfl
  exact I.step (ch := ch) hch (fun b o hL hb hc e n => u.keep b o e n (fun z => (List.mem_cons.mp (I.stkSub b z)).elim hL hb) hc) (fun b o _ _ hc e n => u.any e n hc) (fun b o hc e n => u.free b o e n hc) (fun b o hc e => u.there b o e hc) u.tups u.frzs u.tbls (fun m' hm => by
    obtain ⟨o', es', ep', ho', r'⟩ := hm
    rw [ho] at ho'; cases ho'
    exact ⟨_, es', ep', hL, r'⟩) hok hg
theorem Inv.turned {t' : Nat} {it : Addr} (I : Inv X pins σ H s) (k : ∀ b o, b ≠ it → s.heap.get? b = some o → h'.get? b = some o) (hn : H it = none) (hL : it ≠ X.env.locals)
    (h1 : it ∈ X.ex ∨ X.s₀.heap.objs.size ≤ it) (h2 : ∀ x c, X.env.cells.lookup x = some c → c ≠ it) (h3 : ∀ p ∈ X.pn ++ pins, p.1 ≠ it) : Inv X pins σ H { s with heap := h', toks := t' } := by
  have nit : ∀ b u, H b = some u → b ≠ it := fun b u e z => by rw [z, hn] at e; cases e
  refine I.step (g' := s.gens) (d' := s.drawn) (ch := [it]) (fun b hb => ?_) (fun b o _ _ hc e _ => k b o (fun z => hc (by simp [z])) e) (fun b o _ _ hc e _ => ⟨o.slots, k b o (fun z => hc (by simp [z])) e⟩) (fun _ _ _ _ n => n)
    (fun b o hc e => ⟨o, k b o (fun z => hc (by simp [z])) e⟩) (fun _ _ e => e) (fun _ _ _ e => e) (fun b ps e => ⟨#[], by rw [e]; simp⟩) (fun m hm => ?_) (fun b u e => ?_) I.bare
  · have e : b = it := by simpa using hb
    subst e
    exact ⟨h1, hL, h2, h3⟩
  · obtain ⟨o, es, ep, ho, r⟩ := hm
    exact ⟨o, es, ep, k _ o (Ne.symm hL) ho, r⟩
  · refine (I.hok b u e).stay (fun c v hc q => k c v ?_ q) (fun _ q => q) fun _ _ q => q
    rcases hc with z | z
    · rw [z]; exact nit b u e
    · exact nit c _ z
theorem Inv.tok (I : Inv X pins σ H s) (t : Nat) : Inv X pins σ H { s with toks := t } := I.un (h' := s.heap) (t' := t) Un.refl I.hok
theorem Inv.kept {t' : Nat} (I : Inv X pins σ H s) (k : ∀ b u, s.heap.get? b = some u → h'.get? b = some u) : Inv X pins σ H { s with heap := h', toks := t' } := I.un (Un.kept k) (I.hok.kept k)
theorem Inv.laid {a : Addr} {o : HO} {t' : Nat} (I : Inv X pins σ H s) (k : ∀ b u, s.heap.get? b = some u → h'.get? b = some u) (hp : s.heap.objs.size ≤ a) (new : ObjOk X.prog X.w (upd H a o) h' a o) :
    Inv X pins σ (upd H a o) { s with heap := h', toks := t' } := I.un (Un.laid k hp (I.hok.fresh hp)) (I.hok.laid k hp new)
theorem Inv.write {x e : Addr} {o : HO} {t' : Nat} (I : Inv X pins σ H s) (mu : Mut (H x)) (he : e = x ∨ H e = some (.own x)) (k : ∀ b u, b ≠ e → s.heap.get? b = some u → h'.get? b = some u) (heo : ∃ u, h'.get? e = some u)
    (new : ObjOk X.prog X.w (upd H x o) h' x o) : Inv X pins σ (upd H x o) { s with heap := h', toks := t' } := I.un (Un.write mu he k heo) (I.hok.write mu he k heo new)
theorem Inv.pins_of {pins' : List (Addr × Obj)} (I : Inv X pins σ H s) (h : ∀ p ∈ pins', s.heap.get? p.1 = some p.2 ∧ H p.1 = none ∧ p.1 ≠ X.env.locals ∧ p.1 ∉ X.fs ∧ ∀ v, p.2.data ≠ .cell v) : Inv X pins' σ H s :=
  ⟨I.ok, I.os, I.bare, I.base, I.loc, I.cell, I.free, I.freeC, fun p hp => (List.mem_append.mp hp).elim (fun z => I.pin p (List.mem_append_left _ z)) (h p), I.hok, I.len⟩
theorem nodup_ix {N : List Str} (hN : N.Nodup) {i j : Nat} {x : Str} (a : N[i]? = some x) (b : N[j]? = some x) : i = j := by
  obtain ⟨h1, e1⟩ := List.getElem?_eq_some_iff.mp a
  obtain ⟨h2, e2⟩ := List.getElem?_eq_some_iff.mp b
  exact (List.getElem_inj hN).mp (e1.trans e2.symm)
theorem store_ok2 {M : Model} {A : Around} {E : Value → Shared → Prop} {i : Nat} {x : Str} {v : V} {u : Value} {Q : Unit → Shared → Prop} (I : Inv X pins σ H s) (hN : X.N.Nodup) (hi : X.N[i]? = some x) (hx : Loc X.env.scope x) (r : RelV v u)
    (h : ∀ s', Inv X pins (σ.set i (some v)) H s' → (∃ a, Heap.SameBut a s.heap s'.heap ∧ (a = X.env.locals ∨ X.env.cells.lookup x = some a)) → Q () s') (hf : X.fn x = true ∨ X.env.scope.names.lookup x = some .local := by first | exact .inl rfl | exact .inr rfl | assumption) : wpAny M A (storeName X.env x u) Q E s := by
  obtain ⟨m, hn, hl⟩ := id I.loc
  have hcls : (X.env.scope.kind == .class || (X.env.scope.kind == .module && X.env.locals != X.env.globals)) = false := by rw [I.ok.kind]; rfl
  have hiσ : i < σ.length := by rw [I.len]; exact (List.getElem?_eq_some_iff.mp hi).1
  have cne := I.cne
  have tracked : ∀ {a : Addr} {h' : Heap}, (∃ o, s.heap.get? a = some o ∧ H a = none) → Heap.SameBut a s.heap h' → HOk X.prog X.w H h' := fun {a h'} ha hs b ob e => by
    obtain ⟨_, _, hfree⟩ := ha
    refine (I.hok b ob e).stay (fun c w' hc q => (hs.2 c ?_).trans q) (fun _ q => q) fun _ _ q => q
    rintro rfl
    rcases hc with rfl | hc
    · rw [hfree] at e; cases e
    · rw [hfree] at hc; cases hc
  rcases hx with hk | hk
  · refine wpAny_storeName_local hk hn (fun h' hn' hs => ?_) hcls
    obtain ⟨oL, _, _, hoL, _⟩ := id hn
    refine h _ ⟨I.ok, I.os, I.bare, ⟨fun b o e n hb hx => ?_, fun b o e n hb hx => ?_, I.base.free, fun b o e hx => ?_, I.base.tups, I.base.frzs, I.base.tbls⟩, ⟨_, hn', fun j y v' e1 e2 e3 => ?_⟩, fun y c e => ?_, I.free, I.freeC, fun p hp => ?_, tracked ⟨oL, hoL, I.free⟩ hs, by simpa using I.len⟩ ⟨_, hs, .inl rfl⟩
    · exact (hs.2 b (Nat.ne_of_lt (Nat.lt_of_lt_of_le (Heap.lt_size e) I.ok.above))).trans (I.base.keep b o e n hb hx)
    · obtain ⟨sl, e1⟩ := I.base.slot b o e n hb hx
      exact ⟨sl, (hs.2 b (Nat.ne_of_lt (Nat.lt_of_lt_of_le (Heap.lt_size e) I.ok.above))).trans e1⟩
    · obtain ⟨o', e1⟩ := I.base.there b o e hx
      exact ⟨o', (hs.2 b (Nat.ne_of_lt (Nat.lt_of_lt_of_le (Heap.lt_size e) I.ok.above))).trans e1⟩
    · by_cases hj : j = i
      · subst hj
        rw [hi] at e1; cases e1
        rw [List.getElem?_set_self hiσ] at e2
        cases e2
        exact ⟨u, r, .inl ⟨hk, by simp⟩⟩
      · rw [List.getElem?_set_ne (Ne.symm hj)] at e2
        obtain ⟨u', r', q⟩ := hl j y v' e1 e2 e3
        refine ⟨u', r', ?_⟩
        rcases q with ⟨k, e⟩ | ⟨k, c, e, z⟩
        · refine .inl ⟨k, ?_⟩
          have : y ≠ x := fun e => hj (nodup_ix hN e1 (e ▸ hi))
          simp [this, e]
        · exact .inr ⟨k, c, e, z.sameBut hs (cne y c e)⟩
    · obtain ⟨w', z⟩ := I.cell y c e
      exact ⟨w', z.sameBut hs (cne y c e)⟩
    · obtain ⟨e, n, ne, nf, d⟩ := I.pin p hp
      exact ⟨(hs.2 p.1 ne).trans e, n, ne, nf, d⟩
  · have hfn : X.fn x = true := by
      rcases hf with z | z
      · exact z
      · rw [z] at hk; cases hk
    obtain ⟨c, hc⟩ := I.ok.has x (.inl hk)
    obtain ⟨w', z⟩ := I.cell x c hc
    refine wpAny_storeName_cell I.ok.kind hk hc z (fun h' hc' hs => ?_)
    obtain ⟨oc, hoc, hocd⟩ := id z
    refine h { s with heap := h' } ⟨I.ok, I.os, I.bare, ⟨fun b o e n hb hx => ?_, fun b o e n hb hx => ?_, I.base.free, fun b o e hx => ?_, I.base.tups, I.base.frzs, I.base.tbls⟩, ⟨m, hn.sameBut hs (Ne.symm (cne x c hc)), fun j y v' e1 e2 e3 => ?_⟩, fun y c' e => ?_, I.free, I.freeC, fun p hp => ?_, tracked ⟨oc, hoc, I.freeC x c hc⟩ hs, by simpa using I.len⟩ ⟨c, hs, .inr hc⟩
    · exact (hs.2 b (Nat.ne_of_lt (Nat.lt_of_lt_of_le (Heap.lt_size e) (I.ok.cab x c hfn hc)))).trans (I.base.keep b o e n hb hx)
    · obtain ⟨sl, e1⟩ := I.base.slot b o e n hb hx
      exact ⟨sl, (hs.2 b (Nat.ne_of_lt (Nat.lt_of_lt_of_le (Heap.lt_size e) (I.ok.cab x c hfn hc)))).trans e1⟩
    · obtain ⟨o', e1⟩ := I.base.there b o e hx
      exact ⟨o', (hs.2 b (Nat.ne_of_lt (Nat.lt_of_lt_of_le (Heap.lt_size e) (I.ok.cab x c hfn hc)))).trans e1⟩
    · by_cases hj : j = i
      · subst hj
        rw [hi] at e1; cases e1
        rw [List.getElem?_set_self hiσ] at e2
        cases e2
        exact ⟨u, r, .inr ⟨.inl hk, c, hc, hc'⟩⟩
      · rw [List.getElem?_set_ne (Ne.symm hj)] at e2
        obtain ⟨u', r', q⟩ := hl j y v' e1 e2 e3
        refine ⟨u', r', ?_⟩
        rcases q with q | ⟨k, c', e, z'⟩
        · exact .inl q
        · refine .inr ⟨k, c', e, z'.sameBut hs ?_⟩
          rintro rfl
          exact hj (nodup_ix hN e1 (I.ok.inj _ _ _ e hc ▸ hi))
    · by_cases hcc : c' = c
      · subst hcc; exact ⟨_, hc'⟩
      · obtain ⟨w2, z2⟩ := I.cell y c' e
        exact ⟨w2, z2.sameBut hs hcc⟩
    · obtain ⟨e, n, ne, nf, d⟩ := I.pin p hp
      refine ⟨(hs.2 p.1 ?_).trans e, n, ne, nf, d⟩
      intro q
      rw [q, hoc] at e
      have q' : oc = p.2 := Option.some.inj e
      exact d w' (by rw [← q']; exact hocd)
theorem store_ok {M : Model} {A : Around} {E : Value → Shared → Prop} {i : Nat} {x : Str} {v : V} {u : Value} {Q : Unit → Shared → Prop} (I : Inv X pins σ H s) (hN : X.N.Nodup) (hi : X.N[i]? = some x) (hx : Loc X.env.scope x) (r : RelV v u)
    (h : ∀ s', Inv X pins (σ.set i (some v)) H s' → Q () s') (hf : X.fn x = true ∨ X.env.scope.names.lookup x = some .local := by first | exact .inl rfl | exact .inr rfl | assumption) : wpAny M A (storeName X.env x u) Q E s :=
  store_ok2 I hN hi hx r (fun s' I' _ => h s' I') hf
theorem Inv.call' {s' : Shared} {ch : List Addr} (I : Inv X pins σ H s) (ho : s'.os = s.os) (u : Un (frs X.stack) ch H H' s.heap s'.heap) (hok : HOk X.prog X.w H' s'.heap) (hg : AllBare s'.gens)
    (hch : ∀ b ∈ ch, (b ∈ X.ex ∨ X.s₀.heap.objs.size ≤ b) ∧ b ≠ X.env.locals ∧ (∀ x c, X.env.cells.lookup x = some c → c ≠ b) ∧ ∀ p ∈ X.pn ++ pins, p.1 ≠ b) : Inv X pins σ H' s' := by
  obtain ⟨h', g', d', t', o'⟩ := s'
  have e : o' = s.os := ho
  subst e
  exact I.call (g' := g') (t' := t') (d' := d') u hok hg hch
end
abbrev XK := Value → Option Addr → Hp → Prop
abbrev St := List (Option V)
abbrev VK := V → Hp → Prop
abbrev TE := St → Hp → VK → Prop
abbrev TT := St → Hp → (Bool → Hp → Prop) → Prop
abbrev TA := St → Hp → (List V → Hp → Prop) → Prop
structure Ends where
  nx : St → Hp → Prop
  rt : VK
  bk : St → Hp → Prop := fun _ _ => False
  ct : St → Hp → Prop := fun _ _ => False
abbrev TS := Ends → St → Hp → Prop
def EP (X : Cx) (pins : List (Addr × Obj)) (σ : St) (Q : VK) (u : Value) (s' : Shared) : Prop := ∃ v H', Inv X pins σ H' s' ∧ RelV v u ∧ Q v H'
def TP (X : Cx) (pins : List (Addr × Obj)) (σ : St) (Q : Bool → Hp → Prop) (b : Bool) (s' : Shared) : Prop := ∃ H', Inv X pins σ H' s' ∧ Q b H'
def AP (X : Cx) (pins : List (Addr × Obj)) (σ : St) (Q : List V → Hp → Prop) (us : List Value) (s' : Shared) : Prop := ∃ vs H', Inv X pins σ H' s' ∧ Vals vs us ∧ Q vs H'
def SP (X : Cx) (pins : List (Addr × Obj)) (D : Ends) (f : Flow) (s' : Shared) : Prop :=
  match f with
  | .next => ∃ σ' H', Inv X pins σ' H' s' ∧ D.nx σ' H'
  | .brk => ∃ σ' H', Inv X pins σ' H' s' ∧ D.bk σ' H'
  | .cont => ∃ σ' H', Inv X pins σ' H' s' ∧ D.ct σ' H'
  | .ret u => ∃ v σ' H', Inv X pins σ' H' s' ∧ RelV v u ∧ D.rt v H'
def PE (X : Cx) (e : Expr) (t : TE) : Prop :=
  ∀ (pins : List (Addr × Obj)) (s : Shared) (σ : St) (H : Hp) (Q : VK), Inv X pins σ H s → t σ H Q → wpAny (model X.prog X.w) X.A (eval e X.env) (EP X pins σ Q) X.xe s
def PT (X : Cx) (e : Expr) (t : TT) : Prop :=
  ∀ (pins : List (Addr × Obj)) (s : Shared) (σ : St) (H : Hp) (Q : Bool → Hp → Prop), Inv X pins σ H s → t σ H Q → wpAny (model X.prog X.w) X.A (isTrue e X.env (eval e X.env)) (TP X pins σ Q) X.xe s
def PW (X : Cx) (e : Expr) (t : TT) : Prop :=
  ∀ (whole : Sem Value) (pins : List (Addr × Obj)) (s : Shared) (σ : St) (H : Hp) (Q : Bool → Hp → Prop), Inv X pins σ H s → t σ H Q → wpAny (model X.prog X.w) X.A (isTrue e X.env whole) (TP X pins σ Q) X.xe s
theorem PW.pt {X : Cx} {e : Expr} {t : TT} (h : PW X e t) : PT X e t := h _
def PA (X : Cx) (es : List Expr) (t : TA) : Prop :=
  ∀ (pos : Pos) (pins : List (Addr × Obj)) (s : Shared) (σ : St) (H : Hp) (Q : List V → Hp → Prop), Inv X pins σ H s → t σ H Q → wpAny (model X.prog X.w) X.A (spliced (backTo pos (starEach es X.env))) (AP X pins σ Q) X.xe s
def PS (X : Cx) (st : Stmt) (t : TS) : Prop :=
  ∀ (pins : List (Addr × Obj)) (s : Shared) (σ : St) (H : Hp) (D : Ends), Inv X pins σ H s → t D σ H → wpAny (model X.prog X.w) X.A (exec st X.env) (SP X pins D) X.xe s
def PSs (X : Cx) (st : List Stmt) (t : TS) : Prop :=
  ∀ (pins : List (Addr × Obj)) (s : Shared) (σ : St) (H : Hp) (D : Ends), Inv X pins σ H s → t D σ H → wpAny (model X.prog X.w) X.A (execs st X.env) (SP X pins D) X.xe s
theorem thn {α : Type} {t : Sem α} {Q Q' : α → Shared → Prop} {M : Model} {A : Around} {E : Value → Shared → Prop} {s : Shared} (h : wpAny M A t Q E s) (hQ : ∀ a s, Q a s → Q' a s) : wpAny M A t Q' E s := wpAny_mono h hQ fun _ _ x => x
end L2
namespace L2
open PySem PySem.Spec PyProof.Rows
section
variable {X : Cx}
def tVar (i : Nat) : TE := fun σ H Q => ∃ v, σ[i]? = some (some v) ∧ Q v H
def tC (v : V) : TE := fun _ H Q => Q v H
theorem pe_var {i : Nat} {x : Str} {pos : Pos} (hN : X.N[i]? = some x) (hv : Vis X.env.scope x) (hd : (x == ("__debug__" : Str)) = false := by decide) (hcd : (x == ("__classdict__" : Str)) = false := by decide) : PE X (.Name x pos) (tVar i) := by
  intro pins s σ H Q I h
  obtain ⟨v, e, h⟩ := h
  obtain ⟨m, hn, hl⟩ := I.loc
  obtain ⟨u, r, l⟩ := hl i x v hN e hv
  have fin : EP X pins σ Q u s := ⟨v, H, I, r, h⟩
  rcases l with ⟨hk, hm⟩ | ⟨hk, c, hc, hcell⟩
  · exact wpAny_Name (wpAny_loadName_local I.ok.kind hk hn hm fin) hd
  · rcases hk with hk | hk
    · exact wpAny_Name (wpAny_loadName_cell I.ok.kind hk hc hcell fin) hd
    · exact wpAny_Name (wpAny_loadName_free I.ok.kind hk hc hcell fin hcd) hd
theorem pe_int {i j pos} : PE X (.Constant (.int i) j pos) (tC (.int i)) := fun _ _ _ H _ I h => wpAny_Constant_int ⟨.int i, H, I.tok _, ⟨_, rfl⟩, h⟩
theorem pe_bl {b j pos} : PE X (.Constant (.bool b) j pos) (tC (.bl b)) := fun _ _ _ H _ I h => Constant_bool ⟨.bl b, H, I, rfl, h⟩
theorem pe_str {x j pos} : PE X (.Constant (.str x) j pos) (tC (.str x)) := fun _ _ _ H _ I h => Calls.Constant_str ⟨.str x, H, I.tok _, ⟨_, rfl⟩, h⟩
def Gl (X : Cx) (x : Str) : Prop := X.env.kindOf x = some .globalImplicit
theorem ld_glob {E : Value → Shared → Prop} {pins : List (Addr × Obj)} {s : Shared} {σ : St} {H : Hp} {x : Str} {u : Value} {pos : Pos} {Q : Value → Shared → Prop} (I : Inv X pins σ H s) (hg : Gl X x) (hm : X.mg x = some u) (h : Q u s)
    (hd : (x == ("__debug__" : Str)) = false := by decide) : wpAny (model X.prog X.w) X.A (eval (.Name x pos) X.env) Q E s :=
  Calls.Name_function_global I.ok.kind hg (Calls.loadGlobal_global (by rw [I.ok.glob]; exact I.mod.glob.keeps I.bk) hm h) hd
theorem ld_blt {E : Value → Shared → Prop} {pins : List (Addr × Obj)} {s : Shared} {σ : St} {H : Hp} {x : Str} {u : Value} {pos : Pos} {Q : Value → Shared → Prop} (I : Inv X pins σ H s) (hg : Gl X x) (hm : X.mg x = none) (hv : bootBuiltins x = some u) (h : Q u s)
    (hn : x ≠ "__name__" := by decide) (hd : (x == ("__debug__" : Str)) = false := by decide) : wpAny (model X.prog X.w) X.A (eval (.Name x pos) X.env) Q E s := by
  obtain ⟨mb, h1, h2⟩ := I.mod.blt
  exact Calls.Name_function_global I.ok.kind hg (Calls.loadGlobal_builtin (by rw [I.ok.glob]; exact I.mod.glob.keeps I.bk) hm (by rw [I.ok.blt]; exact h1.keeps I.bk) ((h2 x hn).trans hv) h) hd
theorem pe_bltn {x : Str} {v : V} {u : Value} {pos : Pos} (hg : Gl X x) (hm : X.mg x = none) (hv : bootBuiltins x = some u) (r : RelV v u) (hn : x ≠ "__name__" := by decide) (hd : (x == ("__debug__" : Str)) = false := by decide) : PE X (.Name x pos) (tC v) :=
  fun _ _ _ H _ I h => ld_blt I hg hm hv ⟨v, H, I, r, h⟩ hn hd
variable {a b : Expr} {ta tb : TE} {pos : Pos}
def tB (t : TE) : TT := fun σ H Q => t σ H fun x H1 => ∃ c, x = .bl c ∧ Q c H1
theorem pt_val {e : Expr} {t : TE} (h : PE X e t) (he : ∀ whole, isTrue e X.env whole = (do let v ← whole; standAt e.pos; holding [v] (truthy v)) := by intro _; rfl) : PT X e (tB t) := by
  intro pins s σ H Q I hw
  refine isTrue_plain (thn (h pins s σ H _ I hw) fun v s1 ⟨x, H1, I1, r1, q1⟩ => ?_) (he _)
  obtain ⟨d, rfl, q⟩ := q1
  cases r1
  exact wpAny_truthy_bool ⟨H1, I1, q⟩
variable {tA tB' : TT} {rest : List Expr}
def tAnd (t u : TT) : TT := fun σ H Q => t σ H fun c H1 => if c = true then u σ H1 Q else Q false H1
def tOr (t u : TT) : TT := fun σ H Q => t σ H fun c H1 => if c = true then Q true H1 else u σ H1 Q
def tNot (t : TT) : TT := fun σ H Q => t σ H fun c H1 => Q (!c) H1
theorem pw_or1 (ha : PT X a tA) : PW X (.BoolOp .Or [a] pos) tA := by
  intro wh pins s σ H Q I h
  refine isTrue_or (thn (ha pins s σ H Q I h) fun c s1 e => ?_)
  cases c with
  | false => exact isTrue_or_nil e
  | true => exact e
theorem pw_or (ha : PT X a tA) (hb : PW X (.BoolOp .Or (b :: rest) pos) tB') : PW X (.BoolOp .Or (a :: b :: rest) pos) (tOr tA tB') := by
  intro wh pins s σ H Q I h
  refine isTrue_or (thn (ha pins s σ H _ I h) fun c s1 ⟨H1, I1, q1⟩ => ?_)
  cases c with
  | true => exact ⟨H1, I1, q1⟩
  | false => exact hb wh pins s1 σ H1 Q I1 q1
theorem pt_not (ha : PT X a tA) : PT X (.UnaryOp .Not a pos) (tNot tA) := by
  intro pins s σ H Q I h
  exact isTrue_not (ha pins s σ H (fun c H1 => Q (!c) H1) I h)
def tAndV (ta tb : TE) : TE := fun σ H Q => ta σ H fun x H1 => ∃ c, x = .bl c ∧ if c = true then tb σ H1 Q else Q (.bl false) H1
def tOrV (ta tb : TE) : TE := fun σ H Q => ta σ H fun x H1 => ∃ c, x = .bl c ∧ if c = true then Q (.bl true) H1 else tb σ H1 Q
def tNotV (ta : TE) : TE := fun σ H Q => ta σ H fun x H1 => ∃ c, x = .bl c ∧ Q (.bl (!c)) H1
theorem pe_one {op} {t : TE} (h : PE X a t) : PE X (.BoolOp op [a] pos) t := fun pins s σ H Q I hw => BoolOp_one (h pins s σ H Q I hw)
theorem pe_and (ha : PE X a ta) (hb : PE X (.BoolOp .And (b :: rest) pos) tb) : PE X (.BoolOp .And (a :: b :: rest) pos) (tAndV ta tb) := by
  intro pins s σ H Q I h
  refine BoolOp_and (thn (ha pins s σ H _ I h) fun v s1 ⟨x, H1, I1, r1, q1⟩ => ?_)
  obtain ⟨c, rfl, q1⟩ := q1
  cases r1
  refine wpAny_truthy_bool ?_
  cases c with
  | true => exact hb pins s1 σ H1 Q I1 q1
  | false => exact ⟨.bl false, H1, I1, rfl, q1⟩
theorem pe_not (ha : PE X a ta) : PE X (.UnaryOp .Not a pos) (tNotV ta) := by
  intro pins s σ H Q I h
  refine UnaryOp_ (thn (ha pins s σ H _ I h) fun v s1 ⟨x, H1, I1, r1, q1⟩ => ?_)
  obtain ⟨c, rfl, q1⟩ := q1
  cases r1
  exact not_of (wpAny_truthy_bool ⟨.bl (!c), H1, I1, rfl, q1⟩)
def tIf (t : TT) (ta tb : TE) : TE := fun σ H Q => t σ H fun c H1 => if c = true then ta σ H1 Q else tb σ H1 Q
theorem pe_ifExp {c : Expr} (hc : PT X c tA) (ha : PE X a ta) (hb : PE X b tb) : PE X (.IfExp c a b pos) (tIf tA ta tb) := by
  intro pins s σ H Q I h
  refine wpAny_IfExp (thn (hc pins s σ H _ I h) fun d s1 ⟨H1, I1, q1⟩ => ?_)
  cases d with
  | true => exact ha pins s1 σ H1 Q I1 q1
  | false => exact hb pins s1 σ H1 Q I1 q1
end
end L2
namespace L2
open PySem PySem.Spec PyProof.Rows
def SqL (K : PySem.W.Frag) (H : Hp) (a : Addr) (xs : List V) : Prop :=
  Rd H a (.lst xs) ∨
    ∃ (o : Obj) (its : Array Value) (n : Nat), K.lookup a = some o ∧ o.cls = .type "list" ∧ o.dict = none ∧ o.data = .seq its n ∧ its.size ≤ sizeLine ∧ Vals xs its.toList
def SqT (K : PySem.W.Frag) (H : Hp) (a : Addr) (xs : List V) : Prop :=
  Rd H a (.tup xs) ∨
    ∃ (o : Obj) (its : Array Value) (n : Nat), K.lookup a = some o ∧ o.cls = .type "tuple" ∧ o.data = .seq its n ∧ its.size ≤ sizeLine ∧ Vals xs its.toList
def absV : Value → Option V
  | .none => some .non
  | .bool b => some (.bl b)
  | .int i _ => some (.int i)
  | .str x _ => some (.str x)
  | .bytes b _ => some (.byt b)
  | .float b _ => some (.flt b)
  | .ref a => some (.ref a)
  | .type n => some (.ty n)
  | _ => none
theorem RelV.abs {x : V} {u : Value} (r : RelV x u) : absV u = some x := by
  cases x with
  | non => cases r; rfl
  | bl _ => cases r; rfl
  | int _ => obtain ⟨t, rfl⟩ := r; rfl
  | str _ => obtain ⟨t, rfl⟩ := r; rfl
  | byt _ => obtain ⟨t, rfl⟩ := r; rfl
  | flt _ => obtain ⟨t, rfl⟩ := r; rfl
  | ref _ => cases r; rfl
  | ty _ => cases r; rfl
theorem RelV.inj {x y : V} {u : Value} (r : RelV x u) (q : RelV y u) : x = y := Option.some.inj (r.abs.symm.trans q.abs)
theorem Vals.inj : ∀ {xs ys : List V} {us : List Value}, Vals xs us → Vals ys us → xs = ys
  | _, _, _, .nil, .nil => rfl
  | _, _, _, .cons r t, .cons r' t' => by rw [r.inj r', Vals.inj t t']
section
variable {X : Cx} {pins : List (Addr × Obj)} {σ : St} {H : Hp} {s : Shared} {a : Addr} {xs ys : List V}
theorem SqL.of {K : PySem.W.Frag} (h : H a = some (.lst xs)) : SqL K H a xs := .inl (.inl h)
theorem SqT.of {K : PySem.W.Frag} (h : H a = some (.tup xs)) : SqT K H a xs := .inl (.inl h)
theorem Inv.list (I : Inv X pins σ H s) (h : SqL X.K H a xs) : ∃ its : List Value, Vals xs its ∧ PlainL s.heap a its.toArray ∧ xs.length ≤ sizeLine := by
  rcases h with h | ⟨o, its, n, hk, hc, hd, hs, hz, r⟩
  · obtain ⟨z, its, n, r, e⟩ := h.ok I.hok
    exact ⟨its, r, ⟨_, n, e, rfl, rfl, rfl⟩, z⟩
  · refine ⟨its.toList, r, ⟨o, n, I.kIn a o hk, hc, hd, by simpa using hs⟩, ?_⟩
    have e := r.length
    simp only [Array.length_toList] at e
    omega
theorem Inv.tuple (I : Inv X pins σ H s) (h : SqT X.K H a xs) : ∃ its : List Value, Vals xs its ∧ IsTup s.heap a its.toArray ∧ xs.length ≤ sizeLine := by
  rcases h with h | ⟨o, its, n, hk, hc, hs, hz, r⟩
  · obtain ⟨z, its, r, p⟩ := h.ok I.hok
    exact ⟨its, r, p, z⟩
  · refine ⟨its.toList, r, ⟨o, I.kIn a o hk, hc, n, by simpa using hs⟩, ?_⟩
    have e := r.length
    simp only [Array.length_toList] at e
    omega
theorem Inv.list_inj (I : Inv X pins σ H s) (h : SqL X.K H a xs) (h' : SqL X.K H a ys) : xs = ys := by
  obtain ⟨its, r, ⟨o, n, e, _, _, d⟩, _⟩ := I.list h
  obtain ⟨its', r', ⟨o', n', e', _, _, d'⟩, _⟩ := I.list h'
  rw [e] at e'; cases e'
  rw [d] at d'
  injection d' with d1 _
  have : its = its' := by simpa using congrArg Array.toList d1
  subst this
  exact r.inj r'
end
abbrev Cx.wish (X : Cx) (E : Value → Shared → Prop) : Cx := { X with xe := E }
abbrev Cx.nox (X : Cx) : Cx := X.wish fun _ _ => False
theorem Cx.Ok.wish {X : Cx} (ok : X.Ok) (E : Value → Shared → Prop) : (X.wish E).Ok :=
  ⟨ok.mod, ok.kind, ok.glob, ok.blt, ok.above, ok.inj, ok.has, ok.cab, ok.hd, ok.frames, ok.stk, ok.exf, ok.bs, ok.bsz, ok.noex, ok.exfs, ok.funs, ok.frf⟩
theorem Cx.Ok.unwish {X : Cx} {E : Value → Shared → Prop} (ok : (X.wish E).Ok) : X.Ok :=
  ⟨ok.mod, ok.kind, ok.glob, ok.blt, ok.above, ok.inj, ok.has, ok.cab, ok.hd, ok.frames, ok.stk, ok.exf, ok.bs, ok.bsz, ok.noex, ok.exfs, ok.funs, ok.frf⟩
section
variable {X : Cx} {pins : List (Addr × Obj)} {σ : St} {H : Hp} {s : Shared} {E : Value → Shared → Prop}
theorem Inv.wish (I : Inv X pins σ H s) (E : Value → Shared → Prop) : Inv (X.wish E) pins σ H s := ⟨I.ok.wish E, I.os, I.bare, I.base, I.loc, I.cell, I.free, I.freeC, I.pin, I.hok, I.len⟩
theorem Inv.unwish (I : Inv (X.wish E) pins σ H s) : Inv X pins σ H s := ⟨I.ok.unwish, I.os, I.bare, I.base, I.loc, I.cell, I.free, I.freeC, I.pin, I.hok, I.len⟩
theorem SP.unwish {D : Ends} {f : Flow} {s' : Shared} (h : SP (X.wish E) pins D f s') : SP X pins D f s' := by
  cases f with
  | next => obtain ⟨σ', H', I, q⟩ := h; exact ⟨σ', H', I.unwish, q⟩
  | brk => obtain ⟨σ', H', I, q⟩ := h; exact ⟨σ', H', I.unwish, q⟩
  | cont => obtain ⟨σ', H', I, q⟩ := h; exact ⟨σ', H', I.unwish, q⟩
  | ret u => obtain ⟨v, σ', H', I, r, q⟩ := h; exact ⟨v, σ', H', I.unwish, r, q⟩
theorem PSs.nox {st : List Stmt} {t : TS} (h : PSs X.nox st t) : PSs X st t := fun pins s σ H D I hw =>
  wpAny_mono (h pins s σ H D (I.wish _) hw) (fun _ _ q => q.unwish) fun _ _ z => False.elim z
end
section
variable {X : Cx} {st : Stmt} {rest : List Stmt} {t u : TS} {e : Expr} {te : TE} {pos : Pos}
def tNext : TS := fun D σ H => D.nx σ H
def tSeq (t u : TS) : TS := fun D σ H => t { D with nx := u D } σ H
theorem pss_nil : PSs X [] tNext := fun _ _ σ H _ I h => wpAny_execs_nil ⟨σ, H, I, h⟩
theorem pss_cons (h1 : PS X st t) (h2 : PSs X rest u) : PSs X (st :: rest) (tSeq t u) := by
  intro pins s σ H D I h
  refine wpAny_execs_cons (thn (h1 pins s σ H { D with nx := u D } I h) fun f s1 q => ?_)
  cases f with
  | next =>
    obtain ⟨σ', H', I', q⟩ := q
    exact h2 pins s1 σ' H' D I' q
  | ret v => exact q
  | brk => exact q
  | cont => exact q
theorem pss_one (h1 : PS X st t) : PSs X [st] t := by
  intro pins s σ H D I h
  refine wpAny_execs_cons (thn (h1 pins s σ H D I h) fun f s1 q => ?_)
  cases f with
  | next => exact wpAny_execs_nil q
  | ret v => exact q
  | brk => exact q
  | cont => exact q
theorem Inv.quiet {pins : List (Addr × Obj)} {σ : St} {H : Hp} {s : Shared} (I : Inv X pins σ H s) : interactive X.env = false := by simp [interactive, I.ok.kind]
def tDrop (te : TE) : TS := fun D σ H => te σ H fun _ H1 => D.nx σ H1
theorem ps_expr (he : PE X e te) (hs : swapsWith e none pos.line X.env = pure false := by rfl) : PS X (.Expr e pos) (tDrop te) := by
  intro pins s σ H D I h
  exact wpAny_Expr_any (thn (he pins s σ H _ I h) fun v s1 ⟨x, H1, I1, r1, q1⟩ => ⟨σ, H1, I1, q1⟩) I.quiet hs
def tRet (te : TE) : TS := fun D σ H => te σ H D.rt
theorem ps_ret (he : PE X e te) : PS X (.Return (some e) pos) (tRet te) := by
  intro pins s σ H D I h
  exact wpAny_Return_some (thn (he pins s σ H _ I h) fun v s1 ⟨x, H1, I1, r1, q1⟩ => ⟨x, σ, H1, I1, r1, q1⟩)
def tRetN : TS := fun D _ H => D.rt .non H
def tIfS (c : TT) (t u : TS) : TS := fun D σ H => c σ H fun b H1 => if b = true then t D σ H1 else u D σ H1
theorem ps_if {c : Expr} {a b : List Stmt} {tc : TT} (hc : PT X c tc) (ha : PSs X a t) (hb : PSs X b u) : PS X (.If c a b pos) (tIfS tc t u) := by
  intro pins s σ H D I h
  refine wpAny_If (thn (hc pins s σ H _ I h) fun d s1 ⟨H1, I1, q1⟩ => ?_)
  cases d with
  | true => exact ha pins s1 σ H1 D I1 q1
  | false => exact hb pins s1 σ H1 D I1 q1
def tNever : TS := fun _ _ _ => False
theorem ps_never : PS X st tNever := fun _ _ _ _ _ _ h => h.elim
end
abbrev TG := V → St → Hp → (St → Hp → Prop) → Prop
abbrev TGs := List V → St → Hp → (St → Hp → Prop) → Prop
def PG (X : Cx) (target : Expr) (t : TG) : Prop :=
  ∀ (pins : List (Addr × Obj)) (s : Shared) (σ : St) (H : Hp) (v : V) (u : Value) (Q : St → Hp → Prop), Inv X pins σ H s → RelV v u → t v σ H Q →
    wpAny (model X.prog X.w) X.A (assign target X.env u) (fun _ s' => ∃ σ' H', Inv X pins σ' H' s' ∧ Q σ' H') X.xe s
def PGs (X : Cx) (ts : List Expr) (t : TGs) : Prop :=
  ∀ (pins : List (Addr × Obj)) (s : Shared) (σ : St) (H : Hp) (vs : List V) (us : List Value) (Q : St → Hp → Prop), Inv X pins σ H s → Vals vs us → t vs σ H Q →
    wpAny (model X.prog X.w) X.A (assignInOrder ((assignEach ts X.env).map (·.2)) us) (fun _ s' => ∃ σ' H', Inv X pins σ' H' s' ∧ Q σ' H') X.xe s
abbrev TSet := V → V → V → Hp → (Hp → Prop) → Prop
def PSet (X : Cx) (t : TSet) : Prop :=
  ∀ (pins : List (Addr × Obj)) (s : Shared) (σ : St) (H : Hp) (o i v : V) (ov iv u : Value) (Q : Hp → Prop), Inv X pins σ H s → RelV o ov → RelV i iv → RelV v u → t o i v H Q →
    wpAny (model X.prog X.w) X.A (setItem ov iv u) (fun _ s' => ∃ H', Inv X pins σ H' s' ∧ Q H') X.xe s
section
variable {X : Cx} {pos : Pos}
def gName (i : Nat) : TG := fun v σ H Q => Q (σ.set i (some v)) H
theorem pg_name {i : Nat} {x : Str} (hN : X.N.Nodup) (hi : X.N[i]? = some x) (hx : Loc X.env.scope x) (hf : X.fn x = true ∨ X.env.scope.names.lookup x = some .local := by first | exact .inl rfl | exact .inr rfl | assumption) : PG X (.Name x pos) (gName i) := by
  intro pins s σ H v u Q I r h
  exact wpAny_assign_Name (store_ok I hN hi hx r (fun s' I' => ⟨_, H, I', h⟩) hf)
def gNil : TGs := fun vs σ H Q => vs = [] ∧ Q σ H
def gCons (t : TG) (u : TGs) : TGs := fun vs σ H Q => ∃ v r, vs = v :: r ∧ t v σ H fun σ' H' => u r σ' H' Q
theorem pgs_nil : PGs X [] gNil := by
  intro pins s σ H vs us Q I r h
  obtain ⟨e, h⟩ := h
  subst e
  cases r
  exact assignInOrder_nil ⟨σ, H, I, h⟩
theorem pgs_cons {e : Expr} {es : List Expr} {t : TG} {u : TGs} (h1 : PG X e t) (h2 : PGs X es u)
    (hs : (assignEach (e :: es) X.env).map (·.2) = assign e X.env :: (assignEach es X.env).map (·.2) := by rfl) : PGs X (e :: es) (gCons t u) := by
  intro pins s σ H vs us Q I r h
  obtain ⟨v, vr, e1, h⟩ := h
  subst e1
  cases r with
  | cons r rr =>
    rw [hs]
    refine assignInOrder_cons (thn (h1 pins s σ H _ _ _ I r h) fun _ s1 ⟨σ1, H1, I1, q1⟩ => ?_)
    exact h2 pins s1 σ1 H1 _ _ Q I1 rr q1
def gTup (K : PySem.W.Frag) (n : Nat) (t : TGs) : TG := fun v σ H Q => ∃ a xs, v = .ref a ∧ SqT K H a xs ∧ xs.length = n ∧ t xs σ H Q
theorem pg_tup {es : List Expr} {k : Nat} {t : TGs} {n : Nat} (hc : X.calm = true) (h : PGs X es t)
    (hn : (assignEach es X.env).length = n := by rfl) (hst : (assignEach es X.env).findIdx? (·.1) = none := by rfl) : PG X (.Tuple es k pos) (gTup X.K n t) := by
  intro pins s σ H v u Q I r hw
  obtain ⟨a, xs, e1, hq, hl, hw⟩ := hw
  subst e1
  cases r
  obtain ⟨its, rv, ht, hz⟩ := I.tuple hq
  refine assign_Tuple_tuple (I.ok.hd hc) ht (by simp [hn, ← hl, rv.length]) hst fun h' hx => ?_
  have I1 : Inv X pins σ H { s with heap := h' } := I.kept (t' := s.toks) fun b o e => hx b o (Nat.ne_of_lt (Heap.lt_size e)) e
  exact h pins _ σ H xs _ Q I1 (by simpa using rv) hw
def gSub (to ti : TE) (t : TSet) : TG := fun v σ H Q => to σ H fun o H1 => ti σ H1 fun i H2 => t o i v H2 fun H3 => Q σ H3
theorem pg_sub {o i : Expr} {to ti : TE} {t : TSet} (ho : PE X o to) (hi : PE X i ti) (hs : PSet X t)
    (ha : ∀ v, assign (.Subscript o i pos) X.env v = (do
      let ov ← holding [v] (eval o X.env)
      let iv ← holding [v, ov] (eval i X.env)
      standAt pos
      holding [v, ov, iv] (setItem ov iv v)
      release [v, ov, iv] []) := by intro _; rfl) : PG X (.Subscript o i pos) (gSub to ti t) := by
  intro pins s σ H v u Q I r h
  rw [ha]
  refine wpAny_bind (wpAny_holding (thn (ho pins s σ H _ I h) fun ov s1 ⟨x, H1, I1, r1, q1⟩ => ?_))
  refine wpAny_bind (wpAny_holding (thn (hi pins s1 σ H1 _ I1 q1) fun iv s2 ⟨y, H2, I2, r2, q2⟩ => ?_))
  refine wpAny_bind (wpAny_standAt (wpAny_bind (wpAny_holding (thn (hs pins s2 σ H2 x y v ov iv u _ I2 r1 r2 r q2) fun _ s3 ⟨H3, I3, q3⟩ => ?_))))
  exact wpAny_release ⟨σ, H3, I3, q3⟩
def tAsg (te : TE) (g : TG) : TS := fun D σ H => te σ H fun x H1 => g x σ H1 D.nx
theorem ps_asg {tg e : Expr} {te : TE} {g : TG} (he : PE X e te) (hg : PG X tg g) (hs : swapsWithSole [tg] e pos.line X.env = pure false := by rfl) (hw : swappedStores [tg] e X.env = pure none := by rfl)
    (h1 : (assignEach [tg] X.env).map (·.2) = [assign tg X.env] := by rfl) : PS X (.Assign [tg] e pos) (tAsg te g) := by
  intro pins s σ H D I h
  refine wpAny_Assign_stores (thn (he pins s σ H _ I h) fun v s1 ⟨x, H1, I1, r1, q1⟩ => ?_) hs hw
  rw [h1]
  exact thn (hg pins s1 σ H1 x v _ I1 r1 q1) fun _ s2 q => q
theorem ps_set {i : Nat} {x : Str} {e : Expr} {te : TE} {pos' : Pos} (hN : X.N.Nodup) (hi : X.N[i]? = some x) (hx : Loc X.env.scope x) (he : PE X e te) (hs : swapsWith e (some (.Name x pos')) pos.line X.env = pure false := by rfl) (hf : X.fn x = true ∨ X.env.scope.names.lookup x = some .local := by first | exact .inl rfl | exact .inr rfl | assumption) :
    PS X (.Assign [.Name x pos'] e pos) (tAsg te (gName i)) := by
  intro pins s σ H D I h
  refine wpAny_Assign_Name (thn (he pins s σ H _ I h) fun v s1 ⟨y, H1, I1, r1, q1⟩ => ?_) hs
  exact store_ok I1 hN hi hx r1 (fun s2 I2 => ⟨_, H1, I2, q1⟩) hf
def tPar (i j : Nat) (ta : TA) : TS := fun D σ H => ta σ H fun vs H1 => ∃ v w, vs = [v, w] ∧ D.nx ((σ.set i (some v)).set j (some w)) H1
theorem ps_par {i j : Nat} {x y : Str} {a b : Expr} {ta : TA} {px py pt : Pos} {kt k2 pt2} (hc : X.calm = true) (hN : X.N.Nodup) (hi : X.N[i]? = some x) (hj : X.N[j]? = some y) (hij : i ≠ j)
    (hx : X.env.scope.names.lookup x = some .local) (hy : X.env.scope.names.lookup y = some .local) (ha : PA X [a, b] ta)
    (hw : swappedStores [.Tuple [.Name x px, .Name y py] kt pt] (.Tuple [a, b] k2 pt2) X.env = pure (some [x, y]))
    (hs : swapsWithSole [.Tuple [.Name x px, .Name y py] kt pt] (.Tuple [a, b] k2 pt2) pos.line X.env = pure false := by rfl) :
    PS X (.Assign [.Tuple [.Name x px, .Name y py] kt pt] (.Tuple [a, b] k2 pt2) pos) (tPar i j ta) := by
  intro pins s σ H D I h
  rw [exec_Assign_arm]
  refine wpAny_bind (wpAny_standAt ?_)
  rw [hs]
  refine wpAny_bind (wpAny_pure ?_)
  rw [if_neg (by decide)]
  refine wpAny_bind (Tuple_ (thn (ha _ pins s σ H _ I h) fun us s1 ⟨vs, H1, I1, r1, q1⟩ => ?_))
  obtain ⟨v, w, e1, q1⟩ := q1
  subst e1
  obtain ⟨u1, u2, rfl, rv, rw'⟩ : ∃ u1 u2, us = [u1, u2] ∧ RelV v u1 ∧ RelV w u2 := by
    cases r1 with
    | cons p q =>
      cases q with
      | cons p' q' =>
        cases q'
        exact ⟨_, _, rfl, p, p'⟩
  refine wpAny_newObj_type ?_ (by show 2 ≤ sizeLine; decide)
  have I2 : Inv X pins σ H1 { s1 with heap := s1.heap.push { cls := .type "tuple", data := .seq [u1, u2].toArray } } := I1.kept (t' := s1.toks) fun b o e => Heap.get?_push_of_some _ e
  rw [hw]
  refine wpAny_bind (wpAny_pure ?_)
  show wpAny (model X.prog X.w) X.A (do rule "assign.swapped-stores"; let items ← unpackItems (.ref s1.heap.objs.size) 2 none; assignInOrder [fun v => bindName X.env y v, fun v => bindName X.env x v] items.reverse; pure Flow.next) _ _ _
  refine wpAny_bind (wpAny_rule (wpAny_bind (unpackItems_tuple (items := #[u1, u2]) (I.ok.hd hc) (IsTup.new s1.heap _) fun h' hx' => ?_)))
  have I3 := I2.kept (h' := h') (t' := s1.toks) fun b o e => hx' b o (Nat.ne_of_lt (Heap.lt_size e)) e
  show wpAny _ _ (assignInOrder [fun v => bindName X.env y v, fun v => bindName X.env x v] [u2, u1] >>= fun _ => pure Flow.next) _ _ _
  refine wpAny_bind (assignInOrder_cons (wpAny_bindName (store_ok I3 hN hj (.inl hy) rw' (fun s2 I4 => ?_) (.inr hy))))
  refine assignInOrder_cons (wpAny_bindName (store_ok I4 hN hi (.inl hx) rv (fun s3 I5 => assignInOrder_nil (wpAny_pure ?_)) (.inr hx)))
  rw [List.set_comm _ _ (Ne.symm hij)] at I5
  exact ⟨_, H1, I5, q1⟩
end
section
variable {X : Cx} {pos : Pos}
def tWhile (c : TT) (tb : TS) : TS := fun D σ H => ∃ W : Nat → St → Hp → Prop, (∃ m, W m σ H) ∧ ∀ m σ H, W m σ H →
  c σ H fun b H1 => if b = true then ∃ N : St → Hp → Prop, (∀ σ' H', N σ' H' → ∃ m', m' < m ∧ W m' σ' H') ∧ tb { D with nx := N, ct := N, bk := D.nx } σ H1 else D.nx σ H1
theorem ps_while {c : Expr} {body : List Stmt} {tc : TT} {tb : TS} (hp : PassesOwn (model X.prog X.w) X.A X.env X.xe) (hc : PT X c tc) (hb : PSs X body tb) : PS X (.While c body [] pos) (tWhile tc tb) := by
  intro pins s σ H D I h
  obtain ⟨W, ⟨m0, w0⟩, turn⟩ := h
  refine wpAny_While (codeAny_whileLoop (fun n s' => ∃ σ' H', Inv X pins σ' H' s' ∧ W n σ' H') ?_ m0 ⟨σ, H, I, w0⟩)
  rintro n s1 ⟨σ1, H1, I1, w1⟩
  refine wpAny_passesOwn hp (thn (hc pins s1 σ1 H1 _ I1 (turn n σ1 H1 w1)) fun b s2 ⟨H2, I2, q2⟩ => ?_)
  cases b with
  | true =>
    obtain ⟨N, hN, q2⟩ := q2
    rw [if_pos rfl]
    refine wpAny_passesOwn hp (thn (hb pins s2 σ1 H2 _ I2 q2) fun f s3 q3 => ?_)
    cases f with
    | next =>
      obtain ⟨σ3, H3, I3, n3⟩ := q3
      obtain ⟨m', hm, w3⟩ := hN σ3 H3 n3
      exact ⟨m', hm, σ3, H3, I3, w3⟩
    | cont =>
      obtain ⟨σ3, H3, I3, n3⟩ := q3
      obtain ⟨m', hm, w3⟩ := hN σ3 H3 n3
      exact ⟨m', hm, σ3, H3, I3, w3⟩
    | brk => exact q3
    | ret v => exact q3
  | false =>
    rw [if_neg Bool.false_ne_true]
    exact wpAny_execs_nil ⟨σ1, H2, I2, q2⟩
end
structure It where
  go : Nat → Hp → Prop
  yld : Nat → Hp → V → Hp → Prop
  stop : Nat → Hp → Prop
def FpOk (X : Cx) (pins : List (Addr × Obj)) (H : Hp) (b : Addr) : Prop :=
  H b = none ∧ b ≠ X.env.locals ∧ b ∉ X.fs ∧ (b ∈ X.ex ∨ X.s₀.heap.objs.size ≤ b) ∧ (∀ x c, X.env.cells.lookup x = some c → c ≠ b) ∧ ∀ p ∈ X.pn ++ pins, p.1 ≠ b
theorem Inv.fpOk {X : Cx} {pins : List (Addr × Obj)} {σ : St} {H H' : Hp} {s : Shared} {b : Addr} (I : Inv X pins σ H s) (hb : s.heap.objs.size ≤ b) (hn : H' b = none) : FpOk X pins H' b := by
  refine ⟨hn, Nat.ne_of_gt (Nat.lt_of_lt_of_le I.lt hb), I.nofs hb, .inr (Nat.le_trans I.sz hb), fun x c e z => ?_, fun p hp z => ?_⟩
  · obtain ⟨v, q⟩ := I.cell x c e
    exact absurd (Nat.lt_of_lt_of_le q.lt (by rw [z]; exact hb)) (Nat.lt_irrefl _)
  · exact absurd (Nat.lt_of_lt_of_le (Heap.lt_size (I.pin p hp).1) (by rw [z]; exact hb)) (Nat.lt_irrefl _)
structure Turn (P : Program) (w : World) (K : PySem.W.Frag) (tg : Expr) (J : It) (fp : List Addr) (it : Addr) (tn : Nat → Heap → Prop) : Prop where
  mem : it ∈ fp
  obj : ∀ i h, tn i h → ∀ b ∈ fp, ∃ o, h.get? b = some o ∧ ∀ v, o.data ≠ .cell v
  keep : ∀ i h h', tn i h → (∀ b ∈ fp, ∀ o, h.get? b = some o → h'.get? b = some o) → tn i h'
  item : ∀ (X : Cx), X.prog = P → X.w = w → X.K = K → X.calm = true → ∀ (i : Nat) (pins : List (Addr × Obj)) (s : Shared) (σ : St) (H : Hp) (E : Value → Shared → Prop), Inv X pins σ H s → (∀ b ∈ fp, FpOk X pins H b) → tn i s.heap → J.go i H →
    wpAny (model P w) X.A (pyNext (.ref it)) (fun r s1 => ∃ u, r = some u ∧
      wpAny (model P w) X.A (letOwnedTupleGo tg (.ref it) u) (fun _ s2 => ∃ x H', Inv X pins σ H' s2 ∧ RelV x u ∧ J.yld i H x H' ∧ tn (i + 1) s2.heap ∧ ∀ b ∈ fp, H' b = none) E s1) E s
  done : ∀ (X : Cx), X.prog = P → X.w = w → X.K = K → X.calm = true → ∀ (i : Nat) (pins : List (Addr × Obj)) (s : Shared) (σ : St) (H : Hp) (E : Value → Shared → Prop), Inv X pins σ H s → (∀ b ∈ fp, FpOk X pins H b) → tn i s.heap → J.stop i H →
    wpAny (model P w) X.A (pyNext (.ref it)) (fun r s1 => r = none ∧ Inv X pins σ H s1) E s
  self : ∀ (A : Around) (i : Nat) (s : Shared) (Q : Value → Shared → Prop) (E : Value → Shared → Prop), tn i s.heap → Q (.ref it) s → wpAny (model P w) A (pyIter (.ref it)) Q E s
abbrev TI := St → Hp → (It → Hp → Prop) → Prop
def PIE (X : Cx) (pins : List (Addr × Obj)) (σ : St) (tg : Expr) (R : It → Hp → Prop) (itv : Value) (s2 : Shared) : Prop :=
  ∃ (it : Addr) (fp : List Addr) (tn : Nat → Heap → Prop) (J : It) (H' : Hp), itv = .ref it ∧ Inv X pins σ H' s2 ∧ Turn X.prog X.w X.K tg J fp it tn ∧ tn 0 s2.heap ∧ (∀ b ∈ fp, FpOk X pins H' b) ∧ R J H'
def PI (X : Cx) (tg iter : Expr) (wi : TI) : Prop :=
  ∀ (pins : List (Addr × Obj)) (s : Shared) (σ : St) (H : Hp) (R : It → Hp → Prop), Inv X pins σ H s → wi σ H R →
    wpAny (model X.prog X.w) X.A (eval iter X.env) (fun v s1 => wpAny (model X.prog X.w) X.A (pyIter v) (PIE X pins σ tg R) X.xe s1) X.xe s
theorem go_of {M : Model} {A : Around} {E : Value → Shared → Prop} {s : Shared} {tg : Expr} {it : Addr} {u : Value} {o : Obj} {n : String} {vs : Array Value} {Q : Unit → Shared → Prop} (ho : s.heap.get? it = some o) (hc : o.cls = .type n) (hd : o.data = .fields vs)
    (hn : ["enumerate", "zip", "dict_itemiterator", "dict_reverseitemiterator", "odict_iterator", "itertools.zip_longest", "itertools.pairwise"].contains n = false) (hQ : Q () s) : wpAny M A (letOwnedTupleGo tg (.ref it) u) Q E s := by
  unfold letOwnedTupleGo
  cases tg <;> first
    | exact wpAny_pure hQ
    | (cases u <;> first
        | exact wpAny_pure hQ
        | (refine wpAny_bind (wpAny_load ho ?_)
           rw [hc, hd]
           show wpAny M A (if (["enumerate", "zip", "dict_itemiterator", "dict_reverseitemiterator", "odict_iterator", "itertools.zip_longest", "itertools.pairwise"].contains n && vs[0]? == some (rawInt _)) = true then _ else _) Q E s
           rw [if_neg (by intro h; rw [hn, Bool.false_and] at h; cases h)]
           exact wpAny_pure hQ))
def Itl (K : PySem.W.Frag) (a : Addr) : It :=
  ⟨fun i H => ∃ xs x, SqL K H a xs ∧ xs[i]? = some x, fun i H x H' => H' = H ∧ ∀ xs, SqL K H a xs → xs[i]? = some x, fun i H => ∃ xs, SqL K H a xs ∧ xs.length ≤ i⟩
def Itt (K : PySem.W.Frag) (a : Addr) : It :=
  ⟨fun i H => ∃ xs x, SqT K H a xs ∧ xs[i]? = some x, fun i H x H' => H' = H ∧ ∀ xs, SqT K H a xs → xs[i]? = some x, fun i H => ∃ xs, SqT K H a xs ∧ xs.length ≤ i⟩
def Itr (lo : Int) (n : Nat) : It := ⟨fun i _ => i < n, fun i H x H' => H' = H ∧ x = .int (lo + i), fun i _ => n ≤ i⟩
theorem turn_list {P : Program} {w : World} {K : PySem.W.Frag} {tg : Expr} (a it : Addr) : Turn P w K tg (Itl K a) [it] it (fun i h => h.IsListIter it a i) where
  mem := by simp
  obj := fun i h st b hb => by
    have e : b = it := by simpa using hb
    subst e
    obtain ⟨o, e, c, d⟩ := st
    exact ⟨o, e, fun v z => by rw [d] at z; cases z⟩
  keep := fun i h h' st k => st.at fun o e => k it (by simp) o e
  item := by
    intro X hP hw hK hc i pins s σ H E I hf st hg
    subst hP hw hK
    obtain ⟨xs, x, hq, hx⟩ := hg
    obtain ⟨its, rv, p, hz⟩ := I.list hq
    obtain ⟨u, hu, ru⟩ := rv.get hx
    obtain ⟨f0, f1, f2, f3, f4, f5⟩ := hf it (by simp)
    refine wpAny_pyNext_list_item st p.isList (x := u) (by simpa using hu) fun h' st' sb => ?_
    have I1 : Inv X pins σ H { s with heap := h' } := I.turned (t' := s.toks) (fun b o hb e => (sb.2 b hb).trans e) f0 f1 f3 f4 f5
    obtain ⟨o, e, c, d⟩ := id st'
    exact ⟨u, rfl, go_of (s := { s with heap := h' }) e c d (by decide) ⟨x, H, I1, ru, ⟨rfl, fun ys hy => by rw [I.list_inj hy hq]; exact hx⟩, st', fun b hb => (hf b hb).1⟩⟩
  done := by
    intro X hP hw hK hc i pins s σ H E I hf st hg
    subst hP hw hK
    obtain ⟨xs, hq, hx⟩ := hg
    obtain ⟨its, rv, p, hz⟩ := I.list hq
    obtain ⟨f0, f1, f2, f3, f4, f5⟩ := hf it (by simp)
    have hl := rv.length
    exact wpAny_pyNext_list_end (I.ok.hd hc) st p.isList (by simp; omega) fun h' eb => ⟨rfl, I.turned (t' := s.toks) (fun b o hb e => eb b o hb e) f0 f1 f3 f4 f5⟩
  self := fun _ _ _ _ _ st h => wpAny_pyIter_listiter st h
theorem turn_range {P : Program} {w : World} {K : PySem.W.Frag} {tg : Expr} (it : Addr) (lo : Int) (n : Nat) : Turn P w K tg (Itr lo n) [it] it (fun i h => IsRangeIter h it (lo + (i : Nat) * 1) ((n : Int) - (i : Nat)) 1) where
  mem := by simp
  obj := fun i h st b hb => by
    have e : b = it := by simpa using hb
    subst e
    exact ⟨_, st, fun v z => by
      have z' : Data.fields _ = Data.cell v := z
      cases z'⟩
  keep := fun i h h' st k => k it (by simp) _ st
  item := by
    intro X hP hw hK hc i pins s σ H E I hf st hg
    subst hP hw hK
    obtain ⟨f0, f1, f2, f3, f4, f5⟩ := hf it (by simp)
    have W := Walks.range (prog := X.prog) (w := X.w) (I.ok.hd hc) it lo 1 n
    refine W.item i s _ _ hg st fun v h' tk hv st' kk => ?_
    obtain ⟨t, rfl⟩ := hv
    have I1 : Inv X pins σ H { s with heap := h', toks := tk } := I.turned (fun b o hb e => kk b o (by simpa using hb) e) f0 f1 f3 f4 f5
    refine ⟨_, rfl, go_of (s := { s with heap := h', toks := tk }) (n := "range_iterator") st' rfl rfl (by decide) ⟨.int (lo + i), H, I1, ⟨t, ?_⟩, ⟨rfl, rfl⟩, st', fun b hb => (hf b hb).1⟩⟩
    rw [Int.mul_one]
  done := by
    intro X hP hw hK hc i pins s σ H E I hf st hg
    subst hP hw hK
    obtain ⟨f0, f1, f2, f3, f4, f5⟩ := hf it (by simp)
    exact wpAny_pyNext_range_end (I.ok.hd hc) st (by have : n ≤ i := hg; omega) fun h' eb => ⟨rfl, I.turned (t' := s.toks) (fun b o hb e => eb b o hb e) f0 f1 f3 f4 f5⟩
  self := fun _ _ _ _ _ st h => wpAny_pyIter_rangeiter st h
end L2
namespace L2
open PySem PySem.Spec PyProof.Rows
section
variable {X : Cx} {tg : Expr}
def iList (K : PySem.W.Frag) (tl : TE) : TI := fun σ H R => tl σ H fun x H1 => ∃ a, x = .ref a ∧ (∃ xs, SqL K H1 a xs) ∧ R (Itl K a) H1
def iTup (K : PySem.W.Frag) (tl : TE) : TI := fun σ H R => tl σ H fun x H1 => ∃ a, x = .ref a ∧ (∃ xs, SqT K H1 a xs) ∧ R (Itt K a) H1
theorem pi_list {l : Expr} {tl : TE} (hl : PE X l tl) : PI X tg l (iList X.K tl) := by
  intro pins s σ H R I h
  refine thn (hl pins s σ H _ I h) fun v s1 ⟨x, H1, I1, r1, q1⟩ => ?_
  obtain ⟨a, e, ⟨xs, hq⟩, q⟩ := q1
  subst e
  cases r1
  obtain ⟨its, rv, p, hz⟩ := I1.list hq
  refine wpAny_pyIter_list p.isList ?_
  refine ⟨s1.heap.objs.size, [s1.heap.objs.size], _, _, H1, rfl, I1.kept (t' := s1.toks) fun b o e => Heap.get?_push_of_some _ e, turn_list a _, ⟨_, Heap.get?_push_size _ rfl, rfl, rfl⟩, fun b hb => ?_, q⟩
  have e : b = s1.heap.objs.size := by simpa using hb
  subst e
  exact I1.fpOk (Nat.le_refl _) (I1.hok.fresh (Nat.le_refl _))
theorem range_it {pins : List (Addr × Obj)} {σ : St} {H : Hp} {s : Shared} {R : It → Hp → Prop} {E : Value → Shared → Prop} {lo hi : Int} {t u v : Tok} {tk : Nat} (I : Inv X pins σ H s) (h1 : -(2 ^ 62) ≤ lo) (h2 : lo < 2 ^ 62) (h3 : -(2 ^ 62) ≤ hi) (h4 : hi < 2 ^ 62)
    (q : R (Itr lo (hi - lo).toNat) H) : wpAny (model X.prog X.w) X.A (pyIter (.ref s.heap.objs.size)) (PIE X pins σ tg R) E { s with heap := s.heap.push { cls := .type "range", data := .fields #[.int lo t, .int hi u, .int 1 v] }, toks := tk } := by
  refine wpAny_pyIter_range (IsRange.new ..) (small_one h1 h2 h3 h4) ?_
  have I1 : Inv X pins σ H { s with heap := s.heap.push { cls := .type "range", data := .fields #[.int lo t, .int hi u, .int 1 v] }, toks := tk } := I.kept fun b o e => Heap.get?_push_of_some _ e
  refine ⟨(s.heap.push { cls := .type "range", data := .fields #[.int lo t, .int hi u, .int 1 v] }).objs.size, [(s.heap.push { cls := .type "range", data := .fields #[.int lo t, .int hi u, .int 1 v] }).objs.size], _, _, H, rfl,
    I1.kept (t' := tk) fun b o e => Heap.get?_push_of_some _ e, turn_range _ lo (hi - lo).toNat, ?_, fun b hb => ?_, q⟩
  · have e1 : lo + ((0 : Nat) : Int) * 1 = lo := by simp
    have e2 : (((hi - lo).toNat : Nat) : Int) - ((0 : Nat) : Int) = Builtin.Range.rangeSize lo hi 1 := by rw [rangeSize_one]; split <;> omega
    show IsRangeIter _ _ (lo + ((0 : Nat) : Int) * 1) ((((hi - lo).toNat : Nat) : Int) - ((0 : Nat) : Int)) 1
    rw [e1, e2]
    exact Heap.get?_push_size _ rfl
  · have e : b = (s.heap.push { cls := .type "range", data := .fields #[.int lo t, .int hi u, .int 1 v] }).objs.size := by simpa using hb
    subst e
    exact I1.fpOk (Nat.le_refl _) (I1.hok.fresh (Nat.le_refl _))
def iRng1 (ta : TA) : TI := fun σ H R => ta σ H fun vs H1 => ∃ j : Int, vs = [.int j] ∧ -(2 ^ 62) ≤ j ∧ j < 2 ^ 62 ∧ R (Itr 0 j.toNat) H1
def iRng2 (ta : TA) : TI := fun σ H R => ta σ H fun vs H1 => ∃ i j : Int, vs = [.int i, .int j] ∧ (-(2 ^ 62) ≤ i ∧ i < 2 ^ 62 ∧ -(2 ^ 62) ≤ j ∧ j < 2 ^ 62) ∧ R (Itr i (j - i).toNat) H1
theorem pi_range1 {a : Expr} {ta : TA} {p pos : Pos} (hg : Gl X "range") (hm : X.mg "range" = none) (ha : PA X [a] ta) (hs : starEach [a] X.env = [(false, eval a X.env)] := by rfl) : PI X tg (.Call (.Name "range" p) [a] [] pos) (iRng1 ta) := by
  intro pins s σ H R I h
  refine Call_ (ld_blt I hg hm boot_range (PyProof.Rows.callWith_type1 (thn (ha pos pins s σ H _ I h) fun us s1 ⟨vs, H1, I1, r1, q1⟩ => ?_) hs rfl))
  obtain ⟨j, e, q1, q2, q⟩ := q1
  subst e
  cases r1 with
  | cons r rr =>
    cases rr
    obtain ⟨t, rfl⟩ := r
    exact call_range_1 (range_it I1 (by omega) (by omega) q1 q2 (by simpa using q))
def tFor (wi : TI) (g : TG) (tb : TS) : TS := fun D σ H => wi σ H fun J H1 => ∃ W : Nat → Nat → St → Hp → Prop, (∃ m, W 0 m σ H1) ∧ ∀ i m σ H, W i m σ H →
  (J.stop i H ∧ D.nx σ H) ∨ (J.go i H ∧ ∃ N : St → Hp → Prop, (∀ σ' H', N σ' H' → ∃ m', m' < m ∧ W (i + 1) m' σ' H') ∧ ∀ x H', J.yld i H x H' → g x σ H' fun σ2 H2 => tb { D with nx := N, ct := N, bk := D.nx } σ2 H2)
def pinsAt (fp : List Addr) (h : Heap) : List (Addr × Obj) := fp.filterMap fun b => (h.get? b).map fun o => (b, o)
theorem mem_pinsAt {fp : List Addr} {h : Heap} {b : Addr} {o : Obj} (hb : b ∈ fp) (e : h.get? b = some o) : (b, o) ∈ pinsAt fp h := List.mem_filterMap.mpr ⟨b, hb, by rw [e]; rfl⟩
theorem of_pinsAt {fp : List Addr} {h : Heap} {p : Addr × Obj} (hp : p ∈ pinsAt fp h) : p.1 ∈ fp ∧ h.get? p.1 = some p.2 := by
  obtain ⟨b, hb, e⟩ := List.mem_filterMap.mp hp
  cases q : h.get? b with
  | none => rw [q] at e; cases e
  | some o =>
    rw [q] at e
    have e' : (b, o) = p := Option.some.inj e
    subst e'
    exact ⟨hb, q⟩
theorem Inv.pinned {pins : List (Addr × Obj)} {σ : St} {H : Hp} {s : Shared} {fp : List Addr} (I : Inv X pins σ H s) (hf : ∀ b ∈ fp, FpOk X pins H b) (ho : ∀ b ∈ fp, ∃ o, s.heap.get? b = some o ∧ ∀ v, o.data ≠ .cell v) : Inv X (pins ++ pinsAt fp s.heap) σ H s :=
  I.pins_of fun p hp => (List.mem_append.mp hp).elim (fun z => I.pin p (List.mem_append_right _ z)) fun z => by
    obtain ⟨hb, e⟩ := of_pinsAt z
    obtain ⟨f0, f1, f2, _⟩ := hf p.1 hb
    obtain ⟨o, e', d⟩ := ho p.1 hb
    rw [e] at e'; cases e'
    exact ⟨e, f0, f1, f2, d⟩
theorem Inv.unpinned {pins pl : List (Addr × Obj)} {σ : St} {H : Hp} {s : Shared} (I : Inv X (pins ++ pl) σ H s) : Inv X pins σ H s := I.pins_of fun p hp => I.pin p (List.mem_append_right _ (List.mem_append_left _ hp))
theorem ps_for {iter : Expr} {body : List Stmt} {wi : TI} {g : TG} {tb : TS} {pos : Pos} (hp : PassesOwn (model X.prog X.w) X.A X.env X.xe) (hc : X.calm = true) (hi : PI X tg iter wi) (hg : PG X tg g) (hb : PSs X body tb)
    (hs : ∀ x, foldedSetIterable iter X.env x = pure x := by intro _; rfl) : PS X (.For tg iter body [] pos) (tFor wi g tb) := by
  intro pins s σ H D I h
  refine wpAny_For (thn (hi pins s σ H _ I h) fun v s1 h1 => thn h1 fun itv s2 h2 => ?_) hs
  obtain ⟨it, fp, tn, J, H2, e, I2, T, st2, f2, W, ⟨m0, w0⟩, turn⟩ := h2
  subst e
  -- what stays true of the iterator's objects through the loop
  have stat : ∀ {H' : Hp}, (∀ b ∈ fp, H' b = none) → ∀ b ∈ fp, FpOk X pins H' b := fun hn b hb => ⟨hn b hb, (f2 b hb).2⟩
  refine codeAny_forLoop_any (fun n s' => ∃ i σ' H', Inv X pins σ' H' s' ∧ tn i s'.heap ∧ (∀ b ∈ fp, H' b = none) ∧ W i n σ' H') ?_ m0 ⟨0, σ, H2, I2, st2, fun b hb => (f2 b hb).1, w0⟩
  rintro n s3 ⟨i, σ3, H3, I3, st3, fr3, w3⟩
  rcases turn i n σ3 H3 w3 with ⟨stop, qn⟩ | ⟨go, N, hN, step⟩
  · refine wpAny_passesOwn hp (thn (T.done X rfl rfl rfl hc i pins s3 σ3 H3 X.xe I3 (stat fr3) st3 stop) fun r s4 ⟨hr, I4⟩ => ?_)
    subst hr
    exact wpAny_execs_nil ⟨σ3, H3, I4, qn⟩
  · refine wpAny_passesOwn hp (thn (T.item X rfl rfl rfl hc i pins s3 σ3 H3 X.xe I3 (stat fr3) st3 go) fun r s4 ⟨u, hr, h4⟩ => ?_)
    subst hr
    refine wpAny_passesOwn hp (thn h4 fun _ s5 ⟨x, H5, I5, r5, y5, st5, fr5⟩ => ?_)
    have I5' := I5.pinned (stat fr5) (T.obj _ _ st5)
    refine wpAny_passesOwn hp (thn (hg _ s5 σ3 H5 x u _ I5' r5 (step x H5 y5)) fun _ s6 ⟨σ6, H6, I6, q6⟩ => ?_)
    refine wpAny_passesOwn hp (thn (hb _ s6 σ6 H6 _ I6 q6) fun f s7 q7 => ?_)
    have again : ∀ {σ7 : St} {H7 : Hp}, Inv X (pins ++ pinsAt fp s5.heap) σ7 H7 s7 → N σ7 H7 → ∃ m, m < n ∧ ∃ i σ' H', Inv X pins σ' H' s7 ∧ tn i s7.heap ∧ (∀ b ∈ fp, H' b = none) ∧ W i m σ' H' := fun {σ7 H7} I7 n7 => by
      obtain ⟨m', hm, w7⟩ := hN σ7 H7 n7
      refine ⟨m', hm, i + 1, σ7, H7, I7.unpinned, T.keep _ _ _ st5 fun b hb o e => (I7.pin (b, o) (List.mem_append_right _ (List.mem_append_right _ (mem_pinsAt hb e)))).1, fun b hb => ?_, w7⟩
      obtain ⟨o, e, d⟩ := T.obj _ _ st5 b hb
      exact (I7.pin (b, o) (List.mem_append_right _ (List.mem_append_right _ (mem_pinsAt hb e)))).2.1
    cases f with
    | next => obtain ⟨σ7, H7, I7, n7⟩ := q7; exact again I7 n7
    | cont => obtain ⟨σ7, H7, I7, n7⟩ := q7; exact again I7 n7
    | brk => obtain ⟨σ7, H7, I7, q7⟩ := q7; exact ⟨σ7, H7, I7.unpinned, q7⟩
    | ret v => obtain ⟨x7, σ7, H7, I7, r7, q7⟩ := q7; exact ⟨x7, σ7, H7, I7.unpinned, r7, q7⟩
end
theorem for_list {K : PySem.W.Frag} {a : Addr} {xs : List V} {g : TG} {tb : TS} {D : Ends} {σ : St} {H : Hp} (Pv : Nat → St → Hp → Prop) (h0 : Pv 0 σ H) (hl : ∀ i σ H, i ≤ xs.length → Pv i σ H → SqL K H a xs)
    (hs : ∀ i x σ H, xs[i]? = some x → Pv i σ H → g x σ H fun σ2 H2 => tb { D with nx := Pv (i + 1), ct := Pv (i + 1), bk := D.nx } σ2 H2) (hd : ∀ σ H, Pv xs.length σ H → D.nx σ H) :
    ∃ W : Nat → Nat → St → Hp → Prop, (∃ m, W 0 m σ H) ∧ ∀ i m σ H, W i m σ H →
      ((Itl K a).stop i H ∧ D.nx σ H) ∨ ((Itl K a).go i H ∧ ∃ N : St → Hp → Prop, (∀ σ' H', N σ' H' → ∃ m', m' < m ∧ W (i + 1) m' σ' H') ∧ ∀ x H', (Itl K a).yld i H x H' → g x σ H' fun σ2 H2 => tb { D with nx := N, ct := N, bk := D.nx } σ2 H2) := by
  refine ⟨fun i m σ H => m = xs.length - i ∧ i ≤ xs.length ∧ Pv i σ H, ⟨xs.length, by simp, Nat.zero_le _, h0⟩, ?_⟩
  rintro i m σ H ⟨rfl, hi, p⟩
  have q := hl i σ H hi p
  by_cases hlt : i < xs.length
  · refine .inr ⟨⟨xs, xs[i], q, by simp [hlt]⟩, Pv (i + 1), fun σ' H' p' => ⟨xs.length - (i + 1), by omega, rfl, hlt, p'⟩, fun x H' y => ?_⟩
    obtain ⟨e, y⟩ := y
    subst e
    exact hs i x σ _ (y xs q) p
  · have e : i = xs.length := by omega
    subst e
    exact .inl ⟨⟨xs, q, Nat.le_refl _⟩, hd σ H p⟩
end L2
namespace L2
open PySem PySem.Spec PyProof.Rows
abbrev R2 := V → V → Hp → VK → Prop
def OpR (X : Cx) (f : Value → Value → Sem Value) (r : R2) : Prop :=
  ∀ (pins : List (Addr × Obj)) (s : Shared) (σ : St) (H : Hp) (x y : V) (v u : Value) (Q : VK), Inv X pins σ H s → RelV x v → RelV y u → r x y H Q →
    wpAny (model X.prog X.w) X.A (f v u) (EP X pins σ Q) X.xe s
def UnR (X : Cx) (f : Value → Sem Value) (r : V → Hp → VK → Prop) : Prop :=
  ∀ (pins : List (Addr × Obj)) (s : Shared) (σ : St) (H : Hp) (x : V) (v : Value) (Q : VK), Inv X pins σ H s → RelV x v → r x H Q →
    wpAny (model X.prog X.w) X.A (f v) (EP X pins σ Q) X.xe s
def CallR (X : Cx) (f : Value) (r : List V → Hp → VK → Prop) : Prop :=
  ∀ (pins : List (Addr × Obj)) (s : Shared) (σ : St) (H : Hp) (xs : List V) (us : List Value) (Q : VK), Inv X pins σ H s → Vals xs us → r xs H Q →
    wpAny (model X.prog X.w) X.A (call f us) (EP X pins σ Q) X.xe s
def TruR (X : Cx) (r : V → Hp → (Bool → Hp → Prop) → Prop) : Prop :=
  ∀ (pins : List (Addr × Obj)) (s : Shared) (σ : St) (H : Hp) (x : V) (v : Value) (Q : Bool → Hp → Prop), Inv X pins σ H s → RelV x v → r x H Q →
    wpAny (model X.prog X.w) X.A (truthy v) (TP X pins σ Q) X.xe s
def tOp (r : R2) (ta tb : TE) : TE := fun σ H Q => ta σ H fun x H1 => tb σ H1 fun y H2 => r x y H2 Q
def tUn (r : V → Hp → VK → Prop) (ta : TE) : TE := fun σ H Q => ta σ H fun x H1 => r x H1 Q
def rI (C : Int → Int → Prop) (g : Int → Int → V) : R2 := fun x y H Q => ∃ i j, x = .int i ∧ y = .int j ∧ C i j ∧ Q (g i j) H
def rI0 (g : Int → Int → V) : R2 := fun x y H Q => ∃ i j, x = .int i ∧ y = .int j ∧ Q (g i j) H
def rU (g : Int → V) : V → Hp → VK → Prop := fun x H Q => ∃ i, x = .int i ∧ Q (g i) H
section
variable {X : Cx} {a b c : Expr} {ta tb tc : TE} {pos : Pos}
theorem binT (ha : PE X a ta) (hb : PE X b tb) {pins : List (Addr × Obj)} {s : Shared} {σ : St} {H : Hp} {R : V → V → Hp → Prop} (I : Inv X pins σ H s)
    (h : ta σ H fun x H1 => tb σ H1 fun y H2 => R x y H2) {Q : Value → Shared → Prop} {f : Value → Value → Sem Value}
    (hf : ∀ v u s2 x y H2, Inv X pins σ H2 s2 → RelV x v → RelV y u → R x y H2 → wpAny (model X.prog X.w) X.A (f v u) Q X.xe s2) :
    wpAny (model X.prog X.w) X.A (eval a X.env) (fun v s₁ => wpAny (model X.prog X.w) X.A (eval b X.env) (fun u s₂ => wpAny (model X.prog X.w) X.A (f v u) Q X.xe s₂) X.xe s₁) X.xe s := by
  refine thn (ha pins s σ H _ I h) fun v s1 ⟨x, H1, I1, r1, q1⟩ => ?_
  refine thn (hb pins s1 σ H1 _ I1 q1) fun u s2 ⟨y, H2, I2, r2, q2⟩ => ?_
  exact hf v u s2 x y H2 I2 r1 r2 q2
theorem pe_op {op : Operator} {r : R2} (ho : OpR X (binaryOp op) r) (ha : PE X a ta) (hb : PE X b tb) : PE X (.BinOp a op b pos) (tOp r ta tb) := by
  intro pins s σ H Q I h
  exact wpAny_BinOp (binT ha hb I h fun v u s2 x y H2 I2 rx ry q => ho pins s2 σ H2 x y v u Q I2 rx ry q)
theorem pe_un {op : UnaryOp} {r : V → Hp → VK → Prop} (ho : UnR X (unaryOp op) r) (ha : PE X a ta) : PE X (.UnaryOp op a pos) (tUn r ta) := by
  intro pins s σ H Q I h
  exact UnaryOp_ (thn (ha pins s σ H _ I h) fun v s1 ⟨x, H1, I1, r1, q1⟩ => ho pins s1 σ H1 x v Q I1 r1 q1)
theorem opI {f : Value → Value → Sem Value} {C : Int → Int → Prop} {g : Int → Int → Int}
    (rule : ∀ (i j : Int) (t u : Tok) (s : Shared) (Q : Value → Shared → Prop) (E : Value → Shared → Prop), C i j → Q (.int (g i j) s.toks) { s with toks := s.toks + 1 } → wpAny (model X.prog X.w) X.A (f (.int i t) (.int j u)) Q E s) :
    OpR X f (rI C fun i j => .int (g i j)) := by
  intro pins s σ H x y v u Q I rx ry h
  obtain ⟨i, j, rfl, rfl, hc, q⟩ := h
  obtain ⟨t, rfl⟩ := rx
  obtain ⟨t', rfl⟩ := ry
  exact rule i j t t' s _ _ hc ⟨.int (g i j), H, I.tok _, ⟨_, rfl⟩, q⟩
theorem opI0 {f : Value → Value → Sem Value} {g : Int → Int → Int}
    (rule : ∀ (i j : Int) (t u : Tok) (s : Shared) (Q : Value → Shared → Prop) (E : Value → Shared → Prop), Q (.int (g i j) s.toks) { s with toks := s.toks + 1 } → wpAny (model X.prog X.w) X.A (f (.int i t) (.int j u)) Q E s) :
    OpR X f (rI0 fun i j => .int (g i j)) := by
  intro pins s σ H x y v u Q I rx ry h
  obtain ⟨i, j, rfl, rfl, q⟩ := h
  obtain ⟨t, rfl⟩ := rx
  obtain ⟨t', rfl⟩ := ry
  exact rule i j t t' s _ _ ⟨.int (g i j), H, I.tok _, ⟨_, rfl⟩, q⟩
theorem opB0 {f : Value → Value → Sem Value} {g : Int → Int → Bool}
    (rule : ∀ (i j : Int) (t u : Tok) (s : Shared) (Q : Value → Shared → Prop) (E : Value → Shared → Prop), Q (.bool (g i j)) s → wpAny (model X.prog X.w) X.A (f (.int i t) (.int j u)) Q E s) :
    OpR X f (rI0 fun i j => .bl (g i j)) := by
  intro pins s σ H x y v u Q I rx ry h
  obtain ⟨i, j, rfl, rfl, q⟩ := h
  obtain ⟨t, rfl⟩ := rx
  obtain ⟨t', rfl⟩ := ry
  exact rule i j t t' s _ _ ⟨.bl (g i j), H, I, rfl, q⟩
def CPow (i j : Int) : Prop := 0 ≤ j ∧ j ≤ 1000000 ∧ i.natAbs < 2 ^ 64
theorem op_add : OpR X (binaryOp .Add) (rI0 fun i j => .int (i + j)) := opI0 fun _ _ _ _ _ _ _ q => add_int q
theorem op_sub : OpR X (binaryOp .Sub) (rI0 fun i j => .int (i - j)) := opI0 fun _ _ _ _ _ _ _ q => sub_int q
theorem op_mod : OpR X (binaryOp .Mod) (rI (fun _ j => 0 < j) fun i j => .int (i % j)) := opI fun i j _ _ _ _ _ hc q => by
  have h1 : (0 : Int) < j := hc
  exact mod_int' (by omega) (by rw [Int.fmod_eq_emod_of_nonneg i (by omega)]; exact q)
theorem op_pow : OpR X (binaryOp .Pow) (rI CPow fun i j => .int (i ^ j.toNat)) := opI fun _ _ _ _ _ _ _ hc q => pow_int_small hc.1 hc.2.1 hc.2.2 q
theorem unI {f : Value → Sem Value} {g : Int → Int}
    (rule : ∀ (i : Int) (t : Tok) (s : Shared) (Q : Value → Shared → Prop) (E : Value → Shared → Prop), Q (.int (g i) s.toks) { s with toks := s.toks + 1 } → wpAny (model X.prog X.w) X.A (f (.int i t)) Q E s) :
    UnR X f (rU fun i => .int (g i)) := by
  intro pins s σ H x v Q I rx h
  obtain ⟨i, rfl, q⟩ := h
  obtain ⟨t, rfl⟩ := rx
  exact rule i t s _ _ ⟨.int (g i), H, I.tok _, ⟨_, rfl⟩, q⟩
theorem un_neg : UnR X (unaryOp .USub) (rU fun i => .int (-i)) := unI fun _ _ _ _ _ q => neg_int q
end
def scal : V → V → Bool
  | .non, .non => true | .non, .int _ => true | .int _, .non => true | .non, .bl _ => true | .bl _, .non => true | .non, .str _ => true | .str _, .non => true
  | .int _, .int _ => true | .bl _, .bl _ => true | .str _, .str _ => true | .byt _, .byt _ => true
  | .int _, .str _ => true | .str _, .int _ => true | .bl _, .str _ => true | .str _, .bl _ => true
  | _, _ => false
def rEq : R2 := fun x y H Q => scal x y = true ∧ Q (.bl (decide (x = y))) H
def rNe : R2 := fun x y H Q => scal x y = true ∧ Q (.bl (!decide (x = y))) H
theorem dec_int {i j : Int} : decide (V.int i = V.int j) = (i == j) := by
  rw [Bool.eq_iff_iff]
  simp
theorem dec_bl {i j : Bool} : decide (V.bl i = V.bl j) = (i == j) := by
  rw [Bool.eq_iff_iff]
  simp
theorem dec_str {i j : Str} : decide (V.str i = V.str j) = (i == j) := by
  rw [Bool.eq_iff_iff]
  simp
theorem dec_byt {i j : Array UInt8} : decide (V.byt i = V.byt j) = (i.toList == j.toList) := by
  rw [Bool.eq_iff_iff]
  cases i
  cases j
  simp
section
variable {X : Cx} {a b c : Expr} {ta tb tc : TE} {pos : Pos}
theorem fin_bl {pins : List (Addr × Obj)} {σ : St} {H : Hp} {s : Shared} {Q : VK} {k k' : Bool} (I : Inv X pins σ H s) (q : Q (.bl k) H) (e : k = k') : EP X pins σ Q (.bool k') s := by
  subst e
  exact ⟨.bl k, H, I, rfl, q⟩
theorem op_eq : OpR X (compareOp .Eq) rEq := by
  intro pins s σ H x y v u Q I rx ry h
  obtain ⟨hs, q⟩ := h
  cases x with
  | non =>
    cases rx
    cases y with
    | non => cases ry; exact PySem.EqNone.eq_none_none (fin_bl I q (by simp))
    | bl j => cases ry; exact PySem.EqNone.eq_none_bool (fin_bl I q (by simp))
    | int j => obtain ⟨t', rfl⟩ := ry; exact PySem.EqNone.eq_none_int (fin_bl I q (by simp))
    | str j => obtain ⟨t', rfl⟩ := ry; exact PySem.EqNone.eq_none_str (fin_bl I q (by simp))
    | _ => exact absurd (show false = true from hs) Bool.false_ne_true
  | bl i =>
    cases rx
    cases y with
    | non => cases ry; exact PySem.EqNone.eq_bool_none (fin_bl I q (by simp))
    | bl j => cases ry; exact eq_bool (fin_bl I q dec_bl)
    | str j => obtain ⟨t', rfl⟩ := ry; exact PySem.EqMixed.eq_bool_str (fin_bl I q (by simp))
    | _ => exact absurd (show false = true from hs) Bool.false_ne_true
  | int i =>
    obtain ⟨t, rfl⟩ := rx
    cases y with
    | non => cases ry; exact PySem.EqNone.eq_int_none (fin_bl I q (by simp))
    | int j => obtain ⟨t', rfl⟩ := ry; exact eq_int (fin_bl I q dec_int)
    | str j => obtain ⟨t', rfl⟩ := ry; exact PySem.EqMixed.eq_int_str (fin_bl I q (by simp))
    | _ => exact absurd (show false = true from hs) Bool.false_ne_true
  | str i =>
    obtain ⟨t, rfl⟩ := rx
    cases y with
    | non => cases ry; exact PySem.EqNone.eq_str_none (fin_bl I q (by simp))
    | bl j => cases ry; exact PySem.EqMixed.eq_str_bool (fin_bl I q (by simp))
    | int j => obtain ⟨t', rfl⟩ := ry; exact PySem.EqMixed.eq_str_int (fin_bl I q (by simp))
    | str j => obtain ⟨t', rfl⟩ := ry; exact eq_str (fin_bl I q dec_str)
    | _ => exact absurd (show false = true from hs) Bool.false_ne_true
  | byt i =>
    obtain ⟨t, rfl⟩ := rx
    cases y with
    | byt j => obtain ⟨t', rfl⟩ := ry; exact PySem.W.eq_bytes (fin_bl I q dec_byt)
    | _ => exact absurd (show false = true from hs) Bool.false_ne_true
  | _ => cases y <;> exact absurd (show false = true from hs) Bool.false_ne_true
theorem op_ne : OpR X (compareOp .NotEq) rNe := by
  intro pins s σ H x y v u Q I rx ry h
  obtain ⟨hs, q⟩ := h
  cases x with
  | non =>
    cases rx
    cases y with
    | non => cases ry; exact PySem.EqNone.ne_none_none (fin_bl I q (by simp))
    | bl j => cases ry; exact PySem.EqNone.ne_none_bool (fin_bl I q (by simp))
    | int j => obtain ⟨t', rfl⟩ := ry; exact PySem.EqNone.ne_none_int (fin_bl I q (by simp))
    | str j => obtain ⟨t', rfl⟩ := ry; exact PySem.EqNone.ne_none_str (fin_bl I q (by simp))
    | _ => exact absurd (show false = true from hs) Bool.false_ne_true
  | bl i =>
    cases rx
    cases y with
    | non => cases ry; exact PySem.EqNone.ne_bool_none (fin_bl I q (by simp))
    | bl j => cases ry; exact ne_bool (fin_bl I q (congrArg not dec_bl))
    | str j => obtain ⟨t', rfl⟩ := ry; exact PySem.EqMixed.ne_bool_str (fin_bl I q (by simp))
    | _ => exact absurd (show false = true from hs) Bool.false_ne_true
  | int i =>
    obtain ⟨t, rfl⟩ := rx
    cases y with
    | non => cases ry; exact PySem.EqNone.ne_int_none (fin_bl I q (by simp))
    | int j => obtain ⟨t', rfl⟩ := ry; exact ne_int (fin_bl I q (congrArg not dec_int))
    | str j => obtain ⟨t', rfl⟩ := ry; exact PySem.EqMixed.ne_int_str (fin_bl I q (by simp))
    | _ => exact absurd (show false = true from hs) Bool.false_ne_true
  | str i =>
    obtain ⟨t, rfl⟩ := rx
    cases y with
    | non => cases ry; exact PySem.EqNone.ne_str_none (fin_bl I q (by simp))
    | bl j => cases ry; exact PySem.EqMixed.ne_str_bool (fin_bl I q (by simp))
    | int j => obtain ⟨t', rfl⟩ := ry; exact PySem.EqMixed.ne_str_int (fin_bl I q (by simp))
    | str j => obtain ⟨t', rfl⟩ := ry; exact ne_str (fin_bl I q (congrArg not dec_str))
    | _ => exact absurd (show false = true from hs) Bool.false_ne_true
  | byt i =>
    obtain ⟨t, rfl⟩ := rx
    cases y with
    | byt j => obtain ⟨t', rfl⟩ := ry; exact PySem.W.ne_bytes (fin_bl I q (congrArg not dec_byt))
    | _ => exact absurd (show false = true from hs) Bool.false_ne_true
  | _ => cases y <;> exact absurd (show false = true from hs) Bool.false_ne_true
theorem op_lt : OpR X (compareOp .Lt) (rI0 fun i j => .bl (decide (i < j))) := opB0 fun _ _ _ _ _ _ _ q => lt_int q
theorem op_ge : OpR X (compareOp .GtE) (rI0 fun i j => .bl (decide (j ≤ i))) := opB0 fun _ _ _ _ _ _ _ q => ge_int q
theorem nomark (b : Expr) {op : CmpOp} (h : op ≠ .In := by decide) (h2 : op ≠ .NotIn := by decide) : behindInMarks op b = false := by
  have e1 : (op == CmpOp.In) = false := by cases op <;> first | rfl | exact absurd rfl h
  have e2 : (op == CmpOp.NotIn) = false := by cases op <;> first | rfl | exact absurd rfl h2
  cases b <;> simp [behindInMarks, e1, e2]
theorem pe_cmpR {op : CmpOp} {r : R2} (ho : OpR X (compareOp op) r) (ha : PE X a ta) (hb : PE X b tb) (hm : behindInMarks op b = false) : PE X (.Compare a [op] [b] pos) (tOp r ta tb) := by
  intro pins s σ H Q I h
  exact wpAny_Compare1 (binT ha hb I h fun v u s2 x y H2 I2 rx ry q => ho pins s2 σ H2 x y v u Q I2 rx ry q) hm
def tTest (t : TE) : TT := fun σ H Q => t σ H fun x H' => ∃ k, x = .bl k ∧ Q k H'
theorem pt_cmpR {op : CmpOp} {r : R2} (ho : OpR X (compareOp op) r) (ha : PE X a ta) (hb : PE X b tb) (hm : behindInMarks op b = false) : PT X (.Compare a [op] [b] pos) (tTest (tOp r ta tb)) := by
  intro pins s σ H Q I h
  refine wpAny_isTrue_Compare1 (thn (ha pins s σ H _ I h) fun v s1 ⟨x, H1, I1, r1, q1⟩ => thn (hb pins s1 σ H1 _ I1 q1) fun u s2 ⟨y, H2, I2, r2, q2⟩ =>
    thn (ho pins s2 σ H2 x y v u _ I2 r1 r2 q2) fun c s3 ⟨z, H3, I3, r3, k, e, q3⟩ => ?_) hm
  subst e
  cases r3
  exact wpAny_truthy_bool ⟨H3, I3, q3⟩
def tChain (r r' : R2) (ta tb tc : TE) : TE := fun σ H Q => ta σ H fun x H1 => tb σ H1 fun y H2 => r x y H2 fun z H3 => ∃ k, z = .bl k ∧
  (if k = true then tc σ H3 fun w' H4 => r' y w' H4 Q else Q (.bl false) H3)
def TruV (K : PySem.W.Frag) (x : V) (H : Hp) (k : Bool) : Prop :=
  match x with
  | .non => k = false
  | .bl b => k = b
  | .int i => k = (i != 0)
  | .str y => y.length ≤ sizeLine ∧ k = ((y.length : Int) != 0)
  | .byt y => y.size ≤ sizeLine ∧ k = ((y.size : Int) != 0)
  | .ref p => (∃ xs, SqL K H p xs ∧ k = !xs.isEmpty) ∨ (∃ xs, SqT K H p xs ∧ k = !xs.isEmpty) ∨ ∃ kvs, H p = some (.dK kvs) ∧ k = !kvs.isEmpty
  | _ => False
theorem isEmpty_kv {κ : Type} {kvs : List (κ × V)} {vs : List (κ × Value)} (r : KV kvs vs) : (!vs.isEmpty) = !kvs.isEmpty := by
  cases r <;> rfl
theorem isEmpty_of {xs : List V} {its : List Value} (r : Vals xs its) : (!its.toArray.isEmpty) = !xs.isEmpty := by
  cases r <;> simp
theorem line63 : (sizeLine : Nat) < 2 ^ 63 := by rw [sizeLine_eq]; decide
theorem tru_ok : TruR X (fun x H Q => ∃ k, TruV X.K x H k ∧ Q k H) := by
  intro pins s σ H x v Q I rx h
  obtain ⟨k, e, q⟩ := h
  have hl := line63
  have hs : sizeLine = 16777216 := sizeLine_eq
  cases x with
  | non =>
    cases rx
    have e' : k = false := e
    subst e'
    exact truthy_none ⟨H, I, q⟩
  | bl b =>
    cases rx
    have e' : k = b := e
    subst e'
    exact wpAny_truthy_bool ⟨H, I, q⟩
  | int i =>
    obtain ⟨t, rfl⟩ := rx
    have e' : k = (i != 0) := e
    subst e'
    exact PySem.P.truthy_int ⟨H, I, q⟩
  | str y =>
    obtain ⟨t, rfl⟩ := rx
    obtain ⟨hy, e'⟩ : y.length ≤ sizeLine ∧ k = ((y.length : Int) != 0) := e
    subst e'
    exact PySem.P.truthy_str (by omega) ⟨H, I.tok _, q⟩
  | byt y =>
    obtain ⟨t, rfl⟩ := rx
    obtain ⟨hy, e'⟩ : y.size ≤ sizeLine ∧ k = ((y.size : Int) != 0) := e
    subst e'
    exact PySem.W.truthy_bytes (by omega) ⟨H, I.tok _, q⟩
  | ref p =>
    cases rx
    have e' : (∃ xs, SqL X.K H p xs ∧ k = !xs.isEmpty) ∨ (∃ xs, SqT X.K H p xs ∧ k = !xs.isEmpty) ∨ ∃ kvs, H p = some (.dK kvs) ∧ k = !kvs.isEmpty := e
    rcases e' with ⟨xs, hx, e'⟩ | ⟨xs, hx, e'⟩ | ⟨kvs, hx, e'⟩
    · subst e'
      obtain ⟨its, r, pl, hz⟩ := I.list hx
      have hlen := r.length
      exact wpAny_truthy_list pl.isList (by simp only [List.size_toArray]; omega) ⟨H, I.tok _, by rw [isEmpty_of r]; exact q⟩
    · subst e'
      obtain ⟨its, r, pl, hz⟩ := I.tuple hx
      have hlen := r.length
      exact truthy_tuple pl (by simp only [List.size_toArray]; omega) ⟨H, I.tok _, by rw [isEmpty_of r]; exact q⟩
    · subst e'
      obtain ⟨hz, hS, vs, r, m⟩ : kvs.length ≤ sizeLine ∧ (p == sysModules) = false ∧ ∃ vs, KV kvs vs ∧ s.heap.DictOf (mixKind X.prog X.w) p vs := I.hok p _ hx
      have hlen : kvs.length = vs.length := Paired.length r
      exact wpAny_truthy_dict hS m (by omega) ⟨H, I.tok _, by rw [isEmpty_kv r]; exact q⟩
  | _ => exact (show False from e).elim
theorem pt_truth (ha : PE X a ta) (he : ∀ whole, isTrue a X.env whole = (do let v ← whole; standAt a.pos; holding [v] (truthy v))) :
    PT X a (fun σ H Q => ta σ H fun x H' => ∃ k, TruV X.K x H' k ∧ Q k H') := by
  intro pins s σ H Q I h
  exact isTrue_plain (thn (ha pins s σ H _ I h) fun v s1 ⟨x, H1, I1, r1, q1⟩ => tru_ok pins s1 σ H1 x v Q I1 r1 q1) (he _)
theorem vals1 {x : V} {us : List Value} (r : Vals [x] us) : ∃ u, us = [u] ∧ RelV x u := by
  cases r with
  | cons r1 r2 => cases r2; exact ⟨_, rfl, r1⟩
theorem call_abs : CallR X (.builtin "abs") (fun xs H Q => ∃ i, xs = [.int i] ∧ Q (.int (if i < 0 then -i else i)) H) := by
  intro pins s σ H xs us Q I r h
  obtain ⟨i, rfl, q⟩ := h
  obtain ⟨u, rfl, t, rfl⟩ := vals1 r
  exact call_abs_int fun u tk => ⟨.int (if i < 0 then -i else i), H, I.tok _, ⟨_, rfl⟩, q⟩
end
end L2
namespace L2
open PySem PySem.Spec PyProof.Rows
structure ObjM (h : Heap) (x dx C : Addr) (mA : Str → Option Value) : Prop where
  obj : h.get? x = some (PySem.W.instObj C dx)
  ns : h.Ns1 dx mA
  ne : dx ≠ x
theorem lookIn_ns {h : Heap} {dx : Addr} {mA : Str → Option Value} (n : h.Ns1 dx mA) : ∃ od, h.get? dx = some od ∧ ∀ name, PySem.W.lookIn name od = some (mA name) := by
  obtain ⟨o, es, ep, ho, hd, hk, _, hm⟩ := n
  refine ⟨o, ho, fun name => ?_⟩
  have e := hm name
  unfold nsFind findBy at e
  rw [← Array.find?_toList] at e
  unfold PySem.W.lookIn
  rw [hd]
  dsimp only
  split
  · rename_i y q
    rw [q] at e
    exact congrArg some e
  · rename_i q
    rw [q] at e
    have a : es.toList.any (·.refKey) = false := by
      rw [List.any_eq_false]
      intro y hy
      obtain ⟨z, t, hkey⟩ := hk y (Array.mem_toList_iff.mp hy)
      simp [DictEntry.refKey, hkey]
    have a' : ¬ es.toList.any (·.refKey) = true := by rw [a]; exact Bool.false_ne_true
    rw [if_neg a']
    exact congrArg some e
theorem ObjM.look {h : Heap} {x dx C : Addr} {mA : Str → Option Value} (I : ObjM h x dx C mA) : ∃ od, PySem.W.InstAt h x (PySem.W.instObj C dx) C (some od) ∧ ∀ name, PySem.W.lookIn name od = some (mA name) :=
  let ⟨od, ho, hl⟩ := lookIn_ns I.ns
  ⟨od, ⟨I.obj, rfl, rfl, ho⟩, hl⟩
section
variable {prog : Program} {w : World} {A : Around} {E : Value → Shared → Prop} {s : Shared} {K : PySem.W.Frag} {x dx C f : Addr} {mA : Str → Option Value} {name : Str} {v : Value}
end
def putF (f : Str) (v : V) : List (Str × V) → List (Str × V)
  | [] => [(f, v)]
  | (g, x) :: r => if g = f then (g, v) :: r else (g, x) :: putF f v r
section
variable {P : Program} {w : World} {H H' : Hp} {h h' : Heap} {a C dx : Addr} {fs fs' : List (Str × V)}
theorem ins_get (hok : HOk P w H h) (e : H a = some (.ins C dx fs)) : ∃ mA, ObjM h a dx C mA ∧ (∀ f, RelO (fs.lookup f) (mA f)) ∧ PySem.Within mA (fs.map (·.1)) ∧ fs.length ≤ 1000 ∧ H dx = some (.own a) := by
  obtain ⟨d, z, ne, ob, mA, n, r, q⟩ := (show ObjOk P w H h a (.ins C dx fs) from hok a _ e)
  exact ⟨mA, ⟨ob, n, ne⟩, r, q, z, d⟩
end
structure Cls (K : PySem.W.Frag) (C : Addr) : Prop where
  pg : PySem.W.plainGet K C Str.empty = true
  hd : PySem.W.hasDictIn K C = true
  po : PySem.W.plainOver K C = true
  sa : PySem.W.findIn K (.ref C) "__setattr__" = some (some (.builtin "object.__setattr__"))
theorem Cls.get {K : PySem.W.Frag} {C : Addr} (c : Cls K C) (f : Str) : PySem.W.plainGet K C f = true := c.pg
def NoAttr (K : PySem.W.Frag) (C : Addr) (f : Str) : Prop := PySem.W.findIn K (.ref C) f = some none
section
variable {X : Cx} {pins : List (Addr × Obj)} {σ : St} {H : Hp} {s : Shared} {a C dx : Addr} {fs : List (Str × V)} {f : Str} {v : V} {A : Around} {E : Value → Shared → Prop}
end
def tFld (K : PySem.W.Frag) (ta : TE) (f : Str) : TE := fun σ H Q => ta σ H fun x H1 => ∃ a C dx fs v, x = .ref a ∧ H1 a = some (.ins C dx fs) ∧ Cls K C ∧ NoAttr K C f ∧ fs.lookup f = some v ∧ Q v H1
def sFld (K : PySem.W.Frag) (ta tv : TE) (f : Str) : TS := fun D σ H => tv σ H fun y H1 => ta σ H1 fun x H2 => ∃ a C dx fs, x = .ref a ∧ H2 a = some (.ins C dx fs) ∧ Cls K C ∧ NoAttr K C f ∧ fs.length < 1000 ∧
  D.nx σ (upd H2 a (.ins C dx (putF f y fs)))
section
variable {X : Cx} {o e value : Expr} {f : Str} {pos pos' tpos : Pos} {ta tv : TE}
end
section
variable {X : Cx} {pins : List (Addr × Obj)} {σ : St} {H : Hp} {s : Shared} {A : Around} {E : Value → Shared → Prop} {Q : Value → Shared → Prop} {c : Value} {b : Bool}
inductive TyOf (K : PySem.W.Frag) (H : Hp) : V → Value → Prop where
  | non : TyOf K H .non (.type "NoneType")
  | bl (x : Bool) : TyOf K H (.bl x) (.type "bool")
  | int (i : Int) : TyOf K H (.int i) (.type "int")
  | str (x : Str) : TyOf K H (.str x) (.type "str")
  | flt (x : UInt64) : TyOf K H (.flt x) (.type "float")
  | lst {a : Addr} {xs : List V} (e : H a = some (.lst xs)) : TyOf K H (.ref a) (.type "list")
  | frz {a : Addr} {o : Obj} {xs : List V} (e : H a = some (.frz o (.lst xs))) : TyOf K H (.ref a) (.type "list")
  | tup {a : Addr} {xs : List V} (e : H a = some (.tup xs)) : TyOf K H (.ref a) (.type "tuple")
  | dK {a : Addr} {kvs : List (Key × V)} (e : H a = some (.dK kvs)) : TyOf K H (.ref a) (.type "dict")
  | dT {a : Addr} {kvs : List (List Key × V)} (e : H a = some (.dT kvs)) : TyOf K H (.ref a) (.type "dict")
  | ins {a C dx : Addr} {fs : List (Str × V)} (e : H a = some (.ins C dx fs)) (cl : Cls K C) (ha : PySem.W.findIn K (.ref C) "__class__" = some (some (.builtin "object.__class__")))
      (hn : PySem.W.specialIn K (.builtin "object.__class__") "__get__" = some (some (.builtin "getset_descriptor.__get__"))) (htk : PySem.W.takesIn K (.builtin "object.__class__") = some true)
      (hm : PySem.W.mroIn K C (.type "object") = some true) : TyOf K H (.ref a) (.ref C)
theorem isinst_ok {x : V} {u t : Value} (I : Inv X pins σ H s) (rx : RelV x u) (ty : TyOf X.K H x t) (e : PySem.W.kitOne X.K t c = some b) (h : ∀ tk, Q (.bool b) { s with toks := tk }) :
    wpAny (model X.prog X.w) A (call (.builtin "isinstance") [u, c]) Q E s := by
  cases ty with
  | non => cases (show u = Value.none from rx); exact PySem.W.kia_one PySem.W.kitx_none I.kIn True.intro e (fun z => nomatch z) h
  | bl y => cases (show u = Value.bool y from rx); exact PySem.W.kia_one PySem.W.kitx_bool I.kIn True.intro e (fun z => nomatch z) h
  | int i => obtain ⟨t, q⟩ := (show ∃ t, u = Value.int i t from rx); cases q; exact PySem.W.kia_one PySem.W.kitx_int I.kIn True.intro e (fun z => nomatch z) h
  | str y => obtain ⟨t, q⟩ := (show ∃ t, u = Value.str y t from rx); cases q; exact PySem.W.kia_one PySem.W.kitx_str I.kIn True.intro e (fun z => nomatch z) h
  | flt y => obtain ⟨t, q⟩ := (show ∃ t, u = Value.float y t from rx); cases q; exact PySem.W.kia_one PySem.W.kitx_float I.kIn True.intro e (fun z => nomatch z) h
  | @lst a xs ea =>
    cases (show u = Value.ref a from rx)
    obtain ⟨_, _, n, _, h1⟩ := (show ObjOk X.prog X.w H s.heap a (.lst xs) from I.hok a _ ea)
    exact PySem.W.kia_one PySem.W.kitx_list I.kIn ⟨_, h1, rfl⟩ e (fun z => nomatch z) h
  | @frz a ob xs ea =>
    cases (show u = Value.ref a from rx)
    obtain ⟨_, _, _, n, _, h1⟩ := (show ObjOk X.prog X.w H s.heap a (.frz ob (.lst xs)) from I.hok a _ ea)
    exact PySem.W.kia_one PySem.W.kitx_list I.kIn ⟨_, h1, rfl⟩ e (fun z => nomatch z) h
  | @tup a xs ea =>
    cases (show u = Value.ref a from rx)
    obtain ⟨_, _, _, p⟩ := (show ObjOk X.prog X.w H s.heap a (.tup xs) from I.hok a _ ea)
    obtain ⟨o, h1, h2, _⟩ := p
    exact PySem.W.kia_one PySem.W.kitx_tuple I.kIn ⟨o, h1, h2⟩ e (fun z => nomatch z) h
  | @dK a kvs ea =>
    cases (show u = Value.ref a from rx)
    obtain ⟨_, _, vs, _, p⟩ := (show ObjOk X.prog X.w H s.heap a (.dK kvs) from I.hok a _ ea)
    obtain ⟨o, es, ep, h1, h2, _⟩ := p
    exact PySem.W.kia_one PySem.W.kitx_dict I.kIn ⟨o, h1, h2.1⟩ e (fun z => nomatch z) h
  | @dT a kvs ea =>
    cases (show u = Value.ref a from rx)
    obtain ⟨_, _, xs, _, o, es, ep, h1, h2, _⟩ := (show ObjOk X.prog X.w H s.heap a (.dT kvs) from I.hok a _ ea)
    exact PySem.W.kia_one PySem.W.kitx_dict I.kIn ⟨o, h1, h2.1⟩ e (fun z => nomatch z) h
  | @ins a C dx fs ea cl ha hn htk hm =>
    cases (show u = Value.ref a from rx)
    obtain ⟨mA, O, _⟩ := ins_get I.hok ea
    obtain ⟨od, J, _⟩ := O.look
    exact PySem.W.kia_one (PySem.W.kitx_own (cl.get _) cl.hd ha hn htk hm) I.kIn J e (fun z => nomatch z) h
end
end L2
namespace L2
open PySem PySem.Spec PyProof.Rows
structure Room (k : Nat) (A : Around) : Prop where
  hd : A.handled = none
  dp : A.depth + 3 * k + 5 < recursionLimit
  un : A.units + 16 * k + 200 < cLine
theorem Room.mono {j k : Nat} {A : Around} (r : Room k A) (h : j ≤ k) : Room j A := ⟨r.hd, by have := r.dp; omega, by have := r.un; omega⟩
theorem Room.deeper {k : Nat} {A : Around} (r : Room (k + 1) A) (env : Env) : Room k (A.deeper env) :=
  ⟨r.hd, by have := r.dp; show A.depth + 1 + 3 * k + 5 < _; omega, by have := r.un; show A.units + 3 + 16 * k + 200 < _; omega⟩
theorem Room.depth {k : Nat} {A : Around} (r : Room k A) : A.depth < recursionLimit := by have := r.dp; omega
theorem Room.units {k : Nat} {A : Around} (r : Room k A) : A.units + 64 < cLine := by have := r.un; omega
def tNil : TA := fun _ H Q => Q [] H
def tCons (ta : TE) (tr : TA) : TA := fun σ H Q => ta σ H fun x H1 => tr σ H1 fun xs H2 => Q (x :: xs) H2
section
variable {X : Cx} {e : Expr} {es : List Expr} {te : TE} {t : TA} {pos : Pos}
theorem pa_nil : PA X [] tNil := fun _ _ _ _ H Q I h => Calls.spliced_nil ⟨[], H, I, .nil, h⟩
theorem pa_cons (ha : PE X e te) (hr : PA X es t) (hs : starEach (e :: es) X.env = (false, eval e X.env) :: starEach es X.env := by rfl) : PA X (e :: es) (tCons te t) := by
  intro pos pins s σ H Q I h
  rw [hs]
  show wpAny _ _ (spliced ((false, eval e X.env) :: backTo pos (starEach es X.env))) _ _ s
  refine Calls.spliced_cons (thn (ha pins s σ H _ I h) fun u s1 ⟨x, H1, I1, r1, q1⟩ => ?_)
  exact thn (hr pos pins s1 σ H1 _ I1 q1) fun us s2 ⟨xs, H2, I2, r2, q2⟩ => ⟨x :: xs, H2, I2, .cons r1 r2, q2⟩
def tTup (t : TA) : TE := fun σ H Q => t σ H fun xs H1 => xs.length ≤ sizeLine ∧ ∀ p, H1 p = none → Q (.ref p) (upd H1 p (.tup xs))
def tLst (t : TA) : TE := fun σ H Q => t σ H fun xs H1 => xs.length ≤ sizeLine ∧ ∀ p, H1 p = none → Q (.ref p) (upd H1 p (.lst xs))
theorem pe_tup {x1} (h : PA X es t) : PE X (.Tuple es x1 pos) (tTup t) := by
  intro pins s σ H Q I hq
  refine wpAny_Tuple_spliced (thn (h pos pins s σ H _ I hq) fun us s1 ⟨xs, H1, I1, r, z, q⟩ => ⟨by rw [← r.length]; exact z, ?_⟩)
  have hf : H1 s1.heap.objs.size = none := I1.hok.fresh (Nat.le_refl _)
  refine ⟨.ref s1.heap.objs.size, upd H1 s1.heap.objs.size (.tup xs), I1.laid (t' := s1.toks) (fun b u e => Heap.get?_push_of_some _ e) (Nat.le_refl _) ?_, rfl, q _ hf⟩
  exact ⟨z, us, r, ⟨_, Heap.get?_push_size _ rfl, rfl, _, rfl⟩⟩
theorem pe_lst (h : PA X es t) : PE X (.List es pos) (tLst t) := by
  intro pins s σ H Q I hq
  refine wpAny_List_spliced (thn (h pos pins s σ H _ I hq) fun us s1 ⟨xs, H1, I1, r, z, q⟩ => ⟨by rw [← r.length]; exact z, ?_⟩)
  have hf : H1 s1.heap.objs.size = none := I1.hok.fresh (Nat.le_refl _)
  refine ⟨.ref s1.heap.objs.size, upd H1 s1.heap.objs.size (.lst xs), I1.laid (t' := s1.toks) (fun b u e => Heap.get?_push_of_some _ e) (Nat.le_refl _) ?_, rfl, q _ hf⟩
  exact ⟨z, us, 0, r, Heap.get?_push_size _ rfl⟩
end
abbrev Sp := List V → Hp → VK → XK → Prop
abbrev CXT := List Env → Hp → Shared → XK → Value → Shared → Prop
structure Env0 (P : Program) (w : World) (K : PySem.W.Frag) (mg : Str → Option Value) (base : Heap) (A : Around) (outer : List Env) (s : Shared) (H : Hp) : Prop where
  frames : A.frames = some outer
  mod : Mod K mg base
  bs : ∀ b o, base.get? b = some o → s.heap.get? b = some o ∧ H b = none
  bsz : base.objs.size ≤ s.heap.objs.size
  funs : s.heap.FunFrames base outer
  frf : ∀ b ∈ frs outer, H b = none
  hok : HOk P w H s.heap
  bare : AllBare s.gens
def CE (outer : List Env) (P : Program) (w : World) (H : Hp) (s : Shared) (Q : VK) (u : Value) (s' : Shared) : Prop :=
  ∃ v H', s'.os = s.os ∧ AllBare s'.gens ∧ Un (frs outer) [] H H' s.heap s'.heap ∧ HOk P w H' s'.heap ∧ RelV v u ∧ Q v H'
def CR (CX : CXT) (outer : List Env) (P : Program) (w : World) (H : Hp) (s : Shared) (Q : VK) (E : XK) (r : Result) (s' : Shared) : Prop :=
  match r with
  | .ok (.ret u) => CE outer P w H s Q u s'
  | .ok _ => False
  | .error e => CX outer H s E e s'
structure FnOk (P : Program) (w : World) (K : PySem.W.Frag) (mg : Str → Option Value) (base : Heap) (CX : CXT) (k : Nat) (f : Addr) (fd : FuncData) (ps : List Str) (sp : Sp) : Prop where
  len : ∀ vs H Q E, sp vs H Q E → vs.length = ps.length
  run : ∀ (A : Around) (outer : List Env) (s : Shared) (H : Hp) (args : Args) (us : List Value) (vs : List V) (Q : VK) (E : XK), Room k A → Env0 P w K mg base A outer s H → BindsTo s fd args (ps.zip us) → Vals vs us → sp vs H Q E →
    codeAny (model P w) A (.call (.ref f) args) (CR CX outer P w H s Q E) s
section
variable {X : Cx} {pins : List (Addr × Obj)} {σ : St} {H : Hp} {s s' : Shared}
theorem Inv.env0 (I : Inv X pins σ H s) : Env0 X.prog X.w X.K X.mg X.base X.A X.stack s H :=
  ⟨I.ok.frames, I.ok.mod, I.bs, Nat.le_trans I.ok.bsz I.sz, I.stack, I.stkFree, I.hok, I.bare⟩
theorem Inv.after {Q : VK} {u : Value} (I : Inv X pins σ H s) (h : CE X.stack X.prog X.w H s Q u s') : EP X pins σ Q u s' := by
  obtain ⟨v, H', os, bare, un, hok, r, q⟩ := h
  obtain ⟨hh, g, d, t, os'⟩ := s'
  obtain rfl : os' = s.os := os
  exact ⟨v, H', I.call (h' := hh) (g' := g) (d' := d) (t' := t) (ch := []) un hok bare (fun b z => absurd z (by simp)), r, q⟩
end
def tCall (sp : Sp) (dvs : List V) (E : XK) (t : TA) : TE := fun σ H Q => t σ H fun vs H1 => sp (vs ++ dvs) H1 Q E
def Binds (K : PySem.W.Frag) (fd : FuncData) (ps : List Str) (ds : List Value) : Prop :=
  ∀ (s : Shared) (us : List Value), K.In s.heap → (us ++ ds).length = ps.length → BindsTo s fd ⟨us, []⟩ (ps.zip (us ++ ds))
theorem Binds.all {K : PySem.W.Frag} {fd : FuncData} {ps : List Str} (h : ∀ us : List Value, us.length = ps.length → bindArgs fd ⟨us, []⟩ = pure (ps.zip us)) : Binds K fd ps [] := fun s us _ hl => by
  rw [List.append_nil] at hl ⊢
  exact .of_eq (h us hl)
section
variable {X : Cx} {CX : CXT} {k : Nat} {f C : Addr} {fd : FuncData} {ps : List Str} {sp : Sp} {dvs : List V} {ds : List Value} {E : XK} {x m : Str} {p pos apos : Pos} {e o : Expr} {es : List Expr} {ta : TE} {t : TA}
end
section
variable {X : Cx} {CX : CXT} {k : Nat} {f C : Addr} {fd : FuncData} {ps ks : List Str} {sp : Sp} {E : XK} {x m : Str} {p pos apos kpos : Pos} {e o : Expr} {es : List Expr} {kws : List Keyword} {te ta : TE} {t tk : TA} {nm : Option Str}
variable {g : List Value → List Value → List Value} {gV : List V → List V → List V}
end
structure FnScope (N P : List Str) (sc : Scope) : Prop where
  kind : sc.kind = .function
  co : sc.isCoroutine = false
  gen : sc.isGenerator = false
  nd : N.Nodup
  pre : N.take P.length = P
  par : ∀ x ∈ P, sc.names.lookup x = some .local ∨ sc.names.lookup x = some .cell
  nofree : ∀ y ∈ sc.names, y.2 ≠ .free
theorem bindL_out {kindOf : Str → Option NameKind} {x : Str} : ∀ {binds : List (Str × Value)} {m : Str → Option Value}, (∀ v, (x, v) ∉ binds) → bindL kindOf binds m x = m x
  | [], _, _ => rfl
  | (n, v) :: r, m, h => by
    unfold bindL
    rw [bindL_out fun w hw => h w (List.mem_cons_of_mem _ hw)]
    split
    · have : x ≠ n := by rintro rfl; exact h v List.mem_cons_self
      simp [this]
    · rfl
theorem bindC_out {kindOf : Str → Option NameKind} {x : Str} : ∀ {binds : List (Str × Value)} {m : Str → Option Value}, (∀ v, (x, v) ∉ binds) → bindC kindOf binds m x = m x
  | [], _, _ => rfl
  | (n, v) :: r, m, h => by
    unfold bindC
    rw [bindC_out fun w hw => h w (List.mem_cons_of_mem _ hw)]
    split
    · rfl
    · have : x ≠ n := by rintro rfl; exact h v List.mem_cons_self
      simp [this]
theorem bindL_get {kindOf : Str → Option NameKind} {x : Str} {v : Value} : ∀ {P : List Str} {vs : List Value} {i : Nat} {m : Str → Option Value}, P.Nodup → P[i]? = some x → vs[i]? = some v → kindOf x = some .local →
    bindL kindOf (P.zip vs) m x = some v
  | [], _, _, _, _, h, _, _ => by simp at h
  | _ :: _, [], _, _, _, _, h, _ => by simp at h
  | p :: P, w :: vs, 0, m, nd, h1, h2, hk => by
    simp at h1 h2; subst h1; subst h2
    show bindL kindOf ((p, w) :: P.zip vs) m p = _
    unfold bindL
    rw [bindL_out fun v hv => (List.nodup_cons.mp nd).1 (List.of_mem_zip hv).1, if_pos hk]
    simp
  | p :: P, w :: vs, i + 1, m, nd, h1, h2, hk => by
    show bindL kindOf ((p, w) :: P.zip vs) m x = _
    unfold bindL
    exact bindL_get (i := i) (List.nodup_cons.mp nd).2 (by simpa using h1) (by simpa using h2) hk
theorem bindC_get {kindOf : Str → Option NameKind} {x : Str} {v : Value} : ∀ {P : List Str} {vs : List Value} {i : Nat} {m : Str → Option Value}, P.Nodup → P[i]? = some x → vs[i]? = some v → kindOf x ≠ some .local →
    bindC kindOf (P.zip vs) m x = some v
  | [], _, _, _, _, h, _, _ => by simp at h
  | _ :: _, [], _, _, _, _, h, _ => by simp at h
  | p :: P, w :: vs, 0, m, nd, h1, h2, hk => by
    simp at h1 h2; subst h1; subst h2
    show bindC kindOf ((p, w) :: P.zip vs) m p = _
    unfold bindC
    rw [bindC_out fun v hv => (List.nodup_cons.mp nd).1 (List.of_mem_zip hv).1, if_neg hk]
    simp
  | p :: P, w :: vs, i + 1, m, nd, h1, h2, hk => by
    show bindC kindOf ((p, w) :: P.zip vs) m x = _
    unfold bindC
    exact bindC_get (i := i) (List.nodup_cons.mp nd).2 (by simpa using h1) (by simpa using h2) hk
def start (N : List Str) (vs : List V) : St := vs.map some ++ List.replicate (N.length - vs.length) none
def cxOf (CX : CXT) (P : Program) (w : World) (K : PySem.W.Frag) (mg : Str → Option Value) (base : Heap) (N : List Str) (qual : Str) (scope : Scope) (f : Addr) (cd : Value) (A : Around) (outer : List Env) (s : Shared) (H : Hp) (E : XK) : Cx where
  prog := P
  w := w
  K := K
  mg := mg
  base := base
  A := A.deeper (envOfC qual scope s.heap.objs.size f cd)
  N := N
  s₀ := s
  H₀ := H
  env := envOfC qual scope s.heap.objs.size f cd
  outer := outer
  stack := envOfC qual scope s.heap.objs.size f cd :: outer
  ex := []
  calm := true
  fn := fun _ => true
  pn := []
  xe := fun e s' => wpAny (model P w) (A.deeper (envOfC qual scope s.heap.objs.size f cd)) (leaving (envOfC qual scope s.heap.objs.size f cd) e) (fun _ s'' => CX outer H s E e s'') (fun e' s'' => CX outer H s E e' s'') s'
theorem cell_has {sc : Scope} {n : Nat} {x : Str} (h : sc.names.lookup x = some .cell) : ∃ c, (cellsFrom n sc.names []).lookup x = some c := by
  have q := PySem.W.cellsFrom_some sc.names n [] (.inl h)
  exact Option.isSome_iff_exists.mp q
theorem inv_start {CX : CXT} {P : Program} {w : World} {K : PySem.W.Frag} {mg : Str → Option Value} {base : Heap} {N ps : List Str} {qual : Str} {scope : Scope} {f : Addr} {cd : Value} {A : Around} {outer : List Env} {s s1 : Shared} {H : Hp} {E : XK} {us : List Value} {vs : List V}
    (S : FnScope N ps scope) (hd : A.handled = none) (e0 : Env0 P w K mg base A outer s H) (hl : vs.length = ps.length) (r : Vals vs us)
    (x : InCallC s s.heap.objs.size (bindL (envOfC qual scope s.heap.objs.size f cd).kindOf (ps.zip us) fun _ => none) (cellsFrom (s.heap.objs.size + 1) scope.names []) (bindC (envOfC qual scope s.heap.objs.size f cd).kindOf (ps.zip us) fun _ => none) s1) :
    Inv (cxOf CX P w K mg base N qual scope f cd A outer s H E) [] (start N vs) H s1 := by
  have hpl : ps.length ≤ N.length := by have := congrArg List.length S.pre; rw [List.length_take] at this; omega
  obtain ⟨h1, tk, rfl, hk⟩ := x.done
  have noA : ∀ b : Addr, b ∉ (cxOf CX P w K mg base N qual scope f cd A outer s H E).ex := fun b z => absurd (show b ∈ ([] : List Addr) from z) (by simp)
  refine ⟨⟨e0.mod, S.kind, rfl, rfl, Nat.le_refl _, fun y z c h1 h2 => ?_, fun y hy => ?_, fun y c _ h => ?_, fun _ => hd, Around.frames_deeper e0.frames, .inr ⟨rfl, rfl⟩, fun b z => absurd z (noA b), e0.bs, e0.bsz, fun b _ _ => noA b, fun b z => absurd z (noA b), e0.funs, e0.frf⟩,
    rfl, e0.bare, Un.kept hk, ⟨_, x.toInCall.ns, fun i y v h1 h2 h3 => ?_⟩, fun y c h => ⟨_, x.cell y c h⟩, e0.hok.fresh (Nat.le_refl _), fun y c h => ?_, fun p hp => absurd (show p ∈ ([] : List (Addr × Obj)) from hp) (by simp), e0.hok.kept hk, ?_⟩
  · exact name_of_addr x.apart (PySem.mem_of_lookup h1) (PySem.mem_of_lookup h2)
  · have hy : scope.names.lookup y = some .cell ∨ scope.names.lookup y = some .free := hy
    rcases hy with hy | hy
    · exact cell_has hy
    · exact absurd rfl (S.nofree _ (PySem.mem_of_lookup hy))
  · exact Nat.le_of_lt (x.above y c (PySem.mem_of_lookup h))
  · have hi : i < vs.length := by
      unfold start at h2
      by_cases hi : i < vs.length
      · exact hi
      · rw [List.getElem?_append_right (by simpa using hi)] at h2
        rw [List.getElem?_replicate] at h2
        split at h2 <;> cases h2
    have ha : vs[i]? = some v := by
      unfold start at h2
      rw [List.getElem?_append_left (by simpa using hi), List.getElem?_map] at h2
      cases e : vs[i]? with
      | none => rw [e] at h2; cases h2
      | some a => rw [e] at h2; cases h2; rfl
    obtain ⟨u, hu, rv⟩ := r.get ha
    have hp : ps[i]? = some y := by
      rw [← S.pre, List.getElem?_take_of_lt (by omega)]; exact h1
    have ndP : ps.Nodup := by rw [← S.pre]; exact S.nd.sublist (List.take_sublist _ _)
    refine ⟨u, rv, ?_⟩
    rcases S.par y (List.mem_of_getElem? hp) with k | k
    · exact .inl ⟨k, bindL_get ndP hp hu k⟩
    · obtain ⟨c, e⟩ := cell_has (n := s.heap.objs.size + 1) k
      refine .inr ⟨.inl k, c, e, ?_⟩
      have q := x.cell y c e
      rw [bindC_get ndP hp hu (by show scope.names.lookup y ≠ _; rw [k]; decide)] at q
      exact q
  · exact e0.hok.fresh (Nat.le_of_lt (x.above y c (PySem.mem_of_lookup h)))
  · unfold start
    show _ = N.length
    rw [List.length_append, List.length_map, List.length_replicate]
    omega
theorem fn_of {CX : CXT} {P : Program} {w : World} {K : PySem.W.Frag} {mg : Str → Option Value} {base : Heap} {k : Nat} {f : Addr} {name qual : Str} {params : Arguments} {body : List Stmt} {scope : Scope} {dV kV doc pm cdv ct oc : Value} {an od : Option Addr}
    {osl : Array (Option Value)} {N ps : List Str} {sp : Sp} (lk : K.lookup f = some ⟨oc, od, .func (PySem.W.fnOf name qual params body scope dV kV doc pm an cdv ct), osl⟩) (hcd : PySem.W.codeIn K cdv qual = true) (S : FnScope N ps scope)
    (len : ∀ vs H Q E, sp vs H Q E → vs.length = ps.length)
    (hbody : ∀ (A : Around) (outer : List Env) (s : Shared) (H : Hp) (vs : List V) (Q : VK) (E : XK), Room k (A.deeper (envOfC qual scope s.heap.objs.size f cdv)) → sp vs H Q E →
      ∃ t, PSs (cxOf CX P w K mg base N qual scope f cdv A outer s H E) body t ∧ t { nx := fun _ H' => Q .non H', rt := Q } (start N vs) H) :
    FnOk P w K mg base CX (k + 1) f (PySem.W.fnOf name qual params body scope dV kV doc pm an cdv ct) ps sp := by
  refine ⟨len, fun A outer s H args us vs Q E hr e0 hb r hsp => ?_⟩
  have hl := len _ _ _ _ hsp
  have KX : K.In s.heap := e0.mod.kin.keeps fun b o e => (e0.bs b o e).1
  have lim : s.heap.NoLimit := e0.mod.nolimit.keeps fun b o e => (e0.bs b o e).1
  have hkind : ∀ y ∈ ps.zip us, scope.names.lookup y.1 = some .local ∨ (scope.names.lookup y.1 = some .cell ∧ ((cellsFrom (s.heap.objs.size + 1) scope.names []).lookup y.1).isSome = true) := fun ⟨n, v⟩ hy => by
    rcases S.par n (List.of_mem_zip hy).1 with q | q
    · exact .inl q
    · exact .inr ⟨q, PySem.W.cellsFrom_some _ _ _ (.inl q)⟩
  refine codeAny_call_function hr.depth (KX _ _ lk) rfl S.co S.gen rfl (PySem.W.codeRec_of KX hcd) (hb _ _ _ _ ?_)
  refine wpAny_newFunctionEnv_cells S.kind hkind fun env he s1 x => ?_
  subst he
  refine ⟨lim.keeps x.toInCall.keep, codeAny_func ?_⟩
  obtain ⟨t, ht, hq⟩ := hbody A outer s H vs Q E (hr.deeper _) hsp
  have I : Inv (cxOf CX P w K mg base N qual scope f cdv A outer s H E) [] (start N vs) H s1 := inv_start S hr.hd e0 hl r x
  refine wpAny_mono (ht [] s1 (start N vs) H _ I hq) (fun fl s' hs => ?_) fun e s' hs => hs
  have fin : ∀ {σ' : St} {H' : Hp} {v : V} {u : Value}, Inv (cxOf CX P w K mg base N qual scope f cdv A outer s H E) [] σ' H' s' → RelV v u → Q v H' → CE outer P w H s Q u s' :=
    fun {σ' H' v u} J rv q => ⟨v, H', J.os, J.bare, J.base, J.hok, rv, q⟩
  cases fl with
  | ret u =>
    obtain ⟨v, σ', H', J, rv, q⟩ := hs
    exact fin J rv q
  | next =>
    obtain ⟨σ', H', J, q⟩ := hs
    exact fin (v := V.non) (u := Value.none) J rfl q
  | brk =>
    obtain ⟨_, _, _, q⟩ := hs
    exact False.elim q
  | cont =>
    obtain ⟨_, _, _, q⟩ := hs
    exact False.elim q
end L2
namespace L2
open PySem PySem.Spec PyProof.Rows
section
variable {X : Cx} {x : Str} {p pos : Pos} {e : Expr} {es : List Expr} {t : TA} {id T : String} {r : List V → Hp → VK → Prop}
def tCB (r : List V → Hp → VK → Prop) (t : TA) : TE := fun σ H Q => t σ H fun vs H1 => r vs H1 Q
theorem pe_callB (hc : CallR X (.builtin id) r) (hg : Gl X x) (hm : X.mg x = none) (hv : bootBuiltins x = some (.builtin id)) (ha : PA X (e :: es) t) (hn : x ≠ "__name__" := by decide) (hdb : (x == ("__debug__" : Str)) = false := by decide)
    (he : starEach (e :: es) X.env = (false, eval e X.env) :: starEach es X.env := by rfl) (hpl : (backTo pos (starEach es X.env)).any (·.1) = false := by rfl) : PE X (.Call (.Name x p) (e :: es) [] pos) (tCB r t) := by
  intro pins s σ H Q I h
  refine wpAny_Call_Name_kw (ld_blt I hg hm hv ?_ hn hdb)
  exact PyProof.Rows.callWith_builtin1 (thn (ha pos pins s σ H _ I h) fun us s1 ⟨vs, H1, I1, r1, q1⟩ => hc pins s1 σ H1 vs us Q I1 r1 q1) he hpl
theorem pe_callTy (hc : CallR X (.type T) r) (hg : Gl X x) (hm : X.mg x = none) (hv : bootBuiltins x = some (.type T)) (ha : PA X (e :: es) t) (hn : x ≠ "__name__" := by decide) (hdb : (x == ("__debug__" : Str)) = false := by decide)
    (he : starEach (e :: es) X.env = (false, eval e X.env) :: starEach es X.env := by rfl) (hpl : (backTo pos (starEach es X.env)).any (·.1) = false := by rfl) : PE X (.Call (.Name x p) (e :: es) [] pos) (tCB r t) := by
  intro pins s σ H Q I h
  refine wpAny_Call_Name_kw (ld_blt I hg hm hv ?_ hn hdb)
  exact PyProof.Rows.callWith_type1 (thn (ha pos pins s σ H _ I h) fun us s1 ⟨vs, H1, I1, r1, q1⟩ => hc pins s1 σ H1 vs us Q I1 r1 q1) he hpl
end
end L2
namespace HT
open PySem PyProof.Rows
section
open PySem.SeqAt
open PySem.AutoSeq1 (wpAny_loadPart')
open PySem.MeetsSeq PySem.MeetsSeq2 PySem.MeetsSeq3
end
section
variable {prog : Program} {w : World} {A : Around} {E : Value → Shared → Prop} {s : Shared}
def sIx (n d : Nat) : Option Int → Nat
  | none => d
  | some v => if v < 0 then (v + (n : Int)).toNat else min v.toNat n
theorem sIx_nat (n d k : Nat) : sIx n d (some (k : Int)) = min k n := by
  show (if (k : Int) < 0 then ((k : Int) + (n : Int)).toNat else min (k : Int).toNat n) = min k n
  rw [if_neg (by omega), Int.toNat_natCast]
end
end HT
namespace L2
open PySem PySem.Spec PyProof.Rows
abbrev TO := St → Hp → (Option Int → Hp → Prop) → Prop
def PO (X : Cx) (e : Option Expr) (t : TO) : Prop :=
  ∀ (pins : List (Addr × Obj)) (s : Shared) (σ : St) (H : Hp) (Q : Option Int → Hp → Prop), Inv X pins σ H s → t σ H Q →
    wpAny (model X.prog X.w) X.A (evalPart e X.env) (fun u s' => ∃ o H', Inv X pins σ H' s' ∧ IsPart u o ∧ Q o H') X.xe s
def tNoPart : TO := fun _ H Q => Q none H
def tPart (t : TE) : TO := fun σ H Q => t σ H fun x H1 => ∃ i, x = .int i ∧ Q (some i) H1
theorem intsAre_of {ns : List Int} : ∀ {us : List Value}, Vals (ns.map V.int) us → IntsAre us ns := by
  induction ns with
  | nil => intro us r; rw [List.map_nil] at r; cases r; exact .nil
  | cons n ns ih =>
    intro us r
    rw [List.map_cons] at r
    cases r with
    | cons r1 r2 =>
      obtain ⟨t, e⟩ := r1
      subst e
      exact .cons n t (ih r2)
section
variable {X : Cx} {e : Expr} {te : TE} {lo hi : Option Expr} {tl th : TO} {pos p2 : Pos}
theorem po_none : PO X none tNoPart := by
  intro pins s σ H Q I h
  rw [evalPart_none]
  exact wpAny_pure ⟨none, H, I, .none, h⟩
theorem po_some (h : PE X e te) : PO X (some e) (tPart te) := by
  intro pins s σ H Q I hw
  rw [evalPart_some]
  refine thn (h pins s σ H _ I hw) fun u s1 ⟨x, H1, I1, r1, q1⟩ => ?_
  obtain ⟨i, rfl, q⟩ := q1
  obtain ⟨t, rfl⟩ := r1
  exact ⟨some i, H1, I1, .int i t, q⟩
def SlR (X : Cx) (r : V → Option Int → Option Int → Hp → VK → Prop) : Prop :=
  ∀ (pins : List (Addr × Obj)) (s : Shared) (σ : St) (H : Hp) (x : V) (v vl vu : Value) (lo hi : Option Int) (sl : Addr) (Q : VK), Inv X pins σ H s → RelV x v → s.heap.IsSliceOf sl vl vu .none → IsPart vl lo → IsPart vu hi → r x lo hi H Q →
    ∃ T id, typeLookup (.type T) "__getitem__" = pure (some (.builtin id)) ∧ s.TypeIs v T ∧ wpAny (model X.prog X.w) X.A (getItem v (.ref sl)) (EP X pins σ Q) X.xe s
def tSl (r : V → Option Int → Option Int → Hp → VK → Prop) (te : TE) (tl th : TO) : TE := fun σ H Q => te σ H fun x H1 => tl σ H1 fun l H2 => th σ H2 fun u H3 => r x l u H3 Q
theorem pe_slice {r : V → Option Int → Option Int → Hp → VK → Prop} (hr : SlR X r) (he : PE X e te) (hl : PO X lo tl) (hu : PO X hi th) : PE X (.Subscript e (.Slice lo hi none p2) pos) (tSl r te tl th) := by
  intro pins s σ H Q I h
  refine Subscript_ (thn (he pins s σ H _ I h) fun v s1 ⟨x, H1, I1, r1, q1⟩ => ?_)
  refine wpAny_Slice (thn (hl pins s1 σ H1 _ I1 q1) fun vl s2 ⟨l, H2, I2, pl, q2⟩ => thn (hu pins s2 σ H2 _ I2 q2) fun vu s3 ⟨u, H3, I3, pu, q3⟩ => ?_)
  rw [evalPart_none]
  refine wpAny_pure ?_
  have I4 : Inv X pins σ H3 { s3 with heap := s3.heap.push { cls := .type "slice", data := .fields #[vl, vu, .none] } } := I3.kept (t' := s3.toks) fun b ob q => Heap.get?_push_of_some _ q
  obtain ⟨T, id, hT, ht, hg⟩ := hr pins { s3 with heap := s3.heap.push { cls := .type "slice", data := .fields #[vl, vu, .none] } } σ H3 x v vl vu l u s3.heap.objs.size Q I4 r1 (Heap.IsSliceOf.new ..) pl pu q3
  show wpAny (model X.prog X.w) X.A (subscriptTail e (.Slice lo hi none p2) v (.ref s3.heap.objs.size)) (EP X pins σ Q) X.xe { s3 with heap := s3.heap.push { cls := .type "slice", data := .fields #[vl, vu, .none] } }
  exact tail_any (ops := [.ref s3.heap.objs.size, v]) ht hT hg (by with_unfolding_all rfl)
def cutV (xs : List V) (lo hi : Option Int) : List V := (xs.drop (HT.sIx xs.length 0 lo)).take (HT.sIx xs.length xs.length hi - HT.sIx xs.length 0 lo)
theorem cutV_length (xs : List V) (lo hi : Option Int) : (cutV xs lo hi).length ≤ xs.length := by
  unfold cutV
  rw [List.length_take, List.length_drop]
  omega
end
end L2
namespace L2
open PySem PySem.Spec PyProof.Rows
def ixN (n : Nat) (i : Int) : Option Nat := if 0 ≤ i then (if i < n then some i.toNat else none) else if -(n : Int) ≤ i then some (i + n).toNat else none
def atI {α : Type} (xs : List α) (i : Int) : Option α := (ixN xs.length i).bind fun j => xs[j]?
theorem ixN_seq {n : Nat} {i : Int} {j : Nat} (h : ixN n i = some j) : seqIndex? i n = some j ∧ j < n ∧ -(n : Int) ≤ i ∧ i < n := by
  unfold ixN at h
  by_cases h0 : 0 ≤ i
  · rw [if_pos h0] at h
    by_cases h1 : i < n
    · rw [if_pos h1] at h
      have e : i.toNat = j := Option.some.inj h
      exact ⟨by rw [seqIndex_of h0 h1, e], by omega, by omega, h1⟩
    · rw [if_neg h1] at h; cases h
  · rw [if_neg h0] at h
    by_cases h1 : -(n : Int) ≤ i
    · rw [if_pos h1] at h
      have e : (i + n).toNat = j := Option.some.inj h
      exact ⟨by rw [seqIndex_neg (by omega) h1, e], by omega, h1, by omega⟩
    · rw [if_neg h1] at h; cases h
theorem atI_get {α : Type} {xs : List α} {i : Int} {v : α} (h : atI xs i = some v) : ∃ j, seqIndex? i xs.length = some j ∧ xs[j]? = some v ∧ j < xs.length ∧ -(xs.length : Int) ≤ i ∧ i < xs.length := by
  unfold atI at h
  cases e : ixN xs.length i with
  | none => rw [e] at h; cases h
  | some j =>
    rw [e] at h
    obtain ⟨h1, h2, h3, h4⟩ := ixN_seq e
    exact ⟨j, h1, h, h2, h3, h4⟩
theorem atI_nat {α : Type} {xs : List α} {j : Nat} {v : α} (h : xs[j]? = some v) : atI xs (j : Int) = some v := by
  have hj : j < xs.length := (List.getElem?_eq_some_iff.mp h).1
  have e : ixN xs.length (j : Int) = some j := by
    unfold ixN
    rw [if_pos (by omega), if_pos (by omega)]; simp
  unfold atI; rw [e]; exact h
def PlainIx (b : Expr) : Prop := ∀ o i, subscripted b false o i = operate [o, i] (getItem o i)
def IxR (X : Cx) (r : R2) : Prop :=
  ∀ (value slice : Expr) (pins : List (Addr × Obj)) (s : Shared) (σ : St) (H : Hp) (x y : V) (v u : Value) (Q : VK), Inv X pins σ H s → RelV x v → RelV y u → r x y H Q →
    subscripted slice false v u = operate [v, u] (getItem v u) → wpAny (model X.prog X.w) X.A (subscriptTail value slice v u) (EP X pins σ Q) X.xe s
def MtR (X : Cx) (id : String) (r : V → List V → Hp → VK → Prop) : Prop :=
  ∀ (pins : List (Addr × Obj)) (s : Shared) (σ : St) (H : Hp) (x : V) (xs : List V) (v : Value) (us : List Value) (Q : VK), Inv X pins σ H s → RelV x v → Vals xs us → r x xs H Q →
    wpAny (model X.prog X.w) X.A (call (.builtin id) (v :: us)) (EP X pins σ Q) X.xe s
section
variable {X : Cx} {a b : Expr} {ta tb : TE} {pos : Pos}
theorem pe_ix {r : R2} (hr : IxR X r) (ha : PE X a ta) (hb : PE X b tb) (hs : PlainIx b) : PE X (.Subscript a b pos) (tOp r ta tb) := by
  intro pins s σ H Q I h
  exact Subscript_ (binT ha hb I h fun v u s2 x y H2 I2 rx ry q => hr a b pins s2 σ H2 x y v u Q I2 rx ry q (hs _ _))
def rIxL (K : PySem.W.Frag) : R2 := fun x y H Q => ∃ p xs i v, x = .ref p ∧ y = .int i ∧ SqL K H p xs ∧ atI xs i = some v ∧ Q v H
def rIxT (K : PySem.W.Frag) : R2 := fun x y H Q => ∃ p xs i v, x = .ref p ∧ y = .int i ∧ SqT K H p xs ∧ atI xs i = some v ∧ Q v H
theorem ix_list : IxR X (rIxL X.K) := by
  intro value slice pins s σ H x y v u Q I rx ry h hs
  obtain ⟨p, xs, i, z, rfl, rfl, hq, he, q⟩ := h
  cases rx
  obtain ⟨t, rfl⟩ := ry
  obtain ⟨its, r, pl, hz⟩ := I.list hq
  obtain ⟨j, h1, h2, h3, h4, h5⟩ := atI_get he
  obtain ⟨w, ew, rw'⟩ := r.get h2
  have hl := r.length
  have hn := line63
  have fin : EP X pins σ Q w s := ⟨z, H, I, rw', q⟩
  by_cases h0 : 0 ≤ i
  · have hj : i.toNat = j := by
      rw [seqIndex_of h0 h5] at h1
      exact Option.some.inj h1
    exact item_listR pl.isList h0 (by omega) (by rw [hj]; simpa using ew) fin hs
  · have hj : (i + (its.toArray.size : Int)).toNat = j := by
      rw [seqIndex_neg (by omega) h4] at h1
      rw [List.size_toArray, ← hl]
      exact Option.some.inj h1
    exact subscriptTail_builtinR (x := w) pl.isList.typeIs slot_list_getitem.lookup
      (wpAny_getItem_list_neg (Q := fun r s' => r = w ∧ EP X pins σ Q r s') pl.isList (by omega) (by rw [List.size_toArray] <;> omega) (by omega) (by rw [hj]; simpa using ew) ⟨rfl, fin⟩) hs
theorem ix_tup : IxR X (rIxT X.K) := by
  intro value slice pins s σ H x y v u Q I rx ry h hs
  obtain ⟨p, xs, i, z, rfl, rfl, hq, he, q⟩ := h
  cases rx
  obtain ⟨t, rfl⟩ := ry
  obtain ⟨its, r, pl, hz⟩ := I.tuple hq
  obtain ⟨j, h1, h2, h3, h4, h5⟩ := atI_get he
  obtain ⟨w, ew, rw'⟩ := r.get h2
  have hl := r.length
  have hn := line63
  have fin : EP X pins σ Q w s := ⟨z, H, I, rw', q⟩
  exact subscriptTail_builtinR (x := w) pl.typeIs slot_tuple_getitem.lookup
    (getItem_tuple (j := j) (Q := fun r s' => r = w ∧ EP X pins σ Q r s') pl (by omega) (by omega) (by rw [List.size_toArray, ← hl]; exact h1) (by simpa using ew) ⟨rfl, fin⟩) hs
theorem mapSeq_set (its : List Value) (n j : Nat) (u : Value) : Obj.mapSeq (·.setIfInBounds j u) { cls := .type "list", data := .seq its.toArray n } = { cls := .type "list", data := .seq (its.set j u).toArray n } := by
  simp [Obj.mapSeq]
theorem Inv.lst {pins : List (Addr × Obj)} {σ : St} {H : Hp} {s : Shared} {p : Addr} {xs : List V} (I : Inv X pins σ H s) (h : H p = some (.lst xs)) :
    ∃ (its : List Value) (n : Nat), Vals xs its ∧ s.heap.get? p = some { cls := .type "list", data := .seq its.toArray n } ∧ xs.length ≤ sizeLine := by
  obtain ⟨z, its, n, r, e⟩ := I.hok p _ h
  exact ⟨its, n, r, e, z⟩
theorem Inv.lstUpd {pins : List (Addr × Obj)} {σ : St} {H : Hp} {s : Shared} {p : Addr} {xs ys : List V} {its its' : List Value} {n n' : Nat} {f : Obj → Obj} (I : Inv X pins σ H s) (h : H p = some (.lst xs))
    (ho : s.heap.get? p = some { cls := .type "list", data := .seq its.toArray n }) (hf : f { cls := .type "list", data := .seq its.toArray n } = { cls := .type "list", data := .seq its'.toArray n' }) (r : Vals ys its') (hz : ys.length ≤ sizeLine) (t : Nat) :
    Inv X pins σ (upd H p (.lst ys)) { s with heap := s.heap.update p f, toks := t } := by
  have e : (s.heap.update p f).get? p = some { cls := .type "list", data := .seq its'.toArray n' } := by
    rw [Heap.get?_update_self f ho (by rw [hf] <;> rfl), hf]
  refine I.write (x := p) (e := p) (by rw [h]; trivial) (.inl rfl) (fun b u hb q => (Heap.get?_update_other _ _ (Ne.symm hb)).trans q) ⟨_, e⟩ ?_
  exact ⟨hz, its', n', r, e⟩
def rSetL : V → V → V → Hp → (Hp → Prop) → Prop := fun o i v H Q => ∃ p xs k j, o = .ref p ∧ i = .int k ∧ H p = some (.lst xs) ∧ ixN xs.length k = some j ∧ Q (upd H p (.lst (xs.set j v)))
theorem set_list : PSet X rSetL := by
  intro pins s σ H o i v ov iv u Q I ro ri rv h
  obtain ⟨p, xs, k, j, rfl, rfl, hp, hj, q⟩ := h
  cases ro
  obtain ⟨t, rfl⟩ := ri
  obtain ⟨its, n, r, ho, hz⟩ := I.lst hp
  obtain ⟨h1, h2, h3, h4⟩ := ixN_seq hj
  have hl := r.length
  have hn := line63
  have I' : Inv X pins σ (upd H p (.lst (xs.set j v))) { s with heap := s.heap.update p (Obj.mapSeq (·.setIfInBounds j u)) } :=
    I.lstUpd hp ho (mapSeq_set its n j u) (r.set rv j) (by rw [List.length_set]; exact hz) s.toks
  by_cases h0 : 0 ≤ k
  · have hk : k.toNat = j := by
      rw [seqIndex_of h0 h4] at h1
      exact Option.some.inj h1
    exact PySem.W.ki_setAt ho h0 (by omega) (by rw [List.size_toArray, ← hl]; exact h4) (by rw [hk]; exact ⟨_, I', q⟩)
  · have hk : (k + (its.toArray.size : Int)).toNat = j := by
      rw [seqIndex_neg (by omega) h3] at h1
      rw [List.size_toArray, ← hl]
      exact Option.some.inj h1
    exact PySem.W.ki_setBack ho (by omega) (by rw [List.size_toArray, ← hl]; exact h3) (by omega) (by rw [hk]; exact ⟨_, I', q⟩)
theorem slice_bounds (lo hi : Option Int) (n : Nat) : (sliceBounds lo hi none n).1 = ((HT.sIx n 0 lo : Nat) : Int) ∧ (sliceBounds lo hi none n).2.1 = ((HT.sIx n n hi : Nat) : Int) ∧ (sliceBounds lo hi none n).2.2 = 1 := by
  refine ⟨?_, ?_, rfl⟩
  · cases lo with
    | none => simp [sliceBounds, HT.sIx]
    | some i =>
      simp only [sliceBounds, HT.sIx, Option.getD_none, show (1 : Int) > 0 by decide, if_true]
      by_cases h : i < 0
      · simp only [h, if_true] <;> omega
      · simp only [h, if_false] <;> omega
  · cases hi with
    | none => simp [sliceBounds, HT.sIx]
    | some i =>
      simp only [sliceBounds, HT.sIx, Option.getD_none, show (1 : Int) > 0 by decide, if_true]
      by_cases h : i < 0
      · simp only [h, if_true] <;> omega
      · simp only [h, if_false] <;> omega
theorem slicePick_cut (its : List Value) (lo hi : Option Int) : slicePick its.toArray lo hi none = ((its.drop (HT.sIx its.length 0 lo)).take (HT.sIx its.length its.length hi - HT.sIx its.length 0 lo)).toArray := by
  obtain ⟨h1, h2, h3⟩ := slice_bounds lo hi its.toArray.size
  unfold slicePick
  rw [h1, h2, h3]
  simp only [sliceRange_one, pick_run, List.size_toArray] <;> rfl
def rSlL (K : PySem.W.Frag) : V → Option Int → Option Int → Hp → VK → Prop := fun x lo hi H Q => ∃ a xs, x = .ref a ∧ SqL K H a xs ∧ ∀ p, H p = none → Q (.ref p) (upd H p (.lst (cutV xs lo hi)))
theorem sl_list : SlR X (rSlL X.K) := by
  intro pins s σ H x v vl vu lo hi sl Q I rx hs pl pu h
  obtain ⟨a, xs, rfl, hx, q⟩ := h
  cases rx
  obtain ⟨its, r, ht, hz⟩ := I.list hx
  have hlen := r.length
  refine ⟨"list", _, slot_list_getitem.lookup, ht.isList.typeIs, ?_⟩
  refine wpAny_getItem_list_slice ht.isList hs pl pu .none (by simp) ?_ (by rw [List.size_toArray] <;> omega)
  rw [slicePick_cut, ← hlen]
  refine ⟨.ref s.heap.objs.size, _, I.laid (t' := s.toks) (o := .lst (cutV xs lo hi)) (fun b ob q => Heap.get?_push_of_some _ q) (Nat.le_refl _) ?_, rfl, q _ (I.hok.fresh (Nat.le_refl _))⟩
  exact ⟨Nat.le_trans (cutV_length xs lo hi) hz, _, 0, (r.drop (HT.sIx xs.length 0 lo)).take (HT.sIx xs.length xs.length hi - HT.sIx xs.length 0 lo), Heap.get?_push_size _ rfl⟩
def flatV : V → Bool
  | .non => true
  | .bl _ => true
  | .int _ => true
  | .str _ => true
  | _ => false
def eqV : V → V → Bool
  | .non, .non => true
  | .bl a, .bl b => a == b
  | .bl a, .int b => (if a then 1 else 0) == b
  | .int a, .bl b => a == (if b then 1 else 0)
  | .int a, .int b => a == b
  | .str a, .str b => a == b
  | _, _ => false
theorem eqAt_V {A : Around} {s : Shared} {y x : V} {u v : Value} (ry : RelV y u) (rx : RelV x v) (fy : flatV y = true) (fx : flatV x = true) : SeqAt.EqAt A s u v (eqV y x) := by
  cases y with
  | non =>
    cases ry
    cases x with
    | non => cases rx; exact SeqAt.EqAt.same _
    | bl b => cases rx; exact SeqAt.EqAt.none_bool b
    | int b => obtain ⟨t, rfl⟩ := rx; exact SeqAt.EqAt.none_int b t
    | str b => obtain ⟨t, rfl⟩ := rx; exact SeqAt.EqAt.none_str b t
    | _ => exact absurd (show false = true from fx) Bool.false_ne_true
  | bl a =>
    cases ry
    cases x with
    | non => cases rx; exact SeqAt.EqAt.bool_none a
    | bl b => cases rx; exact SeqAt.EqAt.bool_bool a b
    | int b => obtain ⟨t, rfl⟩ := rx; exact SeqAt.EqAt.bool_int a b t
    | str b => obtain ⟨t, rfl⟩ := rx; exact SeqAt.EqAt.bool_str a b t
    | _ => exact absurd (show false = true from fx) Bool.false_ne_true
  | int a =>
    obtain ⟨t', rfl⟩ := ry
    cases x with
    | non => cases rx; exact SeqAt.EqAt.int_none a t'
    | bl b => cases rx; exact SeqAt.EqAt.int_bool a t' b
    | int b => obtain ⟨t, rfl⟩ := rx; exact SeqAt.EqAt.int_int a t' b t
    | str b => obtain ⟨t, rfl⟩ := rx; exact SeqAt.EqAt.int_str a t' b t
    | _ => exact absurd (show false = true from fx) Bool.false_ne_true
  | str a =>
    obtain ⟨t', rfl⟩ := ry
    cases x with
    | non => cases rx; exact SeqAt.EqAt.str_none a t'
    | bl b => cases rx; exact SeqAt.EqAt.str_bool a t' b
    | int b => obtain ⟨t, rfl⟩ := rx; exact SeqAt.EqAt.str_int a t' b t
    | str b => obtain ⟨t, rfl⟩ := rx; exact SeqAt.EqAt.str_str a t' b t
    | _ => exact absurd (show false = true from fx) Bool.false_ne_true
  | _ => exact absurd (show false = true from fy) Bool.false_ne_true
def eqU (x : V) (u : Value) : Bool := match u with
  | .none => eqV .non x
  | .bool b => eqV (.bl b) x
  | .int i _ => eqV (.int i) x
  | .str z _ => eqV (.str z) x
  | _ => false
theorem eqU_of {x y : V} {u : Value} (r : RelV y u) (f : flatV y = true) : eqU x u = eqV y x := by
  cases y with
  | non => cases r; rfl
  | bl b => cases r; rfl
  | int i => obtain ⟨t, rfl⟩ := r; rfl
  | str z => obtain ⟨t, rfl⟩ := r; rfl
  | _ => exact absurd (show false = true from f) Bool.false_ne_true
theorem any_eqU {x : V} : ∀ {xs : List V} {us : List Value}, Vals xs us → xs.all flatV = true → us.any (eqU x) = xs.any fun y => eqV y x
  | _, _, .nil, _ => rfl
  | y :: xs, u :: us, .cons r t, f => by
    rw [List.all_cons, Bool.and_eq_true] at f
    rw [List.any_cons, List.any_cons, eqU_of r f.1, any_eqU t f.2]
theorem mem_eqAt {A : Around} {s : Shared} {x : V} {v : Value} (rx : RelV x v) (fx : flatV x = true) : ∀ {xs : List V} {us : List Value}, Vals xs us → xs.all flatV = true → ∀ u ∈ us, SeqAt.EqAt A s u v (eqU x u)
  | _, _, .nil, _ => fun u hu => by cases hu
  | y :: xs, u :: us, .cons r t, f => fun u' hu => by
    rw [List.all_cons, Bool.and_eq_true] at f
    rcases List.mem_cons.mp hu with rfl | hu
    · rw [eqU_of r f.1]; exact eqAt_V r rx f.1 fx
    · exact mem_eqAt rx fx t f.2 u' hu
def inV (x : V) (xs : List V) : Bool := xs.any fun y => eqV y x
def rIn (K : PySem.W.Frag) (neg : Bool) : R2 := fun x y H Q => ∃ p xs, y = .ref p ∧ (SqL K H p xs ∨ SqT K H p xs) ∧ flatV x = true ∧ xs.all flatV = true ∧ Q (.bl (if neg then !inV x xs else inV x xs)) H
theorem op_notIn_seq : OpR X (compareOp .NotIn) (rIn X.K true) := by
  intro pins s σ H x y v u Q I rx ry h
  obtain ⟨p, xs, rfl, hq, fx, fs, q⟩ := h
  cases ry
  rcases hq with hq | hq
  · obtain ⟨its, r, pl, hz⟩ := I.list hq
    refine SeqAt.notIn_listAt (eqU x) pl.isList (fun w hw => mem_eqAt rx fx r fs w (by simpa using hw)) ⟨.bl _, H, I, rfl, ?_⟩
    rw [show its.toArray.any (eqU x) = its.any (eqU x) by simp, any_eqU r fs]
    exact q
  · obtain ⟨its, r, pl, hz⟩ := I.tuple hq
    refine SeqAt.notIn_tupleAt (eqU x) pl (fun w hw => mem_eqAt rx fx r fs w (by simpa using hw)) ⟨.bl _, H, I, rfl, ?_⟩
    rw [show its.toArray.any (eqU x) = its.any (eqU x) by simp, any_eqU r fs]
    exact q
theorem call_len_seq : CallR X (.builtin "len") (fun xs H Q => ∃ p ys, xs = [.ref p] ∧ (SqL X.K H p ys ∨ SqT X.K H p ys) ∧ Q (.int ys.length) H) := by
  intro pins s σ H xs us Q I r h
  obtain ⟨p, ys, rfl, hq, q⟩ := h
  obtain ⟨u, rfl, rx⟩ := vals1 r
  cases rx
  have hn := line63
  rcases hq with hq | hq
  · obtain ⟨its, r', pl, hz⟩ := I.list hq
    have hlen := r'.length
    exact Calls.call_len_list pl.isList (by simp only [List.size_toArray] <;> omega) ⟨.int ys.length, H, I.tok _, ⟨s.toks + 1, by rw [List.size_toArray, hlen]⟩, q⟩
  · obtain ⟨its, r', pl, hz⟩ := I.tuple hq
    have hlen := r'.length
    exact len_tuple pl (by simp only [List.size_toArray] <;> omega) ⟨.int ys.length, H, I.tok _, ⟨s.toks + 1, by rw [List.size_toArray, hlen]⟩, q⟩
theorem call_list_of : CallR X (.type "list") (fun xs H Q => ∃ p ys, xs = [.ref p] ∧ (SqL X.K H p ys ∨ SqT X.K H p ys) ∧ ∀ l, H l = none → Q (.ref l) (upd H l (.lst ys))) := by
  intro pins s σ H xs us Q I r h
  obtain ⟨p, ys, rfl, hq, q⟩ := h
  obtain ⟨u, rfl, rx⟩ := vals1 r
  cases rx
  have fin : ∀ (its : List Value), Vals ys its → ys.length ≤ sizeLine → ∀ (h' : Heap) (c' : Nat), (∀ b o', s.heap.get? b = some o' → h'.get? b = some o') →
      h'.get? s.heap.objs.size = some { cls := .type "list", dict := none, data := .seq its.toArray c', slots := #[] } → EP X pins σ Q (.ref s.heap.objs.size) { s with heap := h' } := fun its r' hz h' c' kp e =>
    ⟨.ref s.heap.objs.size, _, I.laid (t' := s.toks) kp (Nat.le_refl _) (show ObjOk X.prog X.w _ h' _ (.lst ys) from ⟨hz, its, c', r', e⟩), rfl, q _ (I.hok.fresh (Nat.le_refl _))⟩
  rcases hq with hq | hq
  · obtain ⟨its, r', pl, hz⟩ := I.list hq
    have hlen := r'.length
    obtain ⟨o, ho, hc, n, hd⟩ := pl.isList
    exact call_list_seq p (.inl rfl) ho hc hd (fun h' c' kp e => fin its r' hz h' c' kp e) (by simp only [List.size_toArray] <;> omega)
  · obtain ⟨its, r', pl, hz⟩ := I.tuple hq
    have hlen := r'.length
    obtain ⟨o, ho, hc, n, hd⟩ := pl
    exact call_list_seq p (.inr rfl) ho hc hd (fun h' c' kp e => fin its r' hz h' c' kp e) (by simp only [List.size_toArray] <;> omega)
def tyV (K : PySem.W.Frag) (T : String) (x : V) (H : Hp) : Prop := match x with
  | .str _ => T = "str"
  | .int _ => T = "int"
  | .ref p => (T = "list" ∧ ∃ xs, SqL K H p xs) ∨ (T = "tuple" ∧ ∃ o, K.lookup p = some o ∧ o.cls = .type "tuple" ∧ o.dict = none) ∨
      (T = "dict" ∧ ((∃ kvs, H p = some (.dK kvs)) ∨ ∃ kvs, H p = some (.dT kvs))) ∨ (T = "set" ∧ ∃ S n, H p = some (.set S n))
  | _ => False
theorem tyV_is {pins : List (Addr × Obj)} {σ : St} {H : Hp} {s : Shared} {T : String} {x : V} {v : Value} (I : Inv X pins σ H s) (r : RelV x v) (ty : tyV X.K T x H) :
    s.TypeIs v T ∧ ∀ a, v = .ref a → ∃ ob, s.heap.get? a = some ob ∧ ob.dict = none := by
  cases x with
  | str z =>
    obtain ⟨t, rfl⟩ := r
    cases (show T = "str" from ty)
    exact ⟨typeIs_str s z t, fun _ e => nomatch e⟩
  | int i =>
    obtain ⟨t, rfl⟩ := r
    cases (show T = "int" from ty)
    exact ⟨typeIs_int s i t, fun _ e => nomatch e⟩
  | ref p =>
    cases r
    rcases ty with ⟨rfl, xs, hq⟩ | ⟨rfl, o, hk, hc, hd⟩ | ⟨rfl, hk⟩ | ⟨rfl, S, n, hk⟩
    · obtain ⟨its, _, pl, _⟩ := I.list hq
      refine ⟨pl.isList.typeIs, fun a e => ?_⟩
      cases e
      obtain ⟨o, n, e, c, hd, _⟩ := pl
      exact ⟨o, e, hd⟩
    · refine ⟨⟨o, I.kIn p o hk, hc⟩, fun a e => ?_⟩
      cases e
      exact ⟨o, I.kIn _ o hk, hd⟩
    · have z : ∃ o, s.heap.get? p = some o ∧ o.ExactDict := by
        rcases hk with ⟨kvs, hk⟩ | ⟨kvs, hk⟩
        · obtain ⟨_, _, _, _, o, _, _, e, ex, _⟩ := I.hok p _ hk
          exact ⟨o, e, ex⟩
        · obtain ⟨_, _, _, _, o, _, _, e, ex, _⟩ := I.hok p _ hk
          exact ⟨o, e, ex⟩
      obtain ⟨o, e, ex⟩ := z
      refine ⟨⟨o, e, ex.1⟩, fun a e2 => ?_⟩
      cases e2
      exact ⟨o, e, ex.2.1⟩
    · obtain ⟨o, _, _, _, e, ex, _⟩ := I.hok p _ hk
      refine ⟨⟨o, e, ex.1⟩, fun a e2 => ?_⟩
      cases e2
      exact ⟨o, e, ex.2.1⟩
  | _ => exact False.elim ty
def tBM0 (K : PySem.W.Frag) (T : String) (r : V → List V → Hp → VK → Prop) (to : TE) : TE := fun σ H Q => to σ H fun x H1 => tyV K T x H1 ∧ r x [] H1 Q
def tBM (K : PySem.W.Frag) (T : String) (r : V → List V → Hp → VK → Prop) (to : TE) (t : TA) : TE := fun σ H Q => to σ H fun x H1 => tyV K T x H1 ∧ t σ H1 fun xs H2 => r x xs H2 Q
variable {o e : Expr} {es : List Expr} {to : TE} {t : TA} {name : Str} {apos cpos : Pos} {T id : String} {r : V → List V → Hp → VK → Prop}
theorem pe_bm0 (pa : PlainAttrs T) (slot : Slot T name id) (hty : typeOf (.builtin id) = pure (.type "method_descriptor")) (hm : MtR X id r) (ho : PE X o to)
    (hbase : attributeBase o name X.env (eval o X.env) = eval o X.env := by rfl) (hline : (apos.endLine == cpos.line) = true := by rfl) : PE X (.Call (.Attribute o name apos) [] [] cpos) (tBM0 X.K T r to) := by
  intro pins s σ H Q I h
  refine wpAny_Call_method0_late hbase hline (thn (ho pins s σ H _ I h) fun v s1 ⟨x, H1, I1, r1, ty, q1⟩ => ?_)
  obtain ⟨h1, h2⟩ := tyV_is I1 r1 ty
  exact ⟨T, id, pa, slot, hty, h1, h2, Calls.callWith_builtin rfl (PySem.evalArgs_none (hm pins s1 σ H1 x [] v [] Q I1 r1 .nil q1))⟩
theorem pe_bm (pa : PlainAttrs T) (slot : Slot T name id) (hty : typeOf (.builtin id) = pure (.type "method_descriptor")) (hm : MtR X id r) (ho : PE X o to) (ha : PA X (e :: es) t)
    (hbase : attributeBase o name X.env (eval o X.env) = eval o X.env := by rfl)
    (hfew : ((backTo cpos (starEach (e :: es) X.env)).all (fun x => !x.1) && (backToKw cpos (keywordEach [] X.env)).all (fun x => x.1.isSome)
      && decide ((e :: es).length + ([] : List Keyword).length + (if ([] : List Keyword).isEmpty then 0 else 1) < 30)) = true := by rfl)
    (hline : (apos.endLine == cpos.line) = true := by rfl) (hs : starEach (e :: es) X.env = (false, eval e X.env) :: starEach es X.env := by rfl) (hplain : (backTo cpos (starEach es X.env)).any (·.1) = false := by rfl) :
    PE X (.Call (.Attribute o name apos) (e :: es) [] cpos) (tBM X.K T r to t) := by
  intro pins s σ H Q I h
  refine wpAny_Call_method_late hbase hfew hline rfl (thn (ho pins s σ H _ I h) fun v s1 ⟨x, H1, I1, r1, ty, q1⟩ => ?_)
  obtain ⟨h1, h2⟩ := tyV_is I1 r1 ty
  refine ⟨T, id, pa, slot, hty, h1, h2, ?_⟩
  have hA := ha cpos pins s1 σ H1 _ I1 q1
  rw [hs] at hA ⊢
  refine Calls.callWith_builtin (by show (false || (backTo cpos (starEach es X.env)).any (·.1)) = false; rw [hplain] <;> rfl) (Calls.evalArgs_plain ?_)
  exact thn hA fun us s2 ⟨vs, H2, I2, r2, q2⟩ => hm pins s2 σ H2 x vs v us Q I2 r1 r2 q2
/- xs.append(e), list.index on a module's tuple .. are MtR facts of 06m -/
end
end L2
namespace L2
open PySem PySem.Spec PyProof.Rows
def MtM (X : Cx) (id : String) (r : V → List V → Hp → VK → Prop) : Prop :=
  ∀ (pins : List (Addr × Obj)) (s : Shared) (σ : St) (H : Hp) (x : V) (xs : List V) (v : Value) (us : List Value) (Q : VK), Inv X pins σ H s → RelV x v → Vals xs us → r x xs H Q →
    wpAny (model X.prog X.w) X.A (call (.builtin id) (v :: us)) (EP X pins σ Q) X.xe s
theorem Vals.one : ∀ {x : V} {us : List Value}, Vals [x] us → ∃ u, us = [u] ∧ RelV x u
  | _, _, .cons r .nil => ⟨_, rfl, r⟩
theorem Vals.two : ∀ {x y : V} {us : List Value}, Vals [x, y] us → ∃ u v, us = [u, v] ∧ RelV x u ∧ RelV y v
  | _, _, _, .cons r (.cons q .nil) => ⟨_, _, rfl, r, q⟩
section
variable {X : Cx} {pins : List (Addr × Obj)} {σ : St} {H : Hp} {s : Shared} {l b : Addr} {xs ys zs : List V}
theorem Inv.lset {its its' : List Value} {n : Nat} {f : Array Value → Array Value} {t' : Nat} (I : Inv X pins σ H s) (hH : H l = some (.lst xs))
    (e : s.heap.get? l = some { cls := .type "list", data := .seq its.toArray n }) (hf : f its.toArray = its'.toArray) (hv : Vals ys its') (hz : ys.length ≤ sizeLine) :
    Inv X pins σ (upd H l (.lst ys)) { s with heap := s.heap.update l (Obj.mapSeq f), toks := t' } := by
  have q := PySem.IsL.update e f
  rw [hf] at q
  refine I.write (x := l) (e := l) (by rw [hH]; exact trivial) (.inl rfl) (fun b' u hb hu => (Heap.get?_update_other s.heap (Obj.mapSeq f) (Ne.symm hb)).trans hu) ⟨_, q⟩ ?_
  exact ⟨hz, its', _, hv, q⟩
theorem Inv.lstM (I : Inv X pins σ H s) (hH : H l = some (.lst xs)) : xs.length ≤ sizeLine ∧ ∃ (its : List Value) (n : Nat), Vals xs its ∧ xs.length = its.length ∧ s.heap.get? l = some { cls := .type "list", data := .seq its.toArray n } := by
  obtain ⟨z, its, n, r, e⟩ := I.hok l _ hH
  exact ⟨z, its, n, r, r.length, e⟩
end
section
variable {X : Cx}
def rAppend : V → List V → Hp → VK → Prop := fun x vs H Q => ∃ l xs y, x = .ref l ∧ vs = [y] ∧ H l = some (.lst xs) ∧ xs.length < sizeLine ∧ Q .non (upd H l (.lst (xs ++ [y])))
theorem mt_append : MtM X "list.append" rAppend := by
  intro pins s σ H x vs v us Q I rx rv h
  obtain ⟨l, xs, y, rfl, rfl, hH, hz, q⟩ := h
  cases rx
  obtain ⟨u, rfl, ru⟩ := rv.one
  obtain ⟨z, its, n, r, hl, e⟩ := I.lstM hH
  refine call_meets F.slot_list_append ⟨_, e, rfl⟩ F.entry_list_append (F.args_list_append_2 _ _) (PySem.list_append l its.toArray n u (by rw [List.size_toArray]; omega)) ⟨e, ?_⟩
  refine ⟨.non, _, I.lset (its' := its ++ [u]) hH e (by simp) (r.append (.cons ru .nil)) ?_, rfl, q⟩
  rw [List.length_append, List.length_singleton]
  omega
end
section
variable {prog : Program} {w : World} {A : Around} {E : Value → Shared → Prop} {s : Shared}
end
section
variable {X : Cx}
end
end L2
namespace Att
open PySem PySem.W PySem.Calls PyProof.Rows
theorem ints_of_wellAll {P : Params} {h : Heap} : ∀ (ns : List Int) (vs : List Value), WellAll P h vs (ns.map WData.int) → IntsAre vs ns := by
  intro ns
  induction ns with
  | nil =>
    intro vs w
    rw [List.map_nil] at w
    cases w
    exact .nil
  | cons n ns ih =>
    intro vs w
    rw [List.map_cons] at w
    cases w with
    | cons a b =>
      cases a
      exact .cons _ _ (ih _ b)
theorem script_of {l : OpenLaw} {n : Nat} (hn : l.most = some n) {P : Params} {h : Heap} {args : List WData} {vals : List Value}
    (hpre : l.row.toRowW.claim.pre args = true) (hwl : WellAll P h vals args) :
    ∃ a vs ns, vals = [Value.ref a] ∧ args = [WData.list (ns.map WData.int)] ∧ h.get? a = some { cls := .type "list", data := .seq vs.toArray } ∧ IntsAre vs ns ∧ ns.length ≤ n := by
  have hsh : WShape.hasAll [] args [.list .int] = true := (pre_splitW hpre).1
  have hc : l.pre.holds [] { args := args } = true := (pre_splitW hpre).2
  obtain ⟨d, r, rfl, h1, h2⟩ := hasAllW_cons hsh
  obtain rfl := hasAllW_nil h2
  obtain ⟨xs, rfl, h3⟩ := hasW_list h1
  obtain ⟨ns, rfl⟩ := items_int h3
  have hlen : ns.length ≤ n := by
    unfold OpenLaw.pre at hc
    have h4 : (WTm.not (.lt (.lit (.int (n : Int))) (.len (.arg 0)))).holds [] { args := [.list (ns.map .int)] } = true := by
      have h4 := (holds_andW hc).1
      rw [hn] at h4
      exact h4
    have h5 := condW_of h4 (w_not (w_lt w_lit (w_len_list (w_arg rfl))))
    rw [List.length_map] at h5
    refine Nat.le_of_not_lt fun q => ?_
    have q' : (n : Int) < ((ns.length : Nat) : Int) := by omega
    first
      | (rw [decide_eq_true q'] at h5; exact absurd h5 (by decide))
      | (simp at h5; omega)
  cases hwl with
  | cons w1 w2 =>
    cases w2
    cases w1 with
    | list ho hall => exact ⟨_, _, ns, rfl, rfl, ho, ints_of_wellAll ns _ hall, hlen⟩
theorem post_true (l : OpenLaw) (args : List WData) : l.row.toRowW.claim.post args (.bool true) args = true :=
  postW_of (r := l.row.toRowW) (X := (true == true))
    (show WShape.has [] (.bool true) .bool = true by first | rfl | decide | simp [WShape.has, WShape.arms, WShape.armsAll])
    (show (WTm.eq .res (.lit (.bool true))).value [] { args := args, res := some (.bool true), after := args } = some (.bool (true == true)) from w_eq_bool (w_res rfl) w_lit) rfl
theorem attach_call {l : OpenLaw} {n : Nat} {q : Program} {loose : List Str} {XP : (Str → Option Value) → Heap → Prop} {YP : World → Heap → Prop} {d : DefRec}
    (hn : l.most = some n) (hdf : d.params.defaults = [])
    (call : ∀ (w : World) (s₀ s₁ : Shared) (mg mb : Str → Option Value) (fa : Addr) (o : Obj) (pm cd doc : Value) (a : Addr) (vs : List Value) (ns : List Int),
      Ground q loose [] XP w s₀ mg mb s₁.heap → YP w s₁.heap →
      s₁.heap.get? fa = some o → o.data = .func (docDef d.name d.params d.body d.scope pm cd doc) → s₁.heap.CodeRec cd d.name → mg d.name = some (.ref fa) →
      s₁.heap.get? a = some { cls := .type "list", data := .seq vs.toArray } → IntsAre vs ns → ns.length ≤ n → s₁.gens = #[] →
      codeAny (model l.prog w) callerA (.call (.ref fa) ⟨[.ref a], []⟩) (fun r s' => r = .ok (.ret (.bool true)) ∧ OldK s₁.heap s'.heap ∧ s'.os = s₁.os ∧ AllBare s'.gens) s₁) :
    WalkO q loose XP YP l.row.toRowW d [] (fun f vs => PySem.call f vs) := by
  intro w s₀ s₁ mg mb G Y fa o pm cd doc dV kV ho hd hcd hD hmg hg args vals as hpre hlay hrd hwl hlo
  obtain rfl : dV = .none := Dflts.none hD hdf
  obtain rfl : kV = .none := Dflts.noKw hD
  obtain ⟨a, vs, ns, rfl, rfl, hobj, hints, hlen⟩ := script_of hn hpre hwl
  refine enter_call (codeAny_mono (call w s₀ s₁ mg mb fa o pm cd doc a vs ns G Y ho (fd_plain hd) hcd hmg hobj hints hlen hg) fun r s' hq => ?_)
  obtain ⟨rfl, h2, h3, h4⟩ := hq
  exact ⟨.inl ⟨.bool true, .bool true, [], rfl, fun _ => rfl, .bool true, post_true l _, fun _ => ⟨List.Pairwise.nil, fun _ hm => (nomatch hm)⟩⟩, h2, h3, h4⟩
section
variable {prog : Program} {w : World} {A : Around} {E : Value → Shared → Prop} {s : Shared} {K : Frag}
end
end Att
namespace L2
open PySem PySem.Spec PyProof.Rows
theorem vals_ints : ∀ {vs : List Value} {ns : List Int}, IntsAre vs ns → Vals (ns.map V.int) vs
  | _, _, .nil => .nil
  | _, _, .cons n t h => .cons ⟨t, rfl⟩ (vals_ints h)
def Only (H : Hp) : Prop := ∀ b, H b = none ∨ ∃ o xs, H b = some (.frz o (.lst xs))
theorem law_call {P : Program} {w : World} {K : PySem.W.Frag} {mg mb : Str → Option Value} {CX : CXT} {k : Nat} {fa a : Addr} {fd : FuncData} {x : Str} {sp : Sp} {s₁ : Shared} {vs : List Value} {ns : List Int}
    (KX : K.In s₁.heap) (hns : s₁.heap.Ns mainGlobals mg) (hb : s₁.heap.Ns builtinsNs mb) (hbb : ∀ x : Str, x ≠ "__name__" → mb x = bootBuiltins x) (hlim : s₁.heap.NoLimit) (hg : s₁.gens = #[])
    (ha : s₁.heap.get? a = some { cls := .type "list", data := .seq vs.toArray }) (hi : IntsAre vs ns) (hl : ns.length ≤ sizeLine) (hr : Room k callerA)
    (F : ∀ base : Heap, K.In base → base.Ns mainGlobals mg → FnOk P w K mg base CX k fa fd [x] sp) (hbind : ∀ (s : Shared) (u : Value), BindsTo s fd ⟨[u], []⟩ [(x, u)])
    (hsp : ∀ H : Hp, Only H → SqL K H a (ns.map V.int) → sp [.ref a] H (fun v _ => v = .bl true) fun _ _ _ => False)
    (hCX : ∀ H e s', CX [] H s₁ (fun _ _ _ => False) e s' → False) :
    codeAny (model P w) callerA (.call (.ref fa) ⟨[.ref a], []⟩) (fun r s' => r = .ok (.ret (.bool true)) ∧ OldK s₁.heap s'.heap ∧ s'.os = s₁.os ∧ AllBare s'.gens) s₁ := by
  have rv := vals_ints hi
  have lenV := hi.length
  -- from an abstract heap in which nothing but the script may be tracked
  have core : ∀ H : Hp, Only H → SqL K H a (ns.map V.int) → HOk P w H s₁.heap → (∀ b, H b ≠ none → b = a) → (H a ≠ none → K.lookup a = none) →
      codeAny (model P w) callerA (.call (.ref fa) ⟨[.ref a], []⟩) (fun r s' => r = .ok (.ret (.bool true)) ∧ OldK s₁.heap s'.heap ∧ s'.os = s₁.os ∧ AllBare s'.gens) s₁ := by
    intro H hO hS hok hA hK
    have base_of : ∀ {b : Addr} {o : Obj}, s₁.heap.get? b = some o → H b = none → (hidT s₁.heap H).get? b = some o := fun e n => hidT_get e n
    have noA : ∀ {b : Addr} {o : Obj} {es : Array DictEntry} {ep : Nat}, s₁.heap.get? b = some o → o.data = .dict es ep → H b = none := fun {b o es ep} e d => by
      cases q : H b with
      | none => rfl
      | some u =>
        have e' : b = a := hA b (by rw [q]; simp)
        subst e'
        rw [ha] at e; cases e
        have d' : Data.seq vs.toArray _ = Data.dict es ep := d
        cases d'
    have nsK : ∀ {b : Addr} {m : Str → Option Value}, s₁.heap.Ns b m → (hidT s₁.heap H).Ns b m := fun {b m} ⟨o, es, ep, e, d, r⟩ => ⟨o, es, ep, base_of e (noA e d), d, r⟩
    have hKb : K.In (hidT s₁.heap H) := fun b o e => base_of (KX b o e) (by
      cases q : H b with
      | none => rfl
      | some u =>
        have e' : b = a := hA b (by rw [q]; simp)
        subst e'
        rw [hK (by rw [q]; simp)] at e; cases e)
    have hM : Mod K mg (hidT s₁.heap H) := ⟨hKb, nsK hns, ⟨mb, nsK hb, hbb⟩, let ⟨mc, h1, h2⟩ := hlim; ⟨mc, nsK h1, h2⟩⟩
    have e0 : Env0 P w K mg (hidT s₁.heap H) callerA [] s₁ H := ⟨rfl, hM, fun b o e => of_hidT e, Nat.le_of_eq (hidT_size _ _), trivial, fun b hb => absurd (show b ∈ ([] : List Addr) from hb) (by simp), hok, .of_eq hg⟩
    refine codeAny_mono ((F _ hKb (nsK hns)).run callerA [] s₁ H ⟨[.ref a], []⟩ [.ref a] [.ref a] _ _ hr e0 (hbind s₁ (.ref a)) (.cons rfl .nil) (hsp H hO hS)) fun r s' h => ?_
    cases r with
    | error e => exact (hCX H e s' h).elim
    | ok fl =>
      cases fl with
      | next => exact False.elim h
      | brk => exact False.elim h
      | cont => exact False.elim h
      | ret u =>
        obtain ⟨v, H', os, bare, un, hok', r', q⟩ := h
        have q' : v = .bl true := q
        subst q'
        obtain rfl : u = Value.bool true := r'
        refine ⟨rfl, OldK.of_keep fun b o e => ?_, os, bare⟩
        cases q : H b with
        | none => exact un.keep b o e q (by intro z; exact absurd (show b ∈ ([] : List Addr) from z) (by simp)) (by simp)
        | some u =>
          rcases hO b with z | ⟨ob, xs, z⟩
          · rw [q] at z; cases z
          · have z2 := un.frzs b ob _ z
            obtain ⟨e1, _⟩ := hok b _ z
            obtain ⟨e2, _⟩ := hok' b _ z2
            rw [e] at e1; cases e1
            exact e2
  cases hk : K.lookup a with
  | some o =>
    -- the script is one of the module's own objects
    have e := KX a o hk
    rw [ha] at e
    cases e
    refine core (fun _ => none) (fun _ => .inl rfl) (.inr ⟨_, vs.toArray, _, hk, rfl, rfl, rfl, by rw [List.size_toArray, lenV]; exact hl, by simpa using rv⟩) (fun b u z => by have z' : (none : Option HO) = some u := z; cases z') (fun b z => absurd rfl z) fun z => absurd rfl z
  | none =>
    refine core (fun b => if b = a then some (.frz { cls := .type "list", data := .seq vs.toArray } (.lst (ns.map V.int))) else none) (fun b => ?_) (.inl (.inr ⟨{ cls := .type "list", data := .seq vs.toArray }, if_pos rfl⟩)) (fun b u z => ?_) (fun b z => ?_) fun _ => hk
    · by_cases hb : b = a
      · exact .inr ⟨_, _, if_pos hb⟩
      · exact .inl (if_neg hb)
    · by_cases hb : b = a
      · have z' := (if_pos hb).symm.trans z
        cases z'
        subst hb
        exact ⟨ha, by rw [List.length_map]; exact hl, vs, _, rv, ha⟩
      · have z' := (if_neg hb).symm.trans z
        cases z'
    · by_cases hb : b = a
      · exact hb
      · exact absurd (if_neg hb) z
end L2
namespace L2
open PySem PySem.Spec PyProof.Rows
abbrev KOf {K : PySem.W.Frag} {h : Heap} (_ : K.In h) : PySem.W.Frag := K
theorem walk_of {l : PySem.W.OpenLaw} {n k : Nat} {q : Program} {loose : List Str} {XP : (Str → Option Value) → Heap → Prop} {YP : World → Heap → Prop} {d : DefRec} {K : Params → PySem.W.Frag} {CX : World → CXT} {sp : World → Sp} {x : Str}
    (hn : l.most = some n) (hn2 : n ≤ sizeLine) (hdf : d.params.defaults = []) (hr : Room k callerA)
    (hY : ∀ (w : World) (h : Heap), YP w h → (K w.params).In h)
    (F : ∀ (w : World) (mg : Str → Option Value) (fa : Addr) (h : Heap), (K w.params).In h → h.Ns mainGlobals mg → mg d.name = some (.ref fa) →
      ∃ fd : FuncData, (∀ (s : Shared) (u : Value), BindsTo s fd ⟨[u], []⟩ [(x, u)]) ∧
        ∀ base : Heap, (K w.params).In base → base.Ns mainGlobals mg → FnOk l.prog w (K w.params) mg base (CX w) k fa fd [x] (sp w))
    (hsp : ∀ (w : World) (H : Hp) (a : Addr) (ns : List Int), ns.length ≤ n → Only H → SqL (K w.params) H a (ns.map V.int) → sp w [.ref a] H (fun v _ => v = .bl true) fun _ _ _ => False)
    (hCX : ∀ (w : World) (H : Hp) (s : Shared) (e : Value) (s' : Shared), CX w [] H s (fun _ _ _ => False) e s' → False) :
    PySem.W.WalkO q loose XP YP l.row.toRowW d [] (fun f vs => PySem.call f vs) := by
  refine Att.attach_call hn hdf fun w s₀ s₁ mg mb fa o pm cd doc a vs ns G Y ho hd hcd hmg hobj hints hlen hg => ?_
  have KX := hY w _ Y
  obtain ⟨fd, hb, hF⟩ := F w mg fa _ KX G.T.g hmg
  exact law_call KX G.T.g G.T.b G.T.builtins G.T.nolimit hg hobj hints (Nat.le_trans hlen hn2) hr hF hb (fun H hO hS => hsp w H a ns hlen hO hS) fun H e s' => hCX w H s₁ e s'
end L2
/- THE LAST THEOREM (shape; LID, My.* are yours):
   My.Adr: a structure of the addresses that your layer names (classes, functions); My.Txt K t: a structure (Prop) of the equations over K;
   My.txt_mk : {K} {implicit addresses ..} (e1 : nsIn K mainGlobals "law" = some (some (.ref f))) (e2 : K.lookup f = some ⟨oc, od, .func (fnOf "law" "law" params body scope dV kV doc pm an cdv ct), sl⟩) (e3 : codeIn K cdv "law" = true) .. : ∃ t, My.Txt K t
set_option maxRecDepth 100000 in
set_option maxHeartbeats 0 in
theorem PySem.Challenge.cw_LID_holds : PySem.Challenge.rw_LID.Holds := by
  w_on; o_law; k_head; (case hw => w_witness2)
  k_fill
  refine L2.walk_of (l := PySem.Challenge.rw_LID) (n := 63) (k := 40) (x := "script") (CX := fun w => ..) (sp := fun _ => My.sp_law) rfl (by decide) rfl ⟨rfl, by decide, by decide⟩ (fun w h Y => PySem.W.kIn_of Y) ?F ?S ?C
  case F =>
    intro w mg fa h KX G hmg
    have T : ∃ t, My.Txt (L2.KOf KX) t := by
      dsimp only [L2.KOf]                          -- K must stand as «<heap const> w.params» for k_is
      refine' My.txt_mk ?e1 ?e2 ?e3 ..
      (case e1 => PySem.W.k_is)                    -- in the order: a name -> its address -> its object -> its parts
      (case e2 => PySem.W.k_is)
      ..
    obtain ⟨t, T⟩ := T
    have e0 := hmg.symm.trans (PySem.W.mg_of KX G T.law)
    cases e0                                       -- fa is the law's own address
    exact ⟨_, fun s u => .of_eq rfl, fun base kb nb => My.law_fn T kb nb⟩     -- if «.of_eq rfl» comes too early: refine' ⟨_, ?b, fun base kb nb => My.law_fn T kb nb⟩; exact fun s u => .of_eq rfl
  case S => exact fun w H a ns hl hO hS => ..
  case C => exact ..
(the tactic k_is has no namespace: write k_is) -/
namespace L2
open PySem PySem.Spec PyProof.Rows
def defArgs (s : Stmt) : Arguments := match s with
  | .FunctionDef _ a _ _ _ _ _ _ _ _ => a
  | _ => { posonlyargs := [], args := [], vararg := none, kwonlyargs := [], kw_defaults := [], kwarg := none, defaults := [] }
def defBody (s : Stmt) : List Stmt := match s with
  | .FunctionDef _ _ b _ _ _ _ _ _ _ => b
  | _ => []
def defScope (s : Stmt) : Scope := match s with
  | .FunctionDef _ _ _ _ _ _ sc _ _ _ => sc
  | _ => { kind := .function, names := [], isGenerator := false, isCoroutine := false }
abbrev CX0 : CXT := fun _ _ _ _ _ _ => False
abbrev E0 : XK := fun _ _ _ => False
structure Fun (K : PySem.W.Frag) (x qual : Str) (st : Stmt) (f : Addr) (fd : FuncData) : Prop where
  ex : ∃ (oc : Value) (od : Option Addr) (kV doc pm : Value) (an : Option Addr) (cdv ct : Value) (osl : Array (Option Value)),
    fd = PySem.W.fnOf x qual (defArgs st) (defBody st) (defScope st) .none kV doc pm an cdv ct ∧ K.lookup f = some ⟨oc, od, .func fd, osl⟩ ∧ PySem.W.codeIn K cdv qual = true
  kp : PySem.W.keepIn K (.ref f) = true
section
variable {P : Program} {w : World} {K : PySem.W.Frag} {mg : Str → Option Value} {base : Heap}
theorem Fun.ok {x qual : Str} {st : Stmt} {f : Addr} {fd : FuncData} {N ps : List Str} {k : Nat} {sp : Sp} (F : Fun K x qual st f fd) (S : FnScope N ps (defScope st)) (len : ∀ vs H Q E, sp vs H Q E → vs.length = ps.length)
    (hbody : ∀ (cdv : Value) (A : Around) (outer : List Env) (s : Shared) (H : Hp) (vs : List V) (Q : VK) (E : XK), Room k (A.deeper (envOfC qual (defScope st) s.heap.objs.size f cdv)) → sp vs H Q E →
      ∃ t, PSs (cxOf CX0 P w K mg base N qual (defScope st) f cdv A outer s H E).nox (defBody st) t ∧ t { nx := fun _ H' => Q .non H', rt := Q } (start N vs) H) : FnOk P w K mg base CX0 (k + 1) f fd ps sp := by
  obtain ⟨oc, od, kV, doc, pm, an, cdv, ct, osl, rfl, lk, hcd⟩ := F.ex
  refine fn_of lk hcd S len fun A outer s H vs Q E hr hsp => ?_
  obtain ⟨t, h, q⟩ := hbody cdv A outer s H vs Q E hr hsp
  exact ⟨t, h.nox, q⟩
theorem Fun.binds {x qual : Str} {st : Stmt} {f : Addr} {fd : FuncData} {ps : List Str} (F : Fun K x qual st f fd)
    (h : ∀ (kV doc pm : Value) (an : Option Addr) (cdv ct : Value) (us : List Value), us.length = ps.length → bindArgs (PySem.W.fnOf x qual (defArgs st) (defBody st) (defScope st) .none kV doc pm an cdv ct) ⟨us, []⟩ = pure (ps.zip us)) : Binds K fd ps [] := by
  obtain ⟨oc, od, kV, doc, pm, an, cdv, ct, osl, rfl, lk, hcd⟩ := F.ex
  exact .all (h kV doc pm an cdv ct)
theorem fun_mk {x qual : Str} {st : Stmt} {f : Addr} {oc : Value} {od an : Option Addr} {osl : Array (Option Value)} {kV doc pm cdv ct : Value} (l : K.lookup f = some ⟨oc, od, .func (PySem.W.fnOf x qual (defArgs st) (defBody st) (defScope st) .none kV doc pm an cdv ct), osl⟩)
    (c : PySem.W.codeIn K cdv qual = true) (k : PySem.W.keepIn K (.ref f) = true) : Fun K x qual st f (PySem.W.fnOf x qual (defArgs st) (defBody st) (defScope st) .none kV doc pm an cdv ct) := ⟨⟨oc, od, kV, doc, pm, an, cdv, ct, osl, rfl, l, c⟩, k⟩
end
theorem hu_of {A : Around} {k : Nat} (hr : Room k A) : A.units + 1 < cLine := Nat.lt_of_le_of_lt (Nat.add_le_add_left (by decide : 1 ≤ 64) _) hr.units
section
variable {X : Cx}
theorem pv (i : Nat) {x : Str} {pos : Pos} (hN : X.N[i]? = some x := by rfl) (hv : Vis X.env.scope x := by first | exact Or.inl rfl | exact Or.inr (Or.inl rfl) | exact Or.inr (Or.inr rfl)) (hd : (x == ("__debug__" : Str)) = false := by decide)
    (hcd : (x == ("__classdict__" : Str)) = false := by decide) : PE X (.Name x pos) (tVar i) := pe_var hN hv hd hcd
end
theorem iteT {A B : Prop} (h : A) : if true = true then A else B := by
  rw [if_pos rfl]
  exact h
theorem ite2 {c A B : Prop} [Decidable c] (h1 : c → A) (h2 : ¬ c → B) : if c then A else B := by
  by_cases h : c
  · rw [if_pos h]
    exact h1 h
  · rw [if_neg h]
    exact h2 h
def Same (H H' : Hp) : Prop := ∀ b o, H b = some o → H' b = some o
theorem Same.refl (H : Hp) : Same H H := fun _ _ h => h
theorem Same.trans {H H1 H2 : Hp} (a : Same H H1) (b : Same H1 H2) : Same H H2 := fun c o h => b c o (a c o h)
theorem Same.free {H H' : Hp} (e : Same H H') {l : Addr} (h : H' l = Option.none) : H l = Option.none := by
  cases q : H l with
  | none => rfl
  | some o =>
    rw [e l o q] at h
    cases h
theorem Same.seq {K : PySem.W.Frag} {H H' : Hp} {a : Addr} {xs : List V} (e : Same H H') (h : SqL K H a xs) : SqL K H' a xs := by
  rcases h with (h | ⟨o, h⟩) | h
  · exact .inl (.inl (e _ _ h))
  · exact .inl (.inr ⟨o, e _ _ h⟩)
  · exact .inr h
end L2
set_option maxHeartbeats 4000000
namespace Sw
def dv (a b : Int) : Int := (Int.gcd a b : Nat)
theorem dv_nn (a b : Int) : 0 ≤ dv a b := Int.natCast_nonneg _
theorem dv_l (a b : Int) : dv a b ∣ a := Int.gcd_dvd_left a b
theorem dv_r (a b : Int) : dv a b ∣ b := Int.gcd_dvd_right a b
theorem dv_comm (a b : Int) : dv a b = dv b a := by unfold dv; rw [Int.gcd_comm]
theorem dv_negl (a b : Int) : dv (-a) b = dv a b := by unfold dv; rw [Int.neg_gcd]
theorem dv_negr (a b : Int) : dv a (-b) = dv a b := by unfold dv; rw [Int.gcd_neg]
theorem dv_zero (a : Int) (h : 0 ≤ a) : dv a 0 = a := by
  unfold dv; rw [Int.gcd_zero_right]; omega
theorem dv_eq0 {a b : Int} (h : dv a b = 0) : a = 0 ∧ b = 0 := by
  unfold dv at h
  exact Int.gcd_eq_zero_iff.mp (by omega)
theorem dv_pos {a b : Int} (h : b ≠ 0) : 0 < dv a b := by
  have := dv_nn a b
  rcases Int.lt_or_eq_of_le this with q | q
  · exact q
  · exact absurd (dv_eq0 q.symm).2 h
theorem dv_dvd {a b c : Int} (h1 : c ∣ a) (h2 : c ∣ b) : c ∣ dv a b := Int.dvd_coe_gcd h1 h2
theorem dv_ext {a b c d : Int} (h : ∀ x : Int, (x ∣ a ∧ x ∣ b) ↔ (x ∣ c ∧ x ∣ d)) : dv a b = dv c d := by
  have h1 : dv a b ∣ dv c d := dv_dvd ((h _).mp ⟨dv_l a b, dv_r a b⟩).1 ((h _).mp ⟨dv_l a b, dv_r a b⟩).2
  have h2 : dv c d ∣ dv a b := dv_dvd ((h _).mpr ⟨dv_l c d, dv_r c d⟩).1 ((h _).mpr ⟨dv_l c d, dv_r c d⟩).2
  exact Int.dvd_antisymm (dv_nn _ _) (dv_nn _ _) h1 h2
theorem dv_step (a b : Int) : dv b (a % b) = dv a b := by
  refine dv_ext fun x => ⟨fun ⟨h1, h2⟩ => ⟨?_, h1⟩, fun ⟨h1, h2⟩ => ⟨h2, ?_⟩⟩
  · have e := Int.mul_ediv_add_emod a b
    rw [← e]
    exact Int.dvd_add (Int.dvd_trans h1 (Int.dvd_mul_right b _)) h2
  · rw [Int.emod_def]
    exact Int.dvd_sub h1 (Int.dvd_trans h2 (Int.dvd_mul_right b _))
theorem dv_abs (a b : Int) : dv (if a < 0 then -a else a) (if b < 0 then -b else b) = dv a b := by
  split <;> split <;> simp only [dv_negl, dv_negr]
theorem dv_scale (g a b : Int) (h : 0 ≤ g) : dv (g * a) (g * b) = g * dv a b := by
  unfold dv; rw [Int.gcd_mul_left]
  have : ((g.natAbs * a.gcd b : Nat) : Int) = (g.natAbs : Int) * (a.gcd b : Nat) := by simp
  rw [this]; congr 1; omega
theorem dv_quot {a b : Int} (h : dv a b ≠ 0) : dv (a / dv a b) (b / dv a b) = 1 := by
  have hp : 0 < dv a b := by have := dv_nn a b; omega
  have e1 : a = dv a b * (a / dv a b) := (Int.mul_ediv_cancel' (dv_l a b)).symm
  have e2 : b = dv a b * (b / dv a b) := (Int.mul_ediv_cancel' (dv_r a b)).symm
  have e : dv a b = dv a b * dv (a / dv a b) (b / dv a b) := by
    have := dv_scale (dv a b) (a / dv a b) (b / dv a b) (Int.le_of_lt hp)
    rw [← e1, ← e2] at this
    exact this
  have e' : dv a b * 1 = dv a b * dv (a / dv a b) (b / dv a b) := by rw [Int.mul_one]; exact e
  exact (Int.eq_of_mul_eq_mul_left (by omega) e').symm
structure Fr (n d : Int) : Prop where
  pos : 0 < d
  low : dv n d = 1
theorem cop_dvd {n d x : Int} (h : dv n d = 1) (q : d ∣ n * x) : d ∣ x := by
  have h' : Nat.Coprime d.natAbs n.natAbs := by
    unfold dv at h
    have : Int.gcd n d = 1 := by omega
    unfold Nat.Coprime
    rw [Nat.gcd_comm]; exact this
  have q' : d.natAbs ∣ n.natAbs * x.natAbs := by rw [← Int.natAbs_mul]; exact Int.natAbs_dvd_natAbs.mpr q
  exact Int.natAbs_dvd_natAbs.mp (h'.dvd_of_dvd_mul_left q')
theorem Fr.uniq {n d m e : Int} (h : Fr n d) (k : Fr m e) (q : n * e = m * d) : n = m ∧ d = e := by
  have h1 : d ∣ e := cop_dvd h.low ⟨m, by rw [q, Int.mul_comm]⟩
  have h2 : e ∣ d := cop_dvd k.low ⟨n, by rw [← q, Int.mul_comm]⟩
  have e1 : d = e := Int.dvd_antisymm (Int.le_of_lt h.pos) (Int.le_of_lt k.pos) h1 h2
  subst e1
  have := h.pos
  exact ⟨Int.eq_of_mul_eq_mul_right (by omega) q, rfl⟩
def rN (t b : Int) : Int := if b < 0 then t / (-(dv t b)) else t / dv t b
def rD (t b : Int) : Int := if b < 0 then b / (-(dv t b)) else b / dv t b
theorem rN_mul {t b : Int} : rN t b * (if b < 0 then -(dv t b) else dv t b) = t := by
  unfold rN
  split
  · exact Int.ediv_mul_cancel (Int.neg_dvd.mpr (dv_l t b))
  · exact Int.ediv_mul_cancel (dv_l t b)
theorem rD_mul {t b : Int} : rD t b * (if b < 0 then -(dv t b) else dv t b) = b := by
  unfold rD
  split
  · exact Int.ediv_mul_cancel (Int.neg_dvd.mpr (dv_r t b))
  · exact Int.ediv_mul_cancel (dv_r t b)
theorem rat_cross {t b : Int} (h : b ≠ 0) : rN t b * b = rD t b * t := by
  have e1 := rN_mul (t := t) (b := b)
  have e2 := rD_mul (t := t) (b := b)
  generalize (if b < 0 then -(dv t b) else dv t b) = c at e1 e2
  calc rN t b * b = rN t b * (rD t b * c) := by rw [e2]
    _ = rD t b * (rN t b * c) := by rw [← Int.mul_assoc, ← Int.mul_assoc, Int.mul_comm (rN t b)]
    _ = rD t b * t := by rw [e1]
theorem rat_fr {t b : Int} (h : b ≠ 0) : Fr (rN t b) (rD t b) := by
  have hp := dv_pos (a := t) h
  refine ⟨?_, ?_⟩
  · unfold rD
    by_cases hb : b < 0
    · rw [if_pos hb, Int.ediv_neg]
      obtain ⟨k, hk⟩ := dv_r t b
      have : b / dv t b = k := Int.ediv_eq_of_eq_mul_right (by omega) hk
      rw [this]
      rcases Int.lt_or_le k 0 with q | q
      · omega
      · have := Int.mul_nonneg (Int.le_of_lt hp) q; omega
    · rw [if_neg hb]
      obtain ⟨k, hk⟩ := dv_r t b
      have : b / dv t b = k := Int.ediv_eq_of_eq_mul_right (by omega) hk
      rw [this]
      rcases Int.lt_or_le 0 k with q | q
      · exact q
      · have := Int.mul_nonneg_of_nonpos_of_nonpos (a := -(dv t b)) (b := k) (by omega) q
        rw [Int.neg_mul] at this
        omega
  · have q := dv_quot (a := t) (b := b) (by omega)
    unfold rN rD
    by_cases hb : b < 0
    · rw [if_pos hb, if_pos hb, Int.ediv_neg, Int.ediv_neg, dv_negl, dv_negr]; exact q
    · rw [if_neg hb, if_neg hb]; exact q
def Sz (n : Nat) (x : Int) : Prop := x.natAbs < 2 ^ n
theorem Sz.mono {m n : Nat} {x : Int} (h : Sz m x) (hm : m ≤ n) : Sz n x := Nat.lt_of_lt_of_le h (Nat.pow_le_pow_right (by decide) hm)
theorem Sz.mul {m n : Nat} {x y : Int} (h : Sz m x) (k : Sz n y) : Sz (m + n) (x * y) := by
  unfold Sz at *
  rw [Int.natAbs_mul, Nat.pow_add]
  by_cases hy : y.natAbs = 0
  · rw [hy, Nat.mul_zero]; exact Nat.mul_pos (Nat.two_pow_pos m) (Nat.two_pow_pos n)
  · exact Nat.mul_lt_mul_of_lt_of_lt h k
theorem Sz.add {n : Nat} {x y : Int} (h : Sz n x) (k : Sz n y) : Sz (n + 1) (x + y) := by
  unfold Sz at *
  rw [Nat.pow_succ]; omega
theorem Sz.sub {n : Nat} {x y : Int} (h : Sz n x) (k : Sz n y) : Sz (n + 1) (x - y) := by
  unfold Sz at *
  rw [Nat.pow_succ]; omega
theorem Sz.neg {n : Nat} {x : Int} (h : Sz n x) : Sz n (-x) := by unfold Sz at *; omega
theorem Sz.le {n : Nat} {x y : Int} (h : Sz n y) (k : x.natAbs ≤ y.natAbs) : Sz n x := Nat.lt_of_le_of_lt k h
theorem Sz.zero (n : Nat) : Sz n 0 := Nat.two_pow_pos n
theorem Sz.dvd {n : Nat} {x y : Int} (h : Sz n y) (d : x ∣ y) (hy : y ≠ 0) : Sz n x := by
  refine h.le ?_
  exact Nat.le_of_dvd (by omega) (Int.natAbs_dvd_natAbs.mpr d)
end Sw
namespace Sw
theorem Sz.lit {x : Int} (h : x.natAbs < 1606938044258990275541962092341162602522202993782792835301376) : Sz 5000 x := by
  have e : (2 : Nat) ^ 200 = 1606938044258990275541962092341162602522202993782792835301376 := by decide
  exact Nat.lt_of_lt_of_le (by rw [e]; exact h) (Nat.pow_le_pow_right (by decide) (by decide : 200 ≤ 5000))
end Sw
namespace Sw
end Sw
namespace Sw
theorem Sz.r18 {x : Int} (h1 : -100000000000000000000 < x) (h2 : x < 100000000000000000000) : Sz 70 x := by
  have e : (2 : Nat) ^ 70 = 1180591620717411303424 := by decide
  unfold Sz; rw [e]; omega
theorem Sz.one (n : Nat) : Sz (n + 1) 1 := by
  unfold Sz
  exact Nat.lt_of_lt_of_le (by decide : Int.natAbs 1 < 2 ^ 1) (Nat.pow_le_pow_right (by decide) (by omega))
end Sw
namespace L2
open PySem PySem.Spec PyProof.Rows
theorem bits_of_sz {n : Nat} {x : Int} (h : Sw.Sz n x) : Builtin.Int.intBits x ≤ n := by
  unfold Builtin.Int.intBits
  split
  · exact Nat.zero_le _
  · rename_i hx
    have hx' : x ≠ 0 := by simpa using hx
    have : x.natAbs.log2 < n := (Nat.log2_lt (by omega)).mpr h
    omega
def CMulL (i j : Int) : Prop := Sw.Sz 5000 i ∧ Sw.Sz 5000 j
def CDivL (i j : Int) : Prop := 0 < j ∧ Sw.Sz 5000 j
def CDivS (i j : Int) : Prop := j ≠ 0 ∧ Sw.Sz 5000 j
theorem pylong_of {i j : Int} (h0 : j ≠ 0) (h : Sw.Sz 5000 j) : Builtin.divisionGoesByPylong i j = false := by
  refine PyProof.noPylong_of_log2 ?_
  have : j.natAbs.log2 < 5000 := (Nat.log2_lt (by omega)).mpr h
  omega
section
variable {X : Cx}
theorem op_mulL : OpR X (binaryOp .Mult) (rI CMulL fun i j => .int (i * j)) := opI fun _ _ _ _ _ _ _ hc q =>
  mul_int q (IntMulOk.of_bits (Nat.le_trans (bits_of_sz hc.1) (by decide)) (Nat.le_trans (bits_of_sz hc.2) (by decide)))
theorem op_fdivL : OpR X (binaryOp .FloorDiv) (rI CDivL fun i j => .int (i / j)) := opI fun i j _ _ _ _ _ hc q => by
  have h1 : (0 : Int) < j := hc.1
  exact floordiv_int (by omega) (by rw [Int.fdiv_eq_ediv_of_nonneg i (by omega)]; exact q) (.inl (pylong_of (by omega) hc.2))
theorem op_fdivS : OpR X (binaryOp .FloorDiv) (rI CDivS fun i j => .int (i.fdiv j)) := opI fun _ _ _ _ _ _ _ hc q => floordiv_int hc.1 q (.inl (pylong_of hc.1 hc.2))
def clsV : V → Option Value
  | .ty n => some (.type n)
  | .ref a => some (.ref a)
  | _ => none
theorem call_isinst : CallR X (.builtin "isinstance") (fun xs H Q => ∃ x c t cv b, xs = [x, c] ∧ clsV c = some cv ∧ TyOf X.K H x t ∧ PySem.W.kitOne X.K t cv = some b ∧ Q (.bl b) H) := by
  intro pins s σ H xs us Q I r h
  obtain ⟨x, c, t, cv, b, rfl, hc, ty, e, q⟩ := h
  obtain ⟨u, v, rfl, rx, rc⟩ := Vals.two r
  have ec : v = cv := by
    cases c with
    | ty n => cases (show v = Value.type n from rc); exact Option.some.inj hc
    | ref a => cases (show v = Value.ref a from rc); exact Option.some.inj hc
    | _ => cases hc
  subst ec
  exact isinst_ok I rx ty e fun tk => ⟨.bl b, H, I.tok _, rfl, q⟩
structure Def (P : Program) (w : World) (K : PySem.W.Frag) (mg : Str → Option Value) (base : Heap) (CX : CXT) (k : Nat) (x : Str) (ps : List Str) (sp : Sp) : Prop where
  ex : ∃ (f : Addr) (fd : FuncData), FnOk P w K mg base CX k f fd ps sp ∧ Binds K fd ps [] ∧ PySem.W.keepIn K (.ref f) = true ∧ mg x = some (.ref f)
structure Src (K : PySem.W.Frag) (mg : Str → Option Value) (x : Str) (st : Stmt) (ps : List Str) : Prop where
  ex : ∃ (f : Addr) (fd : FuncData), Fun K x x st f fd ∧ Binds K fd ps [] ∧ mg x = some (.ref f)
end
end L2
namespace L2
theorem while_det {c : TT} {tb : TS} {D : Ends} {σ : St} {H : Hp} (Pv : St → Hp → Prop) (μ : St → Hp → Nat) (h0 : Pv σ H)
    (hs : ∀ σ H, Pv σ H → ∃ b : Bool, (∀ Q : Bool → Hp → Prop, Q b H → c σ H Q) ∧ (b = true → tb { D with nx := fun σ' H' => Pv σ' H' ∧ μ σ' H' < μ σ H, ct := fun σ' H' => Pv σ' H' ∧ μ σ' H' < μ σ H, bk := D.nx } σ H) ∧ (b = false → D.nx σ H)) : tWhile c tb D σ H := by
  refine ⟨fun m σ H => m = μ σ H ∧ Pv σ H, ⟨_, rfl, h0⟩, ?_⟩
  rintro m σ H ⟨rfl, p⟩
  obtain ⟨b, hc, h1, h2⟩ := hs σ H p
  refine hc _ ?_
  cases b with
  | true => exact ⟨_, fun σ' H' ⟨p', l⟩ => ⟨_, l, rfl, p'⟩, h1 rfl⟩
  | false => exact h2 rfl
end L2
namespace L2
open PySem PySem.Spec PyProof.Rows
def spLaw (K : PySem.W.Frag) : Sp := fun vs H Q _ => ∃ (a : Addr) (ns : List Int), vs = [.ref a] ∧ SqL K H a (ns.map V.int) ∧ ns.length ≤ 63 ∧ ∀ H', Q (.bl true) H'
end L2
namespace L2
open PySem PySem.Spec PyProof.Rows
def spInt1 (g : Int → Int) : Sp := fun vs H Q _ => ∃ a, vs = [.int a] ∧ Q (.int (g a)) H
def spInt2 (g : Int → Int → Int) : Sp := fun vs H Q _ => ∃ a b, vs = [.int a, .int b] ∧ Q (.int (g a b)) H
def cellI (ns : List Int) (k : Int) : Int := (ns[k.toNat]?).getD 0
def spCell (K : PySem.W.Frag) : Sp := fun vs H Q _ => ∃ a ns k, vs = [.ref a, .int k] ∧ SqL K H a (ns.map V.int) ∧ 0 ≤ k ∧ Q (.int (cellI ns k)) H
theorem cellAt_get {ns : List Int} {k : Int} (h0 : 0 ≤ k) (h : k < ns.length) : atI (ns.map V.int) k = some (V.int (cellI ns k)) := by
  have e : ((k.toNat : Nat) : Int) = k := by omega
  have hl : k.toNat < ns.length := by omega
  have q : (ns.map V.int)[k.toNat]? = some (V.int (cellI ns k)) := by
    rw [List.getElem?_map]
    unfold cellI
    rw [List.getElem?_eq_getElem hl]
    rfl
  have := atI_nat q
  rw [e] at this
  exact this
theorem cellAt_none {ns : List Int} {k : Int} (h0 : 0 ≤ k) (h : ¬ k < ns.length) : cellI ns k = 0 := by
  unfold cellI
  rw [List.getElem?_eq_none (by omega)]
  rfl
def spWhole : Sp := fun vs H Q _ => ∃ n, vs = [.int n] ∧ Q (.bl true) H
theorem kit_int_int {K : PySem.W.Frag} : PySem.W.kitOne K (.type "int") (.type "int") = some true := by rfl
theorem kit_int_bool {K : PySem.W.Frag} : PySem.W.kitOne K (.type "int") (.type "bool") = some false := by first | rfl | decide
end L2
namespace L2
theorem seq_step {t u : TS} {D : Ends} {σ : St} {H : Hp} (h : ∀ R : St → Hp → Prop, (∀ σ H, u D σ H → R σ H) → t { D with nx := R } σ H) : tSeq t u D σ H := h (u D) fun _ _ x => x
end L2
namespace L2
open PySem PySem.Spec PyProof.Rows
theorem spCell_of {K : PySem.W.Frag} {H : Hp} {a : Addr} {ns : List Int} {k : Int} {Q : VK} {E : XK} (hS : SqL K H a (ns.map V.int)) (h0 : 0 ≤ k) (q : Q (.int (cellI ns k)) H) : spCell K [.ref a, .int k] H Q E := ⟨a, ns, k, rfl, hS, h0, q⟩
end L2
namespace L2
theorem cmulL_lit {a b : Int} (h1 : a.natAbs < 1606938044258990275541962092341162602522202993782792835301376) (h2 : b.natAbs < 1606938044258990275541962092341162602522202993782792835301376) : CMulL a b := ⟨Sw.Sz.lit h1, Sw.Sz.lit h2⟩
theorem cdivL_lit {a b : Int} (h0 : 0 < b) (h2 : b.natAbs < 1606938044258990275541962092341162602522202993782792835301376) : CDivL a b := ⟨h0, Sw.Sz.lit h2⟩
end L2
namespace L2
open PySem
theorem line_lit {n : Nat} (h : n ≤ 1000) : n ≤ sizeLine := Nat.le_trans h (by decide)
theorem line_lt {n : Nat} (h : n < 1000) : n < sizeLine := Nat.lt_of_lt_of_le h (by decide)
end L2
namespace L2
open PySem
theorem ixT_at {K : PySem.W.Frag} {H : Hp} {p : Addr} {xs : List V} {i : Int} {v : V} {Q : VK} (hT : SqT K H p xs) (h : atI xs i = some v) (q : Q v H) : rIxT K (.ref p) (.int i) H Q := ⟨p, xs, i, v, rfl, rfl, hT, h, q⟩
theorem ixL_at {K : PySem.W.Frag} {H : Hp} {p : Addr} {xs : List V} {i : Int} {v : V} {Q : VK} (hT : SqL K H p xs) (h : atI xs i = some v) (q : Q v H) : rIxL K (.ref p) (.int i) H Q := ⟨p, xs, i, v, rfl, rfl, hT, h, q⟩
end L2
namespace L2
open PySem PySem.Spec PyProof.Rows
end L2
namespace L2
end L2
namespace L2
end L2
namespace L2
open PySem PySem.Spec PyProof.Rows
mutual
inductive Deep (K : PySem.W.Frag) (H : Hp) : V → PyData → Prop
  | non : Deep K H .non .none
  | bl (b : Bool) : Deep K H (.bl b) (.bool b)
  | int (i : Int) : Deep K H (.int i) (.int i)
  | str (x : Str) : Deep K H (.str x) (.str x)
  | tup {a : Addr} {xs : List V} {ds : List PyData} : SqT K H a xs → DeepAll K H xs ds → Deep K H (.ref a) (.tuple ds)
  | lst {a : Addr} {xs : List V} {ds : List PyData} : SqL K H a xs → DeepAll K H xs ds → Deep K H (.ref a) (.list ds)
inductive DeepAll (K : PySem.W.Frag) (H : Hp) : List V → List PyData → Prop
  | nil : DeepAll K H [] []
  | cons {x : V} {d : PyData} {xs : List V} {ds : List PyData} : Deep K H x d → DeepAll K H xs ds → DeepAll K H (x :: xs) (d :: ds)
end
section
variable {X : Cx} {pins : List (Addr × Obj)} {σ : St} {H : Hp} {s : Shared}
mutual
theorem deep_reads (I : Inv X pins σ H s) : ∀ {x : V} {d : PyData} {u : Value}, Deep X.K H x d → RelV x u → ∃ as, Reads s.heap u d as
  | _, _, u, .non, r => by cases (show u = Value.none from r); exact ⟨_, .none⟩
  | _, _, u, .bl b, r => by cases (show u = Value.bool b from r); exact ⟨_, .bool b⟩
  | _, _, u, .int i, r => by obtain ⟨t, rfl⟩ := (show ∃ t, u = Value.int i t from r); exact ⟨_, .int i t⟩
  | _, _, u, .str x, r => by obtain ⟨t, rfl⟩ := (show ∃ t, u = Value.str x t from r); exact ⟨_, .str x t⟩
  | _, _, u, .tup (a := a) q h, r => by
    cases (show u = Value.ref a from r)
    obtain ⟨its, rv, ⟨o, e, c, n, d⟩, hz⟩ := I.tuple q
    obtain ⟨as, ra⟩ := deep_readsAll I h rv
    exact ⟨as, reads_tuple_at e c d (by simpa using ra)⟩
  | _, _, u, .lst (a := a) q h, r => by
    cases (show u = Value.ref a from r)
    obtain ⟨its, rv, ⟨o, n, e, c, _, d⟩, hz⟩ := I.list q
    obtain ⟨as, ra⟩ := deep_readsAll I h rv
    exact ⟨_, reads_list_at e c d (by simpa using ra)⟩
theorem deep_readsAll (I : Inv X pins σ H s) : ∀ {xs : List V} {ds : List PyData} {us : List Value}, DeepAll X.K H xs ds → Vals xs us → ∃ as, ReadsAll s.heap us ds as
  | _, _, _, .nil, .nil => ⟨_, .nil⟩
  | _, _, _, .cons d h, .cons r t => by
    obtain ⟨as, q⟩ := deep_reads I d r
    obtain ⟨bs, p⟩ := deep_readsAll I h t
    exact ⟨_, .cons q p⟩
end
end
section
variable {X : Cx}
def rNeD (K : PySem.W.Frag) : R2 := fun x y H Q => ∃ d e, Deep K H x d ∧ Deep K H y e ∧ PySem.SeqAt.shaped d = true ∧ PySem.SeqAt.shaped e = true ∧ Q (.bl (!PyData.eqv d e)) H
theorem op_neD (hu : X.A.units + 64 < cLine) : OpR X (compareOp .NotEq) (rNeD X.K) := by
  intro pins s σ H x y v u Q I rx ry h
  obtain ⟨d, e, hd, he, sd, se, q⟩ := h
  obtain ⟨as, ra⟩ := deep_reads I hd rx
  obtain ⟨bs, rb⟩ := deep_reads I he ry
  exact ne_dataH ra rb sd se hu ⟨.bl _, H, I, rfl, q⟩
end
theorem same_new {H : Hp} {a : Addr} {o : HO} (h : H a = none) : Same H (upd H a o) := fun b u e => by rw [upd_ne (ne_of_none e h)]; exact e
end L2
namespace L2
open PySem PySem.Spec PyProof.Rows
def Ite (K : PySem.W.Frag) (a : Addr) : It :=
  ⟨fun i H => ∃ xs x, SqL K H a xs ∧ xs[i]? = some x,
   fun i H y H' => ∃ p x, y = .ref p ∧ H p = none ∧ (∀ xs, SqL K H a xs → xs[i]? = some x) ∧ H' = upd H p (.tup [.int i, x]),
   fun i H => ∃ xs, SqL K H a xs ∧ xs.length ≤ i⟩
theorem turn_enum {P : Program} {w : World} {K : PySem.W.Frag} {elts : List Expr} {x1} {pos : Pos} (a e it : Addr) (hei : e ≠ it) :
    Turn P w K (.Tuple elts x1 pos) (Ite K a) [e, it] e (fun i h => (∃ old, IsEnum h e it ((i : Nat) : Int) old) ∧ h.IsListIter it a i) where
  mem := by simp
  obj := fun i h st b hb => by
    obtain ⟨⟨old, he⟩, hit⟩ := st
    rcases List.mem_cons.mp hb with rfl | hb
    · exact ⟨_, he, fun v z => by cases z⟩
    · have e : b = it := by simpa using hb
      subst e
      obtain ⟨o, e, c, d⟩ := hit
      exact ⟨o, e, fun v z => by rw [d] at z; cases z⟩
  keep := fun i h h' st k => by
    obtain ⟨⟨old, he⟩, hit⟩ := st
    exact ⟨⟨old, k e (by simp) _ he⟩, hit.at fun o q => k it (by simp) o q⟩
  item := by
    intro X hP hw hK hc i pins s σ H E I hf st hg
    subst hP hw hK
    obtain ⟨⟨old, he⟩, hit⟩ := st
    obtain ⟨xs, x, hq, hx⟩ := hg
    obtain ⟨its, rv, p, hz⟩ := I.list hq
    obtain ⟨u, hu, ru⟩ := rv.get hx
    obtain ⟨f0, f1, f2, f3, f4, f5⟩ := hf e (by simp)
    obtain ⟨g0, g1, g2, g3, g4, g5⟩ := hf it (by simp)
    have hes : e < s.heap.objs.size := Heap.lt_size he
    have his : it < s.heap.objs.size := by obtain ⟨o, q, _⟩ := id hit; exact Heap.lt_size q
    refine wpAny_pyNext_enum_item he hit p.isList (x := u) (by simpa using hu) hei fun h1 heo hit1 ht1 hz1 hk1 => ?_
    refine ⟨.ref s.heap.objs.size, rfl, wpAny_letOwnedTupleGo_enum heo fun h2 he2 hs2 => ?_⟩
    have hs2' : Heap.SameBut e h1 h2 := hs2
    have hit2 : h2.IsListIter it a (i + 1) := hit1.at fun o q => (hs2'.2 it (Ne.symm hei)).trans q
    have fresh : H s.heap.objs.size = none := I.hok.fresh (Nat.le_refl _)
    have htup : h2.get? s.heap.objs.size = some { cls := .type "tuple", data := .seq #[.int i s.toks, u] } := (hs2'.2 _ (Nat.ne_of_gt hes)).trans ht1
    have nit : ∀ b v, H b = some v → b ≠ e ∧ b ≠ it := fun b v q => ⟨fun z => (by rw [z, f0] at q; cases q), fun z => (by rw [z, g0] at q; cases q)⟩
    have k2 : ∀ b o, b ≠ e → b ≠ it → s.heap.get? b = some o → h2.get? b = some o := fun b o n1 n2 q => (hs2'.2 b n1).trans (hk1 b o n1 n2 q)
    have up : ∀ b o, H b = some o → (upd H s.heap.objs.size (.tup [.int i, x])) b = some o := fun b o q => by rw [upd_ne (ne_of_none q fresh)]; exact q
    have I2 : Inv X pins σ (upd H s.heap.objs.size (.tup [.int i, x])) { s with heap := h2, toks := s.toks + 1 } := by
      refine I.step (g' := s.gens) (d' := s.drawn) (ch := [e, it]) (fun b hb => ?_) (fun b o _ _ hc q _ => k2 b o (fun z => hc (by simp [z])) (fun z => hc (by simp [z])) q)
        (fun b o _ _ hc q _ => ⟨o.slots, k2 b o (fun z => hc (by simp [z])) (fun z => hc (by simp [z])) q⟩) (fun b o _ q n => by rw [upd_ne (Nat.ne_of_lt (Heap.lt_size q))]; exact n)
        (fun b o hc q => ?_) (fun b ys q => up b _ q) (fun b ob v q => up b _ q) (fun b ps q => ⟨#[], by rw [up b _ q]; simp⟩) (fun m hm => ?_) (fun b v q => ?_) I.bare
      · rcases List.mem_cons.mp hb with rfl | hb
        · exact ⟨f3, f1, f4, f5⟩
        · have z : b = it := by simpa using hb
          subst z
          exact ⟨g3, g1, g4, g5⟩
      · exact ⟨o, k2 b o (fun z => hc (by simp [z])) (fun z => hc (by simp [z])) q⟩
      · obtain ⟨o, es, ep, ho, r⟩ := hm
        exact ⟨o, es, ep, k2 _ o (Ne.symm f1) (Ne.symm g1) ho, r⟩
      · by_cases hb : b = s.heap.objs.size
        · subst hb
          rw [upd_same] at q
          cases q
          exact ⟨by show 2 ≤ sizeLine; decide, [.int i s.toks, u], .cons ⟨_, rfl⟩ (.cons ru .nil), _, htup, rfl, _, rfl⟩
        · rw [upd_ne hb] at q
          refine (I.hok b v q).stay (fun c v' hc q' => ?_) (fun c z => up c _ z) fun c ys z => up c _ z
          have hcn : c ≠ e ∧ c ≠ it := by
            rcases hc with z | z
            · rw [z]; exact nit b v q
            · exact nit c _ z
          exact k2 c v' hcn.1 hcn.2 q'
    refine ⟨.ref s.heap.objs.size, _, I2, rfl, ⟨s.heap.objs.size, x, rfl, fresh, fun ys hy => by rw [I.list_inj hy hq]; exact hx, rfl⟩, ⟨⟨u, by simpa using he2⟩, hit2⟩, fun b hb => ?_⟩
    rw [upd_ne]
    · exact (hf b hb).1
    · intro z
      rcases List.mem_cons.mp hb with y | y
      · rw [y] at z; exact absurd z (Nat.ne_of_lt hes)
      · have y : b = it := by simpa using y
        rw [y] at z; exact absurd z (Nat.ne_of_lt his)
  done := by
    intro X hP hw hK hc i pins s σ H E I hf st hg
    subst hP hw hK
    obtain ⟨⟨old, he⟩, hit⟩ := st
    obtain ⟨xs, hq, hx⟩ := hg
    obtain ⟨its, rv, p, hz⟩ := I.list hq
    obtain ⟨g0, g1, g2, g3, g4, g5⟩ := hf it (by simp)
    have hl := rv.length
    exact wpAny_pyNext_enum_end (I.ok.hd hc) he hit p.isList (by simp; omega) fun h' eb => ⟨rfl, I.turned (t' := s.toks) (fun b o hb q => eb b o hb q) g0 g1 g3 g4 g5⟩
  self := fun _ _ _ _ _ st h => by
    obtain ⟨⟨old, he⟩, _⟩ := st
    exact wpAny_pyIter_enum he h
section
variable {X : Cx}
def iEnum (K : PySem.W.Frag) (ta : TA) : TI := fun σ H R => ta σ H fun vs H1 => ∃ a, vs = [.ref a] ∧ (∃ xs, SqL K H1 a xs) ∧ R (Ite K a) H1
theorem pi_enum {l : Expr} {ta : TA} {p pos tpos : Pos} {elts : List Expr} {x1} (hg : Gl X "enumerate") (hm : X.mg "enumerate" = none) (ha : PA X [l] ta) (hs : starEach [l] X.env = [(false, eval l X.env)] := by rfl) :
    PI X (.Tuple elts x1 tpos) (.Call (.Name "enumerate" p) [l] [] pos) (iEnum X.K ta) := by
  intro pins s σ H R I h
  refine Call_ (ld_blt I hg hm boot_enumerate (PyProof.Rows.callWith_type1 (thn (ha pos pins s σ H _ I h) fun us s1 ⟨vs, H1, I1, r1, q1⟩ => ?_) hs rfl))
  obtain ⟨a, rfl, ⟨xs, hq⟩, q⟩ := q1
  obtain ⟨u, rfl, r⟩ := Vals.one r1
  cases r
  obtain ⟨its, rv, p, hz⟩ := I1.list hq
  refine call_enumerate_list p.isList fun h' he hit hsz hk => ?_
  refine wpAny_pyIter_enum he ?_
  refine ⟨s1.heap.objs.size + 1, [s1.heap.objs.size + 1, s1.heap.objs.size], _, _, H1, rfl, I1.kept (t' := s1.toks) hk, turn_enum a _ _ (Nat.succ_ne_self _), ⟨⟨_, he⟩, hit⟩, fun b hb => ?_, q⟩
  rcases List.mem_cons.mp hb with e | e
  · subst e; exact I1.fpOk (Nat.le_succ _) (I1.hok.fresh (Nat.le_succ _))
  · have e : b = s1.heap.objs.size := by simpa using e
    subst e
    exact I1.fpOk (Nat.le_refl _) (I1.hok.fresh (Nat.le_refl _))
end
theorem for_enum {K : PySem.W.Frag} {a : Addr} {xs : List V} {g : TG} {tb : TS} {D : Ends} {σ : St} {H : Hp} (Pv : Nat → St → Hp → Prop) (h0 : Pv 0 σ H) (hl : ∀ i σ H, i ≤ xs.length → Pv i σ H → SqL K H a xs)
    (hs : ∀ i x σ H p, xs[i]? = some x → Pv i σ H → H p = none → g (.ref p) σ (upd H p (.tup [.int i, x])) fun σ2 H2 => tb { D with nx := Pv (i + 1), ct := Pv (i + 1), bk := D.nx } σ2 H2) (hd : ∀ σ H, Pv xs.length σ H → D.nx σ H) :
    ∃ W : Nat → Nat → St → Hp → Prop, (∃ m, W 0 m σ H) ∧ ∀ i m σ H, W i m σ H →
      ((Ite K a).stop i H ∧ D.nx σ H) ∨ ((Ite K a).go i H ∧ ∃ N : St → Hp → Prop, (∀ σ' H', N σ' H' → ∃ m', m' < m ∧ W (i + 1) m' σ' H') ∧ ∀ x H', (Ite K a).yld i H x H' → g x σ H' fun σ2 H2 => tb { D with nx := N, ct := N, bk := D.nx } σ2 H2) := by
  refine ⟨fun i m σ H => m = xs.length - i ∧ i ≤ xs.length ∧ Pv i σ H, ⟨xs.length, by simp, Nat.zero_le _, h0⟩, ?_⟩
  rintro i m σ H ⟨rfl, hi, p⟩
  have q := hl i σ H hi p
  by_cases hlt : i < xs.length
  · refine .inr ⟨⟨xs, xs[i], q, by simp [hlt]⟩, Pv (i + 1), fun σ' H' p' => ⟨xs.length - (i + 1), by omega, rfl, hlt, p'⟩, fun y H' z => ?_⟩
    obtain ⟨b, x, rfl, hb, hx, rfl⟩ := z
    exact hs i x σ H b (hx xs q) p hb
  · have e : i = xs.length := by omega
    subst e
    exact .inl ⟨⟨xs, q, Nat.le_refl _⟩, hd σ H p⟩
section
variable {prog : Program} {w : World} {A : Around} {R : Result → Shared → Prop} {s : Shared}
theorem codeAny_compLoop_go {elt target iter : Expr} {ifs : List Expr} {scope : Scope} {pos : Pos} {it acc : Value} {env : Env} (I : Nat → Shared → Prop)
    (turn : ∀ n s, I n s → wpAny (model prog w) A (pyNext it) (fun r s₁ => match r with
      | none => R (.ok .next) s₁
      | some v => wpAny (model prog w) A (letOwnedTupleGo target it v) (fun _ s₁' => wpAny (model prog w) A (assign target env v) (fun _ s₂ =>
          wpAny (model prog w) A (forIn ifs true fun c r => if r = true then do let ok ← isTrue c env (eval c env); pure (ForInStep.yield ok) else pure (ForInStep.yield r)) (fun ok s₃ =>
            if ok = true then wpAny (model prog w) A (eval elt env) (fun x s₄ =>
              wpAny (model prog w) A (call (.builtin "list.append") [acc, x]) (fun _ s₅ => ∃ m, m < n ∧ I m s₅) (notedBy (model prog w) A env fun e s' => R (.error e) s') s₄) (notedBy (model prog w) A env fun e s' => R (.error e) s') s₃
            else ∃ m, m < n ∧ I m s₃) (notedBy (model prog w) A env fun e s' => R (.error e) s') s₂) (notedBy (model prog w) A env fun e s' => R (.error e) s') s₁') (notedBy (model prog w) A env fun e s' => R (.error e) s') s₁) (notedBy (model prog w) A env fun e s' => R (.error e) s') s)
    (n : Nat) (h : I n s) :
    codeAny (model prog w) A (.compLoop (.ListComp elt [⟨target, iter, ifs, 0⟩] scope pos) 0 it acc env) R s := by
  refine codeAny_loop rfl I (fun n s hI => ?_) n h
  show wpAny _ A ((compTurn (.ListComp elt [⟨target, iter, ifs, 0⟩] scope pos) 0 it acc env).onRaise (fun x => do noteFrame x env; theTreesLotGoes x)) _ _ s
  refine wpAny_noted ?_
  rw [compTurn_list]
  refine wpAny_bind (wpAny_standAt (wpAny_bind (wpAny_mono (turn n s hI) (fun r s₁ h₁ => ?_) fun _ _ h' => h')))
  cases r with
  | none => exact wpAny_pure h₁
  | some v =>
    refine wpAny_bind (wpAny_mono h₁ (fun _ s₁' h₁' => ?_) fun _ _ h' => h')
    refine wpAny_bind (wpAny_mono h₁' (fun _ s₂ h₂ => wpAny_bind (wpAny_mono h₂ (fun ok s₃ h₃ => ?_) fun _ _ h' => h')) fun _ _ h' => h')
    cases ok with
    | false => exact wpAny_pure ⟨rfl, h₃⟩
    | true =>
      exact wpAny_bind (wpAny_bind (wpAny_mono h₃ (fun x s₄ h₄ => wpAny_bind (wpAny_mono h₄ (fun _ s₅ h₅ => wpAny_pure (wpAny_pure ⟨rfl, h₅⟩)) fun _ _ h' => h')) fun _ _ h' => h'))
end
def cxComp (X : Cx) (scope : Scope) (cl : List (Str × Addr)) (N : List Str) (fp : List Addr) (s : Shared) (H : Hp) : Cx :=
  { X with N := N, s₀ := s, H₀ := H, env := compEnvC scope cl s.heap.objs.size X.env, outer := X.stack, stack := X.stack, ex := fp, fn := fun _ => false, pn := [], xe := fun _ _ => False }
def FrOk (X : Cx) (sc : Scope) : List (Str × Nat) → Prop
  | [] => True
  | p :: r => (X.N[p.2]? = some p.1 ∧ sc.names.lookup p.1 = some .cell ∧ X.env.kindOf p.1 = some .cell) ∧ FrOk X sc r
theorem FrOk.mem {X : Cx} {sc : Scope} : ∀ {l : List (Str × Nat)}, FrOk X sc l → ∀ p ∈ l, X.N[p.2]? = some p.1 ∧ sc.names.lookup p.1 = some .cell ∧ X.env.kindOf p.1 = some .cell
  | [], _, p, hp => nomatch hp
  | q :: r, h, p, hp => by
    rcases List.mem_cons.mp hp with e | hp
    · rw [e]; exact h.1
    · exact FrOk.mem h.2 p hp
def PIfs (X : Cx) (ifs : List Expr) (t : TT) : Prop :=
  ∀ (pins : List (Addr × Obj)) (s : Shared) (σ : St) (H : Hp) (Q : Bool → Hp → Prop), Inv X pins σ H s → t σ H Q →
    wpAny (model X.prog X.w) X.A (forIn ifs true fun c r => if r = true then do let ok ← isTrue c X.env (eval c X.env); pure (ForInStep.yield ok) else pure (ForInStep.yield r)) (TP X pins σ Q) X.xe s
def tYes : TT := fun _ H Q => Q true H
theorem pifs_nil {X : Cx} : PIfs X [] tYes := fun _ _ _ H _ I h => wpAny_tests_nil ⟨H, I, h⟩
theorem pifs_one {X : Cx} {c : Expr} {t : TT} (hc : PT X c t) : PIfs X [c] t := fun pins s σ H Q I h => wpAny_tests_one (hc pins s σ H Q I h)
def tComp (nt : Nat) (fr : List (Str × Nat)) (wi : TI) (g : TG) (tc : TT) (te : TE) : TE := fun σ H Q => wi σ H fun J H1 => ∀ D, H1 D = none → ∃ W : Nat → Nat → St → Hp → Prop,
  (∃ m, W 0 m (List.replicate nt none ++ fr.map fun p => (σ[p.2]?).join) (upd H1 D (.lst []))) ∧ ∀ i m τ H', W i m τ H' →
    (J.stop i H' ∧ Q (.ref D) H') ∨ (J.go i H' ∧ ∃ N : St → Hp → Prop, (∀ τ' H'', N τ' H'' → ∃ m', m' < m ∧ W (i + 1) m' τ' H'') ∧
      ∀ x H2, J.yld i H' x H2 → g x τ H2 fun τ2 H3 => tc τ2 H3 fun b H4 => if b = true then te τ2 H4 fun y H5 => ∃ ys, H5 D = some (.lst ys) ∧ ys.length < sizeLine ∧ N τ2 (upd H5 D (.lst (ys ++ [y]))) else N τ2 H4)
section
variable {X : Cx}
theorem cx_start {scope : Scope} {cl : List (Str × Addr)} {ts : List Str} {fr : List (Str × Nat)} {fp : List Addr} {pins : List (Addr × Obj)} {σ : St} {H : Hp} {s : Shared} {h' : Heap} {m : Str → Option Value} {t' : Nat} (I : Inv X pins σ H s)
    (hkind : scope.kind = .function) (hcl : ∀ x c, cl.lookup x = some c → X.env.cells.lookup x = some c)
    (hhas : ∀ x, ((relabel scope X.env).names.lookup x = some .cell ∨ (relabel scope X.env).names.lookup x = some .free) → ∃ c, cl.lookup x = some c) (hfr : FrOk X (relabel scope X.env) fr)
    (hfp : ∀ b ∈ fp, FpOk X pins H b ∧ b < s.heap.objs.size) (hn : h'.Ns s.heap.objs.size m) (hk : ∀ b o, s.heap.get? b = some o → h'.get? b = some o) :
    Inv (cxComp X scope cl (ts ++ fr.map (·.1)) fp s H) [] (List.replicate ts.length none ++ fr.map fun p => (σ[p.2]?).join) H { s with heap := h', toks := t' } := by
  have cellK : ∀ c v, s.heap.IsCell c v → h'.IsCell c v := fun c v ⟨o, ho, hd⟩ => ⟨o, hk c o ho, hd⟩
  refine ⟨⟨I.ok.mod, hkind, I.ok.glob, I.ok.blt, Nat.le_refl _, fun x y c h1 h2 => I.ok.inj x y c (hcl x c h1) (hcl y c h2), hhas, fun x c h => (by cases h), I.ok.hd, I.ok.frames, .inl rfl, fun b hb => ?_, I.bs, Nat.le_trans I.ok.bsz I.sz, fun b o e hb => ?_, fun b hb z => ?_, I.stack, I.stkFree⟩,
    rfl, I.bare, Un.kept hk, ⟨m, hn, fun i x v e1 e2 e3 => ?_⟩, fun x c e => ?_, I.hok.fresh (Nat.le_refl _), fun x c e => I.freeC x c (hcl x c e), fun p hp => absurd (show p ∈ ([] : List (Addr × Obj)) from hp) (by simp), I.hok.kept hk, ?_⟩
  · obtain ⟨f, lt⟩ := hfp b hb
    exact ⟨Nat.ne_of_lt lt, fun x c e => f.2.2.2.2.1 x c (hcl x c e)⟩
  · obtain ⟨f, lt⟩ := hfp b hb
    rcases f.2.2.2.1 with z | z
    · exact I.ok.noex b o e z
    · exact absurd (Nat.lt_of_lt_of_le (Heap.lt_size e) (Nat.le_trans I.ok.bsz z)) (Nat.lt_irrefl _)
  · obtain ⟨f, lt⟩ := hfp b hb
    rcases List.mem_cons.mp (I.stkSub b z) with y | y
    · exact f.2.1 y
    · exact f.2.2.1 y
  · have hlen : (List.replicate ts.length (none : Option V)).length = ts.length := by simp
    by_cases hi : i < ts.length
    · rw [List.getElem?_append_left (by rw [hlen]; exact hi), List.getElem?_replicate, if_pos hi] at e2
      cases e2
    · rw [List.getElem?_append_right (by rw [hlen]; omega), hlen, List.getElem?_map] at e2
      have e1' : (ts ++ fr.map (·.1))[i]? = some x := e1
      rw [List.getElem?_append_right (by omega), List.getElem?_map] at e1'
      cases ep : fr[i - ts.length]? with
      | none => rw [ep] at e2; cases e2
      | some p =>
        rw [ep] at e1' e2
        have ex : p.1 = x := Option.some.inj e1'
        have ev : (σ[p.2]?).join = some v := Option.some.inj e2
        obtain ⟨a1, a2, a3⟩ := hfr.mem p (List.mem_of_getElem? ep)
        have ev' : σ[p.2]? = some (some v) := by
          cases q : σ[p.2]? with
          | none => rw [q] at ev; cases ev
          | some o => rw [q] at ev; cases o with
            | none => cases ev
            | some v' => cases ev; rfl
        obtain ⟨m', hn', hl'⟩ := I.loc
        obtain ⟨u, ru, lk⟩ := hl' p.2 p.1 v a1 ev' (.inr (.inl a3))
        subst ex
        refine ⟨u, ru, ?_⟩
        rcases lk with ⟨z, _⟩ | ⟨_, c, ec, z⟩
        · rw [z] at a3; cases a3
        · obtain ⟨c', ec'⟩ := hhas p.1 (.inl a2)
          have ecc : c' = c := Option.some.inj ((hcl _ _ ec').symm.trans ec)
          exact .inr ⟨.inl a2, c', ec', (by rw [ecc]; exact cellK _ _ z)⟩
  · obtain ⟨v, z⟩ := I.cell x c (hcl x c e)
    exact ⟨v, cellK _ _ z⟩
  · show _ = (ts ++ fr.map (·.1)).length
    simp
theorem pe_comp {elt target iter : Expr} {ifs : List Expr} {scope : Scope} {pos : Pos} {cl : List (Str × Addr)} {ts : List Str} {fr : List (Str × Nat)} {wi : TI} {g : TG} {tc : TT} {te : TE} (hcalm : X.calm = true)
    (hclos : closureFor scope X.env = pure cl) (hcell : ∀ y ∈ scope.names, y.2 ≠ .cell) (hkind : scope.kind = .function) (hnames : ∀ y ∈ scope.names, y.2 = .local → scope.names.lookup y.1 = some .local)
    (hcl : ∀ x c, cl.lookup x = some c → X.env.cells.lookup x = some c)
    (hhas : ∀ x, ((relabel scope X.env).names.lookup x = some .cell ∨ (relabel scope X.env).names.lookup x = some .free) → ∃ c, cl.lookup x = some c) (hfr : FrOk X (relabel scope X.env) fr)
    (hi : PI X target iter wi) (hg : ∀ fp s H, PG (cxComp X scope cl (ts ++ fr.map (·.1)) fp s H) target g) (hc : ∀ fp s H, PIfs (cxComp X scope cl (ts ++ fr.map (·.1)) fp s H) ifs tc)
    (he : ∀ fp s H, PE (cxComp X scope cl (ts ++ fr.map (·.1)) fp s H) elt te) (hs : ∀ x, foldedSetIterable iter X.env x = pure x := by intro _; rfl) :
    PE X (.ListComp elt [⟨target, iter, ifs, 0⟩] scope pos) (tComp ts.length fr wi g tc te) := by
  intro pins s σ H Q I h
  rw [eval_ListComp]
  refine wpAny_comprehension_free (use := none) rfl hs hclos hkind hnames (thn (hi pins s σ H _ I h) fun xv s1 h1 => thn h1 fun itv s2 h2 => ?_)
  obtain ⟨it, fp, tn, J, H2, rfl, I2, T, st2, f2, hR⟩ := h2
  have D0 : H2 s2.heap.objs.size = none := I2.hok.fresh (Nat.le_refl _)
  obtain ⟨W, ⟨m0, w0⟩, turn⟩ := hR s2.heap.objs.size D0
  refine wpAny_newObj_type (wpAny_newFunctionEnv hcell (by intro y hy; simp at hy) (fun h₁ hns₁ hsb₁ => ?_) hkind)
  dsimp only at hns₁ hsb₁ ⊢
  have I3 : Inv X pins σ (upd H2 s2.heap.objs.size (.lst [])) { s2 with heap := s2.heap.push { cls := .type "list", dict := none, data := .seq ([] : List Value).toArray } } :=
    I2.laid (t' := s2.toks) (fun _ _ q => Heap.get?_push_of_some _ q) (Nat.le_refl _) ⟨Nat.zero_le _, [], 0, .nil, Heap.get?_push_size _ rfl⟩
  have kp3 : ∀ b o, s2.heap.get? b = some o → (s2.heap.push { cls := .type "list", dict := none, data := .seq ([] : List Value).toArray }).get? b = some o := fun b o q => Heap.get?_push_of_some _ q
  have sz3 : (s2.heap.push { cls := .type "list", dict := none, data := .seq ([] : List Value).toArray }).objs.size = s2.heap.objs.size + 1 := Heap.size_push ..
  generalize s2.heap.push { cls := .type "list", dict := none, data := .seq ([] : List Value).toArray } = hp3 at hns₁ hsb₁ I3 kp3 sz3 ⊢
  have kp : ∀ b o, hp3.get? b = some o → h₁.get? b = some o := fun b o e => hsb₁.extBut b o (Nat.ne_of_lt (Heap.lt_size e)) (Heap.get?_push_of_some _ e)
  have flt : ∀ b ∈ fp, b < s2.heap.objs.size := fun b hb => by
    obtain ⟨o, e, _⟩ := T.obj _ _ st2 b hb
    exact Heap.lt_size e
  have fr3 : ∀ b ∈ fp, (upd H2 s2.heap.objs.size (.lst [])) b = none := fun b hb => by rw [upd_ne (Nat.ne_of_lt (flt b hb))]; exact (f2 b hb).1
  have f3 : ∀ b ∈ fp, FpOk X pins (upd H2 s2.heap.objs.size (.lst [])) b ∧ b < hp3.objs.size := fun b hb => ⟨⟨fr3 b hb, (f2 b hb).2⟩, by rw [sz3]; exact Nat.lt_succ_of_lt (flt b hb)⟩
  have I4 := cx_start (ts := ts) (t' := s2.toks + ([] : List (Str × Value)).length) I3 hkind hcl hhas hfr f3 hns₁ kp
  have st4 : tn 0 h₁ := T.keep _ _ _ st2 fun b hb o e => kp b o (kp3 b o e)
  have loop : codeAny (model X.prog X.w) X.A (.compLoop (.ListComp elt [⟨target, iter, ifs, 0⟩] scope pos) 0 (.ref it) (.ref s2.heap.objs.size) (compEnvC scope cl hp3.objs.size X.env))
      (compPost (model X.prog X.w) X.A X.xe none (EP X pins σ Q) (.ref s2.heap.objs.size) hp3.objs.size) { s2 with heap := h₁, toks := s2.toks + ([] : List (Str × Value)).length } := by
    refine codeAny_compLoop_go (fun n s' => ∃ i τ H', Inv (cxComp X scope cl (ts ++ fr.map (·.1)) fp { s2 with heap := hp3 } (upd H2 s2.heap.objs.size (.lst []))) [] τ H' s' ∧ tn i s'.heap ∧ (∀ b ∈ fp, H' b = none) ∧ W i n τ H') ?_ m0 ⟨0, _, _, I4, st4, fr3, w0⟩
    rintro n s5 ⟨i, τ, H5, I5, st5, fr5, w5⟩
    have stat : ∀ {H' : Hp}, (∀ b ∈ fp, H' b = none) → ∀ b ∈ fp, FpOk (cxComp X scope cl (ts ++ fr.map (·.1)) fp { s2 with heap := hp3 } (upd H2 s2.heap.objs.size (.lst []))) [] H' b :=
      fun hn b hb => ⟨hn b hb, (I5.ok.exf b hb).1, I5.ok.exfs b hb, .inl hb, (I5.ok.exf b hb).2, fun p hp => absurd (show p ∈ ([] : List (Addr × Obj)) from hp) (by simp)⟩
    rcases turn i n τ H5 w5 with ⟨stop, qn⟩ | ⟨go, Nn, hN, step⟩
    · refine thn (T.done (cxComp X scope cl (ts ++ fr.map (·.1)) fp { s2 with heap := hp3 } (upd H2 s2.heap.objs.size (.lst []))) rfl rfl rfl hcalm i [] s5 τ H5 _ I5 (stat fr5) st5 stop) fun r s6 ⟨hr, I6⟩ => ?_
      subst hr
      obtain ⟨m, hn, _⟩ := I6.loc
      refine ⟨m, hn, fun h' hs' => ⟨.ref s2.heap.objs.size, H5, ?_, rfl, qn⟩⟩
      have neC : ∀ b o, hp3.get? b = some o → b ≠ hp3.objs.size := fun b o e => Nat.ne_of_lt (Heap.lt_size e)
      have hs'' : Heap.SameBut hp3.objs.size s6.heap h' := hs'
      refine I3.call' (s' := { s6 with heap := h' }) (ch := fp) I6.os ⟨fun b o e n hb hx => ?_, fun b o e n hb hx => ?_, I6.base.free, fun b o e hx => ?_, I6.base.tups, I6.base.frzs, I6.base.tbls⟩ (fun b ob e => ?_) I6.bare (fun b hb => ?_)
      · exact (hs''.2 b (neC b o e)).trans (I6.base.keep b o e n hb hx)
      · obtain ⟨sl, q⟩ := I6.base.slot b o e n hb hx
        exact ⟨sl, (hs''.2 b (neC b o e)).trans q⟩
      · obtain ⟨o', q⟩ := I6.base.there b o e hx
        exact ⟨o', (hs''.2 b (neC b o e)).trans q⟩
      · refine (I6.hok b ob e).stay (fun c v hc q => (hs''.2 c ?_).trans q) (fun _ q => q) fun _ _ q => q
        intro z
        have fz : H5 hp3.objs.size = none := I6.free
        rcases hc with y | y
        · rw [← y, z, fz] at e; cases e
        · rw [z, fz] at y; cases y
      · exact ⟨(f2 b hb).2.2.2.1, (f2 b hb).2.1, (f2 b hb).2.2.2.2.1, (f2 b hb).2.2.2.2.2⟩
    · refine thn (T.item (cxComp X scope cl (ts ++ fr.map (·.1)) fp { s2 with heap := hp3 } (upd H2 s2.heap.objs.size (.lst []))) rfl rfl rfl hcalm i [] s5 τ H5 _ I5 (stat fr5) st5 go) fun r s6 ⟨u, hr, h6⟩ => ?_
      subst hr
      refine thn h6 fun _ s7 ⟨x, H7, I7, r7, y7, st7, fr7⟩ => ?_
      have I7' := I7.pinned (stat fr7) (T.obj _ _ st7)
      refine wpAny_mono (hg fp _ _ _ s7 τ H7 x u _ I7' r7 (step x H7 y7)) (fun _ s8 ⟨τ8, H8, I8, q8⟩ => ?_) fun _ _ z => False.elim z
      have again : ∀ {τ9 : St} {H9 : Hp} {s9 : Shared}, Inv (cxComp X scope cl (ts ++ fr.map (·.1)) fp { s2 with heap := hp3 } (upd H2 s2.heap.objs.size (.lst []))) ([] ++ pinsAt fp s7.heap) τ9 H9 s9 → Nn τ9 H9 →
          ∃ m, m < n ∧ ∃ i τ H', Inv (cxComp X scope cl (ts ++ fr.map (·.1)) fp { s2 with heap := hp3 } (upd H2 s2.heap.objs.size (.lst []))) [] τ H' s9 ∧ tn i s9.heap ∧ (∀ b ∈ fp, H' b = none) ∧ W i m τ H' := fun {τ9 H9 s9} I9 n9 => by
        obtain ⟨m', hm, w9⟩ := hN τ9 H9 n9
        refine ⟨m', hm, i + 1, τ9, H9, I9.unpinned, T.keep _ _ _ st7 fun b hb o e => (I9.pin (b, o) (List.mem_append_right _ (List.mem_append_right _ (mem_pinsAt hb e)))).1, fun b hb => ?_, w9⟩
        obtain ⟨o, e, d⟩ := T.obj _ _ st7 b hb
        exact (I9.pin (b, o) (List.mem_append_right _ (List.mem_append_right _ (mem_pinsAt hb e)))).2.1
      refine wpAny_mono (hc fp _ _ _ s8 τ8 H8 _ I8 q8) (fun ok s9 ⟨H9, I9, q9⟩ => ?_) fun _ _ z => False.elim z
      cases ok with
      | false => exact again I9 q9
      | true =>
        refine wpAny_mono (he fp _ _ _ s9 τ8 H9 _ I9 q9) (fun y s10 ⟨v, H10, I10, rv, ys, hD, hl, qN⟩ => ?_) fun _ _ z => False.elim z
        refine wpAny_mono (mt_append (X := cxComp X scope cl (ts ++ fr.map (·.1)) fp { s2 with heap := hp3 } (upd H2 s2.heap.objs.size (.lst []))) _ s10 τ8 H10 (.ref s2.heap.objs.size) [v] (.ref s2.heap.objs.size) [y] (fun _ H => Nn τ8 H) I10 rfl (.cons rv .nil) ⟨_, ys, v, rfl, rfl, hD, hl, qN⟩) (fun _ s11 ⟨_, H11, I11, _, q11⟩ => again I11 q11) fun _ _ z => False.elim z
  exact codeAny_compStart_list loop (T.self X.A 0 _ _ _ st4 loop)
end
end L2
namespace L2
open PySem PySem.Spec PyProof.Rows
section
variable {X : Cx} {tg : Expr}
theorem ix_listK (K : PySem.W.Frag) (h : X.K = K) : IxR X (rIxL K) := h ▸ ix_list
theorem ix_tupK (K : PySem.W.Frag) (h : X.K = K) : IxR X (rIxT K) := h ▸ ix_tup
theorem sl_listK (K : PySem.W.Frag) (h : X.K = K) : SlR X (rSlL K) := h ▸ sl_list
def rLen (K : PySem.W.Frag) : List V → Hp → VK → Prop := fun xs H Q => ∃ p ys, xs = [.ref p] ∧ (SqL K H p ys ∨ SqT K H p ys) ∧ Q (.int ys.length) H
theorem call_lenK (K : PySem.W.Frag) (h : X.K = K) : CallR X (.builtin "len") (rLen K) := h ▸ call_len_seq
def rLst (K : PySem.W.Frag) : List V → Hp → VK → Prop := fun xs H Q => ∃ p ys, xs = [.ref p] ∧ (SqL K H p ys ∨ SqT K H p ys) ∧ ∀ l, H l = none → Q (.ref l) (upd H l (.lst ys))
theorem call_listK (K : PySem.W.Frag) (h : X.K = K) : CallR X (.type "list") (rLst K) := h ▸ call_list_of
def rInst (K : PySem.W.Frag) : List V → Hp → VK → Prop := fun xs H Q => ∃ x c t cv b, xs = [x, c] ∧ clsV c = some cv ∧ TyOf K H x t ∧ PySem.W.kitOne K t cv = some b ∧ Q (.bl b) H
theorem call_isinstK (K : PySem.W.Frag) (h : X.K = K) : CallR X (.builtin "isinstance") (rInst K) := h ▸ call_isinst
theorem pg_tupK (K : PySem.W.Frag) (h : X.K = K) {es : List Expr} {k : Nat} {pos : Pos} {t : TGs} {n : Nat} (hc : X.calm = true) (hq : PGs X es t)
    (hn : (assignEach es X.env).length = n := by rfl) (hst : (assignEach es X.env).findIdx? (·.1) = none := by rfl) : PG X (.Tuple es k pos) (gTup K n t) := h ▸ pg_tup hc hq hn hst
theorem pi_listK (K : PySem.W.Frag) (h : X.K = K) {l : Expr} {tl : TE} (hl : PE X l tl) : PI X tg l (iList K tl) := h ▸ pi_list hl
theorem pi_enumK (K : PySem.W.Frag) (h : X.K = K) {l : Expr} {ta : TA} {p pos tpos : Pos} {elts : List Expr} {x1} (hg : Gl X "enumerate") (hm : X.mg "enumerate" = none) (ha : PA X [l] ta) (hs : starEach [l] X.env = [(false, eval l X.env)] := by rfl) :
    PI X (.Tuple elts x1 tpos) (.Call (.Name "enumerate" p) [l] [] pos) (iEnum K ta) := h ▸ pi_enum hg hm ha hs
end
def ClOk (env : Env) : List (Str × Addr) → Prop
  | [] => True
  | p :: r => env.cells.lookup p.1 = some p.2 ∧ ClOk env r
theorem ClOk.get {env : Env} : ∀ {cl : List (Str × Addr)}, ClOk env cl → ∀ x c, cl.lookup x = some c → env.cells.lookup x = some c
  | [], _, x, c, e => by cases e
  | p :: r, h, x, c, e => by
    obtain ⟨k, a⟩ := p
    rw [List.lookup_cons] at e
    by_cases q : x = k
    · subst q
      rw [beq_self_eq_true] at e
      cases e
      exact h.1
    · rw [beq_eq_false_iff_ne.mpr q] at e
      exact ClOk.get h.2 x c e
def clAll (ns : List (Str × NameKind)) (cl : List (Str × Addr)) : Bool := ns.all fun y => match y.2 with
  | .cell => (cl.lookup y.1).isSome
  | .free => (cl.lookup y.1).isSome
  | _ => true
theorem clAll_get {ns : List (Str × NameKind)} {cl : List (Str × Addr)} (h : clAll ns cl = true) (x : Str) (q : ns.lookup x = some .cell ∨ ns.lookup x = some .free) : ∃ c, cl.lookup x = some c := by
  unfold clAll at h
  rw [List.all_eq_true] at h
  rcases q with q | q
  · have := h _ (PySem.mem_of_lookup q)
    exact Option.isSome_iff_exists.mp this
  · have := h _ (PySem.mem_of_lookup q)
    exact Option.isSome_iff_exists.mp this
theorem pe_lc {X : Cx} {elt target iter : Expr} {ifs : List Expr} {scope : Scope} {pos : Pos} {cl : List (Str × Addr)} (ts : List Str) (fr : List (Str × Nat)) {wi : TI} {g : TG} {tc : TT} {te : TE} (hcalm : X.calm = true)
    (hclos : closureFor scope X.env = pure cl) (hcell : ∀ y ∈ scope.names, y.2 ≠ .cell) (hkind : scope.kind = .function) (hnames : ∀ y ∈ scope.names, y.2 = .local → scope.names.lookup y.1 = some .local)
    (hcl : ClOk X.env cl) (hhas : clAll (relabel scope X.env).names cl = true) (hfr : FrOk X (relabel scope X.env) fr)
    (hi : PI X target iter wi) (hg : ∀ fp s H, PG (cxComp X scope cl (ts ++ fr.map (·.1)) fp s H) target g) (hc : ∀ fp s H, PIfs (cxComp X scope cl (ts ++ fr.map (·.1)) fp s H) ifs tc)
    (he : ∀ fp s H, PE (cxComp X scope cl (ts ++ fr.map (·.1)) fp s H) elt te) (hs : ∀ x, foldedSetIterable iter X.env x = pure x := by intro _; rfl) :
    PE X (.ListComp elt [⟨target, iter, ifs, 0⟩] scope pos) (tComp ts.length fr wi g tc te) :=
  pe_comp hcalm hclos hcell hkind hnames hcl.get (fun x q => clAll_get hhas x q) hfr hi hg hc he hs
end L2
namespace L2
open PySem PySem.Spec PyProof.Rows
def rSum (K : PySem.W.Frag) : List V → Hp → VK → Prop := fun xs H Q => ∃ (p : Addr) (ns : List Int), xs = [.ref p] ∧ SqL K H p (ns.map V.int) ∧ Q (.int ns.sum) H
section
variable {X : Cx}
theorem call_sumK (K : PySem.W.Frag) (h : X.K = K) (hc : X.calm = true) : CallR X (.builtin "sum") (rSum K) := by
  subst h
  intro pins s σ H xs us Q I r h
  obtain ⟨p, ns, rfl, hq, q⟩ := h
  obtain ⟨u, rfl, ru⟩ := vals1 r
  cases (show u = Value.ref p from ru)
  obtain ⟨its, rv, hp, hz⟩ := I.list hq
  have hi := intsAre_of rv
  obtain ⟨zs, e⟩ := hi.allInts.items
  have hl := hp.isList
  rw [e] at hl
  refine sum_intListG (I.ok.hd hc) hl fun h' tk t' hk => ⟨.int ns.sum, H, I.kept (t' := tk) hk, ⟨t', ?_⟩, q⟩
  rw [preSum_eq, List.take_of_length_le (by simp)]
  have := hi.numsOf
  rw [show its = its.toArray.toList from rfl, e, nums_intItems] at this
  rw [← this]
end
end L2
namespace L2
open PySem PySem.Spec PyProof.Rows
def CompG (J : It) (g : TG) (tc : TT) (te : TE) (D : Addr) (τ : St) (H : Hp) (Q : VK) : Prop :=
  ∃ W : Nat → Nat → St → Hp → Prop, (∃ m, W 0 m τ H) ∧ ∀ i m τ H', W i m τ H' →
    (J.stop i H' ∧ Q (.ref D) H') ∨ (J.go i H' ∧ ∃ N : St → Hp → Prop, (∀ τ' H'', N τ' H'' → ∃ m', m' < m ∧ W (i + 1) m' τ' H'') ∧
      ∀ x H2, J.yld i H' x H2 → g x τ H2 fun τ2 H3 => tc τ2 H3 fun b H4 => if b = true then te τ2 H4 fun y H5 => ∃ ys, H5 D = some (.lst ys) ∧ ys.length < sizeLine ∧ N τ2 (upd H5 D (.lst (ys ++ [y]))) else N τ2 H4)
theorem tComp_eq {nt : Nat} {fr : List (Str × Nat)} {wi : TI} {g : TG} {tc : TT} {te : TE} {σ : St} {H : Hp} {Q : VK} :
    tComp nt fr wi g tc te σ H Q = wi σ H fun J H1 => ∀ D, H1 D = none → CompG J g tc te D (List.replicate nt none ++ fr.map fun p => (σ[p.2]?).join) (upd H1 D (.lst [])) Q := rfl
theorem comp_walk {K : PySem.W.Frag} {a : Addr} {xs : List V} {g : TG} {tc : TT} {te : TE} {D : Addr} {τ : St} {H : Hp} {Q : VK} (Pv : Nat → St → Hp → Prop) (h0 : Pv 0 τ H) (hl : ∀ i τ H, i ≤ xs.length → Pv i τ H → SqL K H a xs)
    (hs : ∀ i x τ H, xs[i]? = some x → Pv i τ H → g x τ H fun τ2 H3 => tc τ2 H3 fun b H4 => if b = true then te τ2 H4 fun y H5 => ∃ ys, H5 D = some (.lst ys) ∧ ys.length < sizeLine ∧ Pv (i + 1) τ2 (upd H5 D (.lst (ys ++ [y]))) else Pv (i + 1) τ2 H4)
    (hd : ∀ τ H, Pv xs.length τ H → Q (.ref D) H) :
    CompG (Itl K a) g tc te D τ H Q := by
  refine ⟨fun i m τ H => m = xs.length - i ∧ i ≤ xs.length ∧ Pv i τ H, ⟨xs.length, by simp, Nat.zero_le _, h0⟩, ?_⟩
  rintro i m τ H ⟨rfl, hi, p⟩
  have q := hl i τ H hi p
  by_cases hlt : i < xs.length
  · refine .inr ⟨⟨xs, xs[i], q, by simp [hlt]⟩, Pv (i + 1), fun τ' H' p' => ⟨xs.length - (i + 1), by omega, rfl, hlt, p'⟩, fun x H2 z => ?_⟩
    obtain ⟨rfl, hx⟩ := z
    exact hs i x τ H2 (hx xs q) p
  · have e : i = xs.length := by omega
    subst e
    exact .inl ⟨⟨xs, q, Nat.le_refl _⟩, hd τ H p⟩
theorem comp_enum {K : PySem.W.Frag} {a : Addr} {xs : List V} {g : TG} {tc : TT} {te : TE} {D : Addr} {τ : St} {H : Hp} {Q : VK} (Pv : Nat → St → Hp → Prop) (h0 : Pv 0 τ H) (hl : ∀ i τ H, i ≤ xs.length → Pv i τ H → SqL K H a xs)
    (hs : ∀ i x τ H p, xs[i]? = some x → Pv i τ H → H p = none → g (.ref p) τ (upd H p (.tup [.int i, x])) fun τ2 H3 => tc τ2 H3 fun b H4 => if b = true then te τ2 H4 fun y H5 => ∃ ys, H5 D = some (.lst ys) ∧ ys.length < sizeLine ∧ Pv (i + 1) τ2 (upd H5 D (.lst (ys ++ [y]))) else Pv (i + 1) τ2 H4)
    (hd : ∀ τ H, Pv xs.length τ H → Q (.ref D) H) :
    CompG (Ite K a) g tc te D τ H Q := by
  refine ⟨fun i m τ H => m = xs.length - i ∧ i ≤ xs.length ∧ Pv i τ H, ⟨xs.length, by simp, Nat.zero_le _, h0⟩, ?_⟩
  rintro i m τ H ⟨rfl, hi, p⟩
  have q := hl i τ H hi p
  by_cases hlt : i < xs.length
  · refine .inr ⟨⟨xs, xs[i], q, by simp [hlt]⟩, Pv (i + 1), fun τ' H' p' => ⟨xs.length - (i + 1), by omega, rfl, hlt, p'⟩, fun y H2 z => ?_⟩
    obtain ⟨b, x, rfl, hb, hx, rfl⟩ := z
    exact hs i x τ H b (hx xs q) p hb
  · have e : i = xs.length := by omega
    subst e
    exact .inl ⟨⟨xs, q, Nat.le_refl _⟩, hd τ H p⟩
abbrev Q4 := Int × Int × Int × Int
def q4 (q : Q4) : List V := [.int q.1, .int q.2.1, .int q.2.2.1, .int q.2.2.2]
theorem cutV_ints (ns : List Int) (lo hi : Option Int) : ∃ ms : List Int, cutV (ns.map V.int) lo hi = ms.map V.int ∧ ms.length ≤ ns.length := by
  refine ⟨(ns.drop (HT.sIx (ns.map V.int).length 0 lo)).take (HT.sIx (ns.map V.int).length (ns.map V.int).length hi - HT.sIx (ns.map V.int).length 0 lo), ?_, ?_⟩
  · unfold cutV; rw [List.map_take, List.map_drop]
  · rw [List.length_take, List.length_drop]; omega
def spMix : Sp := fun vs H Q _ => ∃ c i, vs = [.int c, .int i] ∧ 0 ≤ i ∧ i < 1000 ∧ ∀ m, 0 ≤ m → m < 2147483647 → Q (.int m) H
mutual
theorem eqv_refl : ∀ d : PyData, d.canLay0 = true → PyData.eqv d d = true
  | .none, _ => rfl
  | .bool b, _ => by simp [PyData.eqv]
  | .int i, _ => by simp [PyData.eqv]
  | .str x, _ => by simp [PyData.eqv]
  | .list xs, h => by
    have h : PyData.canLayAll0 xs = true := by simpa only [PyData.canLay0] using h
    simpa only [PyData.eqv] using eqvAll_refl xs h
  | .tuple xs, h => by
    have h : PyData.canLayAll0 xs = true := by simpa only [PyData.canLay0] using h
    simpa only [PyData.eqv] using eqvAll_refl xs h
  | .dict _, h => by simp [PyData.canLay0] at h
theorem eqvAll_refl : ∀ ds : List PyData, PyData.canLayAll0 ds = true → PyData.eqvAll ds ds = true
  | [], _ => rfl
  | d :: r, h => by
    simp only [PyData.canLayAll0, Bool.and_eq_true] at h
    simp only [PyData.eqvAll, Bool.and_eq_true]
    exact ⟨eqv_refl d h.1, eqvAll_refl r h.2⟩
end
theorem canLay_all {α : Type} {f : α → PyData} (h : ∀ a, (f a).canLay0 = true) : ∀ l : List α, PyData.canLayAll0 (l.map f) = true
  | [] => rfl
  | a :: r => by simp only [List.map_cons, PyData.canLayAll0, h a, canLay_all h r, Bool.and_self]
theorem depth_all {α : Type} {f : α → PyData} {n : Nat} (h : ∀ a, (f a).depth ≤ n) : ∀ l : List α, PyData.depthAll (l.map f) ≤ n
  | [] => Nat.zero_le _
  | a :: r => by
    have h1 := h a
    have h2 := depth_all h r
    simp only [List.map_cons, PyData.depthAll]
    omega
theorem shaped_list {α : Type} {f : α → PyData} {n : Nat} (h : ∀ a, (f a).canLay0 = true) (hd : ∀ a, (f a).depth ≤ n) (hn : n < 64) (l : List α) : PySem.SeqAt.shaped (.list (l.map f)) = true := by
  unfold PySem.SeqAt.shaped
  rw [Bool.and_eq_true, decide_eq_true_eq]
  refine ⟨by simpa only [PyData.canLay0] using canLay_all h l, ?_⟩
  have := depth_all hd l
  simp only [PyData.depth]
  omega
end L2
namespace L2
open PySem PySem.Spec PyProof.Rows
end L2
namespace L2
open PySem PySem.Spec PyProof.Rows
section
variable {X : Cx}
theorem op_neDK (K : PySem.W.Frag) (h : X.K = K) (hu : X.A.units + 64 < cLine) : OpR X (compareOp .NotEq) (rNeD K) := h ▸ op_neD hu
end
theorem ne_at {K : PySem.W.Frag} {H : Hp} {x y : V} {d e : PyData} {Q : VK} (hx : Deep K H x d) (hy : Deep K H y e) (sd : PySem.SeqAt.shaped d = true) (se : PySem.SeqAt.shaped e = true) (q : Q (.bl (!PyData.eqv d e)) H) : rNeD K x y H Q := ⟨d, e, hx, hy, sd, se, q⟩
theorem ne_same {K : PySem.W.Frag} {H : Hp} {x y : V} {d : PyData} {Q : VK} (hx : Deep K H x d) (hy : Deep K H y d) (sd : PySem.SeqAt.shaped d = true) (q : Q (.bl false) H) : rNeD K x y H Q := by
  refine ne_at hx hy sd sd ?_
  rw [eqv_refl d (PySem.SeqAt.canLay_of_shaped sd)]; exact q
theorem lst_at {K : PySem.W.Frag} {H : Hp} {p : Addr} {ys : List V} {Q : VK} (h : SqL K H p ys) (q : ∀ l, H l = none → Q (.ref l) (upd H l (.lst ys))) : rLst K [.ref p] H Q := ⟨p, ys, rfl, .inl h, q⟩
theorem len_at {K : PySem.W.Frag} {H : Hp} {p : Addr} {ys : List V} {Q : VK} (h : SqL K H p ys) (q : Q (.int ys.length) H) : rLen K [.ref p] H Q := ⟨p, ys, rfl, .inl h, q⟩
theorem slL_at {K : PySem.W.Frag} {H : Hp} {p : Addr} {xs : List V} {lo hi : Option Int} {Q : VK} (h : SqL K H p xs) (q : ∀ l, H l = none → Q (.ref l) (upd H l (.lst (cutV xs lo hi)))) : rSlL K (.ref p) lo hi H Q := ⟨p, xs, rfl, h, q⟩
end L2
namespace L2
open PySem PySem.Spec PyProof.Rows
section
variable {prog : Program} {w : World} {A : Around} {R : Result → Shared → Prop}
end
end L2
namespace L2
open PySem PySem.Spec PyProof.Rows
def XTr (B : Heap) (e : Addr) (h : Heap) (vs : Array Value) : Option Value → Prop
  | none => vs[1]? = some Value.none
  | some f => ∃ T oT ts, vs[1]? = some (.ref T) ∧ B.get? T = none ∧ T ≠ e ∧ h.get? T = some oT ∧ oT.data = .fields ts ∧ ts[3]? = some f
structure XAt (B : Heap) (e : Addr) (cls : Value) (dct : Option Addr) (fl : Option Value) (h : Heap) : Prop where
  stay : B.StaysIn h
  new : B.get? e = none
  ex : ∃ oe vs, h.get? e = some oe ∧ oe.cls = cls ∧ oe.dict = dct ∧ oe.data = .fields vs ∧ 1 < vs.size ∧ XTr B e h vs fl
structure UpS (h h' : Heap) : Prop where
  sl : ∀ b o, h.get? b = some o → (∀ vs, o.data ≠ .fields vs) → ∃ sl, h'.get? b = some { o with slots := sl }
  th : ∀ b o, h.get? b = some o → ∃ o', h'.get? b = some o'
theorem UpS.trans {h h1 h2 : Heap} (a : UpS h h1) (b : UpS h1 h2) : UpS h h2 := by
  refine ⟨fun c o e n => ?_, fun c o e => ?_⟩
  · obtain ⟨s1, e1⟩ := a.sl c o e n
    obtain ⟨s2, e2⟩ := b.sl c _ e1 n
    exact ⟨s2, e2⟩
  · obtain ⟨o1, e1⟩ := a.th c o e
    exact b.th c o1 e1
theorem UpS.funs {h h' B : Heap} {l : List Env} (u : UpS h h') (f : h.FunFrames B l) : h'.FunFrames B l := f.of_keeps fun b o e n => by
  obtain ⟨sl, q⟩ := u.sl b o e n
  exact ⟨_, q, rfl⟩
section
variable {M : Model} {A : Around} {E : Value → Shared → Prop} {s : Shared} {B : Heap} {env : Env} {outer : List Env} {L e : Addr} {cls : Value} {dct : Option Addr}
theorem entry_at {fl : Option Value} {head : Value} {b1 : Bool} {Q : Unit → Shared → Prop} (fr : A.frames = some (env :: outer)) (ff : s.heap.FunFrames B (env :: outer)) (hf : env.frame = some L) (x : XAt B e cls dct fl s.heap)
    (h : ∀ h', XAt B e cls dct (some (rawInt L)) h' → UpS s.heap h' → Q () { s with heap := h' }) :
    wpAny M A (do let a ← frameOf env; let pl ← entryPlaceOf L b1; let b ← EntryCells.newEntry head a .none (rawInt L) .none pl; setField (.ref e) 1 b) Q E s := by
  obtain ⟨stay, new, oe, vs, oe1, oe2, oe3, oe4, oe5, _⟩ := x
  have nf : e ∉ (env :: outer).filterMap (·.frame) := fun z => by
    obtain ⟨_, o, q, n⟩ := ff.mem z
    rw [oe1] at q
    cases q
    exact n vs oe4
  refine wpAny_bind (wpAny_frameOf_fun fr ff hf fun h1 sl => wpAny_bind (wpAny_entryPlaceOf fun pl ip => ?_))
  have e1 : h1.get? e = some oe := (sl.2.1 e nf).trans oe1
  have st1 : B.StaysIn h1 := fun b o q => (sl.2.1 b fun z => by rw [(ff.mem z).1] at q; cases q).trans (stay b o q)
  unfold EntryCells.newEntry newFields
  refine wpAny_bind (wpAny_newObj_type ?_ (ip.sizeOk5 _ _ _ _ _))
  generalize hT : ({ cls := .type "traceback", dict := none, data := .fields ([head, .ref L, .none, rawInt L, .none] ++ (if pl.isEmpty then List.replicate 6 Value.none else pl)).toArray } : Obj) = oT
  have e2 : (h1.push oT).get? e = some oe := Heap.get?_push_of_some _ e1
  have ne : h1.objs.size ≠ e := Nat.ne_of_gt (Heap.lt_size e1)
  refine wpAny_setField e2 oe4 oe5 (h _ ⟨fun b o q => ?_, new, _, _, Heap.get?_update_self _ e2 (Obj.isFreed_of_fields (Obj.data_mapFields oe4 _)), (Obj.cls_mapFields _ _).trans oe2, ?_, Obj.data_mapFields oe4 _, by simpa using oe5, h1.objs.size, oT, _, by simp [oe5], st1.fresh, ne, ?_, by rw [← hT], ?_⟩ ⟨fun b o q n => ?_, fun b o q => ?_⟩)
  · rw [Heap.get?_update_other _ _ fun z => by rw [← z, new] at q; cases q]
    exact Heap.get?_push_of_some _ (st1 b o q)
  · rw [← oe3]; cases oe with | mk c d da sl => cases da <;> rfl
  · rw [Heap.get?_update_other _ _ (Ne.symm ne)]
    exact Heap.get?_push_size _ (by rw [← hT]; rfl)
  · rcases ip with rfl | ⟨_, _, _, _, _, _, _, rfl⟩ <;> simp
  · obtain ⟨s1, q1⟩ := sl.2.2 b o q
    refine ⟨s1, ?_⟩
    rw [Heap.get?_update_other _ _ fun z => by rw [← z, oe1] at q; cases q; exact n vs oe4]
    exact Heap.get?_push_of_some _ q1
  · by_cases z : b = e
    · rw [z]; exact ⟨_, Heap.get?_update_self _ e2 (Obj.isFreed_of_fields (Obj.data_mapFields oe4 _))⟩
    · obtain ⟨s1, q1⟩ := sl.2.2 b o q
      exact ⟨_, (Heap.get?_update_other _ _ (Ne.symm z)).trans (Heap.get?_push_of_some _ q1)⟩
theorem land_at {f : Value} {Q : Unit → Shared → Prop} (x : XAt B e cls dct (some f) s.heap) (h : ∀ h', XAt B e cls dct (some .none) h' → UpS s.heap h' → Q () { s with heap := h' }) : wpAny M A (setFlight (.ref e) none) Q E s := by
  obtain ⟨stay, new, oe, vs, oe1, oe2, oe3, oe4, oe5, T, oT, ts, t1, t2, t3, t4, t5, t6⟩ := x
  unfold setFlight
  refine wpAny_bind (wpAny_field oe1 oe4 t1 ?_)
  rw [if_pos (show (Value.ref T != Value.none) = true by simp)]
  have h3 : 3 < ts.size := (Array.getElem?_eq_some_iff.mp t6).1
  have oth : ∀ (g : Obj → Obj) b, b ≠ T → (s.heap.update T g).get? b = s.heap.get? b := fun g b z => Heap.get?_update_other _ _ (Ne.symm z)
  refine wpAny_setField t4 t5 h3 (h _ ⟨fun b o q => ?_, new, oe, vs, by rw [oth _ _ (Ne.symm t3)]; exact oe1, oe2, oe3, oe4, oe5, T, _, _, t1, t2, t3, Heap.get?_update_self _ t4 (Obj.isFreed_of_fields (Obj.data_mapFields t5 _)), Obj.data_mapFields t5 _, by simp [h3]⟩ ⟨fun b o q n => ⟨o.slots, ?_⟩, fun b o q => ?_⟩)
  · rw [oth _ _ fun z => by rw [z, t2] at q; cases q]
    exact stay b o q
  · rw [oth _ _ fun z => by rw [z, t4] at q; cases q; exact n ts t5]
    exact q
  · by_cases z : b = T
    · rw [z]; exact ⟨_, Heap.get?_update_self _ t4 (Obj.isFreed_of_fields (Obj.data_mapFields t5 _))⟩
    · exact ⟨o, (oth _ _ z).trans q⟩
theorem note_at {fl : Option Value} {Q : Unit → Shared → Prop} (fr : A.frames = some (env :: outer)) (ff : s.heap.FunFrames B (env :: outer)) (hf : env.frame = some L) (x : XAt B e cls dct fl s.heap) (hfl : fl = none ∨ fl = some .none)
    (h : ∀ h', XAt B e cls dct (some (rawInt L)) h' → UpS s.heap h' → Q () { s with heap := h' }) : wpAny M A (noteFrame (.ref e) env) Q E s := by
  have x0 := x
  obtain ⟨stay, new, oe, vs, oe1, oe2, oe3, oe4, oe5, tr⟩ := x
  unfold noteFrame
  simp only [hf]
  rcases hfl with rfl | rfl
  · refine wpAny_bind (wpAny_field oe1 oe4 tr ?_)
    rw [if_neg (by decide)]
    exact entry_at fr ff hf x0 h
  · obtain ⟨T, oT, ts, t1, t2, t3, t4, t5, t6⟩ := tr
    refine wpAny_bind (wpAny_field oe1 oe4 t1 ?_)
    rw [if_pos (show (Value.ref T != Value.none) = true by simp)]
    refine wpAny_bind (wpAny_field t4 t5 t6 ?_)
    rw [if_neg (show ¬ ((Value.none == rawInt L) = true) by simp [rawInt])]
    have h3 : 3 < ts.size := (Array.getElem?_eq_some_iff.mp t6).1
    have oth : ∀ (g : Obj → Obj) b, b ≠ T → (s.heap.update T g).get? b = s.heap.get? b := fun g b z => Heap.get?_update_other _ _ (Ne.symm z)
    have up : ∀ g, UpS s.heap (s.heap.update T (Obj.mapFields g)) := fun g => ⟨fun b o q n => ⟨o.slots, by
      rw [oth _ _ fun z => by rw [z, t4] at q; cases q; exact n ts t5]; exact q⟩, fun b o q => by
      by_cases z : b = T
      · rw [z]; exact ⟨_, Heap.get?_update_self _ t4 (Obj.isFreed_of_fields (Obj.data_mapFields t5 _))⟩
      · exact ⟨o, (oth _ _ z).trans q⟩⟩
    refine wpAny_bind (wpAny_setField t4 t5 h3 ?_)
    refine entry_at (fl := some .none) fr ((up _).funs ff) hf ⟨fun b o q => ?_, new, oe, vs, by rw [oth _ _ (Ne.symm t3)]; exact oe1, oe2, oe3, oe4, oe5, T, _, _, t1, t2, t3, Heap.get?_update_self _ t4 (Obj.isFreed_of_fields (Obj.data_mapFields t5 _)), Obj.data_mapFields t5 _, by simp [h3]⟩ fun h' a b => h h' a ((up _).trans b)
    rw [oth _ _ fun z => by rw [z, t2] at q; cases q]
    exact stay b o q
theorem leave_at {fl : Option Value} {Q : Unit → Shared → Prop} (fr : A.frames = some (env :: outer)) (ff : s.heap.FunFrames B (env :: outer)) (hf : env.frame = some L) (x : XAt B e cls dct fl s.heap) (hfl : fl = none ∨ fl = some .none)
    (h : ∀ h', XAt B e cls dct (some .none) h' → UpS s.heap h' → Q () { s with heap := h' }) : wpAny M A (leaving env (.ref e)) Q E s := by
  unfold leaving
  exact wpAny_bind (note_at fr ff hf x hfl fun h1 x1 u1 => land_at (s := { s with heap := h1 }) x1 fun h2 x2 u2 => h h2 x2 (u1.trans u2))
end
end L2
namespace L2
open PySem PySem.Spec PyProof.Rows
abbrev bmV : List Value := [.type "ValueError", .type "Exception", .type "BaseException", .type "object"]
structure XC (K : PySem.W.Frag) (C : Addr) : Prop where
  hd : PySem.W.hasDictIn K C = true
  ga : PySem.W.findIn K (.ref C) "__getattribute__" = some (some (.builtin "BaseException.__getattribute__"))
  gn : PySem.W.findIn K (.ref C) "__getattr__" = some none
  sa : PySem.W.findIn K (.ref C) "__setattr__" = some (some (.builtin "object.__setattr__"))
  cl : PySem.W.findIn K (.ref C) "__class__" = some (some (.builtin "object.__class__"))
  kg : PySem.W.specialIn K (.builtin "object.__class__") "__get__" = some (some (.builtin "getset_descriptor.__get__"))
  kt : PySem.W.takesIn K (.builtin "object.__class__") = some true
  be : PySem.W.mroIn K C (.type "BaseException") = some true
  ob : PySem.W.mroIn K C (.type "object") = some true
  /-- its object and its line of classes -/
  ex : ∃ nm q N bs bm hdct sn sub ab col dd k0 k1 k2 k3 k5, K.lookup C = some (excClassObj nm q C N bs bm hdct sn sub ab col dd k0 k1 k2 k3 k5 "ValueError.__new__") ∧ PySem.W.tailIn K bmV bm = true
theorem XC.plain {K : PySem.W.Frag} {C : Addr} (q : PySem.W.excIn K C bmV "ValueError.__new__" = true) :
    ∃ nm q N bs bm hdct sn sub ab col dd k0 k1 k2 k3 k5, K.lookup C = some (excClassObj nm q C N bs bm hdct sn sub ab col dd k0 k1 k2 k3 k5 "ValueError.__new__") ∧ PySem.W.tailIn K bmV bm = true ∧ PySem.W.nsOkIn K N = true ∧ PySem.W.nsIn K N "__init__" = some none := by
  unfold PySem.W.excIn at q
  split at q
  · rename_i dd cd sl ho
    split at q
    · rename_i C' bm k0 k1 k2 k3 n k5 hm hs
      simp only [Bool.and_eq_true, beq_iff_eq, Bool.not_eq_true'] at q
      obtain ⟨⟨⟨⟨⟨rfl, rfl⟩, d1⟩, ht⟩, hok⟩, hni⟩ := q
      obtain ⟨nm, bs, mro, ns, qn, hd, sn, sub, ab, col, del⟩ := cd
      dsimp only at hm d1 hok hni
      subst hm d1
      obtain ⟨l⟩ := sl
      simp only at hs
      subst hs
      exact ⟨nm, qn, ns, bs, bm, hd, sn, sub, ab, col, dd, k0, k1, k2, k3, k5, ho, ht, hok, hni⟩
    · cases q
  · cases q
section
variable {prog : Program} {w : World} {A : Around} {E : Value → Shared → Prop} {s : Shared} {K : PySem.W.Frag} {x C : Addr} {ox : Obj} {od : Option Obj}
theorem xmake0 {us : List Value} {Q : Value → Shared → Prop} (X : K.In s.heap) (q : PySem.W.excIn K C bmV "ValueError.__new__" = true) (hl : us.length ≤ sizeLine)
    (h : ∀ h' e, Heap.MadeExcOf s.heap h' e (.ref C) us → Q (.ref e) { s with heap := h' }) : wpAny (model prog w) A (call (.ref C) us) Q E s := by
  obtain ⟨nm, qn, N, bs, bm, hdct, sn, sub, ab, col, dd, k0, k1, k2, k3, k5, lk, tl, nk, ni⟩ := XC.plain q
  obtain ⟨hp, g, d, t, os⟩ := s
  exact wpAny_call_exc_subU PySem.F.excBase_ValueError rfl PySem.F.excBase_ValueError (PySem.W.tail_of_in X tl) (X _ _ lk) (.of_isNs (PySem.W.isNs_of_in X nk)) (PySem.W.nsMap_none_of_in X nk ni) (fun h' e m => h h' e m) hl
theorem xraise {env : Env} {y : Sem Value} {Q : Flow → Shared → Prop} (hh : A.handled = none)
    (h : wpAny (model prog w) A y (fun v s1 => ∃ C e oe vs, XC K C ∧ v = .ref e ∧ K.In s1.heap ∧ s1.heap.get? e = some oe ∧ oe.cls = .ref C ∧ oe.data = .fields vs ∧ vs[1]? = some Value.none ∧ E (.ref e) s1) E s) :
    wpAny (model prog w) A (raiseStmt env (some y) none) Q E s := by
  unfold raiseStmt
  refine wpAny_bind (wpAny_mono h (fun v s1 z => ?_) fun _ _ z => z)
  obtain ⟨C, e, oe, vs, c, rfl, X, e1, e2, e3, e4, fin⟩ := z
  obtain ⟨nm, qn, N, bs, bm, hdct, sn, sub, ab, col, dd, k0, k1, k2, k3, k5, lk, tl⟩ := c.ex
  obtain ⟨hp, g, d, t, os⟩ := s1
  have cl := X _ _ lk
  have hcB : (Value.ref C :: bm).contains (.type "BaseException") = true := by rw [List.contains_cons, (PySem.W.tail_of_in X tl).hasType (show bmV.contains (.type "BaseException") = true from rfl), Bool.or_true]
  obtain ⟨oc, od, oda, osl⟩ := oe
  dsimp only at e2 e3
  subst e2 e3
  have fl : ∀ {α : Type} {QQ : Value → Shared → Prop}, QQ .none ⟨hp, g, d, t, os⟩ → wpAny (model prog w) A (field (.ref e) 1) QQ E ⟨hp, g, d, t, os⟩ := fun {_ _} z => wpAny_field e1 rfl e4 z
  repeat (first | (with_reducible refine wpAny_isSubtype_exc cl ?_; rw [hcB]) | with_reducible refine wpAny_loadPart_at e1 ?_ | with_reducible refine wpAny_loadPart_at cl ?_ | with_reducible refine wpAny_field e1 rfl e4 ?_ | wp_step)
  exact wpAny_raiseNew_none hh fin
end
end L2
namespace L2
open PySem PySem.Spec PyProof.Rows
def XOb (e C : Addr) (dct : Option Addr) (fr : Bool) (h : Heap) : Prop := ∃ oe vs, h.get? e = some oe ∧ oe.cls = .ref C ∧ oe.dict = dct ∧ oe.data = .fields vs ∧ 1 < vs.size ∧ (fr = true → vs[1]? = some Value.none)
def excO (e C : Addr) (dct : Option Addr) (fr : Bool) : HO := .ext (XOb e C dct fr)
section
variable {P : Program} {w : World} {H : Hp} {h : Heap}
theorem excO_ok {e C : Addr} {dct : Option Addr} {fr : Bool} (x : XOb e C dct fr h) : ObjOk P w H h e (excO e C dct fr) := by
  refine ⟨x, ?_, fun h1 h2 y k => ?_⟩
  · obtain ⟨oe, vs, e1, _⟩ := x
    exact ⟨oe, e1⟩
  · obtain ⟨oe, vs, e1, r⟩ := y
    exact ⟨oe, vs, k _ e1, r⟩
theorem ObjOk.there {a : Addr} {o : HO} (x : ObjOk P w H h a o) : ∃ ob, h.get? a = some ob := by
  cases o with
  | lst xs => obtain ⟨_, _, _, _, e⟩ := x; exact ⟨_, e⟩
  | tup xs => obtain ⟨_, _, _, _, e, _⟩ := x; exact ⟨_, e⟩
  | dK kvs => obtain ⟨_, _, _, _, o, _, _, e, _⟩ := x; exact ⟨_, e⟩
  | dT kvs => obtain ⟨_, _, _, _, o, _, _, e, _⟩ := x; exact ⟨_, e⟩
  | set S n => obtain ⟨o, _, _, _, e, _⟩ := x; exact ⟨_, e⟩
  | ins C dx fs => obtain ⟨_, _, _, e, _⟩ := x; exact ⟨_, e⟩
  | own y => exact x
  | xd fs => obtain ⟨_, ⟨_, _, _, e, _⟩, _⟩ := x; exact ⟨_, e⟩
  | rng lo hi => obtain ⟨_, _, _, e⟩ := x; exact ⟨_, e⟩
  | frz ob u => obtain ⟨e, _⟩ := x; exact ⟨_, e⟩
  | tbl ps => exact ⟨_, show h.get? a = some _ from x⟩
  | met f y => exact ⟨_, show h.get? a = some _ from x⟩
  | ext φ => exact x.2.1
theorem HOk.exc (x : HOk P w H h) {e C : Addr} {dct : Option Addr} {fr : Bool} (q : H e = some (excO e C dct fr)) : XOb e C dct fr h := (show ObjOk P w H h e (excO e C dct fr) from x e _ q).1
end
structure Fly (P : Program) (w : World) (B : Heap) (l : List Env) (e C : Addr) (dct : Option Addr) (H : Hp) (h : Heap) : Prop where
  at_ : ∃ fl, (fl = none ∨ fl = some Value.none) ∧ XAt B e (.ref C) dct fl h
  ff : h.FunFrames B l
  hok : HOk P w H h
  he : H e = some (excO e C dct false)
  cov : ∀ a o, H a = some o → a ≠ e → ∃ ob, B.get? a = some ob
def CXX (P : Program) (w : World) : CXT := fun outer H s E e s' => ∃ B ea C dct H', e = .ref ea ∧ s'.os = s.os ∧ AllBare s'.gens ∧ Fly P w B outer ea C dct H' s'.heap ∧ Un (frs outer) [] H H' s.heap s'.heap ∧
  (∀ b o, s.heap.get? b = some o → H b = none → b ∉ frs outer → B.get? b = some o) ∧ E (.ref ea) dct H'
theorem hok_step {P : Program} {w : World} {B : Heap} {e C : Addr} {dct : Option Addr} {fl : Option Value} {H : Hp} {h h' : Heap} (x : HOk P w H h) (he : H e = some (excO e C dct false)) (cov : ∀ a o, H a = some o → a ≠ e → ∃ ob, B.get? a = some ob) (st : B.StaysIn h)
    (y : XAt B e (.ref C) dct fl h') : HOk P w H h' := fun a o q => by
  by_cases z : a = e
  · subst z
    rw [he] at q
    cases q
    obtain ⟨oe, vs, e1, e2, e3, e4, e5, _⟩ := y.ex
    exact excO_ok ⟨oe, vs, e1, e2, e3, e4, e5, fun z => by cases z⟩
  · refine (x a o q).stay (fun b u hb g => ?_) (fun _ q => q) fun _ _ q => q
    have hbe : ∃ o', H b = some o' ∧ b ≠ e := by
      rcases hb with rfl | hb
      · exact ⟨_, q, z⟩
      · refine ⟨_, hb, fun y => ?_⟩
        rw [y, he] at hb
        cases hb
    obtain ⟨o', h1, h2⟩ := hbe
    obtain ⟨ob, h3⟩ := cov b o' h1 h2
    have h4 := st b ob h3
    rw [g] at h4
    cases h4
    exact y.stay b _ h3
section
variable {X : Cx} {pins : List (Addr × Obj)} {σ : St} {H H' : Hp} {s : Shared} {h' : Heap}
theorem Inv.out (I : Inv X pins σ H s) (hex : X.ex = []) (u : Un (frs X.stack) [] H H' s.heap h') : Un X.fs [] X.H₀ H' X.s₀.heap h' := by
  have nl : ∀ b o, X.s₀.heap.get? b = some o → b ≠ X.env.locals := fun b o q z => absurd (Nat.lt_of_lt_of_le (Heap.lt_size q) (by rw [z]; exact I.ok.above)) (Nat.lt_irrefl _)
  have nx : ∀ b : Addr, b ∉ X.ex := fun b => by rw [hex]; simp
  have ns : ∀ b o, X.s₀.heap.get? b = some o → b ∉ X.fs → b ∉ frs X.stack := fun b o q n z => by
    rcases List.mem_cons.mp (I.stkSub b z) with y | y
    · exact nl b o q y
    · exact n y
  refine ⟨fun b o q n hb _ => u.keep b o (I.base.keep b o q n hb (nx b)) (I.base.free b o q n (nx b)) (ns b o q hb) (by simp), fun b o q n hb _ => ?_, fun b o q n _ => ?_, fun b o q _ => ?_, fun b xs q => u.tups b xs (I.base.tups b xs q), fun b o v q => u.frzs b o v (I.base.frzs b o v q), fun b ps q => ?_⟩
  · obtain ⟨sl, e⟩ := I.base.slot b o q n hb (nx b)
    have fr := I.base.free b o q n (nx b)
    by_cases hs : b ∈ frs X.stack
    · obtain ⟨sl2, e2⟩ := u.slot b _ e fr hs (by simp)
      exact ⟨sl2, e2⟩
    · exact ⟨sl, u.keep b _ e fr hs (by simp)⟩
  · obtain ⟨o1, e⟩ := I.base.there b o q (nx b)
    exact u.free b o1 e (I.base.free b o q n (nx b)) (by simp)
  · obtain ⟨o1, e⟩ := I.base.there b o q (nx b)
    exact u.there b o1 e (by simp)
  · obtain ⟨m1, e1⟩ := I.base.tbls b ps q
    obtain ⟨m2, e2⟩ := u.tbls b _ e1
    exact ⟨m1 ++ m2, by rw [e2, Array.append_assoc]⟩
def bOf (X : Cx) (e : Addr) (h : Heap) : Heap := PySem.W.hideAll h (e :: frs X.stack)
theorem Inv.flyB (I : Inv X pins σ H s) {e C : Addr} {dct : Option Addr} (he : H e = some (excO e C dct true)) :
    XAt (bOf X e s.heap) e (.ref C) dct none s.heap ∧ s.heap.FunFrames (bOf X e s.heap) X.stack ∧ (∀ b o, s.heap.get? b = some o → b ≠ e → b ∉ frs X.stack → (bOf X e s.heap).get? b = some o) := by
  obtain ⟨oe, vs, e1, e2, e3, e4, e5, e6⟩ := I.hok.exc he
  refine ⟨⟨fun b o q => PySem.W.of_hideAll _ q, PySem.W.hideAll_none _ (.head _), oe, vs, e1, e2, e3, e4, e5, e6 rfl⟩, PySem.W.funFrames_hide I.stack fun env hm a ha => .tail _ (List.mem_filterMap.mpr ⟨env, hm, ha⟩), fun b o q n1 n2 => PySem.W.hideAll_get _ q fun z => ?_⟩
  rcases List.mem_cons.mp z with y | y
  · exact n1 y
  · exact n2 y
theorem Inv.flyUn (I : Inv X pins σ H s) {e C : Addr} {dct : Option Addr} {fl : Option Value} (he : H e = some (excO e C dct true)) (x : XAt (bOf X e s.heap) e (.ref C) dct fl h') (u : UpS s.heap h') :
    Un (frs X.stack) [] H (upd H e (excO e C dct false)) s.heap h' ∧ HOk X.prog X.w (upd H e (excO e C dct false)) h' ∧ ∀ a o, upd H e (excO e C dct false) a = some o → a ≠ e → ∃ ob, (bOf X e s.heap).get? a = some ob := by
  obtain ⟨x0, ff, big⟩ := I.flyB he
  have cov : ∀ a o, upd H e (excO e C dct false) a = some o → a ≠ e → ∃ ob, (bOf X e s.heap).get? a = some ob := fun a o q n => by
    rw [upd_ne n] at q
    obtain ⟨ob, g⟩ := (I.hok a o q).there
    exact ⟨ob, big a ob g n fun z => by rw [I.stkFree a z] at q; cases q⟩
  have ne : ∀ b, H b = none → b ≠ e := fun b n z => by rw [z, he] at n; cases n
  refine ⟨⟨fun b o q n hb _ => x.stay b o (big b o q (ne b n) hb), fun b o q n hb _ => ?_, fun b o q n _ => by rw [upd_ne (ne b n)]; exact n, fun b o q _ => u.th b o q, fun b xs q => ?_, fun b o v q => ?_, fun b ps q => ⟨#[], ?_⟩⟩, ?_, cov⟩
  · obtain ⟨_, o1, g, nf⟩ := ff.mem (show b ∈ X.stack.filterMap (·.frame) from hb)
    rw [q] at g
    cases g
    exact u.sl b o q nf
  · rw [upd_ne fun z => by rw [z, he] at q; cases q]; exact q
  · rw [upd_ne fun z => by rw [z, he] at q; cases q]; exact q
  · rw [upd_ne fun z => by rw [z, he] at q; cases q]; simpa using q
  · have h0 : HOk X.prog X.w (upd H e (excO e C dct false)) s.heap := fun a o q => by
      by_cases z : a = e
      · subst z
        rw [upd_same] at q
        cases q
        obtain ⟨oe, vs, e1, e2, e3, e4, e5, _⟩ := I.hok.exc he
        exact excO_ok ⟨oe, vs, e1, e2, e3, e4, e5, fun z => by cases z⟩
      · rw [upd_ne z] at q
        refine (I.hok a o q).stay (fun _ _ _ g => g) (fun b g => ?_) fun b xs g => ?_
        · rw [upd_ne fun z => by rw [z, he] at g; cases g]; exact g
        · rw [upd_ne fun z => by rw [z, he] at g; cases g]; exact g
    exact hok_step h0 upd_same cov x0.stay x
end
end L2
namespace L2
open PySem PySem.Spec PyProof.Rows
abbrev XH := Value → Option Addr → St → Hp → Prop
def PassesX (CX : CXT) (X : Cx) (Ek : XH) : Prop := ∀ (pins : List (Addr × Obj)) (σ : St) (H : Hp) (s : Shared) (e : Value) (s' : Shared), Inv X pins σ H s → CX X.stack H s (fun v d H' => Ek v d σ H') e s' → X.xe e s'
def RaisesX (X : Cx) (Ek : XH) : Prop := ∀ (pins : List (Addr × Obj)) (σ : St) (H : Hp) (s : Shared) (e C : Addr) (dct : Option Addr), Inv X pins σ H s → H e = some (excO e C dct true) → Ek (.ref e) dct σ (upd H e (excO e C dct false)) → X.xe (.ref e) s
abbrev EX0 : XH := fun _ _ _ _ => False
theorem passN {P : Program} {w : World} {X : Cx} : PassesX (CXX P w) X EX0 := fun _ _ _ _ _ _ _ ⟨_, _, _, _, _, _, _, _, _, _, _, h⟩ => h.elim
section
variable {X : Cx} {pins : List (Addr × Obj)} {σ : St} {H H' : Hp} {s s' : Shared} {B h' : Heap} {e C : Addr} {dct : Option Addr} {fl : Option Value}
theorem fly_un (F : Fly X.prog X.w B X.stack e C dct H' s'.heap) (un : Un (frs X.stack) [] H H' s.heap s'.heap) (cv : ∀ b o, s.heap.get? b = some o → H b = none → b ∉ frs X.stack → B.get? b = some o)
    (x : XAt B e (.ref C) dct fl h') (u : UpS s'.heap h') : Un (frs X.stack) [] H H' s.heap h' ∧ HOk X.prog X.w H' h' := by
  obtain ⟨fl0, _, x0⟩ := F.at_
  refine ⟨⟨fun b o q n hb _ => x.stay b o (cv b o q n hb), fun b o q n hb _ => ?_, un.free, fun b o q hx => ?_, un.tups, un.frzs, un.tbls⟩, hok_step F.hok F.he F.cov x0.stay x⟩
  · obtain ⟨sl, e1⟩ := un.slot b o q n hb (by simp)
    obtain ⟨_, o1, g, nf⟩ := F.ff.mem (show b ∈ X.stack.filterMap (·.frame) from hb)
    rw [e1] at g
    cases g
    obtain ⟨sl2, e2⟩ := u.sl b _ e1 nf
    exact ⟨sl2, e2⟩
  · obtain ⟨o1, e1⟩ := un.there b o q hx
    exact u.th b o1 e1
end
section
variable {P : Program} {w : World} {K : PySem.W.Frag} {mg : Str → Option Value} {base : Heap} {N : List Str} {qual : Str} {sc : Scope} {f : Addr} {cd : Value} {A : Around} {outer : List Env} {s₀ : Shared} {H₀ : Hp} {E : XK}
theorem raiseF : RaisesX (cxOf (CXX P w) P w K mg base N qual sc f cd A outer s₀ H₀ E) (fun v d _ H => E v d H) := by
  intro pins σ H s e C dct I he hE
  obtain ⟨x, ff, big⟩ := I.flyB he
  refine leave_at (outer := outer) (L := s₀.heap.objs.size) I.ok.frames ff rfl x (.inl rfl) fun h' x' u => ?_
  obtain ⟨un, ok, cov⟩ := I.flyUn he x' u
  refine ⟨_, e, C, dct, _, rfl, I.os, I.bare, ⟨⟨_, .inr rfl, x'⟩, (u.funs ff).2.2, ok, upd_same, cov⟩, I.out rfl un, fun b o q n hb => ?_, hE⟩
  have fr := I.base.free b o q n (by show b ∉ ([] : List Addr); simp)
  refine big b o (I.base.keep b o q n hb (by show b ∉ ([] : List Addr); simp)) (fun z => by rw [z, he] at fr; cases fr) fun z => ?_
  rcases List.mem_cons.mp (I.stkSub b z) with y | y
  · exact absurd (Nat.lt_of_lt_of_le (Heap.lt_size q) (by rw [y]; exact I.ok.above)) (Nat.lt_irrefl _)
  · exact hb y
theorem passF : PassesX (CXX P w) (cxOf (CXX P w) P w K mg base N qual sc f cd A outer s₀ H₀ E) (fun v d _ H => E v d H) := by
  intro pins σ H s e s' I q
  obtain ⟨B, ea, C, dct, H', rfl, hos, hb, F, un, cv, hE⟩ := q
  obtain ⟨fl0, hfl, x0⟩ := F.at_
  refine leave_at (outer := outer) (L := s₀.heap.objs.size) I.ok.frames F.ff rfl x0 hfl fun h' x' u => ?_
  obtain ⟨u2, ok⟩ := fly_un (X := cxOf (CXX P w) P w K mg base N qual sc f cd A outer s₀ H₀ E) F un cv x' u
  refine ⟨B, ea, C, dct, H', rfl, hos.trans I.os, hb, ⟨⟨_, .inr rfl, x'⟩, (u.funs F.ff).2.2, ok, F.he, F.cov⟩, I.out rfl u2, fun b o q n hb => ?_, hE⟩
  refine cv b o (I.base.keep b o q n hb (by show b ∉ ([] : List Addr); simp)) (I.base.free b o q n (by show b ∉ ([] : List Addr); simp)) fun z => ?_
  rcases List.mem_cons.mp (I.stkSub b z) with y | y
  · exact absurd (Nat.lt_of_lt_of_le (Heap.lt_size q) (by rw [y]; exact I.ok.above)) (Nat.lt_irrefl _)
  · exact hb y
end
section
variable {P : Program} {w : World} {X : Cx} {pins pins' : List (Addr × Obj)} {Hk : XH} {σ : St} {H : Hp} {s : Shared}
end
section
variable {X : Cx} {pins : List (Addr × Obj)} {σ : St} {H : Hp} {s : Shared} {e : Addr}
end
def tCallX (sp : Sp) (Ek : XH) (t : TA) : TE := fun σ H Q => t σ H fun vs H1 => sp vs H1 Q (fun v d H' => Ek v d σ H')
section
variable {X : Cx} {CX : CXT} {k : Nat} {x : Str} {ps : List Str} {sp : Sp} {Ek : XH} {p pos : Pos} {e : Expr} {es : List Expr} {t : TA}
theorem pe_callX (D : Def X.prog X.w X.K X.mg X.base CX k x ps sp) (hr : Room k X.A) (hg : Gl X x) (hx : PassesX CX X Ek) (ha : PA X (e :: es) t)
    (hdb : (x == ("__debug__" : Str)) = false := by decide) (he : starEach (e :: es) X.env = (false, eval e X.env) :: starEach es X.env := by rfl) (hpl : (backTo pos (starEach es X.env)).any (·.1) = false := by rfl) :
    PE X (.Call (.Name x p) (e :: es) [] pos) (tCallX sp Ek t) := by
  obtain ⟨f, fd, F, hb, hk, hm⟩ := D.ex
  intro pins s σ H Q I h
  refine wpAny_Call_Name_kw (ld_glob I hg hm ?_ hdb)
  refine PySem.W.callWith_K (h₀ := X.base) I.ok.mod.kin hk (thn (ha pos pins s σ H _ I h) fun us s1 ⟨vs, H1, I1, r, q⟩ => ⟨I1.kIn, ?_⟩) he hpl
  have hl : (us ++ []).length = ps.length := by rw [List.append_nil, ← r.length]; exact F.len _ _ _ _ q
  have hbb := hb s1 us I1.kIn hl
  rw [List.append_nil] at hbb
  refine wpAny_call (codeAny_mono (F.run X.A X.stack s1 H1 ⟨us, []⟩ us vs Q _ hr I1.env0 hbb r q) fun r s' hq => ?_)
  cases r with
  | error e => exact hx pins σ H1 s1 e s' I1 hq
  | ok fl =>
    cases fl with
    | ret u => exact I1.after hq
    | next => exact False.elim hq
    | brk => exact False.elim hq
    | cont => exact False.elim hq
end
theorem Src.okN {P : Program} {w : World} {K : PySem.W.Frag} {mg : Str → Option Value} {base : Heap} {CX : CXT} {x : Str} {st : Stmt} {N ps : List Str} {k : Nat} {sp : Sp} (F : Src K mg x st ps) (S : FnScope N ps (defScope st)) (len : ∀ vs H Q E, sp vs H Q E → vs.length = ps.length)
    (hbody : ∀ (f : Addr) (cdv : Value) (A : Around) (outer : List Env) (s : Shared) (H : Hp) (vs : List V) (Q : VK) (E : XK), Room k (A.deeper (envOfC x (defScope st) s.heap.objs.size f cdv)) → sp vs H Q E →
      ∃ t, PSs (cxOf CX P w K mg base N x (defScope st) f cdv A outer s H E).nox (defBody st) t ∧ t { nx := fun _ H' => Q .non H', rt := Q } (start N vs) H) : Def P w K mg base CX (k + 1) x ps sp := by
  obtain ⟨f, fd, F, b, m⟩ := F.ex
  obtain ⟨oc, od, kV, doc, pm, an, cdv, ct, osl, rfl, lk, hcd⟩ := F.ex
  exact ⟨f, _, fn_of lk hcd S len fun A outer s H vs Q E hr hsp => by
    obtain ⟨t, h, q⟩ := hbody f cdv A outer s H vs Q E hr hsp
    exact ⟨t, h.nox, q⟩, b, F.kp, m⟩
theorem Src.okX {P : Program} {w : World} {K : PySem.W.Frag} {mg : Str → Option Value} {base : Heap} {x : Str} {st : Stmt} {N ps : List Str} {k : Nat} {sp : Sp} (F : Src K mg x st ps) (S : FnScope N ps (defScope st)) (len : ∀ vs H Q E, sp vs H Q E → vs.length = ps.length)
    (hbody : ∀ (f : Addr) (cdv : Value) (A : Around) (outer : List Env) (s : Shared) (H : Hp) (vs : List V) (Q : VK) (E : XK), Room k (A.deeper (envOfC x (defScope st) s.heap.objs.size f cdv)) → sp vs H Q E →
      ∃ t, PSs (cxOf (CXX P w) P w K mg base N x (defScope st) f cdv A outer s H E) (defBody st) t ∧ t { nx := fun _ H' => Q .non H', rt := Q } (start N vs) H) : Def P w K mg base (CXX P w) (k + 1) x ps sp := by
  obtain ⟨f, fd, F, b, m⟩ := F.ex
  obtain ⟨oc, od, kV, doc, pm, an, cdv, ct, osl, rfl, lk, hcd⟩ := F.ex
  exact ⟨f, _, fn_of lk hcd S len fun A outer s H vs Q E hr hsp => hbody f cdv A outer s H vs Q E hr hsp, b, F.kp, m⟩
theorem free_of {P : Program} {w : World} {H : Hp} {h : Heap} {a : Addr} (x : HOk P w H h) (e : h.get? a = none) : H a = none := by
  cases q : H a with
  | none => rfl
  | some o =>
    obtain ⟨ob, g⟩ := (x a o q).there
    rw [e] at g
    cases g
theorem Inv.laidN {X : Cx} {pins : List (Addr × Obj)} {σ : St} {H : Hp} {s : Shared} {h' : Heap} {a : Addr} {o : HO} {t' : Nat} (I : Inv X pins σ H s) (k : ∀ b u, s.heap.get? b = some u → h'.get? b = some u) (hn : s.heap.get? a = none) (new : ObjOk X.prog X.w (upd H a o) h' a o) :
    Inv X pins σ (upd H a o) { s with heap := h', toks := t' } := by
  have fr := free_of I.hok hn
  refine I.un (t' := t') ⟨fun b ob q _ _ _ => k b ob q, fun b ob q _ _ _ => ⟨ob.slots, k b ob q⟩, fun b ob q n _ => ?_, fun b ob q _ => ⟨ob, k b ob q⟩, fun b xs q => ?_, fun b ob v q => ?_, fun b ps q => ⟨#[], ?_⟩⟩ fun b ob q => ?_
  · rw [upd_ne fun z => by rw [z, hn] at q; cases q]; exact n
  · rw [upd_ne (ne_of_none q fr)]; exact q
  · rw [upd_ne (ne_of_none q fr)]; exact q
  · rw [upd_ne (ne_of_none q fr)]; simpa using q
  · by_cases z : b = a
    · subst z
      rw [upd_same] at q
      cases q
      exact new
    · rw [upd_ne z] at q
      exact (I.hok b ob q).stay (fun c u _ g => k c u g) (fun c g => by rw [upd_ne (ne_of_none g fr)]; exact g) fun c xs g => by rw [upd_ne (ne_of_none g fr)]; exact g
def tXmk (C : Addr) (t : TA) : TE := fun σ H Q => t σ H fun vs H1 => vs.length ≤ 1000 ∧ ∀ e, H1 e = none → Q (.ref e) (upd H1 e (excO e C none true))
def tRaise (K : PySem.W.Frag) (Ek : XH) (te : TE) : TS := fun _ σ H => te σ H fun v H1 => ∃ e C dct, v = .ref e ∧ H1 e = some (excO e C dct true) ∧ XC K C ∧ Ek (.ref e) dct σ (upd H1 e (excO e C dct false))
section
variable {X : Cx} {C : Addr} {x : Str} {p pos : Pos} {e : Expr} {es : List Expr} {t : TA}
theorem pe_xmk (q : PySem.W.excIn X.K C bmV "ValueError.__new__" = true) (kp : PySem.W.keepIn X.K (.ref C) = true) (hg : Gl X x) (hm : X.mg x = some (.ref C)) (ha : PA X (e :: es) t)
    (hdb : (x == ("__debug__" : Str)) = false := by decide) (he : starEach (e :: es) X.env = (false, eval e X.env) :: starEach es X.env := by rfl) (hpl : (backTo pos (starEach es X.env)).any (·.1) = false := by rfl) :
    PE X (.Call (.Name x p) (e :: es) [] pos) (tXmk C t) := by
  intro pins s σ H Q I h
  refine wpAny_Call_Name_kw (ld_glob I hg hm ?_ hdb)
  refine PySem.W.callWith_K (h₀ := X.base) I.ok.mod.kin kp (thn (ha pos pins s σ H _ I h) fun us s1 ⟨vs, H1, I1, r, hl, q1⟩ => ⟨I1.kIn, ?_⟩) he hpl
  refine xmake0 I1.kIn q (by rw [List.nil_append, ← r.length]; exact line_lit hl) fun h' ea m => ?_
  obtain ⟨tt, g1, g2, g3⟩ := m.there
  exact ⟨.ref ea, _, I1.laidN (t' := s1.toks) m.keeps m.new (excO_ok ⟨_, _, g1, rfl, rfl, rfl, Nat.lt_of_lt_of_le (by decide) (Nat.le_refl 6), fun _ => rfl⟩), rfl, q1 ea (free_of I1.hok m.new)⟩
theorem ps_raise {Ek : XH} {te : TE} (K : PySem.W.Frag) (hK : X.K = K) (hc : X.calm = true) (hx : RaisesX X Ek) (he : PE X e te) : PS X (.Raise (some e) none pos) (tRaise K Ek te) := by
  subst hK
  intro pins s σ H D I h
  rw [arm_exec_Raise]
  refine wpAny_bind (wpAny_standAt ?_)
  show wpAny _ _ (raiseStmt X.env (some (do let v ← eval e X.env; standAt pos; pure v)) none) _ _ _
  refine xraise (K := X.K) (I.ok.hd hc) (wpAny_bind (thn (he pins s σ H _ I h) fun u s1 ⟨v, H1, I1, r, ea, C, dct, hv, hh, c, q⟩ => wpAny_bind (wpAny_standAt (wpAny_pure ?_))))
  subst hv
  cases (show u = Value.ref ea from r)
  obtain ⟨oe, vs, e1, e2, e3, e4, e5, e6⟩ := I1.hok.exc hh
  exact ⟨C, ea, oe, vs, c, rfl, I1.kIn, e1, e2, e4, e6 rfl, hx pins σ H1 s1 ea C dct I1 hh q⟩
end
section
variable {prog : Program} {w : World} {A : Around} {E : Value → Shared → Prop} {s : Shared} {K : PySem.W.Frag} {e C C' : Addr}
end
def hkOf (K : PySem.W.Frag) (C' : Addr) (th : Addr → TS) (D : Ends) : XH := fun v d σ H => ∃ e C, v = .ref e ∧ H e = some (excO e C d false) ∧ PySem.W.subIn K (.ref C) (.ref C') = some true ∧ th e D σ H
def tTry (K : PySem.W.Frag) (C' : Addr) (tb : XH → TS) (th : TS) : TS := fun D σ H => tb (hkOf K C' (fun _ => th) D) D σ H
def tTryAs (K : PySem.W.Frag) (C' : Addr) (i : Nat) (tb : XH → TS) (th : TS) : TS := fun D σ H =>
  tb (hkOf K C' (fun e D σ H => th { nx := fun σ H => D.nx (σ.set i none) H, rt := D.rt, bk := fun σ H => D.bk (σ.set i none) H, ct := fun σ H => D.ct (σ.set i none) H } (σ.set i (some (.ref e))) H) D) D σ H
section
variable {P : Program} {w : World} {X : Cx} {C' : Addr} {x : Str} {np hpos pos : Pos} {body suite : List Stmt} {b0 : Stmt} {tb : XH → TS} {th : TS}
end
end L2
namespace L2
open PySem PySem.Spec PyProof.Rows
section
variable {X : Cx}
end
end L2
namespace L2
open PySem PySem.Spec PyProof.Rows
section
variable {K : PySem.W.Frag} {C C' : Addr}
theorem xc_plain (q : PySem.W.excIn K C bmV "ValueError.__new__" = true) : ∃ nm q N bs bm hdct sn sub ab col dd k0 k1 k2 k3 k5, K.lookup C = some (excClassObj nm q C N bs bm hdct sn sub ab col dd k0 k1 k2 k3 k5 "ValueError.__new__") ∧ PySem.W.tailIn K bmV bm = true := by
  obtain ⟨nm, q, N, bs, bm, hdct, sn, sub, ab, col, dd, k0, k1, k2, k3, k5, l, t, _⟩ := XC.plain q
  exact ⟨nm, q, N, bs, bm, hdct, sn, sub, ab, col, dd, k0, k1, k2, k3, k5, l, t⟩
theorem kit_self : PySem.W.kitOne K (.ref C) (.ref C) = some true := by
  unfold PySem.W.kitOne
  rw [if_pos (by simp)]
theorem kit_ve {b : Bool} (hs : PySem.W.subIn K (.ref C) (.type "ValueError") = some b) : PySem.W.kitOne K (.ref C) (.type "ValueError") = some b := by
  unfold PySem.W.kitOne
  rw [if_neg (by simp)]
  unfold PySem.W.kitCls
  dsimp only
  rw [if_pos (by decide +kernel)]
  exact hs
end
end L2
namespace L2
open PySem PySem.Spec PyProof.Rows
end L2
namespace L2
open PySem PySem.Spec PyProof.Rows
abbrev TupsF {α : Type} (enc : α → List V) (H : Hp) : List Addr → List α → Prop := Paired fun p q => H p = some (.tup (enc q))
section
variable {α : Type} {enc : α → List V} {H H' : Hp} {ps : List Addr} {qs : List α}
theorem tupsF_len (h : TupsF enc H ps qs) : ps.length = qs.length := Paired.length h
theorem tupsF_same (h : TupsF enc H ps qs) (e : Same H H') : TupsF enc H' ps qs := Paired.mapP h fun _ _ q => e _ _ q
theorem tupsF_keep (h : TupsF enc H ps qs) (e : ∀ p xs, H p = some (.tup xs) → H' p = some (.tup xs)) : TupsF enc H' ps qs := Paired.mapP h fun _ _ q => e _ _ q
theorem tupsF_snoc {t : Addr} {q : α} (ht : H t = some (.tup (enc q))) : ∀ {ps : List Addr} {qs : List α}, TupsF enc H ps qs → TupsF enc H (ps ++ [t]) (qs ++ [q])
  | _, _, Paired.nil => .cons ht .nil
  | _, _, Paired.cons a b => .cons a (tupsF_snoc ht b)
theorem tupsF_get : ∀ {ps : List Addr} {qs : List α} {i : Nat} {p : Addr}, TupsF enc H ps qs → ps[i]? = some p → ∃ q, qs[i]? = some q ∧ H p = some (.tup (enc q))
  | _, _, _, _, Paired.nil, e => by simp at e
  | _, _, 0, _, Paired.cons a _, e => by simp at e; subst e; exact ⟨_, rfl, a⟩
  | _, _, i + 1, _, Paired.cons _ b, e => by
    obtain ⟨q, h1, h2⟩ := tupsF_get (i := i) b (by simpa using e)
    exact ⟨q, by simpa using h1, h2⟩
structure Lst (enc : α → List V) (H : Hp) (l : Addr) (ps : List Addr) (qs : List α) : Prop where
  hl : H l = some (.lst (ps.map V.ref))
  r : TupsF enc H ps qs
theorem Lst.same {l : Addr} (R : Lst enc H l ps qs) (e : Same H H') : Lst enc H' l ps qs := ⟨e _ _ R.hl, tupsF_same R.r e⟩
end
abbrev F2 := Int × Int
def f2 (q : F2) : List V := [.int q.1, .int q.2]
end L2
namespace Sw
open L2
def nrm (q : F2) : F2 := (rN q.1 q.2, rD q.1 q.2)
theorem nrm_fr {q : F2} (h : q.2 ≠ 0) : Fr (nrm q).1 (nrm q).2 := rat_fr h
theorem nrm_cross {q : F2} (h : q.2 ≠ 0) : (nrm q).1 * q.2 = (nrm q).2 * q.1 := rat_cross h
end Sw
namespace L2
open PySem PySem.Spec PyProof.Rows
theorem app_at {H : Hp} {l : Addr} {xs : List V} {y : V} {Q : VK} (h : H l = some (.lst xs)) (hz : xs.length < 1000) (q : Q .non (upd H l (.lst (xs ++ [y])))) : rAppend (.ref l) [y] H Q := ⟨l, xs, y, rfl, rfl, h, line_lt hz, q⟩
theorem tyL_at {K : PySem.W.Frag} {H : Hp} {l : Addr} {xs : List V} (h : H l = some (.lst xs)) : tyV K "list" (.ref l) H := .inl ⟨rfl, _, .of h⟩
end L2
namespace L2
open PySem PySem.Spec PyProof.Rows
def tCallN (sp : Sp) (t : TA) : TE := fun σ H Q => t σ H fun vs H1 => sp vs H1 Q E0
section
variable {P : Program} {w : World} {X : Cx} {k : Nat} {x : Str} {ps : List Str} {sp : Sp} {p pos : Pos} {e : Expr} {es : List Expr} {t : TA}
end
end L2
namespace L2
open PySem PySem.Spec PyProof.Rows
end L2
namespace L2
open PySem PySem.Spec PyProof.Rows
end L2
namespace L2
open PySem PySem.Spec PyProof.Rows
section
variable {X : Cx} {o value : Expr} {f : Str} {pos pos' : Pos} {ta tv : TE}
end
def tXmk1 (C : Addr) (sp : Sp) (t : TA) : TE := fun σ H Q => t σ H fun vs H1 => vs.length ≤ 1000 ∧ ∀ e, H1 e = none → sp (.ref e :: vs) (upd H1 e (excO e C none true)) (fun v H2 => v = .non ∧ Q (.ref e) H2) E0
end L2
namespace L2
open PySem PySem.Spec PyProof.Rows
end L2
namespace L2
open PySem PySem.Spec PyProof.Rows
section
variable {X : Cx}
end
end L2
namespace Sw
open L2
def Fine (i : Nat) (b : Int) (q : Q4) : Prop := i < 60 ∧ 0 ≤ q.1 ∧ q.1 ≤ 1000000000000 ∧ 0 ≤ q.2.1 ∧ q.2.1 ≤ 11 ∧ 1 ≤ q.2.2.1 ∧ q.2.2.1 ≤ 1000000 ∧ 1 ≤ q.2.2.2 ∧ q.2.2.2 ≤ 1000000 ∧ b ≤ q.1
instance (i : Nat) (b : Int) (q : Q4) : Decidable (Fine i b q) := by unfold Fine; infer_instance
end Sw
namespace L2
open PySem PySem.Spec PyProof.Rows
section
variable {P : Program} {w : World} {K : PySem.W.Frag} {mg : Str → Option Value} {base : Heap} {CX : CXT} {C : Addr} {m qual : Str} {st : Stmt} {N ps : List Str} {dss : List (List V)} {k : Nat} {sp : Sp}
end
def tMethX (C : Addr) (m : Str) (sp : Sp) (dvs : List V) (Ek : XH) (ta : TE) (t : TA) : TE := fun σ H Q => ta σ H fun x H1 => ∃ a dx fs, x = .ref a ∧ H1 a = some (.ins C dx fs) ∧ fs.lookup m = none ∧
  t σ H1 fun vs H2 => sp (x :: (vs ++ dvs)) H2 Q (fun v d H' => Ek v d σ H')
def tMakeX (C : Addr) (sp : Sp) (dvs : List V) (Ek : XH) (t : TA) : TE := fun σ H Q => t σ H fun vs H1 => ∀ x dx, H1 x = none → H1 dx = none → dx ≠ x →
  sp (.ref x :: (vs ++ dvs)) (upd (upd H1 dx (.own x)) x (.ins C dx [])) (fun v H2 => v = .non ∧ Q (.ref x) H2) (fun v d H' => Ek v d σ H')
section
variable {X : Cx} {CX : CXT} {k : Nat} {f C : Addr} {fd : FuncData} {ps : List Str} {sp : Sp} {dvs : List V} {dss : List (List V)} {Ek : XH} {x m : Str} {p pos apos : Pos} {e o : Expr} {es : List Expr} {ta : TE} {t : TA}
end
section
variable {X : Cx}
end
end L2
namespace L2
open PySem PySem.Spec PyProof.Rows
def Itrs (lo c : Int) (n : Nat) : It := ⟨fun i _ => i < n, fun i H x H' => H' = H ∧ x = .int (lo + i * c), fun i _ => n ≤ i⟩
structure RngOk (i j c : Int) (n : Nat) : Prop where
  nz : c ≠ 0
  np : Builtin.divisionGoesByPylong (j - i) c = false
  sm : Builtin.Range.small i j c = true
  eq : (n : Int) = Builtin.Range.rangeSize i j c
def iRng3 (ta : TA) : TI := fun σ H R => ta σ H fun vs H1 => ∃ i j c n, vs = [.int i, .int j, .int c] ∧ RngOk i j c n ∧ R (Itrs i c n) H1
section
variable {X : Cx} {tg : Expr}
end
theorem for_step {wi : TI} {g : TG} {tb : TS} {D : Ends} {σ : St} {H : Hp} (h : ∀ Z : It → Hp → Prop, (∀ J H1, (∃ W : Nat → Nat → St → Hp → Prop, (∃ m, W 0 m σ H1) ∧ ∀ i m σ H, W i m σ H →
  (J.stop i H ∧ D.nx σ H) ∨ (J.go i H ∧ ∃ N : St → Hp → Prop, (∀ σ' H', N σ' H' → ∃ m', m' < m ∧ W (i + 1) m' σ' H') ∧ ∀ x H', J.yld i H x H' → g x σ H' fun σ2 H2 => tb { D with nx := N, ct := N, bk := D.nx } σ2 H2)) → Z J H1) → wi σ H Z) : tFor wi g tb D σ H := h _ fun _ _ x => x
theorem pickM {K : PySem.W.Frag} {H : Hp} {t : Addr} {i : Int} {Q : VK} (xs : List Int) (h0 : 0 ≤ i) (h1 : i < xs.length) (k : ∀ z : Int, z ∈ xs → Q (.int z) (upd H t (.lst (xs.map V.int)))) : rIxL K (.ref t) (.int i) (upd H t (.lst (xs.map V.int))) Q := by
  have := atI_nat (xs := xs.map V.int) (j := i.toNat) (v := V.int (xs[i.toNat]'(by omega))) (by simp)
  rw [Int.toNat_of_nonneg h0] at this
  exact ixL_at (.of upd_same) this (k _ (List.getElem_mem _))
section
variable {X : Cx}
end
end L2
namespace Sw
theorem q_cast_ne {d : Int} (h : d ≠ 0) : (d : Rat) ≠ 0 := by
  intro z
  exact h (Rat.intCast_inj.mp (by rw [z]; rfl))
theorem q_cast_pos {d : Int} (h : 0 < d) : (0 : Rat) < (d : Rat) := by
  have : ((0 : Int) : Rat) < (d : Rat) := Rat.intCast_lt_intCast.mpr h
  exact this
theorem q_self (q : Rat) : (q.num : Rat) / ((q.den : Int) : Rat) = q := by
  rw [← Rat.divInt_eq_div]; exact Rat.num_divInt_den q
theorem q_den_pos (q : Rat) : 0 < (q.den : Int) := by
  have := q.den_nz
  omega
theorem q_den_ne (q : Rat) : (q.den : Int) ≠ 0 := by
  have := q.den_nz
  omega
theorem q_num (q : Rat) : (q.num : Rat) = q * ((q.den : Int) : Rat) := by
  have h := q_self q
  have d := q_cast_ne (q_den_ne q)
  grind
theorem q_low (q : Rat) : dv q.num q.den = 1 := by
  unfold dv
  have := q.reduced
  unfold Nat.Coprime at this
  show ((Nat.gcd q.num.natAbs (q.den : Int).natAbs : Nat) : Int) = 1
  rw [Int.natAbs_natCast, this]
  rfl
theorem q_fr (q : Rat) : Fr q.num q.den := ⟨q_den_pos q, q_low q⟩
theorem fr_q {n d : Int} (f : Fr n d) : ((n : Rat) / (d : Rat)).num = n ∧ ((((n : Rat) / (d : Rat)).den : Nat) : Int) = d := by
  have hd : d ≠ 0 := by have := f.pos; omega
  refine Fr.uniq (q_fr _) f ?_
  have h := q_num ((n : Rat) / (d : Rat))
  generalize hq : (n : Rat) / (d : Rat) = q at h ⊢
  have e : (n : Rat) = q * d := by have := q_cast_ne hd; grind
  have : ((q.num * d : Int) : Rat) = ((n * (q.den : Int) : Int) : Rat) := by
    rw [Rat.intCast_mul, Rat.intCast_mul]
    grind
  exact Rat.intCast_inj.mp this
theorem q_cross {q : Rat} {n d : Int} (hd : d ≠ 0) (h : q = (n : Rat) / (d : Rat)) : q.num * d = (q.den : Int) * n := by
  have h1 := q_cast_ne hd
  have : ((q.num * d : Int) : Rat) = (((q.den : Int) * n : Int) : Rat) := by
    rw [Rat.intCast_mul, Rat.intCast_mul, q_num]
    grind
  exact Rat.intCast_inj.mp this
theorem q_lt {a b : Rat} : a.num * (b.den : Int) < b.num * (a.den : Int) ↔ a < b := (Rat.lt_iff a b).symm
structure SzQ (z : Nat) (q : Rat) : Prop where
  n : Sz z q.num
  d : Sz z (q.den : Int)
theorem SzQ.mono {m n : Nat} {q : Rat} (h : SzQ m q) (k : m ≤ n) : SzQ n q := ⟨h.n.mono k, h.d.mono k⟩
theorem cop_dvd' {n d x : Int} (h : dv n d = 1) (q : n ∣ d * x) : n ∣ x := cop_dvd (by rw [dv_comm]; exact h) q
theorem SzQ.of {z : Nat} {q : Rat} {n d : Int} (hd : d ≠ 0) (h : q = (n : Rat) / (d : Rat)) (s1 : Sz z n) (s2 : Sz z d) : SzQ z q := by
  have c := q_cross hd h
  refine ⟨?_, ?_⟩
  · by_cases hn : n = 0
    · subst hn
      rw [Int.mul_zero] at c
      have : q.num = 0 := by
        rcases Int.mul_eq_zero.mp c with z | z
        · exact z
        · exact absurd z hd
      rw [this]; exact Sz.zero z
    · exact s1.dvd (cop_dvd' (q_low q) ⟨d, c.symm⟩) hn
  · exact s2.dvd (cop_dvd (q_low q) ⟨n, c⟩) hd
theorem SzQ.int {z : Nat} {n : Int} (h : Sz (z + 1) n) : SzQ (z + 1) (n : Rat) := ⟨by rw [Rat.num_intCast]; exact h, by rw [Rat.den_intCast]; exact Sz.one z⟩
theorem add_q (a b : Rat) : ((a.num * (b.den : Int) + b.num * (a.den : Int) : Int) : Rat) / (((a.den : Int) * (b.den : Int) : Int) : Rat) = a + b := by
  rw [Rat.intCast_add, Rat.intCast_mul, Rat.intCast_mul, Rat.intCast_mul, q_num a, q_num b]
  have h1 := q_cast_ne (q_den_ne a)
  have h2 := q_cast_ne (q_den_ne b)
  grind
theorem sub_q (a b : Rat) : ((a.num * (b.den : Int) - b.num * (a.den : Int) : Int) : Rat) / (((a.den : Int) * (b.den : Int) : Int) : Rat) = a - b := by
  rw [Rat.intCast_sub, Rat.intCast_mul, Rat.intCast_mul, Rat.intCast_mul, q_num a, q_num b]
  have h1 := q_cast_ne (q_den_ne a)
  have h2 := q_cast_ne (q_den_ne b)
  grind
theorem mul_q (a b : Rat) : ((a.num * b.num : Int) : Rat) / (((a.den : Int) * (b.den : Int) : Int) : Rat) = a * b := by
  rw [Rat.intCast_mul, Rat.intCast_mul, q_num a, q_num b]
  have h1 := q_cast_ne (q_den_ne a)
  have h2 := q_cast_ne (q_den_ne b)
  grind
theorem div_q (a b : Rat) (hb : b.num ≠ 0) : ((a.num * (b.den : Int) : Int) : Rat) / (((a.den : Int) * b.num : Int) : Rat) = a / b := by
  rw [Rat.intCast_mul, Rat.intCast_mul, q_num a, q_num b]
  have h1 := q_cast_ne (q_den_ne a)
  have h2 := q_cast_ne (q_den_ne b)
  have h3 := q_cast_ne hb
  rw [q_num b] at h3
  grind
theorem SzQ.add {m n : Nat} {a b : Rat} (h : SzQ m a) (k : SzQ n b) : SzQ (m + n + 1) (a + b) := by
  refine .of (Int.mul_ne_zero (q_den_ne a) (q_den_ne b)) (add_q a b).symm ?_ ((h.d.mul k.d).mono (by omega))
  exact (h.n.mul k.d).add ((k.n.mul h.d).mono (by omega))
theorem SzQ.sub {m n : Nat} {a b : Rat} (h : SzQ m a) (k : SzQ n b) : SzQ (m + n + 1) (a - b) := by
  refine .of (Int.mul_ne_zero (q_den_ne a) (q_den_ne b)) (sub_q a b).symm ?_ ((h.d.mul k.d).mono (by omega))
  exact (h.n.mul k.d).sub ((k.n.mul h.d).mono (by omega))
theorem SzQ.div {m n : Nat} {a b : Rat} (hb : b.num ≠ 0) (h : SzQ m a) (k : SzQ n b) : SzQ (m + n) (a / b) :=
  .of (Int.mul_ne_zero (q_den_ne a) hb) (div_q a b hb).symm (h.n.mul k.d) (h.d.mul k.n)
theorem q_num_ne {q : Rat} (h : q ≠ 0) : q.num ≠ 0 := by
  intro z
  have := q_num q
  rw [z] at this
  have d := q_cast_ne (q_den_ne q)
  apply h
  have : (0 : Rat) = q * ((q.den : Int) : Rat) := this
  grind
end Sw
namespace L2
def fq (q : Rat) : List V := [.int q.num, .int (q.den : Int)]
theorem fq_nrm {t b : Int} (hb : b ≠ 0) : f2 (Sw.nrm (t, b)) = fq ((t : Rat) / (b : Rat)) := by
  have f := Sw.nrm_fr (q := (t, b)) hb
  have c := Sw.nrm_cross (q := (t, b)) hb
  have e : ((Sw.nrm (t, b)).1 : Rat) / ((Sw.nrm (t, b)).2 : Rat) = (t : Rat) / (b : Rat) := by
    have h1 := Sw.q_cast_ne hb
    have h2 : (((Sw.nrm (t, b)).2 : Int) : Rat) ≠ 0 := Sw.q_cast_ne (by have := f.pos; omega)
    have c' : (((Sw.nrm (t, b)).1 * b : Int) : Rat) = (((Sw.nrm (t, b)).2 * t : Int) : Rat) := by rw [c]
    rw [Rat.intCast_mul, Rat.intCast_mul] at c'
    grind
  have g := Sw.fr_q f
  rw [e] at g
  unfold f2 fq
  rw [g.1, g.2]
theorem fq_int (n : Int) : [V.int n, V.int 1] = fq (n : Rat) := by
  unfold fq
  rw [Rat.num_intCast, Rat.den_intCast]
  rfl
end L2
namespace Sw
theorem SzQ.min {z : Nat} {a b : Rat} (ha : SzQ z a) (hb : SzQ z b) : SzQ z (min a b) := by
  rw [Rat.min_def]
  split
  · exact ha
  · exact hb
end Sw
namespace L2
open PySem PySem.Spec PyProof.Rows
end L2
namespace L2
open PySem PySem.Spec PyProof.Rows
def rFld (K : PySem.W.Frag) (f : Str) (x : V) (H : Hp) (Q : VK) : Prop := ∃ a C dx fs v, x = .ref a ∧ H a = some (.ins C dx fs) ∧ Cls K C ∧ NoAttr K C f ∧ fs.lookup f = some v ∧ Q v H
theorem tFld_eq {K : PySem.W.Frag} {ta : TE} {f : Str} {σ : St} {H : Hp} {Q : VK} : tFld K ta f σ H Q = ta σ H fun x H1 => rFld K f x H1 Q := rfl
def rSet (K : PySem.W.Frag) (f : Str) (y x : V) (H : Hp) (Z : Hp → Prop) : Prop := ∃ a C dx fs, x = .ref a ∧ H a = some (.ins C dx fs) ∧ Cls K C ∧ NoAttr K C f ∧ fs.length < 1000 ∧ Z (upd H a (.ins C dx (putF f y fs)))
theorem sFld_eq {K : PySem.W.Frag} {ta tv : TE} {f : Str} {D : Ends} {σ : St} {H : Hp} : sFld K ta tv f D σ H = tv σ H fun y H1 => ta σ H1 fun x H2 => rSet K f y x H2 (D.nx σ) := rfl
def rMeth (C : Addr) (m : Str) (x : V) (H : Hp) (Z : Prop) : Prop := ∃ a dx fs, x = .ref a ∧ H a = some (.ins C dx fs) ∧ fs.lookup m = none ∧ Z
theorem tMethX_eq {C : Addr} {m : Str} {sp : Sp} {dvs : List V} {Ek : XH} {ta : TE} {t : TA} {σ : St} {H : Hp} {Q : VK} :
    tMethX C m sp dvs Ek ta t σ H Q = ta σ H fun x H1 => rMeth C m x H1 (t σ H1 fun vs H2 => sp (x :: (vs ++ dvs)) H2 Q (fun v d H' => Ek v d σ H')) := by
  unfold tMethX rMeth
  rfl
theorem at_int {H : Hp} {p : Addr} {n : Int} : upd H p (.tup [.int n, .int 1]) p = some (.tup (fq (n : Rat))) := by rw [upd_same, fq_int]
theorem fq_low {t b : Int} (hb : 0 < b) : [V.int (t / Sw.dv t b), V.int (b / Sw.dv t b)] = fq ((t : Rat) / (b : Rat)) := by
  rw [← fq_nrm (by omega)]
  unfold f2 Sw.nrm Sw.rN Sw.rD
  simp only [if_neg (show ¬ b < 0 by omega)]
end L2
namespace L2
open PySem PySem.Spec PyProof.Rows
theorem nx_step {t : TS} {D : Ends} {σ : St} {H : Hp} (h : ∀ R : St → Hp → Prop, (∀ σ H, D.nx σ H → R σ H) → t { D with nx := R } σ H) : t D σ H := h D.nx fun _ _ x => x
theorem fq_deep {K : PySem.W.Frag} {H : Hp} {p : Addr} {q : Rat} (h : H p = some (.tup (fq q))) : Deep K H (.ref p) (.tuple [.int q.num, .int (q.den : Int)]) := .tup (.of h) (.cons (.int _) (.cons (.int _) .nil))
end L2
namespace L2
open PySem PySem.Spec PyProof.Rows
end L2
namespace Sw
end Sw
namespace L2
open PySem PySem.Spec PyProof.Rows
end L2
namespace L2
open PySem PySem.Spec PyProof.Rows
section
variable {κ : Type} [DecidableEq κ]
def valV (kvs : List (κ × V)) (k : κ) : Option V := (kvs.find? fun kv => decide (kv.1 = k)).map (·.2)
def putK (kvs : List (κ × V)) (k : κ) (v : V) : List (κ × V) :=
  if (kvs.any fun kv => decide (kv.1 = k)) = true then kvs.map (fun kv => if kv.1 = k then (kv.1, v) else kv) else kvs ++ [(k, v)]
theorem valV_pos {p : κ × V} {r : List (κ × V)} {k : κ} (e : p.1 = k) : valV (p :: r) k = some p.2 := by simp [valV, List.find?_cons, e]
theorem valV_neg {p : κ × V} {r : List (κ × V)} {k : κ} (e : ¬ p.1 = k) : valV (p :: r) k = valV r k := by simp [valV, List.find?_cons, e]
theorem valV_any (k : κ) : ∀ kvs : List (κ × V), (kvs.any fun kv => decide (kv.1 = k)) = (valV kvs k).isSome
  | [] => rfl
  | p :: r => by
    rw [List.any_cons]
    by_cases e : p.1 = k
    · simp only [valV_pos e, decide_eq_true e, Bool.true_or, Option.isSome_some]
    · rw [valV_neg e, decide_eq_false e, Bool.false_or]; exact valV_any k r
theorem length_putK (kvs : List (κ × V)) (k : κ) (v : V) : (putK kvs k v).length ≤ kvs.length + 1 := by
  unfold putK
  split
  · rw [List.length_map]; omega
  · rw [List.length_append, List.length_cons, List.length_nil]; omega
theorem putK_new {kvs : List (κ × V)} {k : κ} (v : V) (h : valV kvs k = none) : putK kvs k v = kvs ++ [(k, v)] := by
  unfold putK
  rw [valV_any, h]
  exact if_neg (by decide)
theorem RelO.isSome_eq {o : Option V} {u : Option Value} (r : RelO o u) : o.isSome = u.isSome := by
  cases o with
  | none => cases u with
    | none => rfl
    | some _ => exact (show False from r).elim
  | some _ => cases u with
    | none => exact (show False from r).elim
    | some _ => rfl
theorem KV.any {kvs : List (κ × V)} {vs : List (κ × Value)} (r : KV kvs vs) (k : κ) : (kvs.any fun kv => decide (kv.1 = k)) = vs.any fun kv => decide (kv.1 = k) := by
  unfold KV at r
  induction r with
  | nil => rfl
  | cons h t ih => rw [List.any_cons, List.any_cons, ih, h.1]
theorem KV.repl {kvs : List (κ × V)} {vs : List (κ × Value)} (r : KV kvs vs) (k : κ) {y : V} {u : Value} (ry : RelV y u) :
    KV (kvs.map fun kv => if kv.1 = k then (kv.1, y) else kv) (vs.map fun kv => if kv.1 = k then (kv.1, u) else kv) := by
  unfold KV at r ⊢
  induction r with
  | nil => exact .nil
  | @cons p q ps qs h t ih =>
    rw [List.map_cons, List.map_cons]
    refine .cons ?_ ih
    obtain ⟨h1, h2⟩ := h
    by_cases e : p.1 = k
    · rw [if_pos e, if_pos (h1.symm.trans e)]; exact ⟨h1, ry⟩
    · rw [if_neg e, if_neg (fun z => e (h1.trans z))]; exact ⟨h1, h2⟩
theorem KV.put {kvs : List (κ × V)} {vs : List (κ × Value)} (r : KV kvs vs) (k : κ) {y : V} {u : Value} (ry : RelV y u) : KV (putK kvs k y) (stored vs k u) := by
  unfold putK stored
  rw [r.any k]
  by_cases e : (vs.any fun kv => decide (kv.1 = k)) = true
  · rw [if_pos e, if_pos e]; exact r.repl k ry
  · rw [if_neg e, if_neg e]; exact Paired.snoc r ⟨rfl, ry⟩
theorem KV.length {kvs : List (κ × V)} {vs : List (κ × Value)} (r : KV kvs vs) : kvs.length = vs.length := Paired.length r
end
theorem kV_is {P : Program} {w : World} {k : Key} {u : Value} (r : RelV (kV k) u) : (mixKind P w).is k u = true := by
  cases k with
  | inl i => obtain ⟨t, e⟩ := (show ∃ t, u = Value.int i t from r); subst e; exact mixKind_int P w i t
  | inr x => obtain ⟨t, e⟩ := (show ∃ t, u = Value.str x t from r); subst e; exact mixKind_str P w x t
theorem items_are {P : Program} {w : World} : ∀ {ks : List Key} {us : List Value}, Vals (ks.map kV) us → ItemsAre (mixKind P w) ks us
  | [], _, r => by rw [List.map_nil] at r; cases r; exact .nil
  | k :: ks, _, r => by
    rw [List.map_cons] at r
    cases r with
    | cons h t => exact .cons (kV_is h) (items_are t)
abbrev KT (H : Hp) : List (List Key × V) → List (List Key × Addr × Value) → Prop := Paired fun p q => p.1 = q.1 ∧ H q.2.1 = some (.tup (p.1.map kV)) ∧ RelV p.2 q.2.2
theorem KT.val {H : Hp} {kvs : List (List Key × V)} {xs : List (List Key × Addr × Value)} (r : KT H kvs xs) (k : List Key) : RelO (valV kvs k) ((atKey xs k).map (·.2)) := by
  induction r with
  | nil => exact True.intro
  | @cons p q ps qs h t ih =>
    obtain ⟨h1, _, h2⟩ := h
    by_cases e : p.1 = k
    · have e' : q.1 = k := h1.symm.trans e
      have b : atKey (q :: qs) k = some q.2 := by simp [atKey, List.find?_cons, e']
      rw [valV_pos e, b]; exact h2
    · have e' : ¬ q.1 = k := fun z => e (h1.trans z)
      have b : atKey (q :: qs) k = atKey qs k := by simp [atKey, List.find?_cons, e']
      rw [valV_neg e, b]; exact ih
theorem KT.repl {H : Hp} {kvs : List (List Key × V)} {xs : List (List Key × Addr × Value)} (r : KT H kvs xs) (k : List Key) {y : V} {u : Value} (ry : RelV y u) :
    KT H (kvs.map fun kv => if kv.1 = k then (kv.1, y) else kv) (xs.map (putAt k u)) := by
  induction r with
  | nil => exact .nil
  | @cons p q ps qs h t ih =>
    rw [List.map_cons, List.map_cons]
    refine .cons ?_ ih
    obtain ⟨h1, h2, h3⟩ := h
    unfold putAt
    by_cases e : p.1 = k
    · rw [if_pos e, if_pos (h1.symm.trans e)]; exact ⟨h1, h2, ry⟩
    · rw [if_neg e, if_neg (fun z => e (h1.trans z))]; exact ⟨h1, h2, h3⟩
theorem KT.put {H : Hp} {kvs : List (List Key × V)} {xs : List (List Key × Addr × Value)} (r : KT H kvs xs) (k : List Key) {b : Addr} {y : V} {u : Value} (hb : H b = some (.tup (k.map kV))) (ry : RelV y u) :
    KT H (putK kvs k y) (storedH xs k b u) := by
  have e : (kvs.any fun kv => decide (kv.1 = k)) = (atKey xs k).isSome := by
    rw [valV_any, (r.val k).isSome_eq, Option.isSome_map]
  unfold putK storedH
  rw [e]
  by_cases q : (atKey xs k).isSome = true
  · rw [if_pos q, if_pos q]; exact r.repl k ry
  · rw [if_neg q, if_neg q]; exact Paired.snoc r ⟨rfl, hb, ry⟩
theorem KT.keeps {H H' : Hp} {kvs : List (List Key × V)} {xs : List (List Key × Addr × Value)} (r : KT H kvs xs) (ht : ∀ b ys, H b = some (.tup ys) → H' b = some (.tup ys)) : KT H' kvs xs :=
  Paired.mapP r fun _ _ z => ⟨z.1, ht _ _ z.2.1, z.2.2⟩
section
variable {P : Program} {w : World} {H : Hp} {h : Heap} {a : Addr}
theorem rd_of {u : HO} (ok : HOk P w H h) (e : Rd H a u) : ObjOk P w H h a u := e.ok ok
theorem dk_rd {kvs : List (Key × V)} (ok : HOk P w H h) (e : Rd H a (.dK kvs)) : kvs.length ≤ sizeLine ∧ (a == sysModules) = false ∧ ∃ vs, KV kvs vs ∧ h.DictOf (mixKind P w) a vs :=
  show ObjOk P w H h a (.dK kvs) from rd_of ok e
theorem dk_of {kvs : List (Key × V)} (ok : HOk P w H h) (e : H a = some (.dK kvs)) : kvs.length ≤ sizeLine ∧ (a == sysModules) = false ∧ ∃ vs, KV kvs vs ∧ h.DictOf (mixKind P w) a vs := dk_rd ok (.inl e)
theorem key_of {ks : List Key} (ok : HOk P w H h) (e : H a = some (.tup (ks.map kV))) : (tupleKind (mixKind P w)).is h ks a := by
  obtain ⟨_, its, r, o, h1, h2, n, h3⟩ := (show ObjOk P w H h a (.tup (ks.map kV)) from ok a _ e)
  exact ⟨o, its.toArray, n, h1, h2, h3, by simpa using items_are r⟩
theorem dt_rd {kvs : List (List Key × V)} (ok : HOk P w H h) (e : Rd H a (.dT kvs)) : kvs.length ≤ sizeLine ∧ (a == sysModules) = false ∧
    ∃ xs, KT H kvs xs ∧ h.DictOfH (tupleKind (mixKind P w)) a xs := by
  obtain ⟨z, y, xs, r, o, es, ep, h1, h2, h3, h4, h5⟩ := (show ObjOk P w H h a (.dT kvs) from rd_of ok e)
  refine ⟨z, y, xs, r, o, es, ep, h1, h2, h3, h4, fun x hx => ?_, h5⟩
  have all : ∀ {l : List (List Key × V)} {m : List (List Key × Addr × Value)}, KT H l m → ∀ x ∈ m, (tupleKind (mixKind P w)).is h x.1 x.2.1 := by
    intro l m q
    induction q with
    | nil => intro x hx; exact nomatch hx
    | @cons p q ps qs hq t ih =>
      intro x hx
      rcases List.mem_cons.mp hx with e | hx
      · subst e
        exact key_of ok (by rw [← hq.1]; exact hq.2.1)
      · exact ih x hx
  exact all r x hx
theorem dt_of {kvs : List (List Key × V)} (ok : HOk P w H h) (e : H a = some (.dT kvs)) : kvs.length ≤ sizeLine ∧ (a == sysModules) = false ∧
    ∃ xs, KT H kvs xs ∧ h.DictOfH (tupleKind (mixKind P w)) a xs := dt_rd ok (.inl e)
end
def DGet (H : Hp) (a : Addr) (y : V) (r : Option V) : Prop :=
  (∃ kvs k, Rd H a (.dK kvs) ∧ y = kV k ∧ r = valV kvs k) ∨ ∃ kvs k b, Rd H a (.dT kvs) ∧ y = .ref b ∧ H b = some (.tup (k.map kV)) ∧ r = valV kvs k
def DPut (H : Hp) (a : Addr) (y v : V) (H' : Hp) : Prop :=
  (∃ kvs k, H a = some (.dK kvs) ∧ y = kV k ∧ kvs.length < sizeLine ∧ H' = upd H a (.dK (putK kvs k v))) ∨
  ∃ kvs k b, H a = some (.dT kvs) ∧ y = .ref b ∧ H b = some (.tup (k.map kV)) ∧ kvs.length < sizeLine ∧ H' = upd H a (.dT (putK kvs k v))
theorem DPut.k {H : Hp} {a : Addr} {kvs : List (Key × V)} {k : Key} {v : V} (e : H a = some (.dK kvs)) (hl : kvs.length < sizeLine) : DPut H a (kV k) v (upd H a (.dK (putK kvs k v))) := .inl ⟨kvs, k, e, rfl, hl, rfl⟩
section
variable {X : Cx} {pins : List (Addr × Obj)} {σ : St} {H : Hp} {s : Shared} {a : Addr} {y v : V} {u r : Value} {o : Option V} {A : Around} {E : Value → Shared → Prop}
theorem Inv.big (I : Inv X pins σ H s) : sysModules < s.heap.objs.size := by
  have h : mainGlobals < s.heap.objs.size := (I.mod.glob.keeps I.bk).lt
  exact Nat.lt_trans (by decide) h
theorem d_write {h' : Heap} {t' : Nat} {ob : HO} (I : Inv X pins σ H s) (mu : Mut (H a)) (hs : Heap.SameBut a s.heap h') (he : ∃ q, h'.get? a = some q) (new : ObjOk X.prog X.w (upd H a ob) h' a ob) :
    Inv X pins σ (upd H a ob) { s with heap := h', toks := t' } :=
  I.write (x := a) (e := a) mu (.inl rfl) (fun b q hb z => (hs.2 b hb).trans z) he new
theorem dk_new {P : Program} {w : World} {H' : Hp} {h' : Heap} {kvs : List (Key × V)} {vs : List (Key × Value)} (z : kvs.length ≤ sizeLine) (hd : (a == sysModules) = false) (rel : KV kvs vs) (dd : h'.DictOf (mixKind P w) a vs) :
    ObjOk P w H' h' a (.dK kvs) := ⟨z, hd, vs, rel, dd⟩
theorem d_setItem {H' : Hp} {Q : Unit → Shared → Prop} (hu : A.units + 1 < cLine) (I : Inv X pins σ H s) (g : DPut H a y v H') (ry : RelV y u) (rv : RelV v r) (h : ∀ s', Inv X pins σ H' s' → Q () s') :
    wpAny (model X.prog X.w) A (setItem (.ref a) u r) Q E s := by
  rcases g with ⟨kvs, k, e, ey, l, eH⟩ | ⟨kvs, k, b, e, ey, eb, l, eH⟩
  · subst ey eH
    obtain ⟨z, hd, vs, rel, dd⟩ := dk_of I.hok e
    have hz : vs.length ≤ sizeLine := by rw [← rel.length]; exact z
    have hl : (putK kvs k v).length ≤ sizeLine := by have := length_putK kvs k v; omega
    refine wpAny_setItem_pairs (hsz := hz) (kV_is ry) dd fun h' dd' hs => h _ ?_
    have he : ∃ q, h'.get? a = some q := let ⟨q, _, _, hq, _⟩ := dd'; ⟨q, hq⟩
    exact d_write I (by rw [e]; exact True.intro) hs he (dk_new hl hd (rel.put k rv) dd')
  · subst ey eH
    cases (show u = Value.ref b from ry)
    obtain ⟨z, hd, xs, rel, dd⟩ := dt_of I.hok e
    have hz : xs.length ≤ sizeLine := by rw [← Paired.length rel]; exact z
    have hl : (putK kvs k v).length ≤ sizeLine := by have := length_putK kvs k v; omega
    refine wpAny_setItem_heap (hsz := hz) (tupleKind_room_in1 hu) (key_of I.hok eb) dd fun h' dd' hs => h _ ?_
    obtain ⟨q, es, ep, hq, h2, h3, h4, _, h5⟩ := dd'
    refine d_write I (by rw [e]; exact True.intro) hs ⟨q, hq⟩ ⟨hl, hd, _, (rel.put k eb rv).keeps fun c ys ec => ?_, q, es, ep, hq, h2, h3, h4, h5⟩
    rw [upd_ne (ne_of ec e (fun z => nomatch z))]
    exact ec
end
section
variable {X : Cx} {pins : List (Addr × Obj)} {σ : St} {H : Hp} {s : Shared} {a : Addr} {kvs : List (Key × V)} {k : Key} {u : Value} {A : Around} {E : Value → Shared → Prop}
end
def tDGet (td ty : TE) : TE := fun σ H Q => td σ H fun x H1 => ty σ H1 fun y H2 => ∃ a v, x = .ref a ∧ DGet H2 a y (some v) ∧ Q v H2
def tDIn (ty td : TE) : TE := fun σ H Q => ty σ H fun y H1 => td σ H1 fun x H2 => ∃ a o, x = .ref a ∧ DGet H2 a y o ∧ Q (.bl o.isSome) H2
def tDNotIn (ty td : TE) : TE := fun σ H Q => ty σ H fun y H1 => td σ H1 fun x H2 => ∃ a o, x = .ref a ∧ DGet H2 a y o ∧ Q (.bl (!o.isSome)) H2
def sDPut (td ty tv : TE) : TS := fun D σ H => tv σ H fun v H1 => td σ H1 fun x H2 => ty σ H2 fun y H3 => ∃ a H4, x = .ref a ∧ DPut H3 a y v H4 ∧ D.nx σ H4
section
variable {X : Cx} {o i e value : Expr} {pos pos' tpos : Pos} {td ty tv : TE}
theorem ps_dput (hu : X.A.units + 1 < cLine) (ho : PE X o td) (hi : PE X i ty) (hv : PE X value tv) (hs : swapsWith value (some (.Subscript o i pos')) pos.line X.env = pure false) :
    PS X (.Assign [.Subscript o i pos'] value pos) (sDPut td ty tv) := by
  intro pins s σ H D I h
  refine wpAny_Assign_Subscript (thn (hv pins s σ H _ I h) fun r s1 ⟨v, H1, I1, rv, q1⟩ => thn (ho pins s1 σ H1 _ I1 q1) fun u s2 ⟨x, H2, I2, rx, q2⟩ => thn (hi pins s2 σ H2 _ I2 q2) fun iv s3 ⟨y, H3, I3, ry, a, H4, ex, g, q3⟩ => ?_) hs
  subst ex
  obtain rfl : u = Value.ref a := rx
  exact d_setItem hu I3 g ry rv fun s4 I4 => ⟨σ, H4, I4, q3⟩
end
theorem dk_empty {P : Program} {w : World} {H : Hp} (h : Heap) (hb : sysModules < h.objs.size) : ObjOk P w H (h.push { cls := .type "dict", data := .dict #[] }) h.objs.size (.dK []) :=
  ⟨Nat.zero_le _, beq_eq_false_iff_ne.mpr (Ne.symm (Nat.ne_of_lt hb)), [], .nil, Heap.DictOf.new h⟩
def tDNewK : TE := fun _ H Q => ∀ p, H p = none → Q (.ref p) (upd H p (.dK []))
section
variable {X : Cx} {pos : Pos}
theorem pe_dnewK : PE X (.Dict [] [] pos) tDNewK := fun pins s σ H Q I h =>
  wpAny_Dict_empty ⟨.ref s.heap.objs.size, _, I.laid (a := s.heap.objs.size) (o := .dK []) (t' := s.toks) (fun _ _ q => Heap.get?_push_of_some _ q) (Nat.le_refl _) (dk_empty s.heap I.big), rfl, h _ (I.hok.fresh (Nat.le_refl _))⟩
end
structure M1 (X : Cx) (o : Expr) (m : Str) (apos : Pos) (e : Expr) (cpos : Pos) : Prop where
  base : attributeBase o m X.env (eval o X.env) = eval o X.env
  few : ((backTo cpos (starEach [e] X.env)).all (fun x => !x.1) && (backToKw cpos (keywordEach [] X.env)).all (fun x => x.1.isSome)
    && decide (([e] : List Expr).length + ([] : List Keyword).length + (if ([] : List Keyword).isEmpty then 0 else 1) < 30)) = true
  line : (apos.endLine == cpos.line) = true
  trees : backTo cpos (starEach [e] X.env) = [(false, eval e X.env)]
def IsD (H : Hp) (a : Addr) : Prop := (∃ kvs, Rd H a (.dK kvs)) ∨ ∃ kvs, Rd H a (.dT kvs)
theorem isD_at {X : Cx} {pins : List (Addr × Obj)} {σ : St} {H : Hp} {s : Shared} {a : Addr} (I : Inv X pins σ H s) (d : IsD H a) :
    s.TypeIs (.ref a) "dict" ∧ (∀ b, Value.ref a = .ref b → ∃ ob, s.heap.get? b = some ob ∧ ob.dict = none) ∧ (a == sysModules) = false := by
  rcases d with ⟨kvs, e⟩ | ⟨kvs, e⟩
  · obtain ⟨_, hd, vs, _, dd⟩ := dk_rd I.hok e
    refine ⟨dd.typeIs, fun b q => ?_, hd⟩
    cases q
    obtain ⟨ob, _, _, h1, h2, _⟩ := dd
    exact ⟨ob, h1, h2.2.1⟩
  · obtain ⟨_, hd, xs, _, dd⟩ := dt_rd I.hok e
    refine ⟨dd.typeIs, fun b q => ?_, hd⟩
    cases q
    obtain ⟨ob, _, _, h1, h2, _⟩ := dd
    exact ⟨ob, h1, h2.2.1⟩
section
variable {X : Cx} {pins : List (Addr × Obj)} {σ : St} {H : Hp} {s : Shared} {a : Addr} {y d : V} {u r : Value} {o : Option V} {A : Around} {E : Value → Shared → Prop}
end
def tDGet1 (td ty : TE) : TE := fun σ H Q => td σ H fun x H1 => ∃ a, x = .ref a ∧ IsD H1 a ∧ ty σ H1 fun y H2 => ∃ o, DGet H2 a y o ∧ Q (o.getD .non) H2
def tDGet2 (td ty tx : TE) : TE := fun σ H Q => td σ H fun x H1 => ∃ a, x = .ref a ∧ IsD H1 a ∧ ty σ H1 fun y H2 => tx σ H2 fun z H3 => ∃ o, DGet H3 a y o ∧ Q (o.getD z) H3
section
variable {X : Cx} {o e f : Expr} {apos cpos : Pos} {td ty tx : TE}
end
section
variable {X : Cx} {pins : List (Addr × Obj)} {σ : St} {H : Hp} {s : Shared} {a : Addr} {kvs : List (Key × V)} {A : Around} {E : Value → Shared → Prop}
end
section
variable {X : Cx} {pins : List (Addr × Obj)} {σ : St} {H : Hp} {s : Shared} {a : Addr} {y : V} {u : Value} {A : Around} {E : Value → Shared → Prop}
end
end L2
namespace L2
open PySem PySem.Spec PyProof.Rows
section
variable {X : Cx}
end
section
variable {κ : Type} [DecidableEq κ]
theorem valV_in {kvs : List (κ × V)} {k : κ} {v : V} (h : valV kvs k = some v) : k ∈ kvs.map (·.1) := by
  have q : (kvs.any fun kv => decide (kv.1 = k)) = true := by
    rw [valV_any, h]
    all_goals rfl
  obtain ⟨p, hp, e⟩ := List.any_eq_true.mp q
  exact List.mem_map.mpr ⟨p, hp, of_decide_eq_true e⟩
end
end L2
namespace L2
open PySem PySem.Spec PyProof.Rows
def tTru (K : PySem.W.Frag) (ta : TE) : TT := fun σ H Q => ta σ H fun x H1 => ∃ k, TruV K x H1 k ∧ Q k H1
theorem pt_truthK {X : Cx} (K : PySem.W.Frag) (h : X.K = K) {a : Expr} {ta : TE} (ha : PE X a ta) (he : ∀ whole, isTrue a X.env whole = (do let v ← whole; standAt a.pos; holding [v] (truthy v)) := by intro _; rfl) : PT X a (tTru K ta) := h ▸ pt_truth ha he
end L2
namespace Sw
abbrev T3 := Rat × Rat × Int
def isHd (m : Rat) (u : T3) : Bool := !decide (m < u.1) && decide (m < u.2.1)
def hds (us : List T3) (m : Rat) : List T3 := us.filter (isHd m)
def minL : List Rat → Rat
  | [] => 0
  | q :: r => (q :: r).foldl min q
theorem foldl_min_mem : ∀ (l : List Rat) (d : Rat), l.foldl min d = d ∨ l.foldl min d ∈ l
  | [], d => .inl rfl
  | q :: r, d => by
    rcases foldl_min_mem r (min d q) with h | h
    · rw [List.foldl_cons, h, Rat.min_def]
      split
      · exact .inl rfl
      · exact .inr (by simp)
    · exact .inr (by rw [List.foldl_cons]; exact List.mem_cons_of_mem _ h)
theorem minL_mem {l : List Rat} (h : l ≠ []) : minL l ∈ l := by
  cases l with
  | nil => exact absurd rfl h
  | cons q r =>
    show (q :: r).foldl min q ∈ q :: r
    rcases foldl_min_mem (q :: r) q with e | e
    · rw [e]; simp
    · exact e
def Grd (D : Int) (q : Rat) : Prop := ∃ n : Int, q = (n : Rat) / (D : Rat)
theorem Grd.int {D : Int} (hD : D ≠ 0) (n : Int) : Grd D (n : Rat) := ⟨n * D, by have := q_cast_ne hD; rw [Rat.intCast_mul]; grind⟩
theorem Grd.add {D : Int} {a b : Rat} (h : Grd D a) (k : Grd D b) : Grd D (a + b) := by
  obtain ⟨n, rfl⟩ := h
  obtain ⟨m, rfl⟩ := k
  exact ⟨n + m, by rw [Rat.intCast_add]; grind⟩
theorem Grd.sub {D : Int} {a b : Rat} (h : Grd D a) (k : Grd D b) : Grd D (a - b) := by
  obtain ⟨n, rfl⟩ := h
  obtain ⟨m, rfl⟩ := k
  exact ⟨n - m, by rw [Rat.intCast_sub]; grind⟩
theorem Grd.muli {D : Int} {a : Rat} (h : Grd D a) (k : Int) : Grd D (a * (k : Rat)) := by
  obtain ⟨n, rfl⟩ := h
  exact ⟨n * k, by rw [Rat.intCast_mul]; grind⟩
theorem Grd.divi {D : Int} {a : Rat} (hD : D ≠ 0) (h : Grd D a) {k : Int} (hk : k ≠ 0) : Grd (D * k) (a / (k : Rat)) := by
  obtain ⟨n, rfl⟩ := h
  have h1 := q_cast_ne hD
  have h2 := q_cast_ne hk
  exact ⟨n, by rw [Rat.intCast_mul]; grind⟩
theorem Grd.more {D : Int} {a : Rat} (hD : D ≠ 0) (h : Grd D a) {k : Int} (hk : k ≠ 0) : Grd (D * k) a := by
  obtain ⟨n, rfl⟩ := h
  have h1 := q_cast_ne hD
  have h2 := q_cast_ne hk
  exact ⟨n * k, by rw [Rat.intCast_mul, Rat.intCast_mul]; grind⟩
theorem Grd.sz {D M : Int} {a b : Nat} {q : Rat} (h : Grd D q) (hD : 0 < D) (zD : Sz a D) (zM : Sz b M) (h1 : -(M : Rat) ≤ q) (h2 : q ≤ (M : Rat)) (hb : 1 ≤ b) : SzQ (a + b) q := by
  obtain ⟨n, rfl⟩ := h
  have dp := q_cast_pos hD
  have dn := q_cast_ne (show D ≠ 0 by omega)
  refine .of (by omega) rfl ((zD.mul zM).le ?_) (zD.mono (by omega))
  have e : (n : Rat) / (D : Rat) * (D : Rat) = (n : Rat) := by grind
  have u : (n : Rat) ≤ ((M * D : Int) : Rat) := by
    rw [← e, Rat.intCast_mul]
    exact Rat.mul_le_mul_of_nonneg_right h2 (by grind)
  have l : ((-(M * D) : Int) : Rat) ≤ (n : Rat) := by
    rw [← e, Rat.intCast_neg, Rat.intCast_mul, show -((M : Rat) * (D : Rat)) = -(M : Rat) * (D : Rat) by grind]
    exact Rat.mul_le_mul_of_nonneg_right h1 (by grind)
  have u' := Rat.intCast_le_intCast.mp u
  have l' := Rat.intCast_le_intCast.mp l
  rw [Int.mul_comm D M]
  omega
end Sw
namespace L2
open PySem PySem.Spec PyProof.Rows
theorem paired_snoc {α β : Type} {F : α → β → Prop} {a : α} {b : β} (h : F a b) : ∀ {l₁ : List α} {l₂ : List β}, Paired F l₁ l₂ → Paired F (l₁ ++ [a]) (l₂ ++ [b])
  | _, _, Paired.nil => .cons h .nil
  | _, _, Paired.cons x y => .cons x (paired_snoc h y)
theorem paired_get {α β : Type} {F : α → β → Prop} : ∀ {l₁ : List α} {l₂ : List β} {i : Nat} {a : α}, Paired F l₁ l₂ → l₁[i]? = some a → ∃ b, l₂[i]? = some b ∧ F a b
  | _, _, _, _, Paired.nil, e => by simp at e
  | _, _, 0, _, Paired.cons x _, e => by simp at e; subst e; exact ⟨_, rfl, x⟩
  | _, _, i + 1, _, Paired.cons _ y, e => by
    obtain ⟨b, h1, h2⟩ := paired_get (i := i) y (by simpa using e)
    exact ⟨b, by simpa using h1, h2⟩
theorem take_succ_of {α : Type} {l : List α} {i : Nat} {x : α} (h : l[i]? = some x) : l.take (i + 1) = l.take i ++ [x] := by
  rw [List.take_add_one, h]; rfl
end L2
namespace L2
open PySem PySem.Spec PyProof.Rows
end L2
namespace Sw
open L2
end Sw
namespace L2
open PySem PySem.Spec PyProof.Rows
end L2
namespace L2
open PySem PySem.Spec PyProof.Rows
def Ite1 (K : PySem.W.Frag) (a : Addr) : It :=
  ⟨fun i H => ∃ xs x, SqL K H a xs ∧ xs[i]? = some x,
   fun i H y H' => ∃ p x, y = .ref p ∧ H p = none ∧ (∀ xs, SqL K H a xs → xs[i]? = some x) ∧ H' = upd H p (.tup [.int ((i + 1 : Nat) : Int), x]),
   fun i H => ∃ xs, SqL K H a xs ∧ xs.length = i⟩
section
variable {X : Cx}
def iEnum1 (K : PySem.W.Frag) (ta : TA) : TI := fun σ H R => ta σ H fun vs H1 => ∃ a, vs = [.ref a] ∧ (∃ xs, SqL K H1 a xs) ∧ R (Ite1 K a) H1
end
end L2
namespace L2
open PySem PySem.Spec PyProof.Rows
section
variable {X : Cx}
def Itv (K : PySem.W.Frag) (a : Addr) (xs : List V) : It :=
  ⟨fun i H => SqL K H a xs ∧ i < xs.length, fun i H x H' => H' = H ∧ xs.reverse[i]? = some x, fun i H => SqL K H a xs ∧ xs.length = i⟩
def iRev (K : PySem.W.Frag) (ta : TA) : TI := fun σ H R => ta σ H fun vs H1 => ∃ a xs, vs = [.ref a] ∧ SqL K H1 a xs ∧ R (Itv K a xs) H1
end
end L2
namespace L2
end L2
namespace L2
open PySem PySem.Spec PyProof.Rows
def DSd (H : Hp) (a : Addr) (y d : V) (v : V) (H' : Hp) : Prop := ∃ kvs k, H a = some (.dK kvs) ∧ y = kV k ∧ kvs.length < sizeLine ∧ ((valV kvs k = some v ∧ H' = H) ∨ (valV kvs k = none ∧ v = d ∧ H' = upd H a (.dK (putK kvs k d))))
section
variable {X : Cx} {pins : List (Addr × Obj)} {σ : St} {H H' : Hp} {s : Shared} {a : Addr} {y d v : V} {u r : Value} {A : Around} {E : Value → Shared → Prop}
end
def tDSd (td ty tx : TE) : TE := fun σ H Q => td σ H fun x H1 => ∃ a, x = .ref a ∧ IsD H1 a ∧ ty σ H1 fun y H2 => tx σ H2 fun z H3 => ∃ v H4, DSd H3 a y z v H4 ∧ Q v H4
section
variable {X : Cx} {o e f : Expr} {td ty tx : TE} {apos cpos : Pos}
end
end L2
namespace Sw
open L2
def ov (low high : Rat) (u : T3) : Rat := if u.2.1 ≤ low then 0 else if high ≤ u.1 then 0 else (if u.2.1 ≤ high then u.2.1 else high) - (if low ≤ u.1 then u.1 else low)
theorem foldl_min_le : ∀ (l : List Rat) (d : Rat), l.foldl min d ≤ d ∧ ∀ x ∈ l, l.foldl min d ≤ x
  | [], d => ⟨by show d ≤ d; grind, fun x h => absurd h List.not_mem_nil⟩
  | q :: r, d => by
    obtain ⟨h1, h2⟩ := foldl_min_le r (min d q)
    have hm : min d q ≤ d ∧ min d q ≤ q := by rw [Rat.min_def]; split <;> constructor <;> grind
    refine ⟨by rw [List.foldl_cons]; grind, fun x hx => ?_⟩
    rw [List.foldl_cons]
    rcases List.mem_cons.mp hx with e | e
    · subst e; grind
    · exact h2 x e
end Sw
namespace Sw
open L2
end Sw
namespace Sw
open L2
end Sw
namespace L2
open PySem PySem.Spec PyProof.Rows
section
variable {X : Cx}
end
abbrev D2 := Int × Int
def d2 (g : D2) : List V := [.int g.1, .int g.2]
end L2
namespace Sw
open L2
end Sw
namespace L2
open PySem PySem.Spec PyProof.Rows
theorem comp_range {lo : Int} {n : Nat} {g : TG} {tc : TT} {te : TE} {D : Addr} {τ : St} {H : Hp} {Q : VK} (Pv : Nat → St → Hp → Prop) (h0 : Pv 0 τ H)
    (hs : ∀ i τ H, i < n → Pv i τ H → g (.int (lo + i)) τ H fun τ2 H3 => tc τ2 H3 fun b H4 => if b = true then te τ2 H4 fun y H5 => ∃ ys, H5 D = some (.lst ys) ∧ ys.length < sizeLine ∧ Pv (i + 1) τ2 (upd H5 D (.lst (ys ++ [y]))) else Pv (i + 1) τ2 H4)
    (hd : ∀ τ H, Pv n τ H → Q (.ref D) H) : CompG (Itr lo n) g tc te D τ H Q := by
  refine ⟨fun i m τ H => m = n - i ∧ i ≤ n ∧ Pv i τ H, ⟨n, by simp, Nat.zero_le _, h0⟩, ?_⟩
  rintro i m τ H ⟨rfl, hi, p⟩
  by_cases hlt : i < n
  · refine .inr ⟨hlt, Pv (i + 1), fun τ' H' p' => ⟨n - (i + 1), by omega, rfl, hlt, p'⟩, fun x H' y => ?_⟩
    obtain ⟨e, y⟩ := y
    subst e y
    exact hs i τ _ hlt p
  · have e : i = n := by omega
    subst e
    exact .inl ⟨Nat.le_refl _, hd τ H p⟩
end L2
namespace L2
open PySem PySem.Spec PyProof.Rows
section
variable {X : Cx}
theorem ps_setC {i0 : Nat} {y : Str} {py spos : Pos} {elt target iter : Expr} {ifs : List Expr} {scope : Scope} {pos : Pos} {cl : List (Str × Addr)} {ts : List Str} {fr : List (Str × Nat)} {wi : TI} {g : TG} {tc : TT} {te : TE} (hcalm : X.calm = true)
    (hclos : closureFor scope X.env = pure cl) (hcell : ∀ y ∈ scope.names, y.2 ≠ .cell) (hkind : scope.kind = .function) (hnames : ∀ y ∈ scope.names, y.2 = .local → scope.names.lookup y.1 = some .local)
    (hcl : ∀ x c, cl.lookup x = some c → X.env.cells.lookup x = some c)
    (hhas : ∀ x, ((relabel scope X.env).names.lookup x = some .cell ∨ (relabel scope X.env).names.lookup x = some .free) → ∃ c, cl.lookup x = some c) (hfr : FrOk X (relabel scope X.env) fr)
    (hi : PI X target iter wi) (hg : ∀ fp s H, PG (cxComp X scope cl (ts ++ fr.map (·.1)) fp s H) target g) (hc : ∀ fp s H, PIfs (cxComp X scope cl (ts ++ fr.map (·.1)) fp s H) ifs tc)
    (he : ∀ fp s H, PE (cxComp X scope cl (ts ++ fr.map (·.1)) fp s H) elt te) (hsw : swapsWith (.ListComp elt [⟨target, iter, ifs, 0⟩] scope pos) (some (.Name y py)) spos.line X.env = pure true) (hN : X.N.Nodup) (hiy : X.N[i0]? = some y) (hy : Loc X.env.scope y)
    (hs : ∀ x, foldedSetIterable iter X.env x = pure x := by intro _; rfl) (hf : X.fn y = true ∨ X.env.scope.names.lookup y = some .local := by first | exact .inl rfl | exact .inr rfl | assumption) :
    PS X (.Assign [.Name y py] (.ListComp elt [⟨target, iter, ifs, 0⟩] scope pos) spos) (tAsg (tComp ts.length fr wi g tc te) (gName i0)) := by
  intro pins s σ H D I h
  have h : tComp ts.length fr wi g tc te σ H (fun x H1 => D.nx (σ.set i0 (some x)) H1) := h
  rw [exec_Assign_Name_used _ _ _ _ hsw]
  refine wpAny_bind (wpAny_standAt (wpAny_bind ?_))
  show wpAny _ _ (do let _ ← comprehension (.ListComp elt [⟨target, iter, ifs, 0⟩] scope pos) scope X.env _ (newList []) false (eval iter X.env) (some (assign (.Name y py) X.env))) _ _ s
  refine wpAny_bind (wpAny_mono (wpAny_comprehension_free (use := some (assign (.Name y py) X.env)) (Q := fun _ s' => SP X pins D .next s') rfl hs hclos hkind hnames (thn (hi pins s σ H _ I h) fun xv s1 h1 => thn h1 fun itv s2 h2 => ?_)) (fun _ s' hq => wpAny_pure (wpAny_pure hq)) fun _ _ e => e)
  obtain ⟨it, fp, tn, J, H2, rfl, I2, T, st2, f2, hR⟩ := h2
  have D0 : H2 s2.heap.objs.size = none := I2.hok.fresh (Nat.le_refl _)
  obtain ⟨W, ⟨m0, w0⟩, turn⟩ := hR s2.heap.objs.size D0
  refine wpAny_newObj_type (wpAny_newFunctionEnv hcell (by intro y hy; simp at hy) (fun h₁ hns₁ hsb₁ => ?_) hkind)
  dsimp only at hns₁ hsb₁ ⊢
  have I3 : Inv X pins σ (upd H2 s2.heap.objs.size (.lst [])) { s2 with heap := s2.heap.push { cls := .type "list", dict := none, data := .seq ([] : List Value).toArray } } :=
    I2.laid (t' := s2.toks) (fun _ _ q => Heap.get?_push_of_some _ q) (Nat.le_refl _) ⟨Nat.zero_le _, [], 0, .nil, Heap.get?_push_size _ rfl⟩
  have kp3 : ∀ b o, s2.heap.get? b = some o → (s2.heap.push { cls := .type "list", dict := none, data := .seq ([] : List Value).toArray }).get? b = some o := fun b o q => Heap.get?_push_of_some _ q
  have sz3 : (s2.heap.push { cls := .type "list", dict := none, data := .seq ([] : List Value).toArray }).objs.size = s2.heap.objs.size + 1 := Heap.size_push ..
  generalize s2.heap.push { cls := .type "list", dict := none, data := .seq ([] : List Value).toArray } = hp3 at hns₁ hsb₁ I3 kp3 sz3 ⊢
  have kp : ∀ b o, hp3.get? b = some o → h₁.get? b = some o := fun b o e => hsb₁.extBut b o (Nat.ne_of_lt (Heap.lt_size e)) (Heap.get?_push_of_some _ e)
  have flt : ∀ b ∈ fp, b < s2.heap.objs.size := fun b hb => by
    obtain ⟨o, e, _⟩ := T.obj _ _ st2 b hb
    exact Heap.lt_size e
  have fr3 : ∀ b ∈ fp, (upd H2 s2.heap.objs.size (.lst [])) b = none := fun b hb => by rw [upd_ne (Nat.ne_of_lt (flt b hb))]; exact (f2 b hb).1
  have f3 : ∀ b ∈ fp, FpOk X pins (upd H2 s2.heap.objs.size (.lst [])) b ∧ b < hp3.objs.size := fun b hb => ⟨⟨fr3 b hb, (f2 b hb).2⟩, by rw [sz3]; exact Nat.lt_succ_of_lt (flt b hb)⟩
  have I4 := cx_start (ts := ts) (t' := s2.toks + ([] : List (Str × Value)).length) I3 hkind hcl hhas hfr f3 hns₁ kp
  have st4 : tn 0 h₁ := T.keep _ _ _ st2 fun b hb o e => kp b o (kp3 b o e)
  have loop : codeAny (model X.prog X.w) X.A (.compLoop (.ListComp elt [⟨target, iter, ifs, 0⟩] scope pos) 0 (.ref it) (.ref s2.heap.objs.size) (compEnvC scope cl hp3.objs.size X.env))
      (compPost (model X.prog X.w) X.A X.xe (some (assign (.Name y py) X.env)) (fun _ s' => SP X pins D .next s') (.ref s2.heap.objs.size) hp3.objs.size) { s2 with heap := h₁, toks := s2.toks + ([] : List (Str × Value)).length } := by
    refine codeAny_compLoop_go (fun n s' => ∃ i τ H', Inv (cxComp X scope cl (ts ++ fr.map (·.1)) fp { s2 with heap := hp3 } (upd H2 s2.heap.objs.size (.lst []))) [] τ H' s' ∧ tn i s'.heap ∧ (∀ b ∈ fp, H' b = none) ∧ W i n τ H') ?_ m0 ⟨0, _, _, I4, st4, fr3, w0⟩
    rintro n s5 ⟨i, τ, H5, I5, st5, fr5, w5⟩
    have stat : ∀ {H' : Hp}, (∀ b ∈ fp, H' b = none) → ∀ b ∈ fp, FpOk (cxComp X scope cl (ts ++ fr.map (·.1)) fp { s2 with heap := hp3 } (upd H2 s2.heap.objs.size (.lst []))) [] H' b :=
      fun hn b hb => ⟨hn b hb, (I5.ok.exf b hb).1, I5.ok.exfs b hb, .inl hb, (I5.ok.exf b hb).2, fun p hp => absurd (show p ∈ ([] : List (Addr × Obj)) from hp) (by simp)⟩
    rcases turn i n τ H5 w5 with ⟨stop, qn⟩ | ⟨go, Nn, hN, step⟩
    · refine thn (T.done (cxComp X scope cl (ts ++ fr.map (·.1)) fp { s2 with heap := hp3 } (upd H2 s2.heap.objs.size (.lst []))) rfl rfl rfl hcalm i [] s5 τ H5 _ I5 (stat fr5) st5 stop) fun r s6 ⟨hr, I6⟩ => ?_
      subst hr
      have neC : ∀ b o, hp3.get? b = some o → b ≠ hp3.objs.size := fun b o e => Nat.ne_of_lt (Heap.lt_size e)
      have I7 : Inv X pins σ H5 s6 := by
        refine I3.call' (s' := s6) (ch := fp) I6.os ⟨fun b o e n hb hx => I6.base.keep b o e n hb hx, fun b o e n hb hx => I6.base.slot b o e n hb hx, I6.base.free, fun b o e hx => I6.base.there b o e hx, I6.base.tups, I6.base.frzs, I6.base.tbls⟩ I6.hok I6.bare (fun b hb => ?_)
        exact ⟨(f2 b hb).2.2.2.1, (f2 b hb).2.1, (f2 b hb).2.2.2.2.1, (f2 b hb).2.2.2.2.2⟩
      have lC : X.env.locals ≠ hp3.objs.size := by
        obtain ⟨_, ⟨o, _, _, ho, _⟩, _⟩ := I3.loc
        exact neC _ o ho
      have cC : ∀ x c, X.env.cells.lookup x = some c → c ≠ hp3.objs.size := fun x c e => by
        obtain ⟨v, o, ho, _⟩ := I3.cell x c e
        exact neC _ o ho
      have fC : H5 hp3.objs.size = none := I6.free
      obtain ⟨m, hn, _⟩ := I6.loc
      show wpAny _ _ (assign (.Name y py) X.env (.ref s2.heap.objs.size)) _ _ _
      refine wpAny_assign_Name (store_ok2 I7 hN hiy hy (v := .ref s2.heap.objs.size) rfl (fun s8 I8 hsb => ?_) hf)
      obtain ⟨al, hs8, hal⟩ := hsb
      have alC : hp3.objs.size ≠ al := by
        rcases hal with z | z
        · rw [z]; exact Ne.symm lC
        · exact Ne.symm (cC _ _ z)
      have hs8 : Heap.SameBut al s6.heap s8.heap := hs8
      have hnC : s6.heap.Ns hp3.objs.size m := hn
      refine ⟨m, hnC.sameBut hs8 alC, fun h' hs' => ⟨σ.set i0 (some (.ref s2.heap.objs.size)), H5, ?_, qn⟩⟩
      have hs' : Heap.SameBut hp3.objs.size s8.heap h' := hs'
      refine I8.call' (s' := { s8 with heap := h' }) (ch := [hp3.objs.size]) rfl ⟨fun b o e n hb hx => ?_, fun b o e n hb hx => ?_, fun b o e n hx => n, fun b o e hx => ?_, fun _ _ q => q, fun _ _ _ q => q, fun b ps q => ⟨#[], by rw [q]; simp⟩⟩ (fun b ob e => ?_) I8.bare (fun b hb => ?_)
      · exact (hs'.2 b (fun z => hx (by simp [z]))).trans e
      · exact ⟨o.slots, (hs'.2 b (fun z => hx (by simp [z]))).trans e⟩
      · exact ⟨o, (hs'.2 b (fun z => hx (by simp [z]))).trans e⟩
      · refine (I8.hok b ob e).stay (fun c v hc q => (hs'.2 c ?_).trans q) (fun _ q => q) fun _ _ q => q
        intro z
        rcases hc with w | w
        · rw [← w, z, fC] at e; cases e
        · rw [z, fC] at w; cases w
      · have z : b = hp3.objs.size := by simpa using hb
        subst z
        refine ⟨.inr (Nat.le_trans (Nat.le_trans I2.sz (by rw [sz3]; exact Nat.le_succ _)) (Nat.le_refl _)), Ne.symm lC, cC, fun p hp e => ?_⟩
        obtain ⟨q1, _⟩ := I3.pin p hp
        exact neC _ _ q1 e
    · refine thn (T.item (cxComp X scope cl (ts ++ fr.map (·.1)) fp { s2 with heap := hp3 } (upd H2 s2.heap.objs.size (.lst []))) rfl rfl rfl hcalm i [] s5 τ H5 _ I5 (stat fr5) st5 go) fun r s6 ⟨u, hr, h6⟩ => ?_
      subst hr
      refine thn h6 fun _ s7 ⟨x, H7, I7, r7, y7, st7, fr7⟩ => ?_
      have I7' := I7.pinned (stat fr7) (T.obj _ _ st7)
      refine wpAny_mono (hg fp _ _ _ s7 τ H7 x u _ I7' r7 (step x H7 y7)) (fun _ s8 ⟨τ8, H8, I8, q8⟩ => ?_) fun _ _ z => False.elim z
      have again : ∀ {τ9 : St} {H9 : Hp} {s9 : Shared}, Inv (cxComp X scope cl (ts ++ fr.map (·.1)) fp { s2 with heap := hp3 } (upd H2 s2.heap.objs.size (.lst []))) ([] ++ pinsAt fp s7.heap) τ9 H9 s9 → Nn τ9 H9 →
          ∃ m, m < n ∧ ∃ i τ H', Inv (cxComp X scope cl (ts ++ fr.map (·.1)) fp { s2 with heap := hp3 } (upd H2 s2.heap.objs.size (.lst []))) [] τ H' s9 ∧ tn i s9.heap ∧ (∀ b ∈ fp, H' b = none) ∧ W i m τ H' := fun {τ9 H9 s9} I9 n9 => by
        obtain ⟨m', hm, w9⟩ := hN τ9 H9 n9
        refine ⟨m', hm, i + 1, τ9, H9, I9.unpinned, T.keep _ _ _ st7 fun b hb o e => (I9.pin (b, o) (List.mem_append_right _ (List.mem_append_right _ (mem_pinsAt hb e)))).1, fun b hb => ?_, w9⟩
        obtain ⟨o, e, d⟩ := T.obj _ _ st7 b hb
        exact (I9.pin (b, o) (List.mem_append_right _ (List.mem_append_right _ (mem_pinsAt hb e)))).2.1
      refine wpAny_mono (hc fp _ _ _ s8 τ8 H8 _ I8 q8) (fun ok s9 ⟨H9, I9, q9⟩ => ?_) fun _ _ z => False.elim z
      cases ok with
      | false => exact again I9 q9
      | true =>
        refine wpAny_mono (he fp _ _ _ s9 τ8 H9 _ I9 q9) (fun y s10 ⟨v, H10, I10, rv, ys, hD, hl, qN⟩ => ?_) fun _ _ z => False.elim z
        refine wpAny_mono (mt_append (X := cxComp X scope cl (ts ++ fr.map (·.1)) fp { s2 with heap := hp3 } (upd H2 s2.heap.objs.size (.lst []))) _ s10 τ8 H10 (.ref s2.heap.objs.size) [v] (.ref s2.heap.objs.size) [y] (fun _ H => Nn τ8 H) I10 rfl (.cons rv .nil) ⟨_, ys, v, rfl, rfl, hD, hl, qN⟩) (fun _ s11 ⟨_, H11, I11, _, q11⟩ => again I11 q11) fun _ _ z => False.elim z
  exact codeAny_compStart_list loop (T.self X.A 0 _ _ _ st4 loop)
theorem ps_setL {i0 : Nat} {y : Str} {py spos : Pos} {elt target iter : Expr} {ifs : List Expr} {scope : Scope} {pos : Pos} {cl : List (Str × Addr)} (ts : List Str) (fr : List (Str × Nat)) {wi : TI} {g : TG} {tc : TT} {te : TE} (hcalm : X.calm = true)
    (hclos : closureFor scope X.env = pure cl) (hcell : ∀ y ∈ scope.names, y.2 ≠ .cell) (hkind : scope.kind = .function) (hnames : ∀ y ∈ scope.names, y.2 = .local → scope.names.lookup y.1 = some .local)
    (hcl : ClOk X.env cl) (hhas : clAll (relabel scope X.env).names cl = true) (hfr : FrOk X (relabel scope X.env) fr)
    (hi : PI X target iter wi) (hg : ∀ fp s H, PG (cxComp X scope cl (ts ++ fr.map (·.1)) fp s H) target g) (hc : ∀ fp s H, PIfs (cxComp X scope cl (ts ++ fr.map (·.1)) fp s H) ifs tc)
    (he : ∀ fp s H, PE (cxComp X scope cl (ts ++ fr.map (·.1)) fp s H) elt te)
    (hsw : swapsWith (.ListComp elt [⟨target, iter, ifs, 0⟩] scope pos) (some (.Name y py)) spos.line X.env = pure true) (hN : X.N.Nodup) (hiy : X.N[i0]? = some y) (hy : Loc X.env.scope y)
    (hs : ∀ x, foldedSetIterable iter X.env x = pure x := by intro _; rfl) (hf : X.fn y = true ∨ X.env.scope.names.lookup y = some .local := by first | exact .inl rfl | exact .inr rfl | assumption) :
    PS X (.Assign [.Name y py] (.ListComp elt [⟨target, iter, ifs, 0⟩] scope pos) spos) (tAsg (tComp ts.length fr wi g tc te) (gName i0)) :=
  ps_setC hcalm hclos hcell hkind hnames hcl.get (fun x q => clAll_get hhas x q) hfr hi hg hc he hsw hN hiy hy hs hf
end
end L2
namespace L2
open PySem PySem.Spec PyProof.Rows
theorem kV_of {P : Program} {w : World} {k : Key} {u : Value} (h : (mixKind P w).is k u = true) : RelV (kV k) u := by
  rcases keyIs_shape h with ⟨i, t, rfl, rfl⟩ | ⟨x, t, rfl, rfl⟩
  · exact ⟨t, rfl⟩
  · exact ⟨t, rfl⟩
theorem vals_keys {P : Program} {w : World} : ∀ {kvs : List (Key × V)} {vs : List (Key × Value)} {us : List Value}, KV kvs vs → us.length = vs.length → (∀ (j : Nat) (v : Value), us[j]? = some v → ∃ k x, vs[j]? = some (k, x) ∧ (mixKind P w).is k v = true) → Vals (kvs.map fun kv => kV kv.1) us
  | _, _, [], Paired.nil, _, _ => .nil
  | _, _, _ :: _, Paired.nil, e, _ => by cases e
  | _, _, [], Paired.cons _ _, e, _ => by cases e
  | _, _, u :: us, Paired.cons (a := p) (b := q) h t, e, hj => by
    obtain ⟨k, x, h1, h2⟩ := hj 0 u rfl
    have h1 : q = (k, x) := by simpa using h1
    subst h1
    have e1 : p.1 = k := h.1
    refine .cons ?_ (vals_keys t (by simpa using e) fun j v hv => hj (j + 1) v (by simpa using hv))
    show RelV (kV p.1) u
    rw [e1]
    exact kV_of h2
section
variable {X : Cx}
end
end L2
namespace L2
open PySem PySem.Spec PyProof.Rows
section
variable {X : Cx} {pins : List (Addr × Obj)} {σ : St} {H : Hp} {s : Shared} {a : Addr} {kvs : List (Key × V)} {o : Obj}
theorem Inv.frozen (I : Inv X pins σ H s) (h : H a = some (.dK kvs)) (ho : s.heap.get? a = some o) : Inv X pins σ (upd H a (.frz o (.dK kvs))) s := by
  have ne : ∀ b, H b = none → b ≠ a := fun b n z => by rw [z, h] at n; cases n
  have nt : ∀ b u, H b = some u → (∀ k, u ≠ .dK k) → b ≠ a := fun b u e n z => by rw [z, h] at e; cases e; exact n _ rfl
  have up : ∀ b u, H b = some u → (∀ k, u ≠ .dK k) → upd H a (.frz o (.dK kvs)) b = some u := fun b u e n => by rw [upd_ne (nt b u e n)]; exact e
  have hok : HOk X.prog X.w (upd H a (.frz o (.dK kvs))) s.heap := fun b ob e => by
    by_cases hb : b = a
    · subst hb
      rw [upd_same] at e
      cases e
      exact ⟨ho, (I.hok b _ h).stay (fun _ _ _ q => q) (fun c q => up c _ q (by intro k z; cases z)) fun c xs q => up c _ q (by intro k z; cases z)⟩
    · rw [upd_ne hb] at e
      exact (I.hok b _ e).stay (fun _ _ _ q => q) (fun c q => up c _ q (by intro k z; cases z)) fun c xs q => up c _ q (by intro k z; cases z)
  exact I.step (g' := s.gens) (d' := s.drawn) (t' := s.toks) (ch := []) (fun _ z => nomatch z) (fun b o' _ _ _ e _ => e) (fun b o' _ _ _ e _ => ⟨o'.slots, e⟩) (fun b o' _ _ n => by rw [upd_ne (ne b n)]; exact n) (fun b o' _ e => ⟨o', e⟩)
    (fun b xs q => up b _ q (by intro k z; cases z)) (fun b o' u q => up b _ q (by intro k z; cases z)) (fun b ps q => ⟨#[], by rw [up b _ q (by intro k z; cases z)]; simp⟩) (fun m q => q) hok I.bare
theorem Inv.thawed (I : Inv X pins σ H s) (h : H a = some (.frz o (.dK kvs))) (n0 : ∀ o u, X.H₀ a ≠ some (.frz o u)) : Inv X pins σ (upd H a (.dK kvs)) s := by
  have ne : ∀ b, H b = none → b ≠ a := fun b n z => by rw [z, h] at n; cases n
  have un : ∀ b, H b = none → upd H a (.dK kvs) b = none := fun b n => by rw [upd_ne (ne b n)]; exact n
  have nt : ∀ b u, H b = some u → (∀ k v, u ≠ .frz k v) → upd H a (.dK kvs) b = some u := fun b u e n => by
    have : b ≠ a := fun z => by rw [z, h] at e; cases e; exact n _ _ rfl
    rw [upd_ne this]; exact e
  have hok : HOk X.prog X.w (upd H a (.dK kvs)) s.heap := fun b ob e => by
    by_cases hb : b = a
    · subst hb
      rw [upd_same] at e
      cases e
      exact (I.hok b _ h).2.stay (fun _ _ _ q => q) (fun c q => nt c _ q (by intro k v z; cases z)) fun c xs q => nt c _ q (by intro k v z; cases z)
    · rw [upd_ne hb] at e
      exact (I.hok b _ e).stay (fun _ _ _ q => q) (fun c q => nt c _ q (by intro k v z; cases z)) fun c xs q => nt c _ q (by intro k v z; cases z)
  refine ⟨I.ok, I.os, I.bare, ⟨I.base.keep, I.base.slot, fun b o' e n hx => un b (I.base.free b o' e n hx), I.base.there, fun b xs q => nt b _ (I.base.tups b xs q) (by intro k v z; cases z), fun b o' u q => ?_, fun b ps q => ?_⟩, I.loc, I.cell, un _ I.free, fun x c e => un _ (I.freeC x c e), fun p hp => ?_, hok, I.len⟩
  · have hb : b ≠ a := fun z => n0 o' u (by rw [← z]; exact q)
    rw [upd_ne hb]
    exact I.base.frzs b o' u q
  · obtain ⟨m, e⟩ := I.base.tbls b ps q
    exact ⟨m, nt b _ e (by intro k v z; cases z)⟩
  · obtain ⟨e, n, r⟩ := I.pin p hp
    exact ⟨e, un _ n, r⟩
end
section
variable {X : Cx} {tg : Expr}
end
end L2
namespace L2
open PySem PySem.Spec PyProof.Rows
section
variable {P : Program} {w : World} {K : PySem.W.Frag} {mg : Str → Option Value} {base : Heap} {CX : CXT} {C : Addr} {m qual : Str} {st : Stmt} {N ps : List Str} {k : Nat} {sp : Sp}
end
section
variable {X : Cx} {CX : CXT} {k : Nat} {C : Addr} {ps : List Str} {sp : Sp} {Ek : XH} {x m : Str} {p pos apos : Pos} {e : Expr} {es : List Expr} {t : TA}
end
end L2
namespace L2
open PySem PySem.Spec PyProof.Rows
section
variable {X : Cx}
theorem op_notInK (K : PySem.W.Frag) (h : X.K = K) : OpR X (compareOp .NotIn) (rIn K true) := h ▸ op_notIn_seq
end
abbrev Nm := List (Str × Int)
def shOf (nm : Nm) (x : Str) : Option Int := (nm.find? fun p => decide (p.1 = x)).map (·.2)
end L2
namespace L2
open PySem PySem.Spec PyProof.Rows
structure At5 where
  p : Addr
  pm : Addr
  ps : Addr
  pt : Addr
  pg : Addr
section
variable {C Cm : Addr} {H : Hp} {a : At5} {most : Int} {nm nm' : Nm} {tg gs tg' gs' : Str → Option Rat} {ck : Rat} {ch : V} {N N' : Nat} {k : List (Key × V)}
end
end L2
namespace L2
open PySem PySem.Spec PyProof.Rows
structure Iv (nm : Nm) (tg gs : Str → Option Rat) (ck : Rat) (D : Int) (n : Nat) : Prop where
  d0 : 0 < D
  dz : Sw.Sz (21 * n + 1) D
  cg : Sw.Grd D ck
  c0 : 0 ≤ ck
  cB : ck ≤ ((n * 2000000 : Int) : Rat)
  all : ∀ x s, shOf nm x = some s → 1 ≤ s ∧ s ≤ 1000000 ∧ ∃ t g, tg x = some t ∧ gs x = some g ∧ Sw.Grd D t ∧ Sw.Grd D g ∧ 0 ≤ t ∧ 0 ≤ g ∧ g ≤ ((1000000 : Int) : Rat) ∧ t ≤ ck + g
end L2
namespace L2
open PySem PySem.Spec PyProof.Rows
structure Hd where
  C : Addr
  i : Option Nat
  th : TS
section
variable {P : Program} {w : World} {X : Cx} {C' : Addr} {x : Str} {np hpos pos : Pos} {body suite : List Stmt} {b0 : Stmt} {tb : XH → TS} {th : TS} {h0 : ExceptHandler} {hds : List ExceptHandler} {hs : List Hd}
end
end L2
namespace Sw
abbrev F4 := Int × T3
def hdB (mo ma : Rat) (f : F4) : Bool := !decide (mo < (f.1 : Rat)) && isHd ma f.2
def hdP (fs : List F4) (mo ma : Rat) : List Nat := (List.range fs.length).filter fun i => match fs[i]? with | some f => hdB mo ma f | none => false
def shr (fs : List F4) (i : Nat) : Int := ((fs[i]?).map fun f => f.2.2.2).getD 0
def enP (fs : List F4) (i : Nat) : Rat := ((fs[i]?).map fun f => f.2.2.1).getD 0
def shP (fs : List F4) (ps : List Nat) : Int := (ps.map (shr fs)).sum
def chs (fs : List F4) (mo : Rat) : List Rat := fs.filterMap fun f => if mo < (f.1 : Rat) then some (f.1 : Rat) else none
def fst1 (fs : List F4) (mo ma : Rat) : Rat := mo + (minL ((hdP fs mo ma).map (enP fs)) - ma) * (shP fs (hdP fs mo ma) : Rat)
def chA (fs : List F4) (mo ma : Rat) : List Rat := chs fs mo ++ (if hdP fs mo ma = [] then [] else [fst1 fs mo ma])
def mu (fs : List F4) (mo ma : Rat) : Nat := (fs.filter fun f => decide (mo < (f.1 : Rat))).length + (fs.filter fun f => decide (ma < f.2.2.1)).length
theorem sum_pos : ∀ {l : List Int}, (∀ x ∈ l, 1 ≤ x) → l ≠ [] → 1 ≤ l.sum
  | [], _, h => absurd rfl h
  | [x], h, _ => by simpa using h x (by simp)
  | x :: y :: r, h, _ => by
    have a := h x (by simp)
    have b := sum_pos (l := y :: r) (fun z hz => h z (List.mem_cons_of_mem _ hz)) (by simp)
    rw [List.sum_cons]
    omega
theorem minL_le {l : List Rat} {x : Rat} (h : x ∈ l) : minL l ≤ x := by
  cases l with
  | nil => cases h
  | cons q r => exact (foldl_min_le (q :: r) q).2 x h
end Sw
namespace Sw
open L2
structure Ti where
  lat : Int
  re : Rat
  us : List T3
  en : Int → Option Rat
theorem sz_of {a : Nat} {x : Int} (h0 : 0 ≤ x) (h : x < 2 ^ a) : Sz a x := by
  unfold Sz
  have : ((2 ^ a : Nat) : Int) = 2 ^ a := by rw [Int.natCast_pow]; rfl
  omega
end Sw
namespace L2
open PySem PySem.Spec PyProof.Rows
theorem paired_at {α β : Type} {F : α → β → Prop} : ∀ {l₁ : List α} {l₂ : List β} {i : Nat} {b : β}, Paired F l₁ l₂ → l₂[i]? = some b → ∃ a, l₁[i]? = some a ∧ F a b
  | _, _, _, _, Paired.nil, e => by simp at e
  | _, _, 0, _, Paired.cons x _, e => by simp at e; subst e; exact ⟨_, rfl, x⟩
  | _, _, i + 1, _, Paired.cons _ y, e => by
    obtain ⟨b, h1, h2⟩ := paired_at (i := i) y (by simpa using e)
    exact ⟨b, by simpa using h1, h2⟩
def natI (i : Nat) : V := .int (i : Int)
end L2
namespace Sw
open L2
section
variable {n : Nat} {M : Int} {a c : Nat} {fs : List F4} {D : Int} {mo ma : Rat} {G : Int}
end
section
variable {n : Nat} {M : Int} {a c : Nat} {fs : List F4} {D : Int} {mo ma : Rat} {G : Int}
end
end Sw
namespace Sw
open L2
end Sw
namespace Sw
open L2
structure Scl where
  L : Int
  W : Int
  la : Int
  L0 : 0 < L
  W0 : 0 < W
  a0 : 0 ≤ la
namespace Scl
variable (z : Scl)
def ro : Rat := (z.L : Rat) / (z.W : Rat)
def q4 (q : Q4) : Q4 := (q.1 * z.L + z.la, q.2.1, q.2.2.1 * z.L, q.2.2.2 * z.W)
def t3 (u : T3) : T3 := (u.1 * z.ro, u.2.1 * z.ro, u.2.2 * z.W)
def f4 (f : F4) : F4 := (f.1 * z.L + z.la, z.t3 f.2)
variable {z}
variable (z)
end Scl
end Sw
namespace Sw
open L2
def nxS (fs : List F4) (s : Rat × Rat) : Rat × Rat :=
  if chA fs s.1 s.2 = [] then s else if hdP fs s.1 s.2 = [] then (minL (chA fs s.1 s.2), s.2) else (minL (chA fs s.1 s.2), s.2 + (minL (chA fs s.1 s.2) - s.1) / (shP fs (hdP fs s.1 s.2) : Rat))
def stS (fs : List F4) : Nat → Rat × Rat
  | 0 => (0, 0)
  | k + 1 => nxS fs (stS fs k)
end Sw
namespace Sw
open L2
end Sw
namespace Sw
open L2
section
variable {fs : List F4}
end
end Sw
namespace Sw
open L2
section
variable {fs : List F4}
end
end Sw
namespace Sw
open L2
end Sw
namespace L2
open PySem PySem.Spec PyProof.Rows
def Itz (K : PySem.W.Frag) (a b : Addr) : It :=
  ⟨fun i H => ∃ xs ys x y, SqL K H a xs ∧ SqL K H b ys ∧ xs[i]? = some x ∧ ys[i]? = some y,
   fun i H v H' => ∃ p x y, v = .ref p ∧ H p = none ∧ (∀ xs, SqL K H a xs → xs[i]? = some x) ∧ (∀ ys, SqL K H b ys → ys[i]? = some y) ∧ H' = upd H p (.tup [x, y]),
   fun i H => ∃ xs ys, SqL K H a xs ∧ SqL K H b ys ∧ (xs.length ≤ i ∨ ys.length ≤ i)⟩
theorem turn_zip {P : Program} {w : World} {K : PySem.W.Frag} {elts : List Expr} {x1} {pos : Pos} (a b z TI TO i1 i2 : Addr) (D : ZipApart z TI TO i1 i2 a b) :
    Turn P w K (.Tuple elts x1 pos) (Itz K a b) [z, TI, TO, i1, i2] z (fun i h => IsZip h z TI TO .none ∧ IsPair h TI (.ref i1) (.ref i2) ∧ (∃ c d, IsPair h TO c d) ∧ h.IsListIter i1 a i ∧ h.IsListIter i2 b i) where
  mem := by simp
  obj := fun i h st c hc => by
    obtain ⟨h1, h2, ⟨c1, d1, h3⟩, h4, h5⟩ := st
    simp only [List.mem_cons, List.not_mem_nil, or_false] at hc
    rcases hc with rfl | rfl | rfl | rfl | rfl
    · exact ⟨_, h1, fun v y => by cases y⟩
    · exact ⟨_, h2, fun v y => by cases y⟩
    · exact ⟨_, h3, fun v y => by cases y⟩
    · obtain ⟨o, e, _, d⟩ := h4
      exact ⟨o, e, fun v y => by rw [d] at y; cases y⟩
    · obtain ⟨o, e, _, d⟩ := h5
      exact ⟨o, e, fun v y => by rw [d] at y; cases y⟩
  keep := fun i h h' st k => by
    obtain ⟨h1, h2, ⟨c1, d1, h3⟩, h4, h5⟩ := st
    exact ⟨k z (by simp) _ h1, k TI (by simp) _ h2, ⟨c1, d1, k TO (by simp) _ h3⟩, h4.at fun o q => k i1 (by simp) o q, h5.at fun o q => k i2 (by simp) o q⟩
  item := by
    intro X hP hw hK hc i pins s σ H E I hf st hg
    subst hP hw hK
    obtain ⟨h1, h2, ⟨c1, d1, h3⟩, h4, h5⟩ := st
    obtain ⟨xs, ys, x, y, hq1, hq2, hx, hy⟩ := hg
    obtain ⟨its1, rv1, p1, hz1⟩ := I.list hq1
    obtain ⟨its2, rv2, p2, hz2⟩ := I.list hq2
    obtain ⟨u1, hu1, ru1⟩ := rv1.get hx
    obtain ⟨u2, hu2, ru2⟩ := rv2.get hy
    have hfr : ∀ c, c ∈ [z, TI, TO, i1, i2] → H c = none := fun c h => (hf c h).1
    have hlt : ∀ c, c ∈ [z, TI, TO, i1, i2] → c < s.heap.objs.size := fun c h => by
      simp only [List.mem_cons, List.not_mem_nil, or_false] at h
      rcases h with rfl | rfl | rfl | rfl | rfl
      · exact Heap.lt_size h1
      · exact Heap.lt_size h2
      · exact Heap.lt_size h3
      · obtain ⟨o, q, _⟩ := id h4; exact Heap.lt_size q
      · obtain ⟨o, q, _⟩ := id h5; exact Heap.lt_size q
    refine wpAny_pyNext_zip_item D h1 h2 h3 h4 h5 p1.isList p2.isList (x := u1) (y := u2) (by simpa using hu1) (by simpa using hu2) fun hp' hz' hTO' hi1' hi2' hT' hsz hk => ?_
    refine ⟨.ref s.heap.objs.size, rfl, wpAny_letOwnedTupleGo_zip hz' fun hp2 hz2' hs2 => ?_⟩
    have hs2' : Heap.SameBut z hp' hp2 := hs2
    have kz : ∀ c o, c ≠ z → hp'.get? c = some o → hp2.get? c = some o := fun c o n q => (hs2'.2 c n).trans q
    have fresh : H s.heap.objs.size = none := I.hok.fresh (Nat.le_refl _)
    have nsz : ∀ c, c ∈ [z, TI, TO, i1, i2] → s.heap.objs.size ≠ c := fun c h => Nat.ne_of_gt (hlt c h)
    have htup : hp2.get? s.heap.objs.size = some { cls := .type "tuple", data := .seq #[u1, u2] } := kz _ _ (nsz z (by simp)) hT'
    have k2 : ∀ c o, c ∉ [z, TI, TO, i1, i2] → s.heap.get? c = some o → hp2.get? c = some o := fun c o n q => by
      simp only [List.mem_cons, List.not_mem_nil, or_false, not_or] at n
      exact kz c o n.1 (hk c o n.1 n.2.2.1 n.2.2.2.1 n.2.2.2.2 q)
    have nit : ∀ c v, H c = some v → c ∉ [z, TI, TO, i1, i2] := fun c v q h => by rw [hfr c h] at q; cases q
    have up : ∀ c o, H c = some o → (upd H s.heap.objs.size (.tup [x, y])) c = some o := fun c o q => by rw [upd_ne (ne_of_none q fresh)]; exact q
    have I2 : Inv X pins σ (upd H s.heap.objs.size (.tup [x, y])) { s with heap := hp2 } := by
      refine I.step (t' := s.toks) (g' := s.gens) (d' := s.drawn) (ch := [z, TI, TO, i1, i2]) (fun c hc => ?_) (fun c o _ _ hc q _ => k2 c o hc q)
        (fun c o _ _ hc q _ => ⟨o.slots, k2 c o hc q⟩) (fun c o _ q n => by rw [upd_ne (Nat.ne_of_lt (Heap.lt_size q))]; exact n)
        (fun c o hc q => ⟨o, k2 c o hc q⟩) (fun c zs q => up c _ q) (fun c ob v q => up c _ q) (fun c ps q => ⟨#[], by rw [up c _ q]; simp⟩) (fun m hm => ?_) (fun c v q => ?_) I.bare
      · obtain ⟨f0, f1, f2, f3, f4, f5⟩ := hf c hc
        exact ⟨f3, f1, f4, f5⟩
      · obtain ⟨o, es, ep, ho, r⟩ := hm
        refine ⟨o, es, ep, k2 _ o (fun h => ?_) ho, r⟩
        exact (hf _ h).2.1 rfl
      · by_cases hb : c = s.heap.objs.size
        · subst hb
          rw [upd_same] at q
          cases q
          exact ⟨by show 2 ≤ sizeLine; decide, [u1, u2], .cons ru1 (.cons ru2 .nil), _, htup, rfl, _, rfl⟩
        · rw [upd_ne hb] at q
          refine (I.hok c v q).stay (fun d v' hd q' => ?_) (fun d y => up d _ y) fun d zs y => up d _ y
          refine k2 d v' ?_ q'
          rcases hd with y | y
          · rw [y]; exact nit c v q
          · exact nit d _ y
    refine ⟨.ref s.heap.objs.size, _, I2, rfl, ⟨s.heap.objs.size, x, y, rfl, fresh, fun zs hz => by rw [I.list_inj hz hq1]; exact hx, fun zs hz => by rw [I.list_inj hz hq2]; exact hy, rfl⟩, ⟨hz2', kz _ _ D.TIz (hk _ _ D.TIz D.TITO D.TIi1 D.TIi2 h2), ⟨u1, u2, kz _ _ D.TOz hTO'⟩, hi1'.at fun o q => kz _ _ D.i1z q, hi2'.at fun o q => kz _ _ D.i2z q⟩, fun c hc => ?_⟩
    rw [upd_ne (nsz c hc).symm]
    exact hfr c hc
  done := by
    intro X hP hw hK hc i pins s σ H E I hf st hg
    subst hP hw hK
    obtain ⟨h1, h2, ⟨c1, d1, h3⟩, h4, h5⟩ := st
    obtain ⟨xs, ys, hq1, hq2, hx⟩ := hg
    obtain ⟨its1, rv1, p1, hz1⟩ := I.list hq1
    obtain ⟨its2, rv2, p2, hz2⟩ := I.list hq2
    have l1 := rv1.length
    have l2 := rv2.length
    refine wpAny_pyNext_zip_end (I.ok.hd hc) D h1 h2 h3 h4 h5 p1.isList p2.isList ?_ fun hp' hk => ⟨rfl, ?_⟩
    · rcases hx with h | h
      · exact .inl (by simp; omega)
      · exact .inr (by simp; omega)
    have hfr : ∀ c, c ∈ [z, TI, TO, i1, i2] → H c = none := fun c h => (hf c h).1
    have k2 : ∀ c o, c ∉ [z, TI, TO, i1, i2] → s.heap.get? c = some o → hp'.get? c = some o := fun c o n q => by
      simp only [List.mem_cons, List.not_mem_nil, or_false, not_or] at n
      exact hk c o n.1 n.2.2.1 n.2.2.2.1 n.2.2.2.2 q
    have nit : ∀ c v, H c = some v → c ∉ [z, TI, TO, i1, i2] := fun c v q h => by rw [hfr c h] at q; cases q
    refine I.step (t' := s.toks) (g' := s.gens) (d' := s.drawn) (ch := [z, TI, TO, i1, i2]) (fun c hc => ?_) (fun c o _ _ hc q _ => k2 c o hc q)
      (fun c o _ _ hc q _ => ⟨o.slots, k2 c o hc q⟩) (fun c o _ q n => n)
      (fun c o hc q => ⟨o, k2 c o hc q⟩) (fun c zs q => q) (fun c ob v q => q) (fun c ps q => ⟨#[], by simpa using q⟩) (fun m hm => ?_) (fun c v q => ?_) I.bare
    · obtain ⟨f0, f1, f2, f3, f4, f5⟩ := hf c hc
      exact ⟨f3, f1, f4, f5⟩
    · obtain ⟨o, es, ep, ho, r⟩ := hm
      refine ⟨o, es, ep, k2 _ o (fun h => ?_) ho, r⟩
      exact (hf _ h).2.1 rfl
    · refine (I.hok c v q).stay (fun d v' hd q' => ?_) (fun d y => y) fun d zs y => y
      refine k2 d v' ?_ q'
      rcases hd with y | y
      · rw [y]; exact nit c v q
      · exact nit d _ y
  self := fun _ _ _ _ _ st h => by
    obtain ⟨h1, _⟩ := st
    exact wpAny_pyIter_zip h1 h
section
variable {X : Cx}
def iZip (K : PySem.W.Frag) (ta : TA) : TI := fun σ H R => ta σ H fun vs H1 => ∃ a b, vs = [.ref a, .ref b] ∧ (∃ xs, SqL K H1 a xs) ∧ (∃ ys, SqL K H1 b ys) ∧ R (Itz K a b) H1
theorem pi_zip {l m : Expr} {ta : TA} {p pos tpos : Pos} {elts : List Expr} {x1} (hg : Gl X "zip") (hm : X.mg "zip" = none) (ha : PA X [l, m] ta) (hs : starEach [l, m] X.env = (false, eval l X.env) :: starEach [m] X.env := by rfl) (hpl : (backTo pos (starEach [m] X.env)).any (·.1) = false := by rfl) :
    PI X (.Tuple elts x1 tpos) (.Call (.Name "zip" p) [l, m] [] pos) (iZip X.K ta) := by
  intro pins s σ H R I h
  refine Call_ (ld_blt I hg hm boot_zip (PyProof.Rows.callWith_type1 (thn (ha pos pins s σ H _ I h) fun us s1 ⟨vs, H1, I1, r1, q1⟩ => ?_) hs hpl))
  obtain ⟨a, b, rfl, ⟨xs, hq1⟩, ⟨ys, hq2⟩, q⟩ := q1
  obtain ⟨u1, u2, rfl, r, r2⟩ := Vals.two r1
  cases r
  cases r2
  obtain ⟨its1, rv1, p1, hz1⟩ := I1.list hq1
  obtain ⟨its2, rv2, p2, hz2⟩ := I1.list hq2
  have la : a < s1.heap.objs.size := by obtain ⟨o, n, e, _⟩ := p1; exact Heap.lt_size e
  have lb : b < s1.heap.objs.size := by obtain ⟨o, n, e, _⟩ := p2; exact Heap.lt_size e
  refine call_zip_2 p1.isList p2.isList fun h' hz hTI hTO hi1 hi2 hsz hk => ?_
  refine wpAny_pyIter_zip hz ?_
  refine ⟨s1.heap.objs.size + 4, [s1.heap.objs.size + 4, s1.heap.objs.size + 2, s1.heap.objs.size + 3, s1.heap.objs.size, s1.heap.objs.size + 1], _, _, H1, rfl, I1.kept (t' := s1.toks) hk, turn_zip a b _ _ _ _ _ (PyProof.Rows.zipApart_new la lb), ⟨hz, hTI, ⟨_, _, hTO⟩, hi1, hi2⟩, fun c hc => ?_, q⟩
  have le : s1.heap.objs.size ≤ c := by
    simp only [List.mem_cons, List.not_mem_nil, or_false] at hc
    rcases hc with rfl | rfl | rfl | rfl | rfl
    · exact Nat.le_add_right _ _
    · exact Nat.le_add_right _ _
    · exact Nat.le_add_right _ _
    · exact Nat.le_refl _
    · exact Nat.le_add_right _ _
  exact I1.fpOk le (I1.hok.fresh le)
theorem pi_zipK (K : PySem.W.Frag) (h : X.K = K) {l m : Expr} {ta : TA} {p pos tpos : Pos} {elts : List Expr} {x1} (hg : Gl X "zip") (hm : X.mg "zip" = none) (ha : PA X [l, m] ta) (hs : starEach [l, m] X.env = (false, eval l X.env) :: starEach [m] X.env := by rfl) (hpl : (backTo pos (starEach [m] X.env)).any (·.1) = false := by rfl) :
    PI X (.Tuple elts x1 tpos) (.Call (.Name "zip" p) [l, m] [] pos) (iZip K ta) := h ▸ pi_zip hg hm ha hs hpl
end
end L2
namespace Sw
open L2
section
variable {fs : List F4}
end
end Sw
namespace Sw
open L2
section
variable {fs : List F4}
def ms (fs : List F4) (k : Nat) (t : Rat) : Rat := if hdP fs (stS fs k).1 (stS fs k).2 = [] then (stS fs k).2 else (stS fs k).2 + (t - (stS fs k).1) / (shP fs (hdP fs (stS fs k).1 (stS fs k).2) : Rat)
theorem div_mono {S x y : Rat} (S0 : 0 < S) (h : x ≤ y) : x / S ≤ y / S := by
  have : ¬ y / S < x / S := by
    rw [Rat.div_lt_iff S0]
    have : x / S * S = x := by have : S ≠ 0 := by grind
                               grind
    rw [this]; grind
  grind
theorem div_lt {S x y : Rat} (S0 : 0 < S) (h : x < y) : x / S < y / S := by
  rw [Rat.div_lt_iff S0]
  have : y / S * S = y := by have : S ≠ 0 := by grind
                             grind
  rw [this]; exact h
def dn (f : F4) (m : Rat) : Rat := max f.2.1 (min m f.2.2.1) - f.2.1
end
section
variable {fs : List F4} {w : Nat → Int}
end
end Sw
namespace Sw
open L2
section
variable {fs fs' : List F4} {w w' : Nat → Int} {κ : Nat → Nat}
end
end Sw
namespace Sw
open L2
end Sw
namespace Sw
open L2
abbrev S3 := Int × Int × Rat
def tq : List Rat → Rat
  | [] => 0
  | x :: r => x + tq r
theorem tq_app : ∀ (a b : List Rat), tq (a ++ b) = tq a + tq b
  | [], b => by show tq b = 0 + tq b; grind
  | x :: r, b => by show x + tq (r ++ b) = x + tq r + tq b; rw [tq_app r b]; grind
theorem tq_snoc (a : List Rat) (x : Rat) : tq (a ++ [x]) = tq a + x := by rw [tq_app]; show tq a + (x + 0) = _; grind
theorem tq_split (p : Nat → Bool) (f : Nat → Rat) : ∀ l : List Nat, tq ((l.filter p).map f) + tq ((l.filter fun i => !p i).map f) = tq (l.map f)
  | [] => by show (0 : Rat) + 0 = 0; grind
  | x :: r => by
    have ih := tq_split p f r
    rw [List.filter_cons, List.filter_cons, List.map_cons]
    cases h : p x with
    | true =>
      rw [if_pos rfl, if_neg (by decide), List.map_cons]
      show f x + _ + _ = f x + _
      grind
    | false =>
      rw [if_neg (by decide), if_pos (show (!false) = true from rfl), List.map_cons]
      show _ + (f x + _) = f x + _
      grind
theorem tq_sub (f g : Nat → Rat) : ∀ l : List Nat, tq (l.map fun i => f i - g i) = tq (l.map f) - tq (l.map g)
  | [] => by show (0 : Rat) = 0 - 0; grind
  | x :: r => by
    have ih := tq_sub f g r
    show f x - g x + tq (r.map fun i => f i - g i) = f x + tq (r.map f) - (g x + tq (r.map g))
    rw [ih]; grind
theorem tq_scale (c S : Rat) (s : Nat → Int) : ∀ l : List Nat, tq (l.map fun i => c * ((s i : Rat) / S)) = c * (((l.map s).sum : Int) : Rat) / S
  | [] => by
    show (0 : Rat) = c * ((0 : Int) : Rat) / S
    have : ((0 : Int) : Rat) = 0 := rfl
    rw [this]; grind
  | x :: r => by
    have ih := tq_scale c S s r
    show c * ((s x : Rat) / S) + tq (r.map fun i => c * ((s i : Rat) / S)) = _
    rw [ih, List.map_cons, List.sum_cons, Rat.intCast_add]
    grind
theorem tq_neg : ∀ {l : List Rat}, (∀ x ∈ l, x ≤ 0) → tq l ≤ 0
  | [], _ => Rat.le_refl
  | x :: r, h => by
    have := tq_neg (l := r) fun y hy => h y (List.mem_cons_of_mem _ hy)
    have := h x (by simp)
    show x + tq r ≤ 0
    grind
theorem tq_pos : ∀ {l : List Rat}, (∀ x ∈ l, 0 ≤ x) → 0 ≤ tq l
  | [], _ => Rat.le_refl
  | x :: r, h => by
    have := tq_pos (l := r) fun y hy => h y (List.mem_cons_of_mem _ hy)
    have := h x (by simp)
    show 0 ≤ x + tq r
    grind
theorem tq_one : ∀ {l : List Rat}, (∀ x ∈ l, 0 ≤ x) → ∀ {x : Rat}, x ∈ l → x ≤ tq l
  | [], _, _, h => by cases h
  | y :: r, h, x, hx => by
    have h0 := tq_pos (l := r) fun y hy => h y (List.mem_cons_of_mem _ hy)
    have h1 := h y (by simp)
    show x ≤ y + tq r
    rcases List.mem_cons.mp hx with z | z
    · subst z; grind
    · have := tq_one (l := r) (fun y hy => h y (List.mem_cons_of_mem _ hy)) z
      grind
theorem tq_grd {D : Int} (hD : D ≠ 0) : ∀ {l : List Rat}, (∀ x ∈ l, Grd D x) → Grd D (tq l)
  | [], _ => Grd.int hD 0
  | x :: r, h => (h x (by simp)).add (tq_grd hD fun y hy => h y (List.mem_cons_of_mem _ hy))
theorem filter_lt {p q : Nat → Bool} {j : Nat} (hp : p j = true) (hq : q j = false) : ∀ {l : List Nat}, (∀ i ∈ l, q i = true → p i = true) → j ∈ l → (l.filter q).length < (l.filter p).length
  | [], _, h => by cases h
  | x :: r, h, hj => by
    have le : ∀ {l : List Nat}, (∀ i ∈ l, q i = true → p i = true) → (l.filter q).length ≤ (l.filter p).length := fun {l} => by
      induction l with
      | nil => intro _; exact Nat.le_refl _
      | cons a b ih =>
        intro h
        have i1 := ih fun i hi => h i (List.mem_cons_of_mem _ hi)
        have i2 := h a (by simp)
        rw [List.filter_cons, List.filter_cons]
        cases ha : q a with
        | true => rw [if_pos rfl, i2 ha, if_pos rfl, List.length_cons, List.length_cons]; omega
        | false =>
          rw [if_neg (by decide)]
          split
          · rw [List.length_cons]; omega
          · exact i1
    have hr : ∀ i ∈ r, q i = true → p i = true := fun i hi => h i (List.mem_cons_of_mem _ hi)
    rw [List.filter_cons, List.filter_cons]
    by_cases c : x = j
    · subst c
      have := le hr
      rw [hq, hp, if_neg (by decide), if_pos rfl, List.length_cons]
      omega
    · have hj : j ∈ r := by
        rcases List.mem_cons.mp hj with z | z
        · exact absurd z.symm c
        · exact z
      have ih := filter_lt hp hq hr hj
      have i2 := h x (by simp)
      cases ha : q x with
      | true => rw [if_pos rfl, i2 ha, if_pos rfl, List.length_cons, List.length_cons]; omega
      | false =>
        rw [if_neg (by decide)]
        split
        · rw [List.length_cons]; omega
        · exact ih
section
variable (ss : List S3)
def shS (i : Nat) : Int := ((ss[i]?).map fun s => s.1).getD 0
def buS (i : Nat) : Int := ((ss[i]?).map fun s => s.2.1).getD 0
def rtS (i : Nat) : Rat := ((ss[i]?).map fun s => s.2.2).getD 0
def fullS (h : Nat → Rat) : List Nat := (List.range ss.length).filter fun i => decide (0 < h i)
def sumF (h : Nat → Rat) : Int := ((fullS ss h).map (shS ss)).sum
def restS (h : Nat → Rat) : List Rat := ((List.range ss.length).filter fun i => !decide (i ∈ fullS ss h)).map (rtS ss)
def leftS (h : Nat → Rat) : Rat := 1 - tq (restS ss h)
def outS (h : Nat → Rat) (i : Nat) : Rat := if i ∈ fullS ss h then leftS ss h * ((shS ss i : Rat) / (sumF ss h : Rat)) else rtS ss i
def falS (h : Nat → Rat) (i : Nat) : Rat := outS ss h i - rtS ss i
def tmsS (h : Nat → Rat) : List Rat := ((List.range ss.length).filter fun i => decide (0 < falS ss h i)).map fun i => h i / falS ss h i
def tmS (h : Nat → Rat) : Rat := minL (tmsS ss h)
def nxH (h : Nat → Rat) (i : Nat) : Rat := h i - falS ss h i * tmS ss h
def crS : Nat → (Nat → Rat) × Rat
  | 0 => (fun i => (buS ss i : Rat), 0)
  | k + 1 => (nxH ss (crS k).1, (crS k).2 + tmS ss (crS k).1)
end
structure Plan (ss : List S3) (L : Int) : Prop where
  n8 : ss.length ≤ 8
  L1 : 1 ≤ L
  L2 : L ≤ 1000000000000000000
  s1 : ∀ s ∈ ss, 1 ≤ s.1
  b1 : ∀ s ∈ ss, 1 ≤ s.2.1 ∧ s.2.1 ≤ 1000000000000
  r0 : ∀ s ∈ ss, 0 ≤ s.2.2
  gr : ∀ s ∈ ss, Grd L s.2.2
  lt : tq (ss.map fun s => s.2.2) < 1
  lim : L * (ss.map fun s => s.1).sum ≤ 1000000000000000000
section
variable {ss : List S3} {h : Nat → Rat}
theorem full_iff {i : Nat} : i ∈ fullS ss h ↔ i < ss.length ∧ 0 < h i := by unfold fullS; simp
theorem rt_map (ss : List S3) : (List.range ss.length).map (rtS ss) = ss.map fun s => s.2.2 := by
  refine List.ext_getElem? fun i => ?_
  rw [List.getElem?_map, List.getElem?_map]
  by_cases c : i < ss.length
  · rw [List.getElem?_range c, List.getElem?_eq_getElem c]
    show some (rtS ss i) = _
    unfold rtS
    rw [List.getElem?_eq_getElem c]
    rfl
  · rw [List.getElem?_eq_none (by simpa using c), List.getElem?_eq_none (by omega)]; rfl
theorem sh_map (ss : List S3) : (List.range ss.length).map (shS ss) = ss.map fun s => s.1 := by
  refine List.ext_getElem? fun i => ?_
  rw [List.getElem?_map, List.getElem?_map]
  by_cases c : i < ss.length
  · rw [List.getElem?_range c, List.getElem?_eq_getElem c]
    show some (shS ss i) = _
    unfold shS
    rw [List.getElem?_eq_getElem c]
    rfl
  · rw [List.getElem?_eq_none (by simpa using c), List.getElem?_eq_none (by omega)]; rfl
theorem at_mem {i : Nat} (c : i < ss.length) : ∃ s ∈ ss, shS ss i = s.1 ∧ buS ss i = s.2.1 ∧ rtS ss i = s.2.2 := by
  refine ⟨ss[i], List.getElem_mem c, ?_⟩
  unfold shS buS rtS
  rw [List.getElem?_eq_getElem c]
  exact ⟨rfl, rfl, rfl⟩
theorem rt_ge {L : Int} (P : Plan ss L) (i : Nat) : 0 ≤ rtS ss i := by
  by_cases c : i < ss.length
  · obtain ⟨s, hs, _, _, e⟩ := at_mem c
    rw [e]; exact P.r0 s hs
  · unfold rtS
    rw [List.getElem?_eq_none (by omega)]
    exact Rat.le_refl
theorem rt_gr {L : Int} (P : Plan ss L) (i : Nat) : Grd L (rtS ss i) := by
  by_cases c : i < ss.length
  · obtain ⟨s, hs, _, _, e⟩ := at_mem c
    rw [e]; exact P.gr s hs
  · unfold rtS
    rw [List.getElem?_eq_none (by omega)]
    exact Grd.int (by have := P.L1; omega) 0
theorem fal_out {i : Nat} (c : ¬ i ∈ fullS ss h) : falS ss h i = 0 := by
  unfold falS outS
  rw [if_neg c]; grind
theorem sum_sub (s : Nat → Int) (p : Nat → Bool) : ∀ {l : List Nat}, (∀ i ∈ l, 0 ≤ s i) → ((l.filter p).map s).sum ≤ (l.map s).sum
  | [], _ => Int.le_refl _
  | x :: r, h => by
    have ih := sum_sub s p (l := r) fun i hi => h i (List.mem_cons_of_mem _ hi)
    have := h x (by simp)
    rw [List.filter_cons, List.map_cons, List.sum_cons]
    split
    · rw [List.map_cons, List.sum_cons]; omega
    · omega
theorem sumF_ok {L : Int} (P : Plan ss L) (ne : fullS ss h ≠ []) : 1 ≤ sumF ss h ∧ L * sumF ss h ≤ 1000000000000000000 := by
  have sp : ∀ i, i < ss.length → 1 ≤ shS ss i := fun i hi => by
    obtain ⟨s, hs, e, _⟩ := at_mem hi
    rw [e]; exact P.s1 s hs
  refine ⟨sum_pos (fun x hx => ?_) (by simpa using ne), ?_⟩
  · obtain ⟨i, hi, rfl⟩ := List.mem_map.mp hx
    exact sp i (full_iff.mp hi).1
  · have a := sum_sub (shS ss) (fun i => decide (0 < h i)) (l := List.range ss.length) fun i hi => by
      have := sp i (List.mem_range.mp hi); omega
    rw [sh_map] at a
    have b := Int.mul_le_mul_of_nonneg_left a (show 0 ≤ L by have := P.L1; omega)
    have := P.lim
    show L * (((List.range ss.length).filter fun i => decide (0 < h i)).map (shS ss)).sum ≤ _
    omega
theorem rest_split {L : Int} (_ : Plan ss L) : tq ((fullS ss h).map (rtS ss)) + tq (restS ss h) = tq (ss.map fun s => s.2.2) := by
  rw [← rt_map, ← tq_split (fun i => decide (0 < h i)) (rtS ss) (List.range ss.length)]
  congr 1
  unfold restS
  congr 2
  refine List.filter_congr fun i hi => ?_
  congr 1
  exact decide_eq_decide.mpr ⟨fun z => (full_iff.mp z).2, fun z => full_iff.mpr ⟨List.mem_range.mp hi, z⟩⟩
theorem left_ok {L : Int} (P : Plan ss L) (h : Nat → Rat) : 0 < leftS ss h ∧ leftS ss h ≤ 1 := by
  have a := rest_split (h := h) P
  have b := P.lt
  have c := tq_pos (l := (fullS ss h).map (rtS ss)) fun x hx => by
    obtain ⟨i, _, rfl⟩ := List.mem_map.mp hx
    exact rt_ge P i
  have d := tq_pos (l := restS ss h) fun x hx => by
    obtain ⟨i, _, rfl⟩ := List.mem_map.mp hx
    exact rt_ge P i
  unfold leftS
  constructor <;> grind
theorem fal_sum {L : Int} (P : Plan ss L) (ne : fullS ss h ≠ []) : 0 < tq ((fullS ss h).map (falS ss h)) := by
  have S1 := (sumF_ok P ne).1
  have S0 : (0 : Rat) < (sumF ss h : Rat) := q_cast_pos (by omega)
  have e : (fullS ss h).map (falS ss h) = (fullS ss h).map fun i => leftS ss h * ((shS ss i : Rat) / (sumF ss h : Rat)) - rtS ss i := by
    refine List.map_congr_left fun i hi => ?_
    unfold falS outS
    rw [if_pos hi]
  rw [e, tq_sub, tq_scale]
  have e2 : leftS ss h * ((((fullS ss h).map (shS ss)).sum : Int) : Rat) / (sumF ss h : Rat) = leftS ss h := by
    show leftS ss h * (sumF ss h : Rat) / (sumF ss h : Rat) = _
    have : (sumF ss h : Rat) ≠ 0 := by grind
    grind
  rw [e2]
  have a := rest_split (h := h) P
  have b := P.lt
  unfold leftS
  grind
theorem tms_mem {x : Rat} : x ∈ tmsS ss h ↔ ∃ i, i < ss.length ∧ 0 < falS ss h i ∧ x = h i / falS ss h i := by
  unfold tmsS
  constructor
  · intro z
    obtain ⟨i, hi, rfl⟩ := List.mem_map.mp z
    obtain ⟨a, b⟩ := List.mem_filter.mp hi
    exact ⟨i, List.mem_range.mp a, by simpa using b, rfl⟩
  · rintro ⟨i, a, b, rfl⟩
    exact List.mem_map.mpr ⟨i, List.mem_filter.mpr ⟨List.mem_range.mpr a, by simpa using b⟩, rfl⟩
theorem tms_ne {L : Int} (P : Plan ss L) (ne : fullS ss h ≠ []) : tmsS ss h ≠ [] := by
  intro z
  have := fal_sum P ne
  have := tq_neg (l := (fullS ss h).map (falS ss h)) fun x hx => by
    obtain ⟨i, hi, rfl⟩ := List.mem_map.mp hx
    by_cases c : 0 < falS ss h i
    · exfalso
      have := tms_mem.mpr ⟨i, (full_iff.mp hi).1, c, rfl⟩
      rw [z] at this
      cases this
    · grind
  grind
theorem tm_at {L : Int} (P : Plan ss L) (ne : fullS ss h ≠ []) : ∃ j, j ∈ fullS ss h ∧ 0 < falS ss h j ∧ tmS ss h = h j / falS ss h j ∧ 0 < tmS ss h := by
  obtain ⟨j, a, b, c⟩ := tms_mem.mp (minL_mem (tms_ne P ne))
  have hj : j ∈ fullS ss h := by
    by_cases z : j ∈ fullS ss h
    · exact z
    · rw [fal_out z] at b; grind
  refine ⟨j, hj, b, c, ?_⟩
  have h0 := (full_iff.mp hj).2
  show 0 < tmS ss h
  unfold tmS
  rw [c]
  have := div_lt b h0
  have e : (0 : Rat) / falS ss h j = 0 := by grind
  rw [e] at this
  exact this
theorem nx_ge {L : Int} (P : Plan ss L) (ne : fullS ss h ≠ []) (h0 : ∀ i, 0 ≤ h i) (i : Nat) : 0 ≤ nxH ss h i := by
  obtain ⟨j, _, _, _, t0⟩ := tm_at P ne
  unfold nxH
  by_cases c : 0 < falS ss h i
  · have hi : i < ss.length := by
      by_cases z : i ∈ fullS ss h
      · exact (full_iff.mp z).1
      · rw [fal_out z] at c; grind
    have le : tmS ss h ≤ h i / falS ss h i := minL_le (tms_mem.mpr ⟨i, hi, c, rfl⟩)
    have := Rat.mul_le_mul_of_nonneg_left le (Rat.le_of_lt c)
    have e : falS ss h i * (h i / falS ss h i) = h i := by
      have : falS ss h i ≠ 0 := by grind
      grind
    rw [e] at this
    grind
  · have := Rat.mul_le_mul_of_nonneg_left (show falS ss h i ≤ 0 by grind) (Rat.le_of_lt t0)
    have := h0 i
    grind
theorem nx_full {L : Int} (P : Plan ss L) (ne : fullS ss h ≠ []) (h0 : ∀ i, 0 ≤ h i) : (fullS ss (nxH ss h)).length < (fullS ss h).length := by
  obtain ⟨j, hj, b, c, t0⟩ := tm_at P ne
  have ej : nxH ss h j = 0 := by
    unfold nxH
    rw [c]
    have : falS ss h j ≠ 0 := by grind
    grind
  refine filter_lt (p := fun i => decide (0 < h i)) (q := fun i => decide (0 < nxH ss h i)) (j := j) (by simpa using (full_iff.mp hj).2) (by rw [ej]; rfl) (fun i hi z => ?_) (List.mem_range.mpr (full_iff.mp hj).1)
  have z : 0 < nxH ss h i := by simpa using z
  by_cases f : i ∈ fullS ss h
  · simpa using (full_iff.mp f).2
  · exfalso
    unfold nxH at z
    rw [fal_out f] at z
    have : ¬ 0 < h i := fun y => f (full_iff.mpr ⟨List.mem_range.mp hi, y⟩)
    grind
end
end Sw
namespace Sw
open L2
structure Pz (ss : List S3) (k : Nat) (h : Nat → Rat) (mo : Rat) : Prop where
  ex : ∃ D M : Int, 1 ≤ D ∧ Sz (61 * k + 1) D ∧ 1 ≤ M ∧ Sz (61 * k + 41) M ∧ (∀ i, Grd D (h i) ∧ h i ≤ (M : Rat)) ∧ Grd D mo ∧ mo ≤ (M : Rat)
  h0 : ∀ i, 0 ≤ h i
  m0 : 0 ≤ mo
section
variable {ss : List S3} {h : Nat → Rat}
theorem rt_le {L : Int} (P : Plan ss L) (i : Nat) : rtS ss i ≤ 1 := by
  by_cases c : i < ss.length
  · have := tq_one (l := ss.map fun s => s.2.2) (fun x hx => by
      obtain ⟨s, hs, rfl⟩ := List.mem_map.mp hx
      exact P.r0 s hs) (x := rtS ss i) (by
        rw [← rt_map]
        exact List.mem_map.mpr ⟨i, List.mem_range.mpr c, rfl⟩)
    have := P.lt
    grind
  · unfold rtS
    rw [List.getElem?_eq_none (by omega)]
    show (0 : Rat) ≤ 1
    decide
theorem left_gr {L : Int} (P : Plan ss L) (h : Nat → Rat) : Grd L (leftS ss h) := by
  have L0 : L ≠ 0 := by have := P.L1; omega
  unfold leftS
  exact (Grd.int L0 1).sub (tq_grd L0 fun x hx => by
    obtain ⟨i, _, rfl⟩ := List.mem_map.mp hx
    exact rt_gr P i)
theorem out_gr {L : Int} (P : Plan ss L) (ne : fullS ss h ≠ []) (i : Nat) : Grd (L * sumF ss h) (outS ss h i) := by
  have L0 : L ≠ 0 := by have := P.L1; omega
  have S0 : sumF ss h ≠ 0 := by have := (sumF_ok P ne).1; omega
  unfold outS
  split
  · have : leftS ss h * ((shS ss i : Rat) / (sumF ss h : Rat)) = leftS ss h * (shS ss i : Rat) / (sumF ss h : Rat) := by grind
    rw [this]
    exact ((left_gr P h).muli _).divi L0 S0
  · exact (rt_gr P i).more L0 S0
theorem out_ok {L : Int} (P : Plan ss L) (ne : fullS ss h ≠ []) (i : Nat) : 0 ≤ outS ss h i ∧ outS ss h i ≤ 1 := by
  unfold outS
  split
  · rename_i c
    have S1 := (sumF_ok P ne).1
    have S0 : (0 : Rat) < (sumF ss h : Rat) := q_cast_pos (by omega)
    obtain ⟨l0, l1⟩ := left_ok P h
    have sp : ∀ i ∈ fullS ss h, 1 ≤ shS ss i := fun i hi => by
      obtain ⟨s, hs, e, _⟩ := at_mem (full_iff.mp hi).1
      rw [e]; exact P.s1 s hs
    have s1 := sp i c
    have sle : shS ss i ≤ sumF ss h := by
      unfold sumF
      have : ∀ {l : List Nat}, (∀ i ∈ l, 1 ≤ shS ss i) → i ∈ l → shS ss i ≤ (l.map (shS ss)).sum := fun {l} => by
        induction l with
        | nil => intro _ h; cases h
        | cons x r ih =>
          intro h hi
          have h1 := h x (by simp)
          have h2 : 0 ≤ (r.map (shS ss)).sum := by
            by_cases z : r = []
            · subst z; exact Int.le_refl _
            · have := sum_pos (l := r.map (shS ss)) (fun y hy => by
                obtain ⟨i, hi, rfl⟩ := List.mem_map.mp hy
                exact h i (List.mem_cons_of_mem _ hi)) (by simpa using z)
              omega
          rw [List.map_cons, List.sum_cons]
          rcases List.mem_cons.mp hi with z | z
          · subst z; omega
          · have := ih (fun i hi => h i (List.mem_cons_of_mem _ hi)) z; omega
      exact this sp c
    have q0 : (0 : Rat) ≤ (shS ss i : Rat) / (sumF ss h : Rat) := by
      have := div_mono S0 (show (0 : Rat) ≤ (shS ss i : Rat) from Rat.intCast_nonneg.mpr (by omega))
      have e : (0 : Rat) / (sumF ss h : Rat) = 0 := by grind
      rw [e] at this
      exact this
    have q1 : (shS ss i : Rat) / (sumF ss h : Rat) ≤ 1 := by
      have := div_mono S0 (show (shS ss i : Rat) ≤ (sumF ss h : Rat) from Rat.intCast_le_intCast.mpr sle)
      have e : (sumF ss h : Rat) / (sumF ss h : Rat) = 1 := by
        have : (sumF ss h : Rat) ≠ 0 := by grind
        grind
      rw [e] at this
      exact this
    have a := Rat.mul_nonneg (Rat.le_of_lt l0) q0
    have b := Rat.mul_le_mul_of_nonneg_left q1 (Rat.le_of_lt l0)
    refine ⟨a, ?_⟩
    grind
  · exact ⟨rt_ge P i, rt_le P i⟩
end
end Sw
namespace Sw
open L2
section
variable {ss : List S3} {h : Nat → Rat}
theorem Pz.step {L : Int} (P : Plan ss L) (ne : fullS ss h ≠ []) {k : Nat} {mo : Rat} (z : Pz ss k h mo) : Pz ss (k + 1) (nxH ss h) (mo + tmS ss h) ∧ ∃ D M : Int, 1 ≤ D ∧ Sz (61 * (k + 1) + 1) D ∧ 1 ≤ M ∧ Sz (61 * (k + 1) + 41) M ∧ (∀ i, Grd D (falS ss h i * tmS ss h) ∧ -(M : Rat) ≤ falS ss h i * tmS ss h ∧ falS ss h i * tmS ss h ≤ (M : Rat)) ∧ Grd D (tmS ss h) ∧ 0 ≤ tmS ss h ∧ tmS ss h ≤ (M : Rat) := by
  obtain ⟨D, M, D1, zD, M1, zM, hg, mg, mM⟩ := z.ex
  obtain ⟨j, hj, f0, et, t0⟩ := tm_at P ne
  obtain ⟨S1, SL⟩ := sumF_ok P ne
  have L1 := P.L1
  have W1 : 1 ≤ L * sumF ss h := by
    have := Int.mul_le_mul_of_nonneg_left S1 (show 0 ≤ L by omega)
    omega
  have W0 : (0 : Rat) < ((L * sumF ss h : Int) : Rat) := q_cast_pos (by omega)
  have fg : ∀ i, Grd (L * sumF ss h) (falS ss h i) := fun i => by
    unfold falS
    exact (out_gr P ne i).sub ((rt_gr P i).more (by omega) (by omega))
  have fb : ∀ i, -1 ≤ falS ss h i ∧ falS ss h i ≤ 1 := fun i => by
    have a := out_ok P ne i
    have b := rt_ge P i
    have c := rt_le P i
    unfold falS
    constructor <;> grind
  generalize L * sumF ss h = W at *
  obtain ⟨a, ea⟩ := fg j
  have a0 : 0 < a := by
    by_cases c : 0 < a
    · exact c
    · exfalso
      have := div_mono W0 (show (a : Rat) ≤ 0 from by
        have := Rat.intCast_le_intCast.mpr (show a ≤ 0 by omega)
        exact this)
      have e : (0 : Rat) / (W : Rat) = 0 := by grind
      grind
  have aW : a ≤ W := by
    by_cases c : a ≤ W
    · exact c
    · exfalso
      have := div_lt W0 (show (W : Rat) < (a : Rat) from Rat.intCast_lt_intCast.mpr (by omega))
      have e : (W : Rat) / (W : Rat) = 1 := by
        have : (W : Rat) ≠ 0 := by grind
        grind
      have := (fb j).2
      grind
  have A0 : (0 : Rat) < (a : Rat) := q_cast_pos a0
  have tE : tmS ss h = h j * (W : Rat) / (a : Rat) := by
    rw [et, ea]
    have : (W : Rat) ≠ 0 := by grind
    have : (a : Rat) ≠ 0 := by grind
    grind
  have hj0 := z.h0 j
  have tW : tmS ss h ≤ (M : Rat) * 1000000000000000000 := by
    have x1 : h j * (W : Rat) / (a : Rat) ≤ h j * (W : Rat) := by
      have p0 := Rat.mul_nonneg hj0 (Rat.le_of_lt W0)
      have : ¬ h j * (W : Rat) < h j * (W : Rat) / (a : Rat) := fun y => by
        have e : h j * (W : Rat) / (a : Rat) * (a : Rat) = h j * (W : Rat) := by
          have : (a : Rat) ≠ 0 := by grind
          grind
        have a1 : (1 : Rat) ≤ (a : Rat) := by
          have := Rat.intCast_le_intCast.mpr (show 1 ≤ a by omega)
          exact this
        have := Rat.mul_le_mul_of_nonneg_left a1 (show 0 ≤ h j * (W : Rat) / (a : Rat) by grind)
        grind
      grind
    have x2 := Rat.mul_le_mul_of_nonneg_left (show (W : Rat) ≤ 1000000000000000000 from Rat.intCast_le_intCast.mpr SL) hj0
    have x3 := Rat.mul_le_mul_of_nonneg_right (hg j).2 (show (0 : Rat) ≤ 1000000000000000000 by grind)
    rw [tE]
    grind
  have DA : D * a ≠ 0 := Int.mul_ne_zero (by omega) (by omega)
  have DA1 : 1 ≤ D * a := by
    have := Int.mul_pos (show 0 < D by omega) a0
    omega
  have p61 : a < 2 ^ 61 := by simp only [Int.reducePow]; omega
  have zDA : Sz (61 * (k + 1) + 1) (D * a) := (zD.mul (sz_of (a := 61) (by omega) p61)).mono (by omega)
  have zM' : Sz (61 * (k + 1) + 41) (M * 1000000000000000001) := (zM.mul (sz_of (a := 61) (by omega) (by simp only [Int.reducePow, Int.reduceLT]))).mono (by omega)
  have tg : Grd (D * a) (tmS ss h) := by rw [tE]; exact (((hg j).1).muli W).divi (by omega) (by omega)
  have fg2 : ∀ i, Grd (D * a) (falS ss h i * tmS ss h) := fun i => by
    obtain ⟨fi, efi⟩ := fg i
    have e : falS ss h i * tmS ss h = h j * (fi : Rat) / (a : Rat) := by
      rw [tE, efi]
      have : (W : Rat) ≠ 0 := by grind
      have : (a : Rat) ≠ 0 := by grind
      grind
    rw [e]
    exact (((hg j).1).muli fi).divi (by omega) (by omega)
  have M0 : (1 : Rat) ≤ (M : Rat) := by
    have := Rat.intCast_le_intCast.mpr M1
    exact this
  have eM : ((M * 1000000000000000001 : Int) : Rat) = (M : Rat) * 1000000000000000001 := by rw [Rat.intCast_mul]; rfl
  have ft : ∀ i, -tmS ss h ≤ falS ss h i * tmS ss h ∧ falS ss h i * tmS ss h ≤ tmS ss h := fun i => by
    have a := Rat.mul_le_mul_of_nonneg_right (fb i).1 (Rat.le_of_lt t0)
    have b := Rat.mul_le_mul_of_nonneg_right (fb i).2 (Rat.le_of_lt t0)
    constructor <;> grind
  refine ⟨⟨⟨D * a, M * 1000000000000000001, DA1, zDA, by omega, zM', fun i => ⟨?_, ?_⟩, ?_, ?_⟩, fun i => nx_ge P ne z.h0 i, ?_⟩, D * a, M * 1000000000000000001, DA1, zDA, by omega, zM', fun i => ⟨fg2 i, ?_, ?_⟩, tg, Rat.le_of_lt t0, ?_⟩
  · exact (((hg i).1).more (by omega) (by omega)).sub (fg2 i)
  · have := (ft i).1
    have := (hg i).2
    rw [eM]
    unfold nxH
    grind
  · exact (mg.more (by omega) (by omega)).add tg
  · rw [eM]; grind
  · have := z.m0; grind
  · have := (ft i).1; rw [eM]; grind
  · have := (ft i).2; rw [eM]; grind
  · rw [eM]; grind
theorem Pz.sz {k : Nat} {mo : Rat} (z : Pz ss k h mo) (hk : k ≤ 9) : (∀ i, SzQ 1200 (h i)) ∧ SzQ 1200 mo := by
  obtain ⟨D, M, D1, zD, M1, zM, hg, mg, mM⟩ := z.ex
  have M0 : (1 : Rat) ≤ (M : Rat) := by
    have := Rat.intCast_le_intCast.mpr M1
    exact this
  refine ⟨fun i => ?_, ?_⟩
  · have := z.h0 i
    exact ((hg i).1.sz (by omega) zD zM (by grind) (hg i).2 (by omega)).mono (by omega)
  · have := z.m0
    exact (mg.sz (by omega) zD zM (by grind) mM (by omega)).mono (by omega)
theorem cr_ok {L : Int} (P : Plan ss L) : ∀ k, (∀ j, j < k → fullS ss (crS ss j).1 ≠ []) → Pz ss k (crS ss k).1 (crS ss k).2 ∧ k + (fullS ss (crS ss k).1).length ≤ ss.length
  | 0, _ => by
    refine ⟨⟨⟨1, 1000000000000, by decide, Sz.one 0, by decide, ?_, fun i => ⟨Grd.int (by decide) _, ?_⟩, Grd.int (by decide) 0, ?_⟩, fun i => ?_, Rat.le_refl⟩, ?_⟩
    · exact sz_of (a := 41) (by omega) (by simp only [Int.reducePow, Int.reduceLT])
    · show (buS ss i : Rat) ≤ _
      refine Rat.intCast_le_intCast.mpr ?_
      by_cases c : i < ss.length
      · obtain ⟨s, hs, _, e, _⟩ := at_mem c
        rw [e]; exact (P.b1 s hs).2
      · unfold buS
        rw [List.getElem?_eq_none (by omega)]
        show (0 : Int) ≤ 1000000000000
        omega
    · exact Rat.intCast_nonneg.mpr (show (0 : Int) ≤ 1000000000000 by omega)
    · show (0 : Rat) ≤ (buS ss i : Rat)
      refine Rat.intCast_nonneg.mpr ?_
      by_cases c : i < ss.length
      · obtain ⟨s, hs, _, e, _⟩ := at_mem c
        rw [e]; have := (P.b1 s hs).1; omega
      · unfold buS
        rw [List.getElem?_eq_none (by omega)]
        exact Int.le_refl _
    · have : (fullS ss (crS ss 0).1).length ≤ (List.range ss.length).length := List.length_filter_le _ _
      rw [List.length_range] at this
      omega
  | k + 1, hk => by
    obtain ⟨z, le⟩ := cr_ok P k fun j hj => hk j (by omega)
    have ne := hk k (by omega)
    have lt := nx_full P ne z.h0
    exact ⟨(z.step P ne).1, by
      show k + 1 + (fullS ss (nxH ss (crS ss k).1)).length ≤ ss.length
      omega⟩
end
end Sw
namespace Sw
theorem sh_le {ss : List S3} {L : Int} {h : Nat → Rat} (P : Plan ss L) {i : Nat} (c : i ∈ fullS ss h) : shS ss i ≤ sumF ss h := by
  have sp : ∀ i ∈ fullS ss h, 1 ≤ shS ss i := fun i hi => by
    obtain ⟨s, hs, e, _⟩ := at_mem (full_iff.mp hi).1
    rw [e]; exact P.s1 s hs
  unfold sumF
  have : ∀ {l : List Nat}, (∀ i ∈ l, 1 ≤ shS ss i) → i ∈ l → shS ss i ≤ (l.map (shS ss)).sum := fun {l} => by
    induction l with
    | nil => intro _ h; cases h
    | cons x r ih =>
      intro h hi
      have h1 := h x (by simp)
      have h2 : 0 ≤ (r.map (shS ss)).sum := by
        by_cases z : r = []
        · subst z; exact Int.le_refl _
        · have := sum_pos (l := r.map (shS ss)) (fun y hy => by
            obtain ⟨i, hi, rfl⟩ := List.mem_map.mp hy
            exact h i (List.mem_cons_of_mem _ hi)) (by simpa using z)
          omega
      rw [List.map_cons, List.sum_cons]
      rcases List.mem_cons.mp hi with z | z
      · subst z; omega
      · have := ih (fun i hi => h i (List.mem_cons_of_mem _ hi)) z; omega
  exact this sp c
end Sw
namespace L2
open PySem PySem.Spec PyProof.Rows
theorem comp_zip {K : PySem.W.Frag} {a b : Addr} {xs ys : List V} {g : TG} {tc : TT} {te : TE} {D : Addr} {τ : St} {H : Hp} {Q : VK} (Pv : Nat → St → Hp → Prop) (h0 : Pv 0 τ H) (hn : xs.length ≤ ys.length) (hl : ∀ i τ H, i ≤ xs.length → Pv i τ H → SqL K H a xs ∧ SqL K H b ys)
    (hs : ∀ i x y τ H p, xs[i]? = some x → ys[i]? = some y → Pv i τ H → H p = none → g (.ref p) τ (upd H p (.tup [x, y])) fun τ2 H3 => tc τ2 H3 fun b H4 => if b = true then te τ2 H4 fun y H5 => ∃ ys, H5 D = some (.lst ys) ∧ ys.length < sizeLine ∧ Pv (i + 1) τ2 (upd H5 D (.lst (ys ++ [y]))) else Pv (i + 1) τ2 H4)
    (hd : ∀ τ H, Pv xs.length τ H → Q (.ref D) H) :
    CompG (Itz K a b) g tc te D τ H Q := by
  refine ⟨fun i m τ H => m = xs.length - i ∧ i ≤ xs.length ∧ Pv i τ H, ⟨xs.length, by simp, Nat.zero_le _, h0⟩, ?_⟩
  rintro i m τ H ⟨rfl, hi, p⟩
  obtain ⟨q1, q2⟩ := hl i τ H hi p
  by_cases hlt : i < xs.length
  · refine .inr ⟨⟨xs, ys, xs[i], ys[i]'(by omega), q1, q2, by simp [hlt], List.getElem?_eq_getElem _⟩, Pv (i + 1), fun τ' H' p' => ⟨xs.length - (i + 1), by omega, rfl, hlt, p'⟩, fun v H2 z => ?_⟩
    obtain ⟨c, x, y, rfl, hc, hx, hy, rfl⟩ := z
    exact hs i x y τ H c (hx xs q1) (hy ys q2) p hc
  · have e : i = xs.length := by omega
    subst e
    exact .inl ⟨⟨xs, ys, q1, q2, .inl (Nat.le_refl _)⟩, hd τ H p⟩
theorem while_g {c : TT} {tb : TS} {D : Ends} {σ : St} {H : Hp} (W : Nat → St → Hp → Prop) {m0 : Nat} (h0 : W m0 σ H)
    (hs : ∀ m σ H, W m σ H → ∀ Q : Bool → Hp → Prop, (∀ H1, tb { D with nx := fun σ' H' => ∃ m', m' < m ∧ W m' σ' H', ct := fun σ' H' => ∃ m', m' < m ∧ W m' σ' H', bk := D.nx } σ H1 → Q true H1) → (∀ H1, D.nx σ H1 → Q false H1) → c σ H Q) : tWhile c tb D σ H := by
  refine ⟨W, ⟨_, h0⟩, fun m σ H p => ?_⟩
  exact hs m σ H p _ (fun H1 h => ⟨_, fun σ' H' z => z, h⟩) fun H1 h => h
def fr (n : Nat) (h : Nat → Rat) : List Rat := (List.range n).map h
theorem fr_len (n : Nat) (h : Nat → Rat) : (fr n h).length = n := by unfold fr; rw [List.length_map, List.length_range]
theorem fr_get {n i : Nat} (h : Nat → Rat) (c : i < n) : (fr n h)[i]? = some (h i) := by unfold fr; rw [List.getElem?_map, List.getElem?_range c]; rfl
theorem fr_snoc (n : Nat) (h : Nat → Rat) : fr (n + 1) h = fr n h ++ [h n] := by unfold fr; rw [List.range_succ, List.map_append]; rfl
theorem fr_congr {n : Nat} {h g : Nat → Rat} (e : ∀ i, i < n → h i = g i) : fr n h = fr n g := by
  unfold fr
  exact List.map_congr_left fun i hi => e i (List.mem_range.mp hi)
def Sn2 (H : Hp) (p : Addr) (s : Sw.S3) : Prop := ∃ pl pr, H p = some (.tup [.int s.1, .ref pl]) ∧ H pl = some (.tup [.int s.2.1, .ref pr]) ∧ H pr = some (.tup (fq s.2.2))
theorem Sn2.keep {H H' : Hp} {p : Addr} {s : Sw.S3} (h : Sn2 H p s) (e : ∀ p xs, H p = some (.tup xs) → H' p = some (.tup xs)) : Sn2 H' p s := by
  obtain ⟨pl, pr, h1, h2, h3⟩ := h
  exact ⟨pl, pr, e _ _ h1, e _ _ h2, e _ _ h3⟩
structure SnL (H : Hp) (l : Addr) (ps : List Addr) (ss : List Sw.S3) : Prop where
  hl : H l = some (.lst (ps.map V.ref))
  r : Paired (Sn2 H) ps ss
theorem SnL.same {H H' : Hp} {l : Addr} {ps : List Addr} {ss : List Sw.S3} (h : SnL H l ps ss) (s : Same H H') : SnL H' l ps ss := ⟨s _ _ h.hl, Paired.mapP h.r fun _ _ q => q.keep fun _ _ e => s _ _ e⟩
theorem SnL.copy {H : Hp} {l l' : Addr} {ps : List Addr} {ss : List Sw.S3} (h : SnL H l ps ss) (f : H l' = none) : SnL (upd H l' (.lst (ps.map V.ref))) l' ps ss := ⟨upd_same, (h.same (same_new f)).r⟩
theorem SnL.len {H : Hp} {l : Addr} {ps : List Addr} {ss : List Sw.S3} (h : SnL H l ps ss) : ps.length = ss.length := Paired.length h.r
theorem SnL.item {H : Hp} {l : Addr} {ps : List Addr} {ss : List Sw.S3} (h : SnL H l ps ss) {i : Nat} (c : i < ss.length) : ∃ p pl pr, ps[i]? = some p ∧ atI (ps.map V.ref) (i : Int) = some (.ref p) ∧ H p = some (.tup [.int (Sw.shS ss i), .ref pl]) ∧ H pl = some (.tup [.int (Sw.buS ss i), .ref pr]) ∧ H pr = some (.tup (fq (Sw.rtS ss i))) := by
  have e : ss[i]? = some (ss[i]'c) := List.getElem?_eq_getElem _
  obtain ⟨p, h1, pl, pr, h2, h3, h4⟩ := paired_at h.r e
  have e1 : Sw.shS ss i = (ss[i]'c).1 := by unfold Sw.shS; rw [e]; rfl
  have e2 : Sw.buS ss i = (ss[i]'c).2.1 := by unfold Sw.buS; rw [e]; rfl
  have e3 : Sw.rtS ss i = (ss[i]'c).2.2 := by unfold Sw.rtS; rw [e]; rfl
  rw [e1, e2, e3]
  exact ⟨p, pl, pr, h1, atI_nat (by rw [List.getElem?_map, h1]; rfl), h2, h3, h4⟩
theorem lst_item {H : Hp} {l : Addr} {ps : List Addr} {n : Nat} {h : Nat → Rat} (L : Lst fq H l ps (fr n h)) {i : Nat} (c : i < n) : ∃ p, ps[i]? = some p ∧ atI (ps.map V.ref) (i : Int) = some (.ref p) ∧ H p = some (.tup (fq (h i))) := by
  have ln := tupsF_len L.r
  rw [fr_len] at ln
  have e : ps[i]? = some (ps[i]'(by omega)) := List.getElem?_eq_getElem _
  obtain ⟨q, h1, h2⟩ := tupsF_get L.r e
  rw [fr_get h c] at h1
  cases h1
  exact ⟨_, e, atI_nat (by rw [List.getElem?_map, e]; rfl), h2⟩
def Pt4 (ss : List Sw.S3) (H : Hp) (p : Addr) (k : Nat) : Prop := ∃ pm pa po ph os hs, H p = some (.tup [.ref pm, .ref pa, .ref po, .ref ph]) ∧ H pm = some (.tup (fq (Sw.crS ss k).2)) ∧ H pa = some (.tup (fq (Sw.crS ss (k + 1)).2)) ∧ Lst fq H po os (fr ss.length (Sw.outS ss (Sw.crS ss k).1)) ∧ Lst fq H ph hs (fr ss.length (Sw.crS ss k).1)
theorem Pt4.same {ss : List Sw.S3} {H H' : Hp} {p : Addr} {k : Nat} (h : Pt4 ss H p k) (s : Same H H') : Pt4 ss H' p k := by
  obtain ⟨pm, pa, po, ph, os, hs, h1, h2, h3, h4, h5⟩ := h
  exact ⟨pm, pa, po, ph, os, hs, s _ _ h1, s _ _ h2, s _ _ h3, h4.same s, h5.same s⟩
structure PtL (ss : List Sw.S3) (H : Hp) (l : Addr) (ps : List Addr) (m : Nat) : Prop where
  hl : H l = some (.lst (ps.map V.ref))
  r : Paired (Pt4 ss H) ps (List.range m)
structure EndS (ss : List Sw.S3) (m : Nat) : Prop where
  go : ∀ j, j < m → Sw.fullS ss (Sw.crS ss j).1 ≠ []
  no : Sw.fullS ss (Sw.crS ss m).1 = []
  le : m ≤ ss.length
theorem flat_natI : ∀ l : List Nat, (l.map natI).all flatV = true
  | [] => rfl
  | i :: r => by
    rw [List.map_cons, List.all_cons, flat_natI r]
    rfl
theorem inV_natI (i : Nat) (l : List Nat) : inV (.int (i : Nat)) (l.map natI) = decide (i ∈ l) := by
  unfold inV
  induction l with
  | nil => rfl
  | cons x r ih =>
    rw [List.map_cons, List.any_cons, ih]
    have e : eqV (natI x) (.int (i : Nat)) = decide (i = x) := by
      show decide ((x : Int) = (i : Int)) = _
      refine decide_eq_decide.mpr ⟨fun h => by omega, fun h => by omega⟩
    rw [e]
    by_cases c : i = x
    · simp [c]
    · simp [c]
theorem ixN_nat {n j : Nat} (h : j < n) : ixN n (j : Int) = some j := by
  unfold ixN
  rw [if_pos (by omega), if_pos (by omega), Int.toNat_natCast]
theorem tupsF_set {α : Type} {enc : α → List V} {H : Hp} {t : Addr} {q : α} (ht : H t = some (.tup (enc q))) : ∀ {ps : List Addr} {qs : List α} (i : Nat), TupsF enc H ps qs → TupsF enc H (ps.set i t) (qs.set i q)
  | _, _, _, Paired.nil => .nil
  | _, _, 0, Paired.cons _ b => .cons ht b
  | _, _, i + 1, Paired.cons a b => .cons a (tupsF_set ht i b)
theorem fr_set {n i : Nat} (g : Nat → Rat) (x : Rat) : (fr n g).set i x = fr n (fun j => if j = i then x else g j) := by
  refine List.ext_getElem? fun j => ?_
  rw [List.getElem?_set]
  by_cases c : j < n
  · rw [fr_get _ c, fr_get _ c, fr_len]
    by_cases e : i = j
    · subst e; rw [if_pos rfl, if_pos c, if_pos rfl]
    · rw [if_neg e, if_neg (fun z => e z.symm)]
  · rw [List.getElem?_eq_none (l := fr n g) (by rw [fr_len]; omega), List.getElem?_eq_none (l := fr n _) (by rw [fr_len]; omega), fr_len]
    split
    · rw [if_neg (by omega)]
    · rfl
def mn (H : Hp) (l : Addr) : Hp := fun b => if b = l then none else H b
theorem mn_at {H : Hp} {l b : Addr} {o : HO} (h : H b = some o) (n : b ≠ l) : mn H l b = some o := by unfold mn; rw [if_neg n]; exact h
theorem mn_same {H : Hp} {l : Addr} : Same (mn H l) H := fun b o e => by
  unfold mn at e
  split at e
  · cases e
  · exact e
theorem mn_mono {H H' : Hp} {l : Addr} (s : Same H H') : Same (mn H l) (mn H' l) := fun b o e => by
  unfold mn at e ⊢
  split at e
  · cases e
  · rename_i n
    rw [if_neg n]; exact s _ _ e
theorem mn_upd {H : Hp} {l : Addr} {o : HO} : mn (upd H l o) l = mn H l := funext fun b => by
  unfold mn
  split
  · rfl
  · rename_i n; rw [upd_ne n]
theorem Lst.mn {H : Hp} {l x : Addr} {ps : List Addr} {qs : List Rat} (L : Lst fq H x ps qs) {ys : List V} (hl : H l = some (.lst ys)) (n : x ≠ l) : Lst fq (L2.mn H l) x ps qs := ⟨mn_at L.hl n, tupsF_keep L.r fun p xs e => mn_at e (ne_of e hl (by intro z; cases z))⟩
theorem f01q : ((0 : Int) : Rat) / ((1 : Int) : Rat) = 0 := by decide +kernel
theorem fi1q (i : Int) : (i : Rat) / ((1 : Int) : Rat) = (i : Rat) := by
  have : ((1 : Int) : Rat) = 1 := rfl
  rw [this]; grind
end L2
namespace Sw
open L2
theorem tq_take {l : List Rat} (h : ∀ x ∈ l, 0 ≤ x) (i : Nat) : 0 ≤ tq (l.take i) ∧ tq (l.take i) ≤ tq l := by
  have e := tq_app (l.take i) (l.drop i)
  rw [List.take_append_drop] at e
  have a := tq_pos (l := l.drop i) fun x hx => h x (List.mem_of_mem_drop hx)
  have b := tq_pos (l := l.take i) fun x hx => h x (List.mem_of_mem_take hx)
  constructor <;> grind
theorem one_sz {L : Int} {q : Rat} (L1 : 1 ≤ L) (L2 : L ≤ 1000000000000000000) (g : Grd L q) (h1 : -1 ≤ q) (h2 : q ≤ 1) : SzQ 200 q := by
  refine (g.sz (M := 1) (b := 1) (by omega) (sz_of (a := 60) (by omega) (by simp only [Int.reducePow]; omega)) (Sz.one 0) ?_ ?_ (by decide)).mono (by decide)
  · exact h1
  · exact h2
theorem tq_szs {L : Int} (L1 : 1 ≤ L) (L2 : L ≤ 1000000000000000000) {l : List Rat} (h : ∀ x ∈ l, 0 ≤ x) (g : ∀ x ∈ l, Grd L x) (le : tq l ≤ 1) (i : Nat) : SzQ 200 (tq (l.take i)) := by
  obtain ⟨a, b⟩ := tq_take h i
  exact one_sz L1 L2 (tq_grd (by omega) fun x hx => g x (List.mem_of_mem_take hx)) (by grind) (by grind)
theorem rt_sz {ss : List S3} {L : Int} (P : Plan ss L) (i : Nat) : SzQ 200 (rtS ss i) := one_sz P.L1 P.L2 (rt_gr P i) (by have := rt_ge P i; grind) (rt_le P i)
theorem left_sz {ss : List S3} {L : Int} (P : Plan ss L) (h : Nat → Rat) : SzQ 200 (leftS ss h) := one_sz P.L1 P.L2 (left_gr P h) (by have := (left_ok P h).1; grind) (left_ok P h).2
theorem rest_szs {ss : List S3} {L : Int} (P : Plan ss L) (h : Nat → Rat) (i : Nat) : SzQ 200 (tq ((restS ss h).take i)) := by
  refine tq_szs P.L1 P.L2 (fun x hx => ?_) (fun x hx => ?_) ?_ i
  · obtain ⟨i, _, rfl⟩ := List.mem_map.mp hx
    exact rt_ge P i
  · obtain ⟨i, _, rfl⟩ := List.mem_map.mp hx
    exact rt_gr P i
  · have := (left_ok P h).1
    unfold leftS at this
    grind
theorem rates_szs {ss : List S3} {L : Int} (P : Plan ss L) (i : Nat) : SzQ 200 (tq ((ss.map fun s => s.2.2).take i)) := by
  refine tq_szs P.L1 P.L2 (fun x hx => ?_) (fun x hx => ?_) (by have := P.lt; grind) i
  · obtain ⟨s, hs, rfl⟩ := List.mem_map.mp hx
    exact P.r0 s hs
  · obtain ⟨s, hs, rfl⟩ := List.mem_map.mp hx
    exact P.gr s hs
theorem out_sz {ss : List S3} {L : Int} (P : Plan ss L) {h : Nat → Rat} (ne : fullS ss h ≠ []) (i : Nat) : SzQ 200 (outS ss h i) := by
  obtain ⟨S1, SL⟩ := sumF_ok P ne
  have W1 : 1 ≤ L * sumF ss h := by
    have := Int.mul_le_mul_of_nonneg_left S1 (show 0 ≤ L by have := P.L1; omega)
    have := P.L1
    omega
  exact one_sz W1 SL (out_gr P ne i) (by have := (out_ok P ne i).1; grind) (out_ok P ne i).2
theorem fal_sz {ss : List S3} {L : Int} (P : Plan ss L) {h : Nat → Rat} (ne : fullS ss h ≠ []) (i : Nat) : SzQ 401 (falS ss h i) := (out_sz P ne i).sub (rt_sz P i)
end Sw
namespace L2
theorem EndS.uniq {ss : List Sw.S3} {m n : Nat} (a : EndS ss m) (b : EndS ss n) : m = n := by
  by_cases c : m < n
  · exact absurd a.no (b.go m c)
  · by_cases d : n < m
    · exact absurd b.no (a.go n d)
    · omega
def pilS (ss : List Sw.S3) (m i : Nat) : Rat := ((List.range m).map fun k => (Sw.crS ss k).1 i).foldl max 0
theorem max_fold : ∀ (l : List Rat) (a : Rat), a ≤ l.foldl max a ∧ (∀ x ∈ l, x ≤ l.foldl max a) ∧ (l.foldl max a = a ∨ l.foldl max a ∈ l)
  | [], a => ⟨Rat.le_refl, fun x h => absurd h List.not_mem_nil, .inl rfl⟩
  | y :: r, a => by
    obtain ⟨h1, h2, h3⟩ := max_fold r (max a y)
    have m1 : a ≤ max a y := by rw [Rat.max_def]; split <;> grind
    have m2 : y ≤ max a y := by rw [Rat.max_def]; split <;> grind
    show a ≤ r.foldl max (max a y) ∧ (∀ x ∈ y :: r, x ≤ r.foldl max (max a y)) ∧ (r.foldl max (max a y) = a ∨ r.foldl max (max a y) ∈ y :: r)
    refine ⟨by grind, fun x hx => ?_, ?_⟩
    · rcases List.mem_cons.mp hx with z | z
      · subst z; grind
      · exact h2 x z
    · rcases h3 with z | z
      · rw [z, Rat.max_def]
        split
        · exact .inr (by simp)
        · exact .inl rfl
      · exact .inr (List.mem_cons_of_mem _ z)
end L2
namespace Sw
open L2
theorem EndSz {ss : List S3} {L : Int} (P : Plan ss L) {m : Nat} (en : EndS ss m) {k : Nat} (hk : k ≤ m) : Pz ss k (crS ss k).1 (crS ss k).2 ∧ (∀ i, SzQ 1200 ((crS ss k).1 i)) ∧ SzQ 1200 (crS ss k).2 := by
  obtain ⟨z, _⟩ := cr_ok P k fun j hj => en.go j (by omega)
  have := P.n8
  have := en.le
  exact ⟨z, z.sz (by omega)⟩
theorem tm_sz {ss : List S3} {L : Int} (P : Plan ss L) {h : Nat → Rat} (ne : fullS ss h ≠ []) {k : Nat} {mo : Rat} (z : Pz ss k h mo) (hk : k ≤ 8) : (∀ i, SzQ 1200 (falS ss h i * tmS ss h)) ∧ SzQ 1200 (tmS ss h) := by
  obtain ⟨_, D, M, D1, zD, M1, zM, fg, tg, t0, tM⟩ := z.step P ne
  have M0 : (1 : Rat) ≤ (M : Rat) := by
    have := Rat.intCast_le_intCast.mpr M1
    exact this
  refine ⟨fun i => ?_, ?_⟩
  · exact ((fg i).1.sz (by omega) zD zM (fg i).2.1 (fg i).2.2 (by omega)).mono (by omega)
  · exact (tg.sz (by omega) zD zM (by grind) tM (by omega)).mono (by omega)
end Sw
namespace L2
open PySem PySem.Spec PyProof.Rows
theorem pil_ge {ss : List Sw.S3} {L : Int} (P : Sw.Plan ss L) {m : Nat} (en : EndS ss m) {i k : Nat} (hi : i < ss.length) (hk : k ≤ m) : (Sw.crS ss k).1 i ≤ pilS ss m i := by
  obtain ⟨h1, h2, _⟩ := max_fold ((List.range m).map fun k => (Sw.crS ss k).1 i) 0
  unfold pilS
  by_cases c : k < m
  · exact h2 _ (List.mem_map.mpr ⟨k, List.mem_range.mpr c, rfl⟩)
  · have : k = m := by omega
    subst this
    have z : ¬ 0 < (Sw.crS ss k).1 i := fun z => by
      have := Sw.full_iff.mpr ⟨hi, z⟩
      rw [en.no] at this
      cases this
    grind
theorem pil_at {ss : List Sw.S3} {L : Int} (P : Sw.Plan ss L) {m : Nat} (en : EndS ss m) {i : Nat} (hi : i < ss.length) : ∃ k, k < m ∧ (Sw.crS ss k).1 i = pilS ss m i := by
  obtain ⟨h1, h2, h3⟩ := max_fold ((List.range m).map fun k => (Sw.crS ss k).1 i) 0
  have b0 : (0 : Rat) < (Sw.crS ss 0).1 i := by
    obtain ⟨s, hs, _, e, _⟩ := Sw.at_mem hi
    show (0 : Rat) < (Sw.buS ss i : Rat)
    rw [e]
    exact Sw.q_cast_pos (by have := (P.b1 s hs).1; omega)
  have g := pil_ge P en hi (Nat.zero_le m)
  unfold pilS at g ⊢
  rcases h3 with z | z
  · rw [z] at g; exfalso; grind
  · obtain ⟨k, hk, e⟩ := List.mem_map.mp z
    exact ⟨k, List.mem_range.mp hk, e⟩
theorem pil_sz {ss : List Sw.S3} {L : Int} (P : Sw.Plan ss L) {m : Nat} (en : EndS ss m) {i : Nat} (hi : i < ss.length) : Sw.SzQ 1200 (pilS ss m i) := by
  obtain ⟨k, hk, e⟩ := pil_at P en hi
  rw [← e]
  exact (Sw.EndSz P en (by omega)).2.1 i
def snD (s : Sw.S3) : PyData := .tuple [.int s.1, .tuple [.int s.2.1, .tuple [.int s.2.2.num, .int (s.2.2.den : Int)]]]
theorem sn_deep {K : PySem.W.Frag} {H : Hp} : ∀ {ps : List Addr} {ss : List Sw.S3}, Paired (Sn2 H) ps ss → DeepAll K H (ps.map V.ref) (ss.map snD)
  | _, _, Paired.nil => .nil
  | _, _, Paired.cons a b => by
    obtain ⟨pl, pr, h1, h2, h3⟩ := a
    exact .cons (.tup (.of h1) (.cons (.int _) (.cons (.tup (.of h2) (.cons (.int _) (.cons (fq_deep h3) .nil))) .nil))) (sn_deep b)
theorem snD_lay (s : Sw.S3) : (snD s).canLay0 = true := rfl
theorem snD_depth (s : Sw.S3) : (snD s).depth ≤ 3 := by simp [snD, PyData.depth, PyData.depthAll]
theorem SnL.deep {K : PySem.W.Frag} {H : Hp} {l : Addr} {ps : List Addr} {ss : List Sw.S3} (R : SnL H l ps ss) : Deep K H (.ref l) (.list (ss.map snD)) := .lst (.of R.hl) (sn_deep R.r)
theorem shaped_sn (ss : List Sw.S3) : PySem.SeqAt.shaped (.list (ss.map snD)) = true := shaped_list snD_lay snD_depth (by decide) ss
end L2
namespace Sw
open L2
structure Snd (own : Bool) (b left : Int) (ss : List S3) : Prop where
  s1 : ∀ s ∈ ss, 1 ≤ s.1 ∧ s.1 ≤ 1000
  b1 : ∀ s ∈ ss, 1 ≤ s.2.1 ∧ s.2.1 ≤ 1000000000000
  r0 : ∀ s ∈ ss, 0 ≤ s.2.2
  no : own = false → (∀ s ∈ ss, Grd b s.2.2) ∧ tq (ss.map fun s => s.2.2) = ((b - 1 - left : Int) : Rat) / (b : Rat)
  ow : own = true → (∃ L : Int, 1 ≤ L ∧ L ≤ 1000 ^ ss.length ∧ ∀ s ∈ ss, Grd L s.2.2) ∧ (ss = [] ∨ tq (ss.map fun s => s.2.2) < (ss.length : Rat) / 4)
theorem sum_shares {ss : List S3} (h : ∀ s ∈ ss, 1 ≤ s.1 ∧ s.1 ≤ 1000) : 0 ≤ (ss.map fun s => s.1).sum ∧ (ss.map fun s => s.1).sum ≤ ss.length * 1000 := by
  induction ss with
  | nil => exact ⟨Int.le_refl _, Int.le_refl _⟩
  | cons a r ih =>
    have := ih fun s hs => h s (List.mem_cons_of_mem _ hs)
    have := h a (by simp)
    rw [List.map_cons, List.sum_cons, List.length_cons]
    constructor <;> omega
theorem Snd.plan {own : Bool} {b left : Int} {ss : List S3} (h : Snd own b left ss) (hb : 1 ≤ b ∧ b ≤ 1000) (hl : 0 ≤ left) (n8 : ss.length ≤ 8) (n4 : own = true → ss.length ≤ 4) : ∃ L, Plan ss L := by
  obtain ⟨q0, q1⟩ := sum_shares h.s1
  cases own with
  | false =>
    obtain ⟨g, e⟩ := h.no rfl
    refine ⟨b, n8, hb.1, by omega, fun s hs => (h.s1 s hs).1, h.b1, h.r0, g, ?_, ?_⟩
    · rw [e]
      have b0 : (0 : Rat) < (b : Rat) := q_cast_pos (by omega)
      have := div_lt b0 (show ((b - 1 - left : Int) : Rat) < (b : Rat) from Rat.intCast_lt_intCast.mpr (by omega))
      have e : (b : Rat) / (b : Rat) = 1 := by
        have : (b : Rat) ≠ 0 := by grind
        grind
      rw [e] at this
      exact this
    · have a := Int.mul_le_mul_of_nonneg_right hb.2 q0
      omega
  | true =>
    obtain ⟨⟨L, L1, L2, g⟩, t⟩ := h.ow rfl
    have n4 := n4 rfl
    have L3 : L ≤ 1000000000000 := by
      rcases (show ss.length = 0 ∨ ss.length = 1 ∨ ss.length = 2 ∨ ss.length = 3 ∨ ss.length = 4 by omega) with e | e | e | e | e <;> rw [e] at L2 <;> simp only [Int.reducePow] at L2 <;> omega
    refine ⟨L, n8, L1, by omega, fun s hs => (h.s1 s hs).1, h.b1, h.r0, g, ?_, ?_⟩
    · rcases t with z | z
      · subst z; show (0 : Rat) < 1; decide
      · have : (ss.length : Rat) ≤ 4 := by
          have := Rat.natCast_le_natCast.mpr n4
          exact this
        grind
    · have a := Int.mul_le_mul_of_nonneg_right L3 q0
      omega
theorem Snd.nil {own : Bool} {b : Int} (hb : 1 ≤ b) : Snd own b (b - 1) [] := by
  refine ⟨fun s h => absurd h List.not_mem_nil, fun s h => absurd h List.not_mem_nil, fun s h => absurd h List.not_mem_nil, fun _ => ⟨fun s h => absurd h List.not_mem_nil, ?_⟩, fun _ => ⟨⟨1, by decide, by decide, fun s h => absurd h List.not_mem_nil⟩, .inl rfl⟩⟩
  have : b - 1 - (b - 1) = 0 := by omega
  rw [this]
  show (0 : Rat) = ((0 : Int) : Rat) / (b : Rat)
  have : ((0 : Int) : Rat) = 0 := rfl
  rw [this]; grind
theorem Snd.no_snoc {b left top : Int} {ss : List S3} (h : Snd false b left ss) (hb : 1 ≤ b) (t0 : 0 ≤ top) {sh bu : Int} (hs : 1 ≤ sh ∧ sh ≤ 1000) (hu : 1 ≤ bu ∧ bu ≤ 1000000000000) : Snd false b (left - top) (ss ++ [(sh, bu, (top : Rat) / (b : Rat))]) := by
  have b0 : (0 : Rat) < (b : Rat) := q_cast_pos (by omega)
  obtain ⟨g, e⟩ := h.no rfl
  refine ⟨fun s hm => ?_, fun s hm => ?_, fun s hm => ?_, fun _ => ⟨fun s hm => ?_, ?_⟩, fun z => by cases z⟩
  · rcases List.mem_append.mp hm with z | z
    · exact h.s1 s z
    · have : s = _ := List.mem_singleton.mp z
      rw [this]; exact hs
  · rcases List.mem_append.mp hm with z | z
    · exact h.b1 s z
    · have : s = _ := List.mem_singleton.mp z
      rw [this]; exact hu
  · rcases List.mem_append.mp hm with z | z
    · exact h.r0 s z
    · have : s = _ := List.mem_singleton.mp z
      rw [this]
      have := div_mono b0 (show (0 : Rat) ≤ (top : Rat) from Rat.intCast_nonneg.mpr t0)
      have e : (0 : Rat) / (b : Rat) = 0 := by grind
      rw [e] at this
      exact this
  · rcases List.mem_append.mp hm with z | z
    · exact g s z
    · have : s = _ := List.mem_singleton.mp z
      rw [this]; exact ⟨top, rfl⟩
  · rw [List.map_append, List.map_cons, List.map_nil, tq_snoc, e]
    have : b - 1 - (left - top) = (b - 1 - left) + top := by omega
    rw [this, Rat.intCast_add]
    grind
theorem Snd.ow_snoc {b left left' top bo : Int} {ss : List S3} (h : Snd true b left ss) (hb : 1 ≤ bo ∧ bo ≤ 1000) (t0 : 0 ≤ top) (t1 : 4 * top < bo) {sh bu : Int} (hs : 1 ≤ sh ∧ sh ≤ 1000) (hu : 1 ≤ bu ∧ bu ≤ 1000000000000) (b' : Int) : Snd true b' left' (ss ++ [(sh, bu, (top : Rat) / (bo : Rat))]) := by
  have b0 : (0 : Rat) < (bo : Rat) := q_cast_pos (by omega)
  obtain ⟨⟨L, L1, L2, g⟩, t⟩ := h.ow rfl
  refine ⟨fun s hm => ?_, fun s hm => ?_, fun s hm => ?_, (fun z => by cases z), fun _ => ⟨⟨L * bo, ?_, ?_, fun s hm => ?_⟩, .inr ?_⟩⟩
  · rcases List.mem_append.mp hm with z | z
    · exact h.s1 s z
    · have : s = _ := List.mem_singleton.mp z
      rw [this]; exact hs
  · rcases List.mem_append.mp hm with z | z
    · exact h.b1 s z
    · have : s = _ := List.mem_singleton.mp z
      rw [this]; exact hu
  · rcases List.mem_append.mp hm with z | z
    · exact h.r0 s z
    · have : s = _ := List.mem_singleton.mp z
      rw [this]
      have := div_mono b0 (show (0 : Rat) ≤ (top : Rat) from Rat.intCast_nonneg.mpr t0)
      have e : (0 : Rat) / (bo : Rat) = 0 := by grind
      rw [e] at this
      exact this
  · have := Int.mul_pos (show 0 < L by omega) (show 0 < bo by omega)
    omega
  · rw [List.length_append, List.length_cons, List.length_nil, Nat.zero_add, Int.pow_succ]
    have p : (0 : Int) ≤ 1000 ^ ss.length := Int.le_of_lt (Int.pow_pos (by decide))
    have a := Int.mul_le_mul_of_nonneg_right L2 (show 0 ≤ bo by omega)
    have c := Int.mul_le_mul_of_nonneg_left hb.2 p
    omega
  · rcases List.mem_append.mp hm with z | z
    · exact (g s z).more (by omega) (by omega)
    · have : s = _ := List.mem_singleton.mp z
      rw [this, Int.mul_comm]
      exact Grd.more (by omega) ⟨top, rfl⟩ (by omega)
  · rw [List.map_append, List.map_cons, List.map_nil, tq_snoc, List.length_append, List.length_cons, List.length_nil, Nat.zero_add]
    have q : (top : Rat) / (bo : Rat) < 1 / 4 := by
      rw [Rat.div_lt_iff b0]
      have := Rat.intCast_lt_intCast.mpr t1
      rw [Rat.intCast_mul] at this
      have e4 : ((4 : Int) : Rat) = 4 := rfl
      rw [e4] at this
      grind
    have en : ((ss.length + 1 : Nat) : Rat) = (ss.length : Rat) + 1 := by rw [Rat.natCast_add]; rfl
    rw [en]
    rcases t with z | z
    · subst z
      show (0 : Rat) + _ < (((0 : Nat) : Rat) + 1) / 4
      have : ((0 : Nat) : Rat) = 0 := rfl
      rw [this]
      grind
    · show tq (ss.map fun s => s.2.2) + (top : Rat) / (bo : Rat) < _
      grind
end Sw
namespace L2
open PySem PySem.Spec PyProof.Rows
theorem wpAny_newEnv_cell {M : Model} {A : Around} {E : Value → Shared → Prop} {s : Shared} {scope : Scope} {globals : Addr} {closure : List (Str × Addr)} {qual : Str} {func : Option Addr} {code : Value} {env : Env} {builtins : Addr} {Q : Env → Shared → Prop} {x0 : Str}
    (hcs : ∀ n, cellsFrom n scope.names closure = (x0, n) :: closure) (hpc : ∀ h, pushCells h scope.names = h.push { cls := .type "cell", data := .cell none })
    (hQ : Q (newEnv scope s.heap.objs.size globals ((x0, s.heap.objs.size + 1) :: closure) qual func code (some env) builtins) { s with heap := (s.heap.push { cls := .type "dict", data := .dict #[] }).push { cls := .type "cell", data := .cell none } }) :
    wpAny M A (newFunctionEnv scope globals closure [] qual func code (some env) builtins) Q E s := by
  simp only [newFunctionEnv, Option.isSome_some, if_true]
  refine wpAny_bind (wpAny_alloc ?_)
  refine wpAny_bind (wpAny_layCells _ (fun name kind cells => by cases hkc : kind == NameKind.cell <;> simp [hkc]) _ _ _ _ ?_)
  rw [show ({ s with heap := s.heap.push { cls := .type "dict", data := .dict #[] } } : Shared).heap.objs.size = s.heap.objs.size + 1 from Heap.size_push ..]
  rw [hcs, hpc]
  refine wpAny_bind ?_
  rw [List.forIn_nil]
  exact wpAny_pure (wpAny_pure hQ)
def cxCompC (X : Cx) (scope : Scope) (cl : List (Str × Addr)) (x0 : Str) (N : List Str) (fp : List Addr) (s : Shared) (H : Hp) : Cx :=
  { cxComp X scope ((x0, s.heap.objs.size + 1) :: cl) N fp s H with fn := fun x => x == x0 }
section
variable {X : Cx}
theorem cx_startC {scope : Scope} {cl : List (Str × Addr)} {x0 : Str} {ts : List Str} {fr : List (Str × Nat)} {fp : List Addr} {pins : List (Addr × Obj)} {σ : St} {H : Hp} {s : Shared} {h' : Heap} {m : Str → Option Value} {t' : Nat} (I : Inv X pins σ H s)
    (hkind : scope.kind = .function) (hcl : ∀ x c, cl.lookup x = some c → X.env.cells.lookup x = some c)
    (hhas : ∀ x, ((relabel scope X.env).names.lookup x = some .cell ∨ (relabel scope X.env).names.lookup x = some .free) → x = x0 ∨ ∃ c, cl.lookup x = some c) (hfr : FrOk X (relabel scope X.env) fr) (hne : ∀ p ∈ fr, p.1 ≠ x0)
    (hfp : ∀ b ∈ fp, FpOk X pins H b ∧ b < s.heap.objs.size) (hn : h'.Ns s.heap.objs.size m) (hnc : h'.IsCell (s.heap.objs.size + 1) none) (hk : ∀ b o, s.heap.get? b = some o → h'.get? b = some o) :
    Inv (cxCompC X scope cl x0 (ts ++ fr.map (·.1)) fp s H) [] (List.replicate ts.length none ++ fr.map fun p => (σ[p.2]?).join) H { s with heap := h', toks := t' } := by
  have cellK : ∀ c v, s.heap.IsCell c v → h'.IsCell c v := fun c v ⟨o, ho, hd⟩ => ⟨o, hk c o ho, hd⟩
  have two : ∀ x c, ((x0, s.heap.objs.size + 1) :: cl).lookup x = some c → (x = x0 ∧ c = s.heap.objs.size + 1) ∨ (x ≠ x0 ∧ cl.lookup x = some c) := fun x c h => by
    rw [List.lookup_cons] at h
    cases hb : x == x0 with
    | true => rw [hb] at h; cases h; exact .inl ⟨beq_iff_eq.mp hb, rfl⟩
    | false => rw [hb] at h; exact .inr ⟨fun z => by rw [z] at hb; simp at hb, h⟩
  have old : ∀ x c, cl.lookup x = some c → c < s.heap.objs.size := fun x c h => by
    obtain ⟨v, z⟩ := I.cell x c (hcl x c h)
    exact z.lt
  refine ⟨⟨I.ok.mod, hkind, I.ok.glob, I.ok.blt, Nat.le_refl _, fun x y c h1 h2 => ?_, fun x hx => ?_, fun x c hf h => ?_, I.ok.hd, I.ok.frames, .inl rfl, fun b hb => ?_, I.bs, Nat.le_trans I.ok.bsz I.sz, fun b o e hb => ?_, fun b hb z => ?_, I.stack, I.stkFree⟩,
    rfl, I.bare, Un.kept hk, ⟨m, hn, fun i x v e1 e2 e3 => ?_⟩, fun x c e => ?_, I.hok.fresh (Nat.le_refl _), fun x c e => ?_, fun p hp => absurd (show p ∈ ([] : List (Addr × Obj)) from hp) (by simp), I.hok.kept hk, ?_⟩
  · rcases two x c h1 with ⟨a1, a2⟩ | ⟨a1, a2⟩ <;> rcases two y c h2 with ⟨b1, b2⟩ | ⟨b1, b2⟩
    · rw [a1, b1]
    · exact absurd (a2 ▸ old y c b2) (Nat.not_lt.mpr (Nat.le_succ _))
    · exact absurd (b2 ▸ old x c a2) (Nat.not_lt.mpr (Nat.le_succ _))
    · exact I.ok.inj x y c (hcl x c a2) (hcl y c b2)
  · rcases hhas x hx with z | ⟨c, z⟩
    · exact ⟨s.heap.objs.size + 1, by show ((x0, s.heap.objs.size + 1) :: cl).lookup x = _; rw [List.lookup_cons, z]; simp⟩
    · by_cases y : x = x0
      · exact ⟨s.heap.objs.size + 1, by show ((x0, s.heap.objs.size + 1) :: cl).lookup x = _; rw [List.lookup_cons, y]; simp⟩
      · refine ⟨c, ?_⟩
        show ((x0, s.heap.objs.size + 1) :: cl).lookup x = _
        rw [List.lookup_cons, show (x == x0) = false by simpa using y]
        exact z
  · have hf : (x == x0) = true := hf
    rcases two x c h with ⟨a1, a2⟩ | ⟨a1, a2⟩
    · rw [a2]; exact Nat.le_succ _
    · exact absurd (beq_iff_eq.mp hf) a1
  · obtain ⟨f, lt⟩ := hfp b hb
    refine ⟨Nat.ne_of_lt lt, fun x c e => ?_⟩
    rcases two x c e with ⟨a1, a2⟩ | ⟨a1, a2⟩
    · rw [a2]; exact fun z => absurd (z ▸ lt) (Nat.not_lt.mpr (Nat.le_succ _))
    · exact f.2.2.2.2.1 x c (hcl x c a2)
  · obtain ⟨f, lt⟩ := hfp b hb
    rcases f.2.2.2.1 with z | z
    · exact I.ok.noex b o e z
    · exact absurd (Nat.lt_of_lt_of_le (Heap.lt_size e) (Nat.le_trans I.ok.bsz z)) (Nat.lt_irrefl _)
  · obtain ⟨f, lt⟩ := hfp b hb
    rcases List.mem_cons.mp (I.stkSub b z) with y | y
    · exact f.2.1 y
    · exact f.2.2.1 y
  · have hlen : (List.replicate ts.length (none : Option V)).length = ts.length := by simp
    by_cases hi : i < ts.length
    · rw [List.getElem?_append_left (by rw [hlen]; exact hi), List.getElem?_replicate, if_pos hi] at e2
      cases e2
    · rw [List.getElem?_append_right (by rw [hlen]; omega), hlen, List.getElem?_map] at e2
      have e1' : (ts ++ fr.map (·.1))[i]? = some x := e1
      rw [List.getElem?_append_right (by omega), List.getElem?_map] at e1'
      cases ep : fr[i - ts.length]? with
      | none => rw [ep] at e2; cases e2
      | some p =>
        rw [ep] at e1' e2
        have ex : p.1 = x := Option.some.inj e1'
        have ev : (σ[p.2]?).join = some v := Option.some.inj e2
        obtain ⟨a1, a2, a3⟩ := hfr.mem p (List.mem_of_getElem? ep)
        have ev' : σ[p.2]? = some (some v) := by
          cases q : σ[p.2]? with
          | none => rw [q] at ev; cases ev
          | some o => rw [q] at ev; cases o with
            | none => cases ev
            | some v' => cases ev; rfl
        obtain ⟨m', hn', hl'⟩ := I.loc
        obtain ⟨u, ru, lk⟩ := hl' p.2 p.1 v a1 ev' (.inr (.inl a3))
        subst ex
        refine ⟨u, ru, ?_⟩
        rcases lk with ⟨z, _⟩ | ⟨_, c, ec, z⟩
        · rw [z] at a3; cases a3
        · have np := hne p (List.mem_of_getElem? ep)
          rcases hhas p.1 (.inl a2) with y | ⟨c', ec'⟩
          · exact absurd y np
          have ecc : c' = c := Option.some.inj ((hcl _ _ ec').symm.trans ec)
          refine .inr ⟨.inl a2, c', ?_, (by rw [ecc]; exact cellK _ _ z)⟩
          show ((x0, s.heap.objs.size + 1) :: cl).lookup p.1 = _
          rw [List.lookup_cons, show (p.1 == x0) = false by simpa using np]
          exact ec'
  · rcases two x c e with ⟨a1, a2⟩ | ⟨a1, a2⟩
    · rw [a2]; exact ⟨none, hnc⟩
    · obtain ⟨v, z⟩ := I.cell x c (hcl x c a2)
      exact ⟨v, cellK _ _ z⟩
  · rcases two x c e with ⟨a1, a2⟩ | ⟨a1, a2⟩
    · rw [a2]; exact I.hok.fresh (Nat.le_succ _)
    · exact I.freeC x c (hcl x c a2)
  · show _ = (ts ++ fr.map (·.1)).length
    simp
theorem pe_compC {x0 : Str} {elt target iter : Expr} {ifs : List Expr} {scope : Scope} {pos : Pos} {cl : List (Str × Addr)} {ts : List Str} {fr : List (Str × Nat)} {wi : TI} {g : TG} {tc : TT} {te : TE} (hcalm : X.calm = true)
    (hclos : closureFor scope X.env = pure cl) (hcs : ∀ n, cellsFrom n scope.names cl = (x0, n) :: cl) (hpc : ∀ h, pushCells h scope.names = h.push { cls := .type "cell", data := .cell none }) (hkind : scope.kind = .function) (hnames : ∀ y ∈ scope.names, y.2 = .local → scope.names.lookup y.1 = some .local)
    (hcl : ∀ x c, cl.lookup x = some c → X.env.cells.lookup x = some c)
    (hhas : ∀ x, ((relabel scope X.env).names.lookup x = some .cell ∨ (relabel scope X.env).names.lookup x = some .free) → x = x0 ∨ ∃ c, cl.lookup x = some c) (hfr : FrOk X (relabel scope X.env) fr) (hne : ∀ p ∈ fr, p.1 ≠ x0)
    (hi : PI X target iter wi) (hg : ∀ fp s H, PG (cxCompC X scope cl x0 (ts ++ fr.map (·.1)) fp s H) target g) (hc : ∀ fp s H, PIfs (cxCompC X scope cl x0 (ts ++ fr.map (·.1)) fp s H) ifs tc)
    (he : ∀ fp s H, PE (cxCompC X scope cl x0 (ts ++ fr.map (·.1)) fp s H) elt te) (hs : ∀ x, foldedSetIterable iter X.env x = pure x := by intro _; rfl) :
    PE X (.ListComp elt [⟨target, iter, ifs, 0⟩] scope pos) (tComp ts.length fr wi g tc te) := by
  intro pins s σ H Q I h
  rw [eval_ListComp]
  refine wpAny_comprehension_free (use := none) rfl hs hclos hkind hnames (thn (hi pins s σ H _ I h) fun xv s1 h1 => thn h1 fun itv s2 h2 => ?_)
  obtain ⟨it, fp, tn, J, H2, rfl, I2, T, st2, f2, hR⟩ := h2
  have D0 : H2 s2.heap.objs.size = none := I2.hok.fresh (Nat.le_refl _)
  obtain ⟨W, ⟨m0, w0⟩, turn⟩ := hR s2.heap.objs.size D0
  refine wpAny_newObj_type (wpAny_newEnv_cell hcs hpc ?_)
  have I3 : Inv X pins σ (upd H2 s2.heap.objs.size (.lst [])) { s2 with heap := s2.heap.push { cls := .type "list", dict := none, data := .seq ([] : List Value).toArray } } :=
    I2.laid (t' := s2.toks) (fun _ _ q => Heap.get?_push_of_some _ q) (Nat.le_refl _) ⟨Nat.zero_le _, [], 0, .nil, Heap.get?_push_size _ rfl⟩
  have kp3 : ∀ b o, s2.heap.get? b = some o → (s2.heap.push { cls := .type "list", dict := none, data := .seq ([] : List Value).toArray }).get? b = some o := fun b o q => Heap.get?_push_of_some _ q
  have sz3 : (s2.heap.push { cls := .type "list", dict := none, data := .seq ([] : List Value).toArray }).objs.size = s2.heap.objs.size + 1 := Heap.size_push ..
  generalize s2.heap.push { cls := .type "list", dict := none, data := .seq ([] : List Value).toArray } = hp3 at I3 kp3 sz3 ⊢
  have kp : ∀ b o, hp3.get? b = some o → ((hp3.push { cls := .type "dict", data := .dict #[] }).push { cls := .type "cell", data := .cell none }).get? b = some o := fun b o e => Heap.get?_push_of_some _ (Heap.get?_push_of_some _ e)
  have hns₁ : ((hp3.push { cls := .type "dict", data := .dict #[] }).push { cls := .type "cell", data := .cell none }).Ns hp3.objs.size (fun _ => none) := (Heap.Ns.new hp3 (.type "dict")).keeps fun b o e => Heap.get?_push_of_some _ e
  have hnc₁ : ((hp3.push { cls := .type "dict", data := .dict #[] }).push { cls := .type "cell", data := .cell none }).IsCell (hp3.objs.size + 1) none := ⟨_, by
    have := Heap.get?_push_size (hp3.push { cls := .type "dict", data := .dict #[] }) (o := { cls := .type "cell", data := .cell none }) rfl
    rw [Heap.size_push] at this
    exact this, rfl⟩
  generalize (hp3.push { cls := .type "dict", data := .dict #[] }).push { cls := .type "cell", data := .cell none } = h₁ at kp hns₁ hnc₁ ⊢
  have flt : ∀ b ∈ fp, b < s2.heap.objs.size := fun b hb => by
    obtain ⟨o, e, _⟩ := T.obj _ _ st2 b hb
    exact Heap.lt_size e
  have fr3 : ∀ b ∈ fp, (upd H2 s2.heap.objs.size (.lst [])) b = none := fun b hb => by rw [upd_ne (Nat.ne_of_lt (flt b hb))]; exact (f2 b hb).1
  have f3 : ∀ b ∈ fp, FpOk X pins (upd H2 s2.heap.objs.size (.lst [])) b ∧ b < hp3.objs.size := fun b hb => ⟨⟨fr3 b hb, (f2 b hb).2⟩, by rw [sz3]; exact Nat.lt_succ_of_lt (flt b hb)⟩
  have I4 := cx_startC (ts := ts) (t' := s2.toks) I3 hkind hcl hhas hfr hne f3 hns₁ hnc₁ kp
  have st4 : tn 0 h₁ := T.keep _ _ _ st2 fun b hb o e => kp b o (kp3 b o e)
  have loop : codeAny (model X.prog X.w) X.A (.compLoop (.ListComp elt [⟨target, iter, ifs, 0⟩] scope pos) 0 (.ref it) (.ref s2.heap.objs.size) (compEnvC scope ((x0, hp3.objs.size + 1) :: cl) hp3.objs.size X.env))
      (compPost (model X.prog X.w) X.A X.xe none (EP X pins σ Q) (.ref s2.heap.objs.size) hp3.objs.size) { s2 with heap := h₁, toks := s2.toks } := by
    refine codeAny_compLoop_go (fun n s' => ∃ i τ H', Inv (cxCompC X scope cl x0 (ts ++ fr.map (·.1)) fp { s2 with heap := hp3 } (upd H2 s2.heap.objs.size (.lst []))) [] τ H' s' ∧ tn i s'.heap ∧ (∀ b ∈ fp, H' b = none) ∧ W i n τ H') ?_ m0 ⟨0, _, _, I4, st4, fr3, w0⟩
    rintro n s5 ⟨i, τ, H5, I5, st5, fr5, w5⟩
    have stat : ∀ {H' : Hp}, (∀ b ∈ fp, H' b = none) → ∀ b ∈ fp, FpOk (cxCompC X scope cl x0 (ts ++ fr.map (·.1)) fp { s2 with heap := hp3 } (upd H2 s2.heap.objs.size (.lst []))) [] H' b :=
      fun hn b hb => ⟨hn b hb, (I5.ok.exf b hb).1, I5.ok.exfs b hb, .inl hb, (I5.ok.exf b hb).2, fun p hp => absurd (show p ∈ ([] : List (Addr × Obj)) from hp) (by simp)⟩
    rcases turn i n τ H5 w5 with ⟨stop, qn⟩ | ⟨go, Nn, hN, step⟩
    · refine thn (T.done (cxCompC X scope cl x0 (ts ++ fr.map (·.1)) fp { s2 with heap := hp3 } (upd H2 s2.heap.objs.size (.lst []))) rfl rfl rfl hcalm i [] s5 τ H5 _ I5 (stat fr5) st5 stop) fun r s6 ⟨hr, I6⟩ => ?_
      subst hr
      obtain ⟨m, hn, _⟩ := I6.loc
      refine ⟨m, hn, fun h' hs' => ⟨.ref s2.heap.objs.size, H5, ?_, rfl, qn⟩⟩
      have neC : ∀ b o, hp3.get? b = some o → b ≠ hp3.objs.size := fun b o e => Nat.ne_of_lt (Heap.lt_size e)
      have hs'' : Heap.SameBut hp3.objs.size s6.heap h' := hs'
      refine I3.call' (s' := { s6 with heap := h' }) (ch := fp) I6.os ⟨fun b o e n hb hx => ?_, fun b o e n hb hx => ?_, I6.base.free, fun b o e hx => ?_, I6.base.tups, I6.base.frzs, I6.base.tbls⟩ (fun b ob e => ?_) I6.bare (fun b hb => ?_)
      · exact (hs''.2 b (neC b o e)).trans (I6.base.keep b o e n hb hx)
      · obtain ⟨sl, q⟩ := I6.base.slot b o e n hb hx
        exact ⟨sl, (hs''.2 b (neC b o e)).trans q⟩
      · obtain ⟨o', q⟩ := I6.base.there b o e hx
        exact ⟨o', (hs''.2 b (neC b o e)).trans q⟩
      · refine (I6.hok b ob e).stay (fun c v hc q => (hs''.2 c ?_).trans q) (fun _ q => q) fun _ _ q => q
        intro z
        have fz : H5 hp3.objs.size = none := I6.free
        rcases hc with y | y
        · rw [← y, z, fz] at e; cases e
        · rw [z, fz] at y; cases y
      · exact ⟨(f2 b hb).2.2.2.1, (f2 b hb).2.1, (f2 b hb).2.2.2.2.1, (f2 b hb).2.2.2.2.2⟩
    · refine thn (T.item (cxCompC X scope cl x0 (ts ++ fr.map (·.1)) fp { s2 with heap := hp3 } (upd H2 s2.heap.objs.size (.lst []))) rfl rfl rfl hcalm i [] s5 τ H5 _ I5 (stat fr5) st5 go) fun r s6 ⟨u, hr, h6⟩ => ?_
      subst hr
      refine thn h6 fun _ s7 ⟨x, H7, I7, r7, y7, st7, fr7⟩ => ?_
      have I7' := I7.pinned (stat fr7) (T.obj _ _ st7)
      refine wpAny_mono (hg fp _ _ _ s7 τ H7 x u _ I7' r7 (step x H7 y7)) (fun _ s8 ⟨τ8, H8, I8, q8⟩ => ?_) fun _ _ z => False.elim z
      have again : ∀ {τ9 : St} {H9 : Hp} {s9 : Shared}, Inv (cxCompC X scope cl x0 (ts ++ fr.map (·.1)) fp { s2 with heap := hp3 } (upd H2 s2.heap.objs.size (.lst []))) ([] ++ pinsAt fp s7.heap) τ9 H9 s9 → Nn τ9 H9 →
          ∃ m, m < n ∧ ∃ i τ H', Inv (cxCompC X scope cl x0 (ts ++ fr.map (·.1)) fp { s2 with heap := hp3 } (upd H2 s2.heap.objs.size (.lst []))) [] τ H' s9 ∧ tn i s9.heap ∧ (∀ b ∈ fp, H' b = none) ∧ W i m τ H' := fun {τ9 H9 s9} I9 n9 => by
        obtain ⟨m', hm, w9⟩ := hN τ9 H9 n9
        refine ⟨m', hm, i + 1, τ9, H9, I9.unpinned, T.keep _ _ _ st7 fun b hb o e => (I9.pin (b, o) (List.mem_append_right _ (List.mem_append_right _ (mem_pinsAt hb e)))).1, fun b hb => ?_, w9⟩
        obtain ⟨o, e, d⟩ := T.obj _ _ st7 b hb
        exact (I9.pin (b, o) (List.mem_append_right _ (List.mem_append_right _ (mem_pinsAt hb e)))).2.1
      refine wpAny_mono (hc fp _ _ _ s8 τ8 H8 _ I8 q8) (fun ok s9 ⟨H9, I9, q9⟩ => ?_) fun _ _ z => False.elim z
      cases ok with
      | false => exact again I9 q9
      | true =>
        refine wpAny_mono (he fp _ _ _ s9 τ8 H9 _ I9 q9) (fun y s10 ⟨v, H10, I10, rv, ys, hD, hl, qN⟩ => ?_) fun _ _ z => False.elim z
        refine wpAny_mono (mt_append (X := cxCompC X scope cl x0 (ts ++ fr.map (·.1)) fp { s2 with heap := hp3 } (upd H2 s2.heap.objs.size (.lst []))) _ s10 τ8 H10 (.ref s2.heap.objs.size) [v] (.ref s2.heap.objs.size) [y] (fun _ H => Nn τ8 H) I10 rfl (.cons rv .nil) ⟨_, ys, v, rfl, rfl, hD, hl, qN⟩) (fun _ s11 ⟨_, H11, I11, _, q11⟩ => again I11 q11) fun _ _ z => False.elim z
  exact codeAny_compStart_list loop (T.self X.A 0 _ _ _ st4 loop)
theorem pe_lcC {elt target iter : Expr} {ifs : List Expr} {scope : Scope} {pos : Pos} {cl : List (Str × Addr)} (x0 : Str) (ts : List Str) (fr : List (Str × Nat)) {wi : TI} {g : TG} {tc : TT} {te : TE} (hcalm : X.calm = true)
    (hclos : closureFor scope X.env = pure cl) (hcs : ∀ n, cellsFrom n scope.names cl = (x0, n) :: cl) (hpc : ∀ h, pushCells h scope.names = h.push { cls := .type "cell", data := .cell none }) (hkind : scope.kind = .function) (hnames : ∀ y ∈ scope.names, y.2 = .local → scope.names.lookup y.1 = some .local)
    (hcl : ClOk X.env cl) (hhas : clAll (relabel scope X.env).names ((x0, 0) :: cl) = true) (hfr : FrOk X (relabel scope X.env) fr) (hne : fr.all (fun p => p.1 != x0) = true)
    (hi : PI X target iter wi) (hg : ∀ fp s H, PG (cxCompC X scope cl x0 (ts ++ fr.map (·.1)) fp s H) target g) (hc : ∀ fp s H, PIfs (cxCompC X scope cl x0 (ts ++ fr.map (·.1)) fp s H) ifs tc)
    (he : ∀ fp s H, PE (cxCompC X scope cl x0 (ts ++ fr.map (·.1)) fp s H) elt te) (hs : ∀ x, foldedSetIterable iter X.env x = pure x := by intro _; rfl) :
    PE X (.ListComp elt [⟨target, iter, ifs, 0⟩] scope pos) (tComp ts.length fr wi g tc te) :=
  pe_compC hcalm hclos hcs hpc hkind hnames hcl.get (fun x q => by
    obtain ⟨c, e⟩ := clAll_get hhas x q
    rw [List.lookup_cons] at e
    cases hb : x == x0 with
    | true => exact .inl (beq_iff_eq.mp hb)
    | false => rw [hb] at e; exact .inr ⟨c, e⟩) hfr (fun p hp => by
    have := List.all_eq_true.mp hne p hp
    simpa using this) hi hg hc he hs
end
end L2
namespace Sw
open L2
section
variable {ss : List S3}
variable {L : Int} {m : Nat}
end
end Sw
namespace Sw
open L2
section
variable {ss : List S3} {L : Int} {m : Nat}
end
end Sw
namespace L2
open PySem PySem.Spec PyProof.Rows
section
variable {prog : Program} {w : World} {A : Around} {E : Value → Shared → Prop} {s : Shared}
end
section
variable {prog : Program} {w : World} {A : Around} {E : Value → Shared → Prop} {s : Shared}
end
section
variable {X : Cx}
end
end L2
namespace L2
open PySem PySem.Spec PyProof.Rows
end L2
namespace Sw
open L2
end Sw
namespace L2
open PySem PySem.Spec PyProof.Rows
def ms (H : Hp) (S : List Addr) : Hp := fun b => if b ∈ S then none else H b
section
variable {ss : List Sw.S3} {l l1 tl hl kl pn : Addr} {ps cp hp kp S : List Addr} {xs : List (Nat × Addr)} {j : Nat} {g : Nat → Rat} {H H' : Hp}
end
end L2
namespace Sw
end Sw
namespace L2
open PySem PySem.Spec PyProof.Rows
end L2
namespace L2
open PySem PySem.Spec PyProof.Rows
end L2
namespace Sw
open L2
section
variable {sh bu : Int} {r : Rat}
end
end Sw
namespace Sw
open L2
abbrev WI := Nat × Q4 × Rat × Rat
def wAt (i : WI) : Int := i.2.1.1
section
variable {s : Ti} {free : Int} {T G Qu : List WI} {D B : Int}
end
end Sw
namespace L2
open PySem PySem.Spec PyProof.Rows PySem.MeetsSeq
section
variable {X : Cx}
end
end L2
namespace L2
open PySem PySem.Spec PyProof.Rows
section
variable {X : Cx}
def tLstRng (ta : TA) : TE := fun σ H Q => ta σ H fun vs H1 => ∃ n : Nat, vs = [.int n] ∧ n ≤ 1000 ∧ ∀ l, H1 l = none → Q (.ref l) (upd H1 l (.lst ((List.range n).map natI)))
theorem vals_rng : ∀ {us : List Value} {n : Nat}, us.length = n → (∀ (i : Nat) (v : Value), us[i]? = some v → ∃ t, v = .int (0 + (i : Int) * 1) t) → Vals ((List.range n).map natI) us := by
  intro us n hl h
  have key : ∀ (us : List Value) (k : Nat), (∀ (i : Nat) (v : Value), us[i]? = some v → ∃ t, v = .int ((k + i : Nat) : Int) t) → Vals ((List.range' k us.length).map natI) us := by
    intro us
    induction us with
    | nil => intro k _; exact .nil
    | cons a r ih =>
      intro k h
      rw [List.length_cons, List.range'_succ, List.map_cons]
      refine .cons ?_ (ih (k + 1) fun i v e => ?_)
      · obtain ⟨t, e⟩ := h 0 a rfl
        exact ⟨t, by rw [e]; simp⟩
      · obtain ⟨t, e'⟩ := h (i + 1) v (by simpa using e)
        exact ⟨t, by rw [e']; congr 2; omega⟩
  have := key us 0 fun i v e => by
    obtain ⟨t, e'⟩ := h i v e
    exact ⟨t, by rw [e']; congr 1; simp⟩
  rw [hl, ← List.range_eq_range'] at this
  exact this
theorem pe_listRange {a : Expr} {ta : TA} {p p2 pos pos2 : Pos} (hc : X.calm = true) (hg : Gl X "list") (hm : X.mg "list" = none) (hg2 : Gl X "range") (hm2 : X.mg "range" = none) (ha : PA X [a] ta) (hs : starEach [a] X.env = [(false, eval a X.env)] := by rfl)
    (he : starEach [.Call (.Name "range" p2) [a] [] pos2] X.env = (false, eval (.Call (.Name "range" p2) [a] [] pos2) X.env) :: starEach [] X.env := by rfl) (hpl : (backTo pos (starEach [] X.env)).any (·.1) = false := by rfl) :
    PE X (.Call (.Name "list" p) [.Call (.Name "range" p2) [a] [] pos2] [] pos) (tLstRng ta) := by
  intro pins s σ H Q I h
  refine wpAny_Call_Name_kw (ld_blt I hg hm boot_list ?_ (by decide) (by decide))
  refine PyProof.Rows.callWith_type1 ?_ he hpl
  rw [he]
  show wpAny _ _ (spliced ((false, eval (.Call (.Name "range" p2) [a] [] pos2) X.env) :: backTo pos (starEach [] X.env))) _ _ s
  refine Calls.spliced_cons ?_
  refine Call_ (ld_blt I hg2 hm2 boot_range (PyProof.Rows.callWith_type1 (thn (ha pos2 pins s σ H _ I h) fun us s1 ⟨vs, H1, I1, r1, q1⟩ => ?_) hs rfl))
  obtain ⟨n, e, q2, q⟩ := q1
  subst e
  cases r1 with
  | cons r rr =>
    cases rr
    obtain ⟨t, rfl⟩ := r
    refine call_range_1 ?_
    refine Calls.spliced_nil ?_
    have hn : Builtin.Range.rangeSize 0 (n : Int) 1 = (n : Nat) := by rw [rangeSize_one]; split <;> omega
    refine call_list_range (I.ok.hd hc) (IsRange.new ..) (small_one (by omega) (by omega) (by omega) (by omega)) hn (by omega) fun h' tk acc c' hk hD it => ?_
    have hk1 : ∀ b o, s1.heap.get? b = some o → h'.get? b = some o := fun b o e => hk b o (Heap.get?_push_of_some _ e)
    have hv : Vals ((List.range n).map natI) acc.toList := vals_rng (by rw [Array.length_toList]; exact it.1) fun i v e => it.2 i v (by rw [← Array.getElem?_toList]; exact e)
    have sz : s1.heap.objs.size ≤ (s1.heap.push { cls := .type "range", data := .fields #[.int 0 s1.toks, .int n t, .int 1 (s1.toks + 1)] }).objs.size := by rw [size_push']; exact Nat.le_succ _
    have new : ObjOk X.prog X.w (upd H1 (s1.heap.push { cls := .type "range", data := .fields #[.int 0 s1.toks, .int n t, .int 1 (s1.toks + 1)] }).objs.size (.lst ((List.range n).map natI))) h' (s1.heap.push { cls := .type "range", data := .fields #[.int 0 s1.toks, .int n t, .int 1 (s1.toks + 1)] }).objs.size (.lst ((List.range n).map natI)) :=
      ⟨by rw [List.length_map, List.length_range, sizeLine_eq]; omega, acc.toList, c', hv, by rw [Array.toArray_toList]; exact hD⟩
    exact ⟨.ref _, _, I1.laid (t' := tk) hk1 sz new, rfl, q _ (I1.hok.fresh sz)⟩
end
end L2
namespace Sw
open L2
abbrev WS := Int × List WI × List (Nat × Int)
def ctime (free : Int) : List WI → Int
  | [] => free
  | i :: _ => if wAt i > free then wAt i else free
def goOn (lim : Option Int) (x : WS) : Prop := x.2.1 ≠ [] ∧ ∀ a, lim = some a → ctime x.1 x.2.1 < a
instance (lim : Option Int) (x : WS) : Decidable (goOn lim x) := by
  unfold goOn
  cases lim with
  | none => exact decidable_of_iff (x.2.1 ≠ []) ⟨fun h => ⟨h, fun a e => by cases e⟩, fun h => h.1⟩
  | some b => exact decidable_of_iff (x.2.1 ≠ [] ∧ ctime x.1 x.2.1 < b) ⟨fun h => ⟨h.1, fun a e => by cases e; exact h.2⟩, fun h => ⟨h.1, h.2 b rfl⟩⟩
section
variable {s : Ti} {T G : List WI} {x : WS} {D B : Int}
end
end Sw
namespace L2
open PySem PySem.Spec PyProof.Rows
end L2
namespace Sw
open L2
section
variable {n : Nat} {M : Int} {a c : Nat} {s : Ti} {k : Nat} {T G : List WI} {D : Int} {x : WS}
end
end Sw
namespace Sw
open L2
section
variable {n : Nat} {M : Int} {a c : Nat} {qs : List Q4} {s : Ti} {k : Nat} {T G : List WI} {D : Int} {x : WS}
end
end Sw
namespace Sw
open L2
section
variable {n : Nat} {M : Int} {a c : Nat} {s : Ti} {t k : Nat} {T G : List WI} {D : Int} {x : WS}
end
end Sw
namespace Sw
open L2
section
variable {n : Nat} {M : Int} {a c : Nat} {s : Ti} {t k : Nat} {T G : List WI} {D : Int} {x : WS}
end
end Sw
namespace L2
open PySem PySem.Spec PyProof.Rows
def Iti (a : Addr) (o : Obj) (kvs : List (Key × V)) : It :=
  ⟨fun i H => i < kvs.length ∧ H a = some (.frz o (.dK kvs)), fun i H x H' => ∃ p kv, x = .ref p ∧ H p = none ∧ kvs[i]? = some kv ∧ H' = upd H p (.tup [kV kv.1, kv.2]), fun i H => kvs.length ≤ i ∧ H a = some (.frz o (.dK kvs))⟩
theorem turn_items {P : Program} {w : World} {K : PySem.W.Frag} {elts : List Expr} {x1} {pos : Pos} (a it : Addr) {o : Obj} {kvs : List (Key × V)} {vs : List (Key × Value)} {es : Array DictEntry} {ep : Nat} (rel : KV kvs vs)
    (ho : o.ExactDict ∧ o.data = .dict es ep ∧ KeysOf (mixKind P w) es ∧ Pairs (mixKind P w) es.toList vs ∧ (vs.map (·.1)).Nodup) : Turn P w K (.Tuple elts x1 pos) (Iti a o kvs) [it] it (fun i h => ∃ ok ov, IsItemIter h it a i vs.length ep ok ov) where
  mem := by simp
  obj := fun i h st b hb => by
    have e : b = it := by simpa using hb
    subst e
    obtain ⟨ok, ov, e⟩ := st
    exact ⟨_, e, fun v z => by cases z⟩
  keep := fun i h h' st k => by
    obtain ⟨ok, ov, e⟩ := st
    exact ⟨ok, ov, k it (by simp) _ e⟩
  item := by
    intro X hP hw hK hc i pins s σ H E I hf st hg
    subst hP hw hK
    obtain ⟨hi, hz⟩ := hg
    obtain ⟨ok, ov, he⟩ := st
    obtain ⟨f0, f1, f2, f3, f4, f5⟩ := hf it (by simp)
    have hkv : kvs[i]? = some (kvs[i]'hi) := List.getElem?_eq_getElem _
    have hi' : i < vs.length := by rw [← rel.length]; exact hi
    have hv : vs[i]? = some (vs[i]'hi') := List.getElem?_eq_getElem _
    obtain ⟨q, hq, rq⟩ := paired_get rel hkv
    rw [hv] at hq
    cases hq
    have da : s.heap.DictAt (mixKind X.prog X.w) a vs ep := ⟨o, es, (I.hok a _ hz).1, ho⟩
    refine wpAny_pyNext_items_item (v := (vs[i]'hi').2) he da hv fun key h' hkey ho' hT hsz hk => ?_
    refine ⟨.ref s.heap.objs.size, rfl, wpAny_letOwnedTupleGo_items ho' fun hp2 hz2 hs2 => ?_⟩
    have hs2' : Heap.SameBut it h' hp2 := hs2
    have nsz : s.heap.objs.size ≠ it := Nat.ne_of_gt (Heap.lt_size he)
    have htup : hp2.get? s.heap.objs.size = some { cls := .type "tuple", data := .seq #[key, (vs[i]'hi').2] } := (hs2'.2 _ nsz).trans hT
    have k2 : ∀ c o, c ∉ [it] → s.heap.get? c = some o → hp2.get? c = some o := fun c o n q => by
      simp only [List.mem_cons, List.not_mem_nil, or_false] at n
      exact (hs2'.2 c n).trans (hk c o n q)
    have fresh : H s.heap.objs.size = none := I.hok.fresh (Nat.le_refl _)
    have nit : ∀ c v, H c = some v → c ∉ [it] := fun c v q h => by
      have e : c = it := by simpa using h
      rw [e, f0] at q; cases q
    have up : ∀ c o, H c = some o → (upd H s.heap.objs.size (.tup [kV (kvs[i]'hi).1, (kvs[i]'hi).2])) c = some o := fun c o q => by rw [upd_ne (ne_of_none q fresh)]; exact q
    have rk : RelV (kV (kvs[i]'hi).1) key := by rw [rq.1]; exact kV_of hkey
    have I2 : Inv X pins σ (upd H s.heap.objs.size (.tup [kV (kvs[i]'hi).1, (kvs[i]'hi).2])) { s with heap := hp2 } := by
      refine I.step (t' := s.toks) (g' := s.gens) (d' := s.drawn) (ch := [it]) (fun c hc => ?_) (fun c o _ _ hc q _ => k2 c o hc q)
        (fun c o _ _ hc q _ => ⟨o.slots, k2 c o hc q⟩) (fun c o _ q n => by rw [upd_ne (Nat.ne_of_lt (Heap.lt_size q))]; exact n)
        (fun c o hc q => ⟨o, k2 c o hc q⟩) (fun c zs q => up c _ q) (fun c ob v q => up c _ q) (fun c ps q => ⟨#[], by rw [up c _ q]; simp⟩) (fun m hm => ?_) (fun c v q => ?_) I.bare
      · obtain ⟨f0, f1, f2, f3, f4, f5⟩ := hf c hc
        exact ⟨f3, f1, f4, f5⟩
      · obtain ⟨o, es, ep, ho, r⟩ := hm
        refine ⟨o, es, ep, k2 _ o (fun h => ?_) ho, r⟩
        exact (hf _ h).2.1 rfl
      · by_cases hb : c = s.heap.objs.size
        · subst hb
          rw [upd_same] at q
          cases q
          exact ⟨by show 2 ≤ sizeLine; decide, [key, (vs[i]'hi').2], .cons rk (.cons rq.2 .nil), _, htup, rfl, _, rfl⟩
        · rw [upd_ne hb] at q
          refine (I.hok c v q).stay (fun d v' hd q' => ?_) (fun d y => up d _ y) fun d zs y => up d _ y
          refine k2 d v' ?_ q'
          rcases hd with y | y
          · rw [y]; exact nit c v q
          · exact nit d _ y
    refine ⟨.ref s.heap.objs.size, _, I2, rfl, ⟨s.heap.objs.size, _, rfl, fresh, hkv, rfl⟩, ⟨_, _, hz2⟩, fun c hc => ?_⟩
    have e : c = it := by simpa using hc
    subst e
    rw [upd_ne nsz.symm]
    exact f0
  done := by
    intro X hP hw hK hc i pins s σ H E I hf st hg
    subst hP hw hK
    obtain ⟨hi, hz⟩ := hg
    obtain ⟨ok, ov, he⟩ := st
    obtain ⟨f0, f1, f2, f3, f4, f5⟩ := hf it (by simp)
    have da : s.heap.DictAt (mixKind X.prog X.w) a vs ep := ⟨o, es, (I.hok a _ hz).1, ho⟩
    exact wpAny_pyNext_items_end (I.ok.hd hc) he da (List.getElem?_eq_none (by rw [← rel.length]; exact hi)) fun h' eb => ⟨rfl, I.turned (t' := s.toks) (fun b o hb e => eb b o hb e) f0 f1 f3 f4 f5⟩
  self := fun _ _ _ _ _ st h => by
    obtain ⟨ok, ov, he⟩ := st
    exact PySem.W.kcp_self he h
def tForI (tl : TE) (g : TG) (tb : TS) : TS := fun D σ H => tl σ H fun x H1 => ∃ a kvs, x = .ref a ∧ H1 a = some (.dK kvs) ∧ ∀ o, ∃ W : Nat → Nat → St → Hp → Prop, (∃ m, W 0 m σ (upd H1 a (.frz o (.dK kvs)))) ∧ ∀ i m σ H, W i m σ H →
  H a = some (.frz o (.dK kvs)) ∧ ((kvs.length ≤ i ∧ D.nx σ (upd H a (.dK kvs))) ∨ (∃ kv, kvs[i]? = some kv ∧ ∃ N : St → Hp → Prop, (∀ σ' H', N σ' H' → ∃ m', m' < m ∧ W (i + 1) m' σ' H') ∧ ∀ p, H p = none → g (.ref p) σ (upd H p (.tup [kV kv.1, kv.2])) fun σ2 H2 => tb { D with nx := N, ct := N, bk := fun _ _ => False } σ2 H2))
section
variable {X : Cx}
theorem ps_forI {o : Expr} {apos cpos tpos : Pos} {elts : List Expr} {x1} {body : List Stmt} {tl : TE} {g : TG} {tb : TS} {pos : Pos} (hp : PassesOwn (model X.prog X.w) X.A X.env X.xe) (hc : X.calm = true) (hl : PE X o tl) (hg : PG X (.Tuple elts x1 tpos) g) (hb : PSs X body tb)
    (hs : ∀ x, foldedSetIterable (.Call (.Attribute o "items" apos) [] [] cpos) X.env x = pure x := by intro _; rfl)
    (hbase : attributeBase o "items" X.env (eval o X.env) = eval o X.env := by rfl) (hline : (apos.endLine == cpos.line) = true := by rfl) : PS X (.For (.Tuple elts x1 tpos) (.Call (.Attribute o "items" apos) [] [] cpos) body [] pos) (tForI tl g tb) := by
  intro pins s σ H D I h
  refine wpAny_For (wpAny_Call_method0_late hbase hline (thn (hl pins s σ H _ I h) fun v s1 ⟨x, H1, I1, r1, a, kvs, ex, ha, hall⟩ => ?_)) hs
  subst ex
  obtain rfl : v = Value.ref a := r1
  obtain ⟨t1, t2, _⟩ := isD_at I1 (.inl ⟨kvs, .inl ha⟩)
  obtain ⟨z, hd, vs, rel, o', es, ep, ho, hx⟩ := dk_of I1.hok ha
  refine ⟨"dict", "dict.items", PySem.F.plainAttrs_dict, PySem.F.slot_dict_items, PySem.F.type_dict_items, t1, t2, Calls.callWith_builtin rfl (PySem.evalArgs_none ?_)⟩
  refine call_meetsIn PySem.F.slot_dict_items t1 PySem.F.entry_dict_items (PySem.F.args_dict_items_1 _) (meets_dict_items (mixKind X.prog X.w) a hd) ⟨⟨vs, o', es, ep, ho, hx⟩, ?_⟩
  have Iv : Inv X pins σ H1 { s1 with heap := s1.heap.push { cls := .type "dict_items", data := .fields #[.ref a] } } := I1.kept (t' := s1.toks) fun b o e => Heap.get?_push_of_some _ e
  have hov : (s1.heap.push { cls := .type "dict_items", data := .fields #[.ref a] }).get? a = some o' := Heap.get?_push_of_some _ ho
  have hvw : (s1.heap.push { cls := .type "dict_items", data := .fields #[.ref a] }).IsItemsView s1.heap.objs.size a := ⟨_, Heap.get?_push_size _ rfl, rfl, rfl⟩
  generalize s1.heap.push { cls := .type "dict_items", data := .fields #[.ref a] } = hv at Iv hov hvw ⊢
  refine wpAny_pyIter_items (s := { s1 with heap := hv }) (knd := mixKind X.prog X.w) hvw ⟨o', es, hov, hx⟩ ?_
  obtain ⟨W, ⟨m0, w0⟩, turn⟩ := hall o'
  have n0 : ∀ o u, X.H₀ a ≠ some (.frz o u) := fun o' u e => by
    have := I1.base.frzs a o' u e
    rw [ha] at this
    cases this
  have fresh : H1 hv.objs.size = none := Iv.hok.fresh (Nat.le_refl _)
  have fp1 := Iv.fpOk (Nat.le_refl _) fresh
  have na : hv.objs.size ≠ a := fun y => by rw [y, ha] at fresh; cases fresh
  have I2 : Inv X pins σ (upd H1 a (.frz o' (.dK kvs))) { s1 with heap := hv.push { cls := .type "dict_itemiterator", data := .fields #[.none, .bool false, .ref a, .int 0 0, .int vs.length 0, .int ep 0, .none, .none] } } :=
    (Iv.kept (t' := s1.toks) fun b o e => Heap.get?_push_of_some _ e).frozen ha (Heap.get?_push_of_some _ hov)
  have T : Turn X.prog X.w X.K (.Tuple elts x1 tpos) (Iti a o' kvs) [hv.objs.size] hv.objs.size (fun i h => ∃ ok ov, IsItemIter h hv.objs.size a i vs.length ep ok ov) := turn_items a _ rel hx
  have stat : ∀ {H' : Hp}, H' hv.objs.size = none → ∀ b ∈ [hv.objs.size], FpOk X pins H' b := fun hn b hb => by
    have e : b = hv.objs.size := by simpa using hb
    subst e
    exact ⟨hn, fp1.2⟩
  refine codeAny_forLoop_any (fun n s' => ∃ i σ' H', Inv X pins σ' H' s' ∧ (∃ ok ov, IsItemIter s'.heap hv.objs.size a i vs.length ep ok ov) ∧ H' hv.objs.size = none ∧ W i n σ' H') ?_ m0 ⟨0, σ, _, I2, ⟨.none, .none, Heap.get?_push_size _ rfl⟩, by rw [upd_ne na]; exact fresh, w0⟩
  rintro n s3 ⟨i, σ3, H3, I3, st3, fr3, w3⟩
  obtain ⟨hz, cs⟩ := turn i n σ3 H3 w3
  rcases cs with ⟨stop, qn⟩ | ⟨kv, hkv, N, hN, step⟩
  · refine wpAny_passesOwn hp (thn (T.done X rfl rfl rfl hc i pins s3 σ3 H3 X.xe I3 (stat fr3) st3 ⟨stop, hz⟩) fun r s4 ⟨hr, I4⟩ => ?_)
    subst hr
    exact wpAny_execs_nil ⟨σ3, _, I4.thawed hz n0, qn⟩
  · refine wpAny_passesOwn hp (thn (T.item X rfl rfl rfl hc i pins s3 σ3 H3 X.xe I3 (stat fr3) st3 ⟨(List.getElem?_eq_some_iff.mp hkv).1, hz⟩) fun r s4 ⟨u, hr, h4⟩ => ?_)
    subst hr
    refine wpAny_passesOwn hp (thn h4 fun _ s5 ⟨x, H5, I5, r5, ⟨pt, kv', ex, hpt, hkv', eH⟩, st5, fr5⟩ => ?_)
    subst eH
    rw [hkv] at hkv'
    cases hkv'
    subst ex
    have I5' := I5.pinned (stat (fr5 _ (by simp))) (T.obj _ _ st5)
    refine wpAny_passesOwn hp (thn (hg _ s5 σ3 _ _ u _ I5' r5 (step pt hpt)) fun _ s6 ⟨σ6, H6, I6, q6⟩ => ?_)
    refine wpAny_passesOwn hp (thn (hb _ s6 σ6 H6 _ I6 q6) fun f s7 q7 => ?_)
    have again : ∀ {σ7 : St} {H7 : Hp}, Inv X (pins ++ pinsAt [hv.objs.size] s5.heap) σ7 H7 s7 → N σ7 H7 → ∃ m, m < n ∧ ∃ i σ' H', Inv X pins σ' H' s7 ∧ (∃ ok ov, IsItemIter s7.heap hv.objs.size a i vs.length ep ok ov) ∧ H' hv.objs.size = none ∧ W i m σ' H' := fun {σ7 H7} I7 n7 => by
      obtain ⟨m', hm, w7⟩ := hN σ7 H7 n7
      refine ⟨m', hm, i + 1, σ7, H7, I7.unpinned, T.keep _ _ _ st5 fun b hb o e => (I7.pin (b, o) (List.mem_append_right _ (List.mem_append_right _ (mem_pinsAt hb e)))).1, ?_, w7⟩
      obtain ⟨o, e, d⟩ := T.obj _ _ st5 hv.objs.size (by simp)
      exact (I7.pin (_, o) (List.mem_append_right _ (List.mem_append_right _ (mem_pinsAt (by simp) e)))).2.1
    cases f with
    | next => obtain ⟨σ7, H7, I7, n7⟩ := q7; exact again I7 n7
    | cont => obtain ⟨σ7, H7, I7, n7⟩ := q7; exact again I7 n7
    | brk => obtain ⟨σ7, H7, I7, q7⟩ := q7; exact False.elim q7
    | ret v => obtain ⟨x7, σ7, H7, I7, r7, q7⟩ := q7; exact ⟨x7, σ7, H7, I7.unpinned, r7, q7⟩
end
theorem for_items {a : Addr} {kvs : List (Key × V)} {o : Obj} {g : TG} {tb : TS} {D : Ends} {σ : St} {H : Hp} (Pv : Nat → St → Hp → Prop) (h0 : Pv 0 σ H) (hz : ∀ i σ H, i ≤ kvs.length → Pv i σ H → H a = some (.frz o (.dK kvs)))
    (hs : ∀ i kv σ H p, kvs[i]? = some kv → Pv i σ H → H p = none → g (.ref p) σ (upd H p (.tup [kV kv.1, kv.2])) fun σ2 H2 => tb { D with nx := Pv (i + 1), ct := Pv (i + 1), bk := fun _ _ => False } σ2 H2) (hd : ∀ σ H, Pv kvs.length σ H → D.nx σ (upd H a (.dK kvs))) :
    ∃ W : Nat → Nat → St → Hp → Prop, (∃ m, W 0 m σ H) ∧ ∀ i m σ H, W i m σ H →
      H a = some (.frz o (.dK kvs)) ∧ ((kvs.length ≤ i ∧ D.nx σ (upd H a (.dK kvs))) ∨ (∃ kv, kvs[i]? = some kv ∧ ∃ N : St → Hp → Prop, (∀ σ' H', N σ' H' → ∃ m', m' < m ∧ W (i + 1) m' σ' H') ∧ ∀ p, H p = none → g (.ref p) σ (upd H p (.tup [kV kv.1, kv.2])) fun σ2 H2 => tb { D with nx := N, ct := N, bk := fun _ _ => False } σ2 H2)) := by
  refine ⟨fun i m σ H => m = kvs.length - i ∧ i ≤ kvs.length ∧ Pv i σ H, ⟨kvs.length, by simp, Nat.zero_le _, h0⟩, ?_⟩
  rintro i m σ H ⟨rfl, hi, p⟩
  refine ⟨hz i σ H hi p, ?_⟩
  by_cases hlt : i < kvs.length
  · exact .inr ⟨kvs[i], by simp [hlt], Pv (i + 1), fun σ' H' p' => ⟨kvs.length - (i + 1), by omega, rfl, hlt, p'⟩, fun q hq => hs i _ σ H q (by simp [hlt]) p hq⟩
  · have e : i = kvs.length := by omega
    subst e
    exact .inl ⟨Nat.le_refl _, hd σ H p⟩
section
variable {X : Cx} {pins : List (Addr × Obj)} {σ : St} {H : Hp} {s : Shared} {a vw : Addr} {kvs : List (Key × V)} {Q : VK}
theorem d_sorted (hc : X.calm = true) (I : Inv X pins σ H s) (ha : H a = some (.dK kvs)) (hv : PySem.W.KdlKeysView s.heap vw a) {ns : List Int} (hk : kvs.map (fun kv => kV kv.1) = ns.map V.int) (h64 : ns.length < 64)
    (q : ∀ (l : Addr) (ns' : List Int), H l = none → ns'.Perm ns → ns'.Pairwise (· ≤ ·) → Q (.ref l) (upd H l (.lst (ns'.map V.int)))) : wpAny (model X.prog X.w) X.A (call (.builtin "sorted") [.ref vw]) (EP X pins σ Q) X.xe s := by
  obtain ⟨z, hd, vs, rel, o, es, ep, ho, hx⟩ := dk_of I.hok ha
  have lk : kvs.length = ns.length := by have := congrArg List.length hk; rw [List.length_map, List.length_map] at this; exact this
  refine Calls.call_function_entry kind_sorted plain_sorted entry_sorted (args_sorted1 _) ?_
  unfold Builtin.«sorted»
  refine wpAny_bind (m := checkCount "sorted" 1 1 _) (wpAny_pure ?_)
  refine wpAny_bind (PySem.W.kdu_collect (A := X.A.in1) (PySem.W.kdl_keys (knd := mixKind X.prog X.w) (kvs := vs) (ep := ep)) (I.ok.hd hc) ⟨hv, o, es, ho, hx⟩ (by rw [← rel.length]; exact z) fun h' tk acc hk' hacc => ?_)
  have hl : acc.toList.length = vs.length := by rw [Array.length_toList]; exact hacc.1
  have hvl : Vals (kvs.map fun kv => kV kv.1) acc.toList := vals_keys rel hl fun j v e => hacc.2 j v (by rw [← Array.getElem?_toList]; exact e)
  rw [hk] at hvl
  have hI := intsAre_of hvl
  have I' : Inv X pins σ H { s with heap := h', toks := tk } := I.kept (t' := tk) hk'
  refine wpAny_bind (wpAny_newList ?_ (by rw [hl, ← rel.length]; exact z))
  have hoL : (h'.push (seqObj "list" acc.toList.toArray 0)).get? h'.objs.size = some (seqObj "list" acc.toList.toArray 0) := Heap.get?_push_size _ rfl
  refine wpAny_bind (wpAny_holding (wpAny_call_entry slot_list_sort ⟨_, hoL, rfl⟩ entry_list_sort (list_sort_tree hoL hI (by rw [hl, ← rel.length]; omega) fun out ns' a1 a2 a3 => ⟨_, rfl, ?_⟩) (args_list_sort _)))
  obtain ⟨e, he⟩ := sortedHeap_at (out := out) hoL
  have ln : ns'.length = ns.length := a2.length_eq
  have new : ObjOk X.prog X.w (upd H h'.objs.size (.lst (ns'.map V.int))) (sortedHeap (h'.push (seqObj "list" acc.toList.toArray 0)) h'.objs.size acc.toList out) h'.objs.size (.lst (ns'.map V.int)) :=
    ⟨by rw [List.length_map, ln, ← lk]; exact z, out.toList, e, vals_ints a1, by rw [Array.toArray_toList]; exact he⟩
  refine wpAny_pure ⟨_, rfl, .ref h'.objs.size, _, I'.laid (t' := tk) (fun b o q => ?_) (Nat.le_refl _) new, rfl, q _ _ (I'.hok.fresh (Nat.le_refl _)) a2 a3⟩
  have lt : b < h'.objs.size := Heap.lt_size q
  rw [sortedHeap_old (Nat.ne_of_lt lt) (Nat.lt_of_lt_of_le lt (by rw [size_push']; exact Nat.le_succ _))]
  exact Heap.get?_push_of_some _ q
def tSortK (td : TE) : TE := fun σ H Q => td σ H fun x H1 => ∃ (a : Addr) (kvs : List (Key × V)) (ns : List Int), x = .ref a ∧ H1 a = some (.dK kvs) ∧ kvs.map (fun kv => kV kv.1) = ns.map V.int ∧ ns.length < 64 ∧ ∀ (l : Addr) (ns' : List Int), H1 l = none → ns'.Perm ns → ns'.Pairwise (· ≤ ·) → Q (.ref l) (upd H1 l (.lst (ns'.map V.int)))
theorem pe_sortK {o : Expr} {td : TE} {p pos apos cpos : Pos} (hc : X.calm = true) (ho : PE X o td) (hg : Gl X "sorted") (hm : X.mg "sorted" = none) (hbase : attributeBase o "keys" X.env (eval o X.env) = eval o X.env := by rfl) (hline : (apos.endLine == cpos.line) = true := by rfl)
    (hs : starEach [.Call (.Attribute o "keys" apos) [] [] cpos] X.env = (false, eval (.Call (.Attribute o "keys" apos) [] [] cpos) X.env) :: starEach [] X.env := by rfl) (hpl : (backTo pos (starEach [] X.env)).any (·.1) = false := by rfl) :
    PE X (.Call (.Name "sorted" p) [.Call (.Attribute o "keys" apos) [] [] cpos] [] pos) (tSortK td) := by
  intro pins s σ H Q I h
  refine wpAny_Call_Name_kw (ld_blt I hg hm PyProof.Rows.boot_sorted ?_ (by decide) (by decide))
  refine PyProof.Rows.callWith_builtin1 ?_ hs hpl
  rw [hs]
  show wpAny _ _ (spliced ((false, eval _ X.env) :: backTo pos (starEach [] X.env))) _ _ s
  refine Calls.spliced_cons (wpAny_Call_method0_late hbase hline (thn (ho pins s σ H _ I h) fun v s1 ⟨x, H1, I1, r1, a, kvs, ns, ex, ha, hk, h64, q⟩ => ?_))
  subst ex
  obtain rfl : v = Value.ref a := r1
  obtain ⟨t1, t2, _⟩ := isD_at I1 (.inl ⟨kvs, .inl ha⟩)
  obtain ⟨z, hd, vs, rel, dd⟩ := dk_of I1.hok ha
  refine ⟨"dict", "dict.keys", PySem.F.plainAttrs_dict, PySem.F.slot_dict_keys, PySem.F.type_dict_keys, t1, t2, Calls.callWith_builtin rfl (PySem.evalArgs_none ?_)⟩
  refine call_meetsIn PySem.F.slot_dict_keys t1 PySem.F.entry_dict_keys (PySem.F.args_dict_keys_1 _) (PySem.W.kdl_meets_keys (mixKind X.prog X.w) a hd) ⟨⟨vs, dd⟩, ?_⟩
  have Iv : Inv X pins σ H1 { s1 with heap := s1.heap.push { cls := .type "dict_keys", data := .fields #[.ref a] } } := I1.kept (t' := s1.toks) fun b o e => Heap.get?_push_of_some _ e
  refine Calls.spliced_nil ?_
  exact d_sorted hc Iv ha ⟨_, Heap.get?_push_size _ rfl, rfl, rfl⟩ hk h64 q
def rDClear : V → List V → Hp → VK → Prop := fun x vs H Q => ∃ a kvs, x = .ref a ∧ vs = [] ∧ H a = some (.dK kvs) ∧ Q .non (upd H a (.dK []))
theorem mt_dclear : MtM X "dict.clear" rDClear := by
  intro pins s σ H x vs v us Q I rx rv h
  obtain ⟨a, kvs, rfl, rfl, e, q⟩ := h
  cases rv
  obtain rfl : v = Value.ref a := rx
  obtain ⟨z, hd, vs, rel, dd⟩ := dk_of I.hok e
  refine call_meetsIn PySem.F.slot_dict_clear dd.typeIs PySem.F.entry_dict_clear (PySem.F.args_dict_clear_1 _) (meets_dict_clear (mixKind X.prog X.w) a) ⟨vs, dd, by rw [← rel.length]; exact z, fun h' dd' hs => ?_⟩
  have he : ∃ q, h'.get? a = some q := let ⟨q, _, _, hq, _⟩ := dd'; ⟨q, hq⟩
  exact ⟨.non, _, d_write I (by rw [e]; exact True.intro) hs he (dk_new (by simp) hd .nil dd'), rfl, q⟩
end
end L2
local macro_rules | `(tactic| walk_at "rd") => `(tactic| try simp only [L2.tAsg, L2.tOp, L2.tUn, L2.gName, L2.tVar, L2.tC, L2.rI, L2.rI0, L2.rU, L2.rEq, L2.rNe, L2.scal, L2.tTest, L2.tIfS, L2.tRet, L2.tRetN, L2.tNext, L2.tDrop, L2.tCB, L2.tCons, L2.tNil, L2.tCall, L2.tAndV, L2.tOrV, L2.tNotV, L2.tAnd, L2.tOr, L2.tNot, L2.tB, L2.tIf, L2.tChain, L2.tTup, L2.tLst, L2.tBM, L2.tBM0, L2.tComp_eq, L2.tCallX, L2.tCallN, L2.tDGet, L2.tDGet1, L2.tDGet2, L2.sDPut, L2.tDIn, L2.tDNotIn, L2.tDSd, L2.tDNewK, L2.tTru, L2.tFld_eq, L2.sFld_eq, L2.tMethX_eq, L2.tMakeX, L2.tXmk, L2.tXmk1, L2.tRaise, L2.tTry, L2.tTryAs, L2.hkOf, L2.iList, L2.iTup, L2.iEnum, L2.iRng1, L2.iRng2, L2.iRng3, L2.iEnum1, L2.iRev, L2.tSl, L2.tPart, L2.tNoPart, L2.gTup, L2.gCons, L2.gNil, L2.spInt1, L2.spInt2, L2.spWhole,
  List.getElem?_cons_zero, List.getElem?_cons_succ, List.set_cons_zero, List.set_cons_succ, List.cons_append, List.nil_append, List.append_nil, Option.some.injEq, L2.V.int.injEq, L2.V.bl.injEq, L2.V.ref.injEq, L2.V.str.injEq, List.cons.injEq, exists_eq_left', exists_eq_left, exists_eq_right, exists_and_left, exists_and_right, and_true, true_and, and_self, exists_const, exists_eq, exists_eq', and_assoc, decide_eq_true_eq, Bool.not_eq_true', Bool.not_true, Bool.not_false, Bool.false_eq_true, Bool.true_eq_false, if_true, if_false, decide_eq_false_iff_not, ite_not, ↓reduceIte, Int.reduceLT, Int.reduceLE, Int.reducePow, Int.reduceMul, Int.reduceAdd, Int.reduceSub, Int.reduceNeg, Int.reduceToNat, Int.reduceEq, Int.reduceNe, L2.CPow, L2.cmulL_lit, L2.line_lit, L2.line_lt, List.length_cons, List.length_nil, Nat.reduceAdd, Nat.zero_add, L2.cdivL_lit, Int.natAbs_natCast, Int.natAbs_neg, Nat.reducePow, Nat.reduceLT, Nat.reduceLeDiff, Int.natAbs, L2.tPar, ne_eq, not_false_eq_true, not_true_eq_false])
local macro_rules | `(tactic| walk_at "rds") => `(tactic| try simp only [L2.tSeq, L2.tAsg, L2.tOp, L2.tUn, L2.gName, L2.tVar, L2.tC, L2.rI, L2.rI0, L2.rU, L2.rEq, L2.rNe, L2.scal, L2.tTest, L2.tIfS, L2.tRet, L2.tRetN, L2.tNext, L2.tDrop, L2.tCB, L2.tCons, L2.tNil, L2.tCall, L2.tAndV, L2.tOrV, L2.tNotV, L2.tAnd, L2.tOr, L2.tNot, L2.tB, L2.tIf, L2.tChain, L2.tTup, L2.tLst, L2.tBM, L2.tBM0, L2.tComp_eq, L2.tCallX, L2.tCallN, L2.tDGet, L2.tDGet1, L2.tDGet2, L2.sDPut, L2.tDIn, L2.tDNotIn, L2.tDSd, L2.tDNewK, L2.tTru, L2.tFld_eq, L2.sFld_eq, L2.tMethX_eq, L2.tMakeX, L2.tXmk, L2.tXmk1, L2.tRaise, L2.tTry, L2.tTryAs, L2.hkOf, L2.iList, L2.iTup, L2.iEnum, L2.iRng1, L2.iRng2, L2.iRng3, L2.iEnum1, L2.iRev, L2.tSl, L2.tPart, L2.tNoPart, L2.gTup, L2.gCons, L2.gNil, L2.spInt1, L2.spInt2, L2.spWhole,
  List.getElem?_cons_zero, List.getElem?_cons_succ, List.set_cons_zero, List.set_cons_succ, List.cons_append, List.nil_append, List.append_nil, Option.some.injEq, L2.V.int.injEq, L2.V.bl.injEq, L2.V.ref.injEq, L2.V.str.injEq, List.cons.injEq, exists_eq_left', exists_eq_left, exists_eq_right, exists_and_left, exists_and_right, and_true, true_and, and_self, exists_const, exists_eq, exists_eq', and_assoc, decide_eq_true_eq, Bool.not_eq_true', Bool.not_true, Bool.not_false, Bool.false_eq_true, Bool.true_eq_false, if_true, if_false, decide_eq_false_iff_not, ite_not, ↓reduceIte, Int.reduceLT, Int.reduceLE, Int.reducePow, Int.reduceMul, Int.reduceAdd, Int.reduceSub, Int.reduceNeg, Int.reduceToNat, Int.reduceEq, Int.reduceNe, L2.CPow, L2.cmulL_lit, L2.line_lit, L2.line_lt, List.length_cons, List.length_nil, Nat.reduceAdd, Nat.zero_add, L2.cdivL_lit, Int.natAbs_natCast, Int.natAbs_neg, Nat.reducePow, Nat.reduceLT, Nat.reduceLeDiff, Int.natAbs, L2.tPar, ne_eq, not_false_eq_true, not_true_eq_false])
namespace K47
open PySem L2 PyProof.Rows
def top (i : Nat) : Stmt := PySem.Challenge.pw_sharewheel_k47_rooms.main.body.getD i (.Pass ⟨0, 0, 0, 0⟩)
abbrev s_divisor : Stmt := top 5
abbrev s_ratio : Stmt := top 6
abbrev s_plus : Stmt := top 7
abbrev s_minus : Stmt := top 8
abbrev s_times : Stmt := top 9
abbrev s_over : Stmt := top 10
abbrev s_under : Stmt := top 11
abbrev s_lesser : Stmt := top 12
abbrev s_greater : Stmt := top 13
abbrev s_least : Stmt := top 14
abbrev s_total : Stmt := top 15
abbrev s_whole_above : Stmt := top 16
abbrev s_check_rates : Stmt := top 18
abbrev s_full_ones : Stmt := top 19
abbrev s_outs_of : Stmt := top 20
abbrev s_time_to_empty : Stmt := top 21
abbrev s_course : Stmt := top 22
abbrev s_greatest : Stmt := top 23
abbrev s_piles : Stmt := top 24
abbrev s_rooms_for : Stmt := top 25
abbrev s__law_cell_at : Stmt := top 27
abbrev s__law_mix : Stmt := top 28
abbrev s__law_divisor : Stmt := top 29
abbrev s__law_senders : Stmt := top 30
abbrev s__law_whole : Stmt := top 31
abbrev s__law_right : Stmt := top 32
abbrev s_law : Stmt := top 33
theorem sc_divisor : FnScope ["one", "other", "great", "small", "rest"] ["one", "other"] (defScope s_divisor) := ⟨rfl, rfl, rfl, by decide +kernel, rfl, by decide +kernel, by decide +kernel⟩
theorem sc_ratio : FnScope ["top", "bottom", "common"] ["top", "bottom"] (defScope s_ratio) := ⟨rfl, rfl, rfl, by decide +kernel, rfl, by decide +kernel, by decide +kernel⟩
theorem sc_plus : FnScope ["one", "other"] ["one", "other"] (defScope s_plus) := ⟨rfl, rfl, rfl, by decide +kernel, rfl, by decide +kernel, by decide +kernel⟩
theorem sc_minus : FnScope ["one", "other"] ["one", "other"] (defScope s_minus) := ⟨rfl, rfl, rfl, by decide +kernel, rfl, by decide +kernel, by decide +kernel⟩
theorem sc_times : FnScope ["one", "other"] ["one", "other"] (defScope s_times) := ⟨rfl, rfl, rfl, by decide +kernel, rfl, by decide +kernel, by decide +kernel⟩
theorem sc_over : FnScope ["one", "other"] ["one", "other"] (defScope s_over) := ⟨rfl, rfl, rfl, by decide +kernel, rfl, by decide +kernel, by decide +kernel⟩
theorem sc_under : FnScope ["one", "other"] ["one", "other"] (defScope s_under) := ⟨rfl, rfl, rfl, by decide +kernel, rfl, by decide +kernel, by decide +kernel⟩
theorem sc_lesser : FnScope ["one", "other", "least"] ["one", "other"] (defScope s_lesser) := ⟨rfl, rfl, rfl, by decide +kernel, rfl, by decide +kernel, by decide +kernel⟩
theorem sc_greater : FnScope ["one", "other", "most"] ["one", "other"] (defScope s_greater) := ⟨rfl, rfl, rfl, by decide +kernel, rfl, by decide +kernel, by decide +kernel⟩
theorem sc_least : FnScope ["some", "result", "one"] ["some"] (defScope s_least) := ⟨rfl, rfl, rfl, by decide +kernel, rfl, by decide +kernel, by decide +kernel⟩
theorem sc_total : FnScope ["some", "result", "one"] ["some"] (defScope s_total) := ⟨rfl, rfl, rfl, by decide +kernel, rfl, by decide +kernel, by decide +kernel⟩
theorem sc_whole_above : FnScope ["one"] ["one"] (defScope s_whole_above) := ⟨rfl, rfl, rfl, by decide +kernel, rfl, by decide +kernel, by decide +kernel⟩
theorem sc_check_rates : FnScope ["senders", "asked"] ["senders"] (defScope s_check_rates) := ⟨rfl, rfl, rfl, by decide +kernel, rfl, by decide +kernel, by decide +kernel⟩
theorem sc_full_ones : FnScope ["heaps"] ["heaps"] (defScope s_full_ones) := ⟨rfl, rfl, rfl, by decide +kernel, rfl, by decide +kernel, by decide +kernel⟩
theorem sc_outs_of : FnScope ["senders", "heaps", "full", "shares", "outs", "left", "number"] ["senders", "heaps"] (defScope s_outs_of) := ⟨rfl, rfl, rfl, by decide +kernel, rfl, by decide +kernel, by decide +kernel⟩
theorem sc_time_to_empty : FnScope ["heaps", "falls"] ["heaps", "falls"] (defScope s_time_to_empty) := ⟨rfl, rfl, rfl, by decide +kernel, rfl, by decide +kernel, by decide +kernel⟩
theorem sc_course : FnScope ["senders", "heaps", "moment", "parts", "outs", "falls", "time", "after"] ["senders"] (defScope s_course) := ⟨rfl, rfl, rfl, by decide +kernel, rfl, by decide +kernel, by decide +kernel⟩
theorem sc_greatest : FnScope ["some", "result", "one"] ["some"] (defScope s_greatest) := ⟨rfl, rfl, rfl, by decide +kernel, rfl, by decide +kernel, by decide +kernel⟩
theorem sc_piles : FnScope ["senders", "parts"] ["senders"] (defScope s_piles) := ⟨rfl, rfl, rfl, by decide +kernel, rfl, by decide +kernel, by decide +kernel⟩
theorem sc_rooms_for : FnScope ["senders", "longest", "rooms", "number", "pile"] ["senders", "longest"] (defScope s_rooms_for) := ⟨rfl, rfl, rfl, by decide +kernel, rfl, by decide +kernel, by decide +kernel⟩
theorem sc__law_cell_at : FnScope ["_law_script", "_law_k"] ["_law_script", "_law_k"] (defScope s__law_cell_at) := ⟨rfl, rfl, rfl, by decide +kernel, rfl, by decide +kernel, by decide +kernel⟩
theorem sc__law_mix : FnScope ["_law_cell", "_law_k", "_law_number"] ["_law_cell", "_law_k"] (defScope s__law_mix) := ⟨rfl, rfl, rfl, by decide +kernel, rfl, by decide +kernel, by decide +kernel⟩
theorem sc__law_divisor : FnScope ["_law_one", "_law_other"] ["_law_one", "_law_other"] (defScope s__law_divisor) := ⟨rfl, rfl, rfl, by decide +kernel, rfl, by decide +kernel, by decide +kernel⟩
theorem sc__law_senders : FnScope ["_law_script", "_law_first", "_law_way", "_law_bottom", "_law_left", "_law_senders_here", "_law_cells", "_law_own", "_law_cell", "_law_top", "_law_burst", "_law_share", "_law_shared"] ["_law_script"] (defScope s__law_senders) := ⟨rfl, rfl, rfl, by decide +kernel, rfl, by decide +kernel, by decide +kernel⟩
theorem sc__law_whole : FnScope ["_law_found"] ["_law_found"] (defScope s__law_whole) := ⟨rfl, rfl, rfl, by decide +kernel, rfl, by decide +kernel, by decide +kernel⟩
theorem sc__law_right : FnScope ["_law_found", "_law_heights", "_law_long", "_law_who", "_law_room", "_law_top", "_law_bottom"] ["_law_found", "_law_heights", "_law_long"] (defScope s__law_right) := ⟨rfl, rfl, rfl, by decide +kernel, rfl, by decide +kernel, by decide +kernel⟩
theorem sc_law : FnScope ["_law_script", "_law_senders_here", "_law_first", "_law_long", "_law_heights", "_law_handed", "_law_found"] ["_law_script"] (defScope s_law) := ⟨rfl, rfl, rfl, by decide +kernel, rfl, by decide +kernel, by decide +kernel⟩
structure Txt (K : PySem.W.Frag) (mg : Str → Option Value) (c_NoRatio : Addr) : Prop where
  mg_NoRatio : mg "NoRatio" = some (.ref c_NoRatio)
  xc_NoRatio : XC K c_NoRatio
  kp_NoRatio : PySem.W.keepIn K (.ref c_NoRatio) = true
  ex_NoRatio : PySem.W.excIn K c_NoRatio bmV "ValueError.__new__" = true
  sub_NoRatio_NoRatio : PySem.W.subIn K (.ref c_NoRatio) (.ref c_NoRatio) = some true
  kit_NoRatio_NoRatio : PySem.W.kitOne K (.ref c_NoRatio) (.ref c_NoRatio) = some true
  kit_NoRatio_ValueError : PySem.W.kitOne K (.ref c_NoRatio) (.type "ValueError") = some true
  no_abs : mg "abs" = none
  no_enumerate : mg "enumerate" = none
  no_sum : mg "sum" = none
  no_zip : mg "zip" = none
  no_range : mg "range" = none
  no_len : mg "len" = none
  no_isinstance : mg "isinstance" = none
  no_bool : mg "bool" = none
  no_int : mg "int" = none
  no_sorted : mg "sorted" = none
  no_list : mg "list" = none
  no_dict : mg "dict" = none
  src_divisor : Src K mg "divisor" s_divisor ["one", "other"]
  src_ratio : Src K mg "ratio" s_ratio ["top", "bottom"]
  src_plus : Src K mg "plus" s_plus ["one", "other"]
  src_minus : Src K mg "minus" s_minus ["one", "other"]
  src_times : Src K mg "times" s_times ["one", "other"]
  src_over : Src K mg "over" s_over ["one", "other"]
  src_under : Src K mg "under" s_under ["one", "other"]
  src_lesser : Src K mg "lesser" s_lesser ["one", "other"]
  src_greater : Src K mg "greater" s_greater ["one", "other"]
  src_least : Src K mg "least" s_least ["some"]
  src_total : Src K mg "total" s_total ["some"]
  src_whole_above : Src K mg "whole_above" s_whole_above ["one"]
  src_check_rates : Src K mg "check_rates" s_check_rates ["senders"]
  src_full_ones : Src K mg "full_ones" s_full_ones ["heaps"]
  src_outs_of : Src K mg "outs_of" s_outs_of ["senders", "heaps"]
  src_time_to_empty : Src K mg "time_to_empty" s_time_to_empty ["heaps", "falls"]
  src_course : Src K mg "course" s_course ["senders"]
  src_greatest : Src K mg "greatest" s_greatest ["some"]
  src_piles : Src K mg "piles" s_piles ["senders"]
  src_rooms_for : Src K mg "rooms_for" s_rooms_for ["senders", "longest"]
  src__law_cell_at : Src K mg "_law_cell_at" s__law_cell_at ["_law_script", "_law_k"]
  src__law_mix : Src K mg "_law_mix" s__law_mix ["_law_cell", "_law_k"]
  src__law_divisor : Src K mg "_law_divisor" s__law_divisor ["_law_one", "_law_other"]
  src__law_senders : Src K mg "_law_senders" s__law_senders ["_law_script"]
  src__law_whole : Src K mg "_law_whole" s__law_whole ["_law_found"]
  src__law_right : Src K mg "_law_right" s__law_right ["_law_found", "_law_heights", "_law_long"]
section
variable {P : Program} {w : World} {K : PySem.W.Frag} {mg : Str → Option Value} {base : Heap} {c_NoRatio : Addr}
theorem d_divisor (T : Txt K mg c_NoRatio) : Def P w K mg base (CXX P w) 1 "divisor" ["one", "other"] (spInt2 Sw.dv) := by
  refine T.src_divisor.okN (k := 0) sc_divisor (fun vs H Q E h => ?_) (fun f cdv A outer s H vs Q E hr h => ?_)
  · obtain ⟨a, b, rfl, _⟩ := h
    rfl
  · obtain ⟨a, b, rfl, k⟩ := h
    refine ⟨_, (pss_cons (ps_set (i := 2) sc_divisor.nd rfl (by first | exact Or.inl rfl | exact Or.inr rfl) (pe_callB call_abs rfl T.no_abs boot_abs (pa_cons (pv 0) pa_nil))) (pss_cons (ps_set (i := 3) sc_divisor.nd rfl (by first | exact Or.inl rfl | exact Or.inr rfl) (pe_callB call_abs rfl T.no_abs boot_abs (pa_cons (pv 1) pa_nil))) (pss_cons (ps_while PassesOwn.never (pt_cmpR op_ne (pv 3) pe_int (nomark _)) (pss_cons (ps_set (i := 4) sc_divisor.nd rfl (by first | exact Or.inl rfl | exact Or.inr rfl) (pe_op op_mod (pv 2) (pv 3))) (pss_cons (ps_set (i := 2) sc_divisor.nd rfl (by first | exact Or.inl rfl | exact Or.inr rfl) (pv 3)) (pss_one (ps_set (i := 3) sc_divisor.nd rfl (by first | exact Or.inl rfl | exact Or.inr rfl) (pv 4)))))) (pss_one (ps_ret (pv 2)))))), ?_⟩
    refine ⟨_, rfl, a, rfl, ?_⟩
    refine ⟨_, rfl, b, rfl, ?_⟩
    refine while_det (fun σ H' => H' = H ∧ ∃ g s r, σ = [some (.int a), some (.int b), some (.int g), some (.int s), r] ∧ 0 ≤ g ∧ 0 ≤ s ∧ Sw.dv g s = Sw.dv a b)
      (fun σ _ => match σ with | [_, _, _, some (.int s), _] => s.toNat | _ => 0) ⟨rfl, _, _, none, rfl, ?_, ?_, Sw.dv_abs a b⟩ ?_
    · split <;> omega
    · split <;> omega
    · rintro σ H' ⟨rfl, g, s, r, rfl, hg, hs, e⟩
      refine ⟨!decide (V.int s = V.int 0), fun Q hQ => ⟨_, rfl, rfl, _, rfl, hQ⟩, fun hb => ?_, fun hb => ?_⟩
      · have hs0 : s ≠ 0 := by intro z; subst z; simp at hb
        have hsp : 0 < s := by omega
        refine ⟨_, rfl, _, rfl, _, _, rfl, rfl, hsp, ?_⟩
        refine ⟨_, rfl, ?_⟩
        refine ⟨_, rfl, ?_⟩
        refine ⟨⟨rfl, s, g % s, _, rfl, hs, Int.emod_nonneg g hs0, by rw [Sw.dv_step]; exact e⟩, ?_⟩
        show (g % s).toNat < s.toNat
        have := Int.emod_lt_of_pos g hsp
        have := Int.emod_nonneg g hs0
        omega
      · have hs0 : s = 0 := by
          have : V.int s = V.int 0 := by simpa using hb
          exact V.int.inj this
        subst hs0
        rw [Sw.dv_zero g hg] at e
        refine ⟨_, rfl, ?_⟩
        show Q (.int g) H'
        rw [e]; exact k
theorem d__law_cell_at (T : Txt K mg c_NoRatio) : Def P w K mg base (CXX P w) 1 "_law_cell_at" ["_law_script", "_law_k"] (spCell K) := by
  refine T.src__law_cell_at.okN (k := 0) sc__law_cell_at (fun vs H Q E h => ?_) (fun f cdv A outer s H vs Q E hr h => ?_)
  · obtain ⟨a, ns, i, rfl, _⟩ := h
    rfl
  · obtain ⟨a, ns, i, rfl, hS, hi, k⟩ := h
    refine ⟨_, (pss_cons (ps_if (pt_cmpR op_lt (pv 1) (pe_callB (call_lenK K rfl) rfl T.no_len boot_len (pa_cons (pv 0) pa_nil)) (nomark _)) (pss_one (ps_ret (pe_ix (ix_listK K rfl) (pv 0) (pv 1) (fun _ _ => rfl)))) pss_nil) (pss_one (ps_ret pe_int))), ?_⟩
    refine ⟨_, rfl, _, rfl, a, _, rfl, .inl hS, _, _, rfl, rfl, _, rfl, ?_⟩
    refine ite2 (fun h => ?_) (fun h => ?_)
    · have h' : i < (ns.map V.int).length := of_decide_eq_true h
      exact ⟨_, rfl, _, rfl, a, _, _, _, rfl, rfl, hS, cellAt_get hi (by simpa using h'), k⟩
    · have h' : ¬ i < (ns.map V.int).length := fun z => h (decide_eq_true z)
      show Q (.int 0) H
      rw [cellAt_none hi (by simpa using h')] at k
      exact k
def spRat (cN : Addr) : Sp := fun vs H Q E => ∃ t b z, vs = [.int t, .int b] ∧ z ≤ 5000 ∧ Sw.Sz z b ∧ (b ≠ 0 → ∀ p, H p = none → Q (.ref p) (upd H p (.tup (fq ((t : Rat) / (b : Rat)))))) ∧
  (b = 0 → ∀ e, H e = none → E (.ref e) none (upd H e (excO e cN none false)))
theorem d_ratio (T : Txt K mg c_NoRatio) : Def P w K mg base (CXX P w) 2 "ratio" ["top", "bottom"] (spRat c_NoRatio) := by
  have D_divisor := d_divisor (P := P) (w := w) (base := base) T
  refine T.src_ratio.okX (k := 1) sc_ratio (fun vs H Q E h => ?_) (fun f cdv A outer s H vs Q E hr h => ?_)
  · obtain ⟨t, b, z, rfl, _⟩ := h
    rfl
  · obtain ⟨t, b, z, rfl, z5, sb, k, kx⟩ := h
    refine ⟨_, (pss_cons (ps_if (pt_cmpR op_eq (pv 1) pe_int (nomark _)) (pss_one (ps_raise K rfl rfl raiseF (pe_xmk T.ex_NoRatio T.kp_NoRatio rfl T.mg_NoRatio (pa_cons pe_str pa_nil)))) pss_nil) (pss_cons (ps_set (i := 2) sc_ratio.nd rfl (by first | exact Or.inl rfl | exact Or.inr rfl) (pe_callX D_divisor (hr.mono (by decide)) rfl passF (pa_cons (pv 0) (pa_cons (pv 1) pa_nil)))) (pss_cons (ps_if (pt_cmpR op_lt (pv 1) pe_int (nomark _)) (pss_one (ps_set (i := 2) sc_ratio.nd rfl (by first | exact Or.inl rfl | exact Or.inr rfl) (pe_un un_neg (pv 2)))) pss_nil) (pss_one (ps_ret (pe_tup (pa_cons (pe_op op_fdivS (pv 0) (pv 2)) (pa_cons (pe_op op_fdivS (pv 1) (pv 2)) pa_nil)))))))), ?_⟩
    show tSeq _ _ _ [some (.int t), some (.int b), none] H
    refine seq_step fun R hR => ?_
    walk_at "rd"
    refine ite2 (fun h0 => ?_) fun hb => hR _ _ ?_
    · refine fun e he => ⟨c_NoRatio, none, upd_same, T.xc_NoRatio, ?_⟩
      rw [upd_upd]
      exact kx h0 e he
    have k := k hb
    rw [← fq_nrm hb] at k
    have hg : 0 < Sw.dv t b := Sw.dv_pos hb
    have hz : Sw.Sz 5000 (Sw.dv t b) := (sb.dvd (Sw.dv_r t b) hb).mono z5
    refine seq_step fun R hR => ?_
    walk_at "rd"
    refine hR _ _ ?_
    refine seq_step fun R hR => ?_
    have fin : ∀ c : Int, (c = Sw.dv t b ∧ ¬ b < 0) ∨ (c = -(Sw.dv t b) ∧ b < 0) → R [some (.int t), some (.int b), some (.int c)] H := fun c hc => by
      refine hR _ _ ?_
      walk_at "rd"
      have c0 : c ≠ 0 := by rcases hc with ⟨e, _⟩ | ⟨e, _⟩ <;> omega
      have cz : Sw.Sz 5000 c := by
        rcases hc with ⟨e, _⟩ | ⟨e, _⟩
        · rw [e]; exact hz
        · rw [e]; exact hz.neg
      have d1 : c ∣ t := by
        rcases hc with ⟨e, _⟩ | ⟨e, _⟩
        · rw [e]; exact Sw.dv_l t b
        · rw [e]; exact Int.neg_dvd.mpr (Sw.dv_l t b)
      have d2 : c ∣ b := by
        rcases hc with ⟨e, _⟩ | ⟨e, _⟩
        · rw [e]; exact Sw.dv_r t b
        · rw [e]; exact Int.neg_dvd.mpr (Sw.dv_r t b)
      have e1 : t.fdiv c = Sw.rN t b := by
        rw [Int.fdiv_eq_ediv_of_dvd d1]
        unfold Sw.rN
        rcases hc with ⟨e, q⟩ | ⟨e, q⟩
        · rw [if_neg q, e]
        · rw [if_pos q, e]
      have e2 : b.fdiv c = Sw.rD t b := by
        rw [Int.fdiv_eq_ediv_of_dvd d2]
        unfold Sw.rD
        rcases hc with ⟨e, q⟩ | ⟨e, q⟩
        · rw [if_neg q, e]
        · rw [if_pos q, e]
      rw [e1, e2]
      exact ⟨⟨c0, cz⟩, ⟨c0, cz⟩, k⟩
    walk_at "rds"
    exact ite2 (fun c => fin _ (.inr ⟨rfl, c⟩)) fun c => fin _ (.inl ⟨rfl, c⟩)
def spPlus : Sp := fun vs H Q _ => ∃ p q a b z, vs = [.ref p, .ref q] ∧ H p = some (.tup (fq a)) ∧ H q = some (.tup (fq b)) ∧ z ≤ 2400 ∧ Sw.SzQ z a ∧ Sw.SzQ z b ∧ ∀ r, H r = none → Q (.ref r) (upd H r (.tup (fq (a + b))))
theorem d_plus (T : Txt K mg c_NoRatio) : Def P w K mg base (CXX P w) 3 "plus" ["one", "other"] spPlus := by
  have D_ratio := d_ratio (P := P) (w := w) (base := base) T
  refine T.src_plus.okN (k := 2) sc_plus (fun vs H Q E h => ?_) (fun f cdv A outer s H vs Q E hr h => ?_)
  · obtain ⟨p, q, a, b, z, rfl, _⟩ := h
    rfl
  · obtain ⟨p, q, a, b, z, rfl, hp, hq, hz, s1, s2, k⟩ := h
    refine ⟨_, (pss_one (ps_ret (pe_callX D_ratio (hr.mono (by decide)) rfl passN (pa_cons (pe_op op_add (pe_op op_mulL (pe_ix (ix_tupK K rfl) (pv 0) pe_int (fun _ _ => rfl)) (pe_ix (ix_tupK K rfl) (pv 1) pe_int (fun _ _ => rfl))) (pe_op op_mulL (pe_ix (ix_tupK K rfl) (pv 1) pe_int (fun _ _ => rfl)) (pe_ix (ix_tupK K rfl) (pv 0) pe_int (fun _ _ => rfl)))) (pa_cons (pe_op op_mulL (pe_ix (ix_tupK K rfl) (pv 0) pe_int (fun _ _ => rfl)) (pe_ix (ix_tupK K rfl) (pv 1) pe_int (fun _ _ => rfl))) pa_nil))))), ?_⟩
    show tRet _ _ [some (.ref p), some (.ref q)] H
    have hab := Int.mul_ne_zero (Sw.q_den_ne a) (Sw.q_den_ne b)
    walk_at "rd"
    refine ixT_at (.of hp) rfl (ixT_at (.of hq) rfl ?_)
    walk_at "rd"
    refine ⟨⟨s1.n.mono (by omega), s2.d.mono (by omega)⟩, ixT_at (.of hq) rfl (ixT_at (.of hp) rfl ?_)⟩
    walk_at "rd"
    refine ⟨⟨s2.n.mono (by omega), s1.d.mono (by omega)⟩, ixT_at (.of hp) rfl (ixT_at (.of hq) rfl ?_)⟩
    walk_at "rd"
    refine ⟨⟨s1.d.mono (by omega), s2.d.mono (by omega)⟩, _, _, z + z, rfl, by omega, s1.d.mul s2.d, fun _ => ?_, fun z => absurd z hab⟩
    rw [Sw.add_q]
    exact k
def spMinus : Sp := fun vs H Q _ => ∃ p q a b z, vs = [.ref p, .ref q] ∧ H p = some (.tup (fq a)) ∧ H q = some (.tup (fq b)) ∧ z ≤ 2400 ∧ Sw.SzQ z a ∧ Sw.SzQ z b ∧ ∀ r, H r = none → Q (.ref r) (upd H r (.tup (fq (a - b))))
theorem d_minus (T : Txt K mg c_NoRatio) : Def P w K mg base (CXX P w) 3 "minus" ["one", "other"] spMinus := by
  have D_ratio := d_ratio (P := P) (w := w) (base := base) T
  refine T.src_minus.okN (k := 2) sc_minus (fun vs H Q E h => ?_) (fun f cdv A outer s H vs Q E hr h => ?_)
  · obtain ⟨p, q, a, b, z, rfl, _⟩ := h
    rfl
  · obtain ⟨p, q, a, b, z, rfl, hp, hq, hz, s1, s2, k⟩ := h
    refine ⟨_, (pss_one (ps_ret (pe_callX D_ratio (hr.mono (by decide)) rfl passN (pa_cons (pe_op op_sub (pe_op op_mulL (pe_ix (ix_tupK K rfl) (pv 0) pe_int (fun _ _ => rfl)) (pe_ix (ix_tupK K rfl) (pv 1) pe_int (fun _ _ => rfl))) (pe_op op_mulL (pe_ix (ix_tupK K rfl) (pv 1) pe_int (fun _ _ => rfl)) (pe_ix (ix_tupK K rfl) (pv 0) pe_int (fun _ _ => rfl)))) (pa_cons (pe_op op_mulL (pe_ix (ix_tupK K rfl) (pv 0) pe_int (fun _ _ => rfl)) (pe_ix (ix_tupK K rfl) (pv 1) pe_int (fun _ _ => rfl))) pa_nil))))), ?_⟩
    show tRet _ _ [some (.ref p), some (.ref q)] H
    have hab := Int.mul_ne_zero (Sw.q_den_ne a) (Sw.q_den_ne b)
    walk_at "rd"
    refine ixT_at (.of hp) rfl (ixT_at (.of hq) rfl ?_)
    walk_at "rd"
    refine ⟨⟨s1.n.mono (by omega), s2.d.mono (by omega)⟩, ixT_at (.of hq) rfl (ixT_at (.of hp) rfl ?_)⟩
    walk_at "rd"
    refine ⟨⟨s2.n.mono (by omega), s1.d.mono (by omega)⟩, ixT_at (.of hp) rfl (ixT_at (.of hq) rfl ?_)⟩
    walk_at "rd"
    refine ⟨⟨s1.d.mono (by omega), s2.d.mono (by omega)⟩, _, _, z + z, rfl, by omega, s1.d.mul s2.d, fun _ => ?_, fun z => absurd z hab⟩
    rw [Sw.sub_q]
    exact k
def spTimes : Sp := fun vs H Q _ => ∃ p q a b z, vs = [.ref p, .ref q] ∧ H p = some (.tup (fq a)) ∧ H q = some (.tup (fq b)) ∧ z ≤ 2400 ∧ Sw.SzQ z a ∧ Sw.SzQ z b ∧ ∀ r, H r = none → Q (.ref r) (upd H r (.tup (fq (a * b))))
theorem d_times (T : Txt K mg c_NoRatio) : Def P w K mg base (CXX P w) 3 "times" ["one", "other"] spTimes := by
  have D_ratio := d_ratio (P := P) (w := w) (base := base) T
  refine T.src_times.okN (k := 2) sc_times (fun vs H Q E h => ?_) (fun f cdv A outer s H vs Q E hr h => ?_)
  · obtain ⟨p, q, a, b, z, rfl, _⟩ := h
    rfl
  · obtain ⟨p, q, a, b, z, rfl, hp, hq, hz, s1, s2, k⟩ := h
    refine ⟨_, (pss_one (ps_ret (pe_callX D_ratio (hr.mono (by decide)) rfl passN (pa_cons (pe_op op_mulL (pe_ix (ix_tupK K rfl) (pv 0) pe_int (fun _ _ => rfl)) (pe_ix (ix_tupK K rfl) (pv 1) pe_int (fun _ _ => rfl))) (pa_cons (pe_op op_mulL (pe_ix (ix_tupK K rfl) (pv 0) pe_int (fun _ _ => rfl)) (pe_ix (ix_tupK K rfl) (pv 1) pe_int (fun _ _ => rfl))) pa_nil))))), ?_⟩
    show tRet _ _ [some (.ref p), some (.ref q)] H
    have hab := Int.mul_ne_zero (Sw.q_den_ne a) (Sw.q_den_ne b)
    walk_at "rd"
    refine ixT_at (.of hp) rfl (ixT_at (.of hq) rfl ?_)
    walk_at "rd"
    refine ⟨⟨s1.n.mono (by omega), s2.n.mono (by omega)⟩, ixT_at (.of hp) rfl (ixT_at (.of hq) rfl ?_)⟩
    walk_at "rd"
    refine ⟨⟨s1.d.mono (by omega), s2.d.mono (by omega)⟩, _, _, z + z, rfl, by omega, s1.d.mul s2.d, fun _ => ?_, fun z => absurd z hab⟩
    rw [Sw.mul_q]
    exact k
def spOver : Sp := fun vs H Q _ => ∃ p q a b z, vs = [.ref p, .ref q] ∧ H p = some (.tup (fq a)) ∧ H q = some (.tup (fq b)) ∧ z ≤ 2400 ∧ Sw.SzQ z a ∧ Sw.SzQ z b ∧ b ≠ 0 ∧ ∀ r, H r = none → Q (.ref r) (upd H r (.tup (fq (a / b))))
theorem d_over (T : Txt K mg c_NoRatio) : Def P w K mg base (CXX P w) 3 "over" ["one", "other"] spOver := by
  have D_ratio := d_ratio (P := P) (w := w) (base := base) T
  refine T.src_over.okN (k := 2) sc_over (fun vs H Q E h => ?_) (fun f cdv A outer s H vs Q E hr h => ?_)
  · obtain ⟨p, q, a, b, z, rfl, _⟩ := h
    rfl
  · obtain ⟨p, q, a, b, z, rfl, hp, hq, hz, s1, s2, hb, k⟩ := h
    refine ⟨_, (pss_one (ps_ret (pe_callX D_ratio (hr.mono (by decide)) rfl passN (pa_cons (pe_op op_mulL (pe_ix (ix_tupK K rfl) (pv 0) pe_int (fun _ _ => rfl)) (pe_ix (ix_tupK K rfl) (pv 1) pe_int (fun _ _ => rfl))) (pa_cons (pe_op op_mulL (pe_ix (ix_tupK K rfl) (pv 0) pe_int (fun _ _ => rfl)) (pe_ix (ix_tupK K rfl) (pv 1) pe_int (fun _ _ => rfl))) pa_nil))))), ?_⟩
    show tRet _ _ [some (.ref p), some (.ref q)] H
    have hn := Sw.q_num_ne hb
    have hab := Int.mul_ne_zero (Sw.q_den_ne a) hn
    walk_at "rd"
    refine ixT_at (.of hp) rfl (ixT_at (.of hq) rfl ?_)
    walk_at "rd"
    refine ⟨⟨s1.n.mono (by omega), s2.d.mono (by omega)⟩, ixT_at (.of hp) rfl (ixT_at (.of hq) rfl ?_)⟩
    walk_at "rd"
    refine ⟨⟨s1.d.mono (by omega), s2.n.mono (by omega)⟩, _, _, z + z, rfl, by omega, s1.d.mul s2.n, fun _ => ?_, fun z => absurd z hab⟩
    rw [Sw.div_q a b hn]
    exact k
def spUnder : Sp := fun vs H Q _ => ∃ p q a b, vs = [.ref p, .ref q] ∧ H p = some (.tup (fq a)) ∧ H q = some (.tup (fq b)) ∧ Sw.SzQ 5000 a ∧ Sw.SzQ 5000 b ∧ Q (.bl (decide (a < b))) H
theorem d_under (T : Txt K mg c_NoRatio) : Def P w K mg base (CXX P w) 1 "under" ["one", "other"] spUnder := by
  refine T.src_under.okN (k := 0) sc_under (fun vs H Q E h => ?_) (fun f cdv A outer s H vs Q E hr h => ?_)
  · obtain ⟨p, q, a, b, rfl, _⟩ := h
    rfl
  · obtain ⟨p, q, a, b, rfl, hp, hq, s1, s2, k⟩ := h
    refine ⟨_, (pss_one (ps_ret (pe_cmpR op_lt (pe_op op_mulL (pe_ix (ix_tupK K rfl) (pv 0) pe_int (fun _ _ => rfl)) (pe_ix (ix_tupK K rfl) (pv 1) pe_int (fun _ _ => rfl))) (pe_op op_mulL (pe_ix (ix_tupK K rfl) (pv 1) pe_int (fun _ _ => rfl)) (pe_ix (ix_tupK K rfl) (pv 0) pe_int (fun _ _ => rfl))) (nomark _)))), ?_⟩
    show tRet _ _ [some (.ref p), some (.ref q)] H
    walk_at "rd"
    refine ixT_at (.of hp) rfl (ixT_at (.of hq) rfl ?_)
    walk_at "rd"
    refine ⟨⟨s1.n, s2.d⟩, ixT_at (.of hq) rfl (ixT_at (.of hp) rfl ?_)⟩
    walk_at "rd"
    refine ⟨⟨s2.n, s1.d⟩, ?_⟩
    rw [show decide (a.num * (b.den : Int) < b.num * (a.den : Int)) = decide (a < b) from decide_eq_decide.mpr Sw.q_lt]
    exact k
def spLesser : Sp := fun vs H Q _ => ∃ p q a b, vs = [.ref p, .ref q] ∧ H p = some (.tup (fq a)) ∧ H q = some (.tup (fq b)) ∧ Sw.SzQ 5000 a ∧ Sw.SzQ 5000 b ∧ ∀ r, H r = none → Q (.ref r) (upd H r (.tup (fq (min a b))))
theorem d_lesser (T : Txt K mg c_NoRatio) : Def P w K mg base (CXX P w) 2 "lesser" ["one", "other"] spLesser := by
  have D_under := d_under (P := P) (w := w) (base := base) T
  refine T.src_lesser.okN (k := 1) sc_lesser (fun vs H Q E h => ?_) (fun f cdv A outer s H vs Q E hr h => ?_)
  · obtain ⟨p, q, a, b, rfl, _⟩ := h
    rfl
  · obtain ⟨p, q, a, b, rfl, hp, hq, s1, s2, k⟩ := h
    refine ⟨_, (pss_cons (ps_set (i := 2) sc_lesser.nd rfl (by first | exact Or.inl rfl | exact Or.inr rfl) (pe_ifExp (pt_val (pe_callX D_under (hr.mono (by decide)) rfl passN (pa_cons (pv 1) (pa_cons (pv 0) pa_nil)))) (pv 1) (pv 0))) (pss_one (ps_ret (pe_tup (pa_cons (pe_ix (ix_tupK K rfl) (pv 2) pe_int (fun _ _ => rfl)) (pa_cons (pe_ix (ix_tupK K rfl) (pv 2) pe_int (fun _ _ => rfl)) pa_nil)))))), ?_⟩
    show tSeq _ _ _ [some (.ref p), some (.ref q), none] H
    refine seq_step fun R hR => ?_
    have key : ∀ x c, H x = some (.tup (fq c)) → c = min a b → R [some (.ref p), some (.ref q), some (.ref x)] H := fun x c hx e => by
      refine hR _ _ ?_
      walk_at "rd"
      subst e
      exact ixT_at (.of hx) rfl (ixT_at (.of hx) rfl k)
    walk_at "rd"
    refine ⟨q, p, b, a, rfl, hq, hp, s2, s1, ?_⟩
    walk_at "rd"
    exact ite2 (fun h => key q b hq (by rw [Rat.min_def]; grind)) fun h => key p a hp (by rw [Rat.min_def]; grind)
def spGreater : Sp := fun vs H Q _ => ∃ p q a b, vs = [.ref p, .ref q] ∧ H p = some (.tup (fq a)) ∧ H q = some (.tup (fq b)) ∧ Sw.SzQ 5000 a ∧ Sw.SzQ 5000 b ∧ ∀ r, H r = none → Q (.ref r) (upd H r (.tup (fq (max a b))))
theorem d_greater (T : Txt K mg c_NoRatio) : Def P w K mg base (CXX P w) 2 "greater" ["one", "other"] spGreater := by
  have D_under := d_under (P := P) (w := w) (base := base) T
  refine T.src_greater.okN (k := 1) sc_greater (fun vs H Q E h => ?_) (fun f cdv A outer s H vs Q E hr h => ?_)
  · obtain ⟨p, q, a, b, rfl, _⟩ := h
    rfl
  · obtain ⟨p, q, a, b, rfl, hp, hq, s1, s2, k⟩ := h
    refine ⟨_, (pss_cons (ps_set (i := 2) sc_greater.nd rfl (by first | exact Or.inl rfl | exact Or.inr rfl) (pe_ifExp (pt_val (pe_callX D_under (hr.mono (by decide)) rfl passN (pa_cons (pv 0) (pa_cons (pv 1) pa_nil)))) (pv 1) (pv 0))) (pss_one (ps_ret (pe_tup (pa_cons (pe_ix (ix_tupK K rfl) (pv 2) pe_int (fun _ _ => rfl)) (pa_cons (pe_ix (ix_tupK K rfl) (pv 2) pe_int (fun _ _ => rfl)) pa_nil)))))), ?_⟩
    show tSeq _ _ _ [some (.ref p), some (.ref q), none] H
    refine seq_step fun R hR => ?_
    have key : ∀ x c, H x = some (.tup (fq c)) → c = max a b → R [some (.ref p), some (.ref q), some (.ref x)] H := fun x c hx e => by
      refine hR _ _ ?_
      walk_at "rd"
      subst e
      exact ixT_at (.of hx) rfl (ixT_at (.of hx) rfl k)
    walk_at "rd"
    refine ⟨p, q, a, b, rfl, hp, hq, s1, s2, ?_⟩
    walk_at "rd"
    exact ite2 (fun h => key q b hq (by rw [Rat.max_def]; grind)) fun h => key p a hp (by rw [Rat.max_def]; grind)
def spLeast : Sp := fun vs H Q _ => ∃ l ps qs, vs = [.ref l] ∧ Lst fq H l ps qs ∧ qs ≠ [] ∧ (∀ q ∈ qs, Sw.SzQ 5000 q) ∧ ∀ r H', Same H H' → H' r = some (.tup (fq (Sw.minL qs))) → Q (.ref r) H'
theorem d_least (T : Txt K mg c_NoRatio) : Def P w K mg base (CXX P w) 3 "least" ["some"] spLeast := by
  have D_lesser := d_lesser (P := P) (w := w) (base := base) T
  refine T.src_least.okN (k := 2) sc_least (fun vs H Q E h => ?_) (fun f cdv A outer s H vs Q E hr h => ?_)
  · obtain ⟨l, ps, qs, rfl, _⟩ := h
    rfl
  · obtain ⟨l, ps, qs, rfl, L, ne, sz, k⟩ := h
    refine ⟨_, (pss_cons (ps_set (i := 1) sc_least.nd rfl (by first | exact Or.inl rfl | exact Or.inr rfl) (pe_ix (ix_listK K rfl) (pv 0) pe_int (fun _ _ => rfl))) (pss_cons (ps_for PassesOwn.never rfl (pi_listK K rfl (pv 0)) (pg_name (i := 2) sc_least.nd rfl (by first | exact Or.inl rfl | exact Or.inr rfl)) (pss_one (ps_set (i := 1) sc_least.nd rfl (by first | exact Or.inl rfl | exact Or.inr rfl) (pe_callX D_lesser (hr.mono (by decide)) rfl passN (pa_cons (pv 1) (pa_cons (pv 2) pa_nil)))))) (pss_one (ps_ret (pv 1))))), ?_⟩
    show tSeq _ _ _ [some (.ref l), none, none] H
    cases qs with
    | nil => exact absurd rfl ne
    | cons q0 qr =>
      cases ps with
      | nil => cases L.r
      | cons p0 pr =>
        have h0 : H p0 = some (.tup (fq q0)) := by
          cases L.r with
          | cons a b => exact a
        refine seq_step fun R hR => ?_
        walk_at "rd"
        refine ixL_at (.of L.hl) (v := .ref p0) (atI_nat (xs := (p0 :: pr).map V.ref) (j := 0) rfl) (hR _ _ ?_)
        refine seq_step fun R hR => ?_
        refine for_step fun Z hZ => ?_
        walk_at "rd"
        refine ⟨⟨_, .of L.hl⟩, hZ _ _ ?_⟩
        refine for_list (K := K) (a := l) (xs := (p0 :: pr).map V.ref) (fun i σ H' => Same H H' ∧ ∃ x c v, σ = [some (.ref l), some (.ref x), v] ∧ H' x = some (.tup (fq c)) ∧ c = ((q0 :: qr).take i).foldl min q0 ∧ Sw.SzQ 5000 c) ⟨Same.refl _, p0, q0, none, rfl, h0, rfl, sz q0 (by simp)⟩ (fun i σ H' _ q => .of (q.1 _ _ L.hl)) ?_ ?_
        · rintro i v σ H1 hv ⟨sm, x, c, v2, rfl, hx, hc, zc⟩
          obtain ⟨p, hp, rfl⟩ : ∃ p, (p0 :: pr)[i]? = some p ∧ V.ref p = v := by
            rw [List.getElem?_map] at hv
            cases e : (p0 :: pr)[i]? with
            | none => rw [e] at hv; cases hv
            | some z => rw [e] at hv; exact ⟨z, rfl, Option.some.inj hv⟩
          obtain ⟨q, hq, hp2⟩ := tupsF_get L.r hp
          have zq := sz q (List.mem_of_getElem? hq)
          show tAsg _ _ _ [some (.ref l), some (.ref x), some (.ref p)] H1
          refine nx_step fun R' hR' => ?_
          walk_at "rd"
          refine ⟨x, p, c, q, rfl, hx, sm _ _ hp2, zc, zq, fun r hr' => hR' _ _ ?_⟩
          refine ⟨sm.trans (same_new hr'), r, min c q, _, rfl, upd_same, ?_, zc.min zq⟩
          rw [take_succ_of hq, List.foldl_append, ← hc]
          rfl
        · rintro σ H1 ⟨sm, x, c, v2, rfl, hx, hc, zc⟩
          refine hR _ _ ?_
          walk_at "rd"
          have ln := tupsF_len L.r
          rw [List.take_of_length_le (by rw [List.length_map, ln]; exact Nat.le_refl _)] at hc
          rw [hc] at hx
          exact k x H1 sm hx
def spTotal : Sp := fun vs H Q _ => ∃ l ps qs, vs = [.ref l] ∧ Lst fq H l ps qs ∧ (∀ i, Sw.SzQ 1200 (Sw.tq (qs.take i))) ∧ (∀ q ∈ qs, Sw.SzQ 1200 q) ∧ ∀ r H', Same H H' → H' r = some (.tup (fq (Sw.tq qs))) → Q (.ref r) H'
theorem d_total (T : Txt K mg c_NoRatio) : Def P w K mg base (CXX P w) 4 "total" ["some"] spTotal := by
  have D_ratio := d_ratio (P := P) (w := w) (base := base) T
  have D_plus := d_plus (P := P) (w := w) (base := base) T
  refine T.src_total.okN (k := 3) sc_total (fun vs H Q E h => ?_) (fun f cdv A outer s H vs Q E hr h => ?_)
  · obtain ⟨l, ps, qs, rfl, _⟩ := h
    rfl
  · obtain ⟨l, ps, qs, rfl, L, st, sz, k⟩ := h
    refine ⟨_, (pss_cons (ps_set (i := 1) sc_total.nd rfl (by first | exact Or.inl rfl | exact Or.inr rfl) (pe_callX D_ratio (hr.mono (by decide)) rfl passN (pa_cons pe_int (pa_cons pe_int pa_nil)))) (pss_cons (ps_for PassesOwn.never rfl (pi_listK K rfl (pv 0)) (pg_name (i := 2) sc_total.nd rfl (by first | exact Or.inl rfl | exact Or.inr rfl)) (pss_one (ps_set (i := 1) sc_total.nd rfl (by first | exact Or.inl rfl | exact Or.inr rfl) (pe_callX D_plus (hr.mono (by decide)) rfl passN (pa_cons (pv 1) (pa_cons (pv 2) pa_nil)))))) (pss_one (ps_ret (pv 1))))), ?_⟩
    show tSeq _ _ _ [some (.ref l), none, none] H
    refine seq_step fun R hR => ?_
    walk_at "rd"
    refine ⟨_, _, 70, rfl, by decide, Sw.Sz.r18 (by decide) (by decide), fun _ pm fm => hR _ _ ?_, fun z => absurd z (by decide)⟩
    rw [f01q]
    refine seq_step fun R hR => ?_
    refine for_step fun Z hZ => ?_
    walk_at "rd"
    have n1 := same_new (o := .tup (fq 0)) fm
    refine ⟨⟨_, .of (n1 _ _ L.hl)⟩, hZ _ _ ?_⟩
    refine for_list (K := K) (a := l) (xs := ps.map V.ref) (fun i σ H' => Same H H' ∧ ∃ x v, σ = [some (.ref l), some (.ref x), v] ∧ H' x = some (.tup (fq (Sw.tq (qs.take i))))) ⟨n1, pm, none, rfl, upd_same⟩ (fun i σ H' _ q => .of (q.1 _ _ L.hl)) ?_ ?_
    · rintro i v σ H1 hv ⟨sm, x, v2, rfl, hx⟩
      obtain ⟨p, hp, rfl⟩ : ∃ p, ps[i]? = some p ∧ V.ref p = v := by simpa using hv
      obtain ⟨q, hq, hp2⟩ := tupsF_get L.r hp
      have zq := sz q (List.mem_of_getElem? hq)
      show tAsg _ _ _ [some (.ref l), some (.ref x), some (.ref p)] H1
      refine nx_step fun R' hR' => ?_
      walk_at "rd"
      refine ⟨x, p, _, q, 1200, rfl, hx, sm _ _ hp2, by decide, st i, zq, fun r hr' => hR' _ _ ?_⟩
      refine ⟨sm.trans (same_new hr'), r, _, rfl, ?_⟩
      rw [upd_same, take_succ_of hq, Sw.tq_snoc]
    · rintro σ H1 ⟨sm, x, v2, rfl, hx⟩
      refine hR _ _ ?_
      walk_at "rd"
      have ln := tupsF_len L.r
      rw [List.take_of_length_le (by rw [List.length_map, ln]; exact Nat.le_refl _)] at hx
      exact k x H1 sm hx
def spCeil : Sp := fun vs H Q _ => ∃ p a, vs = [.ref p] ∧ H p = some (.tup (fq a)) ∧ Sw.SzQ 5000 a ∧ Q (.int a.ceil) H
theorem d_whole_above (T : Txt K mg c_NoRatio) : Def P w K mg base (CXX P w) 1 "whole_above" ["one"] spCeil := by
  refine T.src_whole_above.okN (k := 0) sc_whole_above (fun vs H Q E h => ?_) (fun f cdv A outer s H vs Q E hr h => ?_)
  · obtain ⟨p, a, rfl, _⟩ := h
    rfl
  · obtain ⟨p, a, rfl, hp, sz, k⟩ := h
    refine ⟨_, (pss_one (ps_ret (pe_un un_neg (pe_op op_fdivL (pe_un un_neg (pe_ix (ix_tupK K rfl) (pv 0) pe_int (fun _ _ => rfl))) (pe_ix (ix_tupK K rfl) (pv 0) pe_int (fun _ _ => rfl)))))), ?_⟩
    show tRet _ _ [some (.ref p)] H
    walk_at "rd"
    refine ixT_at (.of hp) rfl ?_
    walk_at "rd"
    refine ixT_at (.of hp) rfl ?_
    walk_at "rd"
    refine ⟨⟨Sw.q_den_pos a, sz.d⟩, ?_⟩
    rw [Rat.ceil_eq_neg_floor_neg, Rat.floor_def, Rat.neg_num, Rat.neg_den] at k
    exact k
def spRates : Sp := fun vs H Q _ => ∃ l ps ss L, vs = [.ref l] ∧ SnL H l ps ss ∧ Sw.Plan ss L ∧ ∀ H', Same H H' → Q .non H'
theorem d_check_rates (T : Txt K mg c_NoRatio) : Def P w K mg base (CXX P w) 5 "check_rates" ["senders"] spRates := by
  have D_total := d_total (P := P) (w := w) (base := base) T
  have D_under := d_under (P := P) (w := w) (base := base) T
  refine T.src_check_rates.okN (k := 4) sc_check_rates (fun vs H Q E h => ?_) (fun f cdv A outer s H vs Q E hr h => ?_)
  · obtain ⟨l, ps, ss, L, rfl, _⟩ := h
    rfl
  · obtain ⟨l, ps, ss, L, rfl, SL, PL, k⟩ := h
    refine ⟨_, (pss_cons (ps_set (i := 1) sc_check_rates.nd rfl (by first | exact Or.inl rfl | exact Or.inr rfl) (pe_callX D_total (hr.mono (by decide)) rfl passN (pa_cons (pe_lc ["share", "line"] [] rfl (by with_unfolding_all rfl) (by decide +kernel) rfl (by decide +kernel) (by exact True.intro) (by with_unfolding_all rfl) True.intro (pi_listK K rfl (pv 0)) (fun _ _ _ => (pg_tupK (n := 2) K rfl rfl (pgs_cons (pg_name (i := 0) (show (["share", "line"] : List Str).Nodup from by decide +kernel) rfl (by first | exact Or.inl rfl | exact Or.inr rfl)) (pgs_cons (pg_name (i := 1) (show (["share", "line"] : List Str).Nodup from by decide +kernel) rfl (by first | exact Or.inl rfl | exact Or.inr rfl)) pgs_nil)))) (fun _ _ _ => pifs_nil) (fun _ _ _ => (pe_ix (ix_tupK K rfl) (pv 1) pe_int (fun _ _ => rfl)))) pa_nil))) (pss_one (ps_if (pt_not (pt_val (pe_callX D_under (hr.mono (by decide)) rfl passN (pa_cons (pv 1) (pa_cons (pe_tup (pa_cons pe_int (pa_cons pe_int pa_nil))) pa_nil))))) (pss_one ps_never) pss_nil))), ?_⟩
    show tSeq _ _ _ [some (.ref l), none] H
    have len := SL.len
    have n8 := PL.n8
    refine seq_step fun R hR => ?_
    walk_at "rd"
    refine ⟨⟨_, .of SL.hl⟩, fun Dl hDl => ?_⟩
    refine comp_walk (xs := ps.map V.ref) (fun m τ H' => ∃ v0 v1 es, τ = [v0, v1] ∧ Same H H' ∧ Lst fq H' Dl es ((ss.map fun s => s.2.2).take m)) ⟨none, none, [], rfl, same_new hDl, ⟨upd_same, .nil⟩⟩ (fun m τ H' _ ⟨_, _, _, _, s', _⟩ => .of (s' _ _ SL.hl)) ?_ ?_
    · rintro m y τ H1 hy ⟨v0, v1, es, rfl, s1, L1⟩
      obtain ⟨p, hp, rfl⟩ : ∃ p, ps[m]? = some p ∧ V.ref p = y := by simpa using hy
      obtain ⟨sd, hsd, pl, pr, h1, h2, h3⟩ := paired_get SL.r hp
      have hm : m < ss.length := (List.getElem?_eq_some_iff.mp hsd).1
      have el := tupsF_len L1.r
      rw [List.length_take, List.length_map] at el
      refine ⟨p, _, rfl, .of (s1 _ _ h1), rfl, _, _, rfl, _, _, rfl, rfl, ?_⟩
      simp only [tYes, if_true]
      walk_at "rd"
      refine ixT_at (.of (s1 _ _ h2)) rfl ?_
      have kt : ∀ b xs, H1 b = some (.tup xs) → upd H1 Dl (.lst (es.map V.ref ++ [.ref pr])) b = some (.tup xs) := fun b xs e => by
        rw [upd_ne (ne_of e L1.hl (by intro z; cases z))]; exact e
      have hx : (ss.map fun s => s.2.2)[m]? = some sd.2.2 := by rw [List.getElem?_map, hsd]; rfl
      refine ⟨_, L1.hl, line_lt (by rw [List.length_map]; omega), fun b o e => ?_, es ++ [pr], ?_⟩
      · rw [upd_ne (ne_of_none e hDl)]; exact s1 _ _ e
      · rw [take_succ_of hx]
        exact ⟨by rw [upd_same, List.map_append]; rfl, tupsF_snoc (kt _ _ (s1 _ _ h3)) (tupsF_keep L1.r kt)⟩
    rintro τ H1 ⟨v0, v1, es, rfl, s1, L1⟩
    rw [List.take_of_length_le (by rw [List.length_map, List.length_map]; omega)] at L1
    refine ⟨Dl, es, _, rfl, L1, fun i => (Sw.rates_szs PL i).mono (by decide), fun q hq => ?_, fun r H2 s2 hr2 => hR _ _ ?_⟩
    · obtain ⟨i, hi⟩ := List.getElem?_of_mem hq
      rw [← Sw.rt_map] at hq
      obtain ⟨j, _, rfl⟩ := List.mem_map.mp hq
      exact (Sw.rt_sz PL j).mono (by decide)
    have sm := s1.trans s2
    walk_at "rd"
    intro pa fa
    have n1 := same_new (o := .tup [.int 1, .int 1]) fa
    have z := Sw.rates_szs PL ss.length
    rw [List.take_of_length_le (by rw [List.length_map]; omega)] at z
    refine ⟨r, pa, _, ((1 : Int) : Rat), rfl, n1 _ _ hr2, at_int (n := 1), z.mono (by decide), (Sw.SzQ.int (n := 1) (z := 4) (Sw.Sz.one _)).mono (by decide), ?_⟩
    rw [decide_eq_true (show Sw.tq (ss.map fun s => s.2.2) < ((1 : Int) : Rat) from PL.lt)]
    walk_at "rd"
    exact k _ (sm.trans n1)
def spFull : Sp := fun vs H Q _ => ∃ l ps n h, vs = [.ref l] ∧ Lst fq H l ps (fr n h) ∧ n ≤ 8 ∧ (∀ i, Sw.SzQ 1200 (h i)) ∧ ∀ fl H', Same H H' → H fl = none → H' fl = some (.lst (((List.range n).filter fun i => decide (0 < h i)).map natI)) → Q (.ref fl) H'
theorem d_full_ones (T : Txt K mg c_NoRatio) : Def P w K mg base (CXX P w) 2 "full_ones" ["heaps"] spFull := by
  have D_under := d_under (P := P) (w := w) (base := base) T
  refine T.src_full_ones.okN (k := 1) sc_full_ones (fun vs H Q E h => ?_) (fun f cdv A outer s H vs Q E hr h => ?_)
  · obtain ⟨l, ps, n, h, rfl, _⟩ := h
    rfl
  · obtain ⟨l, ps, n, h, rfl, L, n8, sz, k⟩ := h
    refine ⟨_, (pss_one (ps_ret (pe_lc ["number", "heap"] [] rfl (by with_unfolding_all rfl) (by decide +kernel) rfl (by decide +kernel) (by exact True.intro) (by with_unfolding_all rfl) True.intro (pi_enumK K rfl rfl T.no_enumerate (pa_cons (pv 0) pa_nil)) (fun _ _ _ => (pg_tupK (n := 2) K rfl rfl (pgs_cons (pg_name (i := 0) (show (["number", "heap"] : List Str).Nodup from by decide +kernel) rfl (by first | exact Or.inl rfl | exact Or.inr rfl)) (pgs_cons (pg_name (i := 1) (show (["number", "heap"] : List Str).Nodup from by decide +kernel) rfl (by first | exact Or.inl rfl | exact Or.inr rfl)) pgs_nil)))) (fun _ _ _ => (pifs_one (pt_val (pe_callX D_under (hr.mono (by decide)) rfl passN (pa_cons (pe_tup (pa_cons pe_int (pa_cons pe_int pa_nil))) (pa_cons (pv 1) pa_nil)))))) (fun _ _ _ => (pv 0))))), ?_⟩
    show tRet _ _ [some (.ref l)] H
    have len := tupsF_len L.r
    rw [fr_len] at len
    walk_at "rd"
    refine ⟨⟨_, .of L.hl⟩, fun Dl hDl => ?_⟩
    refine comp_enum (xs := ps.map V.ref) (fun m τ H' => ∃ v0 v1, τ = [v0, v1] ∧ Same H H' ∧ H' Dl = some (.lst (((List.range m).filter fun i => decide (0 < h i)).map natI))) ⟨none, none, rfl, same_new hDl, upd_same⟩ (fun m τ H' _ ⟨_, _, _, s', _⟩ => .of (s' _ _ L.hl)) ?_ ?_
    · rintro m y τ H1 p hy ⟨v0, v1, rfl, s1, hD⟩ hp'
      obtain ⟨ph, hph, rfl⟩ : ∃ p, ps[m]? = some p ∧ V.ref p = y := by simpa using hy
      have hm : m < n := by have := (List.getElem?_eq_some_iff.mp hph).1; omega
      obtain ⟨q, hq, hq2⟩ := tupsF_get L.r hph
      rw [fr_get h hm] at hq
      cases hq
      have sn := same_new (o := .tup [.int m, .ref ph]) hp'
      have s1 := s1.trans sn
      have hD := sn _ _ hD
      refine ⟨p, _, rfl, .of upd_same, rfl, _, _, rfl, _, _, rfl, rfl, ?_⟩
      generalize upd H1 p (.tup [.int m, .ref ph]) = H2 at s1 hD ⊢
      clear sn hp'
      have lk : ((List.range m).filter fun i => decide (0 < h i)).length ≤ 8 := by
        have := List.length_filter_le (fun i => decide (0 < h i)) (List.range m)
        rw [List.length_range] at this
        omega
      walk_at "rd"
      intro pa fa
      have n1 := same_new (o := .tup [.int 0, .int 1]) fa
      have s1 := s1.trans n1
      have hD := n1 _ _ hD
      refine ⟨pa, ph, ((0 : Int) : Rat), _, rfl, at_int (n := 0), s1 _ _ hq2, (Sw.SzQ.int (n := 0) (z := 4) (Sw.Sz.zero _)).mono (by decide), (sz m).mono (by decide), ?_⟩
      generalize upd H2 pa (.tup [.int 0, .int 1]) = H3 at s1 hD ⊢
      have e0 : decide (((0 : Int) : Rat) < h m) = decide (0 < h m) := rfl
      rw [e0, List.range_succ, List.filter_append, List.filter_cons, List.filter_nil]
      walk_at "rd"
      refine ite2 (fun c => ?_) fun c => ?_
      · refine ⟨_, hD, line_lt (by rw [List.length_map]; omega), fun b o e => ?_, ?_⟩
        · rw [upd_ne (ne_of_none e hDl)]; exact s1 _ _ e
        · rw [upd_same, if_pos c, List.map_append]; rfl
      · rw [if_neg c, List.append_nil]
        exact ⟨s1, hD⟩
    rintro τ H1 ⟨v0, v1, rfl, s1, hD⟩
    rw [List.length_map, len] at hD
    exact k Dl H1 s1 hDl hD
def spOuts : Sp := fun vs H Q _ => ∃ sl ps ss L hl hp h, vs = [.ref sl, .ref hl] ∧ SnL H sl ps ss ∧ Lst fq H hl hp (fr ss.length h) ∧ Sw.Plan ss L ∧ (∀ i, Sw.SzQ 1200 (h i)) ∧ Sw.fullS ss h ≠ [] ∧ ∀ ol op H', Same H H' → H ol = none → Lst fq H' ol op (fr ss.length (Sw.outS ss h)) → Q (.ref ol) H'
theorem d_outs_of (T : Txt K mg c_NoRatio) : Def P w K mg base (CXX P w) 5 "outs_of" ["senders", "heaps"] spOuts := by
  have D_full_ones := d_full_ones (P := P) (w := w) (base := base) T
  have D_ratio := d_ratio (P := P) (w := w) (base := base) T
  have D_minus := d_minus (P := P) (w := w) (base := base) T
  have D_times := d_times (P := P) (w := w) (base := base) T
  have D_total := d_total (P := P) (w := w) (base := base) T
  refine T.src_outs_of.okN (k := 4) sc_outs_of (fun vs H Q E h => ?_) (fun f cdv A outer s H vs Q E hr h => ?_)
  · obtain ⟨sl, ps, ss, L, hl, hp, h, rfl, _⟩ := h
    rfl
  · obtain ⟨sl, ps, ss, L, hl, hp, h, rfl, SL, HL, PL, sz, ne, k⟩ := h
    refine ⟨_, (pss_cons (ps_set (i := 2) sc_outs_of.nd rfl (by first | exact Or.inl rfl | exact Or.inr rfl) (pe_callX D_full_ones (hr.mono (by decide)) rfl passN (pa_cons (pv 1) pa_nil))) (pss_cons (ps_set (i := 3) sc_outs_of.nd rfl (by first | exact Or.inl rfl | exact Or.inr rfl) (pe_callB (call_sumK K rfl rfl) rfl T.no_sum boot_sum (pa_cons (pe_lc ["number"] [("senders", 0)] rfl (by with_unfolding_all rfl) (by decide +kernel) rfl (by decide +kernel) (by exact ⟨rfl, True.intro⟩) (by with_unfolding_all rfl) ⟨⟨rfl, rfl, rfl⟩, True.intro⟩ (pi_listK K rfl (pv 2)) (fun _ _ _ => (pg_name (i := 0) (show (["number", "senders"] : List Str).Nodup from by decide +kernel) rfl (by first | exact Or.inl rfl | exact Or.inr rfl))) (fun _ _ _ => pifs_nil) (fun _ _ _ => (pe_ix (ix_tupK K rfl) (pe_ix (ix_listK K rfl) (pv 1) (pv 0) (fun _ _ => rfl)) pe_int (fun _ _ => rfl)))) pa_nil))) (pss_cons (ps_setL (i0 := 4) ["share", "line"] [] rfl (by with_unfolding_all rfl) (by decide +kernel) rfl (by decide +kernel) (by exact True.intro) (by with_unfolding_all rfl) True.intro (pi_listK K rfl (pv 0)) (fun _ _ _ => (pg_tupK (n := 2) K rfl rfl (pgs_cons (pg_name (i := 0) (show (["share", "line"] : List Str).Nodup from by decide +kernel) rfl (by first | exact Or.inl rfl | exact Or.inr rfl)) (pgs_cons (pg_name (i := 1) (show (["share", "line"] : List Str).Nodup from by decide +kernel) rfl (by first | exact Or.inl rfl | exact Or.inr rfl)) pgs_nil)))) (fun _ _ _ => pifs_nil) (fun _ _ _ => (pe_callX D_ratio (hr.mono (by decide)) rfl passN (pa_cons (pe_ix (ix_tupK K rfl) (pe_ix (ix_tupK K rfl) (pv 1) pe_int (fun _ _ => rfl)) pe_int (fun _ _ => rfl)) (pa_cons (pe_ix (ix_tupK K rfl) (pe_ix (ix_tupK K rfl) (pv 1) pe_int (fun _ _ => rfl)) pe_int (fun _ _ => rfl)) pa_nil)))) (by with_unfolding_all rfl) sc_outs_of.nd rfl (by first | exact Or.inl rfl | exact Or.inr rfl)) (pss_cons (ps_set (i := 5) sc_outs_of.nd rfl (by first | exact Or.inl rfl | exact Or.inr rfl) (pe_callX D_minus (hr.mono (by decide)) rfl passN (pa_cons (pe_tup (pa_cons pe_int (pa_cons pe_int pa_nil))) (pa_cons (pe_callX D_total (hr.mono (by decide)) rfl passN (pa_cons (pe_lc ["number", "out"] [("full", 2)] rfl (by with_unfolding_all rfl) (by decide +kernel) rfl (by decide +kernel) (by exact ⟨rfl, True.intro⟩) (by with_unfolding_all rfl) ⟨⟨rfl, rfl, rfl⟩, True.intro⟩ (pi_enumK K rfl rfl T.no_enumerate (pa_cons (pv 4) pa_nil)) (fun _ _ _ => (pg_tupK (n := 2) K rfl rfl (pgs_cons (pg_name (i := 0) (show (["number", "out", "full"] : List Str).Nodup from by decide +kernel) rfl (by first | exact Or.inl rfl | exact Or.inr rfl)) (pgs_cons (pg_name (i := 1) (show (["number", "out", "full"] : List Str).Nodup from by decide +kernel) rfl (by first | exact Or.inl rfl | exact Or.inr rfl)) pgs_nil)))) (fun _ _ _ => (pifs_one (pt_cmpR (op_notInK K rfl) (pv 0) (pv 2) rfl))) (fun _ _ _ => (pv 1))) pa_nil)) pa_nil)))) (pss_cons (ps_for PassesOwn.never rfl (pi_listK K rfl (pv 2)) (pg_name (i := 6) sc_outs_of.nd rfl (by first | exact Or.inl rfl | exact Or.inr rfl)) (pss_one (ps_asg (pe_callX D_times (hr.mono (by decide)) rfl passN (pa_cons (pv 5) (pa_cons (pe_callX D_ratio (hr.mono (by decide)) rfl passN (pa_cons (pe_ix (ix_tupK K rfl) (pe_ix (ix_listK K rfl) (pv 0) (pv 6) (fun _ _ => rfl)) pe_int (fun _ _ => rfl)) (pa_cons (pv 3) pa_nil))) pa_nil))) (pg_sub (pv 4) (pv 6) set_list)))) (pss_one (ps_ret (pv 4)))))))), ?_⟩
    show tSeq _ _ _ [some (.ref sl), some (.ref hl), none, none, none, none, none] H
    have len := SL.len
    have n8 := PL.n8
    have flen : (Sw.fullS ss h).length ≤ 8 := by
      have : (Sw.fullS ss h).length ≤ (List.range ss.length).length := List.length_filter_le _ _
      rw [List.length_range] at this
      omega
    refine seq_step fun R hR => ?_
    walk_at "rd"
    refine ⟨hl, hp, ss.length, h, rfl, HL, n8, sz, fun fl H1 s1 nfl hfl => hR _ _ ?_⟩
    have hfl : H1 fl = some (.lst ((Sw.fullS ss h).map natI)) := hfl
    have SL1 := SL.same s1
    refine seq_step fun R hR => ?_
    walk_at "rd"
    refine ⟨⟨_, .of hfl⟩, fun Dl hDl => ?_⟩
    refine comp_walk (xs := (Sw.fullS ss h).map natI) (fun m τ H' => ∃ v0, τ = [v0, some (.ref sl)] ∧ Same H1 H' ∧ H' Dl = some (.lst ((((Sw.fullS ss h).take m).map (Sw.shS ss)).map V.int))) ⟨none, rfl, same_new hDl, upd_same⟩ (fun m τ H' _ ⟨_, _, s', _⟩ => .of (s' _ _ hfl)) ?_ ?_
    · rintro m y τ H2 hy ⟨v0, rfl, s2, hD⟩
      obtain ⟨i, hi, rfl⟩ : ∃ p, (Sw.fullS ss h)[m]? = some p ∧ natI p = y := by simpa using hy
      have hin := (Sw.full_iff.mp (List.mem_of_getElem? hi)).1
      obtain ⟨p, pl, pr, _, xi, h1, h2, h3⟩ := (SL1.same s2).item hin
      walk_at "rd"
      simp only [tYes, if_true]
      walk_at "rd"
      refine ixL_at (.of (SL1.same s2).hl) xi ?_
      refine ixT_at (.of h1) rfl ?_
      refine ⟨_, hD, line_lt (by rw [List.length_map, List.length_map, List.length_take]; omega), fun b o e => ?_, ?_⟩
      · rw [upd_ne (ne_of_none e hDl)]; exact s2 _ _ e
      · rw [upd_same, take_succ_of hi, List.map_append, List.map_append]; rfl
    rintro τ H2 ⟨v0, rfl, s2, hD⟩
    rw [List.take_of_length_le (by rw [List.length_map]; exact Nat.le_refl _)] at hD
    refine ⟨Dl, _, rfl, .of hD, hR _ _ ?_⟩
    have eS : ((Sw.fullS ss h).map (Sw.shS ss)).sum = Sw.sumF ss h := rfl
    rw [eS]
    have SL2 := SL1.same s2
    have hfl2 := s2 _ _ hfl
    have sm2 := s1.trans s2
    clear hD hDl s1 s2 hfl SL1
    obtain ⟨S1, SLm⟩ := Sw.sumF_ok PL ne
    have Sz1 : Sw.sumF ss h ≤ 1000000000000000000 := by
      have := Int.mul_le_mul_of_nonneg_right PL.L1 (show 0 ≤ Sw.sumF ss h by omega)
      omega
    refine seq_step fun R hR => ?_
    walk_at "rd"
    refine ⟨⟨_, .of SL2.hl⟩, fun ol hol => ?_⟩
    refine comp_walk (xs := ps.map V.ref) (fun m τ H' => ∃ v0 v1 es, τ = [v0, v1] ∧ Same H2 H' ∧ Lst fq H' ol es (fr m (Sw.rtS ss))) ⟨none, none, [], rfl, same_new hol, ⟨upd_same, .nil⟩⟩ (fun m τ H' _ ⟨_, _, _, _, s', _⟩ => .of (s' _ _ SL2.hl)) ?_ ?_
    · rintro m y τ H3 hy ⟨v0, v1, es, rfl, s3, L3⟩
      obtain ⟨p, hp1, rfl⟩ : ∃ p, ps[m]? = some p ∧ V.ref p = y := by simpa using hy
      have hm : m < ss.length := by have := (List.getElem?_eq_some_iff.mp hp1).1; omega
      obtain ⟨p', pl, pr, e1, _, h1, h2, h3⟩ := (SL2.same s3).item hm
      rw [hp1] at e1
      cases e1
      have el := tupsF_len L3.r
      rw [fr_len] at el
      refine ⟨p, _, rfl, .of h1, rfl, _, _, rfl, _, _, rfl, rfl, ?_⟩
      simp only [tYes, if_true]
      walk_at "rd"
      refine ixT_at (.of h2) rfl (ixT_at (.of h3) rfl (ixT_at (.of h2) rfl (ixT_at (.of h3) rfl ?_)))
      refine ⟨_, _, 200, rfl, by decide, (Sw.rt_sz PL m).d, fun _ r fr1 => ?_, fun z => absurd z (Sw.q_den_ne _)⟩
      rw [Sw.q_self]
      have n2 := same_new (o := .tup (fq (Sw.rtS ss m))) fr1
      have L2 := L3.same n2
      have kt : ∀ b xs, upd H3 r (.tup (fq (Sw.rtS ss m))) b = some (.tup xs) → upd (upd H3 r (.tup (fq (Sw.rtS ss m)))) ol (.lst (es.map V.ref ++ [.ref r])) b = some (.tup xs) := fun b xs e => by
        rw [upd_ne (ne_of e L2.hl (by intro z; cases z))]; exact e
      refine ⟨_, L2.hl, line_lt (by rw [List.length_map]; omega), fun b o e => ?_, es ++ [r], ?_⟩
      · rw [upd_ne (ne_of_none e hol)]; exact n2 _ _ (s3 _ _ e)
      · rw [fr_snoc]
        exact ⟨by rw [upd_same, List.map_append]; rfl, tupsF_snoc (kt _ _ upd_same) (tupsF_keep L2.r kt)⟩
    rintro τ H3 ⟨v0, v1, es, rfl, s3, OL⟩
    rw [List.length_map, len] at OL
    refine hR _ _ ?_
    have nol : H ol = none := sm2.free hol
    have nof : fl ≠ ol := ne_of_none hfl2 hol
    have SL3 := SL2.same s3
    have hfl3 := s3 _ _ hfl2
    have sm3 := sm2.trans s3
    clear s3 sm2 hfl2 SL2 hol
    have esl := tupsF_len OL.r
    rw [fr_len] at esl
    refine seq_step fun R hR => ?_
    walk_at "rd"
    intro pa fa
    have n1 := same_new (o := .tup [.int 1, .int 1]) fa
    have hpa : upd H3 pa (.tup [.int 1, .int 1]) pa = some (.tup (fq ((1 : Int) : Rat))) := at_int (n := 1)
    have OL := OL.same n1
    have SL3 := SL3.same n1
    have hfl3 := n1 _ _ hfl3
    have sm3 := sm3.trans n1
    generalize upd H3 pa (.tup [.int 1, .int 1]) = H4 at hpa OL SL3 hfl3 sm3 ⊢
    clear n1 fa
    refine ⟨⟨_, .of OL.hl⟩, fun Cl hCl => ?_⟩
    refine comp_enum (xs := es.map V.ref) (fun m τ H' => ∃ v0 v1 cs, τ = [v0, v1, some (.ref fl)] ∧ Same H4 H' ∧ Lst fq H' Cl cs (((List.range m).filter fun i => !decide (i ∈ Sw.fullS ss h)).map (Sw.rtS ss)) ∧ cs.length ≤ m) ⟨none, none, [], rfl, same_new hCl, ⟨upd_same, .nil⟩, Nat.le_refl _⟩ (fun m τ H' _ ⟨_, _, _, _, s', _⟩ => .of (s' _ _ OL.hl)) ?_ ?_
    · rintro m y τ H5 p hy ⟨v0, v1, cs, rfl, s5, L5, le⟩ hp'
      obtain ⟨px, hpx, rfl⟩ : ∃ p, es[m]? = some p ∧ V.ref p = y := by simpa using hy
      have hm : m < ss.length := by have := (List.getElem?_eq_some_iff.mp hpx).1; omega
      obtain ⟨q, hq, hq2⟩ := tupsF_get OL.r hpx
      rw [fr_get _ hm] at hq
      cases hq
      have sn := same_new (o := .tup [.int m, .ref px]) hp'
      have s5 := s5.trans sn
      have L5 := L5.same sn
      refine ⟨p, _, rfl, .of upd_same, rfl, _, _, rfl, _, _, rfl, rfl, ?_⟩
      generalize upd H5 p (.tup [.int m, .ref px]) = H6 at s5 L5 ⊢
      clear sn hp'
      walk_at "rd"
      refine ⟨fl, _, rfl, .inl (.of (s5 _ _ hfl3)), rfl, flat_natI _, ?_⟩
      have ein : (if true = true then !inV (.int (m : Nat)) ((Sw.fullS ss h).map natI) else inV (.int (m : Nat)) ((Sw.fullS ss h).map natI)) = !decide (m ∈ Sw.fullS ss h) := by rw [if_pos rfl, inV_natI]
      rw [ein, List.range_succ, List.filter_append, List.filter_cons, List.filter_nil]
      by_cases c : m ∈ Sw.fullS ss h
      · rw [decide_eq_true c]
        walk_at "rd"
        exact ⟨s5, cs, L5, by omega⟩
      · rw [decide_eq_false c]
        walk_at "rd"
        have kt : ∀ b xs, H6 b = some (.tup xs) → upd H6 Cl (.lst (cs.map V.ref ++ [.ref px])) b = some (.tup xs) := fun b xs e => by
          rw [upd_ne (ne_of e L5.hl (by intro z; cases z))]; exact e
        refine ⟨_, L5.hl, line_lt (by rw [List.length_map]; omega), fun b o e => ?_, cs ++ [px], ?_, by rw [List.length_append]; show cs.length + 1 ≤ _; omega⟩
        · rw [upd_ne (ne_of_none e hCl)]; exact s5 _ _ e
        · rw [List.map_append]
          exact ⟨by rw [upd_same, List.map_append]; rfl, tupsF_snoc (kt _ _ (s5 _ _ hq2)) (tupsF_keep L5.r kt)⟩
    rintro τ H5 ⟨v0, v1, cs, rfl, s5, L5, le⟩
    rw [List.length_map, esl] at L5
    refine ⟨Cl, cs, Sw.restS ss h, rfl, L5, fun i => (Sw.rest_szs PL h i).mono (by decide), fun q hq => ?_, fun tr H6 s6 htr => ?_⟩
    · obtain ⟨j, _, rfl⟩ := List.mem_map.mp hq
      exact (Sw.rt_sz PL j).mono (by decide)
    have s6 := s5.trans s6
    have zr := Sw.rest_szs PL h (Sw.restS ss h).length
    rw [List.take_length] at zr
    refine ⟨pa, tr, ((1 : Int) : Rat), _, 1200, rfl, s6 _ _ hpa, htr, by decide, (Sw.SzQ.int (n := 1) (z := 4) (Sw.Sz.one _)).mono (by decide), zr.mono (by decide), fun lf flf => hR _ _ ?_⟩
    have el : ((1 : Int) : Rat) - Sw.tq (Sw.restS ss h) = Sw.leftS ss h := rfl
    rw [el]
    have n2 := same_new (o := .tup (fq (Sw.leftS ss h))) flf
    have hlf : upd H6 lf (.tup (fq (Sw.leftS ss h))) lf = some (.tup (fq (Sw.leftS ss h))) := upd_same
    have s6 := s6.trans n2
    have OL := OL.same s6
    have SL3 := SL3.same s6
    have hfl3 := s6 _ _ hfl3
    have sm3 := sm3.trans s6
    generalize upd H6 lf (.tup (fq (Sw.leftS ss h))) = H7 at hlf OL SL3 hfl3 sm3 ⊢
    clear n2 flf s6 s5 L5 htr hpa hCl
    refine seq_step fun R hR => ?_
    refine for_step fun Z hZ => ?_
    walk_at "rd"
    refine ⟨⟨_, .of hfl3⟩, hZ _ _ ?_⟩
    refine for_list (K := K) (a := fl) (xs := (Sw.fullS ss h).map natI) (fun m σ H' => ∃ v6 os, σ = [some (.ref sl), some (.ref hl), some (.ref fl), some (.int (Sw.sumF ss h)), some (.ref ol), some (.ref lf), v6] ∧ (∀ b o, b ≠ ol → H7 b = some o → H' b = some o) ∧ Lst fq H' ol os (fr ss.length (fun i => if i ∈ (Sw.fullS ss h).take m then Sw.leftS ss h * ((Sw.shS ss i : Rat) / (Sw.sumF ss h : Rat)) else Sw.rtS ss i))) ⟨none, es, rfl, fun _ _ _ e => e, by simpa using OL⟩ (fun m σ H' _ ⟨_, _, _, kp, _⟩ => .of (kp _ _ nof hfl3)) ?_ ?_
    · rintro m y σ H8 hy ⟨v6, os, rfl, kp, O8⟩
      obtain ⟨i, hi, rfl⟩ : ∃ p, (Sw.fullS ss h)[m]? = some p ∧ natI p = y := by simpa using hy
      have hin := (Sw.full_iff.mp (List.mem_of_getElem? hi)).1
      obtain ⟨p, pl, pr, _, xi, h1, h2, h3⟩ := SL3.item hin
      have osl := tupsF_len O8.r
      rw [fr_len] at osl
      have nsl : sl ≠ ol := ne_of_none SL.hl nol
      have kt : ∀ b xs, H7 b = some (.tup xs) → H8 b = some (.tup xs) := fun b xs e => kp _ _ (ne_of e OL.hl (by intro z; cases z)) e
      show tAsg _ _ _ [some (.ref sl), some (.ref hl), some (.ref fl), some (.int (Sw.sumF ss h)), some (.ref ol), some (.ref lf), some (.int (i : Int))] H8
      refine nx_step fun N hN => ?_
      walk_at "rd"
      refine ixL_at (.of (kp _ _ nsl SL3.hl)) xi ?_
      refine ixT_at (.of (kt _ _ h1)) rfl ?_
      have shb : 1 ≤ Sw.shS ss i ∧ Sw.shS ss i ≤ 1000000000000000000 := by
        obtain ⟨s0, hs0, e0, _⟩ := Sw.at_mem hin
        have := PL.s1 s0 hs0
        refine ⟨by rw [e0]; exact this, ?_⟩
        have := Sw.sh_le PL (List.mem_of_getElem? hi)
        omega
      refine ⟨_, _, 70, rfl, by decide, Sw.Sz.r18 (by omega) (by omega), fun _ r1 f1 => ?_, fun z => absurd z (by omega)⟩
      have m1 := same_new (o := .tup (fq ((Sw.shS ss i : Rat) / (Sw.sumF ss h : Rat)))) f1
      refine ⟨lf, r1, Sw.leftS ss h, _, 1200, rfl, m1 _ _ (kt _ _ hlf), upd_same, by decide, (Sw.left_sz PL h).mono (by decide), (Sw.SzQ.of (z := 70) (by omega) rfl (Sw.Sz.r18 (by omega) (by omega)) (Sw.Sz.r18 (by omega) (by omega))).mono (by decide), fun r2 f2 => ?_⟩
      have m2 := same_new (o := .tup (fq (Sw.leftS ss h * ((Sw.shS ss i : Rat) / (Sw.sumF ss h : Rat))))) f2
      have m12 := m1.trans m2
      have hr2 : upd (upd H8 r1 (.tup (fq ((Sw.shS ss i : Rat) / (Sw.sumF ss h : Rat))))) r2 (.tup (fq (Sw.leftS ss h * ((Sw.shS ss i : Rat) / (Sw.sumF ss h : Rat))))) r2 = some (.tup (fq (Sw.leftS ss h * ((Sw.shS ss i : Rat) / (Sw.sumF ss h : Rat))))) := upd_same
      generalize upd (upd H8 r1 (.tup (fq ((Sw.shS ss i : Rat) / (Sw.sumF ss h : Rat))))) r2 (.tup (fq (Sw.leftS ss h * ((Sw.shS ss i : Rat) / (Sw.sumF ss h : Rat))))) = H9 at m12 hr2 ⊢
      clear m1 m2 f1 f2
      have O9 := O8.same m12
      simp only [gSub]
      walk_at "rd"
      refine ⟨ol, _, _, i, rfl, rfl, O9.hl, ixN_nat (by rw [List.length_map]; omega), hN _ _ ?_⟩
      refine ⟨_, os.set i r2, rfl, fun b o n e => ?_, ?_⟩
      · rw [upd_ne n]; exact m12 _ _ (kp _ _ n e)
      · have kt9 : ∀ b xs, H9 b = some (.tup xs) → upd H9 ol (.lst ((os.map V.ref).set i (.ref r2))) b = some (.tup xs) := fun b xs e => by
          rw [upd_ne (ne_of e O9.hl (by intro z; cases z))]; exact e
        have st := tupsF_set (kt9 _ _ hr2) i (tupsF_keep O9.r kt9)
        rw [fr_set] at st
        refine ⟨by rw [upd_same, List.map_set], ?_⟩
        rw [take_succ_of hi]
        have ec : ∀ j, j < ss.length → (if j = i then Sw.leftS ss h * ((Sw.shS ss i : Rat) / (Sw.sumF ss h : Rat)) else if j ∈ (Sw.fullS ss h).take m then Sw.leftS ss h * ((Sw.shS ss j : Rat) / (Sw.sumF ss h : Rat)) else Sw.rtS ss j) = if j ∈ (Sw.fullS ss h).take m ++ [i] then Sw.leftS ss h * ((Sw.shS ss j : Rat) / (Sw.sumF ss h : Rat)) else Sw.rtS ss j := fun j _ => by
          by_cases c : j = i
          · subst c; simp
          · simp [c]
        rw [fr_congr ec] at st
        exact st
    · rintro σ H8 ⟨v6, os, rfl, kp, O8⟩
      refine hR _ _ ?_
      walk_at "rd"
      rw [List.take_of_length_le (by rw [List.length_map]; exact Nat.le_refl _)] at O8
      exact k ol os H8 (fun b o e => kp _ _ (ne_of_none e nol) (sm3 _ _ e)) nol O8
def spTime : Sp := fun vs H Q _ => ∃ hl hp fl fp ss L h, vs = [.ref hl, .ref fl] ∧ Lst fq H hl hp (fr ss.length h) ∧ Lst fq H fl fp (fr ss.length (Sw.falS ss h)) ∧ Sw.Plan ss L ∧ (∀ i, Sw.SzQ 1200 (h i)) ∧ Sw.fullS ss h ≠ [] ∧ ∀ r H', Same H H' → H' r = some (.tup (fq (Sw.tmS ss h))) → Q (.ref r) H'
theorem d_time_to_empty (T : Txt K mg c_NoRatio) : Def P w K mg base (CXX P w) 4 "time_to_empty" ["heaps", "falls"] spTime := by
  have D_under := d_under (P := P) (w := w) (base := base) T
  have D_over := d_over (P := P) (w := w) (base := base) T
  have D_least := d_least (P := P) (w := w) (base := base) T
  refine T.src_time_to_empty.okN (k := 3) sc_time_to_empty (fun vs H Q E h => ?_) (fun f cdv A outer s H vs Q E hr h => ?_)
  · obtain ⟨hl, hp, fl, fp, ss, L, h, rfl, _⟩ := h
    rfl
  · obtain ⟨hl, hp, fl, fp, ss, L, h, rfl, HL, FL, PL, sz, ne, k⟩ := h
    refine ⟨_, (pss_one (ps_ret (pe_callX D_least (hr.mono (by decide)) rfl passN (pa_cons (pe_lc ["heap", "fall"] [] rfl (by with_unfolding_all rfl) (by decide +kernel) rfl (by decide +kernel) (by exact True.intro) (by with_unfolding_all rfl) True.intro (pi_zipK K rfl rfl T.no_zip (pa_cons (pv 0) (pa_cons (pv 1) pa_nil))) (fun _ _ _ => (pg_tupK (n := 2) K rfl rfl (pgs_cons (pg_name (i := 0) (show (["heap", "fall"] : List Str).Nodup from by decide +kernel) rfl (by first | exact Or.inl rfl | exact Or.inr rfl)) (pgs_cons (pg_name (i := 1) (show (["heap", "fall"] : List Str).Nodup from by decide +kernel) rfl (by first | exact Or.inl rfl | exact Or.inr rfl)) pgs_nil)))) (fun _ _ _ => (pifs_one (pt_val (pe_callX D_under (hr.mono (by decide)) rfl passN (pa_cons (pe_tup (pa_cons pe_int (pa_cons pe_int pa_nil))) (pa_cons (pv 1) pa_nil)))))) (fun _ _ _ => (pe_callX D_over (hr.mono (by decide)) rfl passN (pa_cons (pv 0) (pa_cons (pv 1) pa_nil))))) pa_nil)))), ?_⟩
    show tRet _ _ [some (.ref hl), some (.ref fl)] H
    have n8 := PL.n8
    have l1 := tupsF_len HL.r
    have l2 := tupsF_len FL.r
    rw [fr_len] at l1 l2
    have fz := fun i => Sw.fal_sz PL ne i
    walk_at "rd"
    simp only [iZip]
    walk_at "rd"
    refine ⟨⟨_, .of HL.hl⟩, ⟨_, .of FL.hl⟩, fun Dl hDl => ?_⟩
    refine comp_zip (xs := hp.map V.ref) (ys := fp.map V.ref) (fun m τ H' => ∃ v0 v1 es, τ = [v0, v1] ∧ Same H H' ∧ Lst fq H' Dl es (((List.range m).filter fun i => decide (0 < Sw.falS ss h i)).map fun i => h i / Sw.falS ss h i) ∧ es.length ≤ m) ⟨none, none, [], rfl, same_new hDl, ⟨upd_same, .nil⟩, Nat.le_refl _⟩ (by rw [List.length_map, List.length_map]; omega) (fun m τ H' _ ⟨_, _, _, _, s', _⟩ => ⟨.of (s' _ _ HL.hl), .of (s' _ _ FL.hl)⟩) ?_ ?_
    · rintro m x y τ H1 p hx hy ⟨v0, v1, es, rfl, s1, L1, le⟩ hp'
      obtain ⟨px, hpx, rfl⟩ : ∃ p, hp[m]? = some p ∧ V.ref p = x := by simpa using hx
      obtain ⟨py, hpy, rfl⟩ : ∃ p, fp[m]? = some p ∧ V.ref p = y := by simpa using hy
      have hm : m < ss.length := by have := (List.getElem?_eq_some_iff.mp hpx).1; omega
      obtain ⟨q, hq, hq2⟩ := tupsF_get HL.r hpx
      rw [fr_get h hm] at hq
      cases hq
      obtain ⟨q, hq, hq3⟩ := tupsF_get FL.r hpy
      rw [fr_get _ hm] at hq
      cases hq
      have sn := same_new (o := .tup [.ref px, .ref py]) hp'
      have s1 := s1.trans sn
      have L1 := L1.same sn
      refine ⟨p, _, rfl, .of upd_same, rfl, _, _, rfl, _, _, rfl, rfl, ?_⟩
      generalize upd H1 p (.tup [.ref px, .ref py]) = H2 at s1 L1 ⊢
      clear sn hp'
      walk_at "rd"
      intro pa fa
      have n1 := same_new (o := .tup [.int 0, .int 1]) fa
      have s1 := s1.trans n1
      have L1 := L1.same n1
      refine ⟨pa, py, ((0 : Int) : Rat), _, rfl, at_int (n := 0), s1 _ _ hq3, (Sw.SzQ.int (n := 0) (z := 4) (Sw.Sz.zero _)).mono (by decide), (fz m).mono (by decide), ?_⟩
      generalize upd H2 pa (.tup [.int 0, .int 1]) = H3 at s1 L1 ⊢
      have e0 : decide (((0 : Int) : Rat) < Sw.falS ss h m) = decide (0 < Sw.falS ss h m) := rfl
      rw [e0, List.range_succ, List.filter_append, List.filter_cons, List.filter_nil]
      walk_at "rd"
      refine ite2 (fun c => ?_) fun c => ?_
      · refine ⟨px, py, _, _, 1200, rfl, s1 _ _ hq2, s1 _ _ hq3, by decide, sz m, (fz m).mono (by decide), fun z => by rw [z] at c; exact absurd c (by decide), fun r hr' => ?_⟩
        have n2 := same_new (o := .tup (fq (h m / Sw.falS ss h m))) hr'
        have L2 := L1.same n2
        have kt : ∀ b xs, upd H3 r (.tup (fq (h m / Sw.falS ss h m))) b = some (.tup xs) → upd (upd H3 r (.tup (fq (h m / Sw.falS ss h m)))) Dl (.lst (es.map V.ref ++ [.ref r])) b = some (.tup xs) := fun b xs e => by
          rw [upd_ne (ne_of e L2.hl (by intro z; cases z))]; exact e
        refine ⟨_, L2.hl, line_lt (by rw [List.length_map]; omega), fun b o e => ?_, es ++ [r], ?_, by rw [List.length_append]; show es.length + 1 ≤ _; omega⟩
        · rw [upd_ne (ne_of_none e hDl)]; exact n2 _ _ (s1 _ _ e)
        · rw [if_pos c, List.map_append]
          exact ⟨by rw [upd_same, List.map_append]; rfl, tupsF_snoc (kt _ _ upd_same) (tupsF_keep L2.r kt)⟩
      · rw [if_neg c, List.append_nil]
        exact ⟨s1, es, L1, by omega⟩
    rintro τ H1 ⟨v0, v1, es, rfl, s1, L1, le⟩
    rw [List.length_map, l1] at L1
    refine ⟨Dl, es, Sw.tmsS ss h, rfl, L1, Sw.tms_ne PL ne, fun q hq => ?_, fun r H2 s2 h2 => k r H2 (s1.trans s2) h2⟩
    obtain ⟨i, _, c, rfl⟩ := Sw.tms_mem.mp hq
    exact ((sz i).div (Sw.q_num_ne (by grind)) (fz i)).mono (by decide)
def spCourse : Sp := fun vs H Q _ => ∃ l ps ss L, vs = [.ref l] ∧ SnL H l ps ss ∧ Sw.Plan ss L ∧ ∀ cl cp m H', Same H H' → H cl = none → PtL ss H' cl cp m → EndS ss m → Q (.ref cl) H'
theorem d_course (T : Txt K mg c_NoRatio) : Def P w K mg base (CXX P w) 6 "course" ["senders"] spCourse := by
  have D_check_rates := d_check_rates (P := P) (w := w) (base := base) T
  have D_full_ones := d_full_ones (P := P) (w := w) (base := base) T
  have D_outs_of := d_outs_of (P := P) (w := w) (base := base) T
  have D_time_to_empty := d_time_to_empty (P := P) (w := w) (base := base) T
  have D_ratio := d_ratio (P := P) (w := w) (base := base) T
  have D_plus := d_plus (P := P) (w := w) (base := base) T
  have D_minus := d_minus (P := P) (w := w) (base := base) T
  have D_times := d_times (P := P) (w := w) (base := base) T
  refine T.src_course.okN (k := 5) sc_course (fun vs H Q E h => ?_) (fun f cdv A outer s H vs Q E hr h => ?_)
  · obtain ⟨l, ps, ss, L, rfl, _⟩ := h
    rfl
  · obtain ⟨l, ps, ss, L, rfl, SL, PL, k⟩ := h
    refine ⟨_, (pss_cons (ps_expr (pe_callX D_check_rates (hr.mono (by decide)) rfl passN (pa_cons (pv 0) pa_nil))) (pss_cons (ps_setL (i0 := 1) ["share", "line"] [] rfl (by with_unfolding_all rfl) (by decide +kernel) rfl (by decide +kernel) (by exact True.intro) (by with_unfolding_all rfl) True.intro (pi_listK K rfl (pv 0)) (fun _ _ _ => (pg_tupK (n := 2) K rfl rfl (pgs_cons (pg_name (i := 0) (show (["share", "line"] : List Str).Nodup from by decide +kernel) rfl (by first | exact Or.inl rfl | exact Or.inr rfl)) (pgs_cons (pg_name (i := 1) (show (["share", "line"] : List Str).Nodup from by decide +kernel) rfl (by first | exact Or.inl rfl | exact Or.inr rfl)) pgs_nil)))) (fun _ _ _ => pifs_nil) (fun _ _ _ => (pe_callX D_ratio (hr.mono (by decide)) rfl passN (pa_cons (pe_ix (ix_tupK K rfl) (pv 1) pe_int (fun _ _ => rfl)) (pa_cons pe_int pa_nil)))) (by with_unfolding_all rfl) sc_course.nd rfl (by first | exact Or.inl rfl | exact Or.inr rfl)) (pss_cons (ps_set (i := 2) sc_course.nd rfl (by first | exact Or.inl rfl | exact Or.inr rfl) (pe_callX D_ratio (hr.mono (by decide)) rfl passN (pa_cons pe_int (pa_cons pe_int pa_nil)))) (pss_cons (ps_set (i := 3) sc_course.nd rfl (by first | exact Or.inl rfl | exact Or.inr rfl) (pe_lst pa_nil)) (pss_cons (ps_while PassesOwn.never (pt_truthK K rfl (pe_callX D_full_ones (hr.mono (by decide)) rfl passN (pa_cons (pv 1) pa_nil))) (pss_cons (ps_set (i := 4) sc_course.nd rfl (by first | exact Or.inl rfl | exact Or.inr rfl) (pe_callX D_outs_of (hr.mono (by decide)) rfl passN (pa_cons (pv 0) (pa_cons (pv 1) pa_nil)))) (pss_cons (ps_setL (i0 := 5) ["number", "out"] [("senders", 0)] rfl (by with_unfolding_all rfl) (by decide +kernel) rfl (by decide +kernel) (by exact ⟨rfl, True.intro⟩) (by with_unfolding_all rfl) ⟨⟨rfl, rfl, rfl⟩, True.intro⟩ (pi_enumK K rfl rfl T.no_enumerate (pa_cons (pv 4) pa_nil)) (fun _ _ _ => (pg_tupK (n := 2) K rfl rfl (pgs_cons (pg_name (i := 0) (show (["number", "out", "senders"] : List Str).Nodup from by decide +kernel) rfl (by first | exact Or.inl rfl | exact Or.inr rfl)) (pgs_cons (pg_name (i := 1) (show (["number", "out", "senders"] : List Str).Nodup from by decide +kernel) rfl (by first | exact Or.inl rfl | exact Or.inr rfl)) pgs_nil)))) (fun _ _ _ => pifs_nil) (fun _ _ _ => (pe_callX D_minus (hr.mono (by decide)) rfl passN (pa_cons (pv 1) (pa_cons (pe_ix (ix_tupK K rfl) (pe_ix (ix_tupK K rfl) (pe_ix (ix_listK K rfl) (pv 2) (pv 0) (fun _ _ => rfl)) pe_int (fun _ _ => rfl)) pe_int (fun _ _ => rfl)) pa_nil)))) (by with_unfolding_all rfl) sc_course.nd rfl (by first | exact Or.inl rfl | exact Or.inr rfl)) (pss_cons (ps_set (i := 6) sc_course.nd rfl (by first | exact Or.inl rfl | exact Or.inr rfl) (pe_callX D_time_to_empty (hr.mono (by decide)) rfl passN (pa_cons (pv 1) (pa_cons (pv 5) pa_nil)))) (pss_cons (ps_set (i := 7) sc_course.nd rfl (by first | exact Or.inl rfl | exact Or.inr rfl) (pe_callX D_plus (hr.mono (by decide)) rfl passN (pa_cons (pv 2) (pa_cons (pv 6) pa_nil)))) (pss_cons (ps_expr (pe_bm PySem.F.plainAttrs_list PySem.F.slot_list_append PySem.F.type_list_append mt_append (pv 3) (pa_cons (pe_tup (pa_cons (pv 2) (pa_cons (pv 7) (pa_cons (pv 4) (pa_cons (pv 1) pa_nil))))) pa_nil))) (pss_cons (ps_setL (i0 := 1) ["heap", "fall"] [("time", 6)] rfl (by with_unfolding_all rfl) (by decide +kernel) rfl (by decide +kernel) (by exact ⟨rfl, True.intro⟩) (by with_unfolding_all rfl) ⟨⟨rfl, rfl, rfl⟩, True.intro⟩ (pi_zipK K rfl rfl T.no_zip (pa_cons (pv 1) (pa_cons (pv 5) pa_nil))) (fun _ _ _ => (pg_tupK (n := 2) K rfl rfl (pgs_cons (pg_name (i := 0) (show (["heap", "fall", "time"] : List Str).Nodup from by decide +kernel) rfl (by first | exact Or.inl rfl | exact Or.inr rfl)) (pgs_cons (pg_name (i := 1) (show (["heap", "fall", "time"] : List Str).Nodup from by decide +kernel) rfl (by first | exact Or.inl rfl | exact Or.inr rfl)) pgs_nil)))) (fun _ _ _ => pifs_nil) (fun _ _ _ => (pe_callX D_minus (hr.mono (by decide)) rfl passN (pa_cons (pv 0) (pa_cons (pe_callX D_times (hr.mono (by decide)) rfl passN (pa_cons (pv 1) (pa_cons (pv 2) pa_nil))) pa_nil)))) (by with_unfolding_all rfl) sc_course.nd rfl (by first | exact Or.inl rfl | exact Or.inr rfl)) (pss_one (ps_set (i := 2) sc_course.nd rfl (by first | exact Or.inl rfl | exact Or.inr rfl) (pv 7)))))))))) (pss_one (ps_ret (pv 3)))))))), ?_⟩
    show tSeq _ _ _ [some (.ref l), none, none, none, none, none, none, none] H
    have len := SL.len
    have n8 := PL.n8
    refine seq_step fun R hR => ?_
    walk_at "rd"
    refine ⟨l, ps, ss, L, rfl, SL, PL, fun H1 s1 => hR _ _ ?_⟩
    have SL1 := SL.same s1
    refine seq_step fun R hR => ?_
    walk_at "rd"
    refine ⟨⟨_, .of SL1.hl⟩, fun hl hhl => ?_⟩
    refine comp_walk (xs := ps.map V.ref) (fun m τ H' => ∃ v0 v1 es, τ = [v0, v1] ∧ Same H1 H' ∧ Lst fq H' hl es (fr m (Sw.crS ss 0).1)) ⟨none, none, [], rfl, same_new hhl, ⟨upd_same, .nil⟩⟩ (fun m τ H' _ ⟨_, _, _, _, s', _⟩ => .of (s' _ _ SL1.hl)) ?_ ?_
    · rintro m y τ H3 hy ⟨v0, v1, es, rfl, s3, L3⟩
      obtain ⟨p, hp1, rfl⟩ : ∃ p, ps[m]? = some p ∧ V.ref p = y := by simpa using hy
      have hm : m < ss.length := by have := (List.getElem?_eq_some_iff.mp hp1).1; omega
      obtain ⟨p', pl, pr, e1, _, h1, h2, h3⟩ := (SL1.same s3).item hm
      rw [hp1] at e1
      cases e1
      have el := tupsF_len L3.r
      rw [fr_len] at el
      refine ⟨p, _, rfl, .of h1, rfl, _, _, rfl, _, _, rfl, rfl, ?_⟩
      simp only [tYes, if_true]
      walk_at "rd"
      refine ixT_at (.of h2) rfl ?_
      refine ⟨_, _, 70, rfl, by decide, Sw.Sz.r18 (by decide) (by decide), fun _ r fr1 => ?_, fun z => absurd z (by decide)⟩
      rw [fi1q]
      have n2 := same_new (o := .tup (fq (Sw.buS ss m : Rat))) fr1
      have L2 := L3.same n2
      have kt : ∀ b xs, upd H3 r (.tup (fq (Sw.buS ss m : Rat))) b = some (.tup xs) → upd (upd H3 r (.tup (fq (Sw.buS ss m : Rat)))) hl (.lst (es.map V.ref ++ [.ref r])) b = some (.tup xs) := fun b xs e => by
        rw [upd_ne (ne_of e L2.hl (by intro z; cases z))]; exact e
      refine ⟨_, L2.hl, line_lt (by rw [List.length_map]; omega), fun b o e => ?_, es ++ [r], ?_⟩
      · rw [upd_ne (ne_of_none e hhl)]; exact n2 _ _ (s3 _ _ e)
      · rw [fr_snoc]
        exact ⟨by rw [upd_same, List.map_append]; rfl, tupsF_snoc (kt _ _ upd_same) (tupsF_keep L2.r kt)⟩
    rintro τ H2 ⟨v0, v1, es, rfl, s2, HL⟩
    rw [List.length_map, len] at HL
    refine hR _ _ ?_
    have SL2 := SL1.same s2
    have sm := s1.trans s2
    clear s1 s2 SL1 hhl
    refine seq_step fun R hR => ?_
    walk_at "rd"
    refine ⟨_, _, 70, rfl, by decide, Sw.Sz.r18 (by decide) (by decide), fun _ pm fm => hR _ _ ?_, fun z => absurd z (by decide)⟩
    rw [f01q]
    have n1 := same_new (o := .tup (fq 0)) fm
    have hpm : upd H2 pm (.tup (fq 0)) pm = some (.tup (fq 0)) := upd_same
    have SL2 := SL2.same n1
    have HL := HL.same n1
    have sm := sm.trans n1
    generalize upd H2 pm (.tup (fq 0)) = H3 at hpm SL2 HL sm ⊢
    clear n1 fm
    refine seq_step fun R hR => ?_
    walk_at "rd"
    intro pl hpl
    refine hR _ _ ?_
    have npl : H pl = none := sm.free hpl
    have n2 := same_new (o := .lst []) hpl
    refine seq_step fun R hR => ?_
    refine while_g (fun m σ H' => ∃ k hl hp pm pp v4 v5 v6 v7, σ = [some (.ref l), some (.ref hl), some (.ref pm), some (.ref pl), v4, v5, v6, v7] ∧ Same H3 H' ∧ Lst fq H' hl hp (fr ss.length (Sw.crS ss k).1) ∧ H' pm = some (.tup (fq (Sw.crS ss k).2)) ∧ H' pl = some (.lst (pp.map V.ref)) ∧ Paired (Pt4 ss (mn H' pl)) pp (List.range k) ∧ (∀ j, j < k → Sw.fullS ss (Sw.crS ss j).1 ≠ []) ∧ hl ≠ pl ∧ (Sw.fullS ss (Sw.crS ss k).1).length = m) ⟨0, hl, es, pm, [], none, none, none, none, rfl, n2, HL.same n2, n2 _ _ hpm, upd_same, .nil, fun j h => absurd h (Nat.not_lt_zero _), ne_of_none HL.hl hpl, rfl⟩ ?_
    rintro m σ H4 ⟨kk, hl, hp, pm, pp, v4, v5, v6, v7, rfl, s4, HL, hpm, hpp, PP, go, nhl, em⟩ Q' hT hF
    obtain ⟨z, le⟩ := Sw.cr_ok PL kk go
    obtain ⟨zh, zm⟩ := z.sz (by omega)
    walk_at "rd"
    refine ⟨hl, hp, ss.length, (Sw.crS ss kk).1, rfl, HL, n8, zh, fun fl H5 s5 nfl hfl => ?_⟩
    have hfl : H5 fl = some (.lst ((Sw.fullS ss (Sw.crS ss kk).1).map natI)) := hfl
    have ppl := Paired.length PP
    rw [List.length_range] at ppl
    by_cases ne : Sw.fullS ss (Sw.crS ss kk).1 = []
    · refine ⟨false, .inl ⟨_, .of hfl, ?_⟩, hF _ ?_⟩
      · rw [ne]; rfl
      · refine hR _ _ ?_
        walk_at "rd"
        refine k pl pp kk H5 (fun b o e => s5 _ _ (s4 _ _ (sm _ _ e))) npl ⟨s5 _ _ hpp, Paired.mapP PP fun _ _ q => q.same (mn_same.trans s5)⟩ ⟨go, ne, by omega⟩
    · refine ⟨true, .inl ⟨_, .of hfl, ?_⟩, hT _ ?_⟩
      · cases e : Sw.fullS ss (Sw.crS ss kk).1 with
        | nil => exact absurd e ne
        | cons a b => rfl
      have HL := HL.same s5
      have hpm := s5 _ _ hpm
      have hpp := s5 _ _ hpp
      have PP : Paired (Pt4 ss (mn H5 pl)) pp (List.range kk) := Paired.mapP PP fun _ _ q => q.same (mn_mono s5)
      have s4 := s4.trans s5
      have SL5 := SL2.same s4
      clear s5 nfl hfl
      have lt := Sw.nx_full PL ne z.h0
      have le1 : kk + 1 ≤ 8 := by
        have : 0 < (Sw.fullS ss (Sw.crS ss kk).1).length := List.length_pos_iff.mpr ne
        omega
      obtain ⟨zft, zt⟩ := Sw.tm_sz PL ne z (by omega)
      have zo := fun i => Sw.out_sz PL ne i
      have zf := fun i => Sw.fal_sz PL ne i
      have zr := fun i => Sw.rt_sz PL i
      have ez : Sw.crS ss (kk + 1) = (Sw.nxH ss (Sw.crS ss kk).1, (Sw.crS ss kk).2 + Sw.tmS ss (Sw.crS ss kk).1) := rfl
      show tSeq _ _ _ [some (.ref l), some (.ref hl), some (.ref pm), some (.ref pl), v4, v5, v6, v7] H5
      generalize eh : (Sw.crS ss kk).1 = hh at ne HL z zh lt zft zt zo zf ez
      refine nx_step fun N hN => ?_
      refine seq_step fun R hR => ?_
      walk_at "rd"
      refine ⟨l, ps, ss, L, hl, hp, hh, rfl, SL5, HL, PL, zh, ne, fun ol op H6 s6 nol OL => hR _ _ ?_⟩
      have nol2 : ol ≠ pl := fun e => by rw [e, hpp] at nol; cases nol
      have HL := HL.same s6
      have hpm := s6 _ _ hpm
      have hpp := s6 _ _ hpp
      have PP : Paired (Pt4 ss (mn H6 pl)) pp (List.range kk) := Paired.mapP PP fun _ _ q => q.same (mn_mono s6)
      have s4 := s4.trans s6
      have SL6 := SL5.same s6
      clear s6 nol SL5
      have hpp6 := hpp
      have opl := tupsF_len OL.r
      rw [fr_len] at opl
      refine seq_step fun R hR => ?_
      walk_at "rd"
      refine ⟨⟨_, .of OL.hl⟩, fun fl hfl => ?_⟩
      refine comp_enum (xs := op.map V.ref) (fun m τ H' => ∃ v0 v1 es, τ = [v0, v1, some (.ref l)] ∧ Same H6 H' ∧ Lst fq H' fl es (fr m (Sw.falS ss hh))) ⟨none, none, [], rfl, same_new hfl, ⟨upd_same, .nil⟩⟩ (fun m τ H' _ ⟨_, _, _, _, s', _⟩ => .of (s' _ _ OL.hl)) ?_ ?_
      · rintro m y τ H7 p hy ⟨v0, v1, es, rfl, s7, L7⟩ hp'
        obtain ⟨px, hpx, rfl⟩ : ∃ p, op[m]? = some p ∧ V.ref p = y := by simpa using hy
        have hm : m < ss.length := by have := (List.getElem?_eq_some_iff.mp hpx).1; omega
        obtain ⟨q, hq, hq2⟩ := tupsF_get OL.r hpx
        rw [fr_get _ hm] at hq
        cases hq
        have el := tupsF_len L7.r
        rw [fr_len] at el
        have sn := same_new (o := .tup [.int m, .ref px]) hp'
        have s7 := s7.trans sn
        have L7 := L7.same sn
        refine ⟨p, _, rfl, .of upd_same, rfl, _, _, rfl, _, _, rfl, rfl, ?_⟩
        generalize upd H7 p (.tup [.int m, .ref px]) = H8 at s7 L7 ⊢
        clear sn hp'
        obtain ⟨p', pl', pr, _, xi, h1, h2, h3⟩ := (SL6.same s7).item hm
        simp only [tYes, if_true]
        walk_at "rd"
        refine ixL_at (.of (SL6.same s7).hl) xi ?_
        refine ixT_at (.of h1) rfl (ixT_at (.of h2) rfl ?_)
        refine ⟨px, pr, _, _, 1200, rfl, s7 _ _ hq2, h3, by decide, (zo m).mono (by decide), (zr m).mono (by decide), fun r fr1 => ?_⟩
        have ef : Sw.outS ss hh m - Sw.rtS ss m = Sw.falS ss hh m := rfl
        rw [ef]
        have n2 := same_new (o := .tup (fq (Sw.falS ss hh m))) fr1
        have L2 := L7.same n2
        have kt : ∀ b xs, upd H8 r (.tup (fq (Sw.falS ss hh m))) b = some (.tup xs) → upd (upd H8 r (.tup (fq (Sw.falS ss hh m)))) fl (.lst (es.map V.ref ++ [.ref r])) b = some (.tup xs) := fun b xs e => by
          rw [upd_ne (ne_of e L2.hl (by intro z; cases z))]; exact e
        refine ⟨_, L2.hl, line_lt (by rw [List.length_map]; omega), fun b o e => ?_, es ++ [r], ?_⟩
        · rw [upd_ne (ne_of_none e hfl)]; exact n2 _ _ (s7 _ _ e)
        · rw [fr_snoc]
          exact ⟨by rw [upd_same, List.map_append]; rfl, tupsF_snoc (kt _ _ upd_same) (tupsF_keep L2.r kt)⟩
      rintro τ H7 ⟨v0, v1, fp, rfl, s7, FL⟩
      rw [List.length_map, opl] at FL
      refine hR _ _ ?_
      have HL := HL.same s7
      have OL := OL.same s7
      have hpm := s7 _ _ hpm
      have hpp := s7 _ _ hpp
      have PP : Paired (Pt4 ss (mn H7 pl)) pp (List.range kk) := Paired.mapP PP fun _ _ q => q.same (mn_mono s7)
      have s4 := s4.trans s7
      have nfl : fl ≠ pl := fun e => by rw [e, hpp6] at hfl; cases hfl
      clear s7 hfl SL6
      refine seq_step fun R hR => ?_
      walk_at "rd"
      refine ⟨hl, hp, fl, fp, ss, L, hh, rfl, HL, FL, PL, zh, ne, fun pt H8 s8 hpt => hR _ _ ?_⟩
      have HL := HL.same s8
      have OL := OL.same s8
      have FL := FL.same s8
      have hpm := s8 _ _ hpm
      have hpp := s8 _ _ hpp
      have PP : Paired (Pt4 ss (mn H8 pl)) pp (List.range kk) := Paired.mapP PP fun _ _ q => q.same (mn_mono s8)
      have s4 := s4.trans s8
      clear s8
      refine seq_step fun R hR => ?_
      walk_at "rd"
      refine ⟨pm, pt, _, _, 1200, rfl, hpm, hpt, by decide, zm, zt, fun pa fa => hR _ _ ?_⟩
      have s9 := same_new (o := .tup (fq ((Sw.crS ss kk).2 + Sw.tmS ss hh))) fa
      have hpa : upd H8 pa (.tup (fq ((Sw.crS ss kk).2 + Sw.tmS ss hh))) pa = some (.tup (fq ((Sw.crS ss kk).2 + Sw.tmS ss hh))) := upd_same
      have HL := HL.same s9
      have OL := OL.same s9
      have FL := FL.same s9
      have hpm := s9 _ _ hpm
      have hpt := s9 _ _ hpt
      have hpp := s9 _ _ hpp
      have PP : Paired (Pt4 ss (mn (upd H8 pa (.tup (fq ((Sw.crS ss kk).2 + Sw.tmS ss hh)))) pl)) pp (List.range kk) := Paired.mapP PP fun _ _ q => q.same (mn_mono s9)
      have s4 := s4.trans s9
      generalize upd H8 pa (.tup (fq ((Sw.crS ss kk).2 + Sw.tmS ss hh))) = H9 at hpa HL OL FL hpm hpt hpp PP s4 ⊢
      clear s9 fa
      refine seq_step fun R hR => ?_
      walk_at "rd"
      refine ⟨tyL_at hpp, ?_⟩
      intro tp ftp
      have s10 := same_new (o := .tup [.ref pm, .ref pa, .ref ol, .ref hl]) ftp
      have htp : upd H9 tp (.tup [.ref pm, .ref pa, .ref ol, .ref hl]) tp = some (.tup [.ref pm, .ref pa, .ref ol, .ref hl]) := upd_same
      have HL := HL.same s10
      have OL := OL.same s10
      have FL := FL.same s10
      have hpm := s10 _ _ hpm
      have hpa := s10 _ _ hpa
      have hpt := s10 _ _ hpt
      have hpp := s10 _ _ hpp
      have PP : Paired (Pt4 ss (mn (upd H9 tp (.tup [.ref pm, .ref pa, .ref ol, .ref hl])) pl)) pp (List.range kk) := Paired.mapP PP fun _ _ q => q.same (mn_mono s10)
      have s4 := s4.trans s10
      generalize upd H9 tp (.tup [.ref pm, .ref pa, .ref ol, .ref hl]) = H10 at htp hpa HL OL FL hpm hpt hpp PP s4 ⊢
      clear s10 ftp
      have tn : ∀ {b xs}, H10 b = some (.tup xs) → b ≠ pl := fun e => ne_of e hpp (by intro z; cases z)
      have new : Pt4 ss (mn H10 pl) tp kk := ⟨pm, pa, ol, hl, op, hp, mn_at htp (tn htp), mn_at hpm (tn hpm), mn_at (by rw [hpa, ez]) (tn hpa), by rw [eh]; exact OL.mn hpp nol2, by rw [eh]; exact HL.mn hpp nhl⟩
      have PP2 : Paired (Pt4 ss (mn (upd H10 pl (.lst (pp.map V.ref ++ [.ref tp]))) pl)) (pp ++ [tp]) (List.range (kk + 1)) := by
        rw [mn_upd, List.range_succ]
        exact paired_snoc new PP
      have kl : ∀ {b o}, b ≠ pl → H10 b = some o → upd H10 pl (.lst (pp.map V.ref ++ [.ref tp])) b = some o := fun n e => by rw [upd_ne n]; exact e
      have kL : ∀ {x : Addr} {xs : List Addr} {qs : List Rat}, x ≠ pl → Lst fq H10 x xs qs → Lst fq (upd H10 pl (.lst (pp.map V.ref ++ [.ref tp]))) x xs qs := fun n L => ⟨kl n L.hl, tupsF_keep L.r fun b xs e => kl (tn e) e⟩
      refine app_at hpp (by rw [List.length_map]; omega) (hR _ _ ?_)
      have PP := PP2
      have HL := kL nhl HL
      have FL := kL nfl FL
      have hpa := kl (tn hpa) hpa
      have hpt := kl (tn hpt) hpt
      have hpp2 : upd H10 pl (.lst (pp.map V.ref ++ [.ref tp])) pl = some (.lst ((pp ++ [tp]).map V.ref)) := by rw [upd_same, List.map_append]; rfl
      have s4 : Same H3 (upd H10 pl (.lst (pp.map V.ref ++ [.ref tp]))) := fun b o e => kl (ne_of_none e hpl) (s4 _ _ e)
      generalize upd H10 pl (.lst (pp.map V.ref ++ [.ref tp])) = H11 at PP HL FL hpa hpt hpp2 s4 ⊢
      clear PP2 new kl kL tn htp OL hpm hpp hpp6
      have l1 := tupsF_len HL.r
      have l2 := tupsF_len FL.r
      rw [fr_len] at l1 l2
      refine seq_step fun R hR => ?_
      walk_at "rd"
      simp only [iZip]
      walk_at "rd"
      refine ⟨⟨_, .of HL.hl⟩, ⟨_, .of FL.hl⟩, fun nl hnl => ?_⟩
      refine comp_zip (xs := hp.map V.ref) (ys := fp.map V.ref) (fun m τ H' => ∃ v0 v1 es, τ = [v0, v1, some (.ref pt)] ∧ Same H11 H' ∧ Lst fq H' nl es (fr m (Sw.nxH ss hh))) ⟨none, none, [], rfl, same_new hnl, ⟨upd_same, .nil⟩⟩ (by rw [List.length_map, List.length_map]; omega) (fun m τ H' _ ⟨_, _, _, _, s', _⟩ => ⟨.of (s' _ _ HL.hl), .of (s' _ _ FL.hl)⟩) ?_ ?_
      · rintro m x y τ H12 p hx hy ⟨v0, v1, es, rfl, s12, L12⟩ hp'
        obtain ⟨px, hpx, rfl⟩ : ∃ p, hp[m]? = some p ∧ V.ref p = x := by simpa using hx
        obtain ⟨py, hpy, rfl⟩ : ∃ p, fp[m]? = some p ∧ V.ref p = y := by simpa using hy
        have hm : m < ss.length := by have := (List.getElem?_eq_some_iff.mp hpx).1; omega
        obtain ⟨q, hq, hq2⟩ := tupsF_get HL.r hpx
        rw [fr_get hh hm] at hq
        cases hq
        obtain ⟨q, hq, hq3⟩ := tupsF_get FL.r hpy
        rw [fr_get _ hm] at hq
        cases hq
        have el := tupsF_len L12.r
        rw [fr_len] at el
        have sn := same_new (o := .tup [.ref px, .ref py]) hp'
        have s12 := s12.trans sn
        have L12 := L12.same sn
        refine ⟨p, _, rfl, .of upd_same, rfl, _, _, rfl, _, _, rfl, rfl, ?_⟩
        generalize upd H12 p (.tup [.ref px, .ref py]) = H13 at s12 L12 ⊢
        clear sn hp'
        simp only [tYes, if_true]
        walk_at "rd"
        refine ⟨py, pt, _, _, 1200, rfl, s12 _ _ hq3, s12 _ _ hpt, by decide, (zf m).mono (by decide), zt, fun r1 f1 => ?_⟩
        have m1 := same_new (o := .tup (fq (Sw.falS ss hh m * Sw.tmS ss hh))) f1
        refine ⟨px, r1, _, _, 1200, rfl, m1 _ _ (s12 _ _ hq2), upd_same, by decide, zh m, zft m, fun r f2 => ?_⟩
        have ef : hh m - Sw.falS ss hh m * Sw.tmS ss hh = Sw.nxH ss hh m := rfl
        rw [ef]
        have n2 := m1.trans (same_new (o := .tup (fq (Sw.nxH ss hh m))) f2)
        have hr2 : upd (upd H13 r1 (.tup (fq (Sw.falS ss hh m * Sw.tmS ss hh)))) r (.tup (fq (Sw.nxH ss hh m))) r = some (.tup (fq (Sw.nxH ss hh m))) := upd_same
        have L2 := L12.same n2
        have s13 := s12.trans n2
        generalize upd (upd H13 r1 (.tup (fq (Sw.falS ss hh m * Sw.tmS ss hh)))) r (.tup (fq (Sw.nxH ss hh m))) = H14 at hr2 L2 s13 ⊢
        have kt : ∀ b xs, H14 b = some (.tup xs) → upd H14 nl (.lst (es.map V.ref ++ [.ref r])) b = some (.tup xs) := fun b xs e => by
          rw [upd_ne (ne_of e L2.hl (by intro z; cases z))]; exact e
        refine ⟨_, L2.hl, line_lt (by rw [List.length_map]; omega), fun b o e => ?_, es ++ [r], ?_⟩
        · rw [upd_ne (ne_of_none e hnl)]; exact s13 _ _ e
        · rw [fr_snoc]
          exact ⟨by rw [upd_same, List.map_append]; rfl, tupsF_snoc (kt _ _ hr2) (tupsF_keep L2.r kt)⟩
      rintro τ H12 ⟨v0, v1, np, rfl, s12, NL⟩
      rw [List.length_map, l1] at NL
      refine hR _ _ ?_
      walk_at "rd"
      refine hN _ _ ⟨(Sw.fullS ss (Sw.nxH ss hh)).length, by rw [← em, eh]; exact lt, kk + 1, nl, np, pa, pp ++ [tp], _, _, _, _, rfl, s4.trans s12, by rw [ez]; exact NL, by rw [ez]; exact s12 _ _ hpa, s12 _ _ hpp2, Paired.mapP PP fun _ _ q => q.same (mn_mono s12), fun j hj => ?_, (fun e => by rw [e, hpp2] at hnl; cases hnl), by rw [ez]⟩
      by_cases c : j = kk
      · subst c; rw [eh]; exact ne
      · exact go j (by omega)
def spGreatest : Sp := fun vs H Q _ => ∃ l ps qs, vs = [.ref l] ∧ Lst fq H l ps qs ∧ (∀ q ∈ qs, Sw.SzQ 1200 q) ∧ ∀ r H', Same H H' → H' r = some (.tup (fq (qs.foldl max 0))) → Q (.ref r) H'
theorem d_greatest (T : Txt K mg c_NoRatio) : Def P w K mg base (CXX P w) 3 "greatest" ["some"] spGreatest := by
  have D_ratio := d_ratio (P := P) (w := w) (base := base) T
  have D_greater := d_greater (P := P) (w := w) (base := base) T
  refine T.src_greatest.okN (k := 2) sc_greatest (fun vs H Q E h => ?_) (fun f cdv A outer s H vs Q E hr h => ?_)
  · obtain ⟨l, ps, qs, rfl, _⟩ := h
    rfl
  · obtain ⟨l, ps, qs, rfl, L, sz, k⟩ := h
    refine ⟨_, (pss_cons (ps_set (i := 1) sc_greatest.nd rfl (by first | exact Or.inl rfl | exact Or.inr rfl) (pe_callX D_ratio (hr.mono (by decide)) rfl passN (pa_cons pe_int (pa_cons pe_int pa_nil)))) (pss_cons (ps_for PassesOwn.never rfl (pi_listK K rfl (pv 0)) (pg_name (i := 2) sc_greatest.nd rfl (by first | exact Or.inl rfl | exact Or.inr rfl)) (pss_one (ps_set (i := 1) sc_greatest.nd rfl (by first | exact Or.inl rfl | exact Or.inr rfl) (pe_callX D_greater (hr.mono (by decide)) rfl passN (pa_cons (pv 1) (pa_cons (pv 2) pa_nil)))))) (pss_one (ps_ret (pv 1))))), ?_⟩
    show tSeq _ _ _ [some (.ref l), none, none] H
    refine seq_step fun R hR => ?_
    walk_at "rd"
    refine ⟨_, _, 70, rfl, by decide, Sw.Sz.r18 (by decide) (by decide), fun _ pm fm => hR _ _ ?_, fun z => absurd z (by decide)⟩
    rw [f01q]
    refine seq_step fun R hR => ?_
    refine for_step fun Z hZ => ?_
    walk_at "rd"
    have n1 := same_new (o := .tup (fq 0)) fm
    have z0 : Sw.SzQ 1200 0 := (Sw.SzQ.int (n := 0) (z := 4) (Sw.Sz.zero _)).mono (by decide)
    refine ⟨⟨_, .of (n1 _ _ L.hl)⟩, hZ _ _ ?_⟩
    refine for_list (K := K) (a := l) (xs := ps.map V.ref) (fun i σ H' => Same H H' ∧ ∃ x v, σ = [some (.ref l), some (.ref x), v] ∧ H' x = some (.tup (fq ((qs.take i).foldl max 0))) ∧ Sw.SzQ 1200 ((qs.take i).foldl max 0)) ⟨n1, pm, none, rfl, upd_same, z0⟩ (fun i σ H' _ q => .of (q.1 _ _ L.hl)) ?_ ?_
    · rintro i v σ H1 hv ⟨sm, x, v2, rfl, hx, zx⟩
      obtain ⟨p, hp, rfl⟩ : ∃ p, ps[i]? = some p ∧ V.ref p = v := by simpa using hv
      obtain ⟨q, hq, hp2⟩ := tupsF_get L.r hp
      have zq := sz q (List.mem_of_getElem? hq)
      show tAsg _ _ _ [some (.ref l), some (.ref x), some (.ref p)] H1
      refine nx_step fun R' hR' => ?_
      walk_at "rd"
      refine ⟨x, p, _, q, rfl, hx, sm _ _ hp2, zx.mono (by decide), zq.mono (by decide), fun r hr' => hR' _ _ ?_⟩
      have e : (qs.take (i + 1)).foldl max 0 = max ((qs.take i).foldl max 0) q := by rw [take_succ_of hq, List.foldl_append]; rfl
      refine ⟨sm.trans (same_new hr'), r, _, rfl, ?_, ?_⟩
      · rw [upd_same, e]
      · rw [e, Rat.max_def]; split
        · exact zq
        · exact zx
    · rintro σ H1 ⟨sm, x, v2, rfl, hx, _⟩
      refine hR _ _ ?_
      walk_at "rd"
      have ln := tupsF_len L.r
      rw [List.take_of_length_le (by rw [List.length_map, ln]; exact Nat.le_refl _)] at hx
      exact k x H1 sm hx
def spPiles : Sp := fun vs H Q _ => ∃ l ps ss L, vs = [.ref l] ∧ SnL H l ps ss ∧ Sw.Plan ss L ∧ ∀ cl cp m H', Same H H' → H cl = none → Lst fq H' cl cp (fr ss.length (pilS ss m)) → EndS ss m → Q (.ref cl) H'
theorem d_piles (T : Txt K mg c_NoRatio) : Def P w K mg base (CXX P w) 7 "piles" ["senders"] spPiles := by
  have D_course := d_course (P := P) (w := w) (base := base) T
  have D_greatest := d_greatest (P := P) (w := w) (base := base) T
  refine T.src_piles.okN (k := 6) sc_piles (fun vs H Q E h => ?_) (fun f cdv A outer s H vs Q E hr h => ?_)
  · obtain ⟨l, ps, ss, L, rfl, _⟩ := h
    rfl
  · obtain ⟨l, ps, ss, L, rfl, SL, PL, k⟩ := h
    refine ⟨_, (pss_cons (ps_set (i := 1) sc_piles.nd rfl (by first | exact Or.inl rfl | exact Or.inr rfl) (pe_callX D_course (hr.mono (by decide)) rfl passN (pa_cons (pv 0) pa_nil))) (pss_one (ps_ret (pe_lcC "number" ["number"] [("parts", 1)] rfl (by with_unfolding_all rfl) (fun _ => by with_unfolding_all rfl) (fun _ => by with_unfolding_all rfl) rfl (by decide +kernel) (by exact ⟨rfl, True.intro⟩) (by with_unfolding_all rfl) ⟨⟨rfl, rfl, rfl⟩, True.intro⟩ (by decide +kernel) (pi_range1 rfl T.no_range (pa_cons (pe_callB (call_lenK K rfl) rfl T.no_len boot_len (pa_cons (pv 0) pa_nil)) pa_nil)) (fun _ _ _ => (pg_name (i := 0) (show (["number", "parts"] : List Str).Nodup from by decide +kernel) rfl (by first | exact Or.inl rfl | exact Or.inr rfl) (Or.inl (show (("number" : Str) == ("number" : Str)) = true from by decide +kernel)))) (fun _ _ _ => pifs_nil) (fun _ _ _ => (pe_callX D_greatest (hr.mono (by decide)) rfl passN (pa_cons (pe_lc ["part"] [("number", 0)] rfl (by with_unfolding_all rfl) (by decide +kernel) rfl (by decide +kernel) (by exact ⟨rfl, True.intro⟩) (by with_unfolding_all rfl) ⟨⟨rfl, rfl, rfl⟩, True.intro⟩ (pi_listK K rfl (pv 1)) (fun _ _ _ => (pg_name (i := 0) (show (["part", "number"] : List Str).Nodup from by decide +kernel) rfl (by first | exact Or.inl rfl | exact Or.inr rfl))) (fun _ _ _ => pifs_nil) (fun _ _ _ => (pe_ix (ix_listK K rfl) (pe_ix (ix_tupK K rfl) (pv 0) pe_int (fun _ _ => rfl)) (pv 1) (fun _ _ => rfl)))) pa_nil))))))), ?_⟩
    show tSeq _ _ _ [some (.ref l), none] H
    have n8 := PL.n8
    have len := SL.len
    refine seq_step fun R hR => ?_
    walk_at "rd"
    refine ⟨l, ps, ss, L, rfl, SL, PL, fun cl cp m H1 s1 ncl CL en => hR _ _ ?_⟩
    have le := en.le
    have cpl := Paired.length CL.r
    rw [List.length_range] at cpl
    have SL1 := SL.same s1
    walk_at "rd"
    refine len_at (.of SL1.hl) ?_
    walk_at "rd"
    rw [List.length_map]
    refine ⟨by omega, by omega, fun Dl hDl => ?_⟩
    rw [Int.toNat_natCast]
    refine comp_range (fun i τ H' => ∃ v0 es, τ = [v0, some (.ref cl)] ∧ Same H1 H' ∧ Lst fq H' Dl es (fr i (pilS ss m))) ⟨none, [], rfl, same_new hDl, ⟨upd_same, .nil⟩⟩ ?_ ?_
    · rintro i τ H2 hi ⟨v0, es, rfl, s2, L2⟩
      rw [Int.zero_add]
      have esl := tupsF_len L2.r
      rw [fr_len] at esl
      walk_at "rd"
      simp only [tYes, if_true]
      walk_at "rd"
      have hi2 : i < ss.length := by omega
      refine ⟨⟨_, .of (s2 _ _ CL.hl)⟩, fun El hEl => ?_⟩
      refine comp_walk (xs := cp.map V.ref) (fun j τ H' => ∃ v fs, τ = [v, some (.int (i : Int))] ∧ Same H2 H' ∧ Lst fq H' El fs ((List.range j).map fun k => (Sw.crS ss k).1 i)) ⟨none, [], rfl, same_new hEl, ⟨upd_same, .nil⟩⟩ (fun j τ H' _ ⟨_, _, _, s', _⟩ => .of (s' _ _ (s2 _ _ CL.hl))) ?_ ?_
      · rintro j y τ H3 hy ⟨v, fs, rfl, s3, L3⟩
        obtain ⟨p, hp, rfl⟩ : ∃ p, cp[j]? = some p ∧ V.ref p = y := by simpa using hy
        have hj : j < m := by have := (List.getElem?_eq_some_iff.mp hp).1; omega
        obtain ⟨kk, hk, q4⟩ := paired_get CL.r hp
        rw [List.getElem?_range hj] at hk
        cases hk
        obtain ⟨pm, pa, po, ph, os, hs, h1, h2, h3, h4, h5⟩ := q4.same (s2.trans s3)
        obtain ⟨q, _, xq, hq⟩ := lst_item h5 hi2
        have fl := tupsF_len L3.r
        rw [List.length_map, List.length_range] at fl
        walk_at "rd"
        simp only [tYes, if_true]
        walk_at "rd"
        refine ixT_at (.of h1) rfl ?_
        refine ixL_at (.of h5.hl) xq ?_
        have kt : ∀ b xs, H3 b = some (.tup xs) → upd H3 El (.lst (fs.map V.ref ++ [.ref q])) b = some (.tup xs) := fun b xs e => by
          rw [upd_ne (ne_of e L3.hl (by intro z; cases z))]; exact e
        refine ⟨_, L3.hl, line_lt (by rw [List.length_map]; omega), fun b o e => ?_, fs ++ [q], ?_⟩
        · rw [upd_ne (ne_of_none e hEl)]; exact s3 _ _ e
        · rw [List.range_succ, List.map_append]
          exact ⟨by rw [upd_same, List.map_append]; rfl, tupsF_snoc (kt _ _ hq) (tupsF_keep L3.r kt)⟩
      rintro τ H3 ⟨v, fs, rfl, s3, L3⟩
      rw [List.length_map, cpl] at L3
      refine ⟨El, fs, _, rfl, L3, fun q hq => ?_, fun r H4 s4 hr4 => ?_⟩
      · obtain ⟨kk, hk, rfl⟩ := List.mem_map.mp hq
        exact (Sw.EndSz PL en (by have := List.mem_range.mp hk; omega)).2.1 i
      have s4 := s3.trans s4
      have L4 := L2.same s4
      have kt : ∀ b xs, H4 b = some (.tup xs) → upd H4 Dl (.lst (es.map V.ref ++ [.ref r])) b = some (.tup xs) := fun b xs e => by
        rw [upd_ne (ne_of e L4.hl (by intro z; cases z))]; exact e
      refine ⟨_, L4.hl, line_lt (by rw [List.length_map]; omega), fun b o e => ?_, es ++ [r], ?_⟩
      · rw [upd_ne (ne_of_none e hDl)]; exact s4 _ _ (s2 _ _ e)
      · rw [fr_snoc]
        exact ⟨by rw [upd_same, List.map_append]; rfl, tupsF_snoc (kt _ _ hr4) (tupsF_keep L4.r kt)⟩
    rintro τ H2 ⟨v0, es, rfl, s2, L2⟩
    rw [len] at L2
    exact k Dl es m H2 (s1.trans s2) (s1.free hDl) L2 en
def rmK (g : Nat → Int) (n : Nat) : List (Key × V) := (List.range n).map fun (i : Nat) => ((.inl (i : Int) : Key), V.int (g i))
theorem rmK_snoc (g : Nat → Int) (n : Nat) : rmK g (n + 1) = rmK g n ++ [((.inl (n : Int) : Key), V.int (g n))] := by unfold rmK; rw [List.range_succ, List.map_append]; rfl
theorem rmK_len (g : Nat → Int) (n : Nat) : (rmK g n).length = n := by unfold rmK; rw [List.length_map, List.length_range]
theorem rmK_new (g : Nat → Int) (n : Nat) : valV (rmK g n) ((.inl (n : Int) : Key)) = none := by
  cases e : valV (rmK g n) ((.inl (n : Int) : Key)) with
  | none => rfl
  | some v =>
    exfalso
    have := valV_in e
    obtain ⟨p, hp, z⟩ := List.mem_map.mp this
    obtain ⟨i, hi, rfl⟩ := List.mem_map.mp hp
    have := List.mem_range.mp hi
    injection z with z
    omega
def roomS (ss : List Sw.S3) (m : Nat) (n : Int) (i : Nat) : Int := (pilS ss m i + (n : Rat)).ceil
def spRooms : Sp := fun vs H Q _ => ∃ l ps ss L n, vs = [.ref l, .int n] ∧ SnL H l ps ss ∧ Sw.Plan ss L ∧ Sw.Sz 1000 n ∧ ∀ dl m H', Same H H' → H dl = none → H' dl = some (.dK (rmK (roomS ss m n) ss.length)) → EndS ss m → Q (.ref dl) H'
theorem d_rooms_for (T : Txt K mg c_NoRatio) : Def P w K mg base (CXX P w) 8 "rooms_for" ["senders", "longest"] spRooms := by
  have D_piles := d_piles (P := P) (w := w) (base := base) T
  have D_plus := d_plus (P := P) (w := w) (base := base) T
  have D_whole_above := d_whole_above (P := P) (w := w) (base := base) T
  refine T.src_rooms_for.okN (k := 7) sc_rooms_for (fun vs H Q E h => ?_) (fun f cdv A outer s H vs Q E hr h => ?_)
  · obtain ⟨l, ps, ss, L, n, rfl, _⟩ := h
    rfl
  · obtain ⟨l, ps, ss, L, n, rfl, SL, PL, zn, k⟩ := h
    refine ⟨_, (pss_cons (ps_set (i := 2) sc_rooms_for.nd rfl (by first | exact Or.inl rfl | exact Or.inr rfl) pe_dnewK) (pss_cons (ps_for PassesOwn.never rfl (pi_enumK K rfl rfl T.no_enumerate (pa_cons (pe_callX D_piles (hr.mono (by decide)) rfl passN (pa_cons (pv 0) pa_nil)) pa_nil)) (pg_tupK (n := 2) K rfl rfl (pgs_cons (pg_name (i := 3) sc_rooms_for.nd rfl (by first | exact Or.inl rfl | exact Or.inr rfl)) (pgs_cons (pg_name (i := 4) sc_rooms_for.nd rfl (by first | exact Or.inl rfl | exact Or.inr rfl)) pgs_nil))) (pss_one (ps_dput (hu_of hr) (pv 2) (pv 3) (pe_callX D_whole_above (hr.mono (by decide)) rfl passN (pa_cons (pe_callX D_plus (hr.mono (by decide)) rfl passN (pa_cons (pv 4) (pa_cons (pe_tup (pa_cons (pv 1) (pa_cons pe_int pa_nil))) pa_nil))) pa_nil)) rfl))) (pss_one (ps_ret (pv 2))))), ?_⟩
    show tSeq _ _ _ [some (.ref l), some (.int n), none, none, none] H
    have n8 := PL.n8
    refine seq_step fun R hR => ?_
    walk_at "rd"
    intro dl fdl
    refine hR _ _ ?_
    have s1 := same_new (o := .dK []) fdl
    have hdl : upd H dl (.dK []) dl = some (.dK []) := upd_same
    have SL := SL.same s1
    generalize upd H dl (.dK []) = H1 at s1 hdl SL ⊢
    refine seq_step fun R hR => ?_
    refine for_step fun Z hZ => ?_
    walk_at "rd"
    refine ⟨l, ps, ss, L, rfl, SL, PL, fun cl cp m H2 s2 ncl CL en => ?_⟩
    have cpl := tupsF_len CL.r
    rw [fr_len] at cpl
    have dc : dl ≠ cl := ne_of_none hdl ncl
    have hdl := s2 _ _ hdl
    have s1 := s1.trans s2
    refine ⟨cl, rfl, ⟨_, .of CL.hl⟩, hZ _ _ ?_⟩
    refine for_enum (xs := cp.map V.ref) (fun i σ H' => ∃ v3 v4, σ = [some (.ref l), some (.int n), some (.ref dl), v3, v4] ∧ (∀ b o, b ≠ dl → H2 b = some o → H' b = some o) ∧ H' dl = some (.dK (rmK (roomS ss m n) i))) ⟨none, none, rfl, fun _ _ _ e => e, hdl⟩ (fun i σ H' _ ⟨_, _, _, kp, _⟩ => .of (kp _ _ (Ne.symm dc) CL.hl)) ?_ ?_
    · rintro i y σ H3 p hy ⟨v3, v4, rfl, kp, hd⟩ hp'
      obtain ⟨px, hpx, rfl⟩ : ∃ p, cp[i]? = some p ∧ V.ref p = y := by simpa using hy
      have hi : i < ss.length := by have := (List.getElem?_eq_some_iff.mp hpx).1; omega
      obtain ⟨q, hq, hq2⟩ := tupsF_get CL.r hpx
      rw [fr_get _ hi] at hq
      cases hq
      have zp := pil_sz PL en hi
      have nd : px ≠ dl := ne_of hq2 hdl (by intro z; cases z)
      have sn := same_new (o := .tup [.int i, .ref px]) hp'
      have kp2 : ∀ b o, b ≠ dl → H2 b = some o → upd H3 p (.tup [.int i, .ref px]) b = some o := fun b o n e => sn _ _ (kp b o n e)
      have hd := sn _ _ hd
      refine ⟨p, _, rfl, .of upd_same, rfl, _, _, rfl, _, _, rfl, rfl, ?_⟩
      generalize upd H3 p (.tup [.int i, .ref px]) = H4 at kp2 hd ⊢
      clear sn hp' kp
      show sDPut _ _ _ _ [some (.ref l), some (.int n), some (.ref dl), some (.int i), some (.ref px)] H4
      refine nx_step fun N hN => ?_
      walk_at "rd"
      intro pn fpn
      have n1 := same_new (o := .tup [.int n, .int 1]) fpn
      refine ⟨px, pn, pilS ss m i, (n : Rat), 1200, rfl, n1 _ _ (kp2 _ _ nd hq2), at_int (n := n), by decide, zp, (Sw.SzQ.int (z := 999) zn).mono (by decide), fun r fr1 => ?_⟩
      have n2 := same_new (o := .tup (fq (pilS ss m i + (n : Rat)))) fr1
      refine ⟨r, _, rfl, upd_same, (zp.add ((Sw.SzQ.int (z := 999) zn).mono (show 1000 ≤ 1200 by decide))).mono (by decide), ?_⟩
      have n12 := n1.trans n2
      have hd := n12 _ _ hd
      have kp3 : ∀ b o, b ≠ dl → H2 b = some o → upd (upd H4 pn (.tup [.int n, .int 1])) r (.tup (fq (pilS ss m i + (n : Rat)))) b = some o := fun b o n e => n12 _ _ (kp2 b o n e)
      generalize upd (upd H4 pn (.tup [.int n, .int 1])) r (.tup (fq (pilS ss m i + (n : Rat)))) = H5 at hd kp3 ⊢
      have pu := DPut.k (k := (.inl (i : Int) : Key)) (v := V.int (roomS ss m n i)) hd (line_lt (by rw [rmK_len]; omega))
      rw [putK_new _ (rmK_new _ _), ← rmK_snoc] at pu
      refine ⟨_, pu, hN _ _ ⟨_, _, rfl, fun b o n e => ?_, upd_same⟩⟩
      rw [upd_ne n]; exact kp3 _ _ n e
    · rintro σ H3 ⟨v3, v4, rfl, kp, hd⟩
      rw [List.length_map, cpl] at hd
      refine hR _ _ ?_
      walk_at "rd"
      exact k dl m H3 (fun b o e => kp _ _ (ne_of_none e fdl) (s1 _ _ e)) fdl hd en
theorem d__law_mix (T : Txt K mg c_NoRatio) : Def P w K mg base (CXX P w) 1 "_law_mix" ["_law_cell", "_law_k"] spMix := by
  refine T.src__law_mix.okN (k := 0) sc__law_mix (fun vs H Q E h => ?_) (fun f cdv A outer s H vs Q E hr h => ?_)
  · obtain ⟨c, i, rfl, _⟩ := h
    rfl
  · obtain ⟨c, i, rfl, h0, h1, k⟩ := h
    refine ⟨_, (pss_cons (ps_set (i := 2) sc__law_mix.nd rfl (by first | exact Or.inl rfl | exact Or.inr rfl) (pe_op op_add (pe_op op_add (pe_op op_mod (pv 0) pe_int) (pe_op op_mulL pe_int (pv 1))) pe_int)) (pss_cons (ps_set (i := 2) sc__law_mix.nd rfl (by first | exact Or.inl rfl | exact Or.inr rfl) (pe_op op_mod (pe_op op_add (pe_op op_add (pe_op op_mulL (pv 2) (pv 2)) (pe_op op_mulL pe_int (pv 2))) pe_int) pe_int)) (pss_one (ps_ret (pe_op op_mod (pe_op op_add (pe_op op_add (pe_op op_mulL (pv 2) (pv 2)) (pe_op op_mulL pe_int (pv 2))) (pv 1)) pe_int))))), ?_⟩
    show tSeq _ _ _ [some (.int c), some (.int i), none] H
    refine seq_step fun R hR => ?_
    walk_at "rd"
    refine ⟨⟨Sw.Sz.lit (by decide), (Sw.Sz.r18 (by omega) (by omega)).mono (by decide)⟩, hR _ _ ?_⟩
    have e1 := Int.emod_nonneg c (show (2147483647 : Int) ≠ 0 by decide)
    have e2 := Int.emod_lt_of_pos c (show (0 : Int) < 2147483647 by decide)
    have z1 : Sw.Sz 70 (c % 2147483647 + 7919 * i + 1) := Sw.Sz.r18 (by omega) (by omega)
    generalize c % 2147483647 + 7919 * i + 1 = x at z1 ⊢
    refine seq_step fun R hR => ?_
    walk_at "rd"
    refine ⟨⟨z1.mono (by decide), z1.mono (by decide)⟩, ⟨Sw.Sz.lit (by decide), z1.mono (by decide)⟩, hR _ _ ?_⟩
    generalize hy : (x * x + 48271 * x + 11) % 2147483647 = y
    have e3 : 0 ≤ y := by rw [← hy]; exact Int.emod_nonneg _ (by decide)
    have e4 : y < 2147483647 := by rw [← hy]; exact Int.emod_lt_of_pos _ (by decide)
    have z2 : Sw.Sz 70 y := Sw.Sz.r18 (by omega) (by omega)
    walk_at "rd"
    exact ⟨⟨z2.mono (by decide), z2.mono (by decide)⟩, ⟨Sw.Sz.lit (by decide), z2.mono (by decide)⟩, k _ (Int.emod_nonneg _ (by decide)) (Int.emod_lt_of_pos _ (by decide))⟩
def spDv : Sp := fun vs H Q _ => ∃ a b, vs = [.int a, .int b] ∧ 0 ≤ b ∧ Q (.int (Sw.dv a b)) H
theorem d__law_divisor (T : Txt K mg c_NoRatio) : Def P w K mg base (CXX P w) 1 "_law_divisor" ["_law_one", "_law_other"] spDv := by
  refine T.src__law_divisor.okN (k := 0) sc__law_divisor (fun vs H Q E h => ?_) (fun f cdv A outer s H vs Q E hr h => ?_)
  · obtain ⟨a, b, rfl, _⟩ := h
    rfl
  · obtain ⟨a, b, rfl, h2, k⟩ := h
    refine ⟨_, (pss_cons (ps_while PassesOwn.never (pt_cmpR op_ne (pv 1) pe_int (nomark _)) (pss_one (ps_par (i := 0) (j := 1) rfl sc__law_divisor.nd rfl rfl (by decide) rfl rfl (pa_cons (pv 1) (pa_cons (pe_op op_mod (pv 0) (pv 1)) pa_nil)) (by with_unfolding_all rfl)))) (pss_one (ps_ret (pe_callB call_abs rfl T.no_abs boot_abs (pa_cons (pv 0) pa_nil))))), ?_⟩
    refine while_det (fun σ H' => H' = H ∧ ∃ g s, σ = [some (.int g), some (.int s)] ∧ 0 ≤ s ∧ Sw.dv g s = Sw.dv a b)
      (fun σ _ => match σ with | [_, some (.int s)] => s.toNat | _ => 0) ⟨rfl, _, _, rfl, h2, rfl⟩ ?_
    rintro σ H' ⟨rfl, g, s, rfl, hs, e⟩
    refine ⟨!decide (V.int s = V.int 0), fun Q hQ => ⟨_, rfl, rfl, _, rfl, hQ⟩, fun hb => ?_, fun hb => ?_⟩
    · have hs0 : s ≠ 0 := by intro z; subst z; simp at hb
      have hsp : 0 < s := by omega
      refine ⟨_, rfl, _, rfl, _, rfl, _, _, rfl, rfl, hsp, _, _, rfl, ?_⟩
      refine ⟨⟨rfl, s, g % s, rfl, Int.emod_nonneg g hs0, by rw [Sw.dv_step]; exact e⟩, ?_⟩
      show (g % s).toNat < s.toNat
      have := Int.emod_lt_of_pos g hsp
      have := Int.emod_nonneg g hs0
      omega
    · have hs0 : s = 0 := by
        have : V.int s = V.int 0 := by simpa using hb
        exact V.int.inj this
      subst hs0
      have e' : (if g < 0 then -g else g) = Sw.dv a b := by
        rw [← e]
        split
        · rw [← Sw.dv_negl, Sw.dv_zero _ (by omega)]
        · rw [Sw.dv_zero _ (by omega)]
      walk_at "rd"
      rw [e']
      exact k
def spSenders (K : PySem.W.Frag) : Sp := fun vs H Q _ => ∃ (a : Addr) (ns : List Int), vs = [.ref a] ∧ SqL K H a (ns.map V.int) ∧ ns.length ≤ 63 ∧ ∀ H' l ps ss L, Same H H' → H l = none → SnL H' l ps ss → Sw.Plan ss L → Q (.ref l) H'
theorem cut_len (xs : List V) (lo hi : Nat) : (cutV xs (some (lo : Int)) (some (hi : Int))).length ≤ hi - lo := by
  unfold cutV
  rw [HT.sIx_nat, HT.sIx_nat, List.length_take]
  omega
theorem cut_len0 (xs : List V) (hi : Nat) : (cutV xs none (some (hi : Int))).length ≤ hi := by
  unfold cutV
  rw [HT.sIx_nat, List.length_take]
  omega
theorem d__law_senders (T : Txt K mg c_NoRatio) : Def P w K mg base (CXX P w) 3 "_law_senders" ["_law_script"] (spSenders K) := by
  have D__law_mix := d__law_mix (P := P) (w := w) (base := base) T
  have D__law_cell_at := d__law_cell_at (P := P) (w := w) (base := base) T
  have D__law_divisor := d__law_divisor (P := P) (w := w) (base := base) T
  refine T.src__law_senders.okN (k := 2) sc__law_senders (fun vs H Q E h => ?_) (fun f cdv A outer s H vs Q E hr h => ?_)
  · obtain ⟨a, ns, rfl, _⟩ := h
    rfl
  · obtain ⟨a, ns, rfl, hS, hlen, k⟩ := h
    refine ⟨_, (pss_cons (ps_set (i := 1) sc__law_senders.nd rfl (by first | exact Or.inl rfl | exact Or.inr rfl) (pe_callX D__law_cell_at (hr.mono (by decide)) rfl passN (pa_cons (pv 0) (pa_cons pe_int pa_nil)))) (pss_cons (ps_set (i := 2) sc__law_senders.nd rfl (by first | exact Or.inl rfl | exact Or.inr rfl) (pe_op op_mod (pv 1) pe_int)) (pss_cons (ps_set (i := 3) sc__law_senders.nd rfl (by first | exact Or.inl rfl | exact Or.inr rfl) (pe_op op_add pe_int (pe_op op_mod (pe_callX D__law_mix (hr.mono (by decide)) rfl passN (pa_cons (pv 1) (pa_cons pe_int pa_nil))) (pe_ix (ix_listK K rfl) (pe_lst (pa_cons pe_int (pa_cons pe_int (pa_cons pe_int pa_nil)))) (pv 2) (fun _ _ => rfl))))) (pss_cons (ps_set (i := 4) sc__law_senders.nd rfl (by first | exact Or.inl rfl | exact Or.inr rfl) (pe_op op_sub (pv 3) pe_int)) (pss_cons (ps_set (i := 5) sc__law_senders.nd rfl (by first | exact Or.inl rfl | exact Or.inr rfl) (pe_lst pa_nil)) (pss_cons (ps_set (i := 6) sc__law_senders.nd rfl (by first | exact Or.inl rfl | exact Or.inr rfl) (pe_slice (sl_listK K rfl) (pv 0) (po_some pe_int) (po_some (pe_ix (ix_listK K rfl) (pe_lst (pa_cons pe_int (pa_cons pe_int (pa_cons pe_int pa_nil)))) (pv 2) (fun _ _ => rfl))))) (pss_cons (ps_set (i := 7) sc__law_senders.nd rfl (by first | exact Or.inl rfl | exact Or.inr rfl) (pe_cmpR op_eq (pe_op op_mod (pe_op op_fdivL (pv 1) pe_int) pe_int) pe_int (nomark _))) (pss_cons (ps_if (pt_val (pv 7)) (pss_one (ps_set (i := 6) sc__law_senders.nd rfl (by first | exact Or.inl rfl | exact Or.inr rfl) (pe_slice (sl_listK K rfl) (pv 6) po_none (po_some pe_int)))) pss_nil) (pss_cons (ps_for PassesOwn.never rfl (pi_listK K rfl (pv 6)) (pg_name (i := 8) sc__law_senders.nd rfl (by first | exact Or.inl rfl | exact Or.inr rfl)) (pss_cons (ps_set (i := 9) sc__law_senders.nd rfl (by first | exact Or.inl rfl | exact Or.inr rfl) (pe_op op_mod (pe_callX D__law_mix (hr.mono (by decide)) rfl passN (pa_cons (pv 8) (pa_cons pe_int pa_nil))) (pe_ix (ix_listK K rfl) (pe_lst (pa_cons pe_int (pa_cons (pe_op op_add pe_int (pe_op op_fdivL (pv 4) pe_int)) (pa_cons (pe_op op_add pe_int (pe_op op_fdivL (pv 4) pe_int)) (pa_cons (pe_op op_add pe_int (pv 4)) pa_nil))))) (pe_op op_mod (pv 8) pe_int) (fun _ _ => rfl)))) (pss_cons (ps_set (i := 4) sc__law_senders.nd rfl (by first | exact Or.inl rfl | exact Or.inr rfl) (pe_op op_sub (pv 4) (pv 9))) (pss_cons (ps_if (pt_val (pv 7)) (pss_cons (ps_set (i := 3) sc__law_senders.nd rfl (by first | exact Or.inl rfl | exact Or.inr rfl) (pe_op op_add pe_int (pe_op op_mod (pe_callX D__law_mix (hr.mono (by decide)) rfl passN (pa_cons (pv 8) (pa_cons pe_int pa_nil))) (pe_ix (ix_listK K rfl) (pe_lst (pa_cons pe_int (pa_cons pe_int (pa_cons pe_int pa_nil)))) (pv 2) (fun _ _ => rfl))))) (pss_one (ps_set (i := 9) sc__law_senders.nd rfl (by first | exact Or.inl rfl | exact Or.inr rfl) (pe_op op_mod (pe_callX D__law_mix (hr.mono (by decide)) rfl passN (pa_cons (pv 8) (pa_cons pe_int pa_nil))) (pe_op op_add pe_int (pe_op op_fdivL (pe_op op_sub (pv 3) pe_int) pe_int)))))) pss_nil) (pss_cons (ps_set (i := 10) sc__law_senders.nd rfl (by first | exact Or.inl rfl | exact Or.inr rfl) (pe_op op_add pe_int (pe_op op_mod (pe_op op_mulL (pe_callX D__law_mix (hr.mono (by decide)) rfl passN (pa_cons (pv 8) (pa_cons pe_int pa_nil))) pe_int) (pe_ix (ix_listK K rfl) (pe_lst (pa_cons pe_int (pa_cons (pe_op op_pow pe_int pe_int) (pa_cons (pe_op op_pow pe_int pe_int) pa_nil)))) (pv 2) (fun _ _ => rfl))))) (pss_cons (ps_set (i := 11) sc__law_senders.nd rfl (by first | exact Or.inl rfl | exact Or.inr rfl) (pe_op op_add pe_int (pe_op op_mod (pe_callX D__law_mix (hr.mono (by decide)) rfl passN (pa_cons (pv 8) (pa_cons pe_int pa_nil))) (pe_ix (ix_listK K rfl) (pe_lst (pa_cons pe_int (pa_cons pe_int (pa_cons pe_int pa_nil)))) (pv 2) (fun _ _ => rfl))))) (pss_cons (ps_set (i := 12) sc__law_senders.nd rfl (by first | exact Or.inl rfl | exact Or.inr rfl) (pe_callX D__law_divisor (hr.mono (by decide)) rfl passN (pa_cons (pv 9) (pa_cons (pv 3) pa_nil)))) (pss_one (ps_expr (pe_bm PySem.F.plainAttrs_list PySem.F.slot_list_append PySem.F.type_list_append mt_append (pv 5) (pa_cons (pe_tup (pa_cons (pv 11) (pa_cons (pe_tup (pa_cons (pv 10) (pa_cons (pe_tup (pa_cons (pe_op op_fdivS (pv 9) (pv 12)) (pa_cons (pe_op op_fdivS (pv 3) (pv 12)) pa_nil))) pa_nil))) pa_nil))) pa_nil))))))))))) (pss_one (ps_ret (pv 5)))))))))))), ?_⟩
    show tSeq _ _ _ [some (.ref a), none, none, none, none, none, none, none, none, none, none, none, none] H
    refine seq_step fun R hR => ?_
    walk_at "rd"
    refine spCell_of hS (by decide) (hR _ _ ?_)
    generalize cellI ns 0 = first
    refine seq_step fun R hR => ?_
    walk_at "rd"
    refine hR _ _ ?_
    generalize hw : first % 3 = way
    have w0 : 0 ≤ way ∧ way < 3 := by omega
    clear hw
    refine seq_step fun R hR => ?_
    walk_at "rd"
    refine ⟨_, _, rfl, by decide, by decide, fun m0 _ _ => ?_⟩
    intro q1 f1
    refine pickM [12, 1000, 1000] w0.1 w0.2 fun bm hm => ⟨_, rfl, bm, rfl, ?_, hR _ _ ?_⟩
    · simp only [List.mem_cons, List.not_mem_nil, or_false] at hm
      omega
    have b1 : 0 < bm ∧ bm ≤ 1000 := by
      simp only [List.mem_cons, List.not_mem_nil, or_false] at hm
      omega
    have s1 := same_new (o := .lst (([12, 1000, 1000] : List Int).map V.int)) f1
    generalize upd H q1 (.lst (([12, 1000, 1000] : List Int).map V.int)) = H1 at s1 ⊢
    have e0 := Int.emod_nonneg m0 (show bm ≠ 0 by omega)
    have e1 := Int.emod_lt_of_pos m0 b1.1
    generalize hb0 : 1 + m0 % bm = b0
    have b01 : 1 ≤ b0 ∧ b0 ≤ 1000 := by omega
    clear hb0 e0 e1 hm f1
    refine seq_step fun R hR => ?_
    walk_at "rd"
    refine hR _ _ ?_
    refine seq_step fun R hR => ?_
    walk_at "rd"
    intro l hl
    refine hR _ _ ?_
    have hl0 : H l = none := s1.free hl
    have s2 := same_new (o := .lst []) hl
    have hl2 : upd H1 l (.lst []) l = some (.lst []) := upd_same
    have sm2 := s1.trans s2
    generalize upd H1 l (.lst []) = H2 at hl2 sm2 ⊢
    clear s1 s2 hl
    refine seq_step fun R hR => ?_
    walk_at "rd"
    intro q2 f2
    refine pickM [9, 7, 6] w0.1 w0.2 fun hi hm => ⟨hi, rfl, ?_⟩
    have b2 : 1 ≤ hi ∧ hi ≤ 9 := by
      simp only [List.mem_cons, List.not_mem_nil, or_false] at hm
      omega
    have n2 := same_new (o := .lst (([9, 7, 6] : List Int).map V.int)) f2
    have hl2 := n2 _ _ hl2
    have sm2 := sm2.trans n2
    generalize upd H2 q2 (.lst (([9, 7, 6] : List Int).map V.int)) = H3 at hl2 sm2 ⊢
    clear n2 f2 hm
    obtain ⟨ms, em, hm2⟩ := cutV_ints ns (some 1) (some hi)
    have lms : ms.length ≤ 8 := by
      have e := cut_len (ns.map V.int) 1 hi.toNat
      have e1 : ((hi.toNat : Nat) : Int) = hi := by omega
      rw [e1] at e
      have e2 : cutV (ns.map V.int) (some ((1 : Nat) : Int)) (some hi) = ms.map V.int := em
      rw [e2, List.length_map] at e
      omega
    refine slL_at (sm2.seq hS) fun p hp => hR _ _ ?_
    have npl : p ≠ l := fun z => by rw [z, hl2] at hp; cases hp
    have n3 := same_new (o := .lst (cutV (ns.map V.int) (some 1) (some hi))) hp
    have hl3 := n3 _ _ hl2
    have sm3 := sm2.trans n3
    have hp3 : upd H3 p (.lst (cutV (ns.map V.int) (some 1) (some hi))) p = some (.lst (ms.map V.int)) := by rw [upd_same, em]
    generalize upd H3 p (.lst (cutV (ns.map V.int) (some 1) (some hi))) = H4 at hl3 sm3 hp3 ⊢
    clear n3 hp hl2 sm2 em
    refine seq_step fun R hR => ?_
    walk_at "rd"
    refine hR _ _ ?_
    generalize decide (first / 3 % 3 = 2) = ow
    refine seq_step fun R hR => ?_
    have body : ∀ p (ms : List Int) H4, p ≠ l → Same H H4 → H4 p = some (.lst (ms.map V.int)) → H4 l = some (.lst []) → ms.length ≤ 8 → (ow = true → ms.length ≤ 4) → R [some (.ref a), some (.int first), some (.int way), some (.int b0), some (.int (b0 - 1)), some (.ref l), some (.ref p), some (.bl ow), none, none, none, none, none] H4 := by
      clear hp3 hl3 sm3 npl lms
      intro p ms H4 npl sm4 hp4 hl4 lm8 lm4
      refine hR _ _ ?_
      refine seq_step fun R hR => ?_
      refine for_step fun Z hZ => ?_
      walk_at "rd"
      refine ⟨⟨_, .of hp4⟩, hZ _ _ ?_⟩
      refine for_list (K := K) (a := p) (xs := ms.map V.int) (fun i σ H' => ∃ b left ps ss v8 v9 v10 v11 v12, σ = [some (.ref a), some (.int first), some (.int way), some (.int b), some (.int left), some (.ref l), some (.ref p), some (.bl ow), v8, v9, v10, v11, v12] ∧ Same H H' ∧ H' p = some (.lst (ms.map V.int)) ∧ SnL H' l ps ss ∧ ss.length = i ∧ Sw.Snd ow b left ss ∧ 1 ≤ b ∧ b ≤ 1000 ∧ 0 ≤ left) ⟨b0, b0 - 1, [], [], none, none, none, none, none, rfl, sm4, hp4, ⟨hl4, .nil⟩, rfl, Sw.Snd.nil b01.1, b01.1, b01.2, by omega⟩ (fun i σ H' _ ⟨_, _, _, _, _, _, _, _, _, _, _, h, _⟩ => .of h) ?_ ?_
      · rintro i x σ H5 hx ⟨b, left, ps, ss, v8, v9, v10, v11, v12, rfl, sm5, hp5, SL, hi, sd, bb1, bb2, l0⟩
        obtain ⟨c, hc, rfl⟩ : ∃ c, ms[i]? = some c ∧ V.int c = x := by simpa using hx
        have hil : i < ms.length := (List.getElem?_eq_some_iff.mp hc).1
        show tSeq _ _ _ [some (.ref a), some (.int first), some (.int way), some (.int b), some (.int left), some (.ref l), some (.ref p), some (.bl ow), some (.int c), v9, v10, v11, v12] H5
        refine nx_step fun N hN => ?_
        refine seq_step fun R hR => ?_
        walk_at "rd"
        refine ⟨_, _, rfl, by decide, by decide, fun m1 m10 m11 => ?_⟩
        intro q3 f3
        refine pickM [1, 1 + left / 3, 1 + left / 2, 1 + left] (by omega) (by show c % 4 < 4; omega) fun z hz => ⟨_, rfl, z, rfl, ?_, hR _ _ ?_⟩
        · simp only [List.mem_cons, List.not_mem_nil, or_false] at hz
          omega
        have z1 : 0 < z ∧ z ≤ 1 + left := by
          simp only [List.mem_cons, List.not_mem_nil, or_false] at hz
          omega
        have n5 := same_new (o := .lst (([1, 1 + left / 3, 1 + left / 2, 1 + left] : List Int).map V.int)) f3
        have SL := SL.same n5
        have hp5 := n5 _ _ hp5
        have sm5 := sm5.trans n5
        generalize upd H5 q3 (.lst (([1, 1 + left / 3, 1 + left / 2, 1 + left] : List Int).map V.int)) = H6 at SL hp5 sm5 ⊢
        clear n5 f3 hz
        have t0 := Int.emod_nonneg m1 (show z ≠ 0 by omega)
        have t1 := Int.emod_lt_of_pos m1 z1.1
        generalize m1 % z = top at t0 t1 ⊢
        refine seq_step fun R hR => ?_
        walk_at "rd"
        refine hR _ _ ?_
        refine seq_step fun R hR => ?_
        have rest : ∀ (b' t' : Int) (H6 : Hp), 1 ≤ b' → b' ≤ 1000 → (∀ sh bu : Int, 1 ≤ sh ∧ sh ≤ 1000 → 1 ≤ bu ∧ bu ≤ 1000000000000 → Sw.Snd ow b' (left - top) (ss ++ [(sh, bu, (t' : Rat) / (b' : Rat))])) → Same H H6 → H6 p = some (.lst (ms.map V.int)) → SnL H6 l ps ss → R [some (.ref a), some (.int first), some (.int way), some (.int b'), some (.int (left - top)), some (.ref l), some (.ref p), some (.bl ow), some (.int c), some (.int t'), v10, v11, v12] H6 := by
          intro b' t' H6 c1 c2 sd' sm6 hp6 SL
          refine hR _ _ ?_
          refine seq_step fun R hR => ?_
          walk_at "rd"
          refine ⟨_, _, rfl, by decide, by decide, fun m2 m20 m21 => ?_⟩
          walk_at "rd"
          refine ⟨⟨(Sw.Sz.r18 (by omega) (by omega)).mono (by decide), Sw.Sz.lit (by decide)⟩, ?_⟩
          intro q4 f4
          refine pickM [20, 1000000, 1000000000000] w0.1 w0.2 fun z hz => ⟨z, rfl, ?_, hR _ _ ?_⟩
          · simp only [List.mem_cons, List.not_mem_nil, or_false] at hz
            omega
          have z1 : 0 < z ∧ z ≤ 1000000000000 := by
            simp only [List.mem_cons, List.not_mem_nil, or_false] at hz
            omega
          have n5 := same_new (o := .lst (([20, 1000000, 1000000000000] : List Int).map V.int)) f4
          have SL := SL.same n5
          have hp6 := n5 _ _ hp6
          have sm6 := sm6.trans n5
          generalize upd H6 q4 (.lst (([20, 1000000, 1000000000000] : List Int).map V.int)) = H7 at SL hp6 sm6 ⊢
          clear n5 f4 hz
          have u0 := Int.emod_nonneg (m2 * 467) (show z ≠ 0 by omega)
          have u1 := Int.emod_lt_of_pos (m2 * 467) z1.1
          generalize hbu : 1 + m2 * 467 % z = bu
          have bu1 : 1 ≤ bu ∧ bu ≤ 1000000000000 := by omega
          clear hbu u0 u1
          refine seq_step fun R hR => ?_
          walk_at "rd"
          refine ⟨_, _, rfl, by decide, by decide, fun m3 m30 m31 => ?_⟩
          intro q5 f5
          refine pickM [9, 50, 1000] w0.1 w0.2 fun z hz => ⟨_, rfl, z, rfl, ?_, hR _ _ ?_⟩
          · simp only [List.mem_cons, List.not_mem_nil, or_false] at hz
            omega
          have z1 : 0 < z ∧ z ≤ 1000 := by
            simp only [List.mem_cons, List.not_mem_nil, or_false] at hz
            omega
          have n5 := same_new (o := .lst (([9, 50, 1000] : List Int).map V.int)) f5
          have SL := SL.same n5
          have hp6 := n5 _ _ hp6
          have sm6 := sm6.trans n5
          generalize upd H7 q5 (.lst (([9, 50, 1000] : List Int).map V.int)) = H8 at SL hp6 sm6 ⊢
          clear n5 f5 hz
          have u0 := Int.emod_nonneg m3 (show z ≠ 0 by omega)
          have u1 := Int.emod_lt_of_pos m3 z1.1
          generalize hsh : 1 + m3 % z = sh
          have sh1 : 1 ≤ sh ∧ sh ≤ 1000 := by omega
          clear hsh u0 u1
          refine seq_step fun R hR => ?_
          walk_at "rd"
          refine ⟨t', b', rfl, by omega, hR _ _ ?_⟩
          have hg : 0 < Sw.dv t' b' := Sw.dv_pos (by omega)
          have hz : Sw.Sz 5000 (Sw.dv t' b') := (show Sw.Sz 5000 b' from (Sw.Sz.r18 (by omega) (by omega)).mono (by decide)).dvd (Sw.dv_r t' b') (by omega)
          walk_at "rd"
          refine ⟨tyL_at SL.hl, ?_⟩
          refine ⟨⟨by omega, hz⟩, ⟨by omega, hz⟩, fun r fr1 => ?_⟩
          rw [Int.fdiv_eq_ediv_of_nonneg _ (by omega), Int.fdiv_eq_ediv_of_nonneg _ (by omega), fq_low (by omega : 0 < b')]
          intro pl fpl
          intro pt fpt
          have n7 := (same_new (o := .tup [.int bu, .ref r]) fpl).trans (same_new (o := .tup [.int sh, .ref pl]) fpt)
          have n6 := (same_new (o := .tup (fq ((t' : Rat) / (b' : Rat)))) fr1).trans n7
          have hpt := upd_same (H := upd (upd H8 r (.tup (fq ((t' : Rat) / (b' : Rat))))) pl (.tup [.int bu, .ref r])) (a := pt) (o := .tup [.int sh, .ref pl])
          have hpl' := same_new (o := .tup [.int sh, .ref pl]) fpt _ _ (upd_same (H := upd H8 r (.tup (fq ((t' : Rat) / (b' : Rat))))) (a := pl) (o := .tup [.int bu, .ref r]))
          have hr' := n7 _ _ (upd_same (H := H8) (a := r) (o := .tup (fq ((t' : Rat) / (b' : Rat)))))
          have SL := SL.same n6
          have hp6 := n6 _ _ hp6
          have sm6 := sm6.trans n6
          generalize upd (upd (upd H8 r (.tup (fq ((t' : Rat) / (b' : Rat))))) pl (.tup [.int bu, .ref r])) pt (.tup [.int sh, .ref pl]) = H9 at hpt hpl' hr' SL hp6 sm6 ⊢
          clear n6 n7 fr1 fpl fpt
          have psl := SL.len
          have kt : ∀ b xs, H9 b = some (.tup xs) → upd H9 l (.lst (ps.map V.ref ++ [.ref pt])) b = some (.tup xs) := fun b xs e => by
            rw [upd_ne (ne_of e SL.hl (by intro z; cases z))]; exact e
          refine app_at SL.hl (by rw [List.length_map]; omega) (hN _ _ ⟨b', left - top, ps ++ [pt], ss ++ [(sh, bu, (t' : Rat) / (b' : Rat))], _, _, _, _, _, rfl, fun b o e => ?_, ?_, ⟨?_, paired_snoc ⟨pl, r, kt _ _ hpt, kt _ _ hpl', kt _ _ hr'⟩ (Paired.mapP SL.r fun _ _ z => z.keep kt)⟩, by rw [List.length_append, hi]; rfl, sd' sh bu sh1 bu1, c1, c2, by omega⟩)
          · rw [upd_ne (ne_of_none e hl0)]; exact sm6 _ _ e
          · rw [upd_ne npl]; exact hp6
          · rw [upd_same, List.map_append]; rfl
        walk_at "rd"
        refine ite2 (fun co => ?_) fun co => ?_
        · subst co
          refine seq_step fun R2 hR2 => ?_
          walk_at "rd"
          refine ⟨_, _, rfl, by decide, by decide, fun m5 m50 m51 => ?_⟩
          intro q6 f6
          refine pickM [9, 96, 996] w0.1 w0.2 fun z hz => ⟨_, rfl, z, rfl, ?_, hR2 _ _ ?_⟩
          · simp only [List.mem_cons, List.not_mem_nil, or_false] at hz
            omega
          have z2 : 0 < z ∧ z ≤ 996 := by
            simp only [List.mem_cons, List.not_mem_nil, or_false] at hz
            omega
          have n5 := same_new (o := .lst (([9, 96, 996] : List Int).map V.int)) f6
          have SL := SL.same n5
          have hp5 := n5 _ _ hp5
          have sm5 := sm5.trans n5
          generalize upd H6 q6 (.lst (([9, 96, 996] : List Int).map V.int)) = H7 at SL hp5 sm5 ⊢
          clear n5 f6 hz
          have u0 := Int.emod_nonneg m5 (show z ≠ 0 by omega)
          have u1 := Int.emod_lt_of_pos m5 z2.1
          generalize hbo : 4 + m5 % z = bo
          have bo1 : 4 ≤ bo ∧ bo ≤ 999 := by omega
          clear hbo u0 u1
          walk_at "rd"
          refine ⟨_, _, rfl, by decide, by decide, fun m6 m60 m61 => ?_⟩
          walk_at "rd"
          have v0 := Int.emod_nonneg m6 (show 1 + (bo - 1) / 4 ≠ 0 by omega)
          have v1 := Int.emod_lt_of_pos m6 (show 0 < 1 + (bo - 1) / 4 by omega)
          refine ⟨by omega, rest bo (m6 % (1 + (bo - 1) / 4)) H7 (by omega) (by omega) (fun sh bu h1 h2 => sd.ow_snoc ⟨by omega, by omega⟩ v0 (by omega) h1 h2 bo) sm5 hp5 SL⟩
        · have co : ow = false := by cases ow <;> simp_all
          subst co
          exact rest b top H6 bb1 bb2 (fun sh bu h1 h2 => sd.no_snoc bb1 t0 h1 h2) sm5 hp5 SL
      · rintro σ H5 ⟨b, left, ps, ss, v8, v9, v10, v11, v12, rfl, sm5, hp5, SL, hi, sd, bb1, bb2, l0⟩
        refine hR _ _ ?_
        rw [List.length_map] at hi
        obtain ⟨L, PL⟩ := sd.plan ⟨bb1, bb2⟩ l0 (by omega) (fun z => by have := lm4 z; omega)
        walk_at "rd"
        exact k _ l ps ss L sm5 hl0 SL PL
    walk_at "rd"
    refine ite2 (fun c => ?_) fun c => body p ms H4 npl sm3 hp3 hl3 lms (fun z => absurd z c)
    walk_at "rd"
    obtain ⟨ms', em, _⟩ := cutV_ints ms none (some 4)
    have lms' : ms'.length ≤ 4 := by
      have e := cut_len0 (ms.map V.int) 4
      have e2 : cutV (ms.map V.int) none (some ((4 : Nat) : Int)) = ms'.map V.int := em
      rw [e2, List.length_map] at e
      exact e
    refine slL_at (.of hp3) fun p' hp' => ?_
    have n4 := same_new (o := .lst (cutV (ms.map V.int) none (some 4))) hp'
    have npl' : p' ≠ l := fun z => by rw [z, hl3] at hp'; cases hp'
    exact body p' ms' _ npl' (sm3.trans n4) (by rw [upd_same, em]) (n4 _ _ hl3) (by omega) (fun _ => lms')
theorem d__law_whole (T : Txt K mg c_NoRatio) : Def P w K mg base (CXX P w) 1 "_law_whole" ["_law_found"] spWhole := by
  refine T.src__law_whole.okN (k := 0) sc__law_whole (fun vs H Q E h => ?_) (fun f cdv A outer s H vs Q E hr h => ?_)
  · obtain ⟨n, rfl, _⟩ := h
    rfl
  · obtain ⟨n, rfl, k⟩ := h
    refine ⟨_, (pss_one (ps_ret (pe_and (pe_callB (call_isinstK K rfl) rfl T.no_isinstance boot_isinstance (pa_cons (pv 0) (pa_cons (pe_bltn (v := .ty "int") rfl T.no_int boot_int rfl) pa_nil))) (pe_one (pe_not (pe_callB (call_isinstK K rfl) rfl T.no_isinstance boot_isinstance (pa_cons (pv 0) (pa_cons (pe_bltn (v := .ty "bool") rfl T.no_bool boot_bool rfl) pa_nil)))))))), ?_⟩
    refine ⟨_, rfl, _, _, _, _, true, rfl, rfl, .int n, kit_int_int, true, rfl, ?_⟩
    refine iteT ?_
    exact ⟨_, rfl, _, _, _, _, false, rfl, rfl, .int n, kit_int_bool, false, rfl, k⟩
theorem kit_dict {K : PySem.W.Frag} : PySem.W.kitOne K (.type "dict") (.type "dict") = some true := by rfl
theorem q_int {k : Int} {p : Rat} : (k : Rat) < p ↔ k * (p.den : Int) < p.num := by
  have h := Sw.q_lt (a := (k : Rat)) (b := p)
  have e1 : ((((k : Rat)).den : Nat) : Int) = 1 := by rw [Rat.den_intCast]; rfl
  rw [e1, Rat.num_intCast, Int.mul_one] at h
  exact h.symm
theorem ceil_two (x : Rat) : ¬ x.ceil * (x.den : Int) < x.num ∧ (x.ceil - 1) * (x.den : Int) < x.num := by
  have d0 : 0 < (x.den : Int) := by have := x.den_pos; omega
  have e : x.ceil = -((-x.num) / (x.den : Int)) := by
    rw [Rat.ceil_eq_neg_floor_neg, Rat.floor_def, Rat.neg_num, Rat.neg_den]
  have h1 := Int.emod_nonneg (-x.num) (show (x.den : Int) ≠ 0 by omega)
  have h2 := Int.emod_lt_of_pos (-x.num) d0
  have h3 := Int.mul_ediv_add_emod (-x.num) (x.den : Int)
  rw [e]
  generalize (-x.num) / (x.den : Int) = c at *
  generalize (-x.num) % (x.den : Int) = r at *
  generalize (x.den : Int) = d at *
  have e1 : -c * d = -(d * c) := by rw [Int.neg_mul, Int.mul_comm]
  have e2 : (-c - 1) * d = -(d * c) - d := by rw [Int.sub_mul, e1, Int.one_mul]
  rw [e1, e2]
  constructor <;> omega
theorem ceil_add (p : Rat) (n : Int) : (p + (n : Rat)).ceil - n = p.ceil := by
  obtain ⟨a1, a2⟩ := ceil_two p
  obtain ⟨b1, b2⟩ := ceil_two (p + (n : Rat))
  rw [← q_int] at a1 a2 b1 b2
  have c1 : ¬ (((p + (n : Rat)).ceil - n : Int) : Rat) < p := by rw [Rat.intCast_sub]; intro z; exact b1 (by grind)
  have c2 : (((p + (n : Rat)).ceil - n - 1 : Int) : Rat) < p := by
    rw [Rat.intCast_sub] at b2
    rw [Rat.intCast_sub, Rat.intCast_sub]; grind
  generalize (p + (n : Rat)).ceil - n = a at *
  generalize p.ceil = b at *
  have h1 : ((a - 1 : Int) : Rat) < (b : Rat) := by grind
  have h2 : ((b - 1 : Int) : Rat) < (a : Rat) := by grind
  rw [Rat.intCast_lt_intCast] at h1 h2
  omega
theorem ceil_abs (x : Rat) : x.ceil.natAbs ≤ x.num.natAbs := by
  obtain ⟨a1, a2⟩ := ceil_two x
  have d0 : 0 < (x.den : Int) := by have := x.den_pos; omega
  generalize x.ceil = c at *
  generalize x.num = u at *
  generalize (x.den : Int) = d at *
  by_cases h : 1 ≤ c
  · have : (c - 1) * 1 ≤ (c - 1) * d := Int.mul_le_mul_of_nonneg_left (by omega) (by omega)
    omega
  · have : c * d ≤ c * 1 := Int.mul_le_mul_of_nonpos_left (by omega) (by omega)
    omega
theorem ints_deep {K : PySem.W.Frag} {H : Hp} : ∀ (ns : List Int), DeepAll K H (ns.map V.int) (ns.map PyData.int)
  | [] => .nil
  | _ :: r => .cons (.int _) (ints_deep r)
theorem shaped_ints (ns : List Int) : PySem.SeqAt.shaped (.list (ns.map PyData.int)) = true := shaped_list (n := 1) (fun _ => rfl) (fun _ => by simp [PyData.depth]) (by decide) ns
theorem natI_map (l : List Nat) : l.map natI = (l.map fun i : Nat => (i : Int)).map V.int := by rw [List.map_map]; rfl
theorem keys_rm (g : Nat → Int) (n : Nat) : (rmK g n).map (fun kv => kV kv.1) = ((List.range n).map fun i : Nat => (i : Int)).map V.int := by
  unfold rmK
  rw [List.map_map, List.map_map]
  rfl
theorem sorted_rng {n : Nat} {ns : List Int} (h : ns.Perm ((List.range n).map fun i : Nat => (i : Int))) (hs : ns.Pairwise (· ≤ ·)) : ns = (List.range n).map fun i : Nat => (i : Int) := by
  refine List.Perm.eq_of_pairwise (le := (· ≤ ·)) (fun a b _ _ h1 h2 => Int.le_antisymm h1 h2) hs ?_ h
  rw [List.pairwise_map]
  exact List.Pairwise.imp (fun h => by omega) List.pairwise_lt_range
def spRight : Sp := fun vs H Q _ => ∃ dl hl hp ss L m n, vs = [.ref dl, .ref hl, .int n] ∧ H dl = some (.dK (rmK (roomS ss m n) ss.length)) ∧ Lst fq H hl hp (fr ss.length (pilS ss m)) ∧ Sw.Plan ss L ∧ EndS ss m ∧ ∀ H', Same H H' → Q (.bl true) H'
theorem d__law_right (T : Txt K mg c_NoRatio) : Def P w K mg base (CXX P w) 2 "_law_right" ["_law_found", "_law_heights", "_law_long"] spRight := by
  have D__law_whole := d__law_whole (P := P) (w := w) (base := base) T
  refine T.src__law_right.okN (k := 1) sc__law_right (fun vs H Q E h => ?_) (fun f cdv A outer s H vs Q E hr h => ?_)
  · obtain ⟨dl, hl, hp, ss, L, m, n, rfl, _⟩ := h
    rfl
  · obtain ⟨dl, hl, hp, ss, L, m, n, rfl, hd, HL, PL, en, k⟩ := h
    refine ⟨_, (pss_cons (ps_if (PW.pt (pw_or (pt_not (pt_val (pe_callB (call_isinstK K rfl) rfl T.no_isinstance boot_isinstance (pa_cons (pv 0) (pa_cons (pe_bltn (v := .ty "dict") rfl T.no_dict boot_dict rfl) pa_nil))))) (pw_or1 (pt_cmpR (op_neDK K rfl hr.units) (pe_sortK rfl (pv 0) rfl T.no_sorted) (pe_listRange rfl rfl T.no_list rfl T.no_range (pa_cons (pe_callB (call_lenK K rfl) rfl T.no_len boot_len (pa_cons (pv 1) pa_nil)) pa_nil)) (nomark _))))) (pss_one (ps_ret pe_bl)) pss_nil) (pss_cons (ps_forI PassesOwn.never rfl (pv 0) (pg_tupK (n := 2) K rfl rfl (pgs_cons (pg_name (i := 3) sc__law_right.nd rfl (by first | exact Or.inl rfl | exact Or.inr rfl)) (pgs_cons (pg_name (i := 4) sc__law_right.nd rfl (by first | exact Or.inl rfl | exact Or.inr rfl)) pgs_nil))) (pss_cons (ps_if (PW.pt (pw_or (pt_not (pt_val (pe_callX D__law_whole (hr.mono (by decide)) rfl passN (pa_cons (pv 3) pa_nil)))) (pw_or1 (pt_not (pt_val (pe_callX D__law_whole (hr.mono (by decide)) rfl passN (pa_cons (pv 4) pa_nil))))))) (pss_one (ps_ret pe_bl)) pss_nil) (pss_cons (ps_asg (pe_ix (ix_listK K rfl) (pv 1) (pv 3) (fun _ _ => rfl)) (pg_tupK (n := 2) K rfl rfl (pgs_cons (pg_name (i := 5) sc__law_right.nd rfl (by first | exact Or.inl rfl | exact Or.inr rfl)) (pgs_cons (pg_name (i := 6) sc__law_right.nd rfl (by first | exact Or.inl rfl | exact Or.inr rfl)) pgs_nil)))) (pss_one (ps_if (PW.pt (pw_or (pt_cmpR op_lt (pe_op op_mulL (pe_op op_sub (pv 4) (pv 2)) (pv 6)) (pv 5) (nomark _)) (pw_or1 (pt_cmpR op_ge (pe_op op_mulL (pe_op op_sub (pe_op op_sub (pv 4) (pv 2)) pe_int) (pv 6)) (pv 5) (nomark _))))) (pss_one (ps_ret pe_bl)) pss_nil))))) (pss_one (ps_ret pe_bl)))), ?_⟩
    show tSeq _ _ _ [some (.ref dl), some (.ref hl), some (.int n), none, none, none, none] H
    have n8 := PL.n8
    have hpl := tupsF_len HL.r
    rw [fr_len] at hpl
    refine seq_step fun R hR => ?_
    walk_at "rd"
    refine ⟨_, _, _, _, true, rfl, rfl, .dK hd, kit_dict, ?_⟩
    walk_at "rd"
    refine ⟨_, rfl, dl, _, (List.range ss.length).map (fun i : Nat => (i : Int)), rfl, hd, keys_rm _ _, by rw [List.length_map, List.length_range]; omega, fun sl ns' fsl sp sst => ?_⟩
    have es := sorted_rng sp sst
    subst es
    have s1 := same_new (o := .lst (((List.range ss.length).map fun i : Nat => (i : Int)).map V.int)) fsl
    have hsl : upd H sl (.lst (((List.range ss.length).map fun i : Nat => (i : Int)).map V.int)) sl = some (.lst (((List.range ss.length).map fun i : Nat => (i : Int)).map V.int)) := upd_same
    generalize upd H sl (.lst (((List.range ss.length).map fun i : Nat => (i : Int)).map V.int)) = H1 at s1 hsl ⊢
    unfold tLstRng
    walk_at "rd"
    refine len_at (.of (s1 _ _ HL.hl)) ?_
    refine ⟨ss.length, by rw [List.length_map, hpl], by omega, fun rl frl => ?_⟩
    have s2 := same_new (o := .lst ((List.range ss.length).map natI)) frl
    have hrl : upd H1 rl (.lst ((List.range ss.length).map natI)) rl = some (.lst (((List.range ss.length).map fun i : Nat => (i : Int)).map V.int)) := by rw [upd_same, natI_map]
    refine ne_same (.lst (.of (s2 _ _ hsl)) (ints_deep _)) (.lst (.of hrl) (ints_deep _)) (shaped_ints _) ?_
    walk_at "rd"
    refine hR _ _ ?_
    clear hR
    have sm := s1.trans s2
    have hd2 := sm _ _ hd
    have HL := HL.same sm
    generalize upd H1 rl (.lst ((List.range ss.length).map natI)) = H2 at sm hd2 HL ⊢
    clear s1 s2 hsl hrl fsl frl sp sst
    refine seq_step fun R hR => ?_
    refine ⟨_, rfl, dl, _, rfl, hd2, fun o => ?_⟩
    refine for_items (kvs := rmK (roomS ss m n) ss.length) (fun i σ H' => ∃ v3 v4 v5 v6, σ = [some (.ref dl), some (.ref hl), some (.int n), v3, v4, v5, v6] ∧ (∀ b o, b ≠ dl → H2 b = some o → H' b = some o) ∧ H' dl = some (.frz o (.dK (rmK (roomS ss m n) ss.length)))) ⟨_, _, _, _, rfl, fun b o nb e => by rw [upd_ne nb]; exact e, upd_same⟩ (fun i σ H' _ ⟨_, _, _, _, _, _, h⟩ => h) ?_ ?_
    · rintro i kv σ H3 p hkv ⟨v3, v4, v5, v6, rfl, kp, hz⟩ fp
      have hi : i < ss.length := by
        have := (List.getElem?_eq_some_iff.mp hkv).1
        rw [rmK_len] at this
        exact this
      obtain rfl : ((.inl (i : Int) : Key), V.int (roomS ss m n i)) = kv := by
        unfold rmK at hkv
        rw [List.getElem?_map, List.getElem?_range hi] at hkv
        exact Option.some.inj hkv
      obtain ⟨px, _, xx, hx⟩ := lst_item HL hi
      have nlh : hl ≠ dl := ne_of HL.hl hd2 (by intro z; cases z)
      have nlx : px ≠ dl := ne_of hx hd2 (by intro z; cases z)
      have sn := same_new (o := .tup [kV (.inl (i : Int) : Key), V.int (roomS ss m n i)]) fp
      have hhl := sn _ _ (kp _ _ nlh HL.hl)
      have hxx := sn _ _ (kp _ _ nlx hx)
      have kp2 : ∀ b o, b ≠ dl → H2 b = some o → upd H3 p (.tup [kV (.inl (i : Int) : Key), V.int (roomS ss m n i)]) b = some o := fun b o nb e => sn _ _ (kp b o nb e)
      have hz2 := sn _ _ hz
      refine ⟨p, _, rfl, .of upd_same, rfl, _, _, rfl, _, _, rfl, rfl, ?_⟩
      generalize upd H3 p (.tup [kV (.inl (i : Int) : Key), V.int (roomS ss m n i)]) = H4 at hhl hxx kp2 hz2 ⊢
      clear sn fp kp hz
      show tSeq _ _ _ [some (.ref dl), some (.ref hl), some (.int n), some (.int (i : Int)), some (.int (roomS ss m n i)), v5, v6] H4
      refine nx_step fun N hN => ?_
      refine seq_step fun R hR => ?_
      walk_at "rd"
      refine hR _ _ ?_
      clear hR
      have zp := pil_sz PL en hi
      have ec : roomS ss m n i - n = (pilS ss m i).ceil := ceil_add _ n
      obtain ⟨c1, c2⟩ := ceil_two (pilS ss m i)
      have za : Sw.Sz 1200 (pilS ss m i).ceil := zp.n.le (ceil_abs _)
      refine seq_step fun R hR => ?_
      walk_at "rd"
      refine ixL_at (.of hhl) xx ?_
      refine ⟨px, rfl, _, .of hxx, rfl, _, _, rfl, _, _, rfl, rfl, hR _ _ ?_⟩
      clear hR
      walk_at "rd"
      rw [ec]
      refine ⟨⟨za.mono (by decide), zp.d.mono (by decide)⟩, ?_⟩
      rw [if_neg c1]
      refine ⟨⟨(za.sub ((Sw.Sz.one 1199).mono (by decide))).mono (by decide), zp.d.mono (by decide)⟩, ?_⟩
      rw [if_neg (by omega)]
      exact hN _ _ ⟨_, _, _, _, rfl, kp2, hz2⟩
    · rintro σ H3 ⟨v3, v4, v5, v6, rfl, kp, hz⟩
      refine hR _ _ ?_
      walk_at "rd"
      refine k _ fun b o e => ?_
      by_cases c : b = dl
      · subst c
        rw [hd] at e
        cases e
        exact upd_same
      · rw [upd_ne c]
        exact kp _ _ c (sm _ _ e)
theorem ok_law {f : Addr} {fd : FuncData} (F : Fun K "law" "law" s_law f fd) (T : Txt K mg c_NoRatio) : FnOk P w K mg base CX0 9 f fd ["_law_script"] (spLaw K) := by
  have D__law_cell_at := d__law_cell_at (P := P) (w := w) (base := base) T
  have D__law_senders := d__law_senders (P := P) (w := w) (base := base) T
  have D_piles := d_piles (P := P) (w := w) (base := base) T
  have D_rooms_for := d_rooms_for (P := P) (w := w) (base := base) T
  have D__law_right := d__law_right (P := P) (w := w) (base := base) T
  refine F.ok sc_law (fun vs H Q E h => ?_) (fun cdv A outer s H vs Q E hr h => ?_)
  · obtain ⟨a, ns, rfl, _⟩ := h
    rfl
  · obtain ⟨sc, ns, rfl, hS, hlen, k⟩ := h
    refine ⟨_, (pss_cons (ps_set (i := 1) sc_law.nd rfl (by first | exact Or.inl rfl | exact Or.inr rfl) (pe_callX D__law_senders (hr.mono (by decide)) rfl passN (pa_cons (pv 0) pa_nil))) (pss_cons (ps_set (i := 2) sc_law.nd rfl (by first | exact Or.inl rfl | exact Or.inr rfl) (pe_callX D__law_cell_at (hr.mono (by decide)) rfl passN (pa_cons (pv 0) (pa_cons pe_int pa_nil)))) (pss_cons (ps_set (i := 3) sc_law.nd rfl (by first | exact Or.inl rfl | exact Or.inr rfl) (pe_ix (ix_listK K rfl) (pe_lst (pa_cons pe_int (pa_cons (pe_op op_mod (pe_op op_fdivL (pv 2) pe_int) pe_int) (pa_cons (pe_op op_mod (pe_op op_fdivL (pv 2) pe_int) (pe_op op_add (pe_op op_pow pe_int pe_int) pe_int)) pa_nil)))) (pe_op op_mod (pe_op op_fdivL (pv 2) pe_int) pe_int) (fun _ _ => rfl))) (pss_cons (ps_set (i := 4) sc_law.nd rfl (by first | exact Or.inl rfl | exact Or.inr rfl) (pe_callX D_piles (hr.mono (by decide)) rfl passN (pa_cons (pe_callTy (call_listK K rfl) rfl T.no_list boot_list (pa_cons (pv 1) pa_nil)) pa_nil))) (pss_cons (ps_set (i := 5) sc_law.nd rfl (by first | exact Or.inl rfl | exact Or.inr rfl) (pe_callTy (call_listK K rfl) rfl T.no_list boot_list (pa_cons (pv 1) pa_nil))) (pss_cons (ps_set (i := 6) sc_law.nd rfl (by first | exact Or.inl rfl | exact Or.inr rfl) (pe_callX D_rooms_for (hr.mono (by decide)) rfl passN (pa_cons (pv 5) (pa_cons (pv 3) pa_nil)))) (pss_cons (ps_if (PW.pt (pw_or (pt_not (pt_val (pe_callX D__law_right (hr.mono (by decide)) rfl passN (pa_cons (pv 6) (pa_cons (pv 4) (pa_cons (pv 3) pa_nil)))))) (pw_or1 (pt_cmpR (op_neDK K rfl hr.units) (pv 5) (pv 1) (nomark _))))) (pss_one (ps_ret pe_bl)) pss_nil) (pss_cons (ps_expr (pe_bm0 PySem.F.plainAttrs_dict PySem.F.slot_dict_clear PySem.F.type_dict_clear mt_dclear (pv 6))) (pss_one (ps_ret (pe_callX D__law_right (hr.mono (by decide)) rfl passN (pa_cons (pe_callX D_rooms_for (hr.mono (by decide)) rfl passN (pa_cons (pv 5) (pa_cons (pe_op op_add (pv 3) pe_int) pa_nil))) (pa_cons (pv 4) (pa_cons (pe_op op_add (pv 3) pe_int) pa_nil)))))))))))))), ?_⟩
    show tSeq _ _ _ [some (.ref sc), none, none, none, none, none, none] H
    refine seq_step fun R hR => ?_
    walk_at "rd"
    refine ⟨sc, ns, rfl, hS, hlen, fun H1 l ps ss L s1 nl SL PL => hR _ _ ?_⟩
    clear hR
    have hS := s1.seq hS
    refine seq_step fun R hR => ?_
    walk_at "rd"
    refine spCell_of hS (by decide) (hR _ _ ?_)
    clear hR hS s1 nl
    generalize cellI ns 0 = first
    refine seq_step fun R hR => ?_
    walk_at "rd"
    intro q1 f1
    refine pickM [0, first / 9 % 9, first / 9 % 1000001] (by omega) (by show first / 3 % 3 < 3; omega) fun n hn => hR _ _ ?_
    clear hR
    have n1 : 0 ≤ n ∧ n ≤ 1000000 := by
      simp only [List.mem_cons, List.not_mem_nil, or_false] at hn
      omega
    have SL := SL.same (same_new (o := .lst (([0, first / 9 % 9, first / 9 % 1000001] : List Int).map V.int)) f1)
    generalize upd H1 q1 (.lst (([0, first / 9 % 9, first / 9 % 1000001] : List Int).map V.int)) = H2 at SL ⊢
    clear f1 hn
    have zn : Sw.Sz 1000 n := (Sw.Sz.r18 (by omega) (by omega)).mono (by decide)
    have zn' : Sw.Sz 1000 (n + 1) := (Sw.Sz.r18 (by omega) (by omega)).mono (by decide)
    refine seq_step fun R hR => ?_
    walk_at "rd"
    refine lst_at (.of SL.hl) fun l1 fl1 => ?_
    refine ⟨l1, ps, ss, L, rfl, SL.copy fl1, PL, fun cl cp m H3 s3 _ CL en => hR _ _ ?_⟩
    clear hR
    have SL := (SL.same (same_new fl1)).same s3
    clear s3 fl1
    refine seq_step fun R hR => ?_
    walk_at "rd"
    refine lst_at (.of SL.hl) fun l2 fl2 => hR _ _ ?_
    clear hR
    have SL2 := SL.copy fl2
    have t1 := same_new (o := .lst (ps.map V.ref)) fl2
    have SL := SL.same t1
    have CL := CL.same t1
    generalize upd H3 l2 (.lst (ps.map V.ref)) = H4 at SL SL2 CL ⊢
    clear t1 fl2
    refine seq_step fun R hR => ?_
    walk_at "rd"
    refine ⟨l2, ps, ss, L, n, rfl, SL2, PL, zn, fun dl m' H5 s5 _ hd en' => hR _ _ ?_⟩
    clear hR
    have em := en'.uniq en
    subst em
    have SL := SL.same s5
    have SL2 := SL2.same s5
    have CL := CL.same s5
    clear s5
    refine seq_step fun R hR => ?_
    walk_at "rd"
    refine ⟨dl, cl, cp, ss, L, m', n, rfl, hd, CL, PL, en, fun H6 s6 => ?_⟩
    have SL := SL.same s6
    have SL2 := SL2.same s6
    have CL := CL.same s6
    have hd := s6 _ _ hd
    clear s6
    walk_at "rd"
    refine ne_same SL2.deep SL.deep (shaped_sn _) ?_
    walk_at "rd"
    refine hR _ _ ?_
    clear hR
    refine seq_step fun R hR => ?_
    walk_at "rd"
    refine ⟨.inr (.inr (.inl ⟨rfl, .inl ⟨_, hd⟩⟩)), dl, _, rfl, rfl, hd, hR _ _ ?_⟩
    clear hR
    have kt : ∀ b xs, H6 b = some (.tup xs) → upd H6 dl (.dK []) b = some (.tup xs) := fun b xs e => by
      rw [upd_ne (ne_of e hd (by intro z; cases z))]; exact e
    have kl : ∀ b xs, H6 b = some (.lst xs) → upd H6 dl (.dK []) b = some (.lst xs) := fun b xs e => by
      rw [upd_ne (ne_of e hd (by intro z; cases z))]; exact e
    have SL2 : SnL (upd H6 dl (.dK [])) l2 ps ss := ⟨kl _ _ SL2.hl, Paired.mapP SL2.r fun _ _ z => z.keep kt⟩
    have CL : Lst fq (upd H6 dl (.dK [])) cl cp (fr ss.length (pilS ss m')) := ⟨kl _ _ CL.hl, tupsF_keep CL.r kt⟩
    generalize upd H6 dl (.dK []) = H7 at SL2 CL ⊢
    walk_at "rd"
    refine ⟨l2, ps, ss, L, n + 1, rfl, SL2, PL, zn', fun dl2 m2 H8 s8 _ hd2 en2 => ?_⟩
    have em := en2.uniq en
    subst em
    exact ⟨dl2, cl, cp, ss, L, m2, n + 1, rfl, hd2, CL.same s8, PL, en, fun H9 _ => k _⟩
end
theorem all_mk {l : PySem.W.OpenLaw} {w : World} {K : PySem.W.Frag} {h : Heap} {mg : Str → Option Value} {fa f1 f2 f3 f4 f5 f6 f7 f8 f9 f10 f11 f12 f13 f14 f15 f16 f17 f18 f19 f20 f21 f22 f23 f24 f25 f26 f27 : Addr} (X : K.In h) (G : h.Ns mainGlobals mg) (hfa : mg "law" = some (.ref fa))
    {od1 an1 od2 an2 od3 an3 od4 an4 od5 an5 od6 an6 od7 an7 od8 an8 od9 an9 od10 an10 od11 an11 od12 an12 od13 an13 od14 an14 od15 an15 od16 an16 od17 an17 od18 an18 od19 an19 od20 an20 od21 an21 od22 an22 od23 an23 od24 an24 od25 an25 od26 an26 od27 an27 : Option Addr} {sl1 sl2 sl3 sl4 sl5 sl6 sl7 sl8 sl9 sl10 sl11 sl12 sl13 sl14 sl15 sl16 sl17 sl18 sl19 sl20 sl21 sl22 sl23 sl24 sl25 sl26 sl27 : Array (Option Value)} {oc1 kV1 dc1 pm1 cd1 ct1 oc2 kV2 dc2 pm2 cd2 ct2 oc3 kV3 dc3 pm3 cd3 ct3 oc4 kV4 dc4 pm4 cd4 ct4 oc5 kV5 dc5 pm5 cd5 ct5 oc6 kV6 dc6 pm6 cd6 ct6 oc7 kV7 dc7 pm7 cd7 ct7 oc8 kV8 dc8 pm8 cd8 ct8 oc9 kV9 dc9 pm9 cd9 ct9 oc10 kV10 dc10 pm10 cd10 ct10 oc11 kV11 dc11 pm11 cd11 ct11 oc12 kV12 dc12 pm12 cd12 ct12 oc13 kV13 dc13 pm13 cd13 ct13 oc14 kV14 dc14 pm14 cd14 ct14 oc15 kV15 dc15 pm15 cd15 ct15 oc16 kV16 dc16 pm16 cd16 ct16 oc17 kV17 dc17 pm17 cd17 ct17 oc18 kV18 dc18 pm18 cd18 ct18 oc19 kV19 dc19 pm19 cd19 ct19 oc20 kV20 dc20 pm20 cd20 ct20 oc21 kV21 dc21 pm21 cd21 ct21 oc22 kV22 dc22 pm22 cd22 ct22 oc23 kV23 dc23 pm23 cd23 ct23 oc24 kV24 dc24 pm24 cd24 ct24 oc25 kV25 dc25 pm25 cd25 ct25 oc26 kV26 dc26 pm26 cd26 ct26 oc27 kV27 dc27 pm27 cd27 ct27 : Value}
    {c_NoRatio : Addr}
    {cd_NoRatio : ClassData}
    (b_NoRatio : PySem.W.nsIn K mainGlobals "NoRatio" = some (some (.ref c_NoRatio)))
    (hd_NoRatio : PySem.W.hasDictIn K c_NoRatio = true)
    (ga_NoRatio : PySem.W.findIn K (.ref c_NoRatio) "__getattribute__" = some (some (.builtin "BaseException.__getattribute__")))
    (gn_NoRatio : PySem.W.findIn K (.ref c_NoRatio) "__getattr__" = some none)
    (sa_NoRatio : PySem.W.findIn K (.ref c_NoRatio) "__setattr__" = some (some (.builtin "object.__setattr__")))
    (cl_NoRatio : PySem.W.findIn K (.ref c_NoRatio) "__class__" = some (some (.builtin "object.__class__")))
    (be_NoRatio : PySem.W.mroIn K c_NoRatio (.type "BaseException") = some true)
    (ob_NoRatio : PySem.W.mroIn K c_NoRatio (.type "object") = some true)
    (kp_NoRatio : PySem.W.keepIn K (.ref c_NoRatio) = true)
    (ci_NoRatio : PySem.W.clsIn K c_NoRatio = some cd_NoRatio)
    (ti_NoRatio : PySem.W.typeIn K (.ref c_NoRatio) = some (.type "type"))
    (ex_NoRatio : PySem.W.excIn K c_NoRatio bmV "ValueError.__new__" = true)
    (kg : PySem.W.specialIn K (.builtin "object.__class__") "__get__" = some (some (.builtin "getset_descriptor.__get__")))
    (kt : PySem.W.takesIn K (.builtin "object.__class__") = some true)
    (s_NoRatio_NoRatio : PySem.W.subIn K (.ref c_NoRatio) (.ref c_NoRatio) = some true)
    (v_NoRatio_VE : PySem.W.subIn K (.ref c_NoRatio) (.type "ValueError") = some true)
    (a1 : PySem.W.nsIn K mainGlobals "divisor" = some (some (.ref f1))) (l1 : K.lookup f1 = some ⟨oc1, od1, .func (PySem.W.fnOf "divisor" "divisor" (defArgs s_divisor) (defBody s_divisor) (defScope s_divisor) .none kV1 dc1 pm1 an1 cd1 ct1), sl1⟩) (c1 : PySem.W.codeIn K cd1 "divisor" = true) (k1 : PySem.W.keepIn K (.ref f1) = true)
    (a2 : PySem.W.nsIn K mainGlobals "ratio" = some (some (.ref f2))) (l2 : K.lookup f2 = some ⟨oc2, od2, .func (PySem.W.fnOf "ratio" "ratio" (defArgs s_ratio) (defBody s_ratio) (defScope s_ratio) .none kV2 dc2 pm2 an2 cd2 ct2), sl2⟩) (c2 : PySem.W.codeIn K cd2 "ratio" = true) (k2 : PySem.W.keepIn K (.ref f2) = true)
    (a3 : PySem.W.nsIn K mainGlobals "plus" = some (some (.ref f3))) (l3 : K.lookup f3 = some ⟨oc3, od3, .func (PySem.W.fnOf "plus" "plus" (defArgs s_plus) (defBody s_plus) (defScope s_plus) .none kV3 dc3 pm3 an3 cd3 ct3), sl3⟩) (c3 : PySem.W.codeIn K cd3 "plus" = true) (k3 : PySem.W.keepIn K (.ref f3) = true)
    (a4 : PySem.W.nsIn K mainGlobals "minus" = some (some (.ref f4))) (l4 : K.lookup f4 = some ⟨oc4, od4, .func (PySem.W.fnOf "minus" "minus" (defArgs s_minus) (defBody s_minus) (defScope s_minus) .none kV4 dc4 pm4 an4 cd4 ct4), sl4⟩) (c4 : PySem.W.codeIn K cd4 "minus" = true) (k4 : PySem.W.keepIn K (.ref f4) = true)
    (a5 : PySem.W.nsIn K mainGlobals "times" = some (some (.ref f5))) (l5 : K.lookup f5 = some ⟨oc5, od5, .func (PySem.W.fnOf "times" "times" (defArgs s_times) (defBody s_times) (defScope s_times) .none kV5 dc5 pm5 an5 cd5 ct5), sl5⟩) (c5 : PySem.W.codeIn K cd5 "times" = true) (k5 : PySem.W.keepIn K (.ref f5) = true)
    (a6 : PySem.W.nsIn K mainGlobals "over" = some (some (.ref f6))) (l6 : K.lookup f6 = some ⟨oc6, od6, .func (PySem.W.fnOf "over" "over" (defArgs s_over) (defBody s_over) (defScope s_over) .none kV6 dc6 pm6 an6 cd6 ct6), sl6⟩) (c6 : PySem.W.codeIn K cd6 "over" = true) (k6 : PySem.W.keepIn K (.ref f6) = true)
    (a7 : PySem.W.nsIn K mainGlobals "under" = some (some (.ref f7))) (l7 : K.lookup f7 = some ⟨oc7, od7, .func (PySem.W.fnOf "under" "under" (defArgs s_under) (defBody s_under) (defScope s_under) .none kV7 dc7 pm7 an7 cd7 ct7), sl7⟩) (c7 : PySem.W.codeIn K cd7 "under" = true) (k7 : PySem.W.keepIn K (.ref f7) = true)
    (a8 : PySem.W.nsIn K mainGlobals "lesser" = some (some (.ref f8))) (l8 : K.lookup f8 = some ⟨oc8, od8, .func (PySem.W.fnOf "lesser" "lesser" (defArgs s_lesser) (defBody s_lesser) (defScope s_lesser) .none kV8 dc8 pm8 an8 cd8 ct8), sl8⟩) (c8 : PySem.W.codeIn K cd8 "lesser" = true) (k8 : PySem.W.keepIn K (.ref f8) = true)
    (a9 : PySem.W.nsIn K mainGlobals "greater" = some (some (.ref f9))) (l9 : K.lookup f9 = some ⟨oc9, od9, .func (PySem.W.fnOf "greater" "greater" (defArgs s_greater) (defBody s_greater) (defScope s_greater) .none kV9 dc9 pm9 an9 cd9 ct9), sl9⟩) (c9 : PySem.W.codeIn K cd9 "greater" = true) (k9 : PySem.W.keepIn K (.ref f9) = true)
    (a10 : PySem.W.nsIn K mainGlobals "least" = some (some (.ref f10))) (l10 : K.lookup f10 = some ⟨oc10, od10, .func (PySem.W.fnOf "least" "least" (defArgs s_least) (defBody s_least) (defScope s_least) .none kV10 dc10 pm10 an10 cd10 ct10), sl10⟩) (c10 : PySem.W.codeIn K cd10 "least" = true) (k10 : PySem.W.keepIn K (.ref f10) = true)
    (a11 : PySem.W.nsIn K mainGlobals "total" = some (some (.ref f11))) (l11 : K.lookup f11 = some ⟨oc11, od11, .func (PySem.W.fnOf "total" "total" (defArgs s_total) (defBody s_total) (defScope s_total) .none kV11 dc11 pm11 an11 cd11 ct11), sl11⟩) (c11 : PySem.W.codeIn K cd11 "total" = true) (k11 : PySem.W.keepIn K (.ref f11) = true)
    (a12 : PySem.W.nsIn K mainGlobals "whole_above" = some (some (.ref f12))) (l12 : K.lookup f12 = some ⟨oc12, od12, .func (PySem.W.fnOf "whole_above" "whole_above" (defArgs s_whole_above) (defBody s_whole_above) (defScope s_whole_above) .none kV12 dc12 pm12 an12 cd12 ct12), sl12⟩) (c12 : PySem.W.codeIn K cd12 "whole_above" = true) (k12 : PySem.W.keepIn K (.ref f12) = true)
    (a13 : PySem.W.nsIn K mainGlobals "check_rates" = some (some (.ref f13))) (l13 : K.lookup f13 = some ⟨oc13, od13, .func (PySem.W.fnOf "check_rates" "check_rates" (defArgs s_check_rates) (defBody s_check_rates) (defScope s_check_rates) .none kV13 dc13 pm13 an13 cd13 ct13), sl13⟩) (c13 : PySem.W.codeIn K cd13 "check_rates" = true) (k13 : PySem.W.keepIn K (.ref f13) = true)
    (a14 : PySem.W.nsIn K mainGlobals "full_ones" = some (some (.ref f14))) (l14 : K.lookup f14 = some ⟨oc14, od14, .func (PySem.W.fnOf "full_ones" "full_ones" (defArgs s_full_ones) (defBody s_full_ones) (defScope s_full_ones) .none kV14 dc14 pm14 an14 cd14 ct14), sl14⟩) (c14 : PySem.W.codeIn K cd14 "full_ones" = true) (k14 : PySem.W.keepIn K (.ref f14) = true)
    (a15 : PySem.W.nsIn K mainGlobals "outs_of" = some (some (.ref f15))) (l15 : K.lookup f15 = some ⟨oc15, od15, .func (PySem.W.fnOf "outs_of" "outs_of" (defArgs s_outs_of) (defBody s_outs_of) (defScope s_outs_of) .none kV15 dc15 pm15 an15 cd15 ct15), sl15⟩) (c15 : PySem.W.codeIn K cd15 "outs_of" = true) (k15 : PySem.W.keepIn K (.ref f15) = true)
    (a16 : PySem.W.nsIn K mainGlobals "time_to_empty" = some (some (.ref f16))) (l16 : K.lookup f16 = some ⟨oc16, od16, .func (PySem.W.fnOf "time_to_empty" "time_to_empty" (defArgs s_time_to_empty) (defBody s_time_to_empty) (defScope s_time_to_empty) .none kV16 dc16 pm16 an16 cd16 ct16), sl16⟩) (c16 : PySem.W.codeIn K cd16 "time_to_empty" = true) (k16 : PySem.W.keepIn K (.ref f16) = true)
    (a17 : PySem.W.nsIn K mainGlobals "course" = some (some (.ref f17))) (l17 : K.lookup f17 = some ⟨oc17, od17, .func (PySem.W.fnOf "course" "course" (defArgs s_course) (defBody s_course) (defScope s_course) .none kV17 dc17 pm17 an17 cd17 ct17), sl17⟩) (c17 : PySem.W.codeIn K cd17 "course" = true) (k17 : PySem.W.keepIn K (.ref f17) = true)
    (a18 : PySem.W.nsIn K mainGlobals "greatest" = some (some (.ref f18))) (l18 : K.lookup f18 = some ⟨oc18, od18, .func (PySem.W.fnOf "greatest" "greatest" (defArgs s_greatest) (defBody s_greatest) (defScope s_greatest) .none kV18 dc18 pm18 an18 cd18 ct18), sl18⟩) (c18 : PySem.W.codeIn K cd18 "greatest" = true) (k18 : PySem.W.keepIn K (.ref f18) = true)
    (a19 : PySem.W.nsIn K mainGlobals "piles" = some (some (.ref f19))) (l19 : K.lookup f19 = some ⟨oc19, od19, .func (PySem.W.fnOf "piles" "piles" (defArgs s_piles) (defBody s_piles) (defScope s_piles) .none kV19 dc19 pm19 an19 cd19 ct19), sl19⟩) (c19 : PySem.W.codeIn K cd19 "piles" = true) (k19 : PySem.W.keepIn K (.ref f19) = true)
    (a20 : PySem.W.nsIn K mainGlobals "rooms_for" = some (some (.ref f20))) (l20 : K.lookup f20 = some ⟨oc20, od20, .func (PySem.W.fnOf "rooms_for" "rooms_for" (defArgs s_rooms_for) (defBody s_rooms_for) (defScope s_rooms_for) .none kV20 dc20 pm20 an20 cd20 ct20), sl20⟩) (c20 : PySem.W.codeIn K cd20 "rooms_for" = true) (k20 : PySem.W.keepIn K (.ref f20) = true)
    (a21 : PySem.W.nsIn K mainGlobals "_law_cell_at" = some (some (.ref f21))) (l21 : K.lookup f21 = some ⟨oc21, od21, .func (PySem.W.fnOf "_law_cell_at" "_law_cell_at" (defArgs s__law_cell_at) (defBody s__law_cell_at) (defScope s__law_cell_at) .none kV21 dc21 pm21 an21 cd21 ct21), sl21⟩) (c21 : PySem.W.codeIn K cd21 "_law_cell_at" = true) (k21 : PySem.W.keepIn K (.ref f21) = true)
    (a22 : PySem.W.nsIn K mainGlobals "_law_mix" = some (some (.ref f22))) (l22 : K.lookup f22 = some ⟨oc22, od22, .func (PySem.W.fnOf "_law_mix" "_law_mix" (defArgs s__law_mix) (defBody s__law_mix) (defScope s__law_mix) .none kV22 dc22 pm22 an22 cd22 ct22), sl22⟩) (c22 : PySem.W.codeIn K cd22 "_law_mix" = true) (k22 : PySem.W.keepIn K (.ref f22) = true)
    (a23 : PySem.W.nsIn K mainGlobals "_law_divisor" = some (some (.ref f23))) (l23 : K.lookup f23 = some ⟨oc23, od23, .func (PySem.W.fnOf "_law_divisor" "_law_divisor" (defArgs s__law_divisor) (defBody s__law_divisor) (defScope s__law_divisor) .none kV23 dc23 pm23 an23 cd23 ct23), sl23⟩) (c23 : PySem.W.codeIn K cd23 "_law_divisor" = true) (k23 : PySem.W.keepIn K (.ref f23) = true)
    (a24 : PySem.W.nsIn K mainGlobals "_law_senders" = some (some (.ref f24))) (l24 : K.lookup f24 = some ⟨oc24, od24, .func (PySem.W.fnOf "_law_senders" "_law_senders" (defArgs s__law_senders) (defBody s__law_senders) (defScope s__law_senders) .none kV24 dc24 pm24 an24 cd24 ct24), sl24⟩) (c24 : PySem.W.codeIn K cd24 "_law_senders" = true) (k24 : PySem.W.keepIn K (.ref f24) = true)
    (a25 : PySem.W.nsIn K mainGlobals "_law_whole" = some (some (.ref f25))) (l25 : K.lookup f25 = some ⟨oc25, od25, .func (PySem.W.fnOf "_law_whole" "_law_whole" (defArgs s__law_whole) (defBody s__law_whole) (defScope s__law_whole) .none kV25 dc25 pm25 an25 cd25 ct25), sl25⟩) (c25 : PySem.W.codeIn K cd25 "_law_whole" = true) (k25 : PySem.W.keepIn K (.ref f25) = true)
    (a26 : PySem.W.nsIn K mainGlobals "_law_right" = some (some (.ref f26))) (l26 : K.lookup f26 = some ⟨oc26, od26, .func (PySem.W.fnOf "_law_right" "_law_right" (defArgs s__law_right) (defBody s__law_right) (defScope s__law_right) .none kV26 dc26 pm26 an26 cd26 ct26), sl26⟩) (c26 : PySem.W.codeIn K cd26 "_law_right" = true) (k26 : PySem.W.keepIn K (.ref f26) = true)
    (a27 : PySem.W.nsIn K mainGlobals "law" = some (some (.ref f27))) (l27 : K.lookup f27 = some ⟨oc27, od27, .func (PySem.W.fnOf "law" "law" (defArgs s_law) (defBody s_law) (defScope s_law) .none kV27 dc27 pm27 an27 cd27 ct27), sl27⟩) (c27 : PySem.W.codeIn K cd27 "law" = true) (k27 : PySem.W.keepIn K (.ref f27) = true)
    (z1 : PySem.W.nsIn K mainGlobals "abs" = some none)
    (z2 : PySem.W.nsIn K mainGlobals "enumerate" = some none)
    (z3 : PySem.W.nsIn K mainGlobals "sum" = some none)
    (z4 : PySem.W.nsIn K mainGlobals "zip" = some none)
    (z5 : PySem.W.nsIn K mainGlobals "range" = some none)
    (z6 : PySem.W.nsIn K mainGlobals "len" = some none)
    (z7 : PySem.W.nsIn K mainGlobals "isinstance" = some none)
    (z8 : PySem.W.nsIn K mainGlobals "bool" = some none)
    (z9 : PySem.W.nsIn K mainGlobals "int" = some none)
    (z10 : PySem.W.nsIn K mainGlobals "sorted" = some none)
    (z11 : PySem.W.nsIn K mainGlobals "list" = some none)
    (z12 : PySem.W.nsIn K mainGlobals "dict" = some none)
    : ∃ fd : FuncData, (∀ (s : Shared) (v : Value), BindsTo s fd ⟨[v], []⟩ [("_law_script", v)]) ∧ ∀ base : Heap, K.In base → base.Ns mainGlobals mg → FnOk l.prog w K mg base CX0 9 fa fd ["_law_script"] (spLaw K) := by
  have e := hfa.symm.trans (PySem.W.mg_of X G a27)
  cases e
  have xc_NoRatio : XC K c_NoRatio := ⟨hd_NoRatio, ga_NoRatio, gn_NoRatio, sa_NoRatio, cl_NoRatio, kg, kt, be_NoRatio, ob_NoRatio, xc_plain ex_NoRatio⟩
  have F1 := fun_mk (st := s_divisor) l1 c1 k1
  have F2 := fun_mk (st := s_ratio) l2 c2 k2
  have F3 := fun_mk (st := s_plus) l3 c3 k3
  have F4 := fun_mk (st := s_minus) l4 c4 k4
  have F5 := fun_mk (st := s_times) l5 c5 k5
  have F6 := fun_mk (st := s_over) l6 c6 k6
  have F7 := fun_mk (st := s_under) l7 c7 k7
  have F8 := fun_mk (st := s_lesser) l8 c8 k8
  have F9 := fun_mk (st := s_greater) l9 c9 k9
  have F10 := fun_mk (st := s_least) l10 c10 k10
  have F11 := fun_mk (st := s_total) l11 c11 k11
  have F12 := fun_mk (st := s_whole_above) l12 c12 k12
  have F13 := fun_mk (st := s_check_rates) l13 c13 k13
  have F14 := fun_mk (st := s_full_ones) l14 c14 k14
  have F15 := fun_mk (st := s_outs_of) l15 c15 k15
  have F16 := fun_mk (st := s_time_to_empty) l16 c16 k16
  have F17 := fun_mk (st := s_course) l17 c17 k17
  have F18 := fun_mk (st := s_greatest) l18 c18 k18
  have F19 := fun_mk (st := s_piles) l19 c19 k19
  have F20 := fun_mk (st := s_rooms_for) l20 c20 k20
  have F21 := fun_mk (st := s__law_cell_at) l21 c21 k21
  have F22 := fun_mk (st := s__law_mix) l22 c22 k22
  have F23 := fun_mk (st := s__law_divisor) l23 c23 k23
  have F24 := fun_mk (st := s__law_senders) l24 c24 k24
  have F25 := fun_mk (st := s__law_whole) l25 c25 k25
  have F26 := fun_mk (st := s__law_right) l26 c26 k26
  have T : Txt K mg c_NoRatio := ⟨PySem.W.mg_of X G b_NoRatio, xc_NoRatio, kp_NoRatio, ex_NoRatio, s_NoRatio_NoRatio, kit_self, kit_ve v_NoRatio_VE, PySem.W.mg_none_of X G z1, PySem.W.mg_none_of X G z2, PySem.W.mg_none_of X G z3, PySem.W.mg_none_of X G z4, PySem.W.mg_none_of X G z5, PySem.W.mg_none_of X G z6, PySem.W.mg_none_of X G z7, PySem.W.mg_none_of X G z8, PySem.W.mg_none_of X G z9, PySem.W.mg_none_of X G z10, PySem.W.mg_none_of X G z11, PySem.W.mg_none_of X G z12, ⟨_, _, F1, F1.binds (ps := ["one", "other"]) (fun _ _ _ _ _ _ us hl => match us, hl with | [_, _], _ => rfl), PySem.W.mg_of X G a1⟩, ⟨_, _, F2, F2.binds (ps := ["top", "bottom"]) (fun _ _ _ _ _ _ us hl => match us, hl with | [_, _], _ => rfl), PySem.W.mg_of X G a2⟩, ⟨_, _, F3, F3.binds (ps := ["one", "other"]) (fun _ _ _ _ _ _ us hl => match us, hl with | [_, _], _ => rfl), PySem.W.mg_of X G a3⟩, ⟨_, _, F4, F4.binds (ps := ["one", "other"]) (fun _ _ _ _ _ _ us hl => match us, hl with | [_, _], _ => rfl), PySem.W.mg_of X G a4⟩, ⟨_, _, F5, F5.binds (ps := ["one", "other"]) (fun _ _ _ _ _ _ us hl => match us, hl with | [_, _], _ => rfl), PySem.W.mg_of X G a5⟩, ⟨_, _, F6, F6.binds (ps := ["one", "other"]) (fun _ _ _ _ _ _ us hl => match us, hl with | [_, _], _ => rfl), PySem.W.mg_of X G a6⟩, ⟨_, _, F7, F7.binds (ps := ["one", "other"]) (fun _ _ _ _ _ _ us hl => match us, hl with | [_, _], _ => rfl), PySem.W.mg_of X G a7⟩, ⟨_, _, F8, F8.binds (ps := ["one", "other"]) (fun _ _ _ _ _ _ us hl => match us, hl with | [_, _], _ => rfl), PySem.W.mg_of X G a8⟩, ⟨_, _, F9, F9.binds (ps := ["one", "other"]) (fun _ _ _ _ _ _ us hl => match us, hl with | [_, _], _ => rfl), PySem.W.mg_of X G a9⟩, ⟨_, _, F10, F10.binds (ps := ["some"]) (fun _ _ _ _ _ _ us hl => match us, hl with | [_], _ => rfl), PySem.W.mg_of X G a10⟩, ⟨_, _, F11, F11.binds (ps := ["some"]) (fun _ _ _ _ _ _ us hl => match us, hl with | [_], _ => rfl), PySem.W.mg_of X G a11⟩, ⟨_, _, F12, F12.binds (ps := ["one"]) (fun _ _ _ _ _ _ us hl => match us, hl with | [_], _ => rfl), PySem.W.mg_of X G a12⟩, ⟨_, _, F13, F13.binds (ps := ["senders"]) (fun _ _ _ _ _ _ us hl => match us, hl with | [_], _ => rfl), PySem.W.mg_of X G a13⟩, ⟨_, _, F14, F14.binds (ps := ["heaps"]) (fun _ _ _ _ _ _ us hl => match us, hl with | [_], _ => rfl), PySem.W.mg_of X G a14⟩, ⟨_, _, F15, F15.binds (ps := ["senders", "heaps"]) (fun _ _ _ _ _ _ us hl => match us, hl with | [_, _], _ => rfl), PySem.W.mg_of X G a15⟩, ⟨_, _, F16, F16.binds (ps := ["heaps", "falls"]) (fun _ _ _ _ _ _ us hl => match us, hl with | [_, _], _ => rfl), PySem.W.mg_of X G a16⟩, ⟨_, _, F17, F17.binds (ps := ["senders"]) (fun _ _ _ _ _ _ us hl => match us, hl with | [_], _ => rfl), PySem.W.mg_of X G a17⟩, ⟨_, _, F18, F18.binds (ps := ["some"]) (fun _ _ _ _ _ _ us hl => match us, hl with | [_], _ => rfl), PySem.W.mg_of X G a18⟩, ⟨_, _, F19, F19.binds (ps := ["senders"]) (fun _ _ _ _ _ _ us hl => match us, hl with | [_], _ => rfl), PySem.W.mg_of X G a19⟩, ⟨_, _, F20, F20.binds (ps := ["senders", "longest"]) (fun _ _ _ _ _ _ us hl => match us, hl with | [_, _], _ => rfl), PySem.W.mg_of X G a20⟩, ⟨_, _, F21, F21.binds (ps := ["_law_script", "_law_k"]) (fun _ _ _ _ _ _ us hl => match us, hl with | [_, _], _ => rfl), PySem.W.mg_of X G a21⟩, ⟨_, _, F22, F22.binds (ps := ["_law_cell", "_law_k"]) (fun _ _ _ _ _ _ us hl => match us, hl with | [_, _], _ => rfl), PySem.W.mg_of X G a22⟩, ⟨_, _, F23, F23.binds (ps := ["_law_one", "_law_other"]) (fun _ _ _ _ _ _ us hl => match us, hl with | [_, _], _ => rfl), PySem.W.mg_of X G a23⟩, ⟨_, _, F24, F24.binds (ps := ["_law_script"]) (fun _ _ _ _ _ _ us hl => match us, hl with | [_], _ => rfl), PySem.W.mg_of X G a24⟩, ⟨_, _, F25, F25.binds (ps := ["_law_found"]) (fun _ _ _ _ _ _ us hl => match us, hl with | [_], _ => rfl), PySem.W.mg_of X G a25⟩, ⟨_, _, F26, F26.binds (ps := ["_law_found", "_law_heights", "_law_long"]) (fun _ _ _ _ _ _ us hl => match us, hl with | [_, _, _], _ => rfl), PySem.W.mg_of X G a26⟩⟩
  exact ⟨PySem.W.fnOf "law" "law" (defArgs s_law) (defBody s_law) (defScope s_law) .none kV27 dc27 pm27 an27 cd27 ct27, fun s v => .of_eq rfl, fun base _ _ => ok_law (fun_mk (st := s_law) l27 c27 k27) T⟩
theorem walk {l : PySem.W.OpenLaw} {q : Program} {loose : List Str} {XP : (Str → Option Value) → Heap → Prop} {YP : World → Heap → Prop} {d : DefRec} {K : Params → PySem.W.Frag} (hn : l.most = some 63) (hdf : d.params.defaults = [])
    (hY : ∀ (w : World) (h : Heap), YP w h → (K w.params).In h)
    (F : ∀ (w : World) (mg : Str → Option Value) (fa : Addr) (h : Heap), (K w.params).In h → h.Ns mainGlobals mg → mg d.name = some (.ref fa) →
      ∃ fd : FuncData, (∀ (s : Shared) (u : Value), BindsTo s fd ⟨[u], []⟩ [("_law_script", u)]) ∧ ∀ base : Heap, (K w.params).In base → base.Ns mainGlobals mg → FnOk l.prog w (K w.params) mg base CX0 9 fa fd ["_law_script"] (spLaw (K w.params))) :
    PySem.W.WalkO q loose XP YP l.row.toRowW d [] (fun f vs => PySem.call f vs) :=
  L2.walk_of (n := 63) (k := 9) (x := "_law_script") (CX := fun _ => CX0) (sp := fun w => spLaw (K w.params)) hn (by decide) hdf ⟨rfl, by decide, by decide⟩ hY F (fun _ _ a ns hl _ hS => ⟨a, ns, rfl, hS, hl, fun _ => rfl⟩) fun _ _ _ _ _ z => z
end K47
open PySem PySem.W PyProof.Rows
set_option maxRecDepth 100000 in
set_option maxHeartbeats 0 in
theorem PySem.Challenge.cw_sharewheel_k47_rooms_holds : PySem.Challenge.rw_sharewheel_k47_rooms.Holds := by
  w_on; o_law; k_head; (case hw => w_witness2)
  k_fill
  refine K47.walk (l := PySem.Challenge.rw_sharewheel_k47_rooms) rfl rfl (fun w h Y => PySem.W.kIn_of Y) ?F
  case F =>
    intro w mg fa h KX G hmg
    refine' K47.all_mk KX G hmg ?b_NoRatio ?hd_NoRatio ?ga_NoRatio ?gn_NoRatio ?sa_NoRatio ?cl_NoRatio ?be_NoRatio ?ob_NoRatio ?kp_NoRatio ?ci_NoRatio ?ti_NoRatio ?ex_NoRatio ?kg ?kt ?s_NoRatio_NoRatio ?v_NoRatio_VE ?a1 ?l1 ?c1 ?k1 ?a2 ?l2 ?c2 ?k2 ?a3 ?l3 ?c3 ?k3 ?a4 ?l4 ?c4 ?k4 ?a5 ?l5 ?c5 ?k5 ?a6 ?l6 ?c6 ?k6 ?a7 ?l7 ?c7 ?k7 ?a8 ?l8 ?c8 ?k8 ?a9 ?l9 ?c9 ?k9 ?a10 ?l10 ?c10 ?k10 ?a11 ?l11 ?c11 ?k11 ?a12 ?l12 ?c12 ?k12 ?a13 ?l13 ?c13 ?k13 ?a14 ?l14 ?c14 ?k14 ?a15 ?l15 ?c15 ?k15 ?a16 ?l16 ?c16 ?k16 ?a17 ?l17 ?c17 ?k17 ?a18 ?l18 ?c18 ?k18 ?a19 ?l19 ?c19 ?k19 ?a20 ?l20 ?c20 ?k20 ?a21 ?l21 ?c21 ?k21 ?a22 ?l22 ?c22 ?k22 ?a23 ?l23 ?c23 ?k23 ?a24 ?l24 ?c24 ?k24 ?a25 ?l25 ?c25 ?k25 ?a26 ?l26 ?c26 ?k26 ?a27 ?l27 ?c27 ?k27 ?z1 ?z2 ?z3 ?z4 ?z5 ?z6 ?z7 ?z8 ?z9 ?z10 ?z11 ?z12
    (case b_NoRatio => k_is)
    (case hd_NoRatio => k_is)
    (case ga_NoRatio => k_is)
    (case gn_NoRatio => k_is)
    (case sa_NoRatio => k_is)
    (case cl_NoRatio => k_is)
    (case be_NoRatio => k_is)
    (case ob_NoRatio => k_is)
    (case kp_NoRatio => k_is)
    (case ci_NoRatio => k_is)
    (case ti_NoRatio => k_is)
    (case ex_NoRatio => k_exc)
    (case kg => k_is)
    (case kt => k_is)
    (case s_NoRatio_NoRatio => k_is)
    (case v_NoRatio_VE => k_is)
    (case a1 => k_is)
    (case l1 => k_is)
    (case c1 => k_is)
    (case k1 => k_is)
    (case a2 => k_is)
    (case l2 => k_is)
    (case c2 => k_is)
    (case k2 => k_is)
    (case a3 => k_is)
    (case l3 => k_is)
    (case c3 => k_is)
    (case k3 => k_is)
    (case a4 => k_is)
    (case l4 => k_is)
    (case c4 => k_is)
    (case k4 => k_is)
    (case a5 => k_is)
    (case l5 => k_is)
    (case c5 => k_is)
    (case k5 => k_is)
    (case a6 => k_is)
    (case l6 => k_is)
    (case c6 => k_is)
    (case k6 => k_is)
    (case a7 => k_is)
    (case l7 => k_is)
    (case c7 => k_is)
    (case k7 => k_is)
    (case a8 => k_is)
    (case l8 => k_is)
    (case c8 => k_is)
    (case k8 => k_is)
    (case a9 => k_is)
    (case l9 => k_is)
    (case c9 => k_is)
    (case k9 => k_is)
    (case a10 => k_is)
    (case l10 => k_is)
    (case c10 => k_is)
    (case k10 => k_is)
    (case a11 => k_is)
    (case l11 => k_is)
    (case c11 => k_is)
    (case k11 => k_is)
    (case a12 => k_is)
    (case l12 => k_is)
    (case c12 => k_is)
    (case k12 => k_is)
    (case a13 => k_is)
    (case l13 => k_is)
    (case c13 => k_is)
    (case k13 => k_is)
    (case a14 => k_is)
    (case l14 => k_is)
    (case c14 => k_is)
    (case k14 => k_is)
    (case a15 => k_is)
    (case l15 => k_is)
    (case c15 => k_is)
    (case k15 => k_is)
    (case a16 => k_is)
    (case l16 => k_is)
    (case c16 => k_is)
    (case k16 => k_is)
    (case a17 => k_is)
    (case l17 => k_is)
    (case c17 => k_is)
    (case k17 => k_is)
    (case a18 => k_is)
    (case l18 => k_is)
    (case c18 => k_is)
    (case k18 => k_is)
    (case a19 => k_is)
    (case l19 => k_is)
    (case c19 => k_is)
    (case k19 => k_is)
    (case a20 => k_is)
    (case l20 => k_is)
    (case c20 => k_is)
    (case k20 => k_is)
    (case a21 => k_is)
    (case l21 => k_is)
    (case c21 => k_is)
    (case k21 => k_is)
    (case a22 => k_is)
    (case l22 => k_is)
    (case c22 => k_is)
    (case k22 => k_is)
    (case a23 => k_is)
    (case l23 => k_is)
    (case c23 => k_is)
    (case k23 => k_is)
    (case a24 => k_is)
    (case l24 => k_is)
    (case c24 => k_is)
    (case k24 => k_is)
    (case a25 => k_is)
    (case l25 => k_is)
    (case c25 => k_is)
    (case k25 => k_is)
    (case a26 => k_is)
    (case l26 => k_is)
    (case c26 => k_is)
    (case k26 => k_is)
    (case a27 => k_is)
    (case l27 => k_is)
    (case c27 => k_is)
    (case k27 => k_is)
    (case z1 => k_is)
    (case z2 => k_is)
    (case z3 => k_is)
    (case z4 => k_is)
    (case z5 => k_is)
    (case z6 => k_is)
    (case z7 => k_is)
    (case z8 => k_is)
    (case z9 => k_is)
    (case z10 => k_is)
    (case z11 => k_is)
    (case z12 => k_is)

