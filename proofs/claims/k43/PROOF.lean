import PyProof.Rows.All
import Wide.All
import OpenK.AllK
import Wide.FinOn
import Lean
import PyProof.EqAt
import PyProof.EqKinds
import PyProof.TupleCall
import PySem.Challenge.RW_netcourt_k43_costs_found
set_option Elab.async false
set_option linter.all false
set_option maxRecDepth 100000
/-! THE HAND LAYER, for ints, bools, texts, own classes, DICTS (int and text keys), calls, loops. Paste it whole ahead of your own text; what your proof does not reach may be deleted. -/
namespace L2
open PySem PySem.Spec PyProof.Rows

/-- a key: an int or a str -/
abbrev Key := Sum Int Str
def keyIs : Key → Value → Bool
  | .inl k, v => Value.isInt k v
  | .inr x, v => Value.isStrOf x v
def keyH (w : World) : Key → Int
  | .inl k => hashInt k
  | .inr x => hashStr w x
theorem keyIs_shape : ∀ {k : Key} {v : Value}, keyIs k v = true → (∃ i t, k = Sum.inl i ∧ v = Value.int i t) ∨ (∃ x t, k = Sum.inr x ∧ v = Value.str x t)
  | .inl i, v, h => by
    obtain ⟨t, e⟩ := Value.isInt_shape (k := i) (v := v) h
    exact .inl ⟨i, t, rfl, e⟩
  | .inr x, v, h => by
    obtain ⟨t, e⟩ := Value.isStrOf_shape (x := x) (v := v) h
    exact .inr ⟨x, t, rfl, e⟩
theorem keyIs_int (i : Int) (t : Tok) : keyIs (.inl i) (.int i t) = true := by simp [keyIs, Value.isInt]
theorem keyIs_str (x : Str) (t : Tok) : keyIs (.inr x) (.str x t) = true := by simp [keyIs, Value.isStrOf]
theorem key_ll (a b : Int) : decide ((Sum.inl a : Key) = Sum.inl b) = (a == b) := by
  by_cases e : a = b
  · subst e; simp
  · have h : ¬ (Sum.inl a : Key) = Sum.inl b := fun q => e (Sum.inl.inj q)
    rw [decide_eq_false h]
    exact (beq_eq_false_iff_ne.mpr e).symm
theorem key_rr (a b : Str) : decide ((Sum.inr a : Key) = Sum.inr b) = decide (a = b) := by
  by_cases e : a = b
  · subst e; simp
  · have h : ¬ (Sum.inr a : Key) = Sum.inr b := fun q => e (Sum.inr.inj q)
    rw [decide_eq_false h, decide_eq_false e]
theorem key_lr (a : Int) (b : Str) : decide ((Sum.inl a : Key) = Sum.inr b) = false := decide_eq_false (fun q => nomatch q)
theorem key_rl (a : Str) (b : Int) : decide ((Sum.inr a : Key) = Sum.inl b) = false := decide_eq_false (fun q => nomatch q)

def mixKind (prog : Program) (w : World) : PySem.KeyKind prog w Key where
  is := keyIs
  hash := keyH w
  inj := fun v a b ha hb => by
    rcases keyIs_shape ha with ⟨i, t, rfl, rfl⟩ | ⟨x, t, rfl, rfl⟩
    · rcases keyIs_shape hb with ⟨j, u, rfl, e⟩ | ⟨y, u, rfl, e⟩
      · injection e with e1 _; rw [e1]
      · exact nomatch e
    · rcases keyIs_shape hb with ⟨j, u, rfl, e⟩ | ⟨y, u, rfl, e⟩
      · exact nomatch e
      · injection e with e1 _; rw [e1]
  byValue := fun k v h => by
    rcases keyIs_shape h with ⟨i, t, rfl, rfl⟩ | ⟨x, t, rfl, rfl⟩ <;> rfl
  pyHash := fun hv h => by
    rcases keyIs_shape hv with ⟨i, t, rfl, rfl⟩ | ⟨x, t, rfl, rfl⟩
    · exact wpAny_pyHash_int h
    · exact wpAny_pyHash_str h
  eqBool := fun hu hv h => by
    rcases keyIs_shape hu with ⟨i, t, rfl, rfl⟩ | ⟨x, t, rfl, rfl⟩
    · rcases keyIs_shape hv with ⟨j, u, rfl, rfl⟩ | ⟨y, u, rfl, rfl⟩
      · rw [key_ll] at h; exact wpAny_eqBool_int h
      · rw [key_lr] at h; exact SeqAt.EqAt.int_str i t y u _ _ _ _ h
    · rcases keyIs_shape hv with ⟨j, u, rfl, rfl⟩ | ⟨y, u, rfl, rfl⟩
      · rw [key_rl] at h; exact SeqAt.EqAt.str_int x t j u _ _ _ _ h
      · rw [key_rr] at h; exact wpAny_eqBool_str h
  «strs» := fun k x t v h => by
    rcases keyIs_shape h with ⟨i, u, rfl, e⟩ | ⟨y, u, rfl, e⟩
    · exact nomatch e
    · injection e with e1 _
      subst e1
      cases v <;> rfl

theorem mixKind_int (prog : Program) (w : World) (i : Int) (t : Tok) : (mixKind prog w).is (.inl i) (.int i t) = true := keyIs_int i t
theorem mixKind_str (prog : Program) (w : World) (x : Str) (t : Tok) : (mixKind prog w).is (.inr x) (.str x t) = true := keyIs_str x t
end L2

namespace L2
open PySem PySem.Spec PyProof.Rows

/-- a value, without the heap -/
inductive V where
  | non | bl (b : Bool) | int (i : Int) | str (x : Str) | byt (b : Array UInt8) | flt (b : UInt64) | ref (a : Addr) | ty (n : String)
  deriving DecidableEq

def RelV : V → Value → Prop
  | .non, u => u = Value.none
  | .bl b, u => u = Value.bool b
  | .int i, u => ∃ t, u = Value.int i t
  | .str x, u => ∃ t, u = Value.str x t
  | .byt b, u => ∃ t, u = Value.bytes b t
  | .flt b, u => ∃ t, u = Value.float b t
  | .ref a, u => u = Value.ref a
  | .ty n, u => u = Value.type n

abbrev Vals : List V → List Value → Prop := Paired RelV
theorem Vals.length {xs : List V} {us : List Value} (r : Vals xs us) : xs.length = us.length := Paired.length r
theorem Vals.get : ∀ {xs : List V} {us : List Value} {i : Nat} {x : V}, Vals xs us → xs[i]? = some x → ∃ u, us[i]? = some u ∧ RelV x u
  | _, _, _, _, .nil, e => by simp at e
  | _, _, 0, _, .cons r _, e => by simp at e; subst e; exact ⟨_, rfl, r⟩
  | _, _, i + 1, x, .cons _ t, e => by
    obtain ⟨u, h1, h2⟩ := Vals.get (i := i) (x := x) t (by simpa using e)
    exact ⟨u, by simpa using h1, h2⟩
theorem Vals.append : ∀ {xs ys : List V} {us ws : List Value}, Vals xs us → Vals ys ws → Vals (xs ++ ys) (us ++ ws)
  | _, _, _, _, .nil, s => s
  | _, _, _, _, .cons r t, s => .cons r (Vals.append t s)
theorem Vals.take : ∀ {xs : List V} {us : List Value} (n : Nat), Vals xs us → Vals (xs.take n) (us.take n)
  | _, _, 0, _ => .nil
  | _, _, _ + 1, .nil => .nil
  | _, _, n + 1, .cons r t => .cons r (Vals.take n t)
theorem Vals.drop : ∀ {xs : List V} {us : List Value} (n : Nat), Vals xs us → Vals (xs.drop n) (us.drop n)
  | _, _, 0, r => r
  | _, _, _ + 1, .nil => .nil
  | _, _, n + 1, .cons _ t => Vals.drop n t
def RelO : Option V → Option Value → Prop
  | some v, some u => RelV v u
  | none, none => True
  | _, _ => False
def KV {κ : Type} : List (κ × V) → List (κ × Value) → Prop := Paired fun (p : κ × V) (q : κ × Value) => p.1 = q.1 ∧ RelV p.2 q.2

/-- a key of a dict (00_mix): an int or a text -/
def kV : Key → V
  | .inl i => .int i
  | .inr x => .str x

/-- what stands at a tracked address -/
inductive HO where
  /-- a list -/
  | lst (xs : List V)
  /-- a tuple (never changes) -/
  | tup (xs : List V)
  /-- a dict whose keys are ints and texts; one whose keys are tuples of ints and texts (the empty one is both) -/
  | dK (kvs : List (Key × V)) | dT (kvs : List (List Key × V))
  /-- a set of ints: its members, its size -/
  | set (S : Int → Bool) (n : Nat)
  /-- an instance of the class at C, its dict at dx, its attributes -/
  | ins (C dx : Addr) (fs : List (Str × V))
  /-- the dict of the instance at x -/
  | own (x : Addr)
  /-- the dict of an exception -/
  | xd (fs : List (Str × V))
  /-- a bound method, f of x -/
  | met (f x : Addr)
  /-- a range object lo, lo + 1, .. below hi -/
  | rng (lo hi : Int)
  /-- a thing that is known to the object (the script; a dict while a loop walks it): read, never written while it is so -/
  | frz (o : Obj) (u : HO)
  /-- a code object's table -/
  | tbl (ps : Array Value)
  /-- any other thing, by what is true of its one object (a def of one's own: SetO a S n := HO.ext fun h => ..) -/
  | ext (φ : Heap → Prop)

abbrev Hp := Addr → Option HO
def upd (H : Hp) (a : Addr) (o : HO) : Hp := fun b => if b = a then some o else H b
theorem upd_same {H : Hp} {a : Addr} {o : HO} : upd H a o a = some o := by unfold upd; rw [if_pos rfl]
theorem upd_ne {H : Hp} {a b : Addr} {o : HO} (h : b ≠ a) : upd H a o b = H b := by unfold upd; rw [if_neg h]
/-- two objects of different content stand apart -/
theorem ne_of {H : Hp} {a b : Addr} {o u : HO} (h : H a = some o) (h' : H b = some u) (d : o ≠ u) : a ≠ b := by
  intro e; subst e; rw [h] at h'; exact d (Option.some.inj h')
theorem ne_of_none {H : Hp} {a b : Addr} {o : HO} (h : H a = some o) (h' : H b = none) : a ≠ b := by
  intro e; subst e; rw [h] at h'; cases h'

section
variable (P : Program) (w : World)
def ObjOk (H : Hp) (h : Heap) (a : Addr) : HO → Prop
  | .lst xs => xs.length ≤ sizeLine ∧ ∃ (its : List Value) (n : Nat), Vals xs its ∧ h.get? a = some { cls := .type "list", data := .seq its.toArray n }
  | .tup xs => xs.length ≤ sizeLine ∧ ∃ its : List Value, Vals xs its ∧ IsTup h a its.toArray
  | .dK kvs => kvs.length ≤ sizeLine ∧ (a == sysModules) = false ∧ ∃ vs, KV kvs vs ∧ h.DictOf (mixKind P w) a vs
  | .dT kvs => kvs.length ≤ sizeLine ∧ (a == sysModules) = false ∧ ∃ xs : List (List Key × Addr × Value),
      Paired (fun (p : List Key × V) (q : List Key × Addr × Value) => p.1 = q.1 ∧ H q.2.1 = some (.tup (p.1.map kV)) ∧ RelV p.2 q.2.2) kvs xs ∧
      ∃ o es ep, h.get? a = some o ∧ o.ExactDict ∧ o.data = .dict es ep ∧ es.toList = xs.map (entryOfKey (tupleKind (mixKind P w))) ∧ (xs.map (·.1)).Nodup
  | .set S n => h.SetOf (intKind P w) a S n
  | .ins C dx fs => H dx = some (.own a) ∧ fs.length ≤ 1000 ∧ dx ≠ a ∧ h.get? a = some (PySem.W.instObj C dx) ∧
      ∃ mA, h.Ns1 dx mA ∧ (∀ f, RelO (fs.lookup f) (mA f)) ∧ PySem.Within mA (fs.map (·.1))
  | .own _ => ∃ o, h.get? a = some o
  | .xd fs => ∃ mA, h.Ns1 a mA ∧ ∀ f, RelO (fs.lookup f) (mA f)
  | .rng lo hi => ∃ t u v, h.get? a = some { cls := .type "range", data := .fields #[.int lo t, .int hi u, .int 1 v] }
  | .frz o u => h.get? a = some o ∧ ObjOk H h a u
  | .tbl ps => h.get? a = some { cls := .none, data := .fields ps }
  | .met f x => h.get? a = some (PySem.W.methodObj (.ref f) (.ref x))
  | .ext φ => φ h ∧ (∃ o, h.get? a = some o) ∧ ∀ h1 h2 : Heap, φ h1 → (∀ o, h1.get? a = some o → h2.get? a = some o) → φ h2
/-- the abstract heap is held -/
def HOk (H : Hp) (h : Heap) : Prop := ∀ a o, H a = some o → ObjOk P w H h a o
end

section
variable {P : Program} {w : World} {H H' : Hp} {h h' : Heap} {a : Addr} {o : HO}
theorem ObjOk.lt (x : ObjOk P w H h a o) : a < h.objs.size := by
  cases o with
  | lst xs => obtain ⟨_, _, _, _, e⟩ := x; exact Heap.lt_size e
  | tup xs => obtain ⟨_, _, _, p⟩ := x; exact p.lt
  | dK kvs => obtain ⟨_, _, _, _, o, _, _, e, _⟩ := x; exact Heap.lt_size e
  | dT kvs => obtain ⟨_, _, _, _, o, _, _, e, _⟩ := x; exact Heap.lt_size e
  | set S n => obtain ⟨o, _, _, _, e, _⟩ := x; exact Heap.lt_size e
  | ins C dx fs => obtain ⟨_, _, _, e, _⟩ := x; exact Heap.lt_size e
  | own y => obtain ⟨_, e⟩ := x; exact Heap.lt_size e
  | xd fs => obtain ⟨_, ⟨_, _, _, e, _⟩, _⟩ := x; exact Heap.lt_size e
  | rng lo hi => obtain ⟨_, _, _, e⟩ := x; exact Heap.lt_size e
  | frz ob u => obtain ⟨e, _⟩ := x; exact Heap.lt_size e
  | tbl ps => exact Heap.lt_size (show h.get? a = some _ from x)
  | met f y => exact Heap.lt_size (show h.get? a = some _ from x)
  | ext φ => obtain ⟨_, ⟨_, e⟩, _⟩ := x; exact Heap.lt_size e
theorem Paired.mapP {α β : Type} {F G : α → β → Prop} : ∀ {l₁ : List α} {l₂ : List β}, Paired F l₁ l₂ → (∀ a b, F a b → G a b) → Paired G l₁ l₂
  | _, _, .nil, _ => .nil
  | _, _, .cons r t, f => .cons (f _ _ r) (Paired.mapP t f)
/-- what an object's description leans on: its own object, its own dict, the tuples -/
theorem ObjOk.stay (x : ObjOk P w H h a o) (k : ∀ b u, (b = a ∨ H b = some (.own a)) → h.get? b = some u → h'.get? b = some u)
    (ho : ∀ b, H b = some (.own a) → H' b = some (.own a)) (ht : ∀ b xs, H b = some (.tup xs) → H' b = some (.tup xs)) : ObjOk P w H' h' a o := by
  induction o with
  | lst xs => obtain ⟨z, its, n, r, e⟩ := x; exact ⟨z, its, n, r, k _ _ (.inl rfl) e⟩
  | tup xs => obtain ⟨z, its, r, ob, e, c⟩ := x; exact ⟨z, its, r, ob, k _ _ (.inl rfl) e, c⟩
  | dK kvs => obtain ⟨z, y, vs, r, ob, es, ep, e, c⟩ := x; exact ⟨z, y, vs, r, ob, es, ep, k _ _ (.inl rfl) e, c⟩
  | dT kvs =>
    obtain ⟨z, y, xs, r, ob, es, ep, e, c⟩ := x
    exact ⟨z, y, xs, Paired.mapP r fun p q z => ⟨z.1, ht _ _ z.2.1, z.2.2⟩, ob, es, ep, k _ _ (.inl rfl) e, c⟩
  | set S n => obtain ⟨ob, es, ep, t, e, c⟩ := x; exact ⟨ob, es, ep, t, k _ _ (.inl rfl) e, c⟩
  | ins C dx fs =>
    obtain ⟨d, z, ne, e, mA, ⟨od, es, ep, e2, c⟩, r⟩ := x
    exact ⟨ho _ d, z, ne, k _ _ (.inl rfl) e, mA, ⟨od, es, ep, k _ _ (.inr d) e2, c⟩, r⟩
  | own y => obtain ⟨ob, e⟩ := x; exact ⟨ob, k _ _ (.inl rfl) e⟩
  | xd fs => obtain ⟨mA, ⟨od, es, ep, e, c⟩, r⟩ := x; exact ⟨mA, ⟨od, es, ep, k _ _ (.inl rfl) e, c⟩, r⟩
  | rng lo hi => obtain ⟨t, u, v, e⟩ := x; exact ⟨t, u, v, k _ _ (.inl rfl) e⟩
  | frz ob u ih => obtain ⟨e, q⟩ := x; exact ⟨k _ _ (.inl rfl) e, ih q⟩
  | tbl ps =>
    have e : h.get? a = some { cls := .none, data := .fields ps } := x
    show h'.get? a = some { cls := .none, data := .fields ps }
    exact k a _ (.inl rfl) e
  | met f y =>
    have e : h.get? a = some (PySem.W.methodObj (.ref f) (.ref y)) := x
    show h'.get? a = some (PySem.W.methodObj (.ref f) (.ref y))
    exact k a _ (.inl rfl) e
  | ext φ => obtain ⟨p, ⟨o, e⟩, st⟩ := x; exact ⟨st _ _ p fun o q => k _ _ (.inl rfl) q, ⟨o, k _ _ (.inl rfl) e⟩, st⟩
theorem HOk.lt (x : HOk P w H h) (e : H a = some o) : a < h.objs.size := (x a o e).lt
theorem HOk.fresh (x : HOk P w H h) (e : h.objs.size ≤ a) : H a = none := by
  cases q : H a with
  | none => rfl
  | some u => exact absurd (Nat.lt_of_lt_of_le (x.lt q) e) (Nat.lt_irrefl _)
/-- every object of the heap is kept -/
theorem HOk.kept (x : HOk P w H h) (k : ∀ b u, h.get? b = some u → h'.get? b = some u) : HOk P w H h' := fun a o e =>
  (x a o e).stay (fun b u _ q => k b u q) (fun _ q => q) fun _ _ q => q
/-- a new object is laid and tracked -/
theorem HOk.laid (x : HOk P w H h) (k : ∀ b u, h.get? b = some u → h'.get? b = some u) (hp : h.objs.size ≤ a) (new : ObjOk P w (upd H a o) h' a o) : HOk P w (upd H a o) h' := fun b u e => by
  have hn := x.fresh hp
  by_cases hb : b = a
  · subst hb; rw [upd_same] at e; cases e; exact new
  · rw [upd_ne hb] at e
    exact (x b u e).stay (fun c v _ q => k c v q) (fun c q => by rw [upd_ne (ne_of_none q hn)]; exact q) fun c xs q => by rw [upd_ne (ne_of_none q hn)]; exact q
end

/-- what may be read as u: it is u, or a known u -/
def Rd (H : Hp) (a : Addr) (u : HO) : Prop := H a = some u ∨ ∃ o, H a = some (.frz o u)
theorem Rd.ok {P : Program} {w : World} {H : Hp} {h : Heap} {a : Addr} {u : HO} (r : Rd H a u) (x : HOk P w H h) : ObjOk P w H h a u := by
  rcases r with r | ⟨o, r⟩
  · exact x a u r
  · obtain ⟨_, q⟩ := x a _ r
    exact q
/-- what may be written -/
def Mut : Option HO → Prop
  | some (.lst _) => True
  | some (.dK _) => True
  | some (.dT _) => True
  | some (.set _ _) => True
  | some (.ins _ _ _) => True
  | some (.ext _) => True
  | _ => False
section
variable {P : Program} {w : World} {H : Hp} {h h' : Heap} {x e : Addr} {o' : HO}
/-- the object at e is changed: x itself, or the dict of the instance x -/
theorem HOk.write (ok : HOk P w H h) (mu : Mut (H x)) (he : e = x ∨ H e = some (.own x)) (k : ∀ b u, b ≠ e → h.get? b = some u → h'.get? b = some u) (heo : ∃ u, h'.get? e = some u)
    (new : ObjOk P w (upd H x o') h' x o') : HOk P w (upd H x o') h' := fun b u q => by
  have nown : ∀ c y, H c = some (.own y) → c ≠ x := fun c y r z => by subst z; rw [r] at mu; exact mu
  have ntup : ∀ c xs, H c = some (.tup xs) → c ≠ x := fun c xs r z => by subst z; rw [r] at mu; exact mu
  by_cases hb : b = x
  · subst hb; rw [upd_same] at q; cases q; exact new
  · rw [upd_ne hb] at q
    by_cases hbe : b = e
    · have q' : H b = some (.own x) := by
        rcases he with z | z
        · exact absurd (hbe.trans z) hb
        · rw [hbe]; exact z
      rw [q] at q'; cases q'
      obtain ⟨v, hv⟩ := heo
      exact ⟨v, by rw [hbe]; exact hv⟩
    · refine (ok b u q).stay (fun c v hc r => k c v ?_ r) (fun c r => by rw [upd_ne (nown c b r)]; exact r) fun c xs r => by rw [upd_ne (ntup c xs r)]; exact r
      rcases hc with rfl | hc
      · exact hbe
      · rintro rfl
        rcases he with z | z
        · exact nown c b hc z
        · rw [hc] at z; cases z; exact hb rfl
end

/-! ### kept unless tracked; of the frames at fs (the callers') the slots may change (an exception that passes writes there); of the records at ex (iterators) nothing is said -/
structure Un (fs ex : List Addr) (H H' : Hp) (h h' : Heap) : Prop where
  keep : ∀ b o, h.get? b = some o → H b = none → b ∉ fs → b ∉ ex → h'.get? b = some o
  slot : ∀ b o, h.get? b = some o → H b = none → b ∈ fs → b ∉ ex → ∃ sl, h'.get? b = some { o with slots := sl }
  free : ∀ b o, h.get? b = some o → H b = none → b ∉ ex → H' b = none
  there : ∀ b o, h.get? b = some o → b ∉ ex → ∃ o', h'.get? b = some o'
  tups : ∀ b xs, H b = some (.tup xs) → H' b = some (.tup xs)
  frzs : ∀ b o u, H b = some (.frz o u) → H' b = some (.frz o u)
  tbls : ∀ b ps, H b = some (.tbl ps) → ∃ more, H' b = some (.tbl (ps ++ more))
section
variable {fs fs' ex ex' : List Addr} {H H1 H2 : Hp} {h h1 h2 h' : Heap} {a x e : Addr} {o : HO}
theorem Un.any (u : Un fs ex H H1 h h1) {b : Addr} {ob : Obj} (q : h.get? b = some ob) (n : H b = none) (hx : b ∉ ex) : ∃ sl, h1.get? b = some { ob with slots := sl } := by
  by_cases hb : b ∈ fs
  · exact u.slot b ob q n hb hx
  · exact ⟨ob.slots, u.keep b ob q n hb hx⟩
theorem Un.kept (k : ∀ b u, h.get? b = some u → h'.get? b = some u) : Un fs ex H H h h' :=
  ⟨fun b ob q _ _ _ => k b ob q, fun b ob q _ _ _ => ⟨ob.slots, k b ob q⟩, fun _ _ _ n _ => n, fun b ob q _ => ⟨ob, k b ob q⟩, fun _ _ q => q, fun _ _ _ q => q, fun _ ps q => ⟨#[], by rw [q]; simp⟩⟩
theorem Un.refl : Un fs ex H H h h := Un.kept fun _ _ q => q
theorem Un.laid (k : ∀ b u, h.get? b = some u → h'.get? b = some u) (hp : h.objs.size ≤ a) (hn : H a = none) : Un fs ex H (upd H a o) h h' where
  keep := fun b u q _ _ _ => k b u q
  slot := fun b u q _ _ _ => ⟨u.slots, k b u q⟩
  free := fun b u q n _ => by rw [upd_ne (Nat.ne_of_lt (Nat.lt_of_lt_of_le (Heap.lt_size q) hp))]; exact n
  there := fun b u q _ => ⟨u, k b u q⟩
  tups := fun b xs q => by rw [upd_ne (ne_of_none q hn)]; exact q
  frzs := fun b u xs q => by rw [upd_ne (ne_of_none q hn)]; exact q
  tbls := fun b ps q => ⟨#[], by rw [upd_ne (ne_of_none q hn), q]; simp⟩
theorem Un.write (mu : Mut (H x)) (he : e = x ∨ H e = some (.own x)) (k : ∀ b u, b ≠ e → h.get? b = some u → h'.get? b = some u) (heo : ∃ u, h'.get? e = some u) : Un fs ex H (upd H x o) h h' := by
  have hx : ∀ b, H b = none → b ≠ x := fun b n z => by subst z; rw [n] at mu; exact mu
  have hb : ∀ b, H b = none → b ≠ e := fun b n z => by
    subst z
    rcases he with r | r
    · exact hx b n r
    · rw [n] at r; cases r
  have hm : ∀ b u, H b = some u → ¬ Mut (some u) → b ≠ x := fun b u q nm z => by subst z; rw [q] at mu; exact nm mu
  refine ⟨fun b u q n _ _ => k b u (hb b n) q, fun b u q n _ _ => ⟨u.slots, k b u (hb b n) q⟩, fun b u q n _ => by rw [upd_ne (hx b n)]; exact n, fun b u q _ => ?_,
    fun b xs q => by rw [upd_ne (hm b _ q fun z => z)]; exact q, fun b u xs q => by rw [upd_ne (hm b _ q fun z => z)]; exact q, fun b ps q => ⟨#[], by rw [upd_ne (hm b _ q fun z => z), q]; simp⟩⟩
  by_cases hbe : b = e
  · subst hbe; exact heo
  · exact ⟨u, k b u hbe q⟩
end

/-! ### the heap without what is tracked -/
def trk (h : Heap) (H : Hp) : List Addr := (List.range h.objs.size).filter fun a => (H a).isSome
def hidT (h : Heap) (H : Hp) : Heap := PySem.W.hideAll h (trk h H)
theorem hidT_size (h : Heap) (H : Hp) : (hidT h H).objs.size = h.objs.size := PySem.W.hideAll_size _ _
theorem hidT_get {h : Heap} {H : Hp} {b : Addr} {o : Obj} (e : h.get? b = some o) (n : H b = none) : (hidT h H).get? b = some o :=
  PySem.W.hideAll_get _ e fun hm => by
    have q : (H b).isSome = true := (List.mem_filter.mp hm).2
    rw [n] at q; simp at q
theorem of_hidT {h : Heap} {H : Hp} {b : Addr} {o : Obj} (e : (hidT h H).get? b = some o) : h.get? b = some o ∧ H b = none := by
  have e' : h.get? b = some o := PySem.W.of_hideAll (trk h H) e
  refine ⟨e', ?_⟩
  cases q : H b with
  | none => rfl
  | some x =>
    have hm : b ∈ trk h H := List.mem_filter.mpr ⟨List.mem_range.mpr (Heap.lt_size e'), by simp [q]⟩
    have z : (hidT h H).get? b = none := PySem.W.hideAll_none (trk h H) hm
    rw [z] at e; cases e

/-! ### OpenK's ledger, filled with every new object but one -/
end L2

namespace L2
open PySem PySem.Spec PyProof.Rows

/-- the module's facts, over the base: the heap at the law's entry without what is tracked there -/
structure Mod (K : PySem.W.Frag) (mg : Str → Option Value) (base : Heap) : Prop where
  kin : K.In base
  glob : base.Ns mainGlobals mg
  blt : ∃ mb, base.Ns builtinsNs mb ∧ ∀ x : Str, x ≠ "__name__" → mb x = bootBuiltins x
  nolimit : base.NoLimit

/-- the context: a def's body (or a comprehension's block) running. base: fixed through the whole law; s₀, H₀: the entry; outer: the frames whose slots others may change (a def's callers); stack: all frames that run;
   ex: iterators that were made ahead of the entry and are walked here (a comprehension's); fn: the names whose cells were made at the entry (a def: all; a comprehension's block: its own); calm: not within an except suite; pn: pins that every state bears; xe: what is wanted of an exception that leaves the code -/
structure Cx where
  prog : Program
  w : World
  K : PySem.W.Frag
  mg : Str → Option Value
  base : Heap
  A : Around
  N : List Str
  s₀ : Shared
  H₀ : Hp
  env : Env
  outer : List Env
  stack : List Env
  ex : List Addr
  fn : Str → Bool
  calm : Bool
  pn : List (Addr × Obj)
  xe : Value → Shared → Prop
/-- the callers' frames -/
def frs (l : List Env) : List Addr := l.filterMap (·.frame)
abbrev Cx.fs (X : Cx) : List Addr := frs X.outer

def Vis (sc : Scope) (x : Str) : Prop := sc.names.lookup x = some .local ∨ sc.names.lookup x = some .cell ∨ sc.names.lookup x = some .free
def Loc (sc : Scope) (x : Str) : Prop := sc.names.lookup x = some .local ∨ sc.names.lookup x = some .cell
def Look (env : Env) (h : Heap) (m : Str → Option Value) (x : Str) (u : Value) : Prop :=
  (env.kindOf x = some .local ∧ m x = some u) ∨ ((env.kindOf x = some .cell ∨ env.kindOf x = some .free) ∧ ∃ c, env.cells.lookup x = some c ∧ h.IsCell c (some u))

structure Cx.Ok (X : Cx) : Prop where
  mod : Mod X.K X.mg X.base
  kind : X.env.scope.kind = .function
  glob : X.env.globals = mainGlobals
  blt : X.env.builtins = builtinsNs
  above : X.s₀.heap.objs.size ≤ X.env.locals
  inj : ∀ x y c, X.env.cells.lookup x = some c → X.env.cells.lookup y = some c → x = y
  has : ∀ x, (X.env.kindOf x = some .cell ∨ X.env.kindOf x = some .free) → ∃ c, X.env.cells.lookup x = some c
  cab : ∀ x c, X.fn x = true → X.env.cells.lookup x = some c → X.s₀.heap.objs.size ≤ c
  hd : X.calm = true → X.A.handled = none
  frames : X.A.frames = some X.stack
  stk : X.stack = X.outer ∨ (X.stack = X.env :: X.outer ∧ X.env.frame = some X.env.locals)
  exf : ∀ b ∈ X.ex, b ≠ X.env.locals ∧ ∀ x c, X.env.cells.lookup x = some c → c ≠ b
  bs : ∀ b o, X.base.get? b = some o → X.s₀.heap.get? b = some o ∧ X.H₀ b = none
  bsz : X.base.objs.size ≤ X.s₀.heap.objs.size
  noex : ∀ b o, X.base.get? b = some o → b ∉ X.ex
  exfs : ∀ b ∈ X.ex, b ∉ X.fs
  funs : X.s₀.heap.FunFrames X.base X.outer
  frf : ∀ b ∈ X.fs, X.H₀ b = none

structure Inv (X : Cx) (pins : List (Addr × Obj)) (σ : List (Option V)) (H : Hp) (s : Shared) : Prop where
  ok : X.Ok
  os : s.os = X.s₀.os
  bare : AllBare s.gens
  base : Un X.fs X.ex X.H₀ H X.s₀.heap s.heap
  loc : ∃ m, s.heap.Ns X.env.locals m ∧ ∀ (i : Nat) (x : Str) (v : V), X.N[i]? = some x → σ[i]? = some (some v) → Vis X.env.scope x → ∃ u, RelV v u ∧ Look X.env s.heap m x u
  cell : ∀ x c, X.env.cells.lookup x = some c → ∃ v, s.heap.IsCell c v
  free : H X.env.locals = none
  freeC : ∀ x c, X.env.cells.lookup x = some c → H c = none
  pin : ∀ p ∈ X.pn ++ pins, s.heap.get? p.1 = some p.2 ∧ H p.1 = none ∧ p.1 ≠ X.env.locals ∧ p.1 ∉ X.fs ∧ ∀ v, p.2.data ≠ .cell v
  hok : HOk X.prog X.w H s.heap
  len : σ.length = X.N.length

section
variable {X : Cx} {pins : List (Addr × Obj)} {σ : List (Option V)} {H H' : Hp} {s : Shared} {h' : Heap}

theorem Cx.Ok.nofr (ok : X.Ok) {b : Addr} {o : Obj} (e : X.base.get? b = some o) : b ∉ X.fs := fun hb => by
  have := (ok.funs.mem hb).1
  rw [e] at this; cases this
theorem Inv.bs (I : Inv X pins σ H s) : ∀ b o, X.base.get? b = some o → s.heap.get? b = some o ∧ H b = none := fun b o e =>
  ⟨I.base.keep b o (I.ok.bs b o e).1 (I.ok.bs b o e).2 (I.ok.nofr e) (I.ok.noex b o e), I.base.free b o (I.ok.bs b o e).1 (I.ok.bs b o e).2 (I.ok.noex b o e)⟩
theorem Inv.bk (I : Inv X pins σ H s) : ∀ b o, X.base.get? b = some o → s.heap.get? b = some o := fun b o e => (I.bs b o e).1
theorem Inv.mod (I : Inv X pins σ H s) : Mod X.K X.mg X.base := I.ok.mod
theorem Inv.kIn (I : Inv X pins σ H s) : X.K.In s.heap := I.ok.mod.kin.keeps I.bk
theorem Inv.lt (I : Inv X pins σ H s) : X.env.locals < s.heap.objs.size := let ⟨_, hn, _⟩ := I.loc; hn.lt
theorem Inv.sz (I : Inv X pins σ H s) : X.s₀.heap.objs.size ≤ s.heap.objs.size := Nat.le_trans I.ok.above (Nat.le_of_lt I.lt)
theorem Inv.nofs (I : Inv X pins σ H s) {a : Addr} (h : s.heap.objs.size ≤ a) : a ∉ X.fs := fun hb => by
  obtain ⟨_, o, ho, _⟩ := I.ok.funs.mem hb
  exact absurd (Nat.lt_of_lt_of_le (Heap.lt_size ho) (Nat.le_trans I.sz h)) (Nat.lt_irrefl _)
theorem Inv.cne (I : Inv X pins σ H s) : ∀ x c, X.env.cells.lookup x = some c → c ≠ X.env.locals := fun x c e z => by
  obtain ⟨v, o, ho, hd⟩ := I.cell x c e
  obtain ⟨m, ⟨o', es, ep, ho', hd', _⟩, _⟩ := I.loc
  rw [z, ho'] at ho; cases ho; rw [hd'] at hd; cases hd
theorem Inv.funs (I : Inv X pins σ H s) : s.heap.FunFrames X.base X.outer := by
  have all : ∀ (l : List Env), (∀ b ∈ frs l, b ∈ X.fs) → X.s₀.heap.FunFrames X.base l → s.heap.FunFrames X.base l := by
    intro l
    induction l with
    | nil => intro _ _; trivial
    | cons env r ih =>
      intro hs hl
      obtain ⟨hk, ⟨L, o, hf, hn, ho, hd⟩, hr⟩ := hl
      have hL : L ∈ X.fs := hs L (by unfold frs; rw [List.filterMap_cons, hf]; exact List.mem_cons_self)
      obtain ⟨sl, e⟩ := I.base.slot L o ho (I.ok.frf L hL) hL fun z => I.ok.exfs L z hL
      exact ⟨hk, ⟨L, _, hf, hn, e, hd⟩, ih (fun b hb => hs b (by unfold frs; rw [List.filterMap_cons, hf]; exact List.mem_cons_of_mem _ hb)) hr⟩
  exact all X.outer (fun _ hb => hb) I.ok.funs

/-- the frames that run, for a call -/
theorem Inv.stack (I : Inv X pins σ H s) : s.heap.FunFrames X.base X.stack := by
  rcases I.ok.stk with e | ⟨e, hf⟩
  · rw [e]; exact I.funs
  · rw [e]
    obtain ⟨m, hn, _⟩ := I.loc
    refine .cons (by rw [I.ok.kind]; decide) hf hn ?_ I.funs
    exact Heap.get?_none_of_le (Nat.le_trans I.ok.bsz I.ok.above)
theorem Inv.stkSub (I : Inv X pins σ H s) : ∀ b ∈ frs X.stack, b ∈ X.env.locals :: X.fs := fun b hb => by
  rcases I.ok.stk with e | ⟨e, hf⟩
  · rw [e] at hb; exact List.mem_cons_of_mem _ hb
  · rw [e] at hb
    unfold frs at hb
    rw [List.filterMap_cons, hf] at hb
    exact hb
theorem Inv.stkFree (I : Inv X pins σ H s) : ∀ b ∈ frs X.stack, H b = none := fun b hb => by
  rcases List.mem_cons.mp (I.stkSub b hb) with e | hb
  · rw [e]; exact I.free
  · obtain ⟨_, o, ho, _⟩ := I.ok.funs.mem hb
    exact I.base.free b o ho (I.ok.frf b hb) fun z => I.ok.exfs b z hb

/-- THE STEP: the untracked objects but the frame and the records at ch are kept (the callers' frames up to slots), the frame's map is kept, the new abstract heap is held -/
theorem Inv.step {g' : Array GenState} {t' : Nat} {d' : Drawn} {ch : List Addr} (I : Inv X pins σ H s)
    (hch : ∀ b ∈ ch, (b ∈ X.ex ∨ X.s₀.heap.objs.size ≤ b) ∧ b ≠ X.env.locals ∧ (∀ x c, X.env.cells.lookup x = some c → c ≠ b) ∧ ∀ p ∈ X.pn ++ pins, p.1 ≠ b)
    (keep : ∀ b o, b ≠ X.env.locals → b ∉ X.fs → b ∉ ch → s.heap.get? b = some o → H b = none → h'.get? b = some o)
    (slot : ∀ b o, b ≠ X.env.locals → b ∈ X.fs → b ∉ ch → s.heap.get? b = some o → H b = none → ∃ sl, h'.get? b = some { o with slots := sl }) (free : ∀ b o, b ∉ ch → s.heap.get? b = some o → H b = none → H' b = none)
    (there : ∀ b o, b ∉ ch → s.heap.get? b = some o → ∃ o', h'.get? b = some o')
    (tups : ∀ b xs, H b = some (.tup xs) → H' b = some (.tup xs)) (frzs : ∀ b o u, H b = some (.frz o u) → H' b = some (.frz o u)) (tbls : ∀ b ps, H b = some (.tbl ps) → ∃ more, H' b = some (.tbl (ps ++ more)))
    (ns : ∀ m, s.heap.Ns X.env.locals m → h'.Ns X.env.locals m) (hok : HOk X.prog X.w H' h') (hg : AllBare g') :
    Inv X pins σ H' { s with heap := h', gens := g', drawn := d', toks := t' } := by
  have neL : ∀ b o, X.s₀.heap.get? b = some o → b ≠ X.env.locals := fun b o e => Nat.ne_of_lt (Nat.lt_of_lt_of_le (Heap.lt_size e) I.ok.above)
  have neC : ∀ b o, X.s₀.heap.get? b = some o → b ∉ X.ex → b ∉ ch := fun b o e hx hb => by
    rcases (hch b hb).1 with z | z
    · exact hx z
    · exact absurd (Nat.lt_of_lt_of_le (Heap.lt_size e) z) (Nat.lt_irrefl _)
  have cellK : ∀ x c, X.env.cells.lookup x = some c → ∀ v, s.heap.IsCell c v → h'.IsCell c v := fun x c e v ⟨o, ho, hd⟩ => by
    have nch : c ∉ ch := fun z => (hch c z).2.2.1 x c e rfl
    by_cases hc : c ∈ X.fs
    · obtain ⟨sl, q⟩ := slot c o (I.cne x c e) hc nch ho (I.freeC x c e)
      exact ⟨_, q, hd⟩
    · exact ⟨o, keep c o (I.cne x c e) hc nch ho (I.freeC x c e), hd⟩
  refine ⟨I.ok, I.os, hg, ⟨fun b o e n hb hx => ?_, fun b o e n hb hx => ?_, fun b o e n hx => ?_, fun b o e hx => ?_, fun b xs e => tups b xs (I.base.tups b xs e), fun b o xs e => frzs b o xs (I.base.frzs b o xs e), fun b ps e => ?_⟩, ?_, fun x c e => ?_, ?_, fun x c e => ?_, fun p hp => ?_, hok, I.len⟩
  · exact keep b o (neL b o e) hb (neC b o e hx) (I.base.keep b o e n hb hx) (I.base.free b o e n hx)
  · obtain ⟨sl, e1⟩ := I.base.slot b o e n hb hx
    obtain ⟨sl', e2⟩ := slot b _ (neL b o e) hb (neC b o e hx) e1 (I.base.free b o e n hx)
    exact ⟨sl', e2⟩
  · obtain ⟨o', e1⟩ := I.base.there b o e hx
    exact free b o' (neC b o e hx) e1 (I.base.free b o e n hx)
  · obtain ⟨o', e1⟩ := I.base.there b o e hx
    exact there b o' (neC b o e hx) e1
  · obtain ⟨m1, e1⟩ := I.base.tbls b ps e
    obtain ⟨m2, e2⟩ := tbls b _ e1
    exact ⟨m1 ++ m2, by rw [e2, Array.append_assoc]⟩
  · obtain ⟨m, hn, hl⟩ := I.loc
    refine ⟨m, ns m hn, fun i x v e1 e2 e3 => ?_⟩
    obtain ⟨u, r, l⟩ := hl i x v e1 e2 e3
    refine ⟨u, r, ?_⟩
    rcases l with l | ⟨k, c, e, z⟩
    · exact .inl l
    · exact .inr ⟨k, c, e, cellK x c e _ z⟩
  · obtain ⟨v, z⟩ := I.cell x c e
    exact ⟨v, cellK x c e v z⟩
  · obtain ⟨m, ⟨o, _, _, ho, _⟩, _⟩ := I.loc
    exact free _ o (fun z => (hch _ z).2.1 rfl) ho I.free
  · obtain ⟨v, o, ho, hd⟩ := I.cell x c e
    exact free c o (fun z => (hch c z).2.2.1 x c e rfl) ho (I.freeC x c e)
  · obtain ⟨e, n, ne, nf, d⟩ := I.pin p hp
    have nch : p.1 ∉ ch := fun z => (hch p.1 z).2.2.2 p hp rfl
    exact ⟨keep p.1 p.2 ne nf nch e n, free p.1 p.2 nch e n, ne, nf, d⟩
/-- .. where the frame's own object is kept too -/
theorem Inv.un {t' : Nat} (I : Inv X pins σ H s) (u : Un X.fs [] H H' s.heap h') (hok : HOk X.prog X.w H' h') : Inv X pins σ H' { s with heap := h', toks := t' } := by
  obtain ⟨m, ⟨o, es, ep, ho, r⟩, _⟩ := id I.loc
  obtain ⟨sl, hL⟩ := u.any ho I.free (by simp)
  exact I.step (g' := s.gens) (d' := s.drawn) (ch := []) (fun _ z => nomatch z) (fun b o _ hb _ e n => u.keep b o e n hb (by simp)) (fun b o _ hb _ e n => u.slot b o e n hb (by simp)) (fun b o _ e n => u.free b o e n (by simp)) (fun b o _ e => u.there b o e (by simp)) u.tups u.frzs u.tbls (fun m' hm => by
    obtain ⟨o', es', ep', ho', r'⟩ := hm
    rw [ho] at ho'; cases ho'
    exact ⟨_, es', ep', hL, r'⟩) hok I.bare
/-- behind a call (or a comprehension's block): the slots of this frame may have changed too, the records at ch may have turned -/
theorem Inv.call {g' : Array GenState} {t' : Nat} {d' : Drawn} {ch : List Addr} (I : Inv X pins σ H s) (u : Un (frs X.stack) ch H H' s.heap h') (hok : HOk X.prog X.w H' h') (hg : AllBare g')
    (hch : ∀ b ∈ ch, (b ∈ X.ex ∨ X.s₀.heap.objs.size ≤ b) ∧ b ≠ X.env.locals ∧ (∀ x c, X.env.cells.lookup x = some c → c ≠ b) ∧ ∀ p ∈ X.pn ++ pins, p.1 ≠ b) :
    Inv X pins σ H' { s with heap := h', gens := g', drawn := d', toks := t' } := by
  obtain ⟨m, ⟨o, es, ep, ho, r⟩, _⟩ := id I.loc
  obtain ⟨sl, hL⟩ := u.any ho I.free fun z => (hch _ z).2.1 rfl
  exact I.step (ch := ch) hch (fun b o hL hb hc e n => u.keep b o e n (fun z => (List.mem_cons.mp (I.stkSub b z)).elim hL hb) hc) (fun b o _ _ hc e n => u.any e n hc) (fun b o hc e n => u.free b o e n hc) (fun b o hc e => u.there b o e hc) u.tups u.frzs u.tbls (fun m' hm => by
    obtain ⟨o', es', ep', ho', r'⟩ := hm
    rw [ho] at ho'; cases ho'
    exact ⟨_, es', ep', hL, r'⟩) hok hg
/-- an untracked record of ours (an iterator) has turned -/
theorem Inv.turned {t' : Nat} {it : Addr} (I : Inv X pins σ H s) (k : ∀ b o, b ≠ it → s.heap.get? b = some o → h'.get? b = some o) (hn : H it = none) (hL : it ≠ X.env.locals)
    (h1 : it ∈ X.ex ∨ X.s₀.heap.objs.size ≤ it) (h2 : ∀ x c, X.env.cells.lookup x = some c → c ≠ it) (h3 : ∀ p ∈ X.pn ++ pins, p.1 ≠ it) : Inv X pins σ H { s with heap := h', toks := t' } := by
  have nit : ∀ b u, H b = some u → b ≠ it := fun b u e z => by rw [z, hn] at e; cases e
  refine I.step (g' := s.gens) (d' := s.drawn) (ch := [it]) (fun b hb => ?_) (fun b o _ _ hc e _ => k b o (fun z => hc (by simp [z])) e) (fun b o _ _ hc e _ => ⟨o.slots, k b o (fun z => hc (by simp [z])) e⟩) (fun _ _ _ _ n => n)
    (fun b o hc e => ⟨o, k b o (fun z => hc (by simp [z])) e⟩) (fun _ _ e => e) (fun _ _ _ e => e) (fun b ps e => ⟨#[], by rw [e]; simp⟩) (fun m hm => ?_) (fun b u e => ?_) I.bare
  · have e : b = it := by simpa using hb
    subst e
    exact ⟨h1, hL, h2, h3⟩
  · obtain ⟨o, es, ep, ho, r⟩ := hm
    exact ⟨o, es, ep, k _ o (Ne.symm hL) ho, r⟩
  · refine (I.hok b u e).stay (fun c v hc q => k c v ?_ q) (fun _ q => q) fun _ _ q => q
    rcases hc with z | z
    · rw [z]; exact nit b u e
    · exact nit c _ z
theorem Inv.tok (I : Inv X pins σ H s) (t : Nat) : Inv X pins σ H { s with toks := t } := I.un (h' := s.heap) (t' := t) Un.refl I.hok
/-- all objects kept -/
theorem Inv.kept {t' : Nat} (I : Inv X pins σ H s) (k : ∀ b u, s.heap.get? b = some u → h'.get? b = some u) : Inv X pins σ H { s with heap := h', toks := t' } := I.un (Un.kept k) (I.hok.kept k)
/-- a new object laid and tracked -/
theorem Inv.laid {a : Addr} {o : HO} {t' : Nat} (I : Inv X pins σ H s) (k : ∀ b u, s.heap.get? b = some u → h'.get? b = some u) (hp : s.heap.objs.size ≤ a) (new : ObjOk X.prog X.w (upd H a o) h' a o) :
    Inv X pins σ (upd H a o) { s with heap := h', toks := t' } := I.un (Un.laid k hp (I.hok.fresh hp)) (I.hok.laid k hp new)
/-- an object written -/
theorem Inv.write {x e : Addr} {o : HO} {t' : Nat} (I : Inv X pins σ H s) (mu : Mut (H x)) (he : e = x ∨ H e = some (.own x)) (k : ∀ b u, b ≠ e → s.heap.get? b = some u → h'.get? b = some u) (heo : ∃ u, h'.get? e = some u)
    (new : ObjOk X.prog X.w (upd H x o) h' x o) : Inv X pins σ (upd H x o) { s with heap := h', toks := t' } := I.un (Un.write mu he k heo) (I.hok.write mu he k heo new)
theorem Inv.pins_of {pins' : List (Addr × Obj)} (I : Inv X pins σ H s) (h : ∀ p ∈ pins', s.heap.get? p.1 = some p.2 ∧ H p.1 = none ∧ p.1 ≠ X.env.locals ∧ p.1 ∉ X.fs ∧ ∀ v, p.2.data ≠ .cell v) : Inv X pins' σ H s :=
  ⟨I.ok, I.os, I.bare, I.base, I.loc, I.cell, I.free, I.freeC, fun p hp => (List.mem_append.mp hp).elim (fun z => I.pin p (List.mem_append_left _ z)) (h p), I.hok, I.len⟩

theorem nodup_ix {N : List Str} (hN : N.Nodup) {i j : Nat} {x : Str} (a : N[i]? = some x) (b : N[j]? = some x) : i = j := by
  obtain ⟨h1, e1⟩ := List.getElem?_eq_some_iff.mp a
  obtain ⟨h2, e2⟩ := List.getElem?_eq_some_iff.mp b
  exact (List.getElem_inj hN).mp (e1.trans e2.symm)

/-- a name is stored; what changed -/
theorem store_ok2 {M : Model} {A : Around} {E : Value → Shared → Prop} {i : Nat} {x : Str} {v : V} {u : Value} {Q : Unit → Shared → Prop} (I : Inv X pins σ H s) (hN : X.N.Nodup) (hi : X.N[i]? = some x) (hx : Loc X.env.scope x) (r : RelV v u)
    (h : ∀ s', Inv X pins (σ.set i (some v)) H s' → (∃ a, Heap.SameBut a s.heap s'.heap ∧ (a = X.env.locals ∨ X.env.cells.lookup x = some a)) → Q () s') (hf : X.fn x = true ∨ X.env.scope.names.lookup x = some .local := by first | exact .inl rfl | exact .inr rfl | assumption) : wpAny M A (storeName X.env x u) Q E s := by
  obtain ⟨m, hn, hl⟩ := id I.loc
  have hcls : (X.env.scope.kind == .class || (X.env.scope.kind == .module && X.env.locals != X.env.globals)) = false := by rw [I.ok.kind]; rfl
  have hiσ : i < σ.length := by rw [I.len]; exact (List.getElem?_eq_some_iff.mp hi).1
  have cne := I.cne
  have tracked : ∀ {a : Addr} {h' : Heap}, (∃ o, s.heap.get? a = some o ∧ H a = none) → Heap.SameBut a s.heap h' → HOk X.prog X.w H h' := fun {a h'} ha hs b ob e => by
    obtain ⟨_, _, hfree⟩ := ha
    refine (I.hok b ob e).stay (fun c w' hc q => (hs.2 c ?_).trans q) (fun _ q => q) fun _ _ q => q
    rintro rfl
    rcases hc with rfl | hc
    · rw [hfree] at e; cases e
    · rw [hfree] at hc; cases hc
  rcases hx with hk | hk
  · refine wpAny_storeName_local hk hn (fun h' hn' hs => ?_) hcls
    obtain ⟨oL, _, _, hoL, _⟩ := id hn
    refine h _ ⟨I.ok, I.os, I.bare, ⟨fun b o e n hb hx => ?_, fun b o e n hb hx => ?_, I.base.free, fun b o e hx => ?_, I.base.tups, I.base.frzs, I.base.tbls⟩, ⟨_, hn', fun j y v' e1 e2 e3 => ?_⟩, fun y c e => ?_, I.free, I.freeC, fun p hp => ?_, tracked ⟨oL, hoL, I.free⟩ hs, by simpa using I.len⟩ ⟨_, hs, .inl rfl⟩
    · exact (hs.2 b (Nat.ne_of_lt (Nat.lt_of_lt_of_le (Heap.lt_size e) I.ok.above))).trans (I.base.keep b o e n hb hx)
    · obtain ⟨sl, e1⟩ := I.base.slot b o e n hb hx
      exact ⟨sl, (hs.2 b (Nat.ne_of_lt (Nat.lt_of_lt_of_le (Heap.lt_size e) I.ok.above))).trans e1⟩
    · obtain ⟨o', e1⟩ := I.base.there b o e hx
      exact ⟨o', (hs.2 b (Nat.ne_of_lt (Nat.lt_of_lt_of_le (Heap.lt_size e) I.ok.above))).trans e1⟩
    · by_cases hj : j = i
      · subst hj
        rw [hi] at e1; cases e1
        rw [List.getElem?_set_self hiσ] at e2
        cases e2
        exact ⟨u, r, .inl ⟨hk, by simp⟩⟩
      · rw [List.getElem?_set_ne (Ne.symm hj)] at e2
        obtain ⟨u', r', q⟩ := hl j y v' e1 e2 e3
        refine ⟨u', r', ?_⟩
        rcases q with ⟨k, e⟩ | ⟨k, c, e, z⟩
        · refine .inl ⟨k, ?_⟩
          have : y ≠ x := fun e => hj (nodup_ix hN e1 (e ▸ hi))
          simp [this, e]
        · exact .inr ⟨k, c, e, z.sameBut hs (cne y c e)⟩
    · obtain ⟨w', z⟩ := I.cell y c e
      exact ⟨w', z.sameBut hs (cne y c e)⟩
    · obtain ⟨e, n, ne, nf, d⟩ := I.pin p hp
      exact ⟨(hs.2 p.1 ne).trans e, n, ne, nf, d⟩
  · have hfn : X.fn x = true := by
      rcases hf with z | z
      · exact z
      · rw [z] at hk; cases hk
    obtain ⟨c, hc⟩ := I.ok.has x (.inl hk)
    obtain ⟨w', z⟩ := I.cell x c hc
    refine wpAny_storeName_cell I.ok.kind hk hc z (fun h' hc' hs => ?_)
    obtain ⟨oc, hoc, hocd⟩ := id z
    refine h { s with heap := h' } ⟨I.ok, I.os, I.bare, ⟨fun b o e n hb hx => ?_, fun b o e n hb hx => ?_, I.base.free, fun b o e hx => ?_, I.base.tups, I.base.frzs, I.base.tbls⟩, ⟨m, hn.sameBut hs (Ne.symm (cne x c hc)), fun j y v' e1 e2 e3 => ?_⟩, fun y c' e => ?_, I.free, I.freeC, fun p hp => ?_, tracked ⟨oc, hoc, I.freeC x c hc⟩ hs, by simpa using I.len⟩ ⟨c, hs, .inr hc⟩
    · exact (hs.2 b (Nat.ne_of_lt (Nat.lt_of_lt_of_le (Heap.lt_size e) (I.ok.cab x c hfn hc)))).trans (I.base.keep b o e n hb hx)
    · obtain ⟨sl, e1⟩ := I.base.slot b o e n hb hx
      exact ⟨sl, (hs.2 b (Nat.ne_of_lt (Nat.lt_of_lt_of_le (Heap.lt_size e) (I.ok.cab x c hfn hc)))).trans e1⟩
    · obtain ⟨o', e1⟩ := I.base.there b o e hx
      exact ⟨o', (hs.2 b (Nat.ne_of_lt (Nat.lt_of_lt_of_le (Heap.lt_size e) (I.ok.cab x c hfn hc)))).trans e1⟩
    · by_cases hj : j = i
      · subst hj
        rw [hi] at e1; cases e1
        rw [List.getElem?_set_self hiσ] at e2
        cases e2
        exact ⟨u, r, .inr ⟨.inl hk, c, hc, hc'⟩⟩
      · rw [List.getElem?_set_ne (Ne.symm hj)] at e2
        obtain ⟨u', r', q⟩ := hl j y v' e1 e2 e3
        refine ⟨u', r', ?_⟩
        rcases q with q | ⟨k, c', e, z'⟩
        · exact .inl q
        · refine .inr ⟨k, c', e, z'.sameBut hs ?_⟩
          rintro rfl
          exact hj (nodup_ix hN e1 (I.ok.inj _ _ _ e hc ▸ hi))
    · by_cases hcc : c' = c
      · subst hcc; exact ⟨_, hc'⟩
      · obtain ⟨w2, z2⟩ := I.cell y c' e
        exact ⟨w2, z2.sameBut hs hcc⟩
    · obtain ⟨e, n, ne, nf, d⟩ := I.pin p hp
      refine ⟨(hs.2 p.1 ?_).trans e, n, ne, nf, d⟩
      intro q
      rw [q, hoc] at e
      have q' : oc = p.2 := Option.some.inj e
      exact d w' (by rw [← q']; exact hocd)
theorem store_ok {M : Model} {A : Around} {E : Value → Shared → Prop} {i : Nat} {x : Str} {v : V} {u : Value} {Q : Unit → Shared → Prop} (I : Inv X pins σ H s) (hN : X.N.Nodup) (hi : X.N[i]? = some x) (hx : Loc X.env.scope x) (r : RelV v u)
    (h : ∀ s', Inv X pins (σ.set i (some v)) H s' → Q () s') (hf : X.fn x = true ∨ X.env.scope.names.lookup x = some .local := by first | exact .inl rfl | exact .inr rfl | assumption) : wpAny M A (storeName X.env x u) Q E s :=
  store_ok2 I hN hi hx r (fun s' I' _ => h s' I') hf
/-- behind a call or a block, the state as it is -/
theorem Inv.call' {s' : Shared} {ch : List Addr} (I : Inv X pins σ H s) (ho : s'.os = s.os) (u : Un (frs X.stack) ch H H' s.heap s'.heap) (hok : HOk X.prog X.w H' s'.heap) (hg : AllBare s'.gens)
    (hch : ∀ b ∈ ch, (b ∈ X.ex ∨ X.s₀.heap.objs.size ≤ b) ∧ b ≠ X.env.locals ∧ (∀ x c, X.env.cells.lookup x = some c → c ≠ b) ∧ ∀ p ∈ X.pn ++ pins, p.1 ≠ b) : Inv X pins σ H' s' := by
  obtain ⟨h', g', d', t', o'⟩ := s'
  have e : o' = s.os := ho
  subst e
  exact I.call (g' := g') (t' := t') (d' := d') u hok hg hch
end

/-! ### the judgements -/
/-- an exception: its class, its own dict's address (where it has one), the abstract heap behind it -/
abbrev XK := Value → Option Addr → Hp → Prop
abbrev St := List (Option V)
abbrev VK := V → Hp → Prop
/-- an expression's reading; a test's; an argument list's -/
abbrev TE := St → Hp → VK → Prop
abbrev TT := St → Hp → (Bool → Hp → Prop) → Prop
abbrev TA := St → Hp → (List V → Hp → Prop) → Prop
/-- what is wanted behind a statement -/
structure Ends where
  nx : St → Hp → Prop
  rt : VK
  bk : St → Hp → Prop := fun _ _ => False
  ct : St → Hp → Prop := fun _ _ => False
abbrev TS := Ends → St → Hp → Prop

def EP (X : Cx) (pins : List (Addr × Obj)) (σ : St) (Q : VK) (u : Value) (s' : Shared) : Prop := ∃ v H', Inv X pins σ H' s' ∧ RelV v u ∧ Q v H'
def TP (X : Cx) (pins : List (Addr × Obj)) (σ : St) (Q : Bool → Hp → Prop) (b : Bool) (s' : Shared) : Prop := ∃ H', Inv X pins σ H' s' ∧ Q b H'
def AP (X : Cx) (pins : List (Addr × Obj)) (σ : St) (Q : List V → Hp → Prop) (us : List Value) (s' : Shared) : Prop := ∃ vs H', Inv X pins σ H' s' ∧ Vals vs us ∧ Q vs H'
def SP (X : Cx) (pins : List (Addr × Obj)) (D : Ends) (f : Flow) (s' : Shared) : Prop :=
  match f with
  | .next => ∃ σ' H', Inv X pins σ' H' s' ∧ D.nx σ' H'
  | .brk => ∃ σ' H', Inv X pins σ' H' s' ∧ D.bk σ' H'
  | .cont => ∃ σ' H', Inv X pins σ' H' s' ∧ D.ct σ' H'
  | .ret u => ∃ v σ' H', Inv X pins σ' H' s' ∧ RelV v u ∧ D.rt v H'

def PE (X : Cx) (e : Expr) (t : TE) : Prop :=
  ∀ (pins : List (Addr × Obj)) (s : Shared) (σ : St) (H : Hp) (Q : VK), Inv X pins σ H s → t σ H Q → wpAny (model X.prog X.w) X.A (eval e X.env) (EP X pins σ Q) X.xe s
def PT (X : Cx) (e : Expr) (t : TT) : Prop :=
  ∀ (pins : List (Addr × Obj)) (s : Shared) (σ : St) (H : Hp) (Q : Bool → Hp → Prop), Inv X pins σ H s → t σ H Q → wpAny (model X.prog X.w) X.A (isTrue e X.env (eval e X.env)) (TP X pins σ Q) X.xe s
/-- a test whatever its 'whole' is (and, or) -/
def PW (X : Cx) (e : Expr) (t : TT) : Prop :=
  ∀ (whole : Sem Value) (pins : List (Addr × Obj)) (s : Shared) (σ : St) (H : Hp) (Q : Bool → Hp → Prop), Inv X pins σ H s → t σ H Q → wpAny (model X.prog X.w) X.A (isTrue e X.env whole) (TP X pins σ Q) X.xe s
theorem PW.pt {X : Cx} {e : Expr} {t : TT} (h : PW X e t) : PT X e t := h _
/-- an argument list (no star), from the left -/
def PA (X : Cx) (es : List Expr) (t : TA) : Prop :=
  ∀ (pos : Pos) (pins : List (Addr × Obj)) (s : Shared) (σ : St) (H : Hp) (Q : List V → Hp → Prop), Inv X pins σ H s → t σ H Q → wpAny (model X.prog X.w) X.A (spliced (backTo pos (starEach es X.env))) (AP X pins σ Q) X.xe s
def PS (X : Cx) (st : Stmt) (t : TS) : Prop :=
  ∀ (pins : List (Addr × Obj)) (s : Shared) (σ : St) (H : Hp) (D : Ends), Inv X pins σ H s → t D σ H → wpAny (model X.prog X.w) X.A (exec st X.env) (SP X pins D) X.xe s
def PSs (X : Cx) (st : List Stmt) (t : TS) : Prop :=
  ∀ (pins : List (Addr × Obj)) (s : Shared) (σ : St) (H : Hp) (D : Ends), Inv X pins σ H s → t D σ H → wpAny (model X.prog X.w) X.A (execs st X.env) (SP X pins D) X.xe s
/-- weaken the end -/
theorem thn {α : Type} {t : Sem α} {Q Q' : α → Shared → Prop} {M : Model} {A : Around} {E : Value → Shared → Prop} {s : Shared} (h : wpAny M A t Q E s) (hQ : ∀ a s, Q a s → Q' a s) : wpAny M A t Q' E s := wpAny_mono h hQ fun _ _ x => x
end L2

namespace L2
open PySem PySem.Spec PyProof.Rows
section
variable {X : Cx}

/-! ### names and constants -/
def tVar (i : Nat) : TE := fun σ H Q => ∃ v, σ[i]? = some (some v) ∧ Q v H
def tC (v : V) : TE := fun _ H Q => Q v H
theorem pe_var {i : Nat} {x : Str} {pos : Pos} (hN : X.N[i]? = some x) (hv : Vis X.env.scope x) (hd : (x == ("__debug__" : Str)) = false := by decide) (hcd : (x == ("__classdict__" : Str)) = false := by decide) : PE X (.Name x pos) (tVar i) := by
  intro pins s σ H Q I h
  obtain ⟨v, e, h⟩ := h
  obtain ⟨m, hn, hl⟩ := I.loc
  obtain ⟨u, r, l⟩ := hl i x v hN e hv
  have fin : EP X pins σ Q u s := ⟨v, H, I, r, h⟩
  rcases l with ⟨hk, hm⟩ | ⟨hk, c, hc, hcell⟩
  · exact wpAny_Name (wpAny_loadName_local I.ok.kind hk hn hm fin) hd
  · rcases hk with hk | hk
    · exact wpAny_Name (wpAny_loadName_cell I.ok.kind hk hc hcell fin) hd
    · exact wpAny_Name (wpAny_loadName_free I.ok.kind hk hc hcell fin hcd) hd
theorem pe_int {i j pos} : PE X (.Constant (.int i) j pos) (tC (.int i)) := fun _ _ _ H _ I h => wpAny_Constant_int ⟨.int i, H, I.tok _, ⟨_, rfl⟩, h⟩
theorem pe_bl {b j pos} : PE X (.Constant (.bool b) j pos) (tC (.bl b)) := fun _ _ _ H _ I h => Constant_bool ⟨.bl b, H, I, rfl, h⟩
theorem pe_non {j pos} : PE X (.Constant .none j pos) (tC .non) := fun _ _ _ H _ I h => Constant_none ⟨.non, H, I, rfl, h⟩
theorem pe_str {x j pos} : PE X (.Constant (.str x) j pos) (tC (.str x)) := fun _ _ _ H _ I h => Calls.Constant_str ⟨.str x, H, I.tok _, ⟨_, rfl⟩, h⟩

/-- a global name of the def -/
def Gl (X : Cx) (x : Str) : Prop := X.env.kindOf x = some .globalImplicit
theorem ld_glob {E : Value → Shared → Prop} {pins : List (Addr × Obj)} {s : Shared} {σ : St} {H : Hp} {x : Str} {u : Value} {pos : Pos} {Q : Value → Shared → Prop} (I : Inv X pins σ H s) (hg : Gl X x) (hm : X.mg x = some u) (h : Q u s)
    (hd : (x == ("__debug__" : Str)) = false := by decide) : wpAny (model X.prog X.w) X.A (eval (.Name x pos) X.env) Q E s :=
  Calls.Name_function_global I.ok.kind hg (Calls.loadGlobal_global (by rw [I.ok.glob]; exact I.mod.glob.keeps I.bk) hm h) hd
theorem ld_blt {E : Value → Shared → Prop} {pins : List (Addr × Obj)} {s : Shared} {σ : St} {H : Hp} {x : Str} {u : Value} {pos : Pos} {Q : Value → Shared → Prop} (I : Inv X pins σ H s) (hg : Gl X x) (hm : X.mg x = none) (hv : bootBuiltins x = some u) (h : Q u s)
    (hn : x ≠ "__name__" := by decide) (hd : (x == ("__debug__" : Str)) = false := by decide) : wpAny (model X.prog X.w) X.A (eval (.Name x pos) X.env) Q E s := by
  obtain ⟨mb, h1, h2⟩ := I.mod.blt
  exact Calls.Name_function_global I.ok.kind hg (Calls.loadGlobal_builtin (by rw [I.ok.glob]; exact I.mod.glob.keeps I.bk) hm (by rw [I.ok.blt]; exact h1.keeps I.bk) ((h2 x hn).trans hv) h) hd
/-- a module's constant, a class, a function, as a value -/
theorem pe_glob {x : Str} {v : V} {u : Value} {pos : Pos} (hg : Gl X x) (hm : X.mg x = some u) (r : RelV v u) (hd : (x == ("__debug__" : Str)) = false := by decide) : PE X (.Name x pos) (tC v) :=
  fun _ _ _ H _ I h => ld_glob I hg hm ⟨v, H, I, r, h⟩ hd
theorem pe_bltn {x : Str} {v : V} {u : Value} {pos : Pos} (hg : Gl X x) (hm : X.mg x = none) (hv : bootBuiltins x = some u) (r : RelV v u) (hn : x ≠ "__name__" := by decide) (hd : (x == ("__debug__" : Str)) = false := by decide) : PE X (.Name x pos) (tC v) :=
  fun _ _ _ H _ I h => ld_blt I hg hm hv ⟨v, H, I, r, h⟩ hn hd

/-! ### arithmetic -/
variable {a b : Expr} {ta tb : TE} {pos : Pos}
/-! ### comparisons -/
def PC (X : Cx) (op : CmpOp) (a b : Expr) (t : TE) : Prop :=
  ∀ (pins : List (Addr × Obj)) (s : Shared) (σ : St) (H : Hp) (Q : VK), Inv X pins σ H s → t σ H Q →
    wpAny (model X.prog X.w) X.A (eval a X.env) (fun v s₁ => wpAny (model X.prog X.w) X.A (eval b X.env) (fun u s₂ => wpAny (model X.prog X.w) X.A (compareOp op v u) (EP X pins σ Q) X.xe s₂) X.xe s₁) X.xe s
theorem nobehind (b : Expr) {op : CmpOp} (h : op ≠ .In) (h2 : op ≠ .NotIn) : behindInMarks op b = false := by
  have e1 : (op == CmpOp.In) = false := by cases op <;> first | rfl | exact absurd rfl h
  have e2 : (op == CmpOp.NotIn) = false := by cases op <;> first | rfl | exact absurd rfl h2
  cases b <;> simp [behindInMarks, e1, e2]
/-- is None -/
def tIsN (ta : TE) : TE := fun σ H Q => ta σ H fun x H1 => Q (.bl (decide (x = .non))) H1
def tNotN (ta : TE) : TE := fun σ H Q => ta σ H fun x H1 => Q (.bl (!decide (x = .non))) H1
theorem RelV.none_iff {x : V} {v : Value} (r : RelV x v) : (v == Value.none) = decide (x = .non) := by
  cases x with
  | non => cases r; rfl
  | bl _ => cases r; rfl
  | int _ => obtain ⟨t, rfl⟩ := r; rfl
  | str _ => obtain ⟨t, rfl⟩ := r; rfl
  | byt _ => obtain ⟨t, rfl⟩ := r; rfl
  | flt _ => obtain ⟨t, rfl⟩ := r; rfl
  | ref _ => cases r; rfl
  | ty _ => cases r; rfl
theorem pc_isN {j pos'} (ha : PE X a ta) : PC X .Is a (.Constant .none j pos') (tIsN ta) := by
  intro pins s σ H Q I h
  refine thn (ha pins s σ H _ I h) fun v s1 ⟨x, H1, I1, r1, q1⟩ => ?_
  exact Constant_none (is_none_gen ⟨.bl _, H1, I1, by rw [r1.none_iff]; rfl, q1⟩)
theorem pc_notN {j pos'} (ha : PE X a ta) : PC X .IsNot a (.Constant .none j pos') (tNotN ta) := by
  intro pins s σ H Q I h
  refine thn (ha pins s σ H _ I h) fun v s1 ⟨x, H1, I1, r1, q1⟩ => ?_
  exact Constant_none (isnot_none_gen ⟨.bl _, H1, I1, by rw [r1.none_iff]; rfl, q1⟩)
/-- a comparison as a value, as a test -/
def tB (t : TE) : TT := fun σ H Q => t σ H fun x H1 => ∃ c, x = .bl c ∧ Q c H1
theorem pe_cmp {op : CmpOp} {t : TE} (h : PC X op a b t) (h1 : behindInMarks op b = false := by first | exact nobehind _ (by decide) (by decide) | rfl) : PE X (.Compare a [op] [b] pos) t := fun pins s σ H Q I hw => wpAny_Compare1 (h pins s σ H Q I hw) h1
theorem pt_cmp {op : CmpOp} {t : TE} (h : PC X op a b t) (h1 : behindInMarks op b = false := by first | exact nobehind _ (by decide) (by decide) | rfl) : PT X (.Compare a [op] [b] pos) (tB t) := by
  intro pins s σ H Q I hw
  refine wpAny_isTrue_Compare1 (thn (h pins s σ H _ I hw) fun v s1 h1 => thn h1 fun u s2 h2 => thn h2 fun c s3 ⟨x, H1, I1, r1, q1⟩ => ?_) h1
  obtain ⟨d, rfl, q⟩ := q1
  cases r1
  exact wpAny_truthy_bool ⟨H1, I1, q⟩
/-- an expression whose value is a bool, as a test -/
theorem pt_val {e : Expr} {t : TE} (h : PE X e t) (he : ∀ whole, isTrue e X.env whole = (do let v ← whole; standAt e.pos; holding [v] (truthy v)) := by intro _; rfl) : PT X e (tB t) := by
  intro pins s σ H Q I hw
  refine isTrue_plain (thn (h pins s σ H _ I hw) fun v s1 ⟨x, H1, I1, r1, q1⟩ => ?_) (he _)
  obtain ⟨d, rfl, q⟩ := q1
  cases r1
  exact wpAny_truthy_bool ⟨H1, I1, q⟩

/-! ### and, or, not -/
variable {tA tB' : TT} {rest : List Expr}
def tAnd (t u : TT) : TT := fun σ H Q => t σ H fun c H1 => if c = true then u σ H1 Q else Q false H1
def tOr (t u : TT) : TT := fun σ H Q => t σ H fun c H1 => if c = true then Q true H1 else u σ H1 Q
def tNot (t : TT) : TT := fun σ H Q => t σ H fun c H1 => Q (!c) H1
theorem pw_and1 (ha : PT X a tA) : PW X (.BoolOp .And [a] pos) tA := by
  intro wh pins s σ H Q I h
  refine isTrue_and (thn (ha pins s σ H Q I h) fun c s1 e => ?_)
  cases c with
  | true => exact isTrue_and_nil e
  | false => exact e
theorem pw_or1 (ha : PT X a tA) : PW X (.BoolOp .Or [a] pos) tA := by
  intro wh pins s σ H Q I h
  refine isTrue_or (thn (ha pins s σ H Q I h) fun c s1 e => ?_)
  cases c with
  | false => exact isTrue_or_nil e
  | true => exact e
theorem pw_and (ha : PT X a tA) (hb : PW X (.BoolOp .And (b :: rest) pos) tB') : PW X (.BoolOp .And (a :: b :: rest) pos) (tAnd tA tB') := by
  intro wh pins s σ H Q I h
  refine isTrue_and (thn (ha pins s σ H _ I h) fun c s1 ⟨H1, I1, q1⟩ => ?_)
  cases c with
  | true => exact hb wh pins s1 σ H1 Q I1 q1
  | false => exact ⟨H1, I1, q1⟩
theorem pw_or (ha : PT X a tA) (hb : PW X (.BoolOp .Or (b :: rest) pos) tB') : PW X (.BoolOp .Or (a :: b :: rest) pos) (tOr tA tB') := by
  intro wh pins s σ H Q I h
  refine isTrue_or (thn (ha pins s σ H _ I h) fun c s1 ⟨H1, I1, q1⟩ => ?_)
  cases c with
  | true => exact ⟨H1, I1, q1⟩
  | false => exact hb wh pins s1 σ H1 Q I1 q1
theorem pt_not (ha : PT X a tA) : PT X (.UnaryOp .Not a pos) (tNot tA) := by
  intro pins s σ H Q I h
  exact isTrue_not (ha pins s σ H (fun c H1 => Q (!c) H1) I h)
/-- .. as values (bools) -/
def tAndV (ta tb : TE) : TE := fun σ H Q => ta σ H fun x H1 => ∃ c, x = .bl c ∧ if c = true then tb σ H1 Q else Q (.bl false) H1
def tOrV (ta tb : TE) : TE := fun σ H Q => ta σ H fun x H1 => ∃ c, x = .bl c ∧ if c = true then Q (.bl true) H1 else tb σ H1 Q
def tNotV (ta : TE) : TE := fun σ H Q => ta σ H fun x H1 => ∃ c, x = .bl c ∧ Q (.bl (!c)) H1
theorem pe_one {op} {t : TE} (h : PE X a t) : PE X (.BoolOp op [a] pos) t := fun pins s σ H Q I hw => BoolOp_one (h pins s σ H Q I hw)
theorem pe_and (ha : PE X a ta) (hb : PE X (.BoolOp .And (b :: rest) pos) tb) : PE X (.BoolOp .And (a :: b :: rest) pos) (tAndV ta tb) := by
  intro pins s σ H Q I h
  refine BoolOp_and (thn (ha pins s σ H _ I h) fun v s1 ⟨x, H1, I1, r1, q1⟩ => ?_)
  obtain ⟨c, rfl, q1⟩ := q1
  cases r1
  refine wpAny_truthy_bool ?_
  cases c with
  | true => exact hb pins s1 σ H1 Q I1 q1
  | false => exact ⟨.bl false, H1, I1, rfl, q1⟩
theorem pe_or (ha : PE X a ta) (hb : PE X (.BoolOp .Or (b :: rest) pos) tb) : PE X (.BoolOp .Or (a :: b :: rest) pos) (tOrV ta tb) := by
  intro pins s σ H Q I h
  refine BoolOp_or (thn (ha pins s σ H _ I h) fun v s1 ⟨x, H1, I1, r1, q1⟩ => ?_)
  obtain ⟨c, rfl, q1⟩ := q1
  cases r1
  refine wpAny_truthy_bool ?_
  cases c with
  | false => exact hb pins s1 σ H1 Q I1 q1
  | true => exact ⟨.bl true, H1, I1, rfl, q1⟩
theorem pe_not (ha : PE X a ta) : PE X (.UnaryOp .Not a pos) (tNotV ta) := by
  intro pins s σ H Q I h
  refine UnaryOp_ (thn (ha pins s σ H _ I h) fun v s1 ⟨x, H1, I1, r1, q1⟩ => ?_)
  obtain ⟨c, rfl, q1⟩ := q1
  cases r1
  exact not_of (wpAny_truthy_bool ⟨.bl (!c), H1, I1, rfl, q1⟩)
/-- a if t else b -/
def tIf (t : TT) (ta tb : TE) : TE := fun σ H Q => t σ H fun c H1 => if c = true then ta σ H1 Q else tb σ H1 Q
theorem pe_ifExp {c : Expr} (hc : PT X c tA) (ha : PE X a ta) (hb : PE X b tb) : PE X (.IfExp c a b pos) (tIf tA ta tb) := by
  intro pins s σ H Q I h
  refine wpAny_IfExp (thn (hc pins s σ H _ I h) fun d s1 ⟨H1, I1, q1⟩ => ?_)
  cases d with
  | true => exact ha pins s1 σ H1 Q I1 q1
  | false => exact hb pins s1 σ H1 Q I1 q1
end
end L2

namespace L2
open PySem PySem.Spec PyProof.Rows

/-! ### a list, a tuple that is read: tracked, frozen, or an object of the module -/
def SqL (K : PySem.W.Frag) (H : Hp) (a : Addr) (xs : List V) : Prop :=
  Rd H a (.lst xs) ∨
    ∃ (o : Obj) (its : Array Value) (n : Nat), K.lookup a = some o ∧ o.cls = .type "list" ∧ o.dict = none ∧ o.data = .seq its n ∧ its.size ≤ sizeLine ∧ Vals xs its.toList
def SqT (K : PySem.W.Frag) (H : Hp) (a : Addr) (xs : List V) : Prop :=
  Rd H a (.tup xs) ∨
    ∃ (o : Obj) (its : Array Value) (n : Nat), K.lookup a = some o ∧ o.cls = .type "tuple" ∧ o.data = .seq its n ∧ its.size ≤ sizeLine ∧ Vals xs its.toList
def absV : Value → Option V
  | .none => some .non
  | .bool b => some (.bl b)
  | .int i _ => some (.int i)
  | .str x _ => some (.str x)
  | .bytes b _ => some (.byt b)
  | .float b _ => some (.flt b)
  | .ref a => some (.ref a)
  | .type n => some (.ty n)
  | _ => none
theorem RelV.abs {x : V} {u : Value} (r : RelV x u) : absV u = some x := by
  cases x with
  | non => cases r; rfl
  | bl _ => cases r; rfl
  | int _ => obtain ⟨t, rfl⟩ := r; rfl
  | str _ => obtain ⟨t, rfl⟩ := r; rfl
  | byt _ => obtain ⟨t, rfl⟩ := r; rfl
  | flt _ => obtain ⟨t, rfl⟩ := r; rfl
  | ref _ => cases r; rfl
  | ty _ => cases r; rfl
theorem RelV.inj {x y : V} {u : Value} (r : RelV x u) (q : RelV y u) : x = y := Option.some.inj (r.abs.symm.trans q.abs)
theorem Vals.inj : ∀ {xs ys : List V} {us : List Value}, Vals xs us → Vals ys us → xs = ys
  | _, _, _, .nil, .nil => rfl
  | _, _, _, .cons r t, .cons r' t' => by rw [r.inj r', Vals.inj t t']
section
variable {X : Cx} {pins : List (Addr × Obj)} {σ : St} {H : Hp} {s : Shared} {a : Addr} {xs ys : List V}
theorem SqL.of {K : PySem.W.Frag} (h : H a = some (.lst xs)) : SqL K H a xs := .inl (.inl h)
theorem SqT.of {K : PySem.W.Frag} (h : H a = some (.tup xs)) : SqT K H a xs := .inl (.inl h)
theorem Inv.list (I : Inv X pins σ H s) (h : SqL X.K H a xs) : ∃ its : List Value, Vals xs its ∧ PlainL s.heap a its.toArray ∧ xs.length ≤ sizeLine := by
  rcases h with h | ⟨o, its, n, hk, hc, hd, hs, hz, r⟩
  · obtain ⟨z, its, n, r, e⟩ := h.ok I.hok
    exact ⟨its, r, ⟨_, n, e, rfl, rfl, rfl⟩, z⟩
  · refine ⟨its.toList, r, ⟨o, n, I.kIn a o hk, hc, hd, by simpa using hs⟩, ?_⟩
    have e := r.length
    simp only [Array.length_toList] at e
    omega
theorem Inv.tuple (I : Inv X pins σ H s) (h : SqT X.K H a xs) : ∃ its : List Value, Vals xs its ∧ IsTup s.heap a its.toArray ∧ xs.length ≤ sizeLine := by
  rcases h with h | ⟨o, its, n, hk, hc, hs, hz, r⟩
  · obtain ⟨z, its, r, p⟩ := h.ok I.hok
    exact ⟨its, r, p, z⟩
  · refine ⟨its.toList, r, ⟨o, I.kIn a o hk, hc, n, by simpa using hs⟩, ?_⟩
    have e := r.length
    simp only [Array.length_toList] at e
    omega
theorem Inv.list_inj (I : Inv X pins σ H s) (h : SqL X.K H a xs) (h' : SqL X.K H a ys) : xs = ys := by
  obtain ⟨its, r, ⟨o, n, e, _, _, d⟩, _⟩ := I.list h
  obtain ⟨its', r', ⟨o', n', e', _, _, d'⟩, _⟩ := I.list h'
  rw [e] at e'; cases e'
  rw [d] at d'
  injection d' with d1 _
  have : its = its' := by simpa using congrArg Array.toList d1
  subst this
  exact r.inj r'
theorem Inv.tuple_inj (I : Inv X pins σ H s) (h : SqT X.K H a xs) (h' : SqT X.K H a ys) : xs = ys := by
  obtain ⟨its, r, ⟨o, e, _, n, d⟩, _⟩ := I.tuple h
  obtain ⟨its', r', ⟨o', e', _, n', d'⟩, _⟩ := I.tuple h'
  rw [e] at e'; cases e'
  rw [d] at d'
  injection d' with d1 _
  have : its = its' := by simpa using congrArg Array.toList d1
  subst this
  exact r.inj r'
end

/-! ### another wish about exceptions -/
abbrev Cx.wish (X : Cx) (E : Value → Shared → Prop) : Cx := { X with xe := E }
/-- no exception leaves -/
abbrev Cx.nox (X : Cx) : Cx := X.wish fun _ _ => False
theorem Cx.Ok.wish {X : Cx} (ok : X.Ok) (E : Value → Shared → Prop) : (X.wish E).Ok :=
  ⟨ok.mod, ok.kind, ok.glob, ok.blt, ok.above, ok.inj, ok.has, ok.cab, ok.hd, ok.frames, ok.stk, ok.exf, ok.bs, ok.bsz, ok.noex, ok.exfs, ok.funs, ok.frf⟩
theorem Cx.Ok.unwish {X : Cx} {E : Value → Shared → Prop} (ok : (X.wish E).Ok) : X.Ok :=
  ⟨ok.mod, ok.kind, ok.glob, ok.blt, ok.above, ok.inj, ok.has, ok.cab, ok.hd, ok.frames, ok.stk, ok.exf, ok.bs, ok.bsz, ok.noex, ok.exfs, ok.funs, ok.frf⟩
section
variable {X : Cx} {pins : List (Addr × Obj)} {σ : St} {H : Hp} {s : Shared} {E : Value → Shared → Prop}
theorem Inv.wish (I : Inv X pins σ H s) (E : Value → Shared → Prop) : Inv (X.wish E) pins σ H s := ⟨I.ok.wish E, I.os, I.bare, I.base, I.loc, I.cell, I.free, I.freeC, I.pin, I.hok, I.len⟩
theorem Inv.unwish (I : Inv (X.wish E) pins σ H s) : Inv X pins σ H s := ⟨I.ok.unwish, I.os, I.bare, I.base, I.loc, I.cell, I.free, I.freeC, I.pin, I.hok, I.len⟩
theorem SP.unwish {D : Ends} {f : Flow} {s' : Shared} (h : SP (X.wish E) pins D f s') : SP X pins D f s' := by
  cases f with
  | next => obtain ⟨σ', H', I, q⟩ := h; exact ⟨σ', H', I.unwish, q⟩
  | brk => obtain ⟨σ', H', I, q⟩ := h; exact ⟨σ', H', I.unwish, q⟩
  | cont => obtain ⟨σ', H', I, q⟩ := h; exact ⟨σ', H', I.unwish, q⟩
  | ret u => obtain ⟨v, σ', H', I, r, q⟩ := h; exact ⟨v, σ', H', I.unwish, r, q⟩
theorem PSs.nox {st : List Stmt} {t : TS} (h : PSs X.nox st t) : PSs X st t := fun pins s σ H D I hw =>
  wpAny_mono (h pins s σ H D (I.wish _) hw) (fun _ _ q => q.unwish) fun _ _ z => False.elim z
end

/-! ### blocks and small statements -/
section
variable {X : Cx} {st : Stmt} {rest : List Stmt} {t u : TS} {e : Expr} {te : TE} {pos : Pos}
def tNext : TS := fun D σ H => D.nx σ H
def tSeq (t u : TS) : TS := fun D σ H => t { D with nx := u D } σ H
theorem pss_nil : PSs X [] tNext := fun _ _ σ H _ I h => wpAny_execs_nil ⟨σ, H, I, h⟩
theorem pss_cons (h1 : PS X st t) (h2 : PSs X rest u) : PSs X (st :: rest) (tSeq t u) := by
  intro pins s σ H D I h
  refine wpAny_execs_cons (thn (h1 pins s σ H { D with nx := u D } I h) fun f s1 q => ?_)
  cases f with
  | next =>
    obtain ⟨σ', H', I', q⟩ := q
    exact h2 pins s1 σ' H' D I' q
  | ret v => exact q
  | brk => exact q
  | cont => exact q
theorem pss_one (h1 : PS X st t) : PSs X [st] t := by
  intro pins s σ H D I h
  refine wpAny_execs_cons (thn (h1 pins s σ H D I h) fun f s1 q => ?_)
  cases f with
  | next => exact wpAny_execs_nil q
  | ret v => exact q
  | brk => exact q
  | cont => exact q
/-- in a def's body nothing is shown -/
theorem Inv.quiet {pins : List (Addr × Obj)} {σ : St} {H : Hp} {s : Shared} (I : Inv X pins σ H s) : interactive X.env = false := by simp [interactive, I.ok.kind]
/-- an expression whose value is dropped -/
def tDrop (te : TE) : TS := fun D σ H => te σ H fun _ H1 => D.nx σ H1
theorem ps_expr (he : PE X e te) (hs : swapsWith e none pos.line X.env = pure false := by rfl) : PS X (.Expr e pos) (tDrop te) := by
  intro pins s σ H D I h
  exact wpAny_Expr_any (thn (he pins s σ H _ I h) fun v s1 ⟨x, H1, I1, r1, q1⟩ => ⟨σ, H1, I1, q1⟩) I.quiet hs
def tRet (te : TE) : TS := fun D σ H => te σ H D.rt
theorem ps_ret (he : PE X e te) : PS X (.Return (some e) pos) (tRet te) := by
  intro pins s σ H D I h
  exact wpAny_Return_some (thn (he pins s σ H _ I h) fun v s1 ⟨x, H1, I1, r1, q1⟩ => ⟨x, σ, H1, I1, r1, q1⟩)
def tIfS (c : TT) (t u : TS) : TS := fun D σ H => c σ H fun b H1 => if b = true then t D σ H1 else u D σ H1
theorem ps_if {c : Expr} {a b : List Stmt} {tc : TT} (hc : PT X c tc) (ha : PSs X a t) (hb : PSs X b u) : PS X (.If c a b pos) (tIfS tc t u) := by
  intro pins s σ H D I h
  refine wpAny_If (thn (hc pins s σ H _ I h) fun d s1 ⟨H1, I1, q1⟩ => ?_)
  cases d with
  | true => exact ha pins s1 σ H1 D I1 q1
  | false => exact hb pins s1 σ H1 D I1 q1
/-- code that the proof never comes to -/
def tNever : TS := fun _ _ _ => False
theorem ps_never : PS X st tNever := fun _ _ _ _ _ _ h => h.elim
theorem pss_never {sts : List Stmt} : PSs X sts tNever := fun _ _ _ _ _ _ h => h.elim
end

/-! ### targets -/
abbrev TG := V → St → Hp → (St → Hp → Prop) → Prop
abbrev TGs := List V → St → Hp → (St → Hp → Prop) → Prop
def PG (X : Cx) (target : Expr) (t : TG) : Prop :=
  ∀ (pins : List (Addr × Obj)) (s : Shared) (σ : St) (H : Hp) (v : V) (u : Value) (Q : St → Hp → Prop), Inv X pins σ H s → RelV v u → t v σ H Q →
    wpAny (model X.prog X.w) X.A (assign target X.env u) (fun _ s' => ∃ σ' H', Inv X pins σ' H' s' ∧ Q σ' H') X.xe s
/-- several targets, one after another -/
def PGs (X : Cx) (ts : List Expr) (t : TGs) : Prop :=
  ∀ (pins : List (Addr × Obj)) (s : Shared) (σ : St) (H : Hp) (vs : List V) (us : List Value) (Q : St → Hp → Prop), Inv X pins σ H s → Vals vs us → t vs σ H Q →
    wpAny (model X.prog X.w) X.A (assignInOrder ((assignEach ts X.env).map (·.2)) us) (fun _ s' => ∃ σ' H', Inv X pins σ' H' s' ∧ Q σ' H') X.xe s
section
variable {X : Cx} {pos : Pos}
def gName (i : Nat) : TG := fun v σ H Q => Q (σ.set i (some v)) H
theorem pg_name {i : Nat} {x : Str} (hN : X.N.Nodup) (hi : X.N[i]? = some x) (hx : Loc X.env.scope x) (hf : X.fn x = true ∨ X.env.scope.names.lookup x = some .local := by first | exact .inl rfl | exact .inr rfl | assumption) : PG X (.Name x pos) (gName i) := by
  intro pins s σ H v u Q I r h
  exact wpAny_assign_Name (store_ok I hN hi hx r (fun s' I' => ⟨_, H, I', h⟩) hf)
def gNil : TGs := fun vs σ H Q => vs = [] ∧ Q σ H
def gCons (t : TG) (u : TGs) : TGs := fun vs σ H Q => ∃ v r, vs = v :: r ∧ t v σ H fun σ' H' => u r σ' H' Q
theorem pgs_nil : PGs X [] gNil := by
  intro pins s σ H vs us Q I r h
  obtain ⟨e, h⟩ := h
  subst e
  cases r
  exact assignInOrder_nil ⟨σ, H, I, h⟩
theorem pgs_cons {e : Expr} {es : List Expr} {t : TG} {u : TGs} (h1 : PG X e t) (h2 : PGs X es u)
    (hs : (assignEach (e :: es) X.env).map (·.2) = assign e X.env :: (assignEach es X.env).map (·.2) := by rfl) : PGs X (e :: es) (gCons t u) := by
  intro pins s σ H vs us Q I r h
  obtain ⟨v, vr, e1, h⟩ := h
  subst e1
  cases r with
  | cons r rr =>
    rw [hs]
    refine assignInOrder_cons (thn (h1 pins s σ H _ _ _ I r h) fun _ s1 ⟨σ1, H1, I1, q1⟩ => ?_)
    exact h2 pins s1 σ1 H1 _ _ Q I1 rr q1
/-- (a, b, ..) = a tuple of that length -/
def gTup (K : PySem.W.Frag) (n : Nat) (t : TGs) : TG := fun v σ H Q => ∃ a xs, v = .ref a ∧ SqT K H a xs ∧ xs.length = n ∧ t xs σ H Q
theorem pg_tup {es : List Expr} {k : Nat} {t : TGs} {n : Nat} (hc : X.calm = true) (h : PGs X es t)
    (hn : (assignEach es X.env).length = n := by rfl) (hst : (assignEach es X.env).findIdx? (·.1) = none := by rfl) : PG X (.Tuple es k pos) (gTup X.K n t) := by
  intro pins s σ H v u Q I r hw
  obtain ⟨a, xs, e1, hq, hl, hw⟩ := hw
  subst e1
  cases r
  obtain ⟨its, rv, ht, hz⟩ := I.tuple hq
  refine assign_Tuple_tuple (I.ok.hd hc) ht (by simp [hn, ← hl, rv.length]) hst fun h' hx => ?_
  have I1 : Inv X pins σ H { s with heap := h' } := I.kept (t' := s.toks) fun b o e => hx b o (Nat.ne_of_lt (Heap.lt_size e)) e
  exact h pins _ σ H xs _ Q I1 (by simpa using rv) hw
/-- target = value -/
def tAsg (te : TE) (g : TG) : TS := fun D σ H => te σ H fun x H1 => g x σ H1 D.nx
theorem ps_asg {tg e : Expr} {te : TE} {g : TG} (he : PE X e te) (hg : PG X tg g) (hs : swapsWithSole [tg] e pos.line X.env = pure false := by rfl) (hw : swappedStores [tg] e X.env = pure none := by rfl)
    (h1 : (assignEach [tg] X.env).map (·.2) = [assign tg X.env] := by rfl) : PS X (.Assign [tg] e pos) (tAsg te g) := by
  intro pins s σ H D I h
  refine wpAny_Assign_stores (thn (he pins s σ H _ I h) fun v s1 ⟨x, H1, I1, r1, q1⟩ => ?_) hs hw
  rw [h1]
  exact thn (hg pins s1 σ H1 x v _ I1 r1 q1) fun _ s2 q => q
/-- name = value -/
theorem ps_set {i : Nat} {x : Str} {e : Expr} {te : TE} {pos' : Pos} (hN : X.N.Nodup) (hi : X.N[i]? = some x) (hx : Loc X.env.scope x) (he : PE X e te) (hs : swapsWith e (some (.Name x pos')) pos.line X.env = pure false := by rfl) (hf : X.fn x = true ∨ X.env.scope.names.lookup x = some .local := by first | exact .inl rfl | exact .inr rfl | assumption) :
    PS X (.Assign [.Name x pos'] e pos) (tAsg te (gName i)) := by
  intro pins s σ H D I h
  refine wpAny_Assign_Name (thn (he pins s σ H _ I h) fun v s1 ⟨y, H1, I1, r1, q1⟩ => ?_) hs
  exact store_ok I1 hN hi hx r1 (fun s2 I2 => ⟨_, H1, I2, q1⟩) hf
/-- a, b = x, y with plain local names: stored from the right; the pair itself is not tracked (the opening rows as in PyProof/Rows/TupAssign.lean:23) -/
def tPar (i j : Nat) (ta : TA) : TS := fun D σ H => ta σ H fun vs H1 => ∃ v w, vs = [v, w] ∧ D.nx ((σ.set i (some v)).set j (some w)) H1
theorem ps_par {i j : Nat} {x y : Str} {a b : Expr} {ta : TA} {px py pt : Pos} {kt k2 pt2} (hc : X.calm = true) (hN : X.N.Nodup) (hi : X.N[i]? = some x) (hj : X.N[j]? = some y) (hij : i ≠ j)
    (hx : X.env.scope.names.lookup x = some .local) (hy : X.env.scope.names.lookup y = some .local) (ha : PA X [a, b] ta)
    (hw : swappedStores [.Tuple [.Name x px, .Name y py] kt pt] (.Tuple [a, b] k2 pt2) X.env = pure (some [x, y]))
    (hs : swapsWithSole [.Tuple [.Name x px, .Name y py] kt pt] (.Tuple [a, b] k2 pt2) pos.line X.env = pure false := by rfl) :
    PS X (.Assign [.Tuple [.Name x px, .Name y py] kt pt] (.Tuple [a, b] k2 pt2) pos) (tPar i j ta) := by
  intro pins s σ H D I h
  rw [exec_Assign_arm]
  refine wpAny_bind (wpAny_standAt ?_)
  rw [hs]
  refine wpAny_bind (wpAny_pure ?_)
  rw [if_neg (by decide)]
  refine wpAny_bind (Tuple_ (thn (ha _ pins s σ H _ I h) fun us s1 ⟨vs, H1, I1, r1, q1⟩ => ?_))
  obtain ⟨v, w, e1, q1⟩ := q1
  subst e1
  obtain ⟨u1, u2, rfl, rv, rw'⟩ : ∃ u1 u2, us = [u1, u2] ∧ RelV v u1 ∧ RelV w u2 := by
    cases r1 with
    | cons p q =>
      cases q with
      | cons p' q' =>
        cases q'
        exact ⟨_, _, rfl, p, p'⟩
  refine wpAny_newObj_type ?_ (by show 2 ≤ sizeLine; decide)
  have I2 : Inv X pins σ H1 { s1 with heap := s1.heap.push { cls := .type "tuple", data := .seq [u1, u2].toArray } } := I1.kept (t' := s1.toks) fun b o e => Heap.get?_push_of_some _ e
  rw [hw]
  refine wpAny_bind (wpAny_pure ?_)
  show wpAny (model X.prog X.w) X.A (do rule "assign.swapped-stores"; let items ← unpackItems (.ref s1.heap.objs.size) 2 none; assignInOrder [fun v => bindName X.env y v, fun v => bindName X.env x v] items.reverse; pure Flow.next) _ _ _
  refine wpAny_bind (wpAny_rule (wpAny_bind (unpackItems_tuple (items := #[u1, u2]) (I.ok.hd hc) (IsTup.new s1.heap _) fun h' hx' => ?_)))
  have I3 := I2.kept (h' := h') (t' := s1.toks) fun b o e => hx' b o (Nat.ne_of_lt (Heap.lt_size e)) e
  show wpAny _ _ (assignInOrder [fun v => bindName X.env y v, fun v => bindName X.env x v] [u2, u1] >>= fun _ => pure Flow.next) _ _ _
  refine wpAny_bind (assignInOrder_cons (wpAny_bindName (store_ok I3 hN hj (.inl hy) rw' (fun s2 I4 => ?_) (.inr hy))))
  refine assignInOrder_cons (wpAny_bindName (store_ok I4 hN hi (.inl hx) rv (fun s3 I5 => assignInOrder_nil (wpAny_pure ?_)) (.inr hx)))
  rw [List.set_comm _ _ (Ne.symm hij)] at I5
  exact ⟨_, H1, I5, q1⟩
end

/-! ### while -/
section
variable {X : Cx} {pos : Pos}
/-- the invariant W with its measure -/
def tWhile (c : TT) (tb : TS) : TS := fun D σ H => ∃ W : Nat → St → Hp → Prop, (∃ m, W m σ H) ∧ ∀ m σ H, W m σ H →
  c σ H fun b H1 => if b = true then ∃ N : St → Hp → Prop, (∀ σ' H', N σ' H' → ∃ m', m' < m ∧ W m' σ' H') ∧ tb { D with nx := N, ct := N, bk := D.nx } σ H1 else D.nx σ H1
theorem ps_while {c : Expr} {body : List Stmt} {tc : TT} {tb : TS} (hp : PassesOwn (model X.prog X.w) X.A X.env X.xe) (hc : PT X c tc) (hb : PSs X body tb) : PS X (.While c body [] pos) (tWhile tc tb) := by
  intro pins s σ H D I h
  obtain ⟨W, ⟨m0, w0⟩, turn⟩ := h
  refine wpAny_While (codeAny_whileLoop (fun n s' => ∃ σ' H', Inv X pins σ' H' s' ∧ W n σ' H') ?_ m0 ⟨σ, H, I, w0⟩)
  rintro n s1 ⟨σ1, H1, I1, w1⟩
  refine wpAny_passesOwn hp (thn (hc pins s1 σ1 H1 _ I1 (turn n σ1 H1 w1)) fun b s2 ⟨H2, I2, q2⟩ => ?_)
  cases b with
  | true =>
    obtain ⟨N, hN, q2⟩ := q2
    rw [if_pos rfl]
    refine wpAny_passesOwn hp (thn (hb pins s2 σ1 H2 _ I2 q2) fun f s3 q3 => ?_)
    cases f with
    | next =>
      obtain ⟨σ3, H3, I3, n3⟩ := q3
      obtain ⟨m', hm, w3⟩ := hN σ3 H3 n3
      exact ⟨m', hm, σ3, H3, I3, w3⟩
    | cont =>
      obtain ⟨σ3, H3, I3, n3⟩ := q3
      obtain ⟨m', hm, w3⟩ := hN σ3 H3 n3
      exact ⟨m', hm, σ3, H3, I3, w3⟩
    | brk => exact q3
    | ret v => exact q3
  | false =>
    rw [if_neg Bool.false_ne_true]
    exact wpAny_execs_nil ⟨σ1, H2, I2, q2⟩
end

/-! ### what a loop or a comprehension walks -/
/-- at turn i: it yields x (the heap may grow), or it stops -/
structure It where
  go : Nat → Hp → Prop
  yld : Nat → Hp → V → Hp → Prop
  stop : Nat → Hp → Prop
/-- the iterator's own objects may turn: they are not the frame's, not pinned, younger than the entry (or a comprehension's own) -/
def FpOk (X : Cx) (pins : List (Addr × Obj)) (H : Hp) (b : Addr) : Prop :=
  H b = none ∧ b ≠ X.env.locals ∧ b ∉ X.fs ∧ (b ∈ X.ex ∨ X.s₀.heap.objs.size ≤ b) ∧ (∀ x c, X.env.cells.lookup x = some c → c ≠ b) ∧ ∀ p ∈ X.pn ++ pins, p.1 ≠ b
theorem Inv.fpOk {X : Cx} {pins : List (Addr × Obj)} {σ : St} {H H' : Hp} {s : Shared} {b : Addr} (I : Inv X pins σ H s) (hb : s.heap.objs.size ≤ b) (hn : H' b = none) : FpOk X pins H' b := by
  refine ⟨hn, Nat.ne_of_gt (Nat.lt_of_lt_of_le I.lt hb), I.nofs hb, .inr (Nat.le_trans I.sz hb), fun x c e z => ?_, fun p hp z => ?_⟩
  · obtain ⟨v, q⟩ := I.cell x c e
    exact absurd (Nat.lt_of_lt_of_le q.lt (by rw [z]; exact hb)) (Nat.lt_irrefl _)
  · exact absurd (Nat.lt_of_lt_of_le (Heap.lt_size (I.pin p hp).1) (by rw [z]; exact hb)) (Nat.lt_irrefl _)
structure Turn (P : Program) (w : World) (K : PySem.W.Frag) (tg : Expr) (J : It) (fp : List Addr) (it : Addr) (tn : Nat → Heap → Prop) : Prop where
  mem : it ∈ fp
  obj : ∀ i h, tn i h → ∀ b ∈ fp, ∃ o, h.get? b = some o ∧ ∀ v, o.data ≠ .cell v
  keep : ∀ i h h', tn i h → (∀ b ∈ fp, ∀ o, h.get? b = some o → h'.get? b = some o) → tn i h'
  item : ∀ (X : Cx), X.prog = P → X.w = w → X.K = K → X.calm = true → ∀ (i : Nat) (pins : List (Addr × Obj)) (s : Shared) (σ : St) (H : Hp) (E : Value → Shared → Prop), Inv X pins σ H s → (∀ b ∈ fp, FpOk X pins H b) → tn i s.heap → J.go i H →
    wpAny (model P w) X.A (pyNext (.ref it)) (fun r s1 => ∃ u, r = some u ∧
      wpAny (model P w) X.A (letOwnedTupleGo tg (.ref it) u) (fun _ s2 => ∃ x H', Inv X pins σ H' s2 ∧ RelV x u ∧ J.yld i H x H' ∧ tn (i + 1) s2.heap ∧ ∀ b ∈ fp, H' b = none) E s1) E s
  done : ∀ (X : Cx), X.prog = P → X.w = w → X.K = K → X.calm = true → ∀ (i : Nat) (pins : List (Addr × Obj)) (s : Shared) (σ : St) (H : Hp) (E : Value → Shared → Prop), Inv X pins σ H s → (∀ b ∈ fp, FpOk X pins H b) → tn i s.heap → J.stop i H →
    wpAny (model P w) X.A (pyNext (.ref it)) (fun r s1 => r = none ∧ Inv X pins σ H s1) E s
  self : ∀ (A : Around) (i : Nat) (s : Shared) (Q : Value → Shared → Prop) (E : Value → Shared → Prop), tn i s.heap → Q (.ref it) s → wpAny (model P w) A (pyIter (.ref it)) Q E s
abbrev TI := St → Hp → (It → Hp → Prop) → Prop
/-- an iterator has come -/
def PIE (X : Cx) (pins : List (Addr × Obj)) (σ : St) (tg : Expr) (R : It → Hp → Prop) (itv : Value) (s2 : Shared) : Prop :=
  ∃ (it : Addr) (fp : List Addr) (tn : Nat → Heap → Prop) (J : It) (H' : Hp), itv = .ref it ∧ Inv X pins σ H' s2 ∧ Turn X.prog X.w X.K tg J fp it tn ∧ tn 0 s2.heap ∧ (∀ b ∈ fp, FpOk X pins H' b) ∧ R J H'
def PI (X : Cx) (tg iter : Expr) (wi : TI) : Prop :=
  ∀ (pins : List (Addr × Obj)) (s : Shared) (σ : St) (H : Hp) (R : It → Hp → Prop), Inv X pins σ H s → wi σ H R →
    wpAny (model X.prog X.w) X.A (eval iter X.env) (fun v s1 => wpAny (model X.prog X.w) X.A (pyIter v) (PIE X pins σ tg R) X.xe s1) X.xe s

/-- the step ahead of the store is nothing for an iterator that keeps no tuple -/
theorem go_of {M : Model} {A : Around} {E : Value → Shared → Prop} {s : Shared} {tg : Expr} {it : Addr} {u : Value} {o : Obj} {n : String} {vs : Array Value} {Q : Unit → Shared → Prop} (ho : s.heap.get? it = some o) (hc : o.cls = .type n) (hd : o.data = .fields vs)
    (hn : ["enumerate", "zip", "dict_itemiterator", "dict_reverseitemiterator", "odict_iterator", "itertools.zip_longest", "itertools.pairwise"].contains n = false) (hQ : Q () s) : wpAny M A (letOwnedTupleGo tg (.ref it) u) Q E s := by
  unfold letOwnedTupleGo
  cases tg <;> first
    | exact wpAny_pure hQ
    | (cases u <;> first
        | exact wpAny_pure hQ
        | (refine wpAny_bind (wpAny_load ho ?_)
           rw [hc, hd]
           show wpAny M A (if (["enumerate", "zip", "dict_itemiterator", "dict_reverseitemiterator", "odict_iterator", "itertools.zip_longest", "itertools.pairwise"].contains n && vs[0]? == some (rawInt _)) = true then _ else _) Q E s
           rw [if_neg (by intro h; rw [hn, Bool.false_and] at h; cases h)]
           exact wpAny_pure hQ))

/-- the list at a, as it stands at each turn (a loop may append to it) -/
def Itl (K : PySem.W.Frag) (a : Addr) : It :=
  ⟨fun i H => ∃ xs x, SqL K H a xs ∧ xs[i]? = some x, fun i H x H' => H' = H ∧ ∀ xs, SqL K H a xs → xs[i]? = some x, fun i H => ∃ xs, SqL K H a xs ∧ xs.length ≤ i⟩
def Itt (K : PySem.W.Frag) (a : Addr) : It :=
  ⟨fun i H => ∃ xs x, SqT K H a xs ∧ xs[i]? = some x, fun i H x H' => H' = H ∧ ∀ xs, SqT K H a xs → xs[i]? = some x, fun i H => ∃ xs, SqT K H a xs ∧ xs.length ≤ i⟩
/-- lo, lo + 1, .. (n of them) -/
def Itr (lo : Int) (n : Nat) : It := ⟨fun i _ => i < n, fun i H x H' => H' = H ∧ x = .int (lo + i), fun i _ => n ≤ i⟩
theorem turn_list {P : Program} {w : World} {K : PySem.W.Frag} {tg : Expr} (a it : Addr) : Turn P w K tg (Itl K a) [it] it (fun i h => h.IsListIter it a i) where
  mem := by simp
  obj := fun i h st b hb => by
    have e : b = it := by simpa using hb
    subst e
    obtain ⟨o, e, c, d⟩ := st
    exact ⟨o, e, fun v z => by rw [d] at z; cases z⟩
  keep := fun i h h' st k => st.at fun o e => k it (by simp) o e
  item := by
    intro X hP hw hK hc i pins s σ H E I hf st hg
    subst hP hw hK
    obtain ⟨xs, x, hq, hx⟩ := hg
    obtain ⟨its, rv, p, hz⟩ := I.list hq
    obtain ⟨u, hu, ru⟩ := rv.get hx
    obtain ⟨f0, f1, f2, f3, f4, f5⟩ := hf it (by simp)
    refine wpAny_pyNext_list_item st p.isList (x := u) (by simpa using hu) fun h' st' sb => ?_
    have I1 : Inv X pins σ H { s with heap := h' } := I.turned (t' := s.toks) (fun b o hb e => (sb.2 b hb).trans e) f0 f1 f3 f4 f5
    obtain ⟨o, e, c, d⟩ := id st'
    exact ⟨u, rfl, go_of (s := { s with heap := h' }) e c d (by decide) ⟨x, H, I1, ru, ⟨rfl, fun ys hy => by rw [I.list_inj hy hq]; exact hx⟩, st', fun b hb => (hf b hb).1⟩⟩
  done := by
    intro X hP hw hK hc i pins s σ H E I hf st hg
    subst hP hw hK
    obtain ⟨xs, hq, hx⟩ := hg
    obtain ⟨its, rv, p, hz⟩ := I.list hq
    obtain ⟨f0, f1, f2, f3, f4, f5⟩ := hf it (by simp)
    have hl := rv.length
    exact wpAny_pyNext_list_end (I.ok.hd hc) st p.isList (by simp; omega) fun h' eb => ⟨rfl, I.turned (t' := s.toks) (fun b o hb e => eb b o hb e) f0 f1 f3 f4 f5⟩
  self := fun _ _ _ _ _ st h => wpAny_pyIter_listiter st h
theorem turn_tuple {P : Program} {w : World} {K : PySem.W.Frag} {tg : Expr} (a it : Addr) : Turn P w K tg (Itt K a) [it] it (fun i h => h.IsTupleIter it a i) where
  mem := by simp
  obj := fun i h st b hb => by
    have e : b = it := by simpa using hb
    subst e
    obtain ⟨o, e, c, d⟩ := st
    exact ⟨o, e, fun v z => by rw [d] at z; cases z⟩
  keep := fun i h h' st k => st.at fun o e => k it (by simp) o e
  item := by
    intro X hP hw hK hc i pins s σ H E I hf st hg
    subst hP hw hK
    obtain ⟨xs, x, hq, hx⟩ := hg
    obtain ⟨its, rv, p, hz⟩ := I.tuple hq
    obtain ⟨u, hu, ru⟩ := rv.get hx
    obtain ⟨f0, f1, f2, f3, f4, f5⟩ := hf it (by simp)
    refine wpAny_pyNext_tuple_item st (show s.heap.IsTuple a its.toArray from p) (x := u) (by simpa using hu) fun h' st' sb => ?_
    have I1 : Inv X pins σ H { s with heap := h' } := I.turned (t' := s.toks) (fun b o hb e => (sb.2 b hb).trans e) f0 f1 f3 f4 f5
    obtain ⟨o, e, c, d⟩ := id st'
    exact ⟨u, rfl, go_of (s := { s with heap := h' }) e c d (by decide) ⟨x, H, I1, ru, ⟨rfl, fun ys hy => by rw [I.tuple_inj hy hq]; exact hx⟩, st', fun b hb => (hf b hb).1⟩⟩
  done := by
    intro X hP hw hK hc i pins s σ H E I hf st hg
    subst hP hw hK
    obtain ⟨xs, hq, hx⟩ := hg
    obtain ⟨its, rv, p, hz⟩ := I.tuple hq
    obtain ⟨f0, f1, f2, f3, f4, f5⟩ := hf it (by simp)
    have hl := rv.length
    exact wpAny_pyNext_tuple_end (I.ok.hd hc) st (show s.heap.IsTuple a its.toArray from p) (by simp; omega) fun h' eb => ⟨rfl, I.turned (t' := s.toks) (fun b o hb e => eb b o hb e) f0 f1 f3 f4 f5⟩
  self := fun _ _ _ _ _ st h => wpAny_pyIter_tupleiter st h
theorem turn_range {P : Program} {w : World} {K : PySem.W.Frag} {tg : Expr} (it : Addr) (lo : Int) (n : Nat) : Turn P w K tg (Itr lo n) [it] it (fun i h => IsRangeIter h it (lo + (i : Nat) * 1) ((n : Int) - (i : Nat)) 1) where
  mem := by simp
  obj := fun i h st b hb => by
    have e : b = it := by simpa using hb
    subst e
    exact ⟨_, st, fun v z => by
      have z' : Data.fields _ = Data.cell v := z
      cases z'⟩
  keep := fun i h h' st k => k it (by simp) _ st
  item := by
    intro X hP hw hK hc i pins s σ H E I hf st hg
    subst hP hw hK
    obtain ⟨f0, f1, f2, f3, f4, f5⟩ := hf it (by simp)
    have W := Walks.range (prog := X.prog) (w := X.w) (I.ok.hd hc) it lo 1 n
    refine W.item i s _ _ hg st fun v h' tk hv st' kk => ?_
    obtain ⟨t, rfl⟩ := hv
    have I1 : Inv X pins σ H { s with heap := h', toks := tk } := I.turned (fun b o hb e => kk b o (by simpa using hb) e) f0 f1 f3 f4 f5
    refine ⟨_, rfl, go_of (s := { s with heap := h', toks := tk }) (n := "range_iterator") st' rfl rfl (by decide) ⟨.int (lo + i), H, I1, ⟨t, ?_⟩, ⟨rfl, rfl⟩, st', fun b hb => (hf b hb).1⟩⟩
    rw [Int.mul_one]
  done := by
    intro X hP hw hK hc i pins s σ H E I hf st hg
    subst hP hw hK
    obtain ⟨f0, f1, f2, f3, f4, f5⟩ := hf it (by simp)
    exact wpAny_pyNext_range_end (I.ok.hd hc) st (by have : n ≤ i := hg; omega) fun h' eb => ⟨rfl, I.turned (t' := s.toks) (fun b o hb e => eb b o hb e) f0 f1 f3 f4 f5⟩
  self := fun _ _ _ _ _ st h => wpAny_pyIter_rangeiter st h
end L2

namespace L2
open PySem PySem.Spec PyProof.Rows
section
variable {X : Cx} {tg : Expr}
def iList (K : PySem.W.Frag) (tl : TE) : TI := fun σ H R => tl σ H fun x H1 => ∃ a, x = .ref a ∧ (∃ xs, SqL K H1 a xs) ∧ R (Itl K a) H1
def iTup (K : PySem.W.Frag) (tl : TE) : TI := fun σ H R => tl σ H fun x H1 => ∃ a, x = .ref a ∧ (∃ xs, SqT K H1 a xs) ∧ R (Itt K a) H1
theorem pi_list {l : Expr} {tl : TE} (hl : PE X l tl) : PI X tg l (iList X.K tl) := by
  intro pins s σ H R I h
  refine thn (hl pins s σ H _ I h) fun v s1 ⟨x, H1, I1, r1, q1⟩ => ?_
  obtain ⟨a, e, ⟨xs, hq⟩, q⟩ := q1
  subst e
  cases r1
  obtain ⟨its, rv, p, hz⟩ := I1.list hq
  refine wpAny_pyIter_list p.isList ?_
  refine ⟨s1.heap.objs.size, [s1.heap.objs.size], _, _, H1, rfl, I1.kept (t' := s1.toks) fun b o e => Heap.get?_push_of_some _ e, turn_list a _, ⟨_, Heap.get?_push_size _ rfl, rfl, rfl⟩, fun b hb => ?_, q⟩
  have e : b = s1.heap.objs.size := by simpa using hb
  subst e
  exact I1.fpOk (Nat.le_refl _) (I1.hok.fresh (Nat.le_refl _))
theorem pi_tup {l : Expr} {tl : TE} (hl : PE X l tl) : PI X tg l (iTup X.K tl) := by
  intro pins s σ H R I h
  refine thn (hl pins s σ H _ I h) fun v s1 ⟨x, H1, I1, r1, q1⟩ => ?_
  obtain ⟨a, e, ⟨xs, hq⟩, q⟩ := q1
  subst e
  cases r1
  obtain ⟨its, rv, p, hz⟩ := I1.tuple hq
  refine wpAny_pyIter_tuple (show s1.heap.IsTuple a its.toArray from p) ?_
  refine ⟨s1.heap.objs.size, [s1.heap.objs.size], _, _, H1, rfl, I1.kept (t' := s1.toks) fun b o e => Heap.get?_push_of_some _ e, turn_tuple a _, ⟨_, Heap.get?_push_size _ rfl, rfl, rfl⟩, fun b hb => ?_, q⟩
  have e : b = s1.heap.objs.size := by simpa using hb
  subst e
  exact I1.fpOk (Nat.le_refl _) (I1.hok.fresh (Nat.le_refl _))
/-- a range object just made, walked -/
theorem range_it {pins : List (Addr × Obj)} {σ : St} {H : Hp} {s : Shared} {R : It → Hp → Prop} {E : Value → Shared → Prop} {lo hi : Int} {t u v : Tok} {tk : Nat} (I : Inv X pins σ H s) (h1 : -(2 ^ 62) ≤ lo) (h2 : lo < 2 ^ 62) (h3 : -(2 ^ 62) ≤ hi) (h4 : hi < 2 ^ 62)
    (q : R (Itr lo (hi - lo).toNat) H) : wpAny (model X.prog X.w) X.A (pyIter (.ref s.heap.objs.size)) (PIE X pins σ tg R) E { s with heap := s.heap.push { cls := .type "range", data := .fields #[.int lo t, .int hi u, .int 1 v] }, toks := tk } := by
  refine wpAny_pyIter_range (IsRange.new ..) (small_one h1 h2 h3 h4) ?_
  have I1 : Inv X pins σ H { s with heap := s.heap.push { cls := .type "range", data := .fields #[.int lo t, .int hi u, .int 1 v] }, toks := tk } := I.kept fun b o e => Heap.get?_push_of_some _ e
  refine ⟨(s.heap.push { cls := .type "range", data := .fields #[.int lo t, .int hi u, .int 1 v] }).objs.size, [(s.heap.push { cls := .type "range", data := .fields #[.int lo t, .int hi u, .int 1 v] }).objs.size], _, _, H, rfl,
    I1.kept (t' := tk) fun b o e => Heap.get?_push_of_some _ e, turn_range _ lo (hi - lo).toNat, ?_, fun b hb => ?_, q⟩
  · have e1 : lo + ((0 : Nat) : Int) * 1 = lo := by simp
    have e2 : (((hi - lo).toNat : Nat) : Int) - ((0 : Nat) : Int) = Builtin.Range.rangeSize lo hi 1 := by rw [rangeSize_one]; split <;> omega
    show IsRangeIter _ _ (lo + ((0 : Nat) : Int) * 1) ((((hi - lo).toNat : Nat) : Int) - ((0 : Nat) : Int)) 1
    rw [e1, e2]
    exact Heap.get?_push_size _ rfl
  · have e : b = (s.heap.push { cls := .type "range", data := .fields #[.int lo t, .int hi u, .int 1 v] }).objs.size := by simpa using hb
    subst e
    exact I1.fpOk (Nat.le_refl _) (I1.hok.fresh (Nat.le_refl _))
def iRng1 (ta : TA) : TI := fun σ H R => ta σ H fun vs H1 => ∃ j : Int, vs = [.int j] ∧ -(2 ^ 62) ≤ j ∧ j < 2 ^ 62 ∧ R (Itr 0 j.toNat) H1
theorem pi_range1 {a : Expr} {ta : TA} {p pos : Pos} (hg : Gl X "range") (hm : X.mg "range" = none) (ha : PA X [a] ta) (hs : starEach [a] X.env = [(false, eval a X.env)] := by rfl) : PI X tg (.Call (.Name "range" p) [a] [] pos) (iRng1 ta) := by
  intro pins s σ H R I h
  refine Call_ (ld_blt I hg hm boot_range (PyProof.Rows.callWith_type1 (thn (ha pos pins s σ H _ I h) fun us s1 ⟨vs, H1, I1, r1, q1⟩ => ?_) hs rfl))
  obtain ⟨j, e, q1, q2, q⟩ := q1
  subst e
  cases r1 with
  | cons r rr =>
    cases rr
    obtain ⟨t, rfl⟩ := r
    exact call_range_1 (range_it I1 (by omega) (by omega) q1 q2 (by simpa using q))
/-! ### for -/
/-- W: the invariant by the turn and a measure; N: what the body is to reach -/
def tFor (wi : TI) (g : TG) (tb : TS) : TS := fun D σ H => wi σ H fun J H1 => ∃ W : Nat → Nat → St → Hp → Prop, (∃ m, W 0 m σ H1) ∧ ∀ i m σ H, W i m σ H →
  (J.stop i H ∧ D.nx σ H) ∨ (J.go i H ∧ ∃ N : St → Hp → Prop, (∀ σ' H', N σ' H' → ∃ m', m' < m ∧ W (i + 1) m' σ' H') ∧ ∀ x H', J.yld i H x H' → g x σ H' fun σ2 H2 => tb { D with nx := N, ct := N, bk := D.nx } σ2 H2)
/-- the records at fp as they stand -/
def pinsAt (fp : List Addr) (h : Heap) : List (Addr × Obj) := fp.filterMap fun b => (h.get? b).map fun o => (b, o)
theorem mem_pinsAt {fp : List Addr} {h : Heap} {b : Addr} {o : Obj} (hb : b ∈ fp) (e : h.get? b = some o) : (b, o) ∈ pinsAt fp h := List.mem_filterMap.mpr ⟨b, hb, by rw [e]; rfl⟩
theorem of_pinsAt {fp : List Addr} {h : Heap} {p : Addr × Obj} (hp : p ∈ pinsAt fp h) : p.1 ∈ fp ∧ h.get? p.1 = some p.2 := by
  obtain ⟨b, hb, e⟩ := List.mem_filterMap.mp hp
  cases q : h.get? b with
  | none => rw [q] at e; cases e
  | some o =>
    rw [q] at e
    have e' : (b, o) = p := Option.some.inj e
    subst e'
    exact ⟨hb, q⟩
theorem Inv.pinned {pins : List (Addr × Obj)} {σ : St} {H : Hp} {s : Shared} {fp : List Addr} (I : Inv X pins σ H s) (hf : ∀ b ∈ fp, FpOk X pins H b) (ho : ∀ b ∈ fp, ∃ o, s.heap.get? b = some o ∧ ∀ v, o.data ≠ .cell v) : Inv X (pins ++ pinsAt fp s.heap) σ H s :=
  I.pins_of fun p hp => (List.mem_append.mp hp).elim (fun z => I.pin p (List.mem_append_right _ z)) fun z => by
    obtain ⟨hb, e⟩ := of_pinsAt z
    obtain ⟨f0, f1, f2, _⟩ := hf p.1 hb
    obtain ⟨o, e', d⟩ := ho p.1 hb
    rw [e] at e'; cases e'
    exact ⟨e, f0, f1, f2, d⟩
theorem Inv.unpinned {pins pl : List (Addr × Obj)} {σ : St} {H : Hp} {s : Shared} (I : Inv X (pins ++ pl) σ H s) : Inv X pins σ H s := I.pins_of fun p hp => I.pin p (List.mem_append_right _ (List.mem_append_left _ hp))
theorem ps_for {iter : Expr} {body : List Stmt} {wi : TI} {g : TG} {tb : TS} {pos : Pos} (hp : PassesOwn (model X.prog X.w) X.A X.env X.xe) (hc : X.calm = true) (hi : PI X tg iter wi) (hg : PG X tg g) (hb : PSs X body tb)
    (hs : ∀ x, foldedSetIterable iter X.env x = pure x := by intro _; rfl) : PS X (.For tg iter body [] pos) (tFor wi g tb) := by
  intro pins s σ H D I h
  refine wpAny_For (thn (hi pins s σ H _ I h) fun v s1 h1 => thn h1 fun itv s2 h2 => ?_) hs
  obtain ⟨it, fp, tn, J, H2, e, I2, T, st2, f2, W, ⟨m0, w0⟩, turn⟩ := h2
  subst e
  -- what stays true of the iterator's objects through the loop
  have stat : ∀ {H' : Hp}, (∀ b ∈ fp, H' b = none) → ∀ b ∈ fp, FpOk X pins H' b := fun hn b hb => ⟨hn b hb, (f2 b hb).2⟩
  refine codeAny_forLoop_any (fun n s' => ∃ i σ' H', Inv X pins σ' H' s' ∧ tn i s'.heap ∧ (∀ b ∈ fp, H' b = none) ∧ W i n σ' H') ?_ m0 ⟨0, σ, H2, I2, st2, fun b hb => (f2 b hb).1, w0⟩
  rintro n s3 ⟨i, σ3, H3, I3, st3, fr3, w3⟩
  rcases turn i n σ3 H3 w3 with ⟨stop, qn⟩ | ⟨go, N, hN, step⟩
  · refine wpAny_passesOwn hp (thn (T.done X rfl rfl rfl hc i pins s3 σ3 H3 X.xe I3 (stat fr3) st3 stop) fun r s4 ⟨hr, I4⟩ => ?_)
    subst hr
    exact wpAny_execs_nil ⟨σ3, H3, I4, qn⟩
  · refine wpAny_passesOwn hp (thn (T.item X rfl rfl rfl hc i pins s3 σ3 H3 X.xe I3 (stat fr3) st3 go) fun r s4 ⟨u, hr, h4⟩ => ?_)
    subst hr
    refine wpAny_passesOwn hp (thn h4 fun _ s5 ⟨x, H5, I5, r5, y5, st5, fr5⟩ => ?_)
    have I5' := I5.pinned (stat fr5) (T.obj _ _ st5)
    refine wpAny_passesOwn hp (thn (hg _ s5 σ3 H5 x u _ I5' r5 (step x H5 y5)) fun _ s6 ⟨σ6, H6, I6, q6⟩ => ?_)
    refine wpAny_passesOwn hp (thn (hb _ s6 σ6 H6 _ I6 q6) fun f s7 q7 => ?_)
    have again : ∀ {σ7 : St} {H7 : Hp}, Inv X (pins ++ pinsAt fp s5.heap) σ7 H7 s7 → N σ7 H7 → ∃ m, m < n ∧ ∃ i σ' H', Inv X pins σ' H' s7 ∧ tn i s7.heap ∧ (∀ b ∈ fp, H' b = none) ∧ W i m σ' H' := fun {σ7 H7} I7 n7 => by
      obtain ⟨m', hm, w7⟩ := hN σ7 H7 n7
      refine ⟨m', hm, i + 1, σ7, H7, I7.unpinned, T.keep _ _ _ st5 fun b hb o e => (I7.pin (b, o) (List.mem_append_right _ (List.mem_append_right _ (mem_pinsAt hb e)))).1, fun b hb => ?_, w7⟩
      obtain ⟨o, e, d⟩ := T.obj _ _ st5 b hb
      exact (I7.pin (b, o) (List.mem_append_right _ (List.mem_append_right _ (mem_pinsAt hb e)))).2.1
    cases f with
    | next => obtain ⟨σ7, H7, I7, n7⟩ := q7; exact again I7 n7
    | cont => obtain ⟨σ7, H7, I7, n7⟩ := q7; exact again I7 n7
    | brk => obtain ⟨σ7, H7, I7, q7⟩ := q7; exact ⟨σ7, H7, I7.unpinned, q7⟩
    | ret v => obtain ⟨x7, σ7, H7, I7, r7, q7⟩ := q7; exact ⟨x7, σ7, H7, I7.unpinned, r7, q7⟩
end

/-! ### the forms one uses -/
/-- over a list that the body leaves as it is -/
theorem for_list {K : PySem.W.Frag} {a : Addr} {xs : List V} {g : TG} {tb : TS} {D : Ends} {σ : St} {H : Hp} (Pv : Nat → St → Hp → Prop) (h0 : Pv 0 σ H) (hl : ∀ i σ H, i ≤ xs.length → Pv i σ H → SqL K H a xs)
    (hs : ∀ i x σ H, xs[i]? = some x → Pv i σ H → g x σ H fun σ2 H2 => tb { D with nx := Pv (i + 1), ct := Pv (i + 1), bk := D.nx } σ2 H2) (hd : ∀ σ H, Pv xs.length σ H → D.nx σ H) :
    ∃ W : Nat → Nat → St → Hp → Prop, (∃ m, W 0 m σ H) ∧ ∀ i m σ H, W i m σ H →
      ((Itl K a).stop i H ∧ D.nx σ H) ∨ ((Itl K a).go i H ∧ ∃ N : St → Hp → Prop, (∀ σ' H', N σ' H' → ∃ m', m' < m ∧ W (i + 1) m' σ' H') ∧ ∀ x H', (Itl K a).yld i H x H' → g x σ H' fun σ2 H2 => tb { D with nx := N, ct := N, bk := D.nx } σ2 H2) := by
  refine ⟨fun i m σ H => m = xs.length - i ∧ i ≤ xs.length ∧ Pv i σ H, ⟨xs.length, by simp, Nat.zero_le _, h0⟩, ?_⟩
  rintro i m σ H ⟨rfl, hi, p⟩
  have q := hl i σ H hi p
  by_cases hlt : i < xs.length
  · refine .inr ⟨⟨xs, xs[i], q, by simp [hlt]⟩, Pv (i + 1), fun σ' H' p' => ⟨xs.length - (i + 1), by omega, rfl, hlt, p'⟩, fun x H' y => ?_⟩
    obtain ⟨e, y⟩ := y
    subst e
    exact hs i x σ _ (y xs q) p
  · have e : i = xs.length := by omega
    subst e
    exact .inl ⟨⟨xs, q, Nat.le_refl _⟩, hd σ H p⟩
theorem for_tup {K : PySem.W.Frag} {a : Addr} {xs : List V} {g : TG} {tb : TS} {D : Ends} {σ : St} {H : Hp} (Pv : Nat → St → Hp → Prop) (h0 : Pv 0 σ H) (hl : ∀ i σ H, i ≤ xs.length → Pv i σ H → SqT K H a xs)
    (hs : ∀ i x σ H, xs[i]? = some x → Pv i σ H → g x σ H fun σ2 H2 => tb { D with nx := Pv (i + 1), ct := Pv (i + 1), bk := D.nx } σ2 H2) (hd : ∀ σ H, Pv xs.length σ H → D.nx σ H) :
    ∃ W : Nat → Nat → St → Hp → Prop, (∃ m, W 0 m σ H) ∧ ∀ i m σ H, W i m σ H →
      ((Itt K a).stop i H ∧ D.nx σ H) ∨ ((Itt K a).go i H ∧ ∃ N : St → Hp → Prop, (∀ σ' H', N σ' H' → ∃ m', m' < m ∧ W (i + 1) m' σ' H') ∧ ∀ x H', (Itt K a).yld i H x H' → g x σ H' fun σ2 H2 => tb { D with nx := N, ct := N, bk := D.nx } σ2 H2) := by
  refine ⟨fun i m σ H => m = xs.length - i ∧ i ≤ xs.length ∧ Pv i σ H, ⟨xs.length, by simp, Nat.zero_le _, h0⟩, ?_⟩
  rintro i m σ H ⟨rfl, hi, p⟩
  have q := hl i σ H hi p
  by_cases hlt : i < xs.length
  · refine .inr ⟨⟨xs, xs[i], q, by simp [hlt]⟩, Pv (i + 1), fun σ' H' p' => ⟨xs.length - (i + 1), by omega, rfl, hlt, p'⟩, fun x H' y => ?_⟩
    obtain ⟨e, y⟩ := y
    subst e
    exact hs i x σ _ (y xs q) p
  · have e : i = xs.length := by omega
    subst e
    exact .inl ⟨⟨xs, q, Nat.le_refl _⟩, hd σ H p⟩
theorem for_range {lo : Int} {n : Nat} {g : TG} {tb : TS} {D : Ends} {σ : St} {H : Hp} (Pv : Nat → St → Hp → Prop) (h0 : Pv 0 σ H)
    (hs : ∀ i σ H, i < n → Pv i σ H → g (.int (lo + i)) σ H fun σ2 H2 => tb { D with nx := Pv (i + 1), ct := Pv (i + 1), bk := D.nx } σ2 H2) (hd : ∀ σ H, Pv n σ H → D.nx σ H) :
    ∃ W : Nat → Nat → St → Hp → Prop, (∃ m, W 0 m σ H) ∧ ∀ i m σ H, W i m σ H →
      ((Itr lo n).stop i H ∧ D.nx σ H) ∨ ((Itr lo n).go i H ∧ ∃ N : St → Hp → Prop, (∀ σ' H', N σ' H' → ∃ m', m' < m ∧ W (i + 1) m' σ' H') ∧ ∀ x H', (Itr lo n).yld i H x H' → g x σ H' fun σ2 H2 => tb { D with nx := N, ct := N, bk := D.nx } σ2 H2) := by
  refine ⟨fun i m σ H => m = n - i ∧ i ≤ n ∧ Pv i σ H, ⟨n, by simp, Nat.zero_le _, h0⟩, ?_⟩
  rintro i m σ H ⟨rfl, hi, p⟩
  by_cases hlt : i < n
  · refine .inr ⟨hlt, Pv (i + 1), fun σ' H' p' => ⟨n - (i + 1), by omega, rfl, hlt, p'⟩, fun x H' y => ?_⟩
    obtain ⟨e, y⟩ := y
    subst e y
    exact hs i σ _ hlt p
  · have e : i = n := by omega
    subst e
    exact .inl ⟨Nat.le_refl _, hd σ H p⟩
end L2

namespace L2
open PySem PySem.Spec PyProof.Rows

abbrev R2 := V → V → Hp → VK → Prop
/-- a two-place operation on values: f is binaryOp op, inplaceOp op or compareOp op -/
def OpR (X : Cx) (f : Value → Value → Sem Value) (r : R2) : Prop :=
  ∀ (pins : List (Addr × Obj)) (s : Shared) (σ : St) (H : Hp) (x y : V) (v u : Value) (Q : VK), Inv X pins σ H s → RelV x v → RelV y u → r x y H Q →
    wpAny (model X.prog X.w) X.A (f v u) (EP X pins σ Q) X.xe s
/-- a one-place operation -/
def UnR (X : Cx) (f : Value → Sem Value) (r : V → Hp → VK → Prop) : Prop :=
  ∀ (pins : List (Addr × Obj)) (s : Shared) (σ : St) (H : Hp) (x : V) (v : Value) (Q : VK), Inv X pins σ H s → RelV x v → r x H Q →
    wpAny (model X.prog X.w) X.A (f v) (EP X pins σ Q) X.xe s
/-- a call of a value that is known (a builtin, a type) with values -/
def CallR (X : Cx) (f : Value) (r : List V → Hp → VK → Prop) : Prop :=
  ∀ (pins : List (Addr × Obj)) (s : Shared) (σ : St) (H : Hp) (xs : List V) (us : List Value) (Q : VK), Inv X pins σ H s → Vals xs us → r xs H Q →
    wpAny (model X.prog X.w) X.A (call f us) (EP X pins σ Q) X.xe s
def tOp (r : R2) (ta tb : TE) : TE := fun σ H Q => ta σ H fun x H1 => tb σ H1 fun y H2 => r x y H2 Q
def tUn (r : V → Hp → VK → Prop) (ta : TE) : TE := fun σ H Q => ta σ H fun x H1 => r x H1 Q
/-- ints in, under C, and a value out -/
def rI (C : Int → Int → Prop) (g : Int → Int → V) : R2 := fun x y H Q => ∃ i j, x = .int i ∧ y = .int j ∧ C i j ∧ Q (g i j) H
def rI0 (g : Int → Int → V) : R2 := fun x y H Q => ∃ i j, x = .int i ∧ y = .int j ∧ Q (g i j) H
def rU (g : Int → V) : V → Hp → VK → Prop := fun x H Q => ∃ i, x = .int i ∧ Q (g i) H

section
variable {X : Cx} {a b c : Expr} {ta tb tc : TE} {pos : Pos}

theorem binT (ha : PE X a ta) (hb : PE X b tb) {pins : List (Addr × Obj)} {s : Shared} {σ : St} {H : Hp} {R : V → V → Hp → Prop} (I : Inv X pins σ H s)
    (h : ta σ H fun x H1 => tb σ H1 fun y H2 => R x y H2) {Q : Value → Shared → Prop} {f : Value → Value → Sem Value}
    (hf : ∀ v u s2 x y H2, Inv X pins σ H2 s2 → RelV x v → RelV y u → R x y H2 → wpAny (model X.prog X.w) X.A (f v u) Q X.xe s2) :
    wpAny (model X.prog X.w) X.A (eval a X.env) (fun v s₁ => wpAny (model X.prog X.w) X.A (eval b X.env) (fun u s₂ => wpAny (model X.prog X.w) X.A (f v u) Q X.xe s₂) X.xe s₁) X.xe s := by
  refine thn (ha pins s σ H _ I h) fun v s1 ⟨x, H1, I1, r1, q1⟩ => ?_
  refine thn (hb pins s1 σ H1 _ I1 q1) fun u s2 ⟨y, H2, I2, r2, q2⟩ => ?_
  exact hf v u s2 x y H2 I2 r1 r2 q2

theorem pe_op {op : Operator} {r : R2} (ho : OpR X (binaryOp op) r) (ha : PE X a ta) (hb : PE X b tb) : PE X (.BinOp a op b pos) (tOp r ta tb) := by
  intro pins s σ H Q I h
  exact wpAny_BinOp (binT ha hb I h fun v u s2 x y H2 I2 rx ry q => ho pins s2 σ H2 x y v u Q I2 rx ry q)
theorem pe_un {op : UnaryOp} {r : V → Hp → VK → Prop} (ho : UnR X (unaryOp op) r) (ha : PE X a ta) : PE X (.UnaryOp op a pos) (tUn r ta) := by
  intro pins s σ H Q I h
  exact UnaryOp_ (thn (ha pins s σ H _ I h) fun v s1 ⟨x, H1, I1, r1, q1⟩ => ho pins s1 σ H1 x v Q I1 r1 q1)
/-! ### ints -/
theorem opI {f : Value → Value → Sem Value} {C : Int → Int → Prop} {g : Int → Int → Int}
    (rule : ∀ (i j : Int) (t u : Tok) (s : Shared) (Q : Value → Shared → Prop) (E : Value → Shared → Prop), C i j → Q (.int (g i j) s.toks) { s with toks := s.toks + 1 } → wpAny (model X.prog X.w) X.A (f (.int i t) (.int j u)) Q E s) :
    OpR X f (rI C fun i j => .int (g i j)) := by
  intro pins s σ H x y v u Q I rx ry h
  obtain ⟨i, j, rfl, rfl, hc, q⟩ := h
  obtain ⟨t, rfl⟩ := rx
  obtain ⟨t', rfl⟩ := ry
  exact rule i j t t' s _ _ hc ⟨.int (g i j), H, I.tok _, ⟨_, rfl⟩, q⟩
theorem opI0 {f : Value → Value → Sem Value} {g : Int → Int → Int}
    (rule : ∀ (i j : Int) (t u : Tok) (s : Shared) (Q : Value → Shared → Prop) (E : Value → Shared → Prop), Q (.int (g i j) s.toks) { s with toks := s.toks + 1 } → wpAny (model X.prog X.w) X.A (f (.int i t) (.int j u)) Q E s) :
    OpR X f (rI0 fun i j => .int (g i j)) := by
  intro pins s σ H x y v u Q I rx ry h
  obtain ⟨i, j, rfl, rfl, q⟩ := h
  obtain ⟨t, rfl⟩ := rx
  obtain ⟨t', rfl⟩ := ry
  exact rule i j t t' s _ _ ⟨.int (g i j), H, I.tok _, ⟨_, rfl⟩, q⟩
theorem opB0 {f : Value → Value → Sem Value} {g : Int → Int → Bool}
    (rule : ∀ (i j : Int) (t u : Tok) (s : Shared) (Q : Value → Shared → Prop) (E : Value → Shared → Prop), Q (.bool (g i j)) s → wpAny (model X.prog X.w) X.A (f (.int i t) (.int j u)) Q E s) :
    OpR X f (rI0 fun i j => .bl (g i j)) := by
  intro pins s σ H x y v u Q I rx ry h
  obtain ⟨i, j, rfl, rfl, q⟩ := h
  obtain ⟨t, rfl⟩ := rx
  obtain ⟨t', rfl⟩ := ry
  exact rule i j t t' s _ _ ⟨.bl (g i j), H, I, rfl, q⟩

def CDiv (i j : Int) : Prop := 0 < j ∧ j < 1073741824
def CPow (i j : Int) : Prop := 0 ≤ j ∧ j ≤ 1000000 ∧ i.natAbs < 2 ^ 64
def CMul (i j : Int) : Prop := (-(2 ^ 64) < i ∧ i < 2 ^ 64) ∨ (-(2 ^ 64) < j ∧ j < 2 ^ 64)
theorem CMul.ok {i j : Int} (h : CMul i j) : IntMulOk i j := by
  rcases h with ⟨h1, h2⟩ | ⟨h1, h2⟩
  · exact .of_left (intBits_le_64 h1 h2)
  · exact .of_right (intBits_le_64 h1 h2)
theorem op_add : OpR X (binaryOp .Add) (rI0 fun i j => .int (i + j)) := opI0 fun _ _ _ _ _ _ _ q => add_int q
theorem op_sub : OpR X (binaryOp .Sub) (rI0 fun i j => .int (i - j)) := opI0 fun _ _ _ _ _ _ _ q => sub_int q
theorem op_mul : OpR X (binaryOp .Mult) (rI CMul fun i j => .int (i * j)) := opI fun _ _ _ _ _ _ _ hc q => mul_int q hc.ok
/-- // by a positive divisor -/
theorem op_fdiv : OpR X (binaryOp .FloorDiv) (rI CDiv fun i j => .int (i / j)) := opI fun i j _ _ _ _ _ hc q => by
  have h1 : (0 : Int) < j := hc.1
  have h2 : j < 1073741824 := hc.2
  exact floordiv_int (by omega) (by rw [Int.fdiv_eq_ediv_of_nonneg i (by omega)]; exact q) (.inl (PyProof.noPylong_small (by omega)))
/-- % by a positive divisor of any size -/
theorem op_mod : OpR X (binaryOp .Mod) (rI (fun _ j => 0 < j) fun i j => .int (i % j)) := opI fun i j _ _ _ _ _ hc q => by
  have h1 : (0 : Int) < j := hc
  exact mod_int' (by omega) (by rw [Int.fmod_eq_emod_of_nonneg i (by omega)]; exact q)
theorem op_pow : OpR X (binaryOp .Pow) (rI CPow fun i j => .int (i ^ j.toNat)) := opI fun _ _ _ _ _ _ _ hc q => pow_int_small hc.1 hc.2.1 hc.2.2 q
theorem unI {f : Value → Sem Value} {g : Int → Int}
    (rule : ∀ (i : Int) (t : Tok) (s : Shared) (Q : Value → Shared → Prop) (E : Value → Shared → Prop), Q (.int (g i) s.toks) { s with toks := s.toks + 1 } → wpAny (model X.prog X.w) X.A (f (.int i t)) Q E s) :
    UnR X f (rU fun i => .int (g i)) := by
  intro pins s σ H x v Q I rx h
  obtain ⟨i, rfl, q⟩ := h
  obtain ⟨t, rfl⟩ := rx
  exact rule i t s _ _ ⟨.int (g i), H, I.tok _, ⟨_, rfl⟩, q⟩
theorem un_neg : UnR X (unaryOp .USub) (rU fun i => .int (-i)) := unI fun _ _ _ _ _ q => neg_int q
/-! ### bools among ints: n += (a < b) -/
end

/-! ### comparisons -/
/-- the scalars that == tells apart as data does -/
def scal : V → V → Bool
  | .non, .non => true | .non, .int _ => true | .int _, .non => true | .non, .bl _ => true | .bl _, .non => true | .non, .str _ => true | .str _, .non => true
  | .int _, .int _ => true | .bl _, .bl _ => true | .str _, .str _ => true | .byt _, .byt _ => true
  | .int _, .str _ => true | .str _, .int _ => true | .bl _, .str _ => true | .str _, .bl _ => true
  | _, _ => false
def rEq : R2 := fun x y H Q => scal x y = true ∧ Q (.bl (decide (x = y))) H
def rNe : R2 := fun x y H Q => scal x y = true ∧ Q (.bl (!decide (x = y))) H

theorem dec_int {i j : Int} : decide (V.int i = V.int j) = (i == j) := by
  rw [Bool.eq_iff_iff]
  simp
theorem dec_bl {i j : Bool} : decide (V.bl i = V.bl j) = (i == j) := by
  rw [Bool.eq_iff_iff]
  simp
theorem dec_str {i j : Str} : decide (V.str i = V.str j) = (i == j) := by
  rw [Bool.eq_iff_iff]
  simp
theorem dec_byt {i j : Array UInt8} : decide (V.byt i = V.byt j) = (i.toList == j.toList) := by
  rw [Bool.eq_iff_iff]
  cases i
  cases j
  simp

section
variable {X : Cx} {a b c : Expr} {ta tb tc : TE} {pos : Pos}
theorem fin_bl {pins : List (Addr × Obj)} {σ : St} {H : Hp} {s : Shared} {Q : VK} {k k' : Bool} (I : Inv X pins σ H s) (q : Q (.bl k) H) (e : k = k') : EP X pins σ Q (.bool k') s := by
  subst e
  exact ⟨.bl k, H, I, rfl, q⟩
theorem op_eq : OpR X (compareOp .Eq) rEq := by
  intro pins s σ H x y v u Q I rx ry h
  obtain ⟨hs, q⟩ := h
  cases x with
  | non =>
    cases rx
    cases y with
    | non => cases ry; exact PySem.EqNone.eq_none_none (fin_bl I q (by simp))
    | bl j => cases ry; exact PySem.EqNone.eq_none_bool (fin_bl I q (by simp))
    | int j => obtain ⟨t', rfl⟩ := ry; exact PySem.EqNone.eq_none_int (fin_bl I q (by simp))
    | str j => obtain ⟨t', rfl⟩ := ry; exact PySem.EqNone.eq_none_str (fin_bl I q (by simp))
    | _ => exact absurd (show false = true from hs) Bool.false_ne_true
  | bl i =>
    cases rx
    cases y with
    | non => cases ry; exact PySem.EqNone.eq_bool_none (fin_bl I q (by simp))
    | bl j => cases ry; exact eq_bool (fin_bl I q dec_bl)
    | str j => obtain ⟨t', rfl⟩ := ry; exact PySem.EqMixed.eq_bool_str (fin_bl I q (by simp))
    | _ => exact absurd (show false = true from hs) Bool.false_ne_true
  | int i =>
    obtain ⟨t, rfl⟩ := rx
    cases y with
    | non => cases ry; exact PySem.EqNone.eq_int_none (fin_bl I q (by simp))
    | int j => obtain ⟨t', rfl⟩ := ry; exact eq_int (fin_bl I q dec_int)
    | str j => obtain ⟨t', rfl⟩ := ry; exact PySem.EqMixed.eq_int_str (fin_bl I q (by simp))
    | _ => exact absurd (show false = true from hs) Bool.false_ne_true
  | str i =>
    obtain ⟨t, rfl⟩ := rx
    cases y with
    | non => cases ry; exact PySem.EqNone.eq_str_none (fin_bl I q (by simp))
    | bl j => cases ry; exact PySem.EqMixed.eq_str_bool (fin_bl I q (by simp))
    | int j => obtain ⟨t', rfl⟩ := ry; exact PySem.EqMixed.eq_str_int (fin_bl I q (by simp))
    | str j => obtain ⟨t', rfl⟩ := ry; exact eq_str (fin_bl I q dec_str)
    | _ => exact absurd (show false = true from hs) Bool.false_ne_true
  | byt i =>
    obtain ⟨t, rfl⟩ := rx
    cases y with
    | byt j => obtain ⟨t', rfl⟩ := ry; exact PySem.W.eq_bytes (fin_bl I q dec_byt)
    | _ => exact absurd (show false = true from hs) Bool.false_ne_true
  | _ => cases y <;> exact absurd (show false = true from hs) Bool.false_ne_true
theorem op_ne : OpR X (compareOp .NotEq) rNe := by
  intro pins s σ H x y v u Q I rx ry h
  obtain ⟨hs, q⟩ := h
  cases x with
  | non =>
    cases rx
    cases y with
    | non => cases ry; exact PySem.EqNone.ne_none_none (fin_bl I q (by simp))
    | bl j => cases ry; exact PySem.EqNone.ne_none_bool (fin_bl I q (by simp))
    | int j => obtain ⟨t', rfl⟩ := ry; exact PySem.EqNone.ne_none_int (fin_bl I q (by simp))
    | str j => obtain ⟨t', rfl⟩ := ry; exact PySem.EqNone.ne_none_str (fin_bl I q (by simp))
    | _ => exact absurd (show false = true from hs) Bool.false_ne_true
  | bl i =>
    cases rx
    cases y with
    | non => cases ry; exact PySem.EqNone.ne_bool_none (fin_bl I q (by simp))
    | bl j => cases ry; exact ne_bool (fin_bl I q (congrArg not dec_bl))
    | str j => obtain ⟨t', rfl⟩ := ry; exact PySem.EqMixed.ne_bool_str (fin_bl I q (by simp))
    | _ => exact absurd (show false = true from hs) Bool.false_ne_true
  | int i =>
    obtain ⟨t, rfl⟩ := rx
    cases y with
    | non => cases ry; exact PySem.EqNone.ne_int_none (fin_bl I q (by simp))
    | int j => obtain ⟨t', rfl⟩ := ry; exact ne_int (fin_bl I q (congrArg not dec_int))
    | str j => obtain ⟨t', rfl⟩ := ry; exact PySem.EqMixed.ne_int_str (fin_bl I q (by simp))
    | _ => exact absurd (show false = true from hs) Bool.false_ne_true
  | str i =>
    obtain ⟨t, rfl⟩ := rx
    cases y with
    | non => cases ry; exact PySem.EqNone.ne_str_none (fin_bl I q (by simp))
    | bl j => cases ry; exact PySem.EqMixed.ne_str_bool (fin_bl I q (by simp))
    | int j => obtain ⟨t', rfl⟩ := ry; exact PySem.EqMixed.ne_str_int (fin_bl I q (by simp))
    | str j => obtain ⟨t', rfl⟩ := ry; exact ne_str (fin_bl I q (congrArg not dec_str))
    | _ => exact absurd (show false = true from hs) Bool.false_ne_true
  | byt i =>
    obtain ⟨t, rfl⟩ := rx
    cases y with
    | byt j => obtain ⟨t', rfl⟩ := ry; exact PySem.W.ne_bytes (fin_bl I q (congrArg not dec_byt))
    | _ => exact absurd (show false = true from hs) Bool.false_ne_true
  | _ => cases y <;> exact absurd (show false = true from hs) Bool.false_ne_true

theorem op_lt : OpR X (compareOp .Lt) (rI0 fun i j => .bl (decide (i < j))) := opB0 fun _ _ _ _ _ _ _ q => lt_int q
theorem op_le : OpR X (compareOp .LtE) (rI0 fun i j => .bl (decide (i ≤ j))) := opB0 fun _ _ _ _ _ _ _ q => le_int q
theorem op_gt : OpR X (compareOp .Gt) (rI0 fun i j => .bl (decide (j < i))) := opB0 fun _ _ _ _ _ _ _ q => gt_int q
/-- the one string within the other -/
theorem op_in_str : OpR X (compareOp .In) (fun x y H Q => ∃ i j, x = .str i ∧ y = .str j ∧ Q (.bl (!(Builtin.Str.occurrences j i 0 j.length 1).isEmpty)) H) := by
  intro pins s σ H x y v u Q I rx ry h
  obtain ⟨i, j, rfl, rfl, q⟩ := h
  obtain ⟨t, rfl⟩ := rx
  obtain ⟨t', rfl⟩ := ry
  exact in_str (fin_bl I q rfl)

theorem nomark (b : Expr) {op : CmpOp} (h : op ≠ .In := by decide) (h2 : op ≠ .NotIn := by decide) : behindInMarks op b = false := by
  have e1 : (op == CmpOp.In) = false := by cases op <;> first | rfl | exact absurd rfl h
  have e2 : (op == CmpOp.NotIn) = false := by cases op <;> first | rfl | exact absurd rfl h2
  cases b <;> simp [behindInMarks, e1, e2]
/-- a comparison as a value; hm: nomark b, or (for in, not in) by with_unfolding_all rfl -/
theorem pe_cmpR {op : CmpOp} {r : R2} (ho : OpR X (compareOp op) r) (ha : PE X a ta) (hb : PE X b tb) (hm : behindInMarks op b = false) : PE X (.Compare a [op] [b] pos) (tOp r ta tb) := by
  intro pins s σ H Q I h
  exact wpAny_Compare1 (binT ha hb I h fun v u s2 x y H2 I2 rx ry q => ho pins s2 σ H2 x y v u Q I2 rx ry q) hm
/-- a reading of a value as a test -/
def tTest (t : TE) : TT := fun σ H Q => t σ H fun x H' => ∃ k, x = .bl k ∧ Q k H'
theorem pt_cmpR {op : CmpOp} {r : R2} (ho : OpR X (compareOp op) r) (ha : PE X a ta) (hb : PE X b tb) (hm : behindInMarks op b = false) : PT X (.Compare a [op] [b] pos) (tTest (tOp r ta tb)) := by
  intro pins s σ H Q I h
  refine wpAny_isTrue_Compare1 (thn (ha pins s σ H _ I h) fun v s1 ⟨x, H1, I1, r1, q1⟩ => thn (hb pins s1 σ H1 _ I1 q1) fun u s2 ⟨y, H2, I2, r2, q2⟩ =>
    thn (ho pins s2 σ H2 x y v u _ I2 r1 r2 q2) fun c s3 ⟨z, H3, I3, r3, k, e, q3⟩ => ?_) hm
  subst e
  cases r3
  exact wpAny_truthy_bool ⟨H3, I3, q3⟩
/-- a op1 b op2 c -/
def tChain (r r' : R2) (ta tb tc : TE) : TE := fun σ H Q => ta σ H fun x H1 => tb σ H1 fun y H2 => r x y H2 fun z H3 => ∃ k, z = .bl k ∧
  (if k = true then tc σ H3 fun w' H4 => r' y w' H4 Q else Q (.bl false) H3)
theorem pe_chain {op op' : CmpOp} {r r' : R2} (ho : OpR X (compareOp op) r) (ho' : OpR X (compareOp op') r') (ha : PE X a ta) (hb : PE X b tb) (hc : PE X c tc)
    (hm : lastMarks [op, op'] [b, c] = false := by with_unfolding_all rfl) : PE X (.Compare a [op, op'] [b, c] pos) (tChain r r' ta tb tc) := by
  intro pins s σ H Q I h
  refine Compare_chain (thn (ha pins s σ H _ I h) fun v s1 ⟨x, H1, I1, r1, q1⟩ => chain_link (thn (hb pins s1 σ H1 _ I1 q1) fun u s2 ⟨y, H2, I2, r2, q2⟩ =>
    thn (ho pins s2 σ H2 x y v u _ I2 r1 r2 q2) fun d s3 ⟨z, H3, I3, r3, k, e, q3⟩ => ?_)) hm
  subst e
  cases r3
  refine wpAny_truthy_bool ?_
  cases k with
  | false => exact ite_ff ⟨.bl false, H3, I3, rfl, q3⟩
  | true => exact ite_tt (chain_last (thn (hc pins s3 σ H3 _ I3 q3) fun w' s4 ⟨z', H4, I4, r4, q4⟩ => ho' pins s4 σ H4 y z' u w' Q I4 r2 r4 q4))
/-! ### truth -/
theorem line63 : (sizeLine : Nat) < 2 ^ 63 := by rw [sizeLine_eq]; decide
/-! ### strs and bytes -/
theorem op_add_str : OpR X (binaryOp .Add) (fun x y H Q => ∃ i j, x = .str i ∧ y = .str j ∧ i.length + j.length ≤ sizeLine ∧ Q (.str (i ++ j)) H) := by
  intro pins s σ H x y v u Q I rx ry h
  obtain ⟨i, j, rfl, rfl, hz, q⟩ := h
  obtain ⟨t, rfl⟩ := rx
  obtain ⟨t', rfl⟩ := ry
  exact add_str (fun t' tk => ⟨.str (i ++ j), H, I.tok _, ⟨_, rfl⟩, q⟩) hz
/-! ### scalar builtins, by CallR -/
theorem vals1 {x : V} {us : List Value} (r : Vals [x] us) : ∃ u, us = [u] ∧ RelV x u := by
  cases r with
  | cons r1 r2 => cases r2; exact ⟨_, rfl, r1⟩
theorem vals2 {x y : V} {us : List Value} (r : Vals [x, y] us) : ∃ u w', us = [u, w'] ∧ RelV x u ∧ RelV y w' := by
  cases r with
  | cons r1 r2 =>
    cases r2 with
    | cons r3 r4 => cases r4; exact ⟨_, _, rfl, r1, r3⟩
theorem call_abs : CallR X (.builtin "abs") (fun xs H Q => ∃ i, xs = [.int i] ∧ Q (.int (if i < 0 then -i else i)) H) := by
  intro pins s σ H xs us Q I r h
  obtain ⟨i, rfl, q⟩ := h
  obtain ⟨u, rfl, t, rfl⟩ := vals1 r
  exact call_abs_int fun u tk => ⟨.int (if i < 0 then -i else i), H, I.tok _, ⟨_, rfl⟩, q⟩
theorem call_max2 (hc : X.calm = true) : CallR X (.builtin "max") (fun xs H Q => ∃ i j, xs = [.int i, .int j] ∧ Q (.int (if j > i then j else i)) H) := by
  intro pins s σ H xs us Q I r h
  obtain ⟨i, j, rfl, q⟩ := h
  obtain ⟨u, w', rfl, ⟨t, rfl⟩, ⟨t', rfl⟩⟩ := vals2 r
  refine max_two_ints (I.ok.hd hc) fun h' tk k => ⟨_, H, I.kept k, ?_, q⟩
  by_cases hj : j > i
  · rw [if_pos hj, if_pos hj]; exact ⟨_, rfl⟩
  · rw [if_neg hj, if_neg hj]; exact ⟨_, rfl⟩
theorem call_min2 (hc : X.calm = true) : CallR X (.builtin "min") (fun xs H Q => ∃ i j, xs = [.int i, .int j] ∧ Q (.int (if j < i then j else i)) H) := by
  intro pins s σ H xs us Q I r h
  obtain ⟨i, j, rfl, q⟩ := h
  obtain ⟨u, w', rfl, ⟨t, rfl⟩, ⟨t', rfl⟩⟩ := vals2 r
  refine min_two_ints (I.ok.hd hc) fun h' tk k => ⟨_, H, I.kept k, ?_, q⟩
  by_cases hj : j < i
  · rw [if_pos hj, if_pos hj]; exact ⟨_, rfl⟩
  · rw [if_neg hj, if_neg hj]; exact ⟨_, rfl⟩
end
end L2

namespace L2
open PySem PySem.Spec PyProof.Rows

/-! ### an instance, its attributes a map -/
structure ObjM (h : Heap) (x dx C : Addr) (mA : Str → Option Value) : Prop where
  obj : h.get? x = some (PySem.W.instObj C dx)
  ns : h.Ns1 dx mA
  ne : dx ≠ x

theorem lookIn_ns {h : Heap} {dx : Addr} {mA : Str → Option Value} (n : h.Ns1 dx mA) : ∃ od, h.get? dx = some od ∧ ∀ name, PySem.W.lookIn name od = some (mA name) := by
  obtain ⟨o, es, ep, ho, hd, hk, _, hm⟩ := n
  refine ⟨o, ho, fun name => ?_⟩
  have e := hm name
  unfold nsFind findBy at e
  rw [← Array.find?_toList] at e
  unfold PySem.W.lookIn
  rw [hd]
  dsimp only
  split
  · rename_i y q
    rw [q] at e
    exact congrArg some e
  · rename_i q
    rw [q] at e
    have a : es.toList.any (·.refKey) = false := by
      rw [List.any_eq_false]
      intro y hy
      obtain ⟨z, t, hkey⟩ := hk y (Array.mem_toList_iff.mp hy)
      simp [DictEntry.refKey, hkey]
    have a' : ¬ es.toList.any (·.refKey) = true := by rw [a]; exact Bool.false_ne_true
    rw [if_neg a']
    exact congrArg some e

theorem ObjM.look {h : Heap} {x dx C : Addr} {mA : Str → Option Value} (I : ObjM h x dx C mA) : ∃ od, PySem.W.InstAt h x (PySem.W.instObj C dx) C (some od) ∧ ∀ name, PySem.W.lookIn name od = some (mA name) :=
  let ⟨od, ho, hl⟩ := lookIn_ns I.ns
  ⟨od, ⟨I.obj, rfl, rfl, ho⟩, hl⟩

section
variable {prog : Program} {w : World} {A : Around} {E : Value → Shared → Prop} {s : Shared} {K : PySem.W.Frag} {x dx C f : Addr} {mA : Str → Option Value} {name : Str} {v : Value}

theorem get_map {expr : Bool} {Q : Value → Shared → Prop} (X : K.In s.heap) (I : ObjM s.heap x dx C mA) (hg : PySem.W.plainGet K C name = true) (hh : PySem.W.hasDictIn K C = true)
    (ha : PySem.W.findIn K (.ref C) name = some none) (hv : mA name = some v) (hv' : PySem.W.handedIn v = true) (h : Q v { s with toks := s.toks + 1 }) :
    wpAny (model prog w) A (getAttr (.ref x) name expr) Q E s := by
  obtain ⟨od, J, hl⟩ := I.look
  exact PySem.W.get_value X J (PySem.W.plainGet_of hg).1 (PySem.W.findObj_own hh ha rfl (by rw [hl, hv])) hv' h

theorem get_meth {pl : Sem Bool} {Q : Value × List Value → Shared → Prop} (X : K.In s.heap) (I : ObjM s.heap x dx C mA) (hg : PySem.W.plainGet K C name = true)
    (hf : PySem.W.findIn K (.ref C) name = some (some (.ref f))) (ht : PySem.W.isFn K (.ref f) = true) (hv : mA name = none) (h : Q (.ref f, [.ref x]) s) :
    wpAny (model prog w) A (getMethod (.ref x) name pl) Q E s := by
  obtain ⟨od, J, hl⟩ := I.look
  exact PySem.W.method_fn X J (PySem.W.plainGet_of hg).1 (PySem.W.plainGet_of hg).2 hf (beq_iff_eq.mp ht) (by show (PySem.W.lookIn name od).map (·.isSome) = some false; rw [hl, hv]; rfl) h

theorem set_map {ns : List Str} {Q : Unit → Shared → Prop} (X : K.In s.heap) (I : ObjM s.heap x dx C mA)
    (hs : PySem.W.findIn K (.ref C) "__setattr__" = some (some (.builtin "object.__setattr__"))) (hp : PySem.W.plainOver K C = true) (ht : PySem.W.takerIn K C name = some none) (hh : PySem.W.hasDictIn K C = true)
    (hw : PySem.Within mA ns) (hsz : ns.length ≤ sizeLine)
    (h : ∀ h', ObjM h' x dx C (fun y => if y = name then some v else mA y) → Heap.SameBut dx s.heap h' → Q () { s with heap := h', toks := s.toks + 2 }) :
    wpAny (model prog w) A (setAttr (.ref x) name v) Q E s := by
  obtain ⟨od, J, hl⟩ := I.look
  refine PySem.W.set_plain X J hs (PySem.W.osa_open (s := { s with toks := s.toks + 1 }) (r := none) X J hp ht fun b => ?_)
  obtain ⟨cd, hc, hd'⟩ := PySem.W.any_some hh
  have hx : s.heap.get? x = some ⟨.ref C, some dx, .plain, #[]⟩ := I.obj
  refine wpAny_bind (wpAny_pure (wpAny_bind (wpAny_bind (wpAny_loadPart hx (wpAny_bind (PySem.W.Looks.here (s := { s with toks := s.toks + 1 }) (PySem.W.looks_clsIn X hc) ?_))))))
  rw [hd']
  refine wpAny_pure (a := some dx) (wpAny_bind (wpAny_pure (wpAny_bind ?_)))
  refine wpAny_nsSet1 (s := { s with toks := s.toks + 1 }) I.ns fun h' hn2 hs2 => ?_
  obtain ⟨oD, esD, epD, hoD, hdD, hcD⟩ := hn2.count (PySem.Within.cons name v hw)
  refine wpAny_bind (wpAny_lookBehind hoD (by rw [hdD]; exact pastItsLine_dict (Nat.le_trans hcD (by rw [List.length_cons]; omega))) ?_)
  exact wpAny_pure (h _ ⟨(hs2.2 _ (Ne.symm I.ne)).trans I.obj, hn2, I.ne⟩ hs2)

/-- C(..): the dict at the heap's end, the instance behind it; then its __init__ -/
theorem make_map {R : Result → Shared → Prop} {vs : List Value} {kw : List (Str × Value)} (X : K.In s.heap) (hm : PySem.W.makesIn K C = true)
    (hi : PySem.W.findIn K (.ref C) "__init__" = some (some (.ref f))) (hf : PySem.W.typeIn K (.ref f) = some (.type "function"))
    (h : codeAny (model prog w) (A.under (.builtin "type.__call__" ⟨.ref C :: vs, kw⟩)) (.call (.ref f) ⟨.ref (s.heap.objs.size + 1) :: vs, kw⟩) (PySem.W.InitBack (s.heap.objs.size + 1) R)
      { s with heap := (s.heap.push PySem.W.emptyDict).push (PySem.W.instObj C s.heap.objs.size) }) :
    codeAny (model prog w) A (.call (.ref C) ⟨vs, kw⟩) R s := by
  obtain ⟨hh, g, d, t, os⟩ := s
  exact PySem.W.make_core (PySem.W.makes_of X hm) (PySem.W.looks_findIn X hi) (fun self => PySem.W.bind_fn X self hf) (.inl rfl) h
end

/-! ### the attributes as a list of pairs -/
def putF (f : Str) (v : V) : List (Str × V) → List (Str × V)
  | [] => [(f, v)]
  | (g, x) :: r => if g = f then (g, v) :: r else (g, x) :: putF f v r
theorem lookup_putF (f g : Str) (v : V) : ∀ fs : List (Str × V), (putF f v fs).lookup g = if g = f then some v else fs.lookup g
  | [] => by
    show List.lookup g [(f, v)] = _
    by_cases h : g = f
    · have hb : (g == f) = true := beq_iff_eq.mpr h
      simp only [List.lookup, hb, if_pos h]
    · have hb : (g == f) = false := beq_eq_false_iff_ne.mpr h
      simp only [List.lookup, hb, if_neg h]
  | (k, x) :: r => by
    have ih := lookup_putF f g v r
    rw [show putF f v ((k, x) :: r) = (if k = f then (k, v) :: r else (k, x) :: putF f v r) from rfl]
    by_cases hk : k = f
    · rw [if_pos hk]
      by_cases h : g = k
      · have hb : (g == k) = true := beq_iff_eq.mpr h
        simp only [List.lookup, hb, if_pos (h.trans hk)]
      · have hb : (g == k) = false := beq_eq_false_iff_ne.mpr h
        simp only [List.lookup, hb, if_neg (fun e : g = f => h (e.trans hk.symm))]
    · rw [if_neg hk]
      by_cases h : g = k
      · have hb : (g == k) = true := beq_iff_eq.mpr h
        simp only [List.lookup, hb, if_neg (fun e : g = f => hk (h.symm.trans e))]
      · have hb : (g == k) = false := beq_eq_false_iff_ne.mpr h
        simp only [List.lookup, hb]
        exact ih
theorem keys_putF (f : Str) (v : V) : ∀ fs : List (Str × V), f ∈ (putF f v fs).map (·.1) ∧ ∀ g, g ∈ fs.map (·.1) → g ∈ (putF f v fs).map (·.1)
  | [] => ⟨by simp [putF], fun g h => by simp at h⟩
  | (k, x) :: r => by
    obtain ⟨i1, i2⟩ := keys_putF f v r
    rw [show putF f v ((k, x) :: r) = (if k = f then (k, v) :: r else (k, x) :: putF f v r) from rfl]
    by_cases hk : k = f
    · rw [if_pos hk]
      subst hk
      exact ⟨by simp, fun g h => by simpa using h⟩
    · rw [if_neg hk]
      refine ⟨?_, fun g h => ?_⟩
      · rw [List.map_cons]
        exact List.mem_cons_of_mem _ i1
      · rw [List.map_cons] at h ⊢
        rcases List.mem_cons.mp h with e | e
        · exact List.mem_cons.mpr (.inl e)
        · exact List.mem_cons_of_mem _ (i2 g e)
theorem length_putF (f : Str) (v : V) : ∀ fs : List (Str × V), (putF f v fs).length ≤ fs.length + 1
  | [] => by simp [putF]
  | (k, x) :: r => by
    have ih := length_putF f v r
    rw [show putF f v ((k, x) :: r) = (if k = f then (k, v) :: r else (k, x) :: putF f v r) from rfl]
    by_cases hk : k = f
    · rw [if_pos hk, List.length_cons, List.length_cons]; omega
    · rw [if_neg hk, List.length_cons, List.length_cons]; omega

theorem RelO.some_of {v : V} {o : Option Value} (r : RelO (some v) o) : ∃ u, o = some u ∧ RelV v u := by
  cases o with
  | none => exact (show False from r).elim
  | some u => exact ⟨u, rfl, r⟩
theorem RelO.none_of {o : Option Value} (r : RelO none o) : o = none := by
  cases o with
  | none => rfl
  | some u => exact (show False from r).elim
theorem handed_of {v : V} {u : Value} (r : RelV v u) : PySem.W.handedIn u = true := by
  cases v with
  | non => cases (show u = Value.none from r); rfl
  | bl b => cases (show u = Value.bool b from r); rfl
  | int i => obtain ⟨t, e⟩ := (show ∃ t, u = Value.int i t from r); cases e; rfl
  | str x => obtain ⟨t, e⟩ := (show ∃ t, u = Value.str x t from r); cases e; rfl
  | byt b => obtain ⟨t, e⟩ := (show ∃ t, u = Value.bytes b t from r); cases e; rfl
  | flt b => obtain ⟨t, e⟩ := (show ∃ t, u = Value.float b t from r); cases e; rfl
  | ref a => cases (show u = Value.ref a from r); rfl
  | ty n => cases (show u = Value.type n from r); rfl

section
variable {P : Program} {w : World} {H H' : Hp} {h h' : Heap} {a C dx : Addr} {fs fs' : List (Str × V)}
theorem ins_get (hok : HOk P w H h) (e : H a = some (.ins C dx fs)) : ∃ mA, ObjM h a dx C mA ∧ (∀ f, RelO (fs.lookup f) (mA f)) ∧ PySem.Within mA (fs.map (·.1)) ∧ fs.length ≤ 1000 ∧ H dx = some (.own a) := by
  obtain ⟨d, z, ne, ob, mA, n, r, q⟩ := (show ObjOk P w H h a (.ins C dx fs) from hok a _ e)
  exact ⟨mA, ⟨ob, n, ne⟩, r, q, z, d⟩
end

/-! ### what of the text a class must have -/
structure Cls (K : PySem.W.Frag) (C : Addr) : Prop where
  pg : PySem.W.plainGet K C Str.empty = true
  hd : PySem.W.hasDictIn K C = true
  po : PySem.W.plainOver K C = true
  sa : PySem.W.findIn K (.ref C) "__setattr__" = some (some (.builtin "object.__setattr__"))
theorem Cls.get {K : PySem.W.Frag} {C : Addr} (c : Cls K C) (f : Str) : PySem.W.plainGet K C f = true := c.pg
/-- no class of it has the name -/
def NoAttr (K : PySem.W.Frag) (C : Addr) (f : Str) : Prop := PySem.W.findIn K (.ref C) f = some none
theorem NoAttr.taker {K : PySem.W.Frag} {C : Addr} {f : Str} (n : NoAttr K C f) : PySem.W.takerIn K C f = some none := by
  unfold PySem.W.takerIn
  rw [show PySem.W.findIn K (.ref C) f = some none from n]
  rfl
/-- a method: a plain def of the class or of one above it -/
structure Meth (K : PySem.W.Frag) (C : Addr) (m : Str) (f : Addr) : Prop where
  at_ : PySem.W.findIn K (.ref C) m = some (some (.ref f))
  fn : PySem.W.isFn K (.ref f) = true
  kp : PySem.W.keepIn K (.ref f) = true

section
variable {X : Cx} {pins : List (Addr × Obj)} {σ : St} {H : Hp} {s : Shared} {a C dx : Addr} {fs : List (Str × V)} {f : Str} {v : V} {A : Around} {E : Value → Shared → Prop}

theorem getattr_ok {b : Bool} {Q : Value → Shared → Prop} (I : Inv X pins σ H s) (e : H a = some (.ins C dx fs)) (c : Cls X.K C) (n : NoAttr X.K C f) (l : fs.lookup f = some v)
    (h : ∀ u s', Inv X pins σ H s' → RelV v u → Q u s') : wpAny (model X.prog X.w) A (getAttr (.ref a) f b) Q E s := by
  obtain ⟨mA, O, r, _, _, _⟩ := ins_get I.hok e
  obtain ⟨u, hu, ru⟩ := RelO.some_of (v := v) (o := mA f) (by rw [← l]; exact r f)
  exact get_map I.kIn O (c.get f) c.hd n hu (handed_of ru) (h u _ (I.tok _) ru)

theorem getmeth_ok {m : Str} {g : Addr} {pl : Sem Bool} {Q : Value × List Value → Shared → Prop} (I : Inv X pins σ H s) (e : H a = some (.ins C dx fs)) (c : Cls X.K C) (k : Meth X.K C m g) (l : fs.lookup m = none)
    (h : Q (.ref g, [.ref a]) s) : wpAny (model X.prog X.w) A (getMethod (.ref a) m pl) Q E s := by
  obtain ⟨mA, O, r, _, _, _⟩ := ins_get I.hok e
  have hn : mA m = none := RelO.none_of (by rw [← l]; exact r m)
  exact get_meth I.kIn O (c.get m) k.at_ k.fn hn h

theorem setattr_ok {y : V} {u : Value} {Q : Unit → Shared → Prop} (I : Inv X pins σ H s) (e : H a = some (.ins C dx fs)) (c : Cls X.K C) (n : NoAttr X.K C f) (hl : fs.length < 1000) (ry : RelV y u)
    (h : ∀ s', Inv X pins σ (upd H a (.ins C dx (putF f y fs))) s' → Q () s') : wpAny (model X.prog X.w) A (setAttr (.ref a) f u) Q E s := by
  obtain ⟨mA, O, r, wi, _, ho⟩ := ins_get I.hok e
  have hz : (fs.map (·.1)).length ≤ sizeLine := by rw [List.length_map, sizeLine_eq]; omega
  refine set_map I.kIn O c.sa c.po n.taker c.hd wi hz fun h' O' sb => h _ ?_
  have hd : ∃ o, h'.get? dx = some o := let ⟨o, _, _, e', _⟩ := O'.ns; ⟨o, e'⟩
  refine I.write (x := a) (e := dx) (by rw [e]; exact True.intro) (.inr ho) (fun b q hb z => (sb.2 b hb).trans z) hd ?_
  refine ⟨by rw [upd_ne O.ne]; exact ho, ?_, O.ne, O'.obj, _, O'.ns, fun g => ?_, fun g hg => ?_⟩
  · have := length_putF f y fs; omega
  · show RelO ((putF f y fs).lookup g) (if g = f then some u else mA g)
    rw [lookup_putF]
    by_cases q : g = f
    · rw [if_pos q, if_pos q]; exact ry
    · rw [if_neg q, if_neg q]; exact r g
  · by_cases q : g = f
    · rw [q]; exact (keys_putF f y fs).1
    · refine (keys_putF f y fs).2 g (wi g fun z => hg ?_)
      show (if g = f then some u else mA g) = none
      rw [if_neg q]; exact z

/-- a new instance, tracked, without attributes -/
theorem Inv.made (I : Inv X pins σ H s) : Inv X pins σ (upd (upd H s.heap.objs.size (.own (s.heap.objs.size + 1))) (s.heap.objs.size + 1) (.ins C s.heap.objs.size []))
    { s with heap := (s.heap.push PySem.W.emptyDict).push (PySem.W.instObj C s.heap.objs.size) } := by
  have e1 : (s.heap.push PySem.W.emptyDict).get? s.heap.objs.size = some PySem.W.emptyDict := Heap.get?_push_size s.heap rfl
  have e2 : ((s.heap.push PySem.W.emptyDict).push (PySem.W.instObj C s.heap.objs.size)).get? (s.heap.objs.size + 1) = some (PySem.W.instObj C s.heap.objs.size) := by
    have := Heap.get?_push_size (s.heap.push PySem.W.emptyDict) (o := PySem.W.instObj C s.heap.objs.size) rfl
    rwa [Heap.size_push] at this
  have e3 : (s.heap.push PySem.W.emptyDict).Ns s.heap.objs.size (fun _ => none) := ⟨PySem.W.emptyDict, #[], _, e1, rfl, (fun e he => absurd he (by simp)), fun _ => rfl⟩
  have I1 := I.laid (a := s.heap.objs.size) (o := .own (s.heap.objs.size + 1)) (h' := s.heap.push PySem.W.emptyDict) (t' := s.toks) (fun b u q => Heap.get?_push_of_some _ q) (Nat.le_refl _) ⟨_, e1⟩
  refine I1.laid (a := s.heap.objs.size + 1) (o := .ins C s.heap.objs.size []) (t' := s.toks) (fun b u q => Heap.get?_push_of_some _ q) (Nat.le_of_eq (Heap.size_push _ _)) ?_
  have ne : s.heap.objs.size ≠ s.heap.objs.size + 1 := Nat.ne_of_lt (Nat.lt_succ_self _)
  refine ⟨by rw [upd_ne ne, upd_same], Nat.zero_le _, ne, e2, fun _ => none, (Heap.Ns1.of_empty e3).at fun o q => Heap.get?_push_of_some _ q, fun _ => True.intro, fun y hy => absurd rfl hy⟩

/-- e.f where nothing but the object is asked: through attributeBase (super) and the last hold -/
theorem attr_of {prog : Program} {w : World} {env : Env} {e : Expr} {f : Str} {pos : Pos} {s : Shared} {Q : Value → Shared → Prop} (hb : attributeBase e f env (eval e env) = eval e env)
    (h : wpAny (model prog w) A (eval e env) (fun o s₁ => wpAny (model prog w) A (getAttr o f true) Q E s₁) E s) : wpAny (model prog w) A (eval (.Attribute e f pos) env) Q E s :=
  Attribute_any_ h (by rw [arm_eval_Attribute, hb])
end

/-! ### readings and rules -/
/-- e.f, an attribute of the instance -/
def tFld (K : PySem.W.Frag) (ta : TE) (f : Str) : TE := fun σ H Q => ta σ H fun x H1 => ∃ a C dx fs v, x = .ref a ∧ H1 a = some (.ins C dx fs) ∧ Cls K C ∧ NoAttr K C f ∧ fs.lookup f = some v ∧ Q v H1
/-- e.f = value -/
def sFld (K : PySem.W.Frag) (ta tv : TE) (f : Str) : TS := fun D σ H => tv σ H fun y H1 => ta σ H1 fun x H2 => ∃ a C dx fs, x = .ref a ∧ H2 a = some (.ins C dx fs) ∧ Cls K C ∧ NoAttr K C f ∧ fs.length < 1000 ∧
  D.nx σ (upd H2 a (.ins C dx (putF f y fs)))
section
variable {X : Cx} {o e value : Expr} {f : Str} {pos pos' tpos : Pos} {ta tv : TE}
theorem pe_fld (he : PE X e ta) (hb : attributeBase e f X.env (eval e X.env) = eval e X.env) : PE X (.Attribute e f pos) (tFld X.K ta f) := by
  intro pins s σ H Q I h
  refine attr_of hb (thn (he pins s σ H _ I h) fun u s1 ⟨x, H1, I1, rx, a, C, dx, fs, v, ex, ea, c, n, l, q⟩ => ?_)
  subst ex
  obtain rfl : u = Value.ref a := rx
  exact getattr_ok I1 ea c n l fun u' s2 I2 ru => ⟨v, H1, I2, ru, q⟩
theorem ps_fld (ha : PE X o ta) (hv : PE X value tv) (hs : swapsWith value (some (.Attribute o f pos')) pos.line X.env = pure false) : PS X (.Assign [.Attribute o f pos'] value pos) (sFld X.K ta tv f) := by
  intro pins s σ H D I h
  refine plainObj_wpAny_Assign_Attribute (thn (hv pins s σ H _ I h) fun u s1 ⟨y, H1, I1, ry, q⟩ => thn (ha pins s1 σ H1 _ I1 q) fun ov s2 ⟨x, H2, I2, rx, a, C, dx, fs, ex, ea, c, n, l, q2⟩ => ?_) hs
  subst ex
  obtain rfl : ov = Value.ref a := rx
  exact setattr_ok I2 ea c n l ry fun s3 I3 => ⟨σ, _, I3, q2⟩
end

/-! ### isinstance -/
section
variable {X : Cx} {pins : List (Addr × Obj)} {σ : St} {H : Hp} {s : Shared} {A : Around} {E : Value → Shared → Prop} {Q : Value → Shared → Prop} {c : Value} {b : Bool}
/-- the type of a value, as the fragment's deciders take it; for an instance its class -/
inductive TyOf (K : PySem.W.Frag) (H : Hp) : V → Value → Prop where
  | non : TyOf K H .non (.type "NoneType")
  | bl (x : Bool) : TyOf K H (.bl x) (.type "bool")
  | int (i : Int) : TyOf K H (.int i) (.type "int")
  | str (x : Str) : TyOf K H (.str x) (.type "str")
  | flt (x : UInt64) : TyOf K H (.flt x) (.type "float")
  | lst {a : Addr} {xs : List V} (e : H a = some (.lst xs)) : TyOf K H (.ref a) (.type "list")
  | frz {a : Addr} {o : Obj} {xs : List V} (e : H a = some (.frz o (.lst xs))) : TyOf K H (.ref a) (.type "list")
  | tup {a : Addr} {xs : List V} (e : H a = some (.tup xs)) : TyOf K H (.ref a) (.type "tuple")
  | dK {a : Addr} {kvs : List (Key × V)} (e : H a = some (.dK kvs)) : TyOf K H (.ref a) (.type "dict")
  | dT {a : Addr} {kvs : List (List Key × V)} (e : H a = some (.dT kvs)) : TyOf K H (.ref a) (.type "dict")
  | ins {a C dx : Addr} {fs : List (Str × V)} (e : H a = some (.ins C dx fs)) (cl : Cls K C) (ha : PySem.W.findIn K (.ref C) "__class__" = some (some (.builtin "object.__class__")))
      (hn : PySem.W.specialIn K (.builtin "object.__class__") "__get__" = some (some (.builtin "getset_descriptor.__get__"))) (htk : PySem.W.takesIn K (.builtin "object.__class__") = some true)
      (hm : PySem.W.mroIn K C (.type "object") = some true) : TyOf K H (.ref a) (.ref C)
/-- isinstance(x, c) for one class c, a built-in or an own one: kitOne's answer -/
theorem isinst_ok {x : V} {u t : Value} (I : Inv X pins σ H s) (rx : RelV x u) (ty : TyOf X.K H x t) (e : PySem.W.kitOne X.K t c = some b) (h : ∀ tk, Q (.bool b) { s with toks := tk }) :
    wpAny (model X.prog X.w) A (call (.builtin "isinstance") [u, c]) Q E s := by
  cases ty with
  | non => cases (show u = Value.none from rx); exact PySem.W.kia_one PySem.W.kitx_none I.kIn True.intro e (fun z => nomatch z) h
  | bl y => cases (show u = Value.bool y from rx); exact PySem.W.kia_one PySem.W.kitx_bool I.kIn True.intro e (fun z => nomatch z) h
  | int i => obtain ⟨t, q⟩ := (show ∃ t, u = Value.int i t from rx); cases q; exact PySem.W.kia_one PySem.W.kitx_int I.kIn True.intro e (fun z => nomatch z) h
  | str y => obtain ⟨t, q⟩ := (show ∃ t, u = Value.str y t from rx); cases q; exact PySem.W.kia_one PySem.W.kitx_str I.kIn True.intro e (fun z => nomatch z) h
  | flt y => obtain ⟨t, q⟩ := (show ∃ t, u = Value.float y t from rx); cases q; exact PySem.W.kia_one PySem.W.kitx_float I.kIn True.intro e (fun z => nomatch z) h
  | @lst a xs ea =>
    cases (show u = Value.ref a from rx)
    obtain ⟨_, _, n, _, h1⟩ := (show ObjOk X.prog X.w H s.heap a (.lst xs) from I.hok a _ ea)
    exact PySem.W.kia_one PySem.W.kitx_list I.kIn ⟨_, h1, rfl⟩ e (fun z => nomatch z) h
  | @frz a ob xs ea =>
    cases (show u = Value.ref a from rx)
    obtain ⟨_, _, _, n, _, h1⟩ := (show ObjOk X.prog X.w H s.heap a (.frz ob (.lst xs)) from I.hok a _ ea)
    exact PySem.W.kia_one PySem.W.kitx_list I.kIn ⟨_, h1, rfl⟩ e (fun z => nomatch z) h
  | @tup a xs ea =>
    cases (show u = Value.ref a from rx)
    obtain ⟨_, _, _, p⟩ := (show ObjOk X.prog X.w H s.heap a (.tup xs) from I.hok a _ ea)
    obtain ⟨o, h1, h2, _⟩ := p
    exact PySem.W.kia_one PySem.W.kitx_tuple I.kIn ⟨o, h1, h2⟩ e (fun z => nomatch z) h
  | @dK a kvs ea =>
    cases (show u = Value.ref a from rx)
    obtain ⟨_, _, vs, _, p⟩ := (show ObjOk X.prog X.w H s.heap a (.dK kvs) from I.hok a _ ea)
    obtain ⟨o, es, ep, h1, h2, _⟩ := p
    exact PySem.W.kia_one PySem.W.kitx_dict I.kIn ⟨o, h1, h2.1⟩ e (fun z => nomatch z) h
  | @dT a kvs ea =>
    cases (show u = Value.ref a from rx)
    obtain ⟨_, _, xs, _, o, es, ep, h1, h2, _⟩ := (show ObjOk X.prog X.w H s.heap a (.dT kvs) from I.hok a _ ea)
    exact PySem.W.kia_one PySem.W.kitx_dict I.kIn ⟨o, h1, h2.1⟩ e (fun z => nomatch z) h
  | @ins a C dx fs ea cl ha hn htk hm =>
    cases (show u = Value.ref a from rx)
    obtain ⟨mA, O, _⟩ := ins_get I.hok ea
    obtain ⟨od, J, _⟩ := O.look
    exact PySem.W.kia_one (PySem.W.kitx_own (cl.get _) cl.hd ha hn htk hm) I.kIn J e (fun z => nomatch z) h
end
end L2

namespace L2
open PySem PySem.Spec PyProof.Rows

/-! ### room -/
structure Room (k : Nat) (A : Around) : Prop where
  hd : A.handled = none
  dp : A.depth + 3 * k + 5 < recursionLimit
  un : A.units + 16 * k + 200 < cLine
theorem Room.mono {j k : Nat} {A : Around} (r : Room k A) (h : j ≤ k) : Room j A := ⟨r.hd, by have := r.dp; omega, by have := r.un; omega⟩
theorem Room.deeper {k : Nat} {A : Around} (r : Room (k + 1) A) (env : Env) : Room k (A.deeper env) :=
  ⟨r.hd, by have := r.dp; show A.depth + 1 + 3 * k + 5 < _; omega, by have := r.un; show A.units + 3 + 16 * k + 200 < _; omega⟩
theorem make_depth {A : Around} {C : Addr} {us : List Value} {kw : List (Str × Value)} : (A.under (.builtin "type.__call__" ⟨.ref C :: us, kw⟩)).depth = A.depth + 1 := by
  first | rfl | simp [Around.under, Code.weight, Code.isCreation, Code.isGuard, Code.isCaller, Code.frames, Code.isFrame, guardIds]
theorem make_units {A : Around} {C : Addr} {us : List Value} {kw : List (Str × Value)} : (A.under (.builtin "type.__call__" ⟨.ref C :: us, kw⟩)).units = A.units + 1 := by
  first | rfl | simp [Around.under, Code.cUnits, Code.frames, Code.isFrame]
theorem Room.make {k : Nat} {A : Around} (r : Room (k + 1) A) (C : Addr) (us : List Value) (kw : List (Str × Value)) : Room k (A.under (.builtin "type.__call__" ⟨.ref C :: us, kw⟩)) :=
  ⟨r.hd, by have := r.dp; rw [make_depth]; omega, by have := r.un; rw [make_units]; omega⟩
theorem Room.depth {k : Nat} {A : Around} (r : Room k A) : A.depth < recursionLimit := by have := r.dp; omega
theorem Room.units {k : Nat} {A : Around} (r : Room k A) : A.units + 64 < cLine := by have := r.un; omega
/-! ### argument lists and displays -/
def tNil : TA := fun _ H Q => Q [] H
def tCons (ta : TE) (tr : TA) : TA := fun σ H Q => ta σ H fun x H1 => tr σ H1 fun xs H2 => Q (x :: xs) H2
section
variable {X : Cx} {e : Expr} {es : List Expr} {te : TE} {t : TA} {pos : Pos}
theorem pa_nil : PA X [] tNil := fun _ _ _ _ H Q I h => Calls.spliced_nil ⟨[], H, I, .nil, h⟩
theorem pa_cons (ha : PE X e te) (hr : PA X es t) (hs : starEach (e :: es) X.env = (false, eval e X.env) :: starEach es X.env := by rfl) : PA X (e :: es) (tCons te t) := by
  intro pos pins s σ H Q I h
  rw [hs]
  show wpAny _ _ (spliced ((false, eval e X.env) :: backTo pos (starEach es X.env))) _ _ s
  refine Calls.spliced_cons (thn (ha pins s σ H _ I h) fun u s1 ⟨x, H1, I1, r1, q1⟩ => ?_)
  exact thn (hr pos pins s1 σ H1 _ I1 q1) fun us s2 ⟨xs, H2, I2, r2, q2⟩ => ⟨x :: xs, H2, I2, .cons r1 r2, q2⟩

/-- a tuple, a list of written items -/
def tTup (t : TA) : TE := fun σ H Q => t σ H fun xs H1 => xs.length ≤ sizeLine ∧ ∀ p, H1 p = none → Q (.ref p) (upd H1 p (.tup xs))
def tLst (t : TA) : TE := fun σ H Q => t σ H fun xs H1 => xs.length ≤ sizeLine ∧ ∀ p, H1 p = none → Q (.ref p) (upd H1 p (.lst xs))
theorem pe_tup {x1} (h : PA X es t) : PE X (.Tuple es x1 pos) (tTup t) := by
  intro pins s σ H Q I hq
  refine wpAny_Tuple_spliced (thn (h pos pins s σ H _ I hq) fun us s1 ⟨xs, H1, I1, r, z, q⟩ => ⟨by rw [← r.length]; exact z, ?_⟩)
  have hf : H1 s1.heap.objs.size = none := I1.hok.fresh (Nat.le_refl _)
  refine ⟨.ref s1.heap.objs.size, upd H1 s1.heap.objs.size (.tup xs), I1.laid (t' := s1.toks) (fun b u e => Heap.get?_push_of_some _ e) (Nat.le_refl _) ?_, rfl, q _ hf⟩
  exact ⟨z, us, r, ⟨_, Heap.get?_push_size _ rfl, rfl, _, rfl⟩⟩
theorem pe_lst (h : PA X es t) : PE X (.List es pos) (tLst t) := by
  intro pins s σ H Q I hq
  refine wpAny_List_spliced (thn (h pos pins s σ H _ I hq) fun us s1 ⟨xs, H1, I1, r, z, q⟩ => ⟨by rw [← r.length]; exact z, ?_⟩)
  have hf : H1 s1.heap.objs.size = none := I1.hok.fresh (Nat.le_refl _)
  refine ⟨.ref s1.heap.objs.size, upd H1 s1.heap.objs.size (.lst xs), I1.laid (t' := s1.toks) (fun b u e => Heap.get?_push_of_some _ e) (Nat.le_refl _) ?_, rfl, q _ hf⟩
  exact ⟨z, us, 0, r, Heap.get?_push_size _ rfl⟩
end

/-! ### what a def promises -/
/-- a def's promise: the bound arguments in the parameters' order, the heap, the wanted end, the wanted exception -/
abbrev Sp := List V → Hp → VK → XK → Prop
/-- how an exception lies behind a call (file 08 gives it): the callers' frames, abstract heap and state ahead of the call, the wish, the exception, the state -/
abbrev CXT := List Env → Hp → Shared → XK → Value → Shared → Prop

/-- the state at a call -/
structure Env0 (P : Program) (w : World) (K : PySem.W.Frag) (mg : Str → Option Value) (base : Heap) (A : Around) (outer : List Env) (s : Shared) (H : Hp) : Prop where
  frames : A.frames = some outer
  mod : Mod K mg base
  bs : ∀ b o, base.get? b = some o → s.heap.get? b = some o ∧ H b = none
  bsz : base.objs.size ≤ s.heap.objs.size
  funs : s.heap.FunFrames base outer
  frf : ∀ b ∈ frs outer, H b = none
  hok : HOk P w H s.heap
  bare : AllBare s.gens
/-- a call's end -/
def CE (outer : List Env) (P : Program) (w : World) (H : Hp) (s : Shared) (Q : VK) (u : Value) (s' : Shared) : Prop :=
  ∃ v H', s'.os = s.os ∧ AllBare s'.gens ∧ Un (frs outer) [] H H' s.heap s'.heap ∧ HOk P w H' s'.heap ∧ RelV v u ∧ Q v H'
def CR (CX : CXT) (outer : List Env) (P : Program) (w : World) (H : Hp) (s : Shared) (Q : VK) (E : XK) (r : Result) (s' : Shared) : Prop :=
  match r with
  | .ok (.ret u) => CE outer P w H s Q u s'
  | .ok _ => False
  | .error e => CX outer H s E e s'
structure FnOk (P : Program) (w : World) (K : PySem.W.Frag) (mg : Str → Option Value) (base : Heap) (CX : CXT) (k : Nat) (f : Addr) (fd : FuncData) (ps : List Str) (sp : Sp) : Prop where
  len : ∀ vs H Q E, sp vs H Q E → vs.length = ps.length
  run : ∀ (A : Around) (outer : List Env) (s : Shared) (H : Hp) (args : Args) (us : List Value) (vs : List V) (Q : VK) (E : XK), Room k A → Env0 P w K mg base A outer s H → BindsTo s fd args (ps.zip us) → Vals vs us → sp vs H Q E →
    codeAny (model P w) A (.call (.ref f) args) (CR CX outer P w H s Q E) s
theorem Env0.make {P : Program} {w : World} {K : PySem.W.Frag} {mg : Str → Option Value} {base : Heap} {A : Around} {outer : List Env} {s : Shared} {H : Hp} (e : Env0 P w K mg base A outer s H) (C : Addr) (us : List Value) (kw : List (Str × Value)) :
    Env0 P w K mg base (A.under (.builtin "type.__call__" ⟨.ref C :: us, kw⟩)) outer s H := ⟨by first | exact e.frames | (simpa [Around.under, Code.envs, Code.isFrame, pushEnvs] using e.frames), e.mod, e.bs, e.bsz, e.funs, e.frf, e.hok, e.bare⟩
section
variable {X : Cx} {pins : List (Addr × Obj)} {σ : St} {H : Hp} {s s' : Shared}
/-- from a body: what a callee wants -/
theorem Inv.env0 (I : Inv X pins σ H s) : Env0 X.prog X.w X.K X.mg X.base X.A X.stack s H :=
  ⟨I.ok.frames, I.ok.mod, I.bs, Nat.le_trans I.ok.bsz I.sz, I.stack, I.stkFree, I.hok, I.bare⟩
/-- behind a call -/
theorem Inv.after {Q : VK} {u : Value} (I : Inv X pins σ H s) (h : CE X.stack X.prog X.w H s Q u s') : EP X pins σ Q u s' := by
  obtain ⟨v, H', os, bare, un, hok, r, q⟩ := h
  obtain ⟨hh, g, d, t, os'⟩ := s'
  obtain rfl : os' = s.os := os
  exact ⟨v, H', I.call (h' := hh) (g' := g) (d' := d) (t' := t) (ch := []) un hok bare (fun b z => absurd z (by simp)), r, q⟩
end

/-! ### calls -/
/-- f(..): the written arguments, then the defaults dvs; E: what is wanted of an exception -/
def tCall (sp : Sp) (dvs : List V) (E : XK) (t : TA) : TE := fun σ H Q => t σ H fun vs H1 => sp (vs ++ dvs) H1 Q E
/-- o.m(..) of an instance of the class at C -/
def tMeth (C : Addr) (m : Str) (sp : Sp) (dvs : List V) (E : XK) (ta : TE) (t : TA) : TE := fun σ H Q => ta σ H fun x H1 => ∃ a dx fs, x = .ref a ∧ H1 a = some (.ins C dx fs) ∧ fs.lookup m = none ∧
  t σ H1 fun vs H2 => sp (x :: (vs ++ dvs)) H2 Q E
/-- C(..): a new instance and its dict, then __init__ -/
def tMake (C : Addr) (sp : Sp) (dvs : List V) (E : XK) (t : TA) : TE := fun σ H Q => t σ H fun vs H1 => ∀ x dx, H1 x = none → H1 dx = none → dx ≠ x →
  sp (.ref x :: (vs ++ dvs)) (upd (upd H1 dx (.own x)) x (.ins C dx [])) (fun v H2 => v = .non ∧ Q (.ref x) H2) E

/-- how the parameters are bound: us the positional arguments, kw the keywords' values by name, ds the defaults that fill up -/
def Binds (K : PySem.W.Frag) (fd : FuncData) (ps : List Str) (ds : List Value) : Prop :=
  ∀ (s : Shared) (us : List Value), K.In s.heap → (us ++ ds).length = ps.length → BindsTo s fd ⟨us, []⟩ (ps.zip (us ++ ds))
/-- every parameter is given -/
theorem Binds.all {K : PySem.W.Frag} {fd : FuncData} {ps : List Str} (h : ∀ us : List Value, us.length = ps.length → bindArgs fd ⟨us, []⟩ = pure (ps.zip us)) : Binds K fd ps [] := fun s us _ hl => by
  rw [List.append_nil] at hl ⊢
  exact .of_eq (h us hl)

/-- an exception of a callee reaches what this body wants of exceptions -/
def Passes (CX : CXT) (X : Cx) (E : XK) : Prop := ∀ (pins : List (Addr × Obj)) (σ : St) (H : Hp) (s : Shared) (e : Value) (s' : Shared), Inv X pins σ H s → CX X.stack H s E e s' → X.xe e s'

section
variable {X : Cx} {CX : CXT} {k : Nat} {f C : Addr} {fd : FuncData} {ps : List Str} {sp : Sp} {dvs : List V} {ds : List Value} {E : XK} {x m : Str} {p pos apos : Pos} {e o : Expr} {es : List Expr} {ta : TE} {t : TA}

/-- the callee runs -/
theorem run_fn {pins : List (Addr × Obj)} {σ : St} {H : Hp} {s : Shared} {Q : VK} {us : List Value} {vs : List V} (F : FnOk X.prog X.w X.K X.mg X.base CX k f fd ps sp) (hr : Room k X.A) (hb : Binds X.K fd ps ds) (hd : Vals dvs ds) (hx : Passes CX X E)
    (I : Inv X pins σ H s) (r : Vals vs us) (h : sp (vs ++ dvs) H Q E) : wpAny (model X.prog X.w) X.A (call (.ref f) us) (EP X pins σ Q) X.xe s := by
  have r2 : Vals (vs ++ dvs) (us ++ ds) := r.append hd
  have hl : (us ++ ds).length = ps.length := by rw [← r2.length]; exact F.len _ _ _ _ h
  refine wpAny_call (codeAny_mono (F.run X.A X.stack s H ⟨us, []⟩ (us ++ ds) (vs ++ dvs) Q E hr I.env0 (hb s us I.kIn hl) r2 h) fun r s' hq => ?_)
  cases r with
  | error e => exact hx pins σ H s e s' I hq
  | ok fl =>
    cases fl with
    | ret u => exact I.after hq
    | next => exact False.elim hq
    | brk => exact False.elim hq
    | cont => exact False.elim hq

theorem pe_call (F : FnOk X.prog X.w X.K X.mg X.base CX k f fd ps sp) (hr : Room k X.A) (hg : Gl X x) (hm : X.mg x = some (.ref f)) (hk : PySem.W.keepIn X.K (.ref f) = true) (hb : Binds X.K fd ps ds) (hd : Vals dvs ds) (hx : Passes CX X E)
    (ha : PA X (e :: es) t) (hdb : (x == ("__debug__" : Str)) = false := by decide) (he : starEach (e :: es) X.env = (false, eval e X.env) :: starEach es X.env := by rfl) (hpl : (backTo pos (starEach es X.env)).any (·.1) = false := by rfl) :
    PE X (.Call (.Name x p) (e :: es) [] pos) (tCall sp dvs E t) := by
  intro pins s σ H Q I h
  refine wpAny_Call_Name_kw (ld_glob I hg hm ?_ hdb)
  refine PySem.W.callWith_K (h₀ := X.base) I.ok.mod.kin hk (thn (ha pos pins s σ H _ I h) fun us s1 ⟨vs, H1, I1, r, q⟩ => ⟨I1.kIn, ?_⟩) he hpl
  exact run_fn F hr hb hd hx I1 r q
/-- o.m(e, ..) -/
theorem pe_meth {pl : Sem Bool} (he : PE X o ta) (c : Cls X.K C) (hm : Meth X.K C m f) (F : FnOk X.prog X.w X.K X.mg X.base CX k f fd ps sp) (hr : Room k X.A) (hb : Binds X.K fd ps ds) (hd : Vals dvs ds) (hx : Passes CX X E) (ha : PA X (e :: es) t)
    (hst : starEach (e :: es) X.env = (false, eval e X.env) :: starEach es X.env := by rfl) (hpl : (backTo pos (starEach es X.env)).any (·.1) = false := by rfl)
    (ht : eval (.Call (.Attribute o m apos) (e :: es) [] pos) X.env = (do
      let ov ← eval o X.env
      standAt apos.atName
      let (f, first) ← holding [ov] (getMethod ov m pl)
      callWith pos f first (backTo pos (starEach (e :: es) X.env)) (backToKw pos (keywordEach [] X.env))) := by rfl) :
    PE X (.Call (.Attribute o m apos) (e :: es) [] pos) (tMeth C m sp dvs E ta t) := by
  intro pins s σ H Q I h
  refine PySem.W.methodCall_KW (pl := pl) (thn (he pins s σ H _ I h) fun u s1 ⟨x, H1, I1, rx, a, dx, fs, ex, ea, l, q⟩ => ?_) ht
  subst ex
  obtain rfl : u = Value.ref a := rx
  refine getmeth_ok I1 ea c hm l ?_
  refine PySem.W.callWith_K (first := [.ref a]) (h₀ := X.base) I.ok.mod.kin hm.kp (thn (ha pos pins s1 σ H1 _ I1 q) fun us s2 ⟨vs, H2, I2, r, q2⟩ => ⟨I2.kIn, ?_⟩) hst hpl
  exact run_fn (us := .ref a :: us) (vs := .ref a :: vs) F hr hb hd hx I2 (.cons rfl r) q2
/-- o.m() -/
theorem pe_meth0 {pl : Sem Bool} (he : PE X o ta) (c : Cls X.K C) (hm : Meth X.K C m f) (F : FnOk X.prog X.w X.K X.mg X.base CX k f fd ps sp) (hr : Room k X.A) (hb : Binds X.K fd ps ds) (hd : Vals dvs ds) (hx : Passes CX X E)
    (ht : eval (.Call (.Attribute o m apos) [] [] pos) X.env = (do
      let ov ← eval o X.env
      standAt apos.atName
      let (f, first) ← holding [ov] (getMethod ov m pl)
      callWith pos f first (backTo pos (starEach [] X.env)) (backToKw pos (keywordEach [] X.env))) := by rfl) :
    PE X (.Call (.Attribute o m apos) [] [] pos) (tMeth C m sp dvs E ta tNil) := by
  intro pins s σ H Q I h
  refine PySem.W.methodCall_KW (pl := pl) (thn (he pins s σ H _ I h) fun u s1 ⟨x, H1, I1, rx, a, dx, fs, ex, ea, l, q⟩ => ?_) ht
  subst ex
  obtain rfl : u = Value.ref a := rx
  refine getmeth_ok I1 ea c hm l ?_
  exact PySem.W.callWith_K0 (first := [.ref a]) I1.kIn hm.kp (run_fn (us := [.ref a]) (vs := [.ref a]) F hr hb hd hx I1 (.cons rfl .nil) q)

/-- what a class must have to be made -/
structure Mk (K : PySem.W.Frag) (C f : Addr) : Prop where
  makes : PySem.W.makesIn K C = true
  init : PySem.W.findIn K (.ref C) "__init__" = some (some (.ref f))
  fn : PySem.W.isFn K (.ref f) = true
  kp : PySem.W.keepIn K (.ref C) = true

theorem run_make {pins : List (Addr × Obj)} {σ : St} {H : Hp} {s : Shared} {Q : VK} {us : List Value} {vs : List V} (M : Mk X.K C f) (F : FnOk X.prog X.w X.K X.mg X.base CX k f fd ps sp) (hr : Room (k + 1) X.A) (hb : Binds X.K fd ps ds) (hd : Vals dvs ds)
    (hx : Passes CX X E) (I : Inv X pins σ H s) (r : Vals vs us)
    (h : ∀ x dx, H x = none → H dx = none → dx ≠ x → sp (.ref x :: (vs ++ dvs)) (upd (upd H dx (.own x)) x (.ins C dx [])) (fun v H2 => v = .non ∧ Q (.ref x) H2) E) :
    wpAny (model X.prog X.w) X.A (call (.ref C) us) (EP X pins σ Q) X.xe s := by
  have hq := h (s.heap.objs.size + 1) s.heap.objs.size (I.hok.fresh (Nat.le_succ _)) (I.hok.fresh (Nat.le_refl _)) (Nat.ne_of_lt (Nat.lt_succ_self _))
  have I2 := Inv.made (C := C) I
  have r2 : Vals (V.ref (s.heap.objs.size + 1) :: (vs ++ dvs)) (Value.ref (s.heap.objs.size + 1) :: (us ++ ds)) := .cons rfl (r.append hd)
  have hl : (Value.ref (s.heap.objs.size + 1) :: us ++ ds).length = ps.length := by
    have e := r2.length
    rw [F.len _ _ _ _ hq] at e
    exact e.symm
  refine wpAny_call (make_map (f := f) I.kIn M.makes M.init (beq_iff_eq.mp M.fn) (codeAny_mono (F.run _ X.stack _ _ ⟨Value.ref (s.heap.objs.size + 1) :: us, []⟩ (Value.ref (s.heap.objs.size + 1) :: (us ++ ds)) _ _ E (hr.make C us [])
    (I2.env0.make C us []) (hb _ (Value.ref (s.heap.objs.size + 1) :: us) I2.kIn hl) r2 hq) fun r s' hq' => ?_))
  cases r with
  | error e => exact hx pins σ _ _ e s' I2 hq'
  | ok fl =>
    cases fl with
    | ret u =>
      obtain ⟨v, H', I3, rv, ev, q3⟩ := I2.after hq'
      subst ev
      exact ⟨rv, ⟨V.ref (s.heap.objs.size + 1), H', I3, rfl, q3⟩⟩
    | next => exact False.elim hq'
    | brk => exact False.elim hq'
    | cont => exact False.elim hq'
theorem pe_make0 (M : Mk X.K C f) (F : FnOk X.prog X.w X.K X.mg X.base CX k f fd ps sp) (hr : Room (k + 1) X.A) (hg : Gl X x) (hm : X.mg x = some (.ref C)) (hb : Binds X.K fd ps ds) (hd : Vals dvs ds) (hx : Passes CX X E)
    (hdb : (x == ("__debug__" : Str)) = false := by decide) : PE X (.Call (.Name x p) [] [] pos) (tMake C sp dvs E tNil) := by
  intro pins s σ H Q I h
  refine wpAny_Call_Name_kw (ld_glob I hg hm ?_ hdb)
  exact PySem.W.callWith_K0 I.kIn M.kp (run_make (us := []) M F hr hb hd hx I .nil h)
end

/-! ### keywords -/
section
variable {X : Cx} {CX : CXT} {k : Nat} {f C : Addr} {fd : FuncData} {ps ks : List Str} {sp : Sp} {E : XK} {x m : Str} {p pos apos kpos : Pos} {e o : Expr} {es : List Expr} {kws : List Keyword} {te ta : TE} {t tk : TA} {nm : Option Str}
variable {g : List Value → List Value → List Value} {gV : List V → List V → List V}
end

/-! ### a def's body keeps its promise -/
/-- names: the parameters first -/
structure FnScope (N P : List Str) (sc : Scope) : Prop where
  kind : sc.kind = .function
  co : sc.isCoroutine = false
  gen : sc.isGenerator = false
  nd : N.Nodup
  pre : N.take P.length = P
  par : ∀ x ∈ P, sc.names.lookup x = some .local ∨ sc.names.lookup x = some .cell
  nofree : ∀ y ∈ sc.names, y.2 ≠ .free

theorem bindL_out {kindOf : Str → Option NameKind} {x : Str} : ∀ {binds : List (Str × Value)} {m : Str → Option Value}, (∀ v, (x, v) ∉ binds) → bindL kindOf binds m x = m x
  | [], _, _ => rfl
  | (n, v) :: r, m, h => by
    unfold bindL
    rw [bindL_out fun w hw => h w (List.mem_cons_of_mem _ hw)]
    split
    · have : x ≠ n := by rintro rfl; exact h v List.mem_cons_self
      simp [this]
    · rfl
theorem bindC_out {kindOf : Str → Option NameKind} {x : Str} : ∀ {binds : List (Str × Value)} {m : Str → Option Value}, (∀ v, (x, v) ∉ binds) → bindC kindOf binds m x = m x
  | [], _, _ => rfl
  | (n, v) :: r, m, h => by
    unfold bindC
    rw [bindC_out fun w hw => h w (List.mem_cons_of_mem _ hw)]
    split
    · rfl
    · have : x ≠ n := by rintro rfl; exact h v List.mem_cons_self
      simp [this]
theorem bindL_get {kindOf : Str → Option NameKind} {x : Str} {v : Value} : ∀ {P : List Str} {vs : List Value} {i : Nat} {m : Str → Option Value}, P.Nodup → P[i]? = some x → vs[i]? = some v → kindOf x = some .local →
    bindL kindOf (P.zip vs) m x = some v
  | [], _, _, _, _, h, _, _ => by simp at h
  | _ :: _, [], _, _, _, _, h, _ => by simp at h
  | p :: P, w :: vs, 0, m, nd, h1, h2, hk => by
    simp at h1 h2; subst h1; subst h2
    show bindL kindOf ((p, w) :: P.zip vs) m p = _
    unfold bindL
    rw [bindL_out fun v hv => (List.nodup_cons.mp nd).1 (List.of_mem_zip hv).1, if_pos hk]
    simp
  | p :: P, w :: vs, i + 1, m, nd, h1, h2, hk => by
    show bindL kindOf ((p, w) :: P.zip vs) m x = _
    unfold bindL
    exact bindL_get (i := i) (List.nodup_cons.mp nd).2 (by simpa using h1) (by simpa using h2) hk
theorem bindC_get {kindOf : Str → Option NameKind} {x : Str} {v : Value} : ∀ {P : List Str} {vs : List Value} {i : Nat} {m : Str → Option Value}, P.Nodup → P[i]? = some x → vs[i]? = some v → kindOf x ≠ some .local →
    bindC kindOf (P.zip vs) m x = some v
  | [], _, _, _, _, h, _, _ => by simp at h
  | _ :: _, [], _, _, _, _, h, _ => by simp at h
  | p :: P, w :: vs, 0, m, nd, h1, h2, hk => by
    simp at h1 h2; subst h1; subst h2
    show bindC kindOf ((p, w) :: P.zip vs) m p = _
    unfold bindC
    rw [bindC_out fun v hv => (List.nodup_cons.mp nd).1 (List.of_mem_zip hv).1, if_neg hk]
    simp
  | p :: P, w :: vs, i + 1, m, nd, h1, h2, hk => by
    show bindC kindOf ((p, w) :: P.zip vs) m x = _
    unfold bindC
    exact bindC_get (i := i) (List.nodup_cons.mp nd).2 (by simpa using h1) (by simpa using h2) hk

/-- the names' values at the entry -/
def start (N : List Str) (vs : List V) : St := vs.map some ++ List.replicate (N.length - vs.length) none

/-- the context of a def's body, at its entry; an exception leaves the frame, then lies as CX says -/
def cxOf (CX : CXT) (P : Program) (w : World) (K : PySem.W.Frag) (mg : Str → Option Value) (base : Heap) (N : List Str) (qual : Str) (scope : Scope) (f : Addr) (cd : Value) (A : Around) (outer : List Env) (s : Shared) (H : Hp) (E : XK) : Cx where
  prog := P
  w := w
  K := K
  mg := mg
  base := base
  A := A.deeper (envOfC qual scope s.heap.objs.size f cd)
  N := N
  s₀ := s
  H₀ := H
  env := envOfC qual scope s.heap.objs.size f cd
  outer := outer
  stack := envOfC qual scope s.heap.objs.size f cd :: outer
  ex := []
  calm := true
  fn := fun _ => true
  pn := []
  xe := fun e s' => wpAny (model P w) (A.deeper (envOfC qual scope s.heap.objs.size f cd)) (leaving (envOfC qual scope s.heap.objs.size f cd) e) (fun _ s'' => CX outer H s E e s'') (fun e' s'' => CX outer H s E e' s'') s'

theorem cell_has {sc : Scope} {n : Nat} {x : Str} (h : sc.names.lookup x = some .cell) : ∃ c, (cellsFrom n sc.names []).lookup x = some c := by
  have q := PySem.W.cellsFrom_some sc.names n [] (.inl h)
  exact Option.isSome_iff_exists.mp q

theorem inv_start {CX : CXT} {P : Program} {w : World} {K : PySem.W.Frag} {mg : Str → Option Value} {base : Heap} {N ps : List Str} {qual : Str} {scope : Scope} {f : Addr} {cd : Value} {A : Around} {outer : List Env} {s s1 : Shared} {H : Hp} {E : XK} {us : List Value} {vs : List V}
    (S : FnScope N ps scope) (hd : A.handled = none) (e0 : Env0 P w K mg base A outer s H) (hl : vs.length = ps.length) (r : Vals vs us)
    (x : InCallC s s.heap.objs.size (bindL (envOfC qual scope s.heap.objs.size f cd).kindOf (ps.zip us) fun _ => none) (cellsFrom (s.heap.objs.size + 1) scope.names []) (bindC (envOfC qual scope s.heap.objs.size f cd).kindOf (ps.zip us) fun _ => none) s1) :
    Inv (cxOf CX P w K mg base N qual scope f cd A outer s H E) [] (start N vs) H s1 := by
  have hpl : ps.length ≤ N.length := by have := congrArg List.length S.pre; rw [List.length_take] at this; omega
  obtain ⟨h1, tk, rfl, hk⟩ := x.done
  have noA : ∀ b : Addr, b ∉ (cxOf CX P w K mg base N qual scope f cd A outer s H E).ex := fun b z => absurd (show b ∈ ([] : List Addr) from z) (by simp)
  refine ⟨⟨e0.mod, S.kind, rfl, rfl, Nat.le_refl _, fun y z c h1 h2 => ?_, fun y hy => ?_, fun y c _ h => ?_, fun _ => hd, Around.frames_deeper e0.frames, .inr ⟨rfl, rfl⟩, fun b z => absurd z (noA b), e0.bs, e0.bsz, fun b _ _ => noA b, fun b z => absurd z (noA b), e0.funs, e0.frf⟩,
    rfl, e0.bare, Un.kept hk, ⟨_, x.toInCall.ns, fun i y v h1 h2 h3 => ?_⟩, fun y c h => ⟨_, x.cell y c h⟩, e0.hok.fresh (Nat.le_refl _), fun y c h => ?_, fun p hp => absurd (show p ∈ ([] : List (Addr × Obj)) from hp) (by simp), e0.hok.kept hk, ?_⟩
  · exact name_of_addr x.apart (PySem.mem_of_lookup h1) (PySem.mem_of_lookup h2)
  · have hy : scope.names.lookup y = some .cell ∨ scope.names.lookup y = some .free := hy
    rcases hy with hy | hy
    · exact cell_has hy
    · exact absurd rfl (S.nofree _ (PySem.mem_of_lookup hy))
  · exact Nat.le_of_lt (x.above y c (PySem.mem_of_lookup h))
  · have hi : i < vs.length := by
      unfold start at h2
      by_cases hi : i < vs.length
      · exact hi
      · rw [List.getElem?_append_right (by simpa using hi)] at h2
        rw [List.getElem?_replicate] at h2
        split at h2 <;> cases h2
    have ha : vs[i]? = some v := by
      unfold start at h2
      rw [List.getElem?_append_left (by simpa using hi), List.getElem?_map] at h2
      cases e : vs[i]? with
      | none => rw [e] at h2; cases h2
      | some a => rw [e] at h2; cases h2; rfl
    obtain ⟨u, hu, rv⟩ := r.get ha
    have hp : ps[i]? = some y := by
      rw [← S.pre, List.getElem?_take_of_lt (by omega)]; exact h1
    have ndP : ps.Nodup := by rw [← S.pre]; exact S.nd.sublist (List.take_sublist _ _)
    refine ⟨u, rv, ?_⟩
    rcases S.par y (List.mem_of_getElem? hp) with k | k
    · exact .inl ⟨k, bindL_get ndP hp hu k⟩
    · obtain ⟨c, e⟩ := cell_has (n := s.heap.objs.size + 1) k
      refine .inr ⟨.inl k, c, e, ?_⟩
      have q := x.cell y c e
      rw [bindC_get ndP hp hu (by show scope.names.lookup y ≠ _; rw [k]; decide)] at q
      exact q
  · exact e0.hok.fresh (Nat.le_of_lt (x.above y c (PySem.mem_of_lookup h)))
  · unfold start
    show _ = N.length
    rw [List.length_append, List.length_map, List.length_replicate]
    omega

/-- THE RULE: a def (or a method) of the text, by its body. The body's reading t is chosen for each entry; it is run at the parameters' values -/
theorem fn_of {CX : CXT} {P : Program} {w : World} {K : PySem.W.Frag} {mg : Str → Option Value} {base : Heap} {k : Nat} {f : Addr} {name qual : Str} {params : Arguments} {body : List Stmt} {scope : Scope} {dV kV doc pm cdv ct oc : Value} {an od : Option Addr}
    {osl : Array (Option Value)} {N ps : List Str} {sp : Sp} (lk : K.lookup f = some ⟨oc, od, .func (PySem.W.fnOf name qual params body scope dV kV doc pm an cdv ct), osl⟩) (hcd : PySem.W.codeIn K cdv qual = true) (S : FnScope N ps scope)
    (len : ∀ vs H Q E, sp vs H Q E → vs.length = ps.length)
    (hbody : ∀ (A : Around) (outer : List Env) (s : Shared) (H : Hp) (vs : List V) (Q : VK) (E : XK), Room k (A.deeper (envOfC qual scope s.heap.objs.size f cdv)) → sp vs H Q E →
      ∃ t, PSs (cxOf CX P w K mg base N qual scope f cdv A outer s H E) body t ∧ t { nx := fun _ H' => Q .non H', rt := Q } (start N vs) H) :
    FnOk P w K mg base CX (k + 1) f (PySem.W.fnOf name qual params body scope dV kV doc pm an cdv ct) ps sp := by
  refine ⟨len, fun A outer s H args us vs Q E hr e0 hb r hsp => ?_⟩
  have hl := len _ _ _ _ hsp
  have KX : K.In s.heap := e0.mod.kin.keeps fun b o e => (e0.bs b o e).1
  have lim : s.heap.NoLimit := e0.mod.nolimit.keeps fun b o e => (e0.bs b o e).1
  have hkind : ∀ y ∈ ps.zip us, scope.names.lookup y.1 = some .local ∨ (scope.names.lookup y.1 = some .cell ∧ ((cellsFrom (s.heap.objs.size + 1) scope.names []).lookup y.1).isSome = true) := fun ⟨n, v⟩ hy => by
    rcases S.par n (List.of_mem_zip hy).1 with q | q
    · exact .inl q
    · exact .inr ⟨q, PySem.W.cellsFrom_some _ _ _ (.inl q)⟩
  refine codeAny_call_function hr.depth (KX _ _ lk) rfl S.co S.gen rfl (PySem.W.codeRec_of KX hcd) (hb _ _ _ _ ?_)
  refine wpAny_newFunctionEnv_cells S.kind hkind fun env he s1 x => ?_
  subst he
  refine ⟨lim.keeps x.toInCall.keep, codeAny_func ?_⟩
  obtain ⟨t, ht, hq⟩ := hbody A outer s H vs Q E (hr.deeper _) hsp
  have I : Inv (cxOf CX P w K mg base N qual scope f cdv A outer s H E) [] (start N vs) H s1 := inv_start S hr.hd e0 hl r x
  refine wpAny_mono (ht [] s1 (start N vs) H _ I hq) (fun fl s' hs => ?_) fun e s' hs => hs
  have fin : ∀ {σ' : St} {H' : Hp} {v : V} {u : Value}, Inv (cxOf CX P w K mg base N qual scope f cdv A outer s H E) [] σ' H' s' → RelV v u → Q v H' → CE outer P w H s Q u s' :=
    fun {σ' H' v u} J rv q => ⟨v, H', J.os, J.bare, J.base, J.hok, rv, q⟩
  cases fl with
  | ret u =>
    obtain ⟨v, σ', H', J, rv, q⟩ := hs
    exact fin J rv q
  | next =>
    obtain ⟨σ', H', J, q⟩ := hs
    exact fin (v := V.non) (u := Value.none) J rfl q
  | brk =>
    obtain ⟨_, _, _, q⟩ := hs
    exact False.elim q
  | cont =>
    obtain ⟨_, _, _, q⟩ := hs
    exact False.elim q
end L2

namespace L2
open PySem PySem.Spec PyProof.Rows
section
variable {X : Cx} {x : Str} {p pos : Pos} {e : Expr} {es : List Expr} {t : TA} {id T : String} {r : List V → Hp → VK → Prop}

def tCB (r : List V → Hp → VK → Prop) (t : TA) : TE := fun σ H Q => t σ H fun vs H1 => r vs H1 Q
/-- f(e, ..), f a built-in function -/
theorem pe_callB (hc : CallR X (.builtin id) r) (hg : Gl X x) (hm : X.mg x = none) (hv : bootBuiltins x = some (.builtin id)) (ha : PA X (e :: es) t) (hn : x ≠ "__name__" := by decide) (hdb : (x == ("__debug__" : Str)) = false := by decide)
    (he : starEach (e :: es) X.env = (false, eval e X.env) :: starEach es X.env := by rfl) (hpl : (backTo pos (starEach es X.env)).any (·.1) = false := by rfl) : PE X (.Call (.Name x p) (e :: es) [] pos) (tCB r t) := by
  intro pins s σ H Q I h
  refine wpAny_Call_Name_kw (ld_blt I hg hm hv ?_ hn hdb)
  exact PyProof.Rows.callWith_builtin1 (thn (ha pos pins s σ H _ I h) fun us s1 ⟨vs, H1, I1, r1, q1⟩ => hc pins s1 σ H1 vs us Q I1 r1 q1) he hpl
/-- T(e, ..), T a built-in type -/
theorem pe_callTy (hc : CallR X (.type T) r) (hg : Gl X x) (hm : X.mg x = none) (hv : bootBuiltins x = some (.type T)) (ha : PA X (e :: es) t) (hn : x ≠ "__name__" := by decide) (hdb : (x == ("__debug__" : Str)) = false := by decide)
    (he : starEach (e :: es) X.env = (false, eval e X.env) :: starEach es X.env := by rfl) (hpl : (backTo pos (starEach es X.env)).any (·.1) = false := by rfl) : PE X (.Call (.Name x p) (e :: es) [] pos) (tCB r t) := by
  intro pins s σ H Q I h
  refine wpAny_Call_Name_kw (ld_blt I hg hm hv ?_ hn hdb)
  exact PyProof.Rows.callWith_type1 (thn (ha pos pins s σ H _ I h) fun us s1 ⟨vs, H1, I1, r1, q1⟩ => hc pins s1 σ H1 vs us Q I1 r1 q1) he hpl
end
end L2

namespace L2
open PySem PySem.Spec PyProof.Rows

/-! ### lists of pairs as tables -/
section
variable {κ : Type} [DecidableEq κ]
def valV (kvs : List (κ × V)) (k : κ) : Option V := (kvs.find? fun kv => decide (kv.1 = k)).map (·.2)
/-- in its place, or at the end -/
def putK (kvs : List (κ × V)) (k : κ) (v : V) : List (κ × V) :=
  if (kvs.any fun kv => decide (kv.1 = k)) = true then kvs.map (fun kv => if kv.1 = k then (kv.1, v) else kv) else kvs ++ [(k, v)]
theorem valV_pos {p : κ × V} {r : List (κ × V)} {k : κ} (e : p.1 = k) : valV (p :: r) k = some p.2 := by simp [valV, List.find?_cons, e]
theorem valV_neg {p : κ × V} {r : List (κ × V)} {k : κ} (e : ¬ p.1 = k) : valV (p :: r) k = valV r k := by simp [valV, List.find?_cons, e]
theorem valV_any (k : κ) : ∀ kvs : List (κ × V), (kvs.any fun kv => decide (kv.1 = k)) = (valV kvs k).isSome
  | [] => rfl
  | p :: r => by
    rw [List.any_cons]
    by_cases e : p.1 = k
    · simp only [valV_pos e, decide_eq_true e, Bool.true_or, Option.isSome_some]
    · rw [valV_neg e, decide_eq_false e, Bool.false_or]; exact valV_any k r
theorem valV_map (k j : κ) (y : V) : ∀ kvs : List (κ × V), valV (kvs.map fun kv => if kv.1 = k then (kv.1, y) else kv) j = (valV kvs j).map fun x => if j = k then y else x
  | [] => rfl
  | p :: r => by
    have ih := valV_map k j y r
    rw [List.map_cons]
    by_cases h : p.1 = k
    · rw [if_pos h]
      by_cases e : p.1 = j
      · rw [valV_pos (p := (p.1, y)) e, valV_pos e, Option.map_some, if_pos (e.symm.trans h)]
      · rw [valV_neg (p := (p.1, y)) e, valV_neg e, ih]
    · rw [if_neg h]
      by_cases e : p.1 = j
      · rw [valV_pos (p := p) e, valV_pos e, Option.map_some, if_neg (fun z => h (e.trans z))]
      · rw [valV_neg (p := p) e, valV_neg e, ih]
theorem valV_snoc (k j : κ) (y : V) : ∀ kvs : List (κ × V), valV kvs k = none → valV (kvs ++ [(k, y)]) j = if j = k then some y else valV kvs j
  | [], _ => by
    by_cases e : k = j
    · rw [if_pos e.symm]; exact valV_pos (p := (k, y)) e
    · rw [if_neg (fun z => e z.symm)]; exact valV_neg (p := (k, y)) e
  | p :: r, hn => by
    rw [List.cons_append]
    have hk : ¬ p.1 = k := fun z => by rw [valV_pos z] at hn; cases hn
    rw [valV_neg hk] at hn
    have ih := valV_snoc k j y r hn
    by_cases e : p.1 = j
    · rw [valV_pos e, valV_pos e, if_neg (fun z => hk (e.trans z))]
    · rw [valV_neg e, valV_neg e, ih]
theorem valV_put (kvs : List (κ × V)) (k j : κ) (y : V) : valV (putK kvs k y) j = if j = k then some y else valV kvs j := by
  unfold putK
  by_cases a : (kvs.any fun kv => decide (kv.1 = k)) = true
  · rw [if_pos a, valV_map]
    rw [valV_any] at a
    by_cases e : j = k
    · obtain ⟨x, hx⟩ := Option.isSome_iff_exists.mp a
      rw [if_pos e, e, hx, Option.map_some, if_pos rfl]
    · rw [if_neg e]
      cases valV kvs j with
      | none => rfl
      | some x => rw [Option.map_some, if_neg e]
  · rw [if_neg a]
    refine valV_snoc k j y kvs ?_
    rw [valV_any] at a
    cases q : valV kvs k with
    | none => rfl
    | some x => rw [q] at a; exact (a rfl).elim
theorem length_putK (kvs : List (κ × V)) (k : κ) (v : V) : (putK kvs k v).length ≤ kvs.length + 1 := by
  unfold putK
  split
  · rw [List.length_map]; omega
  · rw [List.length_append, List.length_cons, List.length_nil]; omega
theorem putK_new {kvs : List (κ × V)} {k : κ} (v : V) (h : valV kvs k = none) : putK kvs k v = kvs ++ [(k, v)] := by
  unfold putK
  rw [valV_any, h]
  exact if_neg (by decide)

theorem RelO.isSome_eq {o : Option V} {u : Option Value} (r : RelO o u) : o.isSome = u.isSome := by
  cases o with
  | none => cases u with
    | none => rfl
    | some _ => exact (show False from r).elim
  | some _ => cases u with
    | none => exact (show False from r).elim
    | some _ => rfl
theorem RelO.getD {o : Option V} {u : Option Value} {d : V} {d' : Value} (r : RelO o u) (rd : RelV d d') : RelV (o.getD d) (u.getD d') := by
  cases o with
  | none => cases u with
    | none => exact rd
    | some _ => exact (show False from r).elim
  | some _ => cases u with
    | none => exact (show False from r).elim
    | some _ => exact r

/-- raw tables of the same keys -/
theorem KV.val {kvs : List (κ × V)} {vs : List (κ × Value)} (r : KV kvs vs) (k : κ) : RelO (valV kvs k) (valueAt vs k) := by
  unfold KV at r
  induction r with
  | nil => exact True.intro
  | @cons p q ps qs h t ih =>
    obtain ⟨h1, h2⟩ := h
    by_cases e : p.1 = k
    · have e' : q.1 = k := h1.symm.trans e
      have b : valueAt (q :: qs) k = some q.2 := by simp [valueAt, List.find?_cons, e']
      rw [valV_pos e, b]; exact h2
    · have e' : ¬ q.1 = k := fun z => e (h1.trans z)
      have b : valueAt (q :: qs) k = valueAt qs k := by simp [valueAt, List.find?_cons, e']
      rw [valV_neg e, b]; exact ih
theorem KV.any {kvs : List (κ × V)} {vs : List (κ × Value)} (r : KV kvs vs) (k : κ) : (kvs.any fun kv => decide (kv.1 = k)) = vs.any fun kv => decide (kv.1 = k) := by
  unfold KV at r
  induction r with
  | nil => rfl
  | cons h t ih => rw [List.any_cons, List.any_cons, ih, h.1]
theorem KV.repl {kvs : List (κ × V)} {vs : List (κ × Value)} (r : KV kvs vs) (k : κ) {y : V} {u : Value} (ry : RelV y u) :
    KV (kvs.map fun kv => if kv.1 = k then (kv.1, y) else kv) (vs.map fun kv => if kv.1 = k then (kv.1, u) else kv) := by
  unfold KV at r ⊢
  induction r with
  | nil => exact .nil
  | @cons p q ps qs h t ih =>
    rw [List.map_cons, List.map_cons]
    refine .cons ?_ ih
    obtain ⟨h1, h2⟩ := h
    by_cases e : p.1 = k
    · rw [if_pos e, if_pos (h1.symm.trans e)]; exact ⟨h1, ry⟩
    · rw [if_neg e, if_neg (fun z => e (h1.trans z))]; exact ⟨h1, h2⟩
theorem KV.put {kvs : List (κ × V)} {vs : List (κ × Value)} (r : KV kvs vs) (k : κ) {y : V} {u : Value} (ry : RelV y u) : KV (putK kvs k y) (stored vs k u) := by
  unfold putK stored
  rw [r.any k]
  by_cases e : (vs.any fun kv => decide (kv.1 = k)) = true
  · rw [if_pos e, if_pos e]; exact r.repl k ry
  · rw [if_neg e, if_neg e]; exact Paired.snoc r ⟨rfl, ry⟩
theorem KV.length {kvs : List (κ × V)} {vs : List (κ × Value)} (r : KV kvs vs) : kvs.length = vs.length := Paired.length r
end


/-! ### a tracked dict, its keys ints and texts or tuples of these -/
theorem kV_is {P : Program} {w : World} {k : Key} {u : Value} (r : RelV (kV k) u) : (mixKind P w).is k u = true := by
  cases k with
  | inl i => obtain ⟨t, e⟩ := (show ∃ t, u = Value.int i t from r); subst e; exact mixKind_int P w i t
  | inr x => obtain ⟨t, e⟩ := (show ∃ t, u = Value.str x t from r); subst e; exact mixKind_str P w x t
theorem items_are {P : Program} {w : World} : ∀ {ks : List Key} {us : List Value}, Vals (ks.map kV) us → ItemsAre (mixKind P w) ks us
  | [], _, r => by rw [List.map_nil] at r; cases r; exact .nil
  | k :: ks, _, r => by
    rw [List.map_cons] at r
    cases r with
    | cons h t => exact .cons (kV_is h) (items_are t)

/-- raw entries of a dict with tuple keys -/
abbrev KT (H : Hp) : List (List Key × V) → List (List Key × Addr × Value) → Prop := Paired fun p q => p.1 = q.1 ∧ H q.2.1 = some (.tup (p.1.map kV)) ∧ RelV p.2 q.2.2
theorem KT.val {H : Hp} {kvs : List (List Key × V)} {xs : List (List Key × Addr × Value)} (r : KT H kvs xs) (k : List Key) : RelO (valV kvs k) ((atKey xs k).map (·.2)) := by
  induction r with
  | nil => exact True.intro
  | @cons p q ps qs h t ih =>
    obtain ⟨h1, _, h2⟩ := h
    by_cases e : p.1 = k
    · have e' : q.1 = k := h1.symm.trans e
      have b : atKey (q :: qs) k = some q.2 := by simp [atKey, List.find?_cons, e']
      rw [valV_pos e, b]; exact h2
    · have e' : ¬ q.1 = k := fun z => e (h1.trans z)
      have b : atKey (q :: qs) k = atKey qs k := by simp [atKey, List.find?_cons, e']
      rw [valV_neg e, b]; exact ih
theorem KT.repl {H : Hp} {kvs : List (List Key × V)} {xs : List (List Key × Addr × Value)} (r : KT H kvs xs) (k : List Key) {y : V} {u : Value} (ry : RelV y u) :
    KT H (kvs.map fun kv => if kv.1 = k then (kv.1, y) else kv) (xs.map (putAt k u)) := by
  induction r with
  | nil => exact .nil
  | @cons p q ps qs h t ih =>
    rw [List.map_cons, List.map_cons]
    refine .cons ?_ ih
    obtain ⟨h1, h2, h3⟩ := h
    unfold putAt
    by_cases e : p.1 = k
    · rw [if_pos e, if_pos (h1.symm.trans e)]; exact ⟨h1, h2, ry⟩
    · rw [if_neg e, if_neg (fun z => e (h1.trans z))]; exact ⟨h1, h2, h3⟩
theorem KT.put {H : Hp} {kvs : List (List Key × V)} {xs : List (List Key × Addr × Value)} (r : KT H kvs xs) (k : List Key) {b : Addr} {y : V} {u : Value} (hb : H b = some (.tup (k.map kV))) (ry : RelV y u) :
    KT H (putK kvs k y) (storedH xs k b u) := by
  have e : (kvs.any fun kv => decide (kv.1 = k)) = (atKey xs k).isSome := by
    rw [valV_any, (r.val k).isSome_eq, Option.isSome_map]
  unfold putK storedH
  rw [e]
  by_cases q : (atKey xs k).isSome = true
  · rw [if_pos q, if_pos q]; exact r.repl k ry
  · rw [if_neg q, if_neg q]; exact Paired.snoc r ⟨rfl, hb, ry⟩
theorem KT.keeps {H H' : Hp} {kvs : List (List Key × V)} {xs : List (List Key × Addr × Value)} (r : KT H kvs xs) (ht : ∀ b ys, H b = some (.tup ys) → H' b = some (.tup ys)) : KT H' kvs xs :=
  Paired.mapP r fun _ _ z => ⟨z.1, ht _ _ z.2.1, z.2.2⟩

section
variable {P : Program} {w : World} {H : Hp} {h : Heap} {a : Addr}
theorem rd_of {u : HO} (ok : HOk P w H h) (e : Rd H a u) : ObjOk P w H h a u := e.ok ok
theorem dk_rd {kvs : List (Key × V)} (ok : HOk P w H h) (e : Rd H a (.dK kvs)) : kvs.length ≤ sizeLine ∧ (a == sysModules) = false ∧ ∃ vs, KV kvs vs ∧ h.DictOf (mixKind P w) a vs :=
  show ObjOk P w H h a (.dK kvs) from rd_of ok e
theorem dk_of {kvs : List (Key × V)} (ok : HOk P w H h) (e : H a = some (.dK kvs)) : kvs.length ≤ sizeLine ∧ (a == sysModules) = false ∧ ∃ vs, KV kvs vs ∧ h.DictOf (mixKind P w) a vs := dk_rd ok (.inl e)
/-- a tracked tuple of ints and texts is a key -/
theorem key_of {ks : List Key} (ok : HOk P w H h) (e : H a = some (.tup (ks.map kV))) : (tupleKind (mixKind P w)).is h ks a := by
  obtain ⟨_, its, r, o, h1, h2, n, h3⟩ := (show ObjOk P w H h a (.tup (ks.map kV)) from ok a _ e)
  exact ⟨o, its.toArray, n, h1, h2, h3, by simpa using items_are r⟩
theorem dt_rd {kvs : List (List Key × V)} (ok : HOk P w H h) (e : Rd H a (.dT kvs)) : kvs.length ≤ sizeLine ∧ (a == sysModules) = false ∧
    ∃ xs, KT H kvs xs ∧ h.DictOfH (tupleKind (mixKind P w)) a xs := by
  obtain ⟨z, y, xs, r, o, es, ep, h1, h2, h3, h4, h5⟩ := (show ObjOk P w H h a (.dT kvs) from rd_of ok e)
  refine ⟨z, y, xs, r, o, es, ep, h1, h2, h3, h4, fun x hx => ?_, h5⟩
  have all : ∀ {l : List (List Key × V)} {m : List (List Key × Addr × Value)}, KT H l m → ∀ x ∈ m, (tupleKind (mixKind P w)).is h x.1 x.2.1 := by
    intro l m q
    induction q with
    | nil => intro x hx; exact nomatch hx
    | @cons p q ps qs hq t ih =>
      intro x hx
      rcases List.mem_cons.mp hx with e | hx
      · subst e
        exact key_of ok (by rw [← hq.1]; exact hq.2.1)
      · exact ih x hx
  exact all r x hx
theorem dt_of {kvs : List (List Key × V)} (ok : HOk P w H h) (e : H a = some (.dT kvs)) : kvs.length ≤ sizeLine ∧ (a == sysModules) = false ∧
    ∃ xs, KT H kvs xs ∧ h.DictOfH (tupleKind (mixKind P w)) a xs := dt_rd ok (.inl e)
end

/-- what the dict at a holds at the key y -/
def DGet (H : Hp) (a : Addr) (y : V) (r : Option V) : Prop :=
  (∃ kvs k, Rd H a (.dK kvs) ∧ y = kV k ∧ r = valV kvs k) ∨ ∃ kvs k b, Rd H a (.dT kvs) ∧ y = .ref b ∧ H b = some (.tup (k.map kV)) ∧ r = valV kvs k
/-- the heap behind a[y] = v -/
def DPut (H : Hp) (a : Addr) (y v : V) (H' : Hp) : Prop :=
  (∃ kvs k, H a = some (.dK kvs) ∧ y = kV k ∧ kvs.length < sizeLine ∧ H' = upd H a (.dK (putK kvs k v))) ∨
  ∃ kvs k b, H a = some (.dT kvs) ∧ y = .ref b ∧ H b = some (.tup (k.map kV)) ∧ kvs.length < sizeLine ∧ H' = upd H a (.dT (putK kvs k v))
theorem DGet.k {H : Hp} {a : Addr} {kvs : List (Key × V)} {k : Key} (e : H a = some (.dK kvs)) : DGet H a (kV k) (valV kvs k) := .inl ⟨kvs, k, .inl e, rfl, rfl⟩
theorem DPut.k {H : Hp} {a : Addr} {kvs : List (Key × V)} {k : Key} {v : V} (e : H a = some (.dK kvs)) (hl : kvs.length < sizeLine) : DPut H a (kV k) v (upd H a (.dK (putK kvs k v))) := .inl ⟨kvs, k, e, rfl, hl, rfl⟩
section
variable {X : Cx} {pins : List (Addr × Obj)} {σ : St} {H : Hp} {s : Shared} {a : Addr} {y v : V} {u r : Value} {o : Option V} {A : Around} {E : Value → Shared → Prop}

theorem Inv.big (I : Inv X pins σ H s) : sysModules < s.heap.objs.size := by
  have h : mainGlobals < s.heap.objs.size := (I.mod.glob.keeps I.bk).lt
  exact Nat.lt_trans (by decide) h

/-- d[y], there -/
theorem d_getItem {Q : Value → Shared → Prop} (hu : A.units + 1 < cLine) (I : Inv X pins σ H s) (g : DGet H a y (some v)) (ry : RelV y u) (h : ∀ w' s', Inv X pins σ H s' → RelV v w' → Q w' s') :
    wpAny (model X.prog X.w) A (getItem (.ref a) u) Q E s := by
  rcases g with ⟨kvs, k, e, ey, l⟩ | ⟨kvs, k, b, e, ey, eb, l⟩
  · subst ey
    obtain ⟨z, hd, vs, rel, dd⟩ := dk_rd I.hok e
    obtain ⟨w', hw, rw'⟩ := RelO.some_of (v := v) (o := valueAt vs k) (by rw [l]; exact rel.val k)
    exact wpAny_getItem_of (kV_is ry) dd.mapOf hw (h w' _ (I.tok _) rw')
  · subst ey
    cases (show u = Value.ref b from ry)
    obtain ⟨z, hd, xs, rel, dd⟩ := dt_rd I.hok e
    obtain ⟨w', hw, rw'⟩ := RelO.some_of (v := v) (o := (atKey xs k).map (·.2)) (by rw [l]; exact rel.val k)
    obtain ⟨p, hp, hp2⟩ := Option.map_eq_some_iff.mp hw
    refine wpAny_getItem_heap (tupleKind_room_in1 hu) (key_of I.hok eb) dd hp ?_
    rw [hp2]
    exact h w' _ (I.tok _) rw'
/-- y in d -/
theorem d_in {Q : Value → Shared → Prop} (hu : A.units + 1 < cLine) (I : Inv X pins σ H s) (g : DGet H a y o) (ry : RelV y u) (h : ∀ s', Inv X pins σ H s' → Q (.bool o.isSome) s') :
    wpAny (model X.prog X.w) A (compareOp .In u (.ref a)) Q E s := by
  rcases g with ⟨kvs, k, e, ey, l⟩ | ⟨kvs, k, b, e, ey, eb, l⟩
  · subst ey
    obtain ⟨z, hd, vs, rel, dd⟩ := dk_rd I.hok e
    refine wpAny_in_of (kV_is ry) hd dd.mapOf ?_
    rw [← (rel.val k).isSome_eq, ← l]
    exact h _ (I.tok _)
  · subst ey
    cases (show u = Value.ref b from ry)
    obtain ⟨z, hd, xs, rel, dd⟩ := dt_rd I.hok e
    refine wpAny_in_heap (tupleKind_room_in1 hu) (key_of I.hok eb) hd dd ?_
    have q := (rel.val k).isSome_eq
    rw [Option.isSome_map] at q
    rw [← q, ← l]
    exact h _ (I.tok _)
theorem d_notIn {Q : Value → Shared → Prop} (hu : A.units + 1 < cLine) (I : Inv X pins σ H s) (g : DGet H a y o) (ry : RelV y u) (h : ∀ s', Inv X pins σ H s' → Q (.bool (!o.isSome)) s') :
    wpAny (model X.prog X.w) A (compareOp .NotIn u (.ref a)) Q E s := by
  rcases g with ⟨kvs, k, e, ey, l⟩ | ⟨kvs, k, b, e, ey, eb, l⟩
  · subst ey
    obtain ⟨z, hd, vs, rel, dd⟩ := dk_rd I.hok e
    refine wpAny_notIn_of (kV_is ry) hd dd.mapOf ?_
    rw [← (rel.val k).isSome_eq, ← l]
    exact h _ (I.tok _)
  · subst ey
    cases (show u = Value.ref b from ry)
    obtain ⟨z, hd, xs, rel, dd⟩ := dt_rd I.hok e
    refine wpAny_notIn_heap (tupleKind_room_in1 hu) (key_of I.hok eb) hd dd ?_
    have q := (rel.val k).isSome_eq
    rw [Option.isSome_map] at q
    rw [← q, ← l]
    exact h _ (I.tok _)
/-- a dict's object is replaced -/
theorem d_write {h' : Heap} {t' : Nat} {ob : HO} (I : Inv X pins σ H s) (mu : Mut (H a)) (hs : Heap.SameBut a s.heap h') (he : ∃ q, h'.get? a = some q) (new : ObjOk X.prog X.w (upd H a ob) h' a ob) :
    Inv X pins σ (upd H a ob) { s with heap := h', toks := t' } :=
  I.write (x := a) (e := a) mu (.inl rfl) (fun b q hb z => (hs.2 b hb).trans z) he new
theorem dk_new {P : Program} {w : World} {H' : Hp} {h' : Heap} {kvs : List (Key × V)} {vs : List (Key × Value)} (z : kvs.length ≤ sizeLine) (hd : (a == sysModules) = false) (rel : KV kvs vs) (dd : h'.DictOf (mixKind P w) a vs) :
    ObjOk P w H' h' a (.dK kvs) := ⟨z, hd, vs, rel, dd⟩
/-- d[y] = v -/
theorem d_setItem {H' : Hp} {Q : Unit → Shared → Prop} (hu : A.units + 1 < cLine) (I : Inv X pins σ H s) (g : DPut H a y v H') (ry : RelV y u) (rv : RelV v r) (h : ∀ s', Inv X pins σ H' s' → Q () s') :
    wpAny (model X.prog X.w) A (setItem (.ref a) u r) Q E s := by
  rcases g with ⟨kvs, k, e, ey, l, eH⟩ | ⟨kvs, k, b, e, ey, eb, l, eH⟩
  · subst ey eH
    obtain ⟨z, hd, vs, rel, dd⟩ := dk_of I.hok e
    have hz : vs.length ≤ sizeLine := by rw [← rel.length]; exact z
    have hl : (putK kvs k v).length ≤ sizeLine := by have := length_putK kvs k v; omega
    refine wpAny_setItem_pairs (hsz := hz) (kV_is ry) dd fun h' dd' hs => h _ ?_
    have he : ∃ q, h'.get? a = some q := let ⟨q, _, _, hq, _⟩ := dd'; ⟨q, hq⟩
    exact d_write I (by rw [e]; exact True.intro) hs he (dk_new hl hd (rel.put k rv) dd')
  · subst ey eH
    cases (show u = Value.ref b from ry)
    obtain ⟨z, hd, xs, rel, dd⟩ := dt_of I.hok e
    have hz : xs.length ≤ sizeLine := by rw [← Paired.length rel]; exact z
    have hl : (putK kvs k v).length ≤ sizeLine := by have := length_putK kvs k v; omega
    refine wpAny_setItem_heap (hsz := hz) (tupleKind_room_in1 hu) (key_of I.hok eb) dd fun h' dd' hs => h _ ?_
    obtain ⟨q, es, ep, hq, h2, h3, h4, _, h5⟩ := dd'
    refine d_write I (by rw [e]; exact True.intro) hs ⟨q, hq⟩ ⟨hl, hd, _, (rel.put k eb rv).keeps fun c ys ec => ?_, q, es, ep, hq, h2, h3, h4, h5⟩
    rw [upd_ne (ne_of ec e (fun z => nomatch z))]
    exact ec
end

section
variable {X : Cx} {pins : List (Addr × Obj)} {σ : St} {H : Hp} {s : Shared} {a : Addr} {kvs : List (Key × V)} {k : Key} {u : Value} {A : Around} {E : Value → Shared → Prop}
/-- len(d) -/
theorem d_len {Q : Value → Shared → Prop} (I : Inv X pins σ H s) (e : Rd H a (.dK kvs)) (h : ∀ t s', Inv X pins σ H s' → Q (.int kvs.length t) s') : wpAny (model X.prog X.w) A (call (.builtin "len") [.ref a]) Q E s := by
  obtain ⟨z, hd, vs, rel, dd⟩ := dk_rd I.hok e
  refine call_len_dict hd dd (by rw [← rel.length]; rw [sizeLine_eq] at z; omega) ?_
  rw [← rel.length]
  exact h _ _ (I.tok _)
end


/-! ### readings and rules -/
/-- the element of a subscription, not a slice -/
def NoSl (i : Expr) : Prop := ∀ ov iv, subscripted i false ov iv = operate [ov, iv] (getItem ov iv)
theorem subD_of {prog : Program} {w : World} {A : Around} {E : Value → Shared → Prop} {s : Shared} {env : Env} {value slice : Expr} {pos : Pos} {T id : String} {Q : Value → Shared → Prop}
    (hl : typeLookup (.type T) "__getitem__" = pure (some (.builtin id))) (hs : NoSl slice)
    (h : wpAny (model prog w) A (eval value env) (fun o s₁ => wpAny (model prog w) A (eval slice env) (fun i s₂ => s₂.TypeIs o T ∧ wpAny (model prog w) A (getItem o i) Q E s₂) E s₁) E s) :
    wpAny (model prog w) A (eval (.Subscript value slice pos) env) Q E s := by
  refine Subscript_ (wpAny_mono h (fun o s₁ h₁ => wpAny_mono h₁ (fun i s₂ h₂ => ?_) fun _ _ x => x) fun _ _ x => x)
  obtain ⟨hT, h₂⟩ := h₂
  unfold subscriptTail
  refine wpAny_bind ?_
  rw [getitemInPython_of_ne hT.not_modules]
  refine wpAny_bind (wpAny_specialOf hT hl ?_)
  have fin : wpAny (model prog w) A (subscripted slice false o i) (fun r s₃ => wpAny (model prog w) A (letTemporaryGo value o r >>= fun _ => pure r) Q E s₃) E s₂ := by
    rw [hs o i]
    exact wpAny_operating (wpAny_mono h₂ (fun r s₃ h₃ => wpAny_bind (wpAny_letTemporaryGo (wpAny_pure h₃))) fun _ _ x => x)
  first
    | exact wpAny_pure (wpAny_bind fin)
    | exact wpAny_bind (wpAny_pure (wpAny_bind fin))
    | exact wpAny_bind fin

theorem dict_typeIs {X : Cx} {pins : List (Addr × Obj)} {σ : St} {H : Hp} {s : Shared} {a : Addr} {y : V} {o : Option V} (I : Inv X pins σ H s) (g : DGet H a y o) : s.TypeIs (.ref a) "dict" := by
  rcases g with ⟨kvs, k, e, _, _⟩ | ⟨kvs, k, b, e, _, _, _⟩
  · obtain ⟨_, _, vs, _, dd⟩ := dk_rd I.hok e
    exact dd.typeIs
  · obtain ⟨_, _, xs, _, dd⟩ := dt_rd I.hok e
    exact dd.typeIs
/-- d[y] -/
def tDGet (td ty : TE) : TE := fun σ H Q => td σ H fun x H1 => ty σ H1 fun y H2 => ∃ a v, x = .ref a ∧ DGet H2 a y (some v) ∧ Q v H2
/-- y in d, y not in d -/
def tDIn (ty td : TE) : TE := fun σ H Q => ty σ H fun y H1 => td σ H1 fun x H2 => ∃ a o, x = .ref a ∧ DGet H2 a y o ∧ Q (.bl o.isSome) H2
def tDNotIn (ty td : TE) : TE := fun σ H Q => ty σ H fun y H1 => td σ H1 fun x H2 => ∃ a o, x = .ref a ∧ DGet H2 a y o ∧ Q (.bl (!o.isSome)) H2
/-- d[y] = v -/
def sDPut (td ty tv : TE) : TS := fun D σ H => tv σ H fun v H1 => td σ H1 fun x H2 => ty σ H2 fun y H3 => ∃ a H4, x = .ref a ∧ DPut H3 a y v H4 ∧ D.nx σ H4
section
variable {X : Cx} {o i e value : Expr} {pos pos' tpos : Pos} {td ty tv : TE}
theorem pe_dget (hu : X.A.units + 1 < cLine) (ho : PE X o td) (hi : PE X i ty) (hs : NoSl i) : PE X (.Subscript o i pos) (tDGet td ty) := by
  intro pins s σ H Q I h
  refine subD_of PySem.F.slot_dict_getitem.lookup hs (thn (ho pins s σ H _ I h) fun u s1 ⟨x, H1, I1, rx, q1⟩ => thn (hi pins s1 σ H1 _ I1 q1) fun iv s2 ⟨y, H2, I2, ry, a, v, ex, g, q2⟩ => ?_)
  subst ex
  obtain rfl : u = Value.ref a := rx
  exact ⟨dict_typeIs I2 g, d_getItem hu I2 g ry fun w' s3 I3 rw' => ⟨v, H2, I3, rw', q2⟩⟩
theorem pc_din (hu : X.A.units + 1 < cLine) (hi : PE X i ty) (ho : PE X o td) : PC X .In i o (tDIn ty td) := by
  intro pins s σ H Q I h
  refine thn (hi pins s σ H _ I h) fun iv s1 ⟨y, H1, I1, ry, q1⟩ => thn (ho pins s1 σ H1 _ I1 q1) fun u s2 ⟨x, H2, I2, rx, a, ov, ex, g, q2⟩ => ?_
  subst ex
  obtain rfl : u = Value.ref a := rx
  exact d_in hu I2 g ry fun s3 I3 => ⟨.bl ov.isSome, H2, I3, rfl, q2⟩
theorem pc_dnotin (hu : X.A.units + 1 < cLine) (hi : PE X i ty) (ho : PE X o td) : PC X .NotIn i o (tDNotIn ty td) := by
  intro pins s σ H Q I h
  refine thn (hi pins s σ H _ I h) fun iv s1 ⟨y, H1, I1, ry, q1⟩ => thn (ho pins s1 σ H1 _ I1 q1) fun u s2 ⟨x, H2, I2, rx, a, ov, ex, g, q2⟩ => ?_
  subst ex
  obtain rfl : u = Value.ref a := rx
  exact d_notIn hu I2 g ry fun s3 I3 => ⟨.bl (!ov.isSome), H2, I3, rfl, q2⟩
theorem ps_dput (hu : X.A.units + 1 < cLine) (ho : PE X o td) (hi : PE X i ty) (hv : PE X value tv) (hs : swapsWith value (some (.Subscript o i pos')) pos.line X.env = pure false) :
    PS X (.Assign [.Subscript o i pos'] value pos) (sDPut td ty tv) := by
  intro pins s σ H D I h
  refine wpAny_Assign_Subscript (thn (hv pins s σ H _ I h) fun r s1 ⟨v, H1, I1, rv, q1⟩ => thn (ho pins s1 σ H1 _ I1 q1) fun u s2 ⟨x, H2, I2, rx, q2⟩ => thn (hi pins s2 σ H2 _ I2 q2) fun iv s3 ⟨y, H3, I3, ry, a, H4, ex, g, q3⟩ => ?_) hs
  subst ex
  obtain rfl : u = Value.ref a := rx
  exact d_setItem hu I3 g ry rv fun s4 I4 => ⟨σ, H4, I4, q3⟩
end


/-! ### displays -/
theorem dk_empty {P : Program} {w : World} {H : Hp} (h : Heap) (hb : sysModules < h.objs.size) : ObjOk P w H (h.push { cls := .type "dict", data := .dict #[] }) h.objs.size (.dK []) :=
  ⟨Nat.zero_le _, beq_eq_false_iff_ne.mpr (Ne.symm (Nat.ne_of_lt hb)), [], .nil, Heap.DictOf.new h⟩
/-- {}, to be a dict of the kind that is wanted -/
def tDNewK : TE := fun _ H Q => ∀ p, H p = none → Q (.ref p) (upd H p (.dK []))
section
variable {X : Cx} {pos : Pos}
theorem pe_dnewK : PE X (.Dict [] [] pos) tDNewK := fun pins s σ H Q I h =>
  wpAny_Dict_empty ⟨.ref s.heap.objs.size, _, I.laid (a := s.heap.objs.size) (o := .dK []) (t' := s.toks) (fun _ _ q => Heap.get?_push_of_some _ q) (Nat.le_refl _) (dk_empty s.heap I.big), rfl, h _ (I.hok.fresh (Nat.le_refl _))⟩
end

/-- the pairs of a display, from the left -/
def tPairs : List (TE × TE) → St → Hp → (List (V × V) → Hp → Prop) → Prop
  | [], _, H, Q => Q [] H
  | (tk, tv) :: r, σ, H, Q => tk σ H fun x H1 => tv σ H1 fun y H2 => tPairs r σ H2 fun ps H3 => Q ((x, y) :: ps) H3
abbrev VV : List (V × V) → List (Value × Value) → Prop := Paired fun p q => RelV p.1 q.1 ∧ RelV p.2 q.2
def PPs (X : Cx) (pos : Pos) (keys : List (Option Expr)) (values : List Expr) (trs : List (TE × TE)) : Prop :=
  ∀ (pins : List (Addr × Obj)) (s : Shared) (σ : St) (H : Hp) (Q : List (V × V) → Hp → Prop), Inv X pins σ H s → tPairs trs σ H Q →
    wpAny (model X.prog X.w) X.A (evalPairs (pairTrees keys values X.env pos)) (fun vs s' => ∃ ps H', Inv X pins σ H' s' ∧ VV ps vs ∧ Q ps H') X.xe s
theorem pps_nil {X : Cx} {pos : Pos} : PPs X pos [] [] [] := fun pins s σ H Q I h => pairTrees_nil_walk ⟨[], H, I, .nil, h⟩
theorem pps_cons {X : Cx} {pos : Pos} {k v : Expr} {ks : List (Option Expr)} {vs : List Expr} {tk tv : TE} {trs : List (TE × TE)} (hk : PE X k tk) (hv : PE X v tv) (hr : PPs X pos ks vs trs) :
    PPs X pos (some k :: ks) (v :: vs) ((tk, tv) :: trs) := fun pins s σ H Q I h =>
  pairTrees_cons_walk (thn (hk pins s σ H _ I h) fun u s1 ⟨x, H1, I1, rx, q1⟩ => thn (hv pins s1 σ H1 _ I1 q1) fun w2 s2 ⟨y, H2, I2, ry, q2⟩ =>
    thn (hr pins s2 σ H2 _ I2 q2) fun ws s3 ⟨ps, H3, I3, rel, q3⟩ => ⟨(x, y) :: ps, H3, I3, .cons ⟨rx, ry⟩ rel, q3⟩)

def mergeK (kvs more : List (Key × V)) : List (Key × V) := more.foldl (fun acc kv => putK acc kv.1 kv.2) kvs
theorem KV.merge : ∀ {more : List (Key × V)} {rs : List (Key × Value)} {kvs : List (Key × V)} {vs : List (Key × Value)}, KV more rs → KV kvs vs → KV (mergeK kvs more) (merged vs rs) := by
  intro more rs kvs vs r
  unfold KV at r
  induction r generalizing kvs vs with
  | nil => intro q; exact q
  | @cons p q ps qs h t ih =>
    intro r0
    have e : KV (putK kvs p.1 p.2) (stored vs q.1 q.2) := by
      have := r0.put p.1 h.2
      rw [← h.1]; exact this
    exact ih e
theorem length_mergeK : ∀ (more kvs : List (Key × V)), (mergeK kvs more).length ≤ kvs.length + more.length
  | [], kvs => by show kvs.length ≤ kvs.length + 0; omega
  | p :: r, kvs => by
    have h1 := length_mergeK r (putK kvs p.1 p.2)
    have h2 := length_putK kvs p.1 p.2
    show (mergeK (putK kvs p.1 p.2) r).length ≤ _
    rw [List.length_cons]; omega
theorem carries_of {P : Program} {w : World} : ∀ {kvs : List (Key × V)} {ws : List (Value × Value)}, VV (kvs.map fun kv => (kV kv.1, kv.2)) ws → ∃ rs, Carries (mixKind P w) ws rs ∧ KV kvs rs
  | [], _, r => by rw [List.map_nil] at r; cases r; exact ⟨[], True.intro, .nil⟩
  | p :: kvs, _, r => by
    rw [List.map_cons] at r
    cases r with
    | @cons a b as bs h t =>
      obtain ⟨rs, c, q⟩ := carries_of (P := P) (w := w) t
      obtain ⟨b1, b2⟩ := b
      exact ⟨(p.1, b2) :: rs, ⟨kV_is h.1, rfl, c⟩, .cons ⟨rfl, h.2⟩ q⟩
/-- {k: v, ..} with keys ints and texts; the new dict stands empty while the pairs are made -/
def tDisp (trs : List (TE × TE)) : TE := fun σ H Q => ∀ p, H p = none → tPairs trs σ (upd H p (.dK [])) fun ps H2 => H2 p = some (.dK []) ∧ ∃ kvs : List (Key × V), ps = kvs.map (fun kv => (kV kv.1, kv.2)) ∧ kvs.length ≤ 15 ∧ Q (.ref p) (upd H2 p (.dK (mergeK [] kvs)))
theorem pe_disp {X : Cx} {pos : Pos} {keys : List (Option Expr)} {values : List Expr} {trs : List (TE × TE)} (h : PPs X pos keys values trs) (hall : keys.all (·.isSome) = true) (hl : keys.length = values.length) (h0 : keys ≠ [])
    (h15 : keys.length ≤ 15) : PE X (.Dict keys values pos) (tDisp trs) := by
  intro pins s σ H Q I q
  have hn := I.hok.fresh (Nat.le_refl s.heap.objs.size)
  have I1 := I.laid (a := s.heap.objs.size) (o := .dK []) (h' := s.heap.push { cls := .type "dict", data := .dict #[] }) (t' := s.toks) (fun _ _ q => Heap.get?_push_of_some _ q) (Nat.le_refl _) (dk_empty s.heap I.big)
  refine wpAny_Dict_walk (knd := mixKind X.prog X.w) hall hl h0 h15 (thn (h pins _ σ _ _ I1 (q _ hn)) fun ws s2 ⟨ps, H2, I2, rel, e, kvs, ep, lk, q2⟩ => ?_)
  subst ep
  obtain ⟨rs, c, rk⟩ := carries_of (P := X.prog) (w := X.w) rel
  obtain ⟨z, hd, vs0, r0, dd⟩ := dk_of I2.hok e
  cases r0
  refine ⟨rs, c, dd, fun h' dd' hs => ⟨.ref s.heap.objs.size, _, ?_, rfl, q2⟩⟩
  have hz : (mergeK [] kvs).length ≤ sizeLine := by
    have h1 := length_mergeK kvs []
    rw [List.length_nil] at h1
    rw [sizeLine_eq]; omega
  have he : ∃ q, h'.get? s.heap.objs.size = some q := let ⟨q, _, _, hq, _⟩ := dd'; ⟨q, hq⟩
  exact d_write I2 (by rw [e]; exact True.intro) hs he (dk_new hz hd (rk.merge .nil) dd')


/-! ### methods -/
structure M2 (X : Cx) (o : Expr) (m : Str) (apos : Pos) (e f : Expr) (cpos : Pos) : Prop where
  base : attributeBase o m X.env (eval o X.env) = eval o X.env
  few : ((backTo cpos (starEach [e, f] X.env)).all (fun x => !x.1) && (backToKw cpos (keywordEach [] X.env)).all (fun x => x.1.isSome)
    && decide (([e, f] : List Expr).length + ([] : List Keyword).length + (if ([] : List Keyword).isEmpty then 0 else 1) < 30)) = true
  line : (apos.endLine == cpos.line) = true
  trees : backTo cpos (starEach [e, f] X.env) = [(false, eval e X.env), (false, eval f X.env)]

/-- a is a dict, whatever its keys -/
def IsD (H : Hp) (a : Addr) : Prop := (∃ kvs, Rd H a (.dK kvs)) ∨ ∃ kvs, Rd H a (.dT kvs)
theorem isD_at {X : Cx} {pins : List (Addr × Obj)} {σ : St} {H : Hp} {s : Shared} {a : Addr} (I : Inv X pins σ H s) (d : IsD H a) :
    s.TypeIs (.ref a) "dict" ∧ (∀ b, Value.ref a = .ref b → ∃ ob, s.heap.get? b = some ob ∧ ob.dict = none) ∧ (a == sysModules) = false := by
  rcases d with ⟨kvs, e⟩ | ⟨kvs, e⟩
  · obtain ⟨_, hd, vs, _, dd⟩ := dk_rd I.hok e
    refine ⟨dd.typeIs, fun b q => ?_, hd⟩
    cases q
    obtain ⟨ob, _, _, h1, h2, _⟩ := dd
    exact ⟨ob, h1, h2.2.1⟩
  · obtain ⟨_, hd, xs, _, dd⟩ := dt_rd I.hok e
    refine ⟨dd.typeIs, fun b q => ?_, hd⟩
    cases q
    obtain ⟨ob, _, _, h1, h2, _⟩ := dd
    exact ⟨ob, h1, h2.2.1⟩

section
variable {X : Cx} {pins : List (Addr × Obj)} {σ : St} {H : Hp} {s : Shared} {a : Addr} {y d : V} {u r : Value} {o : Option V} {A : Around} {E : Value → Shared → Prop}
/-- d.get(y, x) -/
theorem d_get2 {Q : Value → Shared → Prop} (hu : A.units + 1 < cLine) (I : Inv X pins σ H s) (g : DGet H a y o) (ry : RelV y u) (rd : RelV d r) (h : ∀ w' s', Inv X pins σ H s' → RelV (o.getD d) w' → Q w' s') :
    wpAny (model X.prog X.w) A (call (.builtin "dict.get") [.ref a, u, r]) Q E s := by
  rcases g with ⟨kvs, k, e, ey, l⟩ | ⟨kvs, k, b, e, ey, eb, l⟩
  · subst ey
    obtain ⟨z, hd, vs, rel, dd⟩ := dk_rd I.hok e
    refine call_meetsIn PySem.F.slot_dict_get dd.typeIs PySem.F.entry_dict_get (PySem.F.args_dict_get_3 _ _ _) (meets_dict_get_default (mixKind X.prog X.w) a (kV_is ry) hd r) ⟨_, dd.mapOf, h _ _ (I.tok _) ?_⟩
    rw [l]
    exact (rel.val k).getD rd
  · subst ey
    cases (show u = Value.ref b from ry)
    obtain ⟨z, hd, xs, rel, dd⟩ := dt_rd I.hok e
    refine call_meetsIn PySem.F.slot_dict_get dd.typeIs PySem.F.entry_dict_get (PySem.F.args_dict_get_3 _ _ _) (meetsH_dict_get_default (tupleKind (mixKind X.prog X.w)) a b hd r) ⟨tupleKind_room_in1 hu, k, xs, key_of I.hok eb, dd, h _ _ (I.tok _) ?_⟩
    rw [l]
    exact (rel.val k).getD rd
end

def tDGet2 (td ty tx : TE) : TE := fun σ H Q => td σ H fun x H1 => ∃ a, x = .ref a ∧ IsD H1 a ∧ ty σ H1 fun y H2 => tx σ H2 fun z H3 => ∃ o, DGet H3 a y o ∧ Q (o.getD z) H3
section
variable {X : Cx} {o e f : Expr} {apos cpos : Pos} {td ty tx : TE}
theorem pe_dget2 (hu : X.A.units + 1 < cLine) (ho : PE X o td) (he : PE X e ty) (hf : PE X f tx) (m : M2 X o "get" apos e f cpos) : PE X (.Call (.Attribute o "get" apos) [e, f] [] cpos) (tDGet2 td ty tx) := by
  intro pins s σ H Q I h
  refine wpAny_Call_method m.base m.few m.line PySem.F.plainAttrs_dict PySem.F.slot_dict_get PySem.F.type_dict_get (thn (ho pins s σ H _ I h) fun u s1 ⟨x, H1, I1, rx, a, ex, d, q1⟩ => ?_)
  subst ex
  obtain rfl : u = Value.ref a := rx
  obtain ⟨t1, t2, _⟩ := isD_at I1 d
  refine ⟨t1, t2, ?_⟩
  rw [m.trees]
  refine Calls.callWith_builtin rfl (Calls.evalArgs_plain (Calls.spliced_cons (thn (he pins s1 σ H1 _ I1 q1) fun iv s2 ⟨y, H2, I2, ry, q2⟩ =>
    Calls.spliced_cons (thn (hf pins s2 σ H2 _ I2 q2) fun fv s3 ⟨z, H3, I3, rz, ov, g, q3⟩ => Calls.spliced_nil ?_))))
  exact d_get2 hu I3 g ry rz fun w' s4 I4 rw' => ⟨_, H3, I4, rw', q3⟩
end

/-! ### dict(d): a copy -/
section
variable {X : Cx} {pins : List (Addr × Obj)} {σ : St} {H : Hp} {s : Shared} {a : Addr} {kvs : List (Key × V)} {A : Around} {E : Value → Shared → Prop}
end


section
variable {X : Cx} {pins : List (Addr × Obj)} {σ : St} {H : Hp} {s : Shared} {a : Addr} {y : V} {u : Value} {A : Around} {E : Value → Shared → Prop}
end
end L2

namespace HT
open PySem PyProof.Rows

section
open PySem.SeqAt
open PySem.AutoSeq1 (wpAny_loadPart')
open PySem.MeetsSeq PySem.MeetsSeq2 PySem.MeetsSeq3

end

section
variable {prog : Program} {w : World} {A : Around} {E : Value → Shared → Prop} {s : Shared}

/-! ### t[a:b], not the whole -/
/-- a slice's bound as a place among n (d where it is left out) -/
def sIx (n d : Nat) : Option Int → Nat
  | none => d
  | some v => if v < 0 then (v + (n : Int)).toNat else min v.toNat n
theorem sIx_none (n d : Nat) : sIx n d none = d := rfl
theorem sIx_nat (n d k : Nat) : sIx n d (some (k : Int)) = min k n := by
  show (if (k : Int) < 0 then ((k : Int) + (n : Int)).toNat else min (k : Int).toNat n) = min k n
  rw [if_neg (by omega), Int.toNat_natCast]
end
end HT

namespace L2
open PySem PySem.Spec PyProof.Rows

/-! ### the parts of a slice -/
abbrev TO := St → Hp → (Option Int → Hp → Prop) → Prop
/-- a slice's part (left out, or an int) -/
def PO (X : Cx) (e : Option Expr) (t : TO) : Prop :=
  ∀ (pins : List (Addr × Obj)) (s : Shared) (σ : St) (H : Hp) (Q : Option Int → Hp → Prop), Inv X pins σ H s → t σ H Q →
    wpAny (model X.prog X.w) X.A (evalPart e X.env) (fun u s' => ∃ o H', Inv X pins σ H' s' ∧ IsPart u o ∧ Q o H') X.xe s
def tNoPart : TO := fun _ H Q => Q none H
def tPart (t : TE) : TO := fun σ H Q => t σ H fun x H1 => ∃ i, x = .int i ∧ Q (some i) H1

theorem intsAre_of {ns : List Int} : ∀ {us : List Value}, Vals (ns.map V.int) us → IntsAre us ns := by
  induction ns with
  | nil => intro us r; rw [List.map_nil] at r; cases r; exact .nil
  | cons n ns ih =>
    intro us r
    rw [List.map_cons] at r
    cases r with
    | cons r1 r2 =>
      obtain ⟨t, e⟩ := r1
      subst e
      exact .cons n t (ih r2)

section
variable {X : Cx} {e : Expr} {te : TE} {lo hi : Option Expr} {tl th : TO} {pos p2 : Pos}

theorem po_none : PO X none tNoPart := by
  intro pins s σ H Q I h
  rw [evalPart_none]
  exact wpAny_pure ⟨none, H, I, .none, h⟩
theorem po_some (h : PE X e te) : PO X (some e) (tPart te) := by
  intro pins s σ H Q I hw
  rw [evalPart_some]
  refine thn (h pins s σ H _ I hw) fun u s1 ⟨x, H1, I1, r1, q1⟩ => ?_
  obtain ⟨i, rfl, q⟩ := q1
  obtain ⟨t, rfl⟩ := r1
  exact ⟨some i, H1, I1, .int i t, q⟩

/-- what a slice of a value is, by values: the slice object stands at sl -/
def SlR (X : Cx) (r : V → Option Int → Option Int → Hp → VK → Prop) : Prop :=
  ∀ (pins : List (Addr × Obj)) (s : Shared) (σ : St) (H : Hp) (x : V) (v vl vu : Value) (lo hi : Option Int) (sl : Addr) (Q : VK), Inv X pins σ H s → RelV x v → s.heap.IsSliceOf sl vl vu .none → IsPart vl lo → IsPart vu hi → r x lo hi H Q →
    ∃ T id, typeLookup (.type T) "__getitem__" = pure (some (.builtin id)) ∧ s.TypeIs v T ∧ wpAny (model X.prog X.w) X.A (getItem v (.ref sl)) (EP X pins σ Q) X.xe s
def tSl (r : V → Option Int → Option Int → Hp → VK → Prop) (te : TE) (tl th : TO) : TE := fun σ H Q => te σ H fun x H1 => tl σ H1 fun l H2 => th σ H2 fun u H3 => r x l u H3 Q
/-- a[lo:hi], any a -/
theorem pe_slice {r : V → Option Int → Option Int → Hp → VK → Prop} (hr : SlR X r) (he : PE X e te) (hl : PO X lo tl) (hu : PO X hi th) : PE X (.Subscript e (.Slice lo hi none p2) pos) (tSl r te tl th) := by
  intro pins s σ H Q I h
  refine Subscript_ (thn (he pins s σ H _ I h) fun v s1 ⟨x, H1, I1, r1, q1⟩ => ?_)
  refine wpAny_Slice (thn (hl pins s1 σ H1 _ I1 q1) fun vl s2 ⟨l, H2, I2, pl, q2⟩ => thn (hu pins s2 σ H2 _ I2 q2) fun vu s3 ⟨u, H3, I3, pu, q3⟩ => ?_)
  rw [evalPart_none]
  refine wpAny_pure ?_
  have I4 : Inv X pins σ H3 { s3 with heap := s3.heap.push { cls := .type "slice", data := .fields #[vl, vu, .none] } } := I3.kept (t' := s3.toks) fun b ob q => Heap.get?_push_of_some _ q
  obtain ⟨T, id, hT, ht, hg⟩ := hr pins { s3 with heap := s3.heap.push { cls := .type "slice", data := .fields #[vl, vu, .none] } } σ H3 x v vl vu l u s3.heap.objs.size Q I4 r1 (Heap.IsSliceOf.new ..) pl pu q3
  show wpAny (model X.prog X.w) X.A (subscriptTail e (.Slice lo hi none p2) v (.ref s3.heap.objs.size)) (EP X pins σ Q) X.xe { s3 with heap := s3.heap.push { cls := .type "slice", data := .fields #[vl, vu, .none] } }
  exact tail_any (ops := [.ref s3.heap.objs.size, v]) ht hT hg (by with_unfolding_all rfl)

/-- the items of xs[lo:hi] -/
def cutV (xs : List V) (lo hi : Option Int) : List V := (xs.drop (HT.sIx xs.length 0 lo)).take (HT.sIx xs.length xs.length hi - HT.sIx xs.length 0 lo)
theorem cutV_length (xs : List V) (lo hi : Option Int) : (cutV xs lo hi).length ≤ xs.length := by
  unfold cutV
  rw [List.length_take, List.length_drop]
  omega
/-! ### t < u, t + u -/
end
end L2

namespace L2
open PySem PySem.Spec PyProof.Rows

/-! ### places -/
/-- the place that an index of any sign means -/
def ixN (n : Nat) (i : Int) : Option Nat := if 0 ≤ i then (if i < n then some i.toNat else none) else if -(n : Int) ≤ i then some (i + n).toNat else none
def atI {α : Type} (xs : List α) (i : Int) : Option α := (ixN xs.length i).bind fun j => xs[j]?
theorem ixN_seq {n : Nat} {i : Int} {j : Nat} (h : ixN n i = some j) : seqIndex? i n = some j ∧ j < n ∧ -(n : Int) ≤ i ∧ i < n := by
  unfold ixN at h
  by_cases h0 : 0 ≤ i
  · rw [if_pos h0] at h
    by_cases h1 : i < n
    · rw [if_pos h1] at h
      have e : i.toNat = j := Option.some.inj h
      exact ⟨by rw [seqIndex_of h0 h1, e], by omega, by omega, h1⟩
    · rw [if_neg h1] at h; cases h
  · rw [if_neg h0] at h
    by_cases h1 : -(n : Int) ≤ i
    · rw [if_pos h1] at h
      have e : (i + n).toNat = j := Option.some.inj h
      exact ⟨by rw [seqIndex_neg (by omega) h1, e], by omega, h1, by omega⟩
    · rw [if_neg h1] at h; cases h
theorem atI_get {α : Type} {xs : List α} {i : Int} {v : α} (h : atI xs i = some v) : ∃ j, seqIndex? i xs.length = some j ∧ xs[j]? = some v ∧ j < xs.length ∧ -(xs.length : Int) ≤ i ∧ i < xs.length := by
  unfold atI at h
  cases e : ixN xs.length i with
  | none => rw [e] at h; cases h
  | some j =>
    rw [e] at h
    obtain ⟨h1, h2, h3, h4⟩ := ixN_seq e
    exact ⟨j, h1, h, h2, h3, h4⟩
theorem atI_nat {α : Type} {xs : List α} {j : Nat} {v : α} (h : xs[j]? = some v) : atI xs (j : Int) = some v := by
  have hj : j < xs.length := (List.getElem?_eq_some_iff.mp h).1
  have e : ixN xs.length (j : Int) = some j := by
    unfold ixN
    rw [if_pos (by omega), if_pos (by omega)]; simp
  unfold atI; rw [e]; exact h
theorem atI_last {α : Type} (xs : List α) (v : α) : atI (xs ++ [v]) (-1) = some v := by
  have hl : (xs ++ [v]).length = xs.length + 1 := by simp
  have e : ixN (xs ++ [v]).length (-1) = some xs.length := by
    unfold ixN
    rw [hl, if_neg (by decide), if_pos (by omega)]
    congr 1
    omega
  unfold atI
  rw [e]
  show (xs ++ [v])[xs.length]? = some v
  simp

/-! ### what may be subscripted -/
/-- what stands as an index of a plain subscript -/
def PlainIx (b : Expr) : Prop := ∀ o i, subscripted b false o i = operate [o, i] (getItem o i)
/-- a subscript by values -/
def IxR (X : Cx) (r : R2) : Prop :=
  ∀ (value slice : Expr) (pins : List (Addr × Obj)) (s : Shared) (σ : St) (H : Hp) (x y : V) (v u : Value) (Q : VK), Inv X pins σ H s → RelV x v → RelV y u → r x y H Q →
    subscripted slice false v u = operate [v, u] (getItem v u) → wpAny (model X.prog X.w) X.A (subscriptTail value slice v u) (EP X pins σ Q) X.xe s
/-- a call of a builtin's method by values: the receiver, the arguments -/
def MtR (X : Cx) (id : String) (r : V → List V → Hp → VK → Prop) : Prop :=
  ∀ (pins : List (Addr × Obj)) (s : Shared) (σ : St) (H : Hp) (x : V) (xs : List V) (v : Value) (us : List Value) (Q : VK), Inv X pins σ H s → RelV x v → Vals xs us → r x xs H Q →
    wpAny (model X.prog X.w) X.A (call (.builtin id) (v :: us)) (EP X pins σ Q) X.xe s
section
variable {X : Cx} {a b : Expr} {ta tb : TE} {pos : Pos}
/-- a[b] -/
theorem pe_ix {r : R2} (hr : IxR X r) (ha : PE X a ta) (hb : PE X b tb) (hs : PlainIx b) : PE X (.Subscript a b pos) (tOp r ta tb) := by
  intro pins s σ H Q I h
  exact Subscript_ (binT ha hb I h fun v u s2 x y H2 I2 rx ry q => hr a b pins s2 σ H2 x y v u Q I2 rx ry q (hs _ _))

def rIxL (K : PySem.W.Frag) : R2 := fun x y H Q => ∃ p xs i v, x = .ref p ∧ y = .int i ∧ SqL K H p xs ∧ atI xs i = some v ∧ Q v H
def rIxT (K : PySem.W.Frag) : R2 := fun x y H Q => ∃ p xs i v, x = .ref p ∧ y = .int i ∧ SqT K H p xs ∧ atI xs i = some v ∧ Q v H
def rIxS : R2 := fun x y H Q => ∃ z i c, x = .str z ∧ y = .int i ∧ z.length ≤ sizeLine ∧ atI z.cps.toList i = some c ∧ Q (.str ⟨#[c]⟩) H
theorem ix_list : IxR X (rIxL X.K) := by
  intro value slice pins s σ H x y v u Q I rx ry h hs
  obtain ⟨p, xs, i, z, rfl, rfl, hq, he, q⟩ := h
  cases rx
  obtain ⟨t, rfl⟩ := ry
  obtain ⟨its, r, pl, hz⟩ := I.list hq
  obtain ⟨j, h1, h2, h3, h4, h5⟩ := atI_get he
  obtain ⟨w, ew, rw'⟩ := r.get h2
  have hl := r.length
  have hn := line63
  have fin : EP X pins σ Q w s := ⟨z, H, I, rw', q⟩
  by_cases h0 : 0 ≤ i
  · have hj : i.toNat = j := by
      rw [seqIndex_of h0 h5] at h1
      exact Option.some.inj h1
    exact item_listR pl.isList h0 (by omega) (by rw [hj]; simpa using ew) fin hs
  · have hj : (i + (its.toArray.size : Int)).toNat = j := by
      rw [seqIndex_neg (by omega) h4] at h1
      rw [List.size_toArray, ← hl]
      exact Option.some.inj h1
    exact subscriptTail_builtinR (x := w) pl.isList.typeIs slot_list_getitem.lookup
      (wpAny_getItem_list_neg (Q := fun r s' => r = w ∧ EP X pins σ Q r s') pl.isList (by omega) (by rw [List.size_toArray] <;> omega) (by omega) (by rw [hj]; simpa using ew) ⟨rfl, fin⟩) hs
theorem ix_tup : IxR X (rIxT X.K) := by
  intro value slice pins s σ H x y v u Q I rx ry h hs
  obtain ⟨p, xs, i, z, rfl, rfl, hq, he, q⟩ := h
  cases rx
  obtain ⟨t, rfl⟩ := ry
  obtain ⟨its, r, pl, hz⟩ := I.tuple hq
  obtain ⟨j, h1, h2, h3, h4, h5⟩ := atI_get he
  obtain ⟨w, ew, rw'⟩ := r.get h2
  have hl := r.length
  have hn := line63
  have fin : EP X pins σ Q w s := ⟨z, H, I, rw', q⟩
  exact subscriptTail_builtinR (x := w) pl.typeIs slot_tuple_getitem.lookup
    (getItem_tuple (j := j) (Q := fun r s' => r = w ∧ EP X pins σ Q r s') pl (by omega) (by omega) (by rw [List.size_toArray, ← hl]; exact h1) (by simpa using ew) ⟨rfl, fin⟩) hs
theorem ix_str : IxR X rIxS := by
  intro value slice pins s σ H x y v u Q I rx ry h hs
  obtain ⟨z, i, c, rfl, rfl, hz, he, q⟩ := h
  obtain ⟨t, rfl⟩ := rx
  obtain ⟨t', rfl⟩ := ry
  obtain ⟨j, h1, h2, h3, h4, h5⟩ := atI_get he
  have hl : z.cps.toList.length = z.length := by simp [Str.length]
  rw [hl] at h1 h4 h5
  have hn := line63
  exact tail_any (typeIs_str s z t) slot_str_getitem.lookup (getItem_str (c := c) (by
    have e1 : decide (i < -(2 ^ 63 : Int)) = false := decide_eq_false (by omega)
    have e2 : decide (i ≥ 2 ^ 63) = false := decide_eq_false (by omega)
    rw [e1, e2, Bool.or_false]) (by rw [h1]; simpa using h2) ⟨.str ⟨#[c]⟩, H, I.tok _, ⟨_, rfl⟩, q⟩) hs
/-! ### xs[i] = v, any sign -/
/-! ### slices -/
theorem slice_bounds (lo hi : Option Int) (n : Nat) : (sliceBounds lo hi none n).1 = ((HT.sIx n 0 lo : Nat) : Int) ∧ (sliceBounds lo hi none n).2.1 = ((HT.sIx n n hi : Nat) : Int) ∧ (sliceBounds lo hi none n).2.2 = 1 := by
  refine ⟨?_, ?_, rfl⟩
  · cases lo with
    | none => simp [sliceBounds, HT.sIx]
    | some i =>
      simp only [sliceBounds, HT.sIx, Option.getD_none, show (1 : Int) > 0 by decide, if_true]
      by_cases h : i < 0
      · simp only [h, if_true] <;> omega
      · simp only [h, if_false] <;> omega
  · cases hi with
    | none => simp [sliceBounds, HT.sIx]
    | some i =>
      simp only [sliceBounds, HT.sIx, Option.getD_none, show (1 : Int) > 0 by decide, if_true]
      by_cases h : i < 0
      · simp only [h, if_true] <;> omega
      · simp only [h, if_false] <;> omega
theorem slicePick_cut (its : List Value) (lo hi : Option Int) : slicePick its.toArray lo hi none = ((its.drop (HT.sIx its.length 0 lo)).take (HT.sIx its.length its.length hi - HT.sIx its.length 0 lo)).toArray := by
  obtain ⟨h1, h2, h3⟩ := slice_bounds lo hi its.toArray.size
  unfold slicePick
  rw [h1, h2, h3]
  simp only [sliceRange_one, pick_run, List.size_toArray] <;> rfl
/-- xs[lo:hi] of a list: a new list -/
def rSlL (K : PySem.W.Frag) : V → Option Int → Option Int → Hp → VK → Prop := fun x lo hi H Q => ∃ a xs, x = .ref a ∧ SqL K H a xs ∧ ∀ p, H p = none → Q (.ref p) (upd H p (.lst (cutV xs lo hi)))
theorem sl_list : SlR X (rSlL X.K) := by
  intro pins s σ H x v vl vu lo hi sl Q I rx hs pl pu h
  obtain ⟨a, xs, rfl, hx, q⟩ := h
  cases rx
  obtain ⟨its, r, ht, hz⟩ := I.list hx
  have hlen := r.length
  refine ⟨"list", _, slot_list_getitem.lookup, ht.isList.typeIs, ?_⟩
  refine wpAny_getItem_list_slice ht.isList hs pl pu .none (by simp) ?_ (by rw [List.size_toArray] <;> omega)
  rw [slicePick_cut, ← hlen]
  refine ⟨.ref s.heap.objs.size, _, I.laid (t' := s.toks) (o := .lst (cutV xs lo hi)) (fun b ob q => Heap.get?_push_of_some _ q) (Nat.le_refl _) ?_, rfl, q _ (I.hok.fresh (Nat.le_refl _))⟩
  exact ⟨Nat.le_trans (cutV_length xs lo hi) hz, _, 0, (r.drop (HT.sIx xs.length 0 lo)).take (HT.sIx xs.length xs.length hi - HT.sIx xs.length 0 lo), Heap.get?_push_size _ rfl⟩

/-! ### in, not in: flat items -/
def flatV : V → Bool
  | .non => true
  | .bl _ => true
  | .int _ => true
  | .str _ => true
  | _ => false
/-- == of flat values -/
def eqV : V → V → Bool
  | .non, .non => true
  | .bl a, .bl b => a == b
  | .bl a, .int b => (if a then 1 else 0) == b
  | .int a, .bl b => a == (if b then 1 else 0)
  | .int a, .int b => a == b
  | .str a, .str b => a == b
  | _, _ => false
theorem eqAt_V {A : Around} {s : Shared} {y x : V} {u v : Value} (ry : RelV y u) (rx : RelV x v) (fy : flatV y = true) (fx : flatV x = true) : SeqAt.EqAt A s u v (eqV y x) := by
  cases y with
  | non =>
    cases ry
    cases x with
    | non => cases rx; exact SeqAt.EqAt.same _
    | bl b => cases rx; exact SeqAt.EqAt.none_bool b
    | int b => obtain ⟨t, rfl⟩ := rx; exact SeqAt.EqAt.none_int b t
    | str b => obtain ⟨t, rfl⟩ := rx; exact SeqAt.EqAt.none_str b t
    | _ => exact absurd (show false = true from fx) Bool.false_ne_true
  | bl a =>
    cases ry
    cases x with
    | non => cases rx; exact SeqAt.EqAt.bool_none a
    | bl b => cases rx; exact SeqAt.EqAt.bool_bool a b
    | int b => obtain ⟨t, rfl⟩ := rx; exact SeqAt.EqAt.bool_int a b t
    | str b => obtain ⟨t, rfl⟩ := rx; exact SeqAt.EqAt.bool_str a b t
    | _ => exact absurd (show false = true from fx) Bool.false_ne_true
  | int a =>
    obtain ⟨t', rfl⟩ := ry
    cases x with
    | non => cases rx; exact SeqAt.EqAt.int_none a t'
    | bl b => cases rx; exact SeqAt.EqAt.int_bool a t' b
    | int b => obtain ⟨t, rfl⟩ := rx; exact SeqAt.EqAt.int_int a t' b t
    | str b => obtain ⟨t, rfl⟩ := rx; exact SeqAt.EqAt.int_str a t' b t
    | _ => exact absurd (show false = true from fx) Bool.false_ne_true
  | str a =>
    obtain ⟨t', rfl⟩ := ry
    cases x with
    | non => cases rx; exact SeqAt.EqAt.str_none a t'
    | bl b => cases rx; exact SeqAt.EqAt.str_bool a t' b
    | int b => obtain ⟨t, rfl⟩ := rx; exact SeqAt.EqAt.str_int a t' b t
    | str b => obtain ⟨t, rfl⟩ := rx; exact SeqAt.EqAt.str_str a t' b t
    | _ => exact absurd (show false = true from fx) Bool.false_ne_true
  | _ => exact absurd (show false = true from fy) Bool.false_ne_true
/-- the items' answers, read off the values (a value's own answer does not lean on its token) -/
def eqU (x : V) (u : Value) : Bool := match u with
  | .none => eqV .non x
  | .bool b => eqV (.bl b) x
  | .int i _ => eqV (.int i) x
  | .str z _ => eqV (.str z) x
  | _ => false
theorem eqU_of {x y : V} {u : Value} (r : RelV y u) (f : flatV y = true) : eqU x u = eqV y x := by
  cases y with
  | non => cases r; rfl
  | bl b => cases r; rfl
  | int i => obtain ⟨t, rfl⟩ := r; rfl
  | str z => obtain ⟨t, rfl⟩ := r; rfl
  | _ => exact absurd (show false = true from f) Bool.false_ne_true
theorem any_eqU {x : V} : ∀ {xs : List V} {us : List Value}, Vals xs us → xs.all flatV = true → us.any (eqU x) = xs.any fun y => eqV y x
  | _, _, .nil, _ => rfl
  | y :: xs, u :: us, .cons r t, f => by
    rw [List.all_cons, Bool.and_eq_true] at f
    rw [List.any_cons, List.any_cons, eqU_of r f.1, any_eqU t f.2]
theorem mem_eqAt {A : Around} {s : Shared} {x : V} {v : Value} (rx : RelV x v) (fx : flatV x = true) : ∀ {xs : List V} {us : List Value}, Vals xs us → xs.all flatV = true → ∀ u ∈ us, SeqAt.EqAt A s u v (eqU x u)
  | _, _, .nil, _ => fun u hu => by cases hu
  | y :: xs, u :: us, .cons r t, f => fun u' hu => by
    rw [List.all_cons, Bool.and_eq_true] at f
    rcases List.mem_cons.mp hu with rfl | hu
    · rw [eqU_of r f.1]; exact eqAt_V r rx f.1 fx
    · exact mem_eqAt rx fx t f.2 u' hu
def inV (x : V) (xs : List V) : Bool := xs.any fun y => eqV y x
/-- x in a list or tuple of flat items -/
def rIn (K : PySem.W.Frag) (neg : Bool) : R2 := fun x y H Q => ∃ p xs, y = .ref p ∧ (SqL K H p xs ∨ SqT K H p xs) ∧ flatV x = true ∧ xs.all flatV = true ∧ Q (.bl (if neg then !inV x xs else inV x xs)) H
theorem op_in_seq : OpR X (compareOp .In) (rIn X.K false) := by
  intro pins s σ H x y v u Q I rx ry h
  obtain ⟨p, xs, rfl, hq, fx, fs, q⟩ := h
  cases ry
  rcases hq with hq | hq
  · obtain ⟨its, r, pl, hz⟩ := I.list hq
    refine SeqAt.in_listAt (eqU x) pl.isList (fun w hw => mem_eqAt rx fx r fs w (by simpa using hw)) ⟨.bl _, H, I, rfl, ?_⟩
    rw [show its.toArray.any (eqU x) = its.any (eqU x) by simp, any_eqU r fs]
    exact q
  · obtain ⟨its, r, pl, hz⟩ := I.tuple hq
    refine SeqAt.in_tupleAt (eqU x) pl (fun w hw => mem_eqAt rx fx r fs w (by simpa using hw)) ⟨.bl _, H, I, rfl, ?_⟩
    rw [show its.toArray.any (eqU x) = its.any (eqU x) by simp, any_eqU r fs]
    exact q
theorem op_notIn_seq : OpR X (compareOp .NotIn) (rIn X.K true) := by
  intro pins s σ H x y v u Q I rx ry h
  obtain ⟨p, xs, rfl, hq, fx, fs, q⟩ := h
  cases ry
  rcases hq with hq | hq
  · obtain ⟨its, r, pl, hz⟩ := I.list hq
    refine SeqAt.notIn_listAt (eqU x) pl.isList (fun w hw => mem_eqAt rx fx r fs w (by simpa using hw)) ⟨.bl _, H, I, rfl, ?_⟩
    rw [show its.toArray.any (eqU x) = its.any (eqU x) by simp, any_eqU r fs]
    exact q
  · obtain ⟨its, r, pl, hz⟩ := I.tuple hq
    refine SeqAt.notIn_tupleAt (eqU x) pl (fun w hw => mem_eqAt rx fx r fs w (by simpa using hw)) ⟨.bl _, H, I, rfl, ?_⟩
    rw [show its.toArray.any (eqU x) = its.any (eqU x) by simp, any_eqU r fs]
    exact q
/-! ### len, list(x), tuple(x) of any list or tuple that is read -/
theorem call_len_seq : CallR X (.builtin "len") (fun xs H Q => ∃ p ys, xs = [.ref p] ∧ (SqL X.K H p ys ∨ SqT X.K H p ys) ∧ Q (.int ys.length) H) := by
  intro pins s σ H xs us Q I r h
  obtain ⟨p, ys, rfl, hq, q⟩ := h
  obtain ⟨u, rfl, rx⟩ := vals1 r
  cases rx
  have hn := line63
  rcases hq with hq | hq
  · obtain ⟨its, r', pl, hz⟩ := I.list hq
    have hlen := r'.length
    exact Calls.call_len_list pl.isList (by simp only [List.size_toArray] <;> omega) ⟨.int ys.length, H, I.tok _, ⟨s.toks + 1, by rw [List.size_toArray, hlen]⟩, q⟩
  · obtain ⟨its, r', pl, hz⟩ := I.tuple hq
    have hlen := r'.length
    exact len_tuple pl (by simp only [List.size_toArray] <;> omega) ⟨.int ys.length, H, I.tok _, ⟨s.toks + 1, by rw [List.size_toArray, hlen]⟩, q⟩
theorem call_len_str : CallR X (.builtin "len") (fun xs H Q => ∃ z, xs = [.str z] ∧ z.length ≤ sizeLine ∧ Q (.int z.length) H) := by
  intro pins s σ H xs us Q I r h
  obtain ⟨z, rfl, hz, q⟩ := h
  obtain ⟨u, rfl, t, rfl⟩ := vals1 r
  have hn := line63
  exact len_str (by omega) ⟨.int z.length, H, I.tok _, ⟨_, rfl⟩, q⟩
/-! ### the call of a builtin's method: o.m(..) -/
/-- the value is of that builtin type -/
def tyV (K : PySem.W.Frag) (T : String) (x : V) (H : Hp) : Prop := match x with
  | .str _ => T = "str"
  | .int _ => T = "int"
  | .ref p => (T = "list" ∧ ∃ xs, SqL K H p xs) ∨ (T = "tuple" ∧ ∃ o, K.lookup p = some o ∧ o.cls = .type "tuple" ∧ o.dict = none) ∨
      (T = "dict" ∧ ((∃ kvs, H p = some (.dK kvs)) ∨ ∃ kvs, H p = some (.dT kvs))) ∨ (T = "set" ∧ ∃ S n, H p = some (.set S n))
  | _ => False
theorem tyV_is {pins : List (Addr × Obj)} {σ : St} {H : Hp} {s : Shared} {T : String} {x : V} {v : Value} (I : Inv X pins σ H s) (r : RelV x v) (ty : tyV X.K T x H) :
    s.TypeIs v T ∧ ∀ a, v = .ref a → ∃ ob, s.heap.get? a = some ob ∧ ob.dict = none := by
  cases x with
  | str z =>
    obtain ⟨t, rfl⟩ := r
    cases (show T = "str" from ty)
    exact ⟨typeIs_str s z t, fun _ e => nomatch e⟩
  | int i =>
    obtain ⟨t, rfl⟩ := r
    cases (show T = "int" from ty)
    exact ⟨typeIs_int s i t, fun _ e => nomatch e⟩
  | ref p =>
    cases r
    rcases ty with ⟨rfl, xs, hq⟩ | ⟨rfl, o, hk, hc, hd⟩ | ⟨rfl, hk⟩ | ⟨rfl, S, n, hk⟩
    · obtain ⟨its, _, pl, _⟩ := I.list hq
      refine ⟨pl.isList.typeIs, fun a e => ?_⟩
      cases e
      obtain ⟨o, n, e, c, hd, _⟩ := pl
      exact ⟨o, e, hd⟩
    · refine ⟨⟨o, I.kIn p o hk, hc⟩, fun a e => ?_⟩
      cases e
      exact ⟨o, I.kIn _ o hk, hd⟩
    · have z : ∃ o, s.heap.get? p = some o ∧ o.ExactDict := by
        rcases hk with ⟨kvs, hk⟩ | ⟨kvs, hk⟩
        · obtain ⟨_, _, _, _, o, _, _, e, ex, _⟩ := I.hok p _ hk
          exact ⟨o, e, ex⟩
        · obtain ⟨_, _, _, _, o, _, _, e, ex, _⟩ := I.hok p _ hk
          exact ⟨o, e, ex⟩
      obtain ⟨o, e, ex⟩ := z
      refine ⟨⟨o, e, ex.1⟩, fun a e2 => ?_⟩
      cases e2
      exact ⟨o, e, ex.2.1⟩
    · obtain ⟨o, _, _, _, e, ex, _⟩ := I.hok p _ hk
      refine ⟨⟨o, e, ex.1⟩, fun a e2 => ?_⟩
      cases e2
      exact ⟨o, e, ex.2.1⟩
  | _ => exact False.elim ty
def tBM0 (K : PySem.W.Frag) (T : String) (r : V → List V → Hp → VK → Prop) (to : TE) : TE := fun σ H Q => to σ H fun x H1 => tyV K T x H1 ∧ r x [] H1 Q
def tBM (K : PySem.W.Frag) (T : String) (r : V → List V → Hp → VK → Prop) (to : TE) (t : TA) : TE := fun σ H Q => to σ H fun x H1 => tyV K T x H1 ∧ t σ H1 fun xs H2 => r x xs H2 Q
variable {o e : Expr} {es : List Expr} {to : TE} {t : TA} {name : Str} {apos cpos : Pos} {T id : String} {r : V → List V → Hp → VK → Prop}
theorem pe_bm0 (pa : PlainAttrs T) (slot : Slot T name id) (hty : typeOf (.builtin id) = pure (.type "method_descriptor")) (hm : MtR X id r) (ho : PE X o to)
    (hbase : attributeBase o name X.env (eval o X.env) = eval o X.env := by rfl) (hline : (apos.endLine == cpos.line) = true := by rfl) : PE X (.Call (.Attribute o name apos) [] [] cpos) (tBM0 X.K T r to) := by
  intro pins s σ H Q I h
  refine wpAny_Call_method0_late hbase hline (thn (ho pins s σ H _ I h) fun v s1 ⟨x, H1, I1, r1, ty, q1⟩ => ?_)
  obtain ⟨h1, h2⟩ := tyV_is I1 r1 ty
  exact ⟨T, id, pa, slot, hty, h1, h2, Calls.callWith_builtin rfl (PySem.evalArgs_none (hm pins s1 σ H1 x [] v [] Q I1 r1 .nil q1))⟩
theorem pe_bm (pa : PlainAttrs T) (slot : Slot T name id) (hty : typeOf (.builtin id) = pure (.type "method_descriptor")) (hm : MtR X id r) (ho : PE X o to) (ha : PA X (e :: es) t)
    (hbase : attributeBase o name X.env (eval o X.env) = eval o X.env := by rfl)
    (hfew : ((backTo cpos (starEach (e :: es) X.env)).all (fun x => !x.1) && (backToKw cpos (keywordEach [] X.env)).all (fun x => x.1.isSome)
      && decide ((e :: es).length + ([] : List Keyword).length + (if ([] : List Keyword).isEmpty then 0 else 1) < 30)) = true := by rfl)
    (hline : (apos.endLine == cpos.line) = true := by rfl) (hs : starEach (e :: es) X.env = (false, eval e X.env) :: starEach es X.env := by rfl) (hplain : (backTo cpos (starEach es X.env)).any (·.1) = false := by rfl) :
    PE X (.Call (.Attribute o name apos) (e :: es) [] cpos) (tBM X.K T r to t) := by
  intro pins s σ H Q I h
  refine wpAny_Call_method_late hbase hfew hline rfl (thn (ho pins s σ H _ I h) fun v s1 ⟨x, H1, I1, r1, ty, q1⟩ => ?_)
  obtain ⟨h1, h2⟩ := tyV_is I1 r1 ty
  refine ⟨T, id, pa, slot, hty, h1, h2, ?_⟩
  have hA := ha cpos pins s1 σ H1 _ I1 q1
  rw [hs] at hA ⊢
  refine Calls.callWith_builtin (by show (false || (backTo cpos (starEach es X.env)).any (·.1)) = false; rw [hplain] <;> rfl) (Calls.evalArgs_plain ?_)
  exact thn hA fun us s2 ⟨vs, H2, I2, r2, q2⟩ => hm pins s2 σ H2 x vs v us Q I2 r1 r2 q2
end
end L2

namespace L2
open PySem PySem.Spec PyProof.Rows

def MtM (X : Cx) (id : String) (r : V → List V → Hp → VK → Prop) : Prop :=
  ∀ (pins : List (Addr × Obj)) (s : Shared) (σ : St) (H : Hp) (x : V) (xs : List V) (v : Value) (us : List Value) (Q : VK), Inv X pins σ H s → RelV x v → Vals xs us → r x xs H Q →
    wpAny (model X.prog X.w) X.A (call (.builtin id) (v :: us)) (EP X pins σ Q) X.xe s

/-! ### lists of values -/
theorem Vals.one : ∀ {x : V} {us : List Value}, Vals [x] us → ∃ u, us = [u] ∧ RelV x u
  | _, _, .cons r .nil => ⟨_, rfl, r⟩
theorem Vals.zero : ∀ {us : List Value}, Vals [] us → us = []
  | _, .nil => rfl
theorem Vals.eraseIdx : ∀ {xs : List V} {us : List Value} (i : Nat), Vals xs us → Vals (xs.eraseIdx i) (us.eraseIdx i)
  | _, _, _, .nil => .nil
  | _, _, 0, .cons _ t => t
  | _, _, i + 1, .cons r t => .cons r (Vals.eraseIdx i t)
theorem len_erase {α : Type} : ∀ (l : List α) (i : Nat), (l.eraseIdx i).length ≤ l.length
  | [], _ => Nat.le_refl _
  | _ :: _, 0 => Nat.le_succ _
  | _ :: r, i + 1 => Nat.succ_le_succ (len_erase r i)
section
variable {X : Cx} {pins : List (Addr × Obj)} {σ : St} {H : Hp} {s : Shared} {l b : Addr} {xs ys zs : List V}

/-! ### the two steps: a tracked list is rewritten, a new list is laid -/
theorem Inv.lset {its its' : List Value} {n : Nat} {f : Array Value → Array Value} {t' : Nat} (I : Inv X pins σ H s) (hH : H l = some (.lst xs))
    (e : s.heap.get? l = some { cls := .type "list", data := .seq its.toArray n }) (hf : f its.toArray = its'.toArray) (hv : Vals ys its') (hz : ys.length ≤ sizeLine) :
    Inv X pins σ (upd H l (.lst ys)) { s with heap := s.heap.update l (Obj.mapSeq f), toks := t' } := by
  have q := PySem.IsL.update e f
  rw [hf] at q
  refine I.write (x := l) (e := l) (by rw [hH]; exact trivial) (.inl rfl) (fun b' u hb hu => (Heap.get?_update_other s.heap (Obj.mapSeq f) (Ne.symm hb)).trans hu) ⟨_, q⟩ ?_
  exact ⟨hz, its', _, hv, q⟩
theorem Inv.lnew {its : List Value} {t' : Nat} (I : Inv X pins σ H s) (hv : Vals ys its) (hz : ys.length ≤ sizeLine) :
    Inv X pins σ (upd H s.heap.objs.size (.lst ys)) { s with heap := s.heap.push { cls := .type "list", data := .seq its.toArray }, toks := t' } :=
  I.laid (fun _ _ q => Heap.get?_push_of_some _ q) (Nat.le_refl _) ⟨hz, its, 0, hv, Heap.get?_push_size _ rfl⟩
theorem Inv.fresh (I : Inv X pins σ H s) : H s.heap.objs.size = none := I.hok.fresh (Nat.le_refl _)
theorem Inv.lstM (I : Inv X pins σ H s) (hH : H l = some (.lst xs)) : xs.length ≤ sizeLine ∧ ∃ (its : List Value) (n : Nat), Vals xs its ∧ xs.length = its.length ∧ s.heap.get? l = some { cls := .type "list", data := .seq its.toArray n } := by
  obtain ⟨z, its, n, r, e⟩ := I.hok l _ hH
  exact ⟨z, its, n, r, r.length, e⟩

end

section
variable {X : Cx}

/-! ### methods -/
def rAppend : V → List V → Hp → VK → Prop := fun x vs H Q => ∃ l xs y, x = .ref l ∧ vs = [y] ∧ H l = some (.lst xs) ∧ xs.length < sizeLine ∧ Q .non (upd H l (.lst (xs ++ [y])))
theorem mt_append : MtM X "list.append" rAppend := by
  intro pins s σ H x vs v us Q I rx rv h
  obtain ⟨l, xs, y, rfl, rfl, hH, hz, q⟩ := h
  cases rx
  obtain ⟨u, rfl, ru⟩ := rv.one
  obtain ⟨z, its, n, r, hl, e⟩ := I.lstM hH
  refine call_meets F.slot_list_append ⟨_, e, rfl⟩ F.entry_list_append (F.args_list_append_2 _ _) (PySem.list_append l its.toArray n u (by rw [List.size_toArray]; omega)) ⟨e, ?_⟩
  refine ⟨.non, _, I.lset (its' := its ++ [u]) hH e (by simp) (r.append (.cons ru .nil)) ?_, rfl, q⟩
  rw [List.length_append, List.length_singleton]
  omega

def rPopAt : V → List V → Hp → VK → Prop := fun x vs H Q => ∃ l xs i k y, x = .ref l ∧ vs = [.int i] ∧ H l = some (.lst xs) ∧ -(2 ^ 63) ≤ i ∧ i < 2 ^ 63 ∧ seqIndex? i xs.length = some k ∧ xs[k]? = some y ∧ Q y (upd H l (.lst (xs.eraseIdx k)))
theorem mt_popAt : MtM X "list.pop" rPopAt := by
  intro pins s σ H x vs v us Q I rx rv h
  obtain ⟨l, xs, i, k, y, rfl, rfl, hH, h1, h2, hk, hy, q⟩ := h
  cases rx
  obtain ⟨u, rfl, ru⟩ := rv.one
  obtain ⟨t, rfl⟩ := ru
  obtain ⟨z, its, n, r, hl, e⟩ := I.lstM hH
  obtain ⟨w, hw, rw'⟩ := r.get hy
  refine call_meets F.slot_list_pop ⟨_, e, rfl⟩ F.entry_list_pop (F.args_list_pop_2 _ _)
    (MeetsSeq.list_pop_at l its.toArray n i t k w (fitsIndex_both h1 h2) (by rw [List.size_toArray, ← hl]; exact hk) (by rw [← Array.getElem?_toList]; exact hw) (by rw [List.size_toArray]; omega)) ⟨e, ?_⟩
  refine ⟨y, _, I.lset (its' := its.eraseIdx k) hH e ?_ (r.eraseIdx k) ?_, rw', q⟩
  · show its.toArray.eraseIdxIfInBounds k = (its.eraseIdx k).toArray
    rw [List.eraseIdxIfInBounds_toArray]
  · have := len_erase xs k
    omega

def rClear : V → List V → Hp → VK → Prop := fun x vs H Q => ∃ l xs, x = .ref l ∧ vs = [] ∧ H l = some (.lst xs) ∧ Q .non (upd H l (.lst []))
theorem mt_clear : MtM X "list.clear" rClear := by
  intro pins s σ H x vs v us Q I rx rv h
  obtain ⟨l, xs, rfl, rfl, hH, q⟩ := h
  cases rx
  have hus := rv.zero
  subst hus
  obtain ⟨z, its, n, r, hl, e⟩ := I.lstM hH
  refine call_meets F.slot_list_clear ⟨_, e, rfl⟩ F.entry_list_clear (F.args_list_clear_1 _) (AutoSeq1.list_clear_list_0 l its.toArray n (by rw [List.size_toArray]; omega)) ⟨e, ?_⟩
  exact ⟨.non, _, I.lset (its' := []) (ys := []) hH e rfl .nil (Nat.zero_le _), rfl, q⟩

/-! ### list + list, list += list, list * int -/
def rCat : R2 := fun x y H Q => ∃ l b xs zs, x = .ref l ∧ y = .ref b ∧ H l = some (.lst xs) ∧ H b = some (.lst zs) ∧ xs.length + zs.length ≤ sizeLine ∧ ∀ p, H p = none → Q (.ref p) (upd H p (.lst (xs ++ zs)))
theorem op_cat : OpR X (binaryOp .Add) rCat := by
  intro pins s σ H x y v u Q I rx ry h
  obtain ⟨l, b, xs, zs, rfl, rfl, hH, hB, hz, q⟩ := h
  cases rx
  cases ry
  obtain ⟨z, its, n, r, hl, e⟩ := I.lstM hH
  obtain ⟨z2, its2, n2, r2, hl2, e2⟩ := I.lstM hB
  refine PySem.P.add_list e e2 ?_ (by rw [List.size_toArray, List.size_toArray]; omega)
  have ea : its.toArray ++ its2.toArray = (its ++ its2).toArray := by simp
  rw [ea]
  exact ⟨.ref _, _, I.lnew (t' := s.toks) (r.append r2) (by rw [List.length_append]; omega), rfl, q _ I.fresh⟩
/-! ### del xs[i] -/
end

/-! ### xs[a:b] = ys -/
section
variable {prog : Program} {w : World} {A : Around} {E : Value → Shared → Prop} {s : Shared}
set_option maxRecDepth 100000 in
end

section
variable {X : Cx}
end
end L2

namespace Att
open PySem PySem.W PySem.Calls PyProof.Rows

/-! ### the script -/
theorem ints_of_wellAll {P : Params} {h : Heap} : ∀ (ns : List Int) (vs : List Value), WellAll P h vs (ns.map WData.int) → IntsAre vs ns := by
  intro ns
  induction ns with
  | nil =>
    intro vs w
    rw [List.map_nil] at w
    cases w
    exact .nil
  | cons n ns ih =>
    intro vs w
    rw [List.map_cons] at w
    cases w with
    | cons a b =>
      cases a
      exact .cons _ _ (ih _ b)

theorem script_of {l : OpenLaw} {n : Nat} (hn : l.most = some n) {P : Params} {h : Heap} {args : List WData} {vals : List Value}
    (hpre : l.row.toRowW.claim.pre args = true) (hwl : WellAll P h vals args) :
    ∃ a vs ns, vals = [Value.ref a] ∧ args = [WData.list (ns.map WData.int)] ∧ h.get? a = some { cls := .type "list", data := .seq vs.toArray } ∧ IntsAre vs ns ∧ ns.length ≤ n := by
  have hsh : WShape.hasAll [] args [.list .int] = true := (pre_splitW hpre).1
  have hc : l.pre.holds [] { args := args } = true := (pre_splitW hpre).2
  obtain ⟨d, r, rfl, h1, h2⟩ := hasAllW_cons hsh
  obtain rfl := hasAllW_nil h2
  obtain ⟨xs, rfl, h3⟩ := hasW_list h1
  obtain ⟨ns, rfl⟩ := items_int h3
  have hlen : ns.length ≤ n := by
    unfold OpenLaw.pre at hc
    have h4 : (WTm.not (.lt (.lit (.int (n : Int))) (.len (.arg 0)))).holds [] { args := [.list (ns.map .int)] } = true := by
      have h4 := (holds_andW hc).1
      rw [hn] at h4
      exact h4
    have h5 := condW_of h4 (w_not (w_lt w_lit (w_len_list (w_arg rfl))))
    rw [List.length_map] at h5
    refine Nat.le_of_not_lt fun q => ?_
    have q' : (n : Int) < ((ns.length : Nat) : Int) := by omega
    first
      | (rw [decide_eq_true q'] at h5; exact absurd h5 (by decide))
      | (simp at h5; omega)
  cases hwl with
  | cons w1 w2 =>
    cases w2
    cases w1 with
    | list ho hall => exact ⟨_, _, ns, rfl, rfl, ho, ints_of_wellAll ns _ hall, hlen⟩

theorem post_true (l : OpenLaw) (args : List WData) : l.row.toRowW.claim.post args (.bool true) args = true :=
  postW_of (r := l.row.toRowW) (X := (true == true))
    (show WShape.has [] (.bool true) .bool = true by first | rfl | decide | simp [WShape.has, WShape.arms, WShape.armsAll])
    (show (WTm.eq .res (.lit (.bool true))).value [] { args := args, res := some (.bool true), after := args } = some (.bool (true == true)) from w_eq_bool (w_res rfl) w_lit) rfl

/-! ### the attachment: holds_open's last premise (the goal 'hc' behind k_head) from a wpAny of the law's body -/
/-- the same from a codeAny of the CALL (for a layer whose function contracts speak of calls) -/
theorem attach_call {l : OpenLaw} {n : Nat} {q : Program} {loose : List Str} {XP : (Str → Option Value) → Heap → Prop} {YP : World → Heap → Prop} {d : DefRec}
    (hn : l.most = some n) (hdf : d.params.defaults = [])
    (call : ∀ (w : World) (s₀ s₁ : Shared) (mg mb : Str → Option Value) (fa : Addr) (o : Obj) (pm cd doc : Value) (a : Addr) (vs : List Value) (ns : List Int),
      Ground q loose [] XP w s₀ mg mb s₁.heap → YP w s₁.heap →
      s₁.heap.get? fa = some o → o.data = .func (docDef d.name d.params d.body d.scope pm cd doc) → s₁.heap.CodeRec cd d.name → mg d.name = some (.ref fa) →
      s₁.heap.get? a = some { cls := .type "list", data := .seq vs.toArray } → IntsAre vs ns → ns.length ≤ n → s₁.gens = #[] →
      codeAny (model l.prog w) callerA (.call (.ref fa) ⟨[.ref a], []⟩) (fun r s' => r = .ok (.ret (.bool true)) ∧ OldK s₁.heap s'.heap ∧ s'.os = s₁.os ∧ AllBare s'.gens) s₁) :
    WalkO q loose XP YP l.row.toRowW d [] (fun f vs => PySem.call f vs) := by
  intro w s₀ s₁ mg mb G Y fa o pm cd doc dV kV ho hd hcd hD hmg hg args vals as hpre hlay hrd hwl hlo
  obtain rfl : dV = .none := Dflts.none hD hdf
  obtain rfl : kV = .none := Dflts.noKw hD
  obtain ⟨a, vs, ns, rfl, rfl, hobj, hints, hlen⟩ := script_of hn hpre hwl
  refine enter_call (codeAny_mono (call w s₀ s₁ mg mb fa o pm cd doc a vs ns G Y ho (fd_plain hd) hcd hmg hobj hints hlen hg) fun r s' hq => ?_)
  obtain ⟨rfl, h2, h3, h4⟩ := hq
  exact ⟨.inl ⟨.bool true, .bool true, [], rfl, fun _ => rfl, .bool true, post_true l _, fun _ => ⟨List.Pairwise.nil, fun _ hm => (nomatch hm)⟩⟩, h2, h3, h4⟩

/-! ### rules over ANY heap (no ledger) from facts about the written part K: the library's own take a ledger (News) for what they write -/
section
variable {prog : Program} {w : World} {A : Around} {E : Value → Shared → Prop} {s : Shared} {K : Frag}

/-! the whole heap as the ledger: makes every rule that writes through a ledger a rule over any heap -/
end
end Att

namespace L2
open PySem PySem.Spec PyProof.Rows

theorem vals_ints : ∀ {vs : List Value} {ns : List Int}, IntsAre vs ns → Vals (ns.map V.int) vs
  | _, _, .nil => .nil
  | _, _, .cons n t h => .cons ⟨t, rfl⟩ (vals_ints h)

/-- nothing is tracked but the script, known to the object (or it is an object of the module) -/
def Only (H : Hp) : Prop := ∀ b, H b = none ∨ ∃ o xs, H b = some (.frz o (.lst xs))

/-- THE HEAD: the law's promise, at the heap behind the top. F, the promise of the law's def, may use that base is part of the heap (so K.In base, base.Ns mainGlobals mg stand in Mod) -/
theorem law_call {P : Program} {w : World} {K : PySem.W.Frag} {mg mb : Str → Option Value} {CX : CXT} {k : Nat} {fa a : Addr} {fd : FuncData} {x : Str} {sp : Sp} {s₁ : Shared} {vs : List Value} {ns : List Int}
    (KX : K.In s₁.heap) (hns : s₁.heap.Ns mainGlobals mg) (hb : s₁.heap.Ns builtinsNs mb) (hbb : ∀ x : Str, x ≠ "__name__" → mb x = bootBuiltins x) (hlim : s₁.heap.NoLimit) (hg : s₁.gens = #[])
    (ha : s₁.heap.get? a = some { cls := .type "list", data := .seq vs.toArray }) (hi : IntsAre vs ns) (hl : ns.length ≤ sizeLine) (hr : Room k callerA)
    (F : ∀ base : Heap, K.In base → base.Ns mainGlobals mg → FnOk P w K mg base CX k fa fd [x] sp) (hbind : ∀ (s : Shared) (u : Value), BindsTo s fd ⟨[u], []⟩ [(x, u)])
    (hsp : ∀ H : Hp, Only H → SqL K H a (ns.map V.int) → sp [.ref a] H (fun v _ => v = .bl true) fun _ _ _ => False)
    (hCX : ∀ H e s', CX [] H s₁ (fun _ _ _ => False) e s' → False) :
    codeAny (model P w) callerA (.call (.ref fa) ⟨[.ref a], []⟩) (fun r s' => r = .ok (.ret (.bool true)) ∧ OldK s₁.heap s'.heap ∧ s'.os = s₁.os ∧ AllBare s'.gens) s₁ := by
  have rv := vals_ints hi
  have lenV := hi.length
  -- from an abstract heap in which nothing but the script may be tracked
  have core : ∀ H : Hp, Only H → SqL K H a (ns.map V.int) → HOk P w H s₁.heap → (∀ b, H b ≠ none → b = a) → (H a ≠ none → K.lookup a = none) →
      codeAny (model P w) callerA (.call (.ref fa) ⟨[.ref a], []⟩) (fun r s' => r = .ok (.ret (.bool true)) ∧ OldK s₁.heap s'.heap ∧ s'.os = s₁.os ∧ AllBare s'.gens) s₁ := by
    intro H hO hS hok hA hK
    have base_of : ∀ {b : Addr} {o : Obj}, s₁.heap.get? b = some o → H b = none → (hidT s₁.heap H).get? b = some o := fun e n => hidT_get e n
    have noA : ∀ {b : Addr} {o : Obj} {es : Array DictEntry} {ep : Nat}, s₁.heap.get? b = some o → o.data = .dict es ep → H b = none := fun {b o es ep} e d => by
      cases q : H b with
      | none => rfl
      | some u =>
        have e' : b = a := hA b (by rw [q]; simp)
        subst e'
        rw [ha] at e; cases e
        have d' : Data.seq vs.toArray _ = Data.dict es ep := d
        cases d'
    have nsK : ∀ {b : Addr} {m : Str → Option Value}, s₁.heap.Ns b m → (hidT s₁.heap H).Ns b m := fun {b m} ⟨o, es, ep, e, d, r⟩ => ⟨o, es, ep, base_of e (noA e d), d, r⟩
    have hKb : K.In (hidT s₁.heap H) := fun b o e => base_of (KX b o e) (by
      cases q : H b with
      | none => rfl
      | some u =>
        have e' : b = a := hA b (by rw [q]; simp)
        subst e'
        rw [hK (by rw [q]; simp)] at e; cases e)
    have hM : Mod K mg (hidT s₁.heap H) := ⟨hKb, nsK hns, ⟨mb, nsK hb, hbb⟩, let ⟨mc, h1, h2⟩ := hlim; ⟨mc, nsK h1, h2⟩⟩
    have e0 : Env0 P w K mg (hidT s₁.heap H) callerA [] s₁ H := ⟨rfl, hM, fun b o e => of_hidT e, Nat.le_of_eq (hidT_size _ _), trivial, fun b hb => absurd (show b ∈ ([] : List Addr) from hb) (by simp), hok, .of_eq hg⟩
    refine codeAny_mono ((F _ hKb (nsK hns)).run callerA [] s₁ H ⟨[.ref a], []⟩ [.ref a] [.ref a] _ _ hr e0 (hbind s₁ (.ref a)) (.cons rfl .nil) (hsp H hO hS)) fun r s' h => ?_
    cases r with
    | error e => exact (hCX H e s' h).elim
    | ok fl =>
      cases fl with
      | next => exact False.elim h
      | brk => exact False.elim h
      | cont => exact False.elim h
      | ret u =>
        obtain ⟨v, H', os, bare, un, hok', r', q⟩ := h
        have q' : v = .bl true := q
        subst q'
        obtain rfl : u = Value.bool true := r'
        refine ⟨rfl, OldK.of_keep fun b o e => ?_, os, bare⟩
        cases q : H b with
        | none => exact un.keep b o e q (by intro z; exact absurd (show b ∈ ([] : List Addr) from z) (by simp)) (by simp)
        | some u =>
          rcases hO b with z | ⟨ob, xs, z⟩
          · rw [q] at z; cases z
          · have z2 := un.frzs b ob _ z
            obtain ⟨e1, _⟩ := hok b _ z
            obtain ⟨e2, _⟩ := hok' b _ z2
            rw [e] at e1; cases e1
            exact e2
  cases hk : K.lookup a with
  | some o =>
    -- the script is one of the module's own objects
    have e := KX a o hk
    rw [ha] at e
    cases e
    refine core (fun _ => none) (fun _ => .inl rfl) (.inr ⟨_, vs.toArray, _, hk, rfl, rfl, rfl, by rw [List.size_toArray, lenV]; exact hl, by simpa using rv⟩) (fun b u z => by have z' : (none : Option HO) = some u := z; cases z') (fun b z => absurd rfl z) fun z => absurd rfl z
  | none =>
    refine core (fun b => if b = a then some (.frz { cls := .type "list", data := .seq vs.toArray } (.lst (ns.map V.int))) else none) (fun b => ?_) (.inl (.inr ⟨{ cls := .type "list", data := .seq vs.toArray }, if_pos rfl⟩)) (fun b u z => ?_) (fun b z => ?_) fun _ => hk
    · by_cases hb : b = a
      · exact .inr ⟨_, _, if_pos hb⟩
      · exact .inl (if_neg hb)
    · by_cases hb : b = a
      · have z' := (if_pos hb).symm.trans z
        cases z'
        subst hb
        exact ⟨ha, by rw [List.length_map]; exact hl, vs, _, rv, ha⟩
      · have z' := (if_neg hb).symm.trans z
        cases z'
    · by_cases hb : b = a
      · exact hb
      · exact absurd (if_neg hb) z
end L2

namespace L2
open PySem PySem.Spec PyProof.Rows

/-- the goal that k_head leaves (case hc), from the law's promise. F gives the function object fd (K's own) once, then the promise over every base -/
theorem walk_of {l : PySem.W.OpenLaw} {n k : Nat} {q : Program} {loose : List Str} {XP : (Str → Option Value) → Heap → Prop} {YP : World → Heap → Prop} {d : DefRec} {K : Params → PySem.W.Frag} {CX : World → CXT} {sp : World → Sp} {x : Str}
    (hn : l.most = some n) (hn2 : n ≤ sizeLine) (hdf : d.params.defaults = []) (hr : Room k callerA)
    (hY : ∀ (w : World) (h : Heap), YP w h → (K w.params).In h)
    (F : ∀ (w : World) (mg : Str → Option Value) (fa : Addr) (h : Heap), (K w.params).In h → h.Ns mainGlobals mg → mg d.name = some (.ref fa) →
      ∃ fd : FuncData, (∀ (s : Shared) (u : Value), BindsTo s fd ⟨[u], []⟩ [(x, u)]) ∧
        ∀ base : Heap, (K w.params).In base → base.Ns mainGlobals mg → FnOk l.prog w (K w.params) mg base (CX w) k fa fd [x] (sp w))
    (hsp : ∀ (w : World) (H : Hp) (a : Addr) (ns : List Int), ns.length ≤ n → Only H → SqL (K w.params) H a (ns.map V.int) → sp w [.ref a] H (fun v _ => v = .bl true) fun _ _ _ => False)
    (hCX : ∀ (w : World) (H : Hp) (s : Shared) (e : Value) (s' : Shared), CX w [] H s (fun _ _ _ => False) e s' → False) :
    PySem.W.WalkO q loose XP YP l.row.toRowW d [] (fun f vs => PySem.call f vs) := by
  refine Att.attach_call hn hdf fun w s₀ s₁ mg mb fa o pm cd doc a vs ns G Y ho hd hcd hmg hobj hints hlen hg => ?_
  have KX := hY w _ Y
  obtain ⟨fd, hb, hF⟩ := F w mg fa _ KX G.T.g hmg
  exact law_call KX G.T.g G.T.b G.T.builtins G.T.nolimit hg hobj hints (Nat.le_trans hlen hn2) hr hF hb (fun H hO hS => hsp w H a ns hlen hO hS) fun H e s' => hCX w H s₁ e s'
end L2


/-! SHORT WORDS over the layer: a def of the text, its body, what a loop and a test want. -/
namespace L2
open PySem PySem.Spec PyProof.Rows

/-! ### the text by places -/
/-- the j-th statement of a class's body -/
def inClass (s : Stmt) (j : Nat) : Stmt := match s with
  | .ClassDef _ _ _ body _ _ _ _ _ _ _ => body.getD j (.Pass ⟨0, 0, 0, 0⟩)
  | _ => .Pass ⟨0, 0, 0, 0⟩
def defArgs (s : Stmt) : Arguments := match s with
  | .FunctionDef _ a _ _ _ _ _ _ _ _ => a
  | _ => { posonlyargs := [], args := [], vararg := none, kwonlyargs := [], kw_defaults := [], kwarg := none, defaults := [] }
def defBody (s : Stmt) : List Stmt := match s with
  | .FunctionDef _ _ b _ _ _ _ _ _ _ => b
  | _ => []
def defScope (s : Stmt) : Scope := match s with
  | .FunctionDef _ _ _ _ _ _ sc _ _ _ => sc
  | _ => { kind := .function, names := [], isGenerator := false, isCoroutine := false }

/-! ### no exception leaves a def -/
abbrev CX0 : CXT := fun _ _ _ _ _ _ => False
abbrev E0 : XK := fun _ _ _ => False
theorem pass0 {X : Cx} : Passes CX0 X E0 := fun _ _ _ _ _ _ _ h => h.elim

/-! ### a def (or method) of the text as it stands behind the top -/
structure Fun (K : PySem.W.Frag) (x qual : Str) (st : Stmt) (f : Addr) (fd : FuncData) : Prop where
  ex : ∃ (oc : Value) (od : Option Addr) (kV doc pm : Value) (an : Option Addr) (cdv ct : Value) (osl : Array (Option Value)),
    fd = PySem.W.fnOf x qual (defArgs st) (defBody st) (defScope st) .none kV doc pm an cdv ct ∧ K.lookup f = some ⟨oc, od, .func fd, osl⟩ ∧ PySem.W.codeIn K cdv qual = true
  kp : PySem.W.keepIn K (.ref f) = true
section
variable {P : Program} {w : World} {K : PySem.W.Frag} {mg : Str → Option Value} {base : Heap}
/-- THE RULE for a def: its body as a term of rules, and the reading of that term -/
theorem Fun.ok {x qual : Str} {st : Stmt} {f : Addr} {fd : FuncData} {N ps : List Str} {k : Nat} {sp : Sp} (F : Fun K x qual st f fd) (S : FnScope N ps (defScope st)) (len : ∀ vs H Q E, sp vs H Q E → vs.length = ps.length)
    (hbody : ∀ (cdv : Value) (A : Around) (outer : List Env) (s : Shared) (H : Hp) (vs : List V) (Q : VK) (E : XK), Room k (A.deeper (envOfC qual (defScope st) s.heap.objs.size f cdv)) → sp vs H Q E →
      ∃ t, PSs (cxOf CX0 P w K mg base N qual (defScope st) f cdv A outer s H E).nox (defBody st) t ∧ t { nx := fun _ H' => Q .non H', rt := Q } (start N vs) H) : FnOk P w K mg base CX0 (k + 1) f fd ps sp := by
  obtain ⟨oc, od, kV, doc, pm, an, cdv, ct, osl, rfl, lk, hcd⟩ := F.ex
  refine fn_of lk hcd S len fun A outer s H vs Q E hr hsp => ?_
  obtain ⟨t, h, q⟩ := hbody cdv A outer s H vs Q E hr hsp
  exact ⟨t, h.nox, q⟩
/-- how its arguments bind (no defaults): h is «fun _ _ _ _ _ _ us hl => match us, hl with | [_, _], _ => rfl», one _ a parameter -/
theorem Fun.binds {x qual : Str} {st : Stmt} {f : Addr} {fd : FuncData} {ps : List Str} (F : Fun K x qual st f fd)
    (h : ∀ (kV doc pm : Value) (an : Option Addr) (cdv ct : Value) (us : List Value), us.length = ps.length → bindArgs (PySem.W.fnOf x qual (defArgs st) (defBody st) (defScope st) .none kV doc pm an cdv ct) ⟨us, []⟩ = pure (ps.zip us)) : Binds K fd ps [] := by
  obtain ⟨oc, od, kV, doc, pm, an, cdv, ct, osl, rfl, lk, hcd⟩ := F.ex
  exact .all (h kV doc pm an cdv ct)
theorem fun_mk {x qual : Str} {st : Stmt} {f : Addr} {oc : Value} {od an : Option Addr} {osl : Array (Option Value)} {kV doc pm cdv ct : Value} (l : K.lookup f = some ⟨oc, od, .func (PySem.W.fnOf x qual (defArgs st) (defBody st) (defScope st) .none kV doc pm an cdv ct), osl⟩)
    (c : PySem.W.codeIn K cdv qual = true) (k : PySem.W.keepIn K (.ref f) = true) : Fun K x qual st f (PySem.W.fnOf x qual (defArgs st) (defBody st) (defScope st) .none kV doc pm an cdv ct) := ⟨⟨oc, od, kV, doc, pm, an, cdv, ct, osl, rfl, l, c⟩, k⟩
end
theorem hu_of {A : Around} {k : Nat} (hr : Room k A) : A.units + 1 < cLine := Nat.lt_of_le_of_lt (Nat.add_le_add_left (by decide : 1 ≤ 64) _) hr.units
theorem small1000 {n : Nat} (h : n ≤ 1000) : n < sizeLine := Nat.lt_of_le_of_lt h (by decide)

/-! ### expressions in short: the name that stands in the i-th slot -/
section
variable {X : Cx}
theorem pv (i : Nat) {x : Str} {pos : Pos} (hN : X.N[i]? = some x := by rfl) (hv : Vis X.env.scope x := by first | exact Or.inl rfl | exact Or.inr (Or.inl rfl) | exact Or.inr (Or.inr rfl)) (hd : (x == ("__debug__" : Str)) = false := by decide)
    (hcd : (x == ("__classdict__" : Str)) = false := by decide) : PE X (.Name x pos) (tVar i) := pe_var hN hv hd hcd
/-- len of a dict -/
theorem call_lenD : CallR X (.builtin "len") (fun xs H Q => ∃ a kvs, xs = [V.ref a] ∧ H a = some (.dK kvs) ∧ Q (.int kvs.length) H) := by
  intro pins s σ H xs us Q I r h
  obtain ⟨a, kvs, rfl, ha, q⟩ := h
  obtain ⟨u, rfl, ru⟩ := vals1 r
  cases ru
  exact d_len I (.inl ha) fun t s' I' => ⟨.int kvs.length, H, I', ⟨t, rfl⟩, q⟩
end

/-! ### tests -/
theorem iteF {A B : Prop} (h : B) : if false = true then A else B := by
  rw [if_neg Bool.false_ne_true]
  exact h
theorem iteT {A B : Prop} (h : A) : if true = true then A else B := by
  rw [if_pos rfl]
  exact h
theorem ite2 {c A B : Prop} [Decidable c] (h1 : c → A) (h2 : ¬ c → B) : if c then A else B := by
  by_cases h : c
  · rw [if_pos h]
    exact h1 h
  · rw [if_neg h]
    exact h2 h
/-! ### heaps -/
/-- all that was tracked is as it was -/
def Same (H H' : Hp) : Prop := ∀ b o, H b = some o → H' b = some o
theorem Same.refl (H : Hp) : Same H H := fun _ _ h => h
theorem Same.trans {H H1 H2 : Hp} (a : Same H H1) (b : Same H1 H2) : Same H H2 := fun c o h => b c o (a c o h)
theorem Same.free {H H' : Hp} (e : Same H H') {l : Addr} (h : H' l = Option.none) : H l = Option.none := by
  cases q : H l with
  | none => rfl
  | some o =>
    rw [e l o q] at h
    cases h
theorem Same.seq {K : PySem.W.Frag} {H H' : Hp} {a : Addr} {xs : List V} (e : Same H H') (h : SqL K H a xs) : SqL K H' a xs := by
  rcases h with (h | ⟨o, h⟩) | h
  · exact .inl (.inl (e _ _ h))
  · exact .inl (.inr ⟨o, e _ _ h⟩)
  · exact .inr h

/-! ### a dict's pairs: keys that differ -/
section
variable {κ : Type} [DecidableEq κ]
theorem valV_not {kvs : List (κ × V)} {k : κ} (h : valV kvs k = none) : ¬ k ∈ kvs.map (·.1) := by
  intro m
  obtain ⟨p, hp, e⟩ := List.mem_map.mp m
  have q : (kvs.any fun kv => decide (kv.1 = k)) = true := List.any_eq_true.mpr ⟨p, hp, decide_eq_true e⟩
  rw [valV_any, h] at q
  exact absurd q (by simp)
theorem valV_in {kvs : List (κ × V)} {k : κ} {v : V} (h : valV kvs k = some v) : k ∈ kvs.map (·.1) := by
  have q : (kvs.any fun kv => decide (kv.1 = k)) = true := by
    rw [valV_any, h]
    all_goals rfl
  obtain ⟨p, hp, e⟩ := List.any_eq_true.mp q
  exact List.mem_map.mpr ⟨p, hp, of_decide_eq_true e⟩
theorem nd_snoc : ∀ {l : List κ} {k : κ}, l.Nodup → ¬ k ∈ l → (l ++ [k]).Nodup
  | [], k, _, _ => by simp
  | a :: r, k, h, hk => by
    obtain ⟨h1, h2⟩ := List.nodup_cons.mp h
    show (a :: (r ++ [k])).Nodup
    refine List.nodup_cons.mpr ⟨fun m => ?_, nd_snoc h2 fun m => hk (List.mem_cons.mpr (Or.inr m))⟩
    rcases List.mem_append.mp m with q | q
    · exact h1 q
    · exact hk (List.mem_cons.mpr (Or.inl (List.mem_singleton.mp q).symm))
end
end L2

set_option maxHeartbeats 4000000

/-! OWN RULES over the hand layer: comprehensions, texts, dicts as lists, data compared, isinstance. -/
namespace L2
open PySem PySem.Spec PyProof.Rows

/-! ### a comprehension: the turn with the step ahead of the store kept -/
section
variable {prog : Program} {w : World} {A : Around} {R : Result → Shared → Prop} {s : Shared}
theorem compLoop_go {elt target iter : Expr} {ifs : List Expr} {scope : Scope} {pos : Pos} {it acc : Value} {env : Env} (I : Nat → Shared → Prop)
    (turn : ∀ n s, I n s → wpAny (model prog w) A (pyNext it) (fun r s₁ => match r with
      | none => R (.ok .next) s₁
      | some v => wpAny (model prog w) A (letOwnedTupleGo target it v) (fun _ s₀ => wpAny (model prog w) A (assign target env v) (fun _ s₂ =>
          wpAny (model prog w) A (forIn ifs true fun c r => if r = true then do let ok ← isTrue c env (eval c env); pure (ForInStep.yield ok) else pure (ForInStep.yield r)) (fun ok s₃ =>
            if ok = true then wpAny (model prog w) A (eval elt env) (fun x s₄ =>
              wpAny (model prog w) A (call (.builtin "list.append") [acc, x]) (fun _ s₅ => ∃ m, m < n ∧ I m s₅) (fun _ _ => False) s₄) (fun _ _ => False) s₃
            else ∃ m, m < n ∧ I m s₃) (fun _ _ => False) s₂) (fun _ _ => False) s₀) (fun _ _ => False) s₁) (fun _ _ => False) s)
    (n : Nat) (h : I n s) :
    codeAny (model prog w) A (.compLoop (.ListComp elt [⟨target, iter, ifs, 0⟩] scope pos) 0 it acc env) R s := by
  refine codeAny_loop rfl I (fun n s hI => ?_) n h
  show wpAny _ A ((compTurn (.ListComp elt [⟨target, iter, ifs, 0⟩] scope pos) 0 it acc env).onRaise (fun x => do noteFrame x env; theTreesLotGoes x)) _ _ s
  refine wpAny_noted ?_
  rw [compTurn_list]
  refine wpAny_bind (wpAny_standAt (wpAny_bind (wpAny_mono (turn n s hI) (fun r s₁ h₁ => ?_) fun _ _ h' => h'.elim)))
  cases r with
  | none => exact wpAny_pure h₁
  | some v =>
    refine wpAny_bind (wpAny_mono h₁ (fun _ s₀ h₀ => ?_) fun _ _ h' => h'.elim)
    refine wpAny_bind (wpAny_mono h₀ (fun _ s₂ h₂ => wpAny_bind (wpAny_mono h₂ (fun ok s₃ h₃ => ?_) fun _ _ h' => h'.elim)) fun _ _ h' => h'.elim)
    cases ok with
    | false => exact wpAny_pure ⟨rfl, h₃⟩
    | true =>
      exact wpAny_bind (wpAny_bind (wpAny_mono h₃ (fun x s₄ h₄ => wpAny_bind (wpAny_mono h₄ (fun _ s₅ h₅ => wpAny_pure (wpAny_pure ⟨rfl, h₅⟩)) fun _ _ h' => h'.elim)) fun _ _ h' => h'.elim))
end

/-! ### the cells that a comprehension's block takes along -/
theorem closure_ok {scope : Scope} {env : Env} (hf : ∀ y ∈ scope.names, y.2 = .free → ∃ c, env.cells.lookup y.1 = some c) :
    ∃ cl, closureFor scope env = pure cl ∧ (∀ x c, cl.lookup x = some c → env.cells.lookup x = some c) ∧ (∀ y ∈ scope.names, y.2 = .free → ∃ c, cl.lookup y.1 = some c) := by
  have key : ∀ (l : List (Str × NameKind)) (acc : List (Str × Addr)), (∀ y ∈ l, y.2 = .free → ∃ c, env.cells.lookup y.1 = some c) → (∀ x c, acc.lookup x = some c → env.cells.lookup x = some c) →
      ∃ cl, (forIn (m := Sem) l acc (fun (y : Str × NameKind) cs => if (y.2 == .free) = true then do let c ← cellOf env y.1; pure (ForInStep.yield ((y.1, c) :: cs)) else pure (ForInStep.yield cs))) = pure cl ∧
        (∀ x c, cl.lookup x = some c → env.cells.lookup x = some c) ∧ (∀ x, (∃ c, acc.lookup x = some c) → ∃ c, cl.lookup x = some c) ∧ (∀ y ∈ l, y.2 = .free → ∃ c, cl.lookup y.1 = some c) := by
    intro l
    induction l with
    | nil => intro acc _ ha; exact ⟨acc, rfl, ha, fun _ h => h, fun _ h => nomatch h⟩
    | cons p r ih =>
      intro acc hl ha
      obtain ⟨n, k⟩ := p
      by_cases hk : k = .free
      · subst hk
        obtain ⟨c, hc⟩ := hl (n, .free) List.mem_cons_self rfl
        have ha' : ∀ x d, ((n, c) :: acc).lookup x = some d → env.cells.lookup x = some d := fun x d e => by
          rw [List.lookup_cons] at e
          cases hx : x == n with
          | true =>
            rw [hx] at e
            rw [eq_of_beq hx, hc]
            exact e
          | false =>
            rw [hx] at e
            exact ha x d e
        obtain ⟨cl, e1, e2, e3, e4⟩ := ih ((n, c) :: acc) (fun y hy => hl y (List.mem_cons_of_mem _ hy)) ha'
        refine ⟨cl, ?_, e2, fun x ⟨d, e⟩ => e3 x ?_, fun y hy hf => ?_⟩
        · rw [List.forIn_cons]
          simp only [beq_self_eq_true, if_true, cellOf, hc, pure_bind]
          exact e1
        · rw [List.lookup_cons]
          cases hx : x == n with
          | true => exact ⟨c, rfl⟩
          | false => exact ⟨d, e⟩
        · rcases List.mem_cons.mp hy with rfl | hy
          · exact e3 _ ⟨c, by simp⟩
          · exact e4 y hy hf
      · have hb : (k == NameKind.free) = false := by simpa using hk
        obtain ⟨cl, e1, e2, e3, e4⟩ := ih acc (fun y hy => hl y (List.mem_cons_of_mem _ hy)) ha
        refine ⟨cl, ?_, e2, e3, fun y hy hf => ?_⟩
        · rw [List.forIn_cons]
          simp only [hb, Bool.false_eq_true, if_false, pure_bind]
          exact e1
        · rcases List.mem_cons.mp hy with rfl | hy
          · exact absurd hf hk
          · exact e4 y hy hf
  obtain ⟨cl, e1, e2, _, e4⟩ := key scope.names [] hf (fun _ _ h => by simp at h)
  refine ⟨cl, ?_, e2, e4⟩
  unfold closureFor
  show (forIn scope.names [] _ >>= fun r => pure r) = pure cl
  rw [bind_pure]
  exact e1

/-- the kinds behind relabel -/
theorem relabel_kind {scope : Scope} {env : Env} {x : Str} : ∀ {names : List (Str × NameKind)},
    ((names.map fun (n, k) => if (k == NameKind.free && env.scope.kind == .function && env.kindOf n == some .cell) then (n, NameKind.cell) else (n, k)).lookup x = some .cell ∨
     (names.map fun (n, k) => if (k == NameKind.free && env.scope.kind == .function && env.kindOf n == some .cell) then (n, NameKind.cell) else (n, k)).lookup x = some .free) →
    (∃ y ∈ names, y.1 = x ∧ (y.2 = .free ∨ y.2 = .cell))
  | [], h => by rcases h with h | h <;> simp at h
  | (n, k) :: r, h => by
    by_cases hx : x = n
    · subst hx
      refine ⟨(x, k), List.mem_cons_self, rfl, ?_⟩
      by_cases hc : (k == NameKind.free && env.scope.kind == .function && env.kindOf x == some .cell) = true
      · have := (Bool.and_eq_true_iff.mp (Bool.and_eq_true_iff.mp hc).1).1
        exact .inl (by simpa using this)
      · simp only [List.map_cons, hc, Bool.false_eq_true, if_false, List.lookup_cons, beq_self_eq_true] at h
        rcases h with h | h
        · exact .inr (Option.some.inj h)
        · exact .inl (Option.some.inj h)
    · have hb : (x == n) = false := by simpa using hx
      have h' : ((r.map fun (n, k) => if (k == NameKind.free && env.scope.kind == .function && env.kindOf n == some .cell) then (n, NameKind.cell) else (n, k)).lookup x = some .cell ∨
        (r.map fun (n, k) => if (k == NameKind.free && env.scope.kind == .function && env.kindOf n == some .cell) then (n, NameKind.cell) else (n, k)).lookup x = some .free) := by
        rw [List.map_cons] at h
        by_cases hc : (k == NameKind.free && env.scope.kind == .function && env.kindOf n == some .cell) = true
        · simp only [hc, if_true, List.lookup_cons, hb] at h; exact h
        · simp only [hc, Bool.false_eq_true, if_false, List.lookup_cons, hb] at h; exact h
      obtain ⟨y, hy, e⟩ := relabel_kind (scope := scope) h'
      exact ⟨y, List.mem_cons_of_mem _ hy, e⟩

/-! ### the block -/
def capOf (σ : St) (js : List Nat) : St := js.map fun j => (σ[j]?).getD none
/-- the context of a comprehension's block: s the state when its frame is made -/
def cxComp (X : Cx) (N : List Str) (scope : Scope) (cl : List (Str × Addr)) (s : Shared) (H : Hp) (ex : List Addr) : Cx :=
  { X with N := N, s₀ := s, H₀ := H, env := compEnvC scope cl s.heap.objs.size X.env, outer := X.stack, stack := X.stack, ex := ex, fn := fun _ => false, pn := [], xe := fun _ _ => False }

/-- tests of a comprehension -/
def PTs (X : Cx) (ifs : List Expr) (t : TT) : Prop :=
  ∀ (pins : List (Addr × Obj)) (s : Shared) (σ : St) (H : Hp) (Q : Bool → Hp → Prop), Inv X pins σ H s → t σ H Q →
    wpAny (model X.prog X.w) X.A (forIn ifs true fun c r => if r = true then do let ok ← isTrue c X.env (eval c X.env); pure (ForInStep.yield ok) else pure (ForInStep.yield r)) (TP X pins σ Q) X.xe s
def tNoTest : TT := fun _ H Q => Q true H
theorem pts_nil {X : Cx} : PTs X [] tNoTest := fun _ _ _ H _ I h => wpAny_pure ⟨H, I, h⟩
theorem pts_one {X : Cx} {c : Expr} {t : TT} (h : PT X c t) : PTs X [c] t := fun pins s σ H Q I q => wpAny_tests_one (h pins s σ H Q I q)

/-- what is asked of a comprehension's scope (N: its names by place, xs of them the targets', the rest taken along from the places js) -/
def compOk (N₀ : List Str) (sc₀ scope : Scope) (N : List Str) (xs : Nat) (js : List Nat) : Bool :=
  scope.kind == .function && (scope.names.all fun y => y.2 != .cell) && (scope.names.all fun y => y.2 != .local || scope.names.lookup y.1 == some .local) &&
  (scope.names.all fun y => y.2 != .free || (sc₀.names.lookup y.1 == some .cell || sc₀.names.lookup y.1 == some .free)) && N.length == xs + js.length &&
  (List.range js.length).all fun i => match js[i]?, N[xs + i]? with
    | some j, some x => N₀[j]? == some x && scope.names.lookup x == some .free
    | _, _ => false
structure CompScope (X : Cx) (scope : Scope) (N : List Str) (xs : Nat) (js : List Nat) : Prop where
  kind : scope.kind = .function
  nocell : ∀ y ∈ scope.names, y.2 ≠ .cell
  once : ∀ y ∈ scope.names, y.2 = .local → scope.names.lookup y.1 = some .local
  caught : ∀ y ∈ scope.names, y.2 = .free → X.env.kindOf y.1 = some .cell ∨ X.env.kindOf y.1 = some .free
  len : N.length = xs + js.length
  at_ : ∀ (i j : Nat) (x : Str), js[i]? = some j → N[xs + i]? = some x → X.N[j]? = some x ∧ scope.names.lookup x = some .free
theorem compScope_of {X : Cx} {scope : Scope} {N : List Str} {xs : Nat} {js : List Nat} (h : compOk X.N X.env.scope scope N xs js = true) : CompScope X scope N xs js := by
  unfold compOk at h
  simp only [Bool.and_eq_true] at h
  obtain ⟨⟨⟨⟨⟨h1, h2⟩, h3⟩, h4⟩, h5⟩, h6⟩ := h
  refine ⟨by simpa using h1, fun y hy => ?_, fun y hy e => ?_, fun y hy e => ?_, by simpa using h5, fun i j x e1 e2 => ?_⟩
  · have := List.all_eq_true.mp h2 y hy
    simpa using this
  · have := List.all_eq_true.mp h3 y hy
    rw [e] at this
    simpa using this
  · have := List.all_eq_true.mp h4 y hy
    rw [e] at this
    simpa [Env.kindOf] using this
  · have hi : i < js.length := (List.getElem?_eq_some_iff.mp e1).1
    have := List.all_eq_true.mp h6 i (List.mem_range.mpr hi)
    rw [e1, e2] at this
    simpa using this

theorem lookup_mem {α : Type} {x : Str} {k : α} : ∀ {l : List (Str × α)}, l.lookup x = some k → (x, k) ∈ l
  | [], h => by simp at h
  | (n, j) :: r, h => by
    rw [List.lookup_cons] at h
    cases hx : x == n with
    | true =>
      rw [hx] at h
      cases h
      rw [eq_of_beq hx]
      exact List.mem_cons_self
    | false =>
      rw [hx] at h
      exact List.mem_cons_of_mem _ (lookup_mem h)
theorem relabel_free {env : Env} {x : Str} : ∀ {names : List (Str × NameKind)}, names.lookup x = some .free →
    ((names.map fun (n, k) => if (k == NameKind.free && env.scope.kind == .function && env.kindOf n == some .cell) then (n, NameKind.cell) else (n, k)).lookup x = some .cell ∨
     (names.map fun (n, k) => if (k == NameKind.free && env.scope.kind == .function && env.kindOf n == some .cell) then (n, NameKind.cell) else (n, k)).lookup x = some .free)
  | [], h => by simp at h
  | (n, k) :: r, h => by
    rw [List.map_cons]
    cases hx : x == n with
    | true =>
      rw [List.lookup_cons, hx] at h
      cases h
      by_cases hc : (NameKind.free == NameKind.free && env.scope.kind == .function && env.kindOf n == some .cell) = true
      · left; simp only [hc, if_true, List.lookup_cons, hx]
      · right; simp only [hc, Bool.false_eq_true, if_false, List.lookup_cons, hx]
    | false =>
      rw [List.lookup_cons, hx] at h
      have ih := relabel_free (env := env) h
      by_cases hc : (k == NameKind.free && env.scope.kind == .function && env.kindOf n == some .cell) = true
      · simp only [hc, if_true, List.lookup_cons, hx]; exact ih
      · simp only [hc, Bool.false_eq_true, if_false, List.lookup_cons, hx]; exact ih

section
variable {X : Cx} {pins : List (Addr × Obj)} {σ : St} {H : Hp} {s : Shared} {scope : Scope} {N : List Str} {xs : Nat} {js : List Nat} {cl : List (Str × Addr)} {fp : List Addr} {o : Obj}
theorem Inv.nostk (I : Inv X pins σ H s) {a : Addr} (h : s.heap.objs.size ≤ a) : a ∉ frs X.stack := fun hb => by
  rcases List.mem_cons.mp (I.stkSub a hb) with e | hb
  · exact absurd (Nat.lt_of_lt_of_le I.lt h) (by rw [e]; exact Nat.lt_irrefl _)
  · exact I.nofs h hb

theorem comp_ok (I : Inv X pins σ H s) (S : CompScope X scope N xs js) (h2 : ∀ x c, cl.lookup x = some c → X.env.cells.lookup x = some c) (h4 : ∀ y ∈ scope.names, y.2 = .free → ∃ c, cl.lookup y.1 = some c)
    (hf : ∀ b ∈ fp, FpOk X pins H b) (hfo : ∀ b ∈ fp, ∃ u, s.heap.get? b = some u) :
    (cxComp X N scope cl { s with heap := s.heap.push o } H (s.heap.objs.size :: fp)).Ok := by
  have I3 : Inv X pins σ H { s with heap := s.heap.push o } := I.kept (t' := s.toks) fun b u e => Heap.get?_push_of_some _ e
  have hsz : (s.heap.push o).objs.size = s.heap.objs.size + 1 := Heap.size_push ..
  have hcl : ∀ x c, cl.lookup x = some c → c < s.heap.objs.size := fun x c e => by
    obtain ⟨v, u, hu, _⟩ := I.cell x c (h2 x c e)
    exact Heap.lt_size hu
  refine ⟨I.ok.mod, S.kind, I.ok.glob, I.ok.blt, Nat.le_refl _, fun x y c e1 e2 => I.ok.inj x y c (h2 x c e1) (h2 y c e2), fun x hx => ?_, fun x c e _ => absurd e (by simp [cxComp]), I.ok.hd, I.ok.frames, .inl rfl, fun b hb => ?_, I3.bs, Nat.le_trans I3.ok.bsz I3.sz,
    fun b u e hb => ?_, fun b hb => ?_, I3.stack, I3.stkFree⟩
  · obtain ⟨y, hy, rfl, hk⟩ := relabel_kind (scope := scope) (env := X.env) (x := x) (names := scope.names) hx
    rcases hk with hk | hk
    · exact h4 y hy hk
    · exact absurd hk (S.nocell y hy)
  · show b ≠ (s.heap.push o).objs.size ∧ _
    rcases List.mem_cons.mp hb with rfl | hb
    · exact ⟨by rw [hsz]; exact Nat.ne_of_lt (Nat.lt_succ_self _), fun x c e => Nat.ne_of_lt (hcl x c e)⟩
    · obtain ⟨u, hu⟩ := hfo b hb
      have := Heap.lt_size hu
      exact ⟨by rw [hsz]; exact Nat.ne_of_lt (Nat.lt_succ_of_lt this), fun x c e => (hf b hb).2.2.2.2.1 x c (h2 x c e)⟩
  · rcases List.mem_cons.mp hb with rfl | hb
    · exact absurd (Heap.lt_size (I.bk _ u e)) (Nat.lt_irrefl _)
    · rcases (hf b hb).2.2.2.1 with z | z
      · exact I.ok.noex b u e z
      · exact absurd (Nat.lt_of_lt_of_le (Heap.lt_size e) (Nat.le_trans I.ok.bsz z)) (Nat.lt_irrefl _)
  · rcases List.mem_cons.mp hb with rfl | hb
    · exact I.nostk (Nat.le_refl _)
    · intro z
      rcases List.mem_cons.mp (I.stkSub b z) with e | e
      · exact (hf b hb).2.1 e
      · exact (hf b hb).2.2.1 e

theorem getElem_capOf {i : Nat} {v : V} (h : (List.replicate xs none ++ capOf σ js)[i]? = some (some v)) : ∃ k j, i = xs + k ∧ js[k]? = some j ∧ σ[j]? = some (some v) := by
  by_cases hi : i < xs
  · rw [List.getElem?_append_left (by simpa using hi)] at h
    rw [List.getElem?_replicate] at h
    split at h <;> cases h
  · rw [List.getElem?_append_right (by simpa using Nat.le_of_not_lt hi)] at h
    rw [List.length_replicate] at h
    unfold capOf at h
    rw [List.getElem?_map] at h
    cases e : js[i - xs]? with
    | none => rw [e] at h; cases h
    | some j =>
      rw [e] at h
      refine ⟨i - xs, j, by omega, e, ?_⟩
      have h' : (σ[j]?).getD none = some v := Option.some.inj h
      cases q : σ[j]? with
      | none => rw [q] at h'; cases h'
      | some w =>
        rw [q] at h'
        exact congrArg some h'

theorem comp_inv {h₁ : Heap} {tk : Nat} (I : Inv X pins σ H s) (S : CompScope X scope N xs js) (h2 : ∀ x c, cl.lookup x = some c → X.env.cells.lookup x = some c) (h4 : ∀ y ∈ scope.names, y.2 = .free → ∃ c, cl.lookup y.1 = some c)
    (hf : ∀ b ∈ fp, FpOk X pins H b) (hfo : ∀ b ∈ fp, ∃ u, s.heap.get? b = some u) (hd : ∀ v, o.data ≠ .cell v) (ho : o.isFreed = false) {m : Str → Option Value}
    (hns : h₁.Ns (s.heap.push o).objs.size m) (k3 : ∀ b u, (s.heap.push o).get? b = some u → h₁.get? b = some u) :
    Inv (cxComp X N scope cl { s with heap := s.heap.push o } H (s.heap.objs.size :: fp)) [(s.heap.objs.size, o)] (List.replicate xs none ++ capOf σ js) H { s with heap := h₁, toks := tk } := by
  have hsz : (s.heap.push o).objs.size = s.heap.objs.size + 1 := Heap.size_push ..
  have k2 : ∀ b u, s.heap.get? b = some u → h₁.get? b = some u := fun b u e => k3 b u (Heap.get?_push_of_some _ e)
  refine ⟨comp_ok I S h2 h4 hf hfo, rfl, I.bare, Un.kept k3, ⟨m, hns, fun i x v e1 e2 e3 => ?_⟩, fun x c e => ?_, I.hok.fresh (show s.heap.objs.size ≤ (s.heap.push o).objs.size by rw [hsz]; exact Nat.le_succ _), fun x c e => I.freeC x c (h2 x c e), fun p hp => ?_, I.hok.kept k2, ?_⟩
  · obtain ⟨k, j, rfl, hj, hσ⟩ := getElem_capOf e2
    obtain ⟨hN, hl⟩ := S.at_ k j x hj e1
    have hmem := lookup_mem hl
    have hk := S.caught _ hmem rfl
    obtain ⟨m', _, hloc⟩ := I.loc
    obtain ⟨u, r, l⟩ := hloc j x v hN hσ (by rcases hk with z | z; exact .inr (.inl z); exact .inr (.inr z))
    refine ⟨u, r, ?_⟩
    rcases l with ⟨z, _⟩ | ⟨_, c, ec, oc, hoc, hdc⟩
    · rcases hk with q | q <;> rw [q] at z <;> cases z
    · obtain ⟨c', ec'⟩ := h4 _ hmem rfl
      have := h2 _ _ ec'
      have e : c = c' := Option.some.inj (ec.symm.trans this)
      subst e
      exact .inr ⟨relabel_free (env := X.env) hl, c, ec', oc, k2 _ _ hoc, hdc⟩
  · obtain ⟨v, oc, hoc, hdc⟩ := I.cell x c (h2 x c e)
    exact ⟨v, oc, k2 _ _ hoc, hdc⟩
  · have e : p = (s.heap.objs.size, o) := by simpa [cxComp] using hp
    subst e
    exact ⟨k3 _ _ (Heap.get?_push_size _ ho), I.hok.fresh (Nat.le_refl _), (show s.heap.objs.size ≠ (s.heap.push o).objs.size by rw [hsz]; exact Nat.ne_of_lt (Nat.lt_succ_self _)), I.nostk (Nat.le_refl _), hd⟩
  · rw [List.length_append, List.length_replicate]
    unfold capOf
    rw [List.length_map]
    exact S.len.symm

/-- back in the frame around: the new list is tracked, the block's frame is not -/
theorem comp_back {s' : Shared} {H' : Hp} {σ' : St} {its : List Value} {n : Nat} {acc : List V} (I : Inv X pins σ H s) (hf : ∀ b ∈ fp, FpOk X pins H b)
    (J : Inv (cxComp X N scope cl { s with heap := s.heap.push o } H (s.heap.objs.size :: fp)) [(s.heap.objs.size, ({ cls := .type "list", data := .seq its.toArray n } : Obj))] σ' H' s')
    (rv : Vals acc its) (hz : acc.length ≤ sizeLine) :
    Inv X pins σ (upd H' s.heap.objs.size (.lst acc)) s' ∧ FpOk X pins (upd H' s.heap.objs.size (.lst acc)) (s.heap.push o).objs.size ∧ H' s.heap.objs.size = none := by
  have hsz : (s.heap.push o).objs.size = s.heap.objs.size + 1 := Heap.size_push ..
  obtain ⟨hD, hn, _, _, _⟩ := J.pin (s.heap.objs.size, ({ cls := .type "list", data := .seq its.toArray n } : Obj)) (by simp [cxComp])
  have nd : ∀ b u, H' b = some u → b ≠ s.heap.objs.size := fun b u e => ne_of_none e hn
  have lt : ∀ b u, s.heap.get? b = some u → b ∉ fp → b ∉ s.heap.objs.size :: fp := fun b u e hb z => by
    rcases List.mem_cons.mp z with z | z
    · exact absurd (Heap.lt_size e) (by rw [z]; exact Nat.lt_irrefl _)
    · exact hb z
  have ps : ∀ b u, s.heap.get? b = some u → (s.heap.push o).get? b = some u := fun b u e => Heap.get?_push_of_some _ e
  refine ⟨I.call' (ch := fp) J.os ⟨fun b u e q hb hx => J.base.keep b u (ps b u e) q hb (lt b u e hx), fun b u e q hb hx => J.base.slot b u (ps b u e) q hb (lt b u e hx), fun b u e q hx => ?_, fun b u e hx => J.base.there b u (ps b u e) (lt b u e hx),
    fun b ys e => ?_, fun b u ys e => ?_, fun b ys e => ?_⟩ (fun b u e => ?_) J.bare (fun b hb => ?_), ?_, hn⟩
  · rw [upd_ne (Nat.ne_of_lt (Heap.lt_size e))]
    exact J.base.free b u (ps b u e) q (lt b u e hx)
  · have z := J.base.tups b ys e
    rw [upd_ne (nd _ _ z)]; exact z
  · have z := J.base.frzs b u ys e
    rw [upd_ne (nd _ _ z)]; exact z
  · obtain ⟨more, z⟩ := J.base.tbls b ys e
    exact ⟨more, by rw [upd_ne (nd _ _ z)]; exact z⟩
  · by_cases hb : b = s.heap.objs.size
    · subst hb
      rw [upd_same] at e
      cases e
      exact ⟨hz, its, n, rv, hD⟩
    · rw [upd_ne hb] at e
      exact (J.hok b u e).stay (fun c v _ q => q) (fun c q => by rw [upd_ne (nd _ _ q)]; exact q) fun c ys q => by rw [upd_ne (nd _ _ q)]; exact q
  · obtain ⟨_, f1, _, f3, f4, f5⟩ := hf b hb
    exact ⟨f3, f1, f4, f5⟩
  · have I3 : Inv X pins σ H { s with heap := s.heap.push o } := I.kept (t' := s.toks) fun b u e => Heap.get?_push_of_some _ e
    refine I3.fpOk (Nat.le_refl _) ?_
    rw [upd_ne (show (s.heap.push o).objs.size ≠ s.heap.objs.size by rw [hsz]; exact Nat.succ_ne_self _)]
    exact J.free
end

/-- what a walk J asks: W by turn, measure, items so far, the block's names -/
def CompGoal (xs : Nat) (js : List Nat) (g : TG) (tt : TT) (te : TE) (σ : St) (Q : VK) (J : It) (H1 : Hp) : Prop :=
  ∃ W : Nat → Nat → List V → St → Hp → Prop, (∃ m, W 0 m [] (List.replicate xs none ++ capOf σ js) H1) ∧ ∀ i m acc σ' H, W i m acc σ' H →
    (J.stop i H ∧ ∀ p, H p = none → Q (.ref p) (upd H p (.lst acc))) ∨
    (J.go i H ∧ acc.length < sizeLine ∧ ∃ N : List V → St → Hp → Prop, (∀ acc' σ' H', N acc' σ' H' → ∃ m', m' < m ∧ W (i + 1) m' acc' σ' H') ∧ ∀ x H', J.yld i H x H' → g x σ' H' fun σ2 H2 => tt σ2 H2 fun b H3 =>
      if b = true then te σ2 H3 fun y H4 => N (acc ++ [y]) σ2 H4 else N acc σ2 H3)
/-- the reading -/
def tComp (xs : Nat) (js : List Nat) (ti : TI) (g : TG) (tt : TT) (te : TE) : TE := fun σ H Q => ti σ H fun J H1 => CompGoal xs js g tt te σ Q J H1

section
variable {X : Cx} {scope : Scope} {N : List Str} {xs : Nat} {js : List Nat} {tg iter elt : Expr} {ifs : List Expr} {pos : Pos} {ti : TI} {g : TG} {tt : TT} {te : TE}
/-- the block from the iterator on -/
theorem comp_block {pins : List (Addr × Obj)} {s : Shared} {σ : St} {H : Hp} {Q : VK} {RR : Value → Addr → Result → Shared → Prop} {E : Value → Shared → Prop} {it : Addr} {fp : List Addr} {tn : Nat → Heap → Prop} {J : It} {cl : List (Str × Addr)}
    (hc : X.calm = true) (S : CompScope X scope N xs js) (hg : ∀ cl s H ex, PG (cxComp X N scope cl s H ex) tg g) (ht : ∀ cl s H ex, PTs (cxComp X N scope cl s H ex) ifs tt) (he : ∀ cl s H ex, PE (cxComp X N scope cl s H ex) elt te)
    (h2 : ∀ x c, cl.lookup x = some c → X.env.cells.lookup x = some c) (h4 : ∀ y ∈ scope.names, y.2 = .free → ∃ c, cl.lookup y.1 = some c)
    (I : Inv X pins σ H s) (T : Turn X.prog X.w X.K tg J fp it tn) (st : tn 0 s.heap) (hf : ∀ b ∈ fp, FpOk X pins H b)
    (hW : CompGoal xs js g tt te σ Q J H)
    (hR : ∀ (D C : Addr) (H' : Hp) (s' : Shared) (m : Str → Option Value), Inv X pins σ H' s' → s'.heap.Ns C m → FpOk X pins H' C → Q (.ref D) H' → RR (.ref D) C (.ok .next) s') :
    wpAny (model X.prog X.w) X.A (newList []) (fun acc s₃ => wpAny (model X.prog X.w) X.A (newFunctionEnv scope X.env.globals cl [] X.env.qual none .none (some X.env)) (fun cenv s₄ =>
      codeAny (model X.prog X.w) X.A (.compStart (.ListComp elt [⟨tg, iter, ifs, 0⟩] scope pos) 0 (.ref it) acc { cenv with scope := relabel scope X.env }) (RR acc cenv.locals) s₄) E s₃) E s := by
  refine wpAny_newObj_type (wpAny_newFunctionEnv S.nocell (by intro y hy; simp at hy) (fun h₁ hns₁ hsb₁ => ?_) S.kind)
  dsimp only at hns₁ hsb₁ ⊢
  obtain ⟨W, ⟨m0, w0⟩, turn⟩ := hW
  have hfo : ∀ b ∈ fp, ∃ u, s.heap.get? b = some u := fun b hb => let ⟨u, hu, _⟩ := T.obj _ _ st b hb; ⟨u, hu⟩
  have hsz : (s.heap.push ({ cls := .type "list", dict := none, data := .seq ([] : List Value).toArray } : Obj)).objs.size = s.heap.objs.size + 1 := Heap.size_push ..
  have k3 : ∀ b u, (s.heap.push ({ cls := .type "list", dict := none, data := .seq ([] : List Value).toArray } : Obj)).get? b = some u → h₁.get? b = some u := fun b u e =>
    (hsb₁.2 b (Nat.ne_of_lt (Heap.lt_size e))).trans (Heap.get?_push_of_some _ e)
  have B0 := comp_inv (X := X) (N := N) (xs := xs) (js := js) (tk := s.toks + ([] : List (Str × Value)).length) I S h2 h4 hf hfo (fun v z => by cases z) rfl hns₁ k3
  generalize hXc : cxComp X N scope cl { s with heap := s.heap.push ({ cls := .type "list", dict := none, data := .seq ([] : List Value).toArray } : Obj) } H (s.heap.objs.size :: fp) = Xc at B0
  have eP : Xc.prog = X.prog := by rw [← hXc]; rfl
  have eW : Xc.w = X.w := by rw [← hXc]; rfl
  have eK : Xc.K = X.K := by rw [← hXc]; rfl
  have eA : Xc.A = X.A := by rw [← hXc]; rfl
  have eC : Xc.calm = true := by rw [← hXc]; exact hc
  have eX : Xc.xe = fun _ _ => False := by rw [← hXc]; rfl
  have eE : Xc.env = compEnvC scope cl (s.heap.push ({ cls := .type "list", dict := none, data := .seq ([] : List Value).toArray } : Obj)).objs.size X.env := by rw [← hXc]; rfl
  have eF : Xc.fs = frs X.stack := by rw [← hXc]; rfl
  have eex : Xc.ex = s.heap.objs.size :: fp := by rw [← hXc]; rfl
  have hg' : PG Xc tg g := by rw [← hXc]; exact hg _ _ _ _
  have ht' : PTs Xc ifs tt := by rw [← hXc]; exact ht _ _ _ _
  have he' : PE Xc elt te := by rw [← hXc]; exact he _ _ _ _
  have ecl : ∀ x c, Xc.env.cells.lookup x = some c → X.env.cells.lookup x = some c := by rw [eE]; exact h2
  -- what stays true of the iterator's objects
  have fpk : ∀ {H' : Hp} {ob : Obj}, (∀ b ∈ fp, H' b = none) → ∀ b ∈ fp, FpOk Xc [(s.heap.objs.size, ob)] H' b := fun {H' ob} hn b hb => by
    obtain ⟨u, hu⟩ := hfo b hb
    have hlt := Heap.lt_size hu
    obtain ⟨_, f1, f2, f3, f4, f5⟩ := hf b hb
    refine ⟨hn b hb, ?_, ?_, .inl ?_, fun x c e => f4 x c (ecl x c e), fun p hp => ?_⟩
    · rw [eE]
      show b ≠ (s.heap.push _).objs.size
      rw [hsz]; exact Nat.ne_of_lt (Nat.lt_succ_of_lt hlt)
    · rw [eF]
      intro z
      rcases List.mem_cons.mp (I.stkSub b z) with e | e
      · exact f1 e
      · exact f2 e
    · rw [eex]; exact List.mem_cons_of_mem _ hb
    · have e : p = (s.heap.objs.size, ob) := by
        rw [← hXc] at hp
        simpa [cxComp] using hp
      subst e
      show s.heap.objs.size ≠ b
      exact Nat.ne_of_gt hlt
  have loop : ∀ s₃ : Shared, s₃ = { s with heap := h₁, toks := s.toks + ([] : List (Str × Value)).length } →
      codeAny (model X.prog X.w) X.A (.compLoop (.ListComp elt [⟨tg, iter, ifs, 0⟩] scope pos) 0 (.ref it) (.ref s.heap.objs.size) (compEnvC scope cl (s.heap.push ({ cls := .type "list", dict := none, data := .seq ([] : List Value).toArray } : Obj)).objs.size X.env))
        (RR (.ref s.heap.objs.size) (s.heap.push ({ cls := .type "list", dict := none, data := .seq ([] : List Value).toArray } : Obj)).objs.size) s₃ := by
    rintro s₃ rfl
    refine compLoop_go (fun n s' => ∃ (i : Nat) (acc : List V) (its : List Value) (c : Nat) (σ' : St) (H' : Hp), Inv Xc [(s.heap.objs.size, ({ cls := .type "list", data := .seq its.toArray c } : Obj))] σ' H' s' ∧ Vals acc its ∧ tn i s'.heap ∧
      (∀ b ∈ fp, H' b = none) ∧ acc.length ≤ sizeLine ∧ W i n acc σ' H') ?_ m0 ⟨0, [], [], 0, _, H, B0, .nil, T.keep _ _ _ st fun b _ u e => k3 b u (Heap.get?_push_of_some _ e), fun b hb => (hf b hb).1, Nat.zero_le _, w0⟩
    rintro n s3 ⟨i, acc, its, c, σ3, H3, I3, rv, st3, fr3, hz, w3⟩
    rcases turn i n acc σ3 H3 w3 with ⟨stop, qn⟩ | ⟨go, hlen, NN, hNN, step⟩
    · have h := T.done Xc eP eW eK eC i _ s3 σ3 H3 (fun _ _ => False) I3 (fpk fr3) st3 stop
      rw [eA] at h
      refine thn h fun r s4 ⟨hr, I4⟩ => ?_
      subst hr
      rw [← hXc] at I4
      obtain ⟨a1, a2, a3⟩ := comp_back I hf I4 rv hz
      obtain ⟨mC, hmC, _⟩ := I4.loc
      exact hR _ _ _ _ mC a1 hmC a2 (qn _ a3)
    · have h := T.item Xc eP eW eK eC i _ s3 σ3 H3 (fun _ _ => False) I3 (fpk fr3) st3 go
      rw [eA] at h
      refine thn h fun r s4 ⟨u, hr, h4⟩ => ?_
      subst hr
      refine thn h4 fun _ s5 ⟨x, H5, I5, r5, y5, st5, fr5⟩ => ?_
      have I5' := I5.pinned (fpk fr5) (T.obj _ _ st5)
      have ha := hg' _ s5 σ3 H5 x u _ I5' r5 (step x H5 y5)
      rw [eP, eW, eA, eE, eX] at ha
      refine thn ha fun _ s6 ⟨σ6, H6, I6, q6⟩ => ?_
      have hb := ht' _ s6 σ6 H6 _ I6 q6
      rw [eP, eW, eA, eE, eX] at hb
      refine thn hb fun ok s7 ⟨H7, I7, q7⟩ => ?_
      have tn' : ∀ {σ8 : St} {H8 : Hp} {s8 : Shared}, Inv Xc ([(s.heap.objs.size, ({ cls := .type "list", data := .seq its.toArray c } : Obj))] ++ pinsAt fp s5.heap) σ8 H8 s8 → tn (i + 1) s8.heap ∧ ∀ b ∈ fp, H8 b = none := fun {σ8 H8 s8} I8 => by
        refine ⟨T.keep _ _ _ st5 fun b hb o e => (I8.pin (b, o) (List.mem_append_right _ (List.mem_append_right _ (mem_pinsAt hb e)))).1, fun b hb => ?_⟩
        obtain ⟨o, e, d⟩ := T.obj _ _ st5 b hb
        exact (I8.pin (b, o) (List.mem_append_right _ (List.mem_append_right _ (mem_pinsAt hb e)))).2.1
      cases ok with
      | false =>
        obtain ⟨m', hm, w7⟩ := hNN _ _ _ q7
        obtain ⟨t1, t2⟩ := tn' I7
        exact ⟨m', hm, i + 1, acc, its, c, σ6, H7, I7.unpinned, rv, t1, t2, hz, w7⟩
      | true =>
        have hd := he' _ s7 σ6 H7 _ I7 q7
        rw [eP, eW, eA, eE, eX] at hd
        refine thn hd fun v s8 ⟨y, H8, I8, r8, q8⟩ => ?_
        obtain ⟨m', hm, w8⟩ := hNN _ _ _ q8
        obtain ⟨t1, t2⟩ := tn' I8
        have I9 := I8.unpinned
        obtain ⟨eD, nD, nC, nF, _⟩ := I9.pin (s.heap.objs.size, ({ cls := .type "list", data := .seq its.toArray c } : Obj)) (by simp)
        have hln := rv.length
        refine call_meets F.slot_list_append ⟨_, eD, rfl⟩ F.entry_list_append (F.args_list_append_2 _ _) (PySem.list_append s.heap.objs.size its.toArray c v (by rw [List.size_toArray]; omega)) ⟨eD, ?_⟩
        obtain ⟨n9, q⟩ : ∃ n9, (s8.heap.update s.heap.objs.size (Obj.mapSeq fun a => a.push v)).get? s.heap.objs.size = some ({ cls := .type "list", data := .seq (its ++ [v]).toArray n9 } : Obj) := by
          have q := PySem.IsL.update eD (fun a => a.push v)
          have ea : its.toArray.push v = (its ++ [v]).toArray := by simp
          rw [ea] at q
          exact ⟨_, q⟩
        have I10 : Inv Xc [] σ6 H8 { s8 with heap := s8.heap.update s.heap.objs.size (Obj.mapSeq fun a => a.push v) } := by
          refine (I9.pins_of (pins' := []) fun p hp => nomatch hp).turned (it := s.heap.objs.size) (t' := s8.toks) (fun b u hb e => (Heap.get?_update_other s8.heap _ (Ne.symm hb)).trans e) nD nC (.inl (by rw [eex]; exact List.mem_cons_self)) (fun x cc e => ?_) (fun p hp => ?_)
          · obtain ⟨w0, oc, hoc, _⟩ := I.cell x cc (ecl x cc e)
            exact Nat.ne_of_lt (Heap.lt_size hoc)
          · rw [← hXc] at hp
            exact absurd hp (by simp [cxComp])
        refine ⟨m', hm, i + 1, acc ++ [y], its ++ [v], n9, σ6, H8, I10.pins_of fun p hp => ?_, rv.append (.cons r8 .nil), T.keep _ _ _ t1 fun b hb u e => ?_, t2, by rw [List.length_append, List.length_singleton]; omega, w8⟩
        · have e : p = (s.heap.objs.size, ({ cls := .type "list", data := .seq (its ++ [v]).toArray n9 } : Obj)) := by simpa using hp
          subst e
          exact ⟨q, nD, nC, nF, fun w z => by cases z⟩
        · have hb' : b ≠ s.heap.objs.size := by
            obtain ⟨z, hz'⟩ := hfo b hb
            exact Nat.ne_of_lt (Heap.lt_size hz')
          exact (Heap.get?_update_other s8.heap _ (Ne.symm hb')).trans e
  exact codeAny_compStart_list (loop _ rfl) (T.self _ 0 _ _ _ (T.keep _ _ _ st fun b _ u e => k3 b u (Heap.get?_push_of_some _ e)) (loop _ rfl))

/-- a comprehension as a value -/
theorem pe_comp (hc : X.calm = true) (S : CompScope X scope N xs js) (hi : PI X tg iter ti) (hg : ∀ cl s H ex, PG (cxComp X N scope cl s H ex) tg g) (ht : ∀ cl s H ex, PTs (cxComp X N scope cl s H ex) ifs tt)
    (he : ∀ cl s H ex, PE (cxComp X N scope cl s H ex) elt te) (hs : ∀ x, foldedSetIterable iter X.env x = pure x := by intro _; rfl) :
    PE X (.ListComp elt [⟨tg, iter, ifs, 0⟩] scope pos) (tComp xs js ti g tt te) := by
  intro pins s σ H Q I h
  obtain ⟨cl, e1, h2, h4⟩ := closure_ok (scope := scope) (env := X.env) fun y hy e => I.ok.has y.1 (S.caught y hy e)
  rw [eval_ListComp]
  refine wpAny_comprehension_free (use := none) rfl hs e1 S.kind S.once (thn (hi pins s σ H _ I h) fun v s1 h1 => thn h1 fun itv s2 h2' => ?_)
  obtain ⟨it, fp, tn, J, H2, e, I2, T, st2, f2, hW⟩ := h2'
  subst e
  refine comp_block (RR := fun acc C => compPost (model X.prog X.w) X.A X.xe none (EP X pins σ Q) acc C) hc S hg ht he h2 h4 I2 T st2 f2 hW fun D C H' s' m I' hn hC q => ?_
  obtain ⟨f0, f1, _, f3, f4, f5⟩ := hC
  exact ⟨m, hn, fun h' hs' => ⟨.ref D, H', I'.turned (it := C) (t' := s'.toks) (fun b u hb e => (hs'.2 b hb).trans e) f0 f1 f3 f4 f5, rfl, q⟩⟩

/-- name = [..], the comprehension stored ahead of its names' going -/
theorem ps_comp {j : Nat} {y : Str} {py spos : Pos} (hc : X.calm = true) (hN : X.N.Nodup) (hj : X.N[j]? = some y) (hy : X.env.scope.names.lookup y = some .local) (S : CompScope X scope N xs js) (hi : PI X tg iter ti) (hg : ∀ cl s H ex, PG (cxComp X N scope cl s H ex) tg g) (ht : ∀ cl s H ex, PTs (cxComp X N scope cl s H ex) ifs tt)
    (he : ∀ cl s H ex, PE (cxComp X N scope cl s H ex) elt te)
    (hsw : swapsWith (.ListComp elt [⟨tg, iter, ifs, 0⟩] scope pos) (some (.Name y py)) spos.line X.env = pure true)
    (hs : ∀ x, foldedSetIterable iter X.env x = pure x := by intro _; rfl) :
    PS X (.Assign [.Name y py] (.ListComp elt [⟨tg, iter, ifs, 0⟩] scope pos) spos) (tAsg (tComp xs js ti g tt te) (gName j)) := by
  intro pins s σ H D I h
  obtain ⟨cl, e1, h2, h4⟩ := closure_ok (scope := scope) (env := X.env) fun y hy e => I.ok.has y.1 (S.caught y hy e)
  rw [exec_Assign_Name_used _ _ _ _ hsw]
  refine wpAny_bind (wpAny_standAt (wpAny_bind ?_))
  show wpAny _ X.A (do let _ ← comprehension (.ListComp elt [⟨tg, iter, ifs, 0⟩] scope pos) scope X.env _ (newList []) false (eval iter X.env) (some (assign (.Name y py) X.env))) _ _ s
  refine wpAny_bind (wpAny_mono (wpAny_comprehension_free (use := some (assign (.Name y py) X.env)) (Q := fun _ s' => SP X pins D .next s') rfl hs e1 S.kind S.once
    (thn (hi pins s σ H _ I h) fun v s1 h1 => thn h1 fun itv s2 h2' => ?_)) (fun _ s' hq => wpAny_pure (wpAny_pure hq)) fun _ _ e => e)
  obtain ⟨it, fp, tn, J, H2, e, I2, T, st2, f2, hW⟩ := h2'
  subst e
  refine comp_block (Q := fun x H1 => gName j x σ H1 D.nx) (RR := fun acc C => compPost (model X.prog X.w) X.A X.xe (some (assign (.Name y py) X.env)) (fun _ s' => SP X pins D .next s') acc C) hc S hg ht he h2 h4 I2 T st2 f2 hW fun A C H' s' m I' hn hC q => ?_
  obtain ⟨f0, f1, f2', f3, f4, f5⟩ := hC
  show wpAny _ X.A (assign (.Name y py) X.env (.ref A)) _ _ _
  refine wpAny_assign_Name (store_ok2 I' hN hj (.inl hy) (show RelV (.ref A) (.ref A) from rfl) (fun s'' I'' ⟨a, sb, ha⟩ => ?_) (.inr hy))
  have hCa : C ≠ a := by
    rcases ha with e | e
    · rw [e]; exact f1
    · exact fun z => f4 y a e z.symm
  refine ⟨m, hn.sameBut sb hCa, fun h' hs' => ?_⟩
  exact ⟨_, H', I''.turned (it := C) (t' := s''.toks) (fun b u hb e => (hs'.2 b hb).trans e) f0 f1 f3 f4 f5, q⟩
end

/-! ### the forms one uses: over a list, a tuple, a range -/
section
variable {K : PySem.W.Frag} {xs : Nat} {js : List Nat} {g : TG} {tt : TT} {te : TE} {σ : St} {Q : VK} {H : Hp}
/-- any walk of n turns: Pv by turn, items so far, names -/
theorem comp_walk {J : It} {n : Nat} (Pv : Nat → List V → St → Hp → Prop) (h0 : Pv 0 [] (List.replicate xs none ++ capOf σ js) H) (hl : ∀ i acc σ' H', Pv i acc σ' H' → acc.length ≤ i) (hz : n ≤ sizeLine)
    (hgo : ∀ i acc σ' H', i < n → Pv i acc σ' H' → J.go i H') (hst : ∀ acc σ' H', Pv n acc σ' H' → J.stop n H')
    (hs : ∀ i x acc σ' H' H2, i < n → Pv i acc σ' H' → J.yld i H' x H2 → g x σ' H2 fun σ2 H2 => tt σ2 H2 fun b H3 => if b = true then te σ2 H3 fun y H4 => Pv (i + 1) (acc ++ [y]) σ2 H4 else Pv (i + 1) acc σ2 H3)
    (hd : ∀ acc σ' H', Pv n acc σ' H' → ∀ p, H' p = none → Q (.ref p) (upd H' p (.lst acc))) : CompGoal xs js g tt te σ Q J H := by
  refine ⟨fun i m acc σ' H' => m = n - i ∧ i ≤ n ∧ Pv i acc σ' H', ⟨n, by simp, Nat.zero_le _, h0⟩, ?_⟩
  rintro i m acc σ' H' ⟨rfl, hi, p⟩
  by_cases hlt : i < n
  · have := hl _ _ _ _ p
    exact .inr ⟨hgo i acc σ' H' hlt p, by omega, fun a s h => Pv (i + 1) a s h, fun a s h q => ⟨n - (i + 1), by omega, rfl, hlt, q⟩, fun x H2 y => hs i x acc σ' H' H2 hlt p y⟩
  · have e : i = n := by omega
    subst e
    exact .inl ⟨hst _ _ _ p, hd _ _ _ p⟩
/-- over a list or tuple that the block leaves as it is -/
theorem comp_list {a : Addr} {ys : List V} (Pv : Nat → List V → St → Hp → Prop) (h0 : Pv 0 [] (List.replicate xs none ++ capOf σ js) H) (hl : ∀ i acc σ' H', Pv i acc σ' H' → acc.length ≤ i) (hz : ys.length ≤ sizeLine)
    (hq : ∀ i acc σ' H', i ≤ ys.length → Pv i acc σ' H' → SqL K H' a ys)
    (hs : ∀ i x acc σ' H', ys[i]? = some x → Pv i acc σ' H' → g x σ' H' fun σ2 H2 => tt σ2 H2 fun b H3 => if b = true then te σ2 H3 fun y H4 => Pv (i + 1) (acc ++ [y]) σ2 H4 else Pv (i + 1) acc σ2 H3)
    (hd : ∀ acc σ' H', Pv ys.length acc σ' H' → ∀ p, H' p = none → Q (.ref p) (upd H' p (.lst acc))) : CompGoal xs js g tt te σ Q (Itl K a) H :=
  comp_walk Pv h0 hl hz (fun i acc σ' H' h p => ⟨ys, ys[i], hq _ _ _ _ (Nat.le_of_lt h) p, by simp [h]⟩) (fun acc σ' H' p => ⟨ys, hq _ _ _ _ (Nat.le_refl _) p, Nat.le_refl _⟩)
    (fun i x acc σ' H' H2 h p y => by
      obtain ⟨e, y⟩ := y
      subst e
      exact hs i x acc σ' _ (y ys (hq _ _ _ _ (Nat.le_of_lt h) p)) p) hd
theorem comp_tup {a : Addr} {ys : List V} (Pv : Nat → List V → St → Hp → Prop) (h0 : Pv 0 [] (List.replicate xs none ++ capOf σ js) H) (hl : ∀ i acc σ' H', Pv i acc σ' H' → acc.length ≤ i) (hz : ys.length ≤ sizeLine)
    (hq : ∀ i acc σ' H', i ≤ ys.length → Pv i acc σ' H' → SqT K H' a ys)
    (hs : ∀ i x acc σ' H', ys[i]? = some x → Pv i acc σ' H' → g x σ' H' fun σ2 H2 => tt σ2 H2 fun b H3 => if b = true then te σ2 H3 fun y H4 => Pv (i + 1) (acc ++ [y]) σ2 H4 else Pv (i + 1) acc σ2 H3)
    (hd : ∀ acc σ' H', Pv ys.length acc σ' H' → ∀ p, H' p = none → Q (.ref p) (upd H' p (.lst acc))) : CompGoal xs js g tt te σ Q (Itt K a) H :=
  comp_walk Pv h0 hl hz (fun i acc σ' H' h p => ⟨ys, ys[i], hq _ _ _ _ (Nat.le_of_lt h) p, by simp [h]⟩) (fun acc σ' H' p => ⟨ys, hq _ _ _ _ (Nat.le_refl _) p, Nat.le_refl _⟩)
    (fun i x acc σ' H' H2 h p y => by
      obtain ⟨e, y⟩ := y
      subst e
      exact hs i x acc σ' _ (y ys (hq _ _ _ _ (Nat.le_of_lt h) p)) p) hd
theorem comp_range {lo : Int} {n : Nat} (Pv : Nat → List V → St → Hp → Prop) (h0 : Pv 0 [] (List.replicate xs none ++ capOf σ js) H) (hl : ∀ i acc σ' H', Pv i acc σ' H' → acc.length ≤ i) (hz : n ≤ sizeLine)
    (hs : ∀ i acc σ' H', i < n → Pv i acc σ' H' → g (.int (lo + i)) σ' H' fun σ2 H2 => tt σ2 H2 fun b H3 => if b = true then te σ2 H3 fun y H4 => Pv (i + 1) (acc ++ [y]) σ2 H4 else Pv (i + 1) acc σ2 H3)
    (hd : ∀ acc σ' H', Pv n acc σ' H' → ∀ p, H' p = none → Q (.ref p) (upd H' p (.lst acc))) : CompGoal xs js g tt te σ Q (Itr lo n) H :=
  comp_walk Pv h0 hl hz (fun i acc σ' H' h p => h) (fun acc σ' H' p => Nat.le_refl _)
    (fun i x acc σ' H' H2 h p y => by
      obtain ⟨e, y⟩ := y
      subst e y
      exact hs i acc σ' _ h p) hd
end

/-! ### the signs of a text -/
def Its (x : Str) : It := ⟨fun i _ => i < x.cps.size, fun i H v H' => H' = H ∧ ∃ c, x.cps[i]? = some c ∧ v = .str ⟨#[c]⟩, fun i _ => i = x.cps.size⟩
def iStr (tl : TE) : TI := fun σ H R => tl σ H fun v H1 => ∃ x, v = .str x ∧ R (Its x) H1
theorem comp_str {xs : Nat} {js : List Nat} {g : TG} {tt : TT} {te : TE} {σ : St} {Q : VK} {H : Hp} {x : Str} (Pv : Nat → List V → St → Hp → Prop) (h0 : Pv 0 [] (List.replicate xs none ++ capOf σ js) H) (hl : ∀ i acc σ' H', Pv i acc σ' H' → acc.length ≤ i) (hz : x.cps.size ≤ sizeLine)
    (hs : ∀ i c acc σ' H', x.cps[i]? = some c → Pv i acc σ' H' → g (.str ⟨#[c]⟩) σ' H' fun σ2 H2 => tt σ2 H2 fun b H3 => if b = true then te σ2 H3 fun y H4 => Pv (i + 1) (acc ++ [y]) σ2 H4 else Pv (i + 1) acc σ2 H3)
    (hd : ∀ acc σ' H', Pv x.cps.size acc σ' H' → ∀ p, H' p = none → Q (.ref p) (upd H' p (.lst acc))) : CompGoal xs js g tt te σ Q (Its x) H :=
  comp_walk Pv h0 hl hz (fun i acc σ' H' h p => h) (fun acc σ' H' p => rfl)
    (fun i v acc σ' H' H2 h p y => by
      obtain ⟨e, c, y1, y2⟩ := y
      subst e y2
      exact hs i c acc σ' _ y1 p) hd
/-- at the sign i of x -/
def StrAt (it : Addr) (x : Str) (t : Tok) (i : Nat) (h : Heap) : Prop := h.IsStrIter it "str_ascii_iterator" x t i ∨ h.IsStrIter it "str_iterator" x t i
theorem StrAt.obj {it : Addr} {x : Str} {t : Tok} {i : Nat} {h : Heap} (st : StrAt it x t i h) : ∃ o n vs, h.get? it = some o ∧ o.cls = .type n ∧ o.data = .fields vs ∧ (n = "str_ascii_iterator" ∨ n = "str_iterator") := by
  rcases st with ⟨o, e, c, d⟩ | ⟨o, e, c, d⟩
  · exact ⟨o, _, _, e, c, d, .inl rfl⟩
  · exact ⟨o, _, _, e, c, d, .inr rfl⟩
theorem StrAt.go {M : Model} {A : Around} {E : Value → Shared → Prop} {s : Shared} {tg : Expr} {it : Addr} {u : Value} {x : Str} {t : Tok} {i : Nat} {Q : Unit → Shared → Prop} (st : StrAt it x t i s.heap) (hQ : Q () s) : wpAny M A (letOwnedTupleGo tg (.ref it) u) Q E s := by
  obtain ⟨o, n, vs, e, c, d, hn⟩ := st.obj
  rcases hn with rfl | rfl
  · exact go_of e c d (by decide) hQ
  · exact go_of e c d (by decide) hQ
theorem turn_str {P : Program} {w : World} {K : PySem.W.Frag} {tg : Expr} (it : Addr) (x : Str) (t : Tok) : Turn P w K tg (Its x) [it] it (StrAt it x t) where
  mem := by simp
  obj := fun i h st b hb => by
    have e : b = it := by simpa using hb
    subst e
    obtain ⟨o, n, vs, e, c, d, hn⟩ := st.obj
    exact ⟨o, e, fun v z => by rw [d] at z; cases z⟩
  keep := fun i h h' st k => by
    rcases st with ⟨o, e, r⟩ | ⟨o, e, r⟩
    · exact .inl ⟨o, k it (by simp) o e, r⟩
    · exact .inr ⟨o, k it (by simp) o e, r⟩
  item := by
    intro X hP hw hK hc i pins s σ H E I hf st hg
    subst hP hw hK
    obtain ⟨f0, f1, f2, f3, f4, f5⟩ := hf it (by simp)
    have fin : ∀ (v : Value) (h' : Heap) (tk : Nat), SignAt x i v → StrAt it x t (i + 1) h' → (∀ b o, b ∉ [it] → s.heap.get? b = some o → h'.get? b = some o) →
        ∃ u, some v = some u ∧ wpAny (model X.prog X.w) X.A (letOwnedTupleGo tg (.ref it) u) (fun _ s2 => ∃ y H', Inv X pins σ H' s2 ∧ RelV y u ∧ (Its x).yld i H y H' ∧ StrAt it x t (i + 1) s2.heap ∧ ∀ b ∈ [it], H' b = none) E { s with heap := h', toks := tk } := by
      rintro v h' tk ⟨c, u, hc', rfl⟩ st' k
      exact ⟨_, rfl, st'.go (s := { s with heap := h', toks := tk }) ⟨.str ⟨#[c]⟩, H, I.turned (t' := tk) (fun b o hb e => k b o (by simpa using hb) e) f0 f1 f3 f4 f5, ⟨_, rfl⟩, ⟨rfl, c, hc', rfl⟩, st', fun b hb => (hf b hb).1⟩⟩
    rcases st with st | st
    · exact (Walks.strAscii (I.ok.hd hc) it x t).item i s _ _ hg st fun v h' tk hv st' k => fin v h' tk hv (.inl st') k
    · exact (Walks.strWide (I.ok.hd hc) it x t).item i s _ _ hg st fun v h' tk hv st' k => fin v h' tk hv (.inr st') k
  done := by
    intro X hP hw hK hc i pins s σ H E I hf st hg
    subst hP hw hK
    obtain ⟨f0, f1, f2, f3, f4, f5⟩ := hf it (by simp)
    have hg' : i = x.cps.size := hg
    subst hg'
    rcases st with st | st
    · exact (Walks.strAscii (I.ok.hd hc) it x t).done s _ _ st fun h' tk k => ⟨rfl, I.turned (t' := tk) (fun b o hb e => k b o (by simpa using hb) e) f0 f1 f3 f4 f5⟩
    · exact (Walks.strWide (I.ok.hd hc) it x t).done s _ _ st fun h' tk k => ⟨rfl, I.turned (t' := tk) (fun b o hb e => k b o (by simpa using hb) e) f0 f1 f3 f4 f5⟩
  self := fun A i s Q E st h => by
    rcases st with st | st
    · exact wpAny_pyIter_striter_ascii st h
    · exact wpAny_pyIter_striter_wide st h
theorem pi_str {X : Cx} {tg l : Expr} {tl : TE} (hl : PE X l tl) : PI X tg l (iStr tl) := by
  intro pins s σ H R I h
  refine thn (hl pins s σ H _ I h) fun v s1 ⟨y, H1, I1, r1, q1⟩ => ?_
  obtain ⟨x, rfl, q⟩ := q1
  obtain ⟨t, rfl⟩ := r1
  have fin : ∀ o, StrAt s1.heap.objs.size x t 0 (s1.heap.push o) → PIE X pins σ tg R (.ref s1.heap.objs.size) { s1 with heap := s1.heap.push o } := fun o st => by
    refine ⟨s1.heap.objs.size, [s1.heap.objs.size], _, _, H1, rfl, I1.kept (t' := s1.toks) fun b o e => Heap.get?_push_of_some _ e, turn_str _ x t, st, fun b hb => ?_, q⟩
    have e : b = s1.heap.objs.size := by simpa using hb
    subst e
    exact I1.fpOk (Nat.le_refl _) (I1.hok.fresh (Nat.le_refl _))
  cases ha : x.cps.all (· < 128)
  · exact wpAny_pyIter_wide ha (fin _ (.inr ⟨_, Heap.get?_push_size _ rfl, rfl, rfl⟩))
  · exact wpAny_pyIter_ascii ha (fin _ (.inl ⟨_, Heap.get?_push_size _ rfl, rfl, rfl⟩))

/-! ### all(..) of a list of bools -/
theorem all_range (bs : List Bool) : (List.range bs.length).all (fun i => (bs[i]?).getD true) = bs.all id := by
  rw [Bool.eq_iff_iff]
  simp only [List.all_eq_true, List.mem_range, id]
  constructor
  · intro h b hb
    obtain ⟨i, hi, e⟩ := List.mem_iff_getElem.mp hb
    have := h i hi
    rw [List.getElem?_eq_getElem hi] at this
    rw [← e]
    exact this
  · intro h i hi
    rw [List.getElem?_eq_getElem hi]
    exact h _ (List.getElem_mem hi)
section
variable {X : Cx}
theorem call_all (hc : X.calm = true) : CallR X (.builtin "all") (fun xs H Q => ∃ (p : Addr) (bs : List Bool), xs = [.ref p] ∧ SqL X.K H p (bs.map V.bl) ∧ Q (.bl (bs.all id)) H) := by
  intro pins s σ H xs us Q I r h
  obtain ⟨p, bs, rfl, hp, q⟩ := h
  obtain ⟨u, rfl, ru⟩ := vals1 r
  cases ru
  obtain ⟨its, rv, ht, hz⟩ := I.list hp
  have hlen := rv.length
  rw [List.length_map] at hlen
  refine call_all_walk (wpAny_pyIter_list ht.isList ?_)
  have hpn : p < s.heap.objs.size := let ⟨o, n, e, _⟩ := ht; Heap.lt_size e
  refine ⟨s.heap.objs.size, [s.heap.objs.size, p], [s.heap.objs.size], its.toArray.size, (fun i v => its.toArray[i]? = some v), (fun i h => h.IsListIter s.heap.objs.size p i ∧ h.IsList p its.toArray), fun i => (bs[i]?).getD true, rfl, Walks.list (A := X.A.in1) (show X.A.in1.handled = none from I.ok.hd hc) s.heap.objs.size p (Nat.ne_of_lt hpn) its.toArray, ⟨⟨_, Heap.get?_push_size _ rfl, rfl, rfl⟩, ht.isList.at fun o e => Heap.get?_push_of_some _ e⟩, ?_, fun h' tk k => ?_⟩
  · intro i v s' Q' E' hv hq
    have hv' : its[i]? = some v := by simpa using hv
    have hi : i < bs.length := by rw [hlen]; exact (List.getElem?_eq_some_iff.mp hv').1
    obtain ⟨u', hu', ru'⟩ := rv.get (i := i) (x := .bl bs[i]) (by simp [hi])
    rw [hv'] at hu'
    cases hu'
    cases ru'
    refine wpAny_truthy_bool ?_
    have hq' : Q' ((bs[i]?).getD true) s' := hq
    rw [List.getElem?_eq_getElem hi] at hq'
    exact hq'
  · have e : (List.range its.toArray.size).all (fun i => (bs[i]?).getD true) = bs.all id := by
      rw [List.size_toArray, ← hlen]
      exact all_range bs
    refine ⟨.bl (bs.all id), H, I.kept (t' := tk) fun b o e => k b o ?_ (Heap.get?_push_of_some _ e), by rw [e]; rfl, q⟩
    have := Heap.lt_size e
    intro z
    rw [List.mem_singleton.mp z] at this
    exact Nat.lt_irrefl _ this

/-! ### isinstance of a value and a built-in class -/
theorem call_isinst : CallR X (.builtin "isinstance") (fun xs H Q => ∃ x T t b, xs = [x, .ty T] ∧ TyOf X.K H x t ∧ PySem.W.kitOne X.K t (.type T) = some b ∧ Q (.bl b) H) := by
  intro pins s σ H xs us Q I r h
  obtain ⟨x, T, t, b, rfl, ty, e, q⟩ := h
  obtain ⟨u, v, rfl, ru, rv⟩ := vals2 r
  cases rv
  exact isinst_ok I ru ty e fun tk => ⟨.bl b, H, I.tok tk, rfl, q⟩

/-! ### slices of a text -/
def rSlS : V → Option Int → Option Int → Hp → VK → Prop := fun x lo hi H Q => ∃ z, x = .str z ∧ z.length ≤ sizeLine ∧ Q (.str (Txt.slice z lo hi)) H
theorem sl_str : SlR X rSlS := by
  intro pins s σ H x v vl vu lo hi sl Q I rx hs pl pu h
  obtain ⟨z, rfl, hz, q⟩ := h
  obtain ⟨t, rfl⟩ := rx
  refine ⟨"str", _, F.slot_str_getitem.lookup, typeIs_str _ _ _, ?_⟩
  have fin : ∀ t' k, EP X pins σ Q (.str (Txt.slice z lo hi) t') { s with toks := k } := fun t' k => ⟨.str _, H, I.tok k, ⟨t', rfl⟩, q⟩
  obtain ⟨o, ho, hc, hd⟩ := hs
  cases pl with
  | none =>
    cases pu with
    | none => exact wpAny_getItem_str_slice (l := none) (u := none) (st := none) ⟨o, ho, hc, hd⟩ rfl (post_val_or_str ⟨Nat.le_trans (Txt.slice_le z _ _) hz, fin⟩)
    | int j uj => exact wpAny_getItem_str_slice (l := none) (u := some (j, uj)) (st := none) ⟨o, ho, hc, hd⟩ rfl (post_val_or_str ⟨Nat.le_trans (Txt.slice_le z _ _) hz, fin⟩)
  | int i ui =>
    cases pu with
    | none => exact wpAny_getItem_str_slice (l := some (i, ui)) (u := none) (st := none) ⟨o, ho, hc, hd⟩ rfl (post_val_or_str ⟨Nat.le_trans (Txt.slice_le z _ _) hz, fin⟩)
    | int j uj => exact wpAny_getItem_str_slice (l := some (i, ui)) (u := some (j, uj)) (st := none) ⟨o, ho, hc, hd⟩ rfl (post_val_or_str ⟨Nat.le_trans (Txt.slice_le z _ _) hz, fin⟩)

/-! ### // by any positive divisor of up to 9000 bits -/
theorem op_fdivB : OpR X (binaryOp .FloorDiv) (rI (fun _ j => 0 < j ∧ j.natAbs.log2 < 9000) fun i j => .int (i / j)) := opI fun i j _ _ _ _ _ hc q => by
  refine floordiv_int (by omega) ?_ (.inl (PyProof.noPylong_of_log2 hc.2))
  rw [Int.fdiv_eq_ediv_of_nonneg i (by omega)]
  exact q

/-! ### list(d), d.values(), list(d.values()) -/
def valView (a d : Addr) : HO := .ext fun h => h.IsValuesView a d
theorem mt_values : MtR X "dict.values" (fun x vs H Q => ∃ d kvs, x = .ref d ∧ vs = [] ∧ Rd H d (.dK kvs) ∧ ∀ p, H p = none → Q (.ref p) (upd H p (valView p d))) := by
  intro pins s σ H x xs v us Q I rx rv h
  obtain ⟨d, kvs, rfl, rfl, hd, q⟩ := h
  cases rx
  cases rv
  obtain ⟨z, hs, vs, rel, dd⟩ := dk_rd I.hok hd
  refine call_meetsIn PySem.F.slot_dict_values dd.typeIs PySem.F.entry_dict_values (PySem.F.args_dict_values_1 _) (meets_dict_values (mixKind X.prog X.w) d hs) ⟨⟨vs, dd⟩, ?_⟩
  have hv : (s.heap.push ({ cls := .type "dict_values", data := .fields #[.ref d] } : Obj)).IsValuesView s.heap.objs.size d := ⟨_, Heap.get?_push_size _ rfl, rfl, rfl⟩
  refine ⟨.ref s.heap.objs.size, _, I.laid (t' := s.toks) (o := valView s.heap.objs.size d) (fun b ob e => Heap.get?_push_of_some _ e) (Nat.le_refl _) ⟨hv, ⟨_, Heap.get?_push_size _ rfl⟩, fun h1 h2 ⟨o, e, r⟩ k => ⟨o, k o e, r⟩⟩, rfl, q _ (I.hok.fresh (Nat.le_refl _))⟩
theorem vals_of_items {P : Nat → Value → Prop} {n : Nat} : ∀ {acc : List Value} (ys : List V), ItemsOf P acc.toArray n → ys.length = n → (∀ i v y, P i v → ys[i]? = some y → RelV y v) → Vals ys acc := by
  intro acc ys h hl hP
  obtain ⟨h1, h2⟩ := h
  have e1 : acc.length = ys.length := by rw [hl, ← h1]; simp
  have key : ∀ (ys : List V) (acc : List Value), acc.length = ys.length → (∀ (i : Nat) v y, acc[i]? = some v → ys[i]? = some y → RelV y v) → Vals ys acc := by
    intro ys
    induction ys with
    | nil =>
      intro acc e _
      have : acc = [] := List.eq_nil_of_length_eq_zero (by simpa using e)
      subst this
      exact .nil
    | cons y r ih =>
      intro acc e h
      cases acc with
      | nil => simp at e
      | cons v a =>
        refine .cons (h 0 v y rfl rfl) (ih a (by simpa using e) fun i v' y' e1 e2 => h (i + 1) v' y' (by simpa using e1) (by simpa using e2))
  exact key ys acc e1 fun i v y e1 e2 => hP i v y (h2 i v (by simpa using e1)) e2
theorem KV.getVal {κ : Type} {kvs : List (κ × V)} {vs : List (κ × Value)} (r : KV kvs vs) : ∀ {i : Nat} {k : κ} {x : Value} {y : κ × V}, vs[i]? = some (k, x) → kvs[i]? = some y → y.1 = k ∧ RelV y.2 x := by
  unfold KV at r
  induction r with
  | nil => intro i k x y e; simp at e
  | cons h t ih =>
    intro i k x y e1 e2
    cases i with
    | zero =>
      simp at e1 e2
      subst e2
      rw [e1] at h
      exact h
    | succ i => exact ih (by simpa using e1) (by simpa using e2)
theorem list_kdl {T : String} {r d : Addr} {P : Nat → Value → Prop} {OK : Heap → Prop} {ys : List V} {pins : List (Addr × Obj)} {s : Shared} {σ : St} {H : Hp} {Q : VK} (hc : X.calm = true) (I : Inv X pins σ H s) (Kd : PySem.W.KdlSrc X.prog X.w T r d ys.length P OK) (hok : OK s.heap) (hz : ys.length ≤ sizeLine)
    (hP : ∀ i v y, P i v → ys[i]? = some y → RelV y v) (q : ∀ l, H l = none → Q (.ref l) (upd H l (.lst ys))) : wpAny (model X.prog X.w) X.A (call (.type "list") [.ref r]) (EP X pins σ Q) X.xe s := by
  refine PySem.W.kdl_call Kd (I.ok.hd hc) hok hz fun h' tk acc' c' kp e hacc => ?_
  refine ⟨.ref s.heap.objs.size, _, I.laid (t' := tk) (o := .lst ys) kp (Nat.le_refl _) ⟨hz, acc'.toList, c', vals_of_items (acc := acc'.toList) ys (by simpa using hacc) rfl hP, by simpa using e⟩, rfl, q _ (I.hok.fresh (Nat.le_refl _))⟩
theorem call_listD (hc : X.calm = true) : CallR X (.type "list") (fun xs H Q => ∃ d kvs, xs = [.ref d] ∧ Rd H d (.dK kvs) ∧ ∀ l, H l = none → Q (.ref l) (upd H l (.lst (kvs.map fun kv => kV kv.1)))) := by
  intro pins s σ H xs us Q I r h
  obtain ⟨d, kvs, rfl, hd, q⟩ := h
  obtain ⟨u, rfl, ru⟩ := vals1 r
  cases ru
  obtain ⟨z, hs, vs, rel, dd⟩ := dk_rd I.hok hd
  obtain ⟨ep, hat⟩ := dd.dictAt
  have e := rel.length
  have Kd := PySem.W.kdl_dict (prog := X.prog) (w := X.w) (knd := mixKind X.prog X.w) (kvs := vs) (ep := ep) hs
  have el : (kvs.map fun kv => kV kv.1).length = vs.length := by rw [List.length_map, e]
  rw [← el] at Kd
  refine list_kdl (ys := kvs.map fun kv => kV kv.1) hc I Kd hat (by rw [List.length_map]; exact z) (fun i v y hv hy => ?_) q
  obtain ⟨k, x, hx, hk⟩ := hv
  rw [List.getElem?_map] at hy
  cases q2 : kvs[i]? with
  | none => rw [q2] at hy; cases hy
  | some kv =>
    rw [q2] at hy
    cases hy
    obtain ⟨e1, _⟩ := rel.getVal hx q2
    rcases keyIs_shape (show keyIs k v = true from hk) with ⟨i', t', rfl, rfl⟩ | ⟨x', t', rfl, rfl⟩
    · show RelV (kV kv.1) _
      rw [e1]; exact ⟨t', rfl⟩
    · show RelV (kV kv.1) _
      rw [e1]; exact ⟨t', rfl⟩
theorem call_listV (hc : X.calm = true) : CallR X (.type "list") (fun xs H Q => ∃ p d kvs, xs = [.ref p] ∧ H p = some (valView p d) ∧ Rd H d (.dK kvs) ∧ ∀ l, H l = none → Q (.ref l) (upd H l (.lst (kvs.map fun kv => kv.2)))) := by
  intro pins s σ H xs us Q I r h
  obtain ⟨p, d, kvs, rfl, hp, hd, q⟩ := h
  obtain ⟨u, rfl, ru⟩ := vals1 r
  cases ru
  obtain ⟨z, hs, vs, rel, dd⟩ := dk_rd I.hok hd
  obtain ⟨ep, hat⟩ := dd.dictAt
  have e := rel.length
  obtain ⟨hv, _, _⟩ : s.heap.IsValuesView p d ∧ _ ∧ _ := I.hok p _ hp
  have Kd := PySem.W.kdl_values (prog := X.prog) (w := X.w) (knd := mixKind X.prog X.w) (r := p) (d := d) (kvs := vs) (ep := ep)
  have el : (kvs.map fun kv => kv.2).length = vs.length := by rw [List.length_map, e]
  rw [← el] at Kd
  refine list_kdl (ys := kvs.map fun kv => kv.2) hc I Kd ⟨hv, hat⟩ (by rw [List.length_map]; exact z) (fun i v y hv hy => ?_) q
  obtain ⟨k, hx⟩ := hv
  rw [List.getElem?_map] at hy
  cases q2 : kvs[i]? with
  | none => rw [q2] at hy; cases hy
  | some kv =>
    rw [q2] at hy
    cases hy
    exact (rel.getVal hx q2).2
end

/-! ### data compared -/
/-- the data that a value bears, n lists deep at most -/
def RdD (K : PySem.W.Frag) (H : Hp) : Nat → V → PyData → Prop
  | _, .non, d => d = .none
  | _, .bl b, d => d = .bool b
  | _, .int i, d => d = .int i
  | _, .str x, d => PyData.strOk x = true ∧ d = .str x
  | n + 1, .ref a, d => (∃ xs ds, SqL K H a xs ∧ d = .list ds ∧ Paired (RdD K H n) xs ds) ∨ ∃ xs ds, SqT K H a xs ∧ d = .tuple ds ∧ Paired (RdD K H n) xs ds
  | _, _, _ => False
section
variable {X : Cx} {pins : List (Addr × Obj)} {σ : St} {H : Hp} {s : Shared}
theorem RdD.reads (I : Inv X pins σ H s) : ∀ (n : Nat) (v : V) (d : PyData) (u : Value), RdD X.K H n v d → RelV v u → (∃ as, Reads s.heap u d as) ∧ d.canLay0 = true ∧ d.depth ≤ n := by
  intro n
  induction n with
  | zero =>
    intro v d u h r
    cases v <;> simp only [RdD] at h
    · subst h; cases r; exact ⟨⟨_, .none⟩, rfl, Nat.le_refl _⟩
    · subst h; cases r; exact ⟨⟨_, .bool _⟩, rfl, Nat.le_refl _⟩
    · subst h; obtain ⟨t, rfl⟩ := r; exact ⟨⟨_, .int _ _⟩, rfl, Nat.le_refl _⟩
    · obtain ⟨h1, rfl⟩ := h; obtain ⟨t, rfl⟩ := r; exact ⟨⟨_, .str _ _⟩, h1, Nat.le_refl _⟩
  | succ n ih =>
    have all : ∀ (xs : List V) (ds : List PyData) (us : List Value), Paired (RdD X.K H n) xs ds → Vals xs us → (∃ as, ReadsAll s.heap us ds as) ∧ PyData.canLayAll0 ds = true ∧ PyData.depthAll ds ≤ n := by
      intro xs ds us p
      induction p generalizing us with
      | nil => intro r; cases r; exact ⟨⟨_, .nil⟩, rfl, Nat.zero_le _⟩
      | cons h t ih2 =>
        intro r
        cases r with
        | cons r1 r2 =>
          obtain ⟨⟨as, a1⟩, a2, a3⟩ := ih _ _ _ h r1
          obtain ⟨⟨bs, b1⟩, b2, b3⟩ := ih2 _ r2
          exact ⟨⟨_, .cons a1 b1⟩, by simp [PyData.canLayAll0, a2, b2], by simp only [PyData.depthAll]; omega⟩
    intro v d u h r
    cases v <;> simp only [RdD] at h
    · subst h; cases r; exact ⟨⟨_, .none⟩, rfl, Nat.zero_le _⟩
    · subst h; cases r; exact ⟨⟨_, .bool _⟩, rfl, Nat.zero_le _⟩
    · subst h; obtain ⟨t, rfl⟩ := r; exact ⟨⟨_, .int _ _⟩, rfl, Nat.zero_le _⟩
    · obtain ⟨h1, rfl⟩ := h; obtain ⟨t, rfl⟩ := r; exact ⟨⟨_, .str _ _⟩, h1, Nat.zero_le _⟩
    · cases r
      rcases h with ⟨xs, ds, hq, rfl, p⟩ | ⟨xs, ds, hq, rfl, p⟩
      · obtain ⟨its, rv, ⟨o, m, e, c, _, dd⟩, _⟩ := I.list hq
        obtain ⟨⟨as, a1⟩, a2, a3⟩ := all xs ds its p rv
        exact ⟨⟨_, .list e c dd (by simpa using a1)⟩, by simpa [PyData.canLay0] using a2, by simp only [PyData.depth]; omega⟩
      · obtain ⟨its, rv, ⟨o, e, c, m, dd⟩, _⟩ := I.tuple hq
        obtain ⟨⟨as, a1⟩, a2, a3⟩ := all xs ds its p rv
        exact ⟨⟨_, .tuple e c dd (by simpa using a1)⟩, by simpa [PyData.canLay0] using a2, by simp only [PyData.depth]; omega⟩
def rEqD (K : PySem.W.Frag) (neg : Bool) : R2 := fun x y H Q => ∃ n dx dy, n ≤ 64 ∧ RdD K H n x dx ∧ RdD K H n y dy ∧ Q (.bl (if neg then !PyData.eqv dx dy else PyData.eqv dx dy)) H
theorem op_eqD (hu : X.A.units + 64 < cLine) : OpR X (compareOp .Eq) (rEqD X.K false) := by
  intro pins s σ H x y v u Q I rx ry h
  obtain ⟨n, dx, dy, hn, h1, h2, q⟩ := h
  obtain ⟨⟨as, a1⟩, a2, a3⟩ := RdD.reads I n x dx v h1 rx
  obtain ⟨⟨bs, b1⟩, b2, b3⟩ := RdD.reads I n y dy u h2 ry
  have sx : SeqAt.shaped dx = true := by unfold SeqAt.shaped; rw [a2, decide_eq_true (by omega)]; rfl
  have sy : SeqAt.shaped dy = true := by unfold SeqAt.shaped; rw [b2, decide_eq_true (by omega)]; rfl
  exact SeqAt.compareEq_shaped a1 b1 sx sy hu ⟨.bl _, H, I, rfl, q⟩
theorem op_neD (hu : X.A.units + 64 < cLine) : OpR X (compareOp .NotEq) (rEqD X.K true) := by
  intro pins s σ H x y v u Q I rx ry h
  obtain ⟨n, dx, dy, hn, h1, h2, q⟩ := h
  obtain ⟨⟨as, a1⟩, a2, a3⟩ := RdD.reads I n x dx v h1 rx
  obtain ⟨⟨bs, b1⟩, b2, b3⟩ := RdD.reads I n y dy u h2 ry
  have sx : SeqAt.shaped dx = true := by unfold SeqAt.shaped; rw [a2, decide_eq_true (by omega)]; rfl
  have sy : SeqAt.shaped dy = true := by unfold SeqAt.shaped; rw [b2, decide_eq_true (by omega)]; rfl
  exact SeqAt.compareNe_shaped a1 b1 sx sy hu ⟨.bl _, H, I, rfl, q⟩
end
end L2

namespace L2
open PySem PySem.Spec PyProof.Rows
/-! ### a def of the text that keeps a promise, by its name; a method -/
structure Can (P : Program) (w : World) (K : PySem.W.Frag) (mg : Str → Option Value) (base : Heap) (k : Nat) (x : Str) (ps : List Str) (sp : Sp) : Prop where
  ex : ∃ (f : Addr) (fd : FuncData), FnOk P w K mg base CX0 k f fd ps sp ∧ mg x = some (.ref f) ∧ PySem.W.keepIn K (.ref f) = true ∧ Binds K fd ps []
structure CanM (P : Program) (w : World) (K : PySem.W.Frag) (mg : Str → Option Value) (base : Heap) (k : Nat) (C : Addr) (m : Str) (ps : List Str) (sp : Sp) : Prop where
  ex : ∃ (f : Addr) (fd : FuncData), FnOk P w K mg base CX0 k f fd ps sp ∧ Meth K C m f ∧ Binds K fd ps []
structure CanI (P : Program) (w : World) (K : PySem.W.Frag) (mg : Str → Option Value) (base : Heap) (k : Nat) (C : Addr) (ps : List Str) (sp : Sp) : Prop where
  ex : ∃ (f : Addr) (fd : FuncData), FnOk P w K mg base CX0 k f fd ps sp ∧ Mk K C f ∧ Binds K fd ps []
section
variable {P : Program} {w : World} {K : PySem.W.Frag} {mg : Str → Option Value} {base : Heap} {j k : Nat} {x m : Str} {ps : List Str} {sp sp' : Sp} {C : Addr}
end
section
variable {X : Cx} {k : Nat} {x m : Str} {ps : List Str} {sp : Sp} {C : Addr} {p pos apos : Pos} {e o : Expr} {es : List Expr} {ta : TE} {t : TA}
theorem pe_callC (c : Can X.prog X.w X.K X.mg X.base k x ps sp) (hr : Room k X.A) (hg : Gl X x) (ha : PA X (e :: es) t) (hdb : (x == ("__debug__" : Str)) = false := by decide)
    (he : starEach (e :: es) X.env = (false, eval e X.env) :: starEach es X.env := by rfl) (hpl : (backTo pos (starEach es X.env)).any (·.1) = false := by rfl) :
    PE X (.Call (.Name x p) (e :: es) [] pos) (tCall sp [] E0 t) := by
  obtain ⟨f, fd, F, hm, hk, hb⟩ := c.ex
  exact pe_call F hr hg hm hk hb .nil pass0 ha hdb he hpl
theorem pe_methC {pl : Sem Bool} (ho : PE X o ta) (c : Cls X.K C) (h : CanM X.prog X.w X.K X.mg X.base k C m ps sp) (hr : Room k X.A) (ha : PA X (e :: es) t)
    (hst : starEach (e :: es) X.env = (false, eval e X.env) :: starEach es X.env := by rfl) (hpl : (backTo pos (starEach es X.env)).any (·.1) = false := by rfl)
    (ht : eval (.Call (.Attribute o m apos) (e :: es) [] pos) X.env = (do
      let ov ← eval o X.env
      standAt apos.atName
      let (f, first) ← holding [ov] (getMethod ov m pl)
      callWith pos f first (backTo pos (starEach (e :: es) X.env)) (backToKw pos (keywordEach [] X.env))) := by rfl) :
    PE X (.Call (.Attribute o m apos) (e :: es) [] pos) (tMeth C m sp [] E0 ta t) := by
  obtain ⟨f, fd, F, hm, hb⟩ := h.ex
  exact pe_meth ho c hm F hr hb .nil pass0 ha hst hpl ht
theorem pe_methC0 {pl : Sem Bool} (ho : PE X o ta) (c : Cls X.K C) (h : CanM X.prog X.w X.K X.mg X.base k C m ps sp) (hr : Room k X.A)
    (ht : eval (.Call (.Attribute o m apos) [] [] pos) X.env = (do
      let ov ← eval o X.env
      standAt apos.atName
      let (f, first) ← holding [ov] (getMethod ov m pl)
      callWith pos f first (backTo pos (starEach [] X.env)) (backToKw pos (keywordEach [] X.env))) := by rfl) :
    PE X (.Call (.Attribute o m apos) [] [] pos) (tMeth C m sp [] E0 ta tNil) := by
  obtain ⟨f, fd, F, hm, hb⟩ := h.ex
  exact pe_meth0 ho c hm F hr hb .nil pass0 ht
theorem pe_makeC0 (h : CanI X.prog X.w X.K X.mg X.base k C ps sp) (hr : Room (k + 1) X.A) (hg : Gl X x) (hm : X.mg x = some (.ref C)) (hdb : (x == ("__debug__" : Str)) = false := by decide) :
    PE X (.Call (.Name x p) [] [] pos) (tMake C sp [] E0 tNil) := by
  obtain ⟨f, fd, F, M, hb⟩ := h.ex
  exact pe_make0 M F hr hg hm hb .nil pass0 hdb
end
/-- a module's constant by its value -/
def GlobIs (mg : Str → Option Value) (x : Str) (v : V) : Prop := ∃ u, mg x = some u ∧ RelV v u
theorem pe_globC {X : Cx} {x : Str} {v : V} {pos : Pos} (h : GlobIs X.mg x v) (hg : Gl X x) (hd : (x == ("__debug__" : Str)) = false := by decide) : PE X (.Name x pos) (tC v) := by
  obtain ⟨u, hm, r⟩ := h
  exact pe_glob hg hm r hd
/-- a built-in type as a value -/
theorem pe_ty {X : Cx} {x : Str} {T : String} {pos : Pos} (hm : X.mg x = none) (hg : Gl X x) (hv : bootBuiltins x = some (.type T)) (hn : x ≠ "__name__" := by decide) (hd : (x == ("__debug__" : Str)) = false := by decide) : PE X (.Name x pos) (tC (.ty T)) :=
  pe_bltn hg hm hv (show RelV (.ty T) (.type T) from rfl) hn hd
end L2
namespace L2
open PySem
theorem b_all : bootBuiltins "all" = some (.builtin "all") := by decide +kernel
theorem b_isi : bootBuiltins "isinstance" = some (.builtin "isinstance") := by decide +kernel
theorem b_len : bootBuiltins "len" = some (.builtin "len") := by decide +kernel
theorem b_abs : bootBuiltins "abs" = some (.builtin "abs") := by decide +kernel
theorem b_str : bootBuiltins "str" = some (.type "str") := by decide +kernel
theorem b_int : bootBuiltins "int" = some (.type "int") := by decide +kernel
theorem b_bool : bootBuiltins "bool" = some (.type "bool") := by decide +kernel
theorem b_list : bootBuiltins "list" = some (.type "list") := by decide +kernel
theorem b_tuple : bootBuiltins "tuple" = some (.type "tuple") := by decide +kernel
/-! ### the heap, small facts -/
theorem Same.upd {H H' : Hp} {p : Addr} {o : HO} (e : Same H H') (h : H' p = none) : Same H (L2.upd H' p o) := fun b ob z => by
  rw [upd_ne (ne_of_none (e b ob z) h)]
  exact e b ob z
theorem Same.new {H : Hp} {p : Addr} {o : HO} (h : H p = none) : Same H (L2.upd H p o) := (Same.refl H).upd h
end L2
namespace L2
open PySem
theorem slice_same (x : Str) (l u : Option Int) : Txt.slice x l u = StrLaws.sliceText x l u := rfl
theorem idx_clip (a b n : Nat) (h : n ≤ b) : Builtin.Str.strSliceIndices (some (a : Int)) (some (b : Int)) 1 n = Builtin.Str.strSliceIndices (some (a : Int)) (some (n : Int)) 1 n := by
  unfold Builtin.Str.strSliceIndices
  have e1 : ¬ ((b : Int) < 0) := by omega
  have e2 : ¬ ((n : Int) < 0) := by omega
  have e3 : min (b : Int) (n : Int) = n := by omega
  simp [e1, e2, e3]
theorem slice_list (z : Str) {a b : Nat} (ha : a ≤ z.length) (hab : a ≤ b) : (Txt.slice z (some (a : Int)) (some (b : Int))).cps.toList = (z.cps.toList.drop a).take (b - a) := by
  rw [slice_same]
  by_cases hb : b ≤ z.length
  · rw [StrLaws.sliceText_nat z hab hb]
  · have hb' : z.length ≤ b := by omega
    have e : StrLaws.sliceText z (some (a : Int)) (some (b : Int)) = StrLaws.sliceText z (some (a : Int)) (some (z.length : Int)) := by
      unfold StrLaws.sliceText
      rw [idx_clip a b z.length hb']
    rw [e, StrLaws.sliceText_nat z ha (Nat.le_refl _)]
    show (z.cps.toList.drop a).take (z.length - a) = _
    have hl : (z.cps.toList.drop a).length = z.length - a := by rw [List.length_drop]; rfl
    rw [List.take_of_length_le (by omega), List.take_of_length_le (by omega)]
theorem slice_to (z : Str) (b : Nat) : (Txt.slice z none (some (b : Int))).cps.toList = z.cps.toList.take b := by
  have e : Txt.slice z none (some (b : Int)) = Txt.slice z (some ((0 : Nat) : Int)) (some (b : Int)) := by
    rw [slice_same, slice_same]
    unfold StrLaws.sliceText
    rw [StrLaws.sliceIdx_none_lo]
    rfl
  rw [e, slice_list z (Nat.zero_le _) (Nat.zero_le _)]
  simp
theorem slice_from (z : Str) {a : Nat} (ha : a ≤ z.length) : (Txt.slice z (some (a : Int)) none).cps.toList = z.cps.toList.drop a := by
  have e : Txt.slice z (some (a : Int)) none = Txt.slice z (some (a : Int)) (some ((z.length : Nat) : Int)) := by
    rw [slice_same, slice_same]
    unfold StrLaws.sliceText
    rw [StrLaws.sliceIdx_none_hi]
  rw [e, slice_list z ha ha]
  have hl : (z.cps.toList.drop a).length = z.length - a := by rw [List.length_drop]; rfl
  rw [List.take_of_length_le (by omega)]
end L2

namespace L2
open PySem
/-! ### a cut: what holds between two statements -/
def tCut (R : St → Hp → Prop) (t u : TS) : TS := fun D σ H => t { D with nx := R } σ H ∧ ∀ σ' H', R σ' H' → u D σ' H'
theorem pss_cut {X : Cx} {st : Stmt} {rest : List Stmt} {t u : TS} (R : St → Hp → Prop) (h1 : PS X st t) (h2 : PSs X rest u) : PSs X (st :: rest) (tCut R t u) := by
  intro pins s σ H D I h
  refine wpAny_execs_cons (thn (h1 pins s σ H { D with nx := R } I h.1) fun f s1 q => ?_)
  cases f with
  | next =>
    obtain ⟨σ', H', I', q⟩ := q
    exact h2 pins s1 σ' H' D I' (h.2 σ' H' q)
  | ret v => exact q
  | brk => exact q
  | cont => exact q
end L2

namespace L2
open PySem
/-! ### a test by what holds behind it -/
end L2

namespace L2
open PySem
/-! ### the rules by a fragment that is named (inside a comprehension's block) -/
section
variable {X : Cx}
theorem pe_fldK {e : Expr} {f : Str} {pos : Pos} {ta : TE} (K : PySem.W.Frag) (hK : X.K = K) (he : PE X e ta) (hb : attributeBase e f X.env (eval e X.env) = eval e X.env) : PE X (.Attribute e f pos) (tFld K ta f) := by
  subst hK
  exact pe_fld he hb
theorem ix_listK (K : PySem.W.Frag) (hK : X.K = K) : IxR X (rIxL K) := by
  subst hK
  exact ix_list
theorem ix_tupK (K : PySem.W.Frag) (hK : X.K = K) : IxR X (rIxT K) := by
  subst hK
  exact ix_tup
theorem op_inK (K : PySem.W.Frag) (hK : X.K = K) : OpR X (compareOp .In) (rIn K false) := by
  subst hK
  exact op_in_seq
theorem op_notInK (K : PySem.W.Frag) (hK : X.K = K) : OpR X (compareOp .NotIn) (rIn K true) := by
  subst hK
  exact op_notIn_seq
theorem pi_listK {tg l : Expr} {tl : TE} (K : PySem.W.Frag) (hK : X.K = K) (hl : PE X l tl) : PI X tg l (iList K tl) := by
  subst hK
  exact pi_list hl
end
end L2

namespace L2
theorem iteFb {b : Bool} {A B : Prop} (h : b = false) (hB : B) : if b = true then A else B := by rw [h]; exact iteF hB
theorem iteTb {b : Bool} {A B : Prop} (h : b = true) (hA : A) : if b = true then A else B := by rw [h]; exact iteT hA
end L2

namespace L2
open PySem
/-! ### a cut that is chosen when it is read -/
def tCutE (t u : TS) : TS := fun D σ H => ∃ R : St → Hp → Prop, t { D with nx := R } σ H ∧ ∀ σ' H', R σ' H' → u D σ' H'
theorem pss_cutE {X : Cx} {st : Stmt} {rest : List Stmt} {t u : TS} (h1 : PS X st t) (h2 : PSs X rest u) : PSs X (st :: rest) (tCutE t u) := by
  intro pins s σ H D I h
  obtain ⟨R, ha, hb⟩ := h
  exact pss_cut R h1 h2 pins s σ H D I ⟨ha, hb⟩
end L2

namespace L2
open PySem
/-! ### for x in a text; slices of a list by numbers -/
theorem cutV_to (xs : List V) {n : Nat} (h : n ≤ xs.length) : cutV xs none (some (n : Int)) = xs.take n := by
  unfold cutV
  rw [HT.sIx_nat, HT.sIx_none, Nat.min_eq_left h, List.drop_zero, Nat.sub_zero]
end L2

/-! OWN RULES: exceptions that fly through defs, raised and caught. -/
namespace L2
open PySem PySem.Spec PyProof.Rows
/-! ### in flight -/
section
variable {P : Program} {w : World} {l : List Env} {H H' : Hp} {h0 h1 h2 B : Heap}
end

section
variable {X : Cx} {pins : List (Addr × Obj)} {σ : St} {H : Hp} {s s' : Shared} {E : XK} {M : Model} {E2 : Value → Shared → Prop}
end

/-! ### defs that may raise -/
section
variable {P : Program} {w : World} {K : PySem.W.Frag} {mg : Str → Option Value} {base : Heap}
end
section
variable {P : Program} {w : World} {K : PySem.W.Frag} {mg : Str → Option Value} {base : Heap} {j k : Nat} {x m : Str} {ps : List Str} {sp sp' : Sp} {C : Addr}
end
section
variable {X : Cx} {k : Nat} {x m : Str} {ps : List Str} {sp : Sp} {C : Addr} {p pos apos : Pos} {e o : Expr} {es : List Expr} {ta : TE} {t : TA} {E : XK}
end

/-! ### texts put together: f'..' -/
section
variable {X : Cx}
end
end L2

namespace L2
open PySem
/-! ### a callee that may raise, where it does not -/
section
variable {X : Cx} {k : Nat} {x m : Str} {ps : List Str} {sp : Sp} {C : Addr} {p pos apos : Pos} {e o : Expr} {es : List Expr} {ta : TE} {t : TA}
end
end L2

namespace L2
open PySem PySem.Spec PyProof.Rows
/-! ### texts that are joined, and cut again -/
namespace Tx
open Builtin Builtin.Str PySem.StrLaws
end Tx
end L2

namespace L2
open PySem PySem.Spec PyProof.Rows
/-! ### numbers as texts -/
namespace Tx
open PySem.NumText PySem.W
end Tx

/-! ### methods of texts, int of a text -/
section
variable {X : Cx}
end

/-! ### enumerate -/
end L2

/-! OWN RULES: dict(a list of pairs), sum(a list of ints), the types of data. -/
namespace L2
open PySem PySem.Spec PyProof.Rows
theorem dl_entry : entryFor table "dict.update.loop" = some Builtin.«dict.update.loop» := entryFor_of_fast (by kernel_rfl)
theorem dl_plain : plainId "dict.update.loop" = true := by decide +kernel
theorem keys_miss : typeLookup (.type "list") ("keys" : Str) = pure none := am_miss_of_fast (by decide +kernel)
section
variable {prog : Program} {w : World} {A : Around} {E : Value → Shared → Prop} {s : Shared}
/-- a list has no keys -/
theorem no_keys {a : Addr} {xs : Array Value} {k : Nat} {Q : Option Value → Shared → Prop} {sl : Array (Option Value)} (hx : s.heap.get? a = some { cls := .type "list", dict := none, data := .seq xs k, slots := sl }) (hA : A.handled = none)
    (h : ∀ h' tk, (∀ b o, s.heap.get? b = some o → h'.get? b = some o) → Q none { s with heap := h', toks := tk }) : wpAny (model prog w) A (getAttr? (.ref a) "keys") Q E s := by
  obtain ⟨hp, g, d, tk, os⟩ := s
  have hT : ∀ tk', (⟨hp, g, d, tk', os⟩ : Shared).TypeIs (.ref a) "list" := fun _ => ⟨_, hx, rfl⟩
  have f1 := sub_AttributeError
  have f3 := F.slot_list_getattribute.lookup
  have f4 := F.slot_list_getattribute.bind (.ref a)
  have f5 := am_list_getattr_none
  unfold getAttr? getAttrBy? getAttrBy
  repeat (any_goals (first | assumption | exact hT _ | ((with_reducible show wpAny _ _ (call (Value.builtin "list.__getattribute__") _ _) _ _ _); refine call_meets F.slot_list_getattribute (hT _) am_entry_list_getattribute (F.args_list_getattribute_2 _ _) (meets_getattribute_miss_list a xs k sl "keys" _ keys_miss (by decide +kernel)) ⟨hx, hA, fun h' tk' e hx' => ?_⟩) | wp_step))
  obtain ⟨t', u', he⟩ := hx'.there
  show wpAny _ _ (getattributeRaised _ _ _ _ _ _ _) _ _ _
  unfold getattributeRaised
  repeat (any_goals (first | assumption | wp_step))
  exact h _ _ hx'.keeps
end

section
variable {prog : Program} {w : World} {A : Around} {R : Result → Shared → Prop} {I : Addr} {fp wr : List Addr} {n : Nat} {P : Nat → Value → Prop} {St : Nat → Heap → Prop}
theorem stored_len (vs : List (Key × Value)) (k : Key) (x : Value) : (stored vs k x).length ≤ vs.length + 1 := by
  unfold stored
  split <;> simp
theorem dict_loop (W : Walks prog w A.in1 I fp wr n P St) (D : Addr) (hD : D ∉ fp) (bs : List Addr) (ks : List (Key × Value)) (hk : ks.length = n)
    (hP : ∀ (i : Nat) (v : Value), P i v → ∃ b : Addr, v = .ref b ∧ bs[i]? = some b) (hsz : n ≤ sizeLine) (hw : ∀ b ∈ bs, b ∉ wr ∧ b ≠ D) :
    ∀ (k i : Nat) (s : Shared) (vs : List (Key × Value)) (j : Int), n - i = k → i ≤ n → St i s.heap → s.heap.DictOf (mixKind prog w) D vs → vs.length ≤ i →
    (∀ (j : Nat) (b : Addr) (kv : Key × Value), bs[j]? = some b → ks[j]? = some kv → ∃ u, keyIs kv.1 u = true ∧ IsTup s.heap b #[u, kv.2]) →
    (∀ h' tk, h'.DictOf (mixKind prog w) D (merged vs (ks.drop i)) → (∀ b o, b ∉ wr → b ≠ D → s.heap.get? b = some o → h'.get? b = some o) → R (.ok (.ret .none)) { s with heap := h', toks := tk }) →
    codeAny (model prog w) A (.builtin "dict.update.loop" ⟨[.ref D, .ref I, rawInt j, .none], []⟩) R s := by
  have hDw : D ∉ wr := fun h => hD (W.sub _ h)
  intro k
  induction k with
  | zero =>
    intro i s vs j hk' hi hst hd hl hb hR
    have hin : i = n := by omega
    subst hin
    refine codeAny_builtin dl_entry ?_
    rw [Around.under_plainId dl_plain _]
    show wpAny _ A.in1 (pyNext (.ref I) >>= _) _ _ s
    refine wpAny_bind (W.done s _ _ hst fun h' tk hk2 => ?_)
    show wpAny _ A.in1 (Builtin.Dict.addKeywords D [] >>= _) _ _ _
    refine wpAny_bind (wpAny_pure ?_)
    refine wpAny_pure (hR h' tk ?_ fun b o h1 _ e => hk2 b o h1 e)
    rw [List.drop_of_length_le (by omega)]
    exact hd.at fun o e => hk2 D o hDw e
  | succ k ih =>
    intro i s vs j hk' hi hst hd hl hb hR
    have hlt : i < n := by omega
    refine codeAny_builtin dl_entry ?_
    rw [Around.under_plainId dl_plain _]
    show wpAny _ A.in1 (pyNext (.ref I) >>= _) _ _ s
    refine wpAny_bind (W.item i s _ _ hlt hst fun v h1 tk hv hst1 hk1 => ?_)
    obtain ⟨b, rfl, eb⟩ := hP i v hv
    have hi2 : i < ks.length := by omega
    have ek : ks[i]? = some ks[i] := List.getElem?_eq_getElem hi2
    obtain ⟨u, hu, ho⟩ := hb i b _ eb ek
    obtain ⟨hbw, hbD⟩ := hw b (List.mem_of_getElem? eb)
    have ho1 : IsTup h1 b #[u, ks[i].2] := let ⟨o, e, r⟩ := ho; ⟨o, hk1 b o hbw e, r⟩
    obtain ⟨o, e, c, m, dd⟩ := ho1
    have hd1 : h1.DictOf (mixKind prog w) D vs := hd.at fun o e => hk1 D o hDw e
    show wpAny _ A.in1 (holding [Value.ref b] _ >>= _) _ _ _
    refine wpAny_bind (wpAny_holding ?_)
    refine wpAny_bind (wpAny_tryCatch ?_)
    unfold Builtin.Dict.pairItems
    refine wpAny_bind (wpAny_typeOf (T := "tuple") ⟨o, e, c⟩ ?_)
    rw [if_pos (by decide)]
    refine wpAny_bind (wpAny_seqItems e dd (wpAny_pure ?_))
    show wpAny _ A.in1 (holding [u, ks[i].2] (dictSet D u ks[i].2)) _ _ _
    refine wpAny_holding (wpAny_dictSet_pairs (knd := mixKind prog w) (k := ks[i].1) hu hd1 (fun h2 hd2 hs2 => ?_) (by omega))
    refine wpAny_pure ⟨plainId_quiet dl_plain _, ?_⟩
    refine ih (i + 1) _ (stored vs ks[i].1 ks[i].2) (j + 1) (by omega) (by omega) (W.frame _ _ _ hst1 fun b hb o e => ?_) hd2 (Nat.le_trans (stored_len _ _ _) (by omega)) (fun j' b' kv' e1 e2 => ?_) fun h3 tk3 hd3 hk3 => ?_
    · exact (hs2.2 b (fun z => hD (z ▸ hb))).trans e
    · obtain ⟨u', hu', ⟨o', e', r'⟩⟩ := hb j' b' kv' e1 e2
      obtain ⟨q1, q2⟩ := hw b' (List.mem_of_getElem? e1)
      exact ⟨u', hu', o', (hs2.2 b' q2).trans (hk1 b' o' q1 e'), r'⟩
    · refine hR h3 tk3 ?_ fun b' o' q1 q2 e' => hk3 b' o' q1 q2 ((hs2.2 b' q2).trans (hk1 b' o' q1 e'))
      rw [List.drop_eq_getElem_cons hi2]
      exact hd3
theorem dict_pairs {E : Value → Shared → Prop} {s : Shared} {src : Addr} {its : Array Value} {c : Nat} {sl : Array (Option Value)} {Q : Value → Shared → Prop} (hh : A.handled = none) (hs : s.heap.get? src = some { cls := .type "list", dict := none, data := .seq its c, slots := sl })
    (bs : List Addr) (ks : List (Key × Value)) (hk : ks.length = its.size) (hP : ∀ (i : Nat) (v : Value), its[i]? = some v → ∃ b : Addr, v = .ref b ∧ bs[i]? = some b) (hsz : its.size ≤ sizeLine)
    (hb : ∀ (j : Nat) (b : Addr) (kv : Key × Value), bs[j]? = some b → ks[j]? = some kv → ∃ u, keyIs kv.1 u = true ∧ IsTup s.heap b #[u, kv.2]) (hbl : bs.length = ks.length)
    (h : ∀ h' tk, h'.DictOf (mixKind prog w) s.heap.objs.size (merged [] ks) → (∀ b o, s.heap.get? b = some o → h'.get? b = some o) → Q (.ref s.heap.objs.size) { s with heap := h', toks := tk }) :
    wpAny (model prog w) A (call (.type "dict") [.ref src]) Q E s := by
  refine callType_codes (Q₁ := fun x t₁ => x = .ref s.heap.objs.size ∧ t₁ = { s with heap := s.heap.push { cls := .type "dict", data := .dict #[] } }) F.kt_called_dict (F.kt_typeCall_dict_1 _) F.entry_dict_init (kt_code_dict_new _ ⟨rfl, rfl⟩) ?_
  rintro x t₁ ⟨rfl, rfl⟩
  have eD : (s.heap.push { cls := .type "dict", data := .dict #[] }).DictOf (mixKind prog w) s.heap.objs.size [] := Heap.DictOf.new s.heap
  have hl := Heap.get?_push_of_some { cls := .type "dict", data := .dict #[] } hs
  refine ⟨eD.typeIs, F.args_dict_init_2 _ _, ?_⟩
  unfold Builtin.«dict.__init__»; refine wpAny_bind ?_; unfold Builtin.Dict.selfAndRest
  refine wpAny_bind (wpAny_notOrdered_dict eD.typeIs (show wpAny _ _ (pure (s.heap.objs.size, [Value.ref src])) _ _ _ from wpAny_pure (show wpAny _ _ (Builtin.Dict.updateFrom "dict.__init__" s.heap.objs.size (.ref src) [] .none) _ _ _ from ?_)))
  unfold Builtin.Dict.updateFrom
  refine wpAny_bind (wpAny_typeOf (T := "list") ⟨_, hl, rfl⟩ ?_)
  rw [if_pos (by decide)]
  refine wpAny_bind (no_keys hl (show A.in1.in1.handled = none from hh) fun h1 tk1 k1 => ?_)
  rw [if_pos (by rfl)]
  refine wpAny_bind (wpAny_rule ?_)
  have hl1 := k1 _ _ hl
  refine wpAny_bind (wpAny_pyIter_list (items := its) ⟨_, hl1, rfl, c, rfl⟩ ?_)
  have hlt : src < h1.objs.size := Heap.lt_size hl1
  have hsrc : src < s.heap.objs.size := Heap.lt_size hs
  have hD1 : s.heap.objs.size < h1.objs.size := by
    obtain ⟨o, _, _, e, _⟩ := eD
    exact Heap.lt_size (k1 _ _ e)
  refine wpAny_pure ⟨plainId_quiet dl_plain _, ?_⟩
  refine dict_loop (A := A.in1) (Walks.list (A := A.in1.in1) (show A.in1.in1.handled = none from hh) h1.objs.size src (Nat.ne_of_lt hlt) its) s.heap.objs.size (fun z => ?_) bs ks hk hP hsz (fun b hb' => ?_) its.size 0 _ [] 0 rfl (Nat.zero_le _)
    ⟨⟨_, Heap.get?_push_size _ rfl, rfl, rfl⟩, ⟨_, Heap.get?_push_of_some _ hl1, rfl, c, rfl⟩⟩ ?_ (Nat.le_refl _) (fun j b kv e1 e2 => ?_) fun h2 tk2 hd2 hk2 => ?_
  · rcases List.mem_cons.mp z with z | z
    · exact absurd z (Nat.ne_of_lt hD1)
    · exact absurd (List.mem_singleton.mp z).symm (Nat.ne_of_lt hsrc)
  · obtain ⟨j, hj, e⟩ := List.mem_iff_getElem.mp hb'
    obtain ⟨u, hu, ⟨o, eo, _⟩⟩ := hb j b (ks[j]'(by omega)) (by rw [List.getElem?_eq_getElem hj, e]) (List.getElem?_eq_getElem _)
    have lt := Heap.lt_size eo
    exact ⟨fun z => absurd (List.mem_singleton.mp z) (Nat.ne_of_lt (Nat.lt_trans lt hD1)), Nat.ne_of_lt lt⟩
  · obtain ⟨o, es, ep, e, r⟩ := eD
    exact ⟨o, es, ep, Heap.get?_push_of_some _ (k1 _ _ e), r⟩
  · obtain ⟨u, hu, ⟨o, eo, r⟩⟩ := hb j b kv e1 e2
    exact ⟨u, hu, o, Heap.get?_push_of_some _ (k1 _ _ (Heap.get?_push_of_some _ eo)), r⟩
  · refine ⟨rfl, h h2 tk2 hd2 fun b o e => ?_⟩
    have lt := Heap.lt_size e
    exact hk2 b o (fun z => absurd (List.mem_singleton.mp z) (Nat.ne_of_lt (Nat.lt_trans lt hD1))) (Nat.ne_of_lt lt) (Heap.get?_push_of_some _ (k1 _ _ (Heap.get?_push_of_some _ e)))
end
section
variable {X : Cx}
/-- dict([(k, v), ..]) -/
theorem call_dictP (hc : X.calm = true) : CallR X (.type "dict") (fun xs H Q => ∃ (p : Addr) (ps : List (Addr × Key × V)), xs = [.ref p] ∧ SqL X.K H p (ps.map fun q => V.ref q.1) ∧ (∀ q ∈ ps, SqT X.K H q.1 [kV q.2.1, q.2.2]) ∧ ∀ l, H l = none → Q (.ref l) (upd H l (.dK (mergeK [] (ps.map (·.2)))))) := by
  intro pins s σ H xs us Q I r h
  obtain ⟨p, ps, rfl, hp, hq, q⟩ := h
  obtain ⟨u, rfl, ru⟩ := vals1 r
  cases ru
  obtain ⟨its, rv, ⟨o, n, e, c1, c2, c3⟩, hz⟩ := I.list hp
  obtain ⟨oc, od, oda, osl⟩ := o
  simp only at c1 c2 c3
  subst c1 c2 c3
  have hlen := rv.length
  rw [List.length_map] at hlen hz
  have mk : ∀ ps : List (Addr × Key × V), (∀ q ∈ ps, SqT X.K H q.1 [kV q.2.1, q.2.2]) → ∃ ks : List (Key × Value), KV (ps.map (·.2)) ks ∧ ∀ (j : Nat) (b : Addr) (kv : Key × Value), (ps.map (·.1))[j]? = some b → ks[j]? = some kv → ∃ u, keyIs kv.1 u = true ∧ IsTup s.heap b #[u, kv.2] := by
    intro ps
    induction ps with
    | nil => intro _; exact ⟨[], .nil, fun j b kv e => by simp at e⟩
    | cons a r ih =>
      intro hq
      obtain ⟨ks, k1, k2⟩ := ih fun x hx => hq x (List.mem_cons_of_mem _ hx)
      obtain ⟨its', rv', ht', _⟩ := I.tuple (hq a List.mem_cons_self)
      obtain ⟨u1, u2, rfl, r1, r2⟩ := vals2 rv'
      refine ⟨(a.2.1, u2) :: ks, .cons ⟨rfl, r2⟩ k1, fun j b kv e1 e2 => ?_⟩
      cases j with
      | zero =>
        simp at e1 e2
        subst e1 e2
        exact ⟨u1, kV_is (P := X.prog) (w := X.w) r1, ht'⟩
      | succ j => exact k2 j b kv (by simpa using e1) (by simpa using e2)
  obtain ⟨ks, k1, k2⟩ := mk ps hq
  have kl := k1.length
  rw [List.length_map] at kl
  refine dict_pairs (I.ok.hd hc) e (ps.map (·.1)) ks (by simp; omega) (fun i v ev => ?_) (by simp; omega) k2 (by simp; omega) fun h' tk hd hk => ?_
  · have ev' : its[i]? = some v := by simpa using ev
    have hi : i < ps.length := by rw [hlen]; exact (List.getElem?_eq_some_iff.mp ev').1
    obtain ⟨u', hu', ru'⟩ := rv.get (i := i) (x := .ref ps[i].1) (by simp [hi])
    rw [ev'] at hu'
    cases hu'
    cases ru'
    exact ⟨ps[i].1, rfl, by simp [hi]⟩
  · have hm : KV (mergeK [] (ps.map (·.2))) (merged [] ks) := KV.merge k1 .nil
    have hz2 : (mergeK [] (ps.map (·.2))).length ≤ sizeLine := by
      have := length_mergeK (ps.map (·.2)) []
      rw [List.length_map] at this
      simp at this
      omega
    have hbig : (s.heap.objs.size == sysModules) = false := by
      have lt := I.big
      exact beq_eq_false_iff_ne.mpr (Nat.ne_of_gt lt)
    exact ⟨.ref s.heap.objs.size, _, I.laid (t' := tk) (o := .dK (mergeK [] (ps.map (·.2)))) hk (Nat.le_refl _) ⟨hz2, hbig, _, hm, hd⟩, rfl, q _ (I.hok.fresh (Nat.le_refl _))⟩
/-- sum([i, ..]) -/
theorem call_sum (hc : X.calm = true) : CallR X (.builtin "sum") (fun xs H Q => ∃ (p : Addr) (ns : List Int), xs = [.ref p] ∧ SqL X.K H p (ns.map V.int) ∧ Q (.int ns.sum) H) := by
  intro pins s σ H xs us Q I r h
  obtain ⟨p, ns, rfl, hp, q⟩ := h
  obtain ⟨u, rfl, ru⟩ := vals1 r
  cases ru
  obtain ⟨its, rv, ht, hz⟩ := I.list hp
  have hi := intsAre_of rv
  obtain ⟨xs, hx⟩ := hi.allInts.items
  have hn : numsOf its.toArray.toList = ns := by rw [show its.toArray.toList = its from rfl, hi.numsOf]
  have hl := ht.isList
  rw [hx] at hl hn
  rw [nums_intItems] at hn
  refine sum_intListG (show X.A.handled = none from I.ok.hd hc) hl fun h' tk t' hk => ?_
  rw [preSum_eq, List.take_of_length_le (by simp), hn]
  exact ⟨.int ns.sum, H, I.kept (t' := tk) hk, ⟨t', rfl⟩, q⟩
theorem mergeK_new : ∀ (more acc : List (Key × V)), ((acc ++ more).map (·.1)).Nodup → mergeK acc more = acc ++ more
  | [], acc, _ => by simp [mergeK]
  | p :: r, acc, h => by
    have hn : ¬ (acc.any fun kv => decide (kv.1 = p.1)) = true := fun z => by
      obtain ⟨kv, h1, h2⟩ := List.any_eq_true.mp z
      rw [List.map_append, List.map_cons] at h
      have := (List.nodup_append.mp h).2.2 kv.1 (List.mem_map_of_mem h1) p.1 List.mem_cons_self
      exact this (of_decide_eq_true h2)
    have e : putK acc p.1 p.2 = acc ++ [p] := by
      unfold putK
      rw [if_neg hn]
    show mergeK (putK acc p.1 p.2) r = _
    rw [e, mergeK_new r (acc ++ [p]) (by simpa using h)]
    simp
theorem b_dict : bootBuiltins "dict" = some (.type "dict") := by decide +kernel
theorem b_sum : bootBuiltins "sum" = some (.builtin "sum") := by decide +kernel
end
/-! ### the types of data -/
end L2

/-! OWN RULES: set(a list of texts), its len; list(reversed(a list)). -/
namespace L2
open PySem PySem.Spec PyProof.Rows
/-! ### unlike ones -/
section
variable {prog : Program} {w : World} {A : Around} {R : Result → Shared → Prop} {I : Addr} {fp wr : List Addr} {n : Nat} {P : Nat → Value → Prop} {St : Nat → Heap → Prop}
end
section
variable {X : Cx}
end
end L2

namespace L2
open PySem PySem.Spec PyProof.Rows
/-! ### list(reversed(l)) -/
theorem rv_len : typeLookup (.type "list_reverseiterator") ("__len__" : Str) = pure none := am_miss_of_fast (by decide +kernel)
theorem rv_hint : typeLookup (.type "list_reverseiterator") ("__length_hint__" : Str) = pure (some (.builtin "list_reverseiterator.__length_hint__")) := by rw [typeLookup_type, builtinLookup_eq_fast]; kernel_rfl
section
variable {prog : Program} {w : World} {A : Around} {E : Value → Shared → Prop} {s : Shared} {r : Addr}
theorem rev_hint {Q : Bool → Shared → Prop} (hT : s.TypeIs (.ref r) "list_reverseiterator") (h : Q false s) : wpAny (model prog w) A (Builtin.List.listLengthHint (.ref r)) Q E s := by
  unfold Builtin.List.listLengthHint
  refine wpAny_bind (wpAny_specialOf hT rv_len ?_)
  show wpAny _ _ (specialOf (.ref r) "__length_hint__" >>= _) _ _ _
  refine wpAny_bind (wpAny_specialOf hT rv_hint ?_)
  generalize hid : ("list_reverseiterator.__length_hint__" : String) = id0
  wp_delta
  rw [show splitId id0 = some ("list_reverseiterator", "__length_hint__") from by subst hid; decide +kernel]
  subst hid
  refine wpAny_bind (wpAny_isInstance (T := "list_reverseiterator") (b := true) hT (by rw [isSubtype_type]; kernel_rfl) ?_)
  refine wpAny_ite_split (fun hab => absurd hab (by decide)) (fun _ => ?_)
  refine wpAny_ite_split (fun _ => ?_) (fun hab => absurd (by decide +kernel) hab)
  refine wpAny_ite_split (fun hab => absurd hab (by decide +kernel)) (fun _ => ?_)
  exact wpAny_pure h
theorem rev_extend {R : Result → Shared → Prop} {src : Addr} {its : Array Value} (hh : A.handled = none) (hl : s.heap.IsList src its) (hi : s.heap.IsRevIter r src ((its.size : Int) - 1)) (hne : src ≠ r) (S : Addr) (hSr : S ≠ r) (hSd : S ≠ src) (res : Value) (c₀ : Nat)
    (hS : s.heap.get? S = some { cls := .type "list", data := .seq #[] c₀ })
    (hR : ∀ h' tk acc' c', (∀ b o, b ≠ S → b ≠ r → s.heap.get? b = some o → h'.get? b = some o) → h'.get? S = some { cls := .type "list", dict := none, data := .seq acc' c', slots := #[] } → ItemsOf (fun i v => its[its.size - 1 - i]? = some v) acc' its.size → R (.ok (.ret res)) { s with heap := h', toks := tk }) (hn : its.size ≤ sizeLine) :
    wpAny (model prog w) A.in1 (Builtin.List.listExtendWith (.ref S) (.ref r) res)
      (fun fin s' => match fin with | .done f => R (.ok f) s' | .again c' => c'.quiet = true ∧ codeAny (model prog w) A c' R s') (fun e s' => R (.error e) s') s := by
  have hSf : S ∉ [r, src] := fun z => by
    rcases List.mem_cons.mp z with z | z
    · exact hSr z
    · exact hSd (List.mem_singleton.mp z)
  have W := Walks.listRev (prog := prog) (w := w) (A := A.in1) hh r src hne its
  have st0 : ∀ {h : Heap}, h.IsRevIter r src ((its.size : Int) - 1) → h.IsList src its → 0 ≤ its.size ∧ h.IsRevIter r src ((its.size : Int) - 1 - ((0 : Nat) : Int)) ∧ h.IsList src its := fun a b => ⟨Nat.zero_le _, by rw [show ((its.size : Int) - 1 - ((0 : Nat) : Int)) = (its.size : Int) - 1 by omega]; exact a, b⟩
  unfold Builtin.List.listExtendWith
  refine wpAny_bind (wpAny_typeOf (T := "list_reverseiterator") hi.typeIs ?_)
  have h1 : Builtin.List.listSameRef (.ref S) (.ref r) = false := by simp [Builtin.List.listSameRef, hSr]
  have n1 : (Value.type "list_reverseiterator" == Value.type "list") = false := by decide
  have n2 : (Value.type "list_reverseiterator" == Value.type "tuple") = false := by decide
  simp only [h1, n1, n2, Bool.or_false, Bool.false_eq_true, if_false]
  refine wpAny_bind (wpAny_pyIter_revIter hi ?_)
  refine wpAny_bind (wpAny_holding (rev_hint hi.typeIs ?_))
  refine wpAny_ite_split (fun hab => absurd hab (by decide +kernel)) (fun _ => wpAny_pure ⟨plainId_quiet PySem.F.plain_extend_loop _, ?_⟩)
  refine codeAny_extend_loopS W.toS hn S hSf res its.size 0 _ #[] c₀ rfl (Nat.zero_le _) (st0 hi hl) hS (ItemsOf.nil _) fun s' acc' c' hm hS' hacc => ?_
  rw [Moved.eq_with hm]
  refine hR s'.heap s'.toks acc' c' (fun b o hb hb2 e => hm.heap b o (fun hmem => ?_) e) hS' hacc
  rcases List.mem_cons.mp hmem with e' | hmem
  · exact hb e'
  · exact hb2 (List.mem_singleton.mp hmem)
theorem list_rev {Q : Value → Shared → Prop} {src : Addr} {its : Array Value} (hh : A.handled = none) (hl : s.heap.IsList src its) (hi : s.heap.IsRevIter r src ((its.size : Int) - 1)) (hne : src ≠ r) (hn : its.size ≤ sizeLine)
    (hQ : ∀ h' tk acc' c', (∀ b o, b ≠ r → s.heap.get? b = some o → h'.get? b = some o) → h'.get? s.heap.objs.size = some { cls := .type "list", dict := none, data := .seq acc' c', slots := #[] } → ItemsOf (fun i v => its[its.size - 1 - i]? = some v) acc' its.size → Q (.ref s.heap.objs.size) { s with heap := h', toks := tk }) :
    wpAny (model prog w) A (call (.type "list") [.ref r]) Q E s := by
  refine callType_codes (Q₁ := fun x t₁ => x = .ref s.heap.objs.size ∧ t₁ = { s with heap := s.heap.push { cls := .type "list", data := .seq #[] } }) PySem.F.called_list (PySem.F.typeCall_list_1 _) PySem.F.entry_list_init (code_list_new _ ⟨rfl, rfl⟩) fun x t₁ h₁ => ?_
  obtain ⟨rfl, rfl⟩ := h₁
  have g1 : (s.heap.push { cls := .type "list", data := .seq #[] }).get? s.heap.objs.size = some { cls := .type "list", data := .seq #[] } := Heap.get?_push_size _ rfl
  have lr : r < s.heap.objs.size := let ⟨o, e, _⟩ := hi; Heap.lt_size e
  have ls : src < s.heap.objs.size := let ⟨o, e, _⟩ := hl; Heap.lt_size e
  refine ⟨⟨_, g1, rfl⟩, PySem.F.args_list_init_2 _ _, ?_⟩
  show wpAny _ _ (do let old ← Builtin.List.listItems (.ref s.heap.objs.size); Builtin.List.listUpdate (.ref s.heap.objs.size) (fun _ => #[]); letGo old.toList.reverse; Builtin.List.listExtendWith (.ref s.heap.objs.size) (.ref r) .none) _ _ _
  refine wpAny_bind ?_
  unfold Builtin.List.listItems
  refine wpAny_bind (wpAny_seqItems g1 rfl (wpAny_pure ?_))
  show wpAny _ _ (updateSeq s.heap.objs.size (fun _ => #[]) >>= fun _ => letGo (#[] : Array Value).toList.reverse >>= fun _ => Builtin.List.listExtendWith (.ref s.heap.objs.size) (.ref r) .none) _ _ _
  refine wpAny_bind (wpAny_updateSeq g1 rfl ?_)
  have g2 := Heap.get?_update_self (Obj.mapSeq (fun _ => (#[] : Array Value))) g1 rfl
  have oth : ∀ b o, b ≠ s.heap.objs.size → s.heap.get? b = some o → ((s.heap.push { cls := .type "list", data := .seq #[] }).update s.heap.objs.size (Obj.mapSeq (fun _ => (#[] : Array Value)))).get? b = some o :=
    fun b o hb e => (Heap.get?_update_other _ _ (Ne.symm hb)).trans (Heap.get?_push_of_some _ e)
  refine wpAny_bind (wpAny_letGo ?_)
  refine rev_extend (A := A.in1) hh (hl.at fun o e => oth _ o (Nat.ne_of_lt ls) e) (hi.at fun o e => oth _ o (Nat.ne_of_lt lr) e) hne s.heap.objs.size (Nat.ne_of_gt lr) (Nat.ne_of_gt ls) .none _ g2 (fun h' tk acc' c' hk hS' hacc => ?_) hn
  exact ⟨rfl, hQ h' tk acc' c' (fun b o hb e => hk b o (Nat.ne_of_lt (Heap.lt_size e)) hb (oth b o (Nat.ne_of_lt (Heap.lt_size e)) e)) hS' hacc⟩
end
section
variable {X : Cx}
def tListRev (K : PySem.W.Frag) (te : TE) : TE := fun σ H Q => te σ H fun x H1 => ∃ a xs, x = .ref a ∧ SqL K H1 a xs ∧ ∀ l, H1 l = none → Q (.ref l) (upd H1 l (.lst xs.reverse))
theorem b_reversed : bootBuiltins "reversed" = some (.type "reversed") := by decide +kernel
theorem b_list' : bootBuiltins "list" = some (.type "list") := by decide +kernel
/-- list(reversed(e)) -/
theorem pe_listRev {e : Expr} {te : TE} {p p2 pos pos2 : Pos} (he : PE X e te) (hc : X.calm = true) (g1 : Gl X "list") (m1 : X.mg "list" = none) (g2 : Gl X "reversed") (m2 : X.mg "reversed" = none)
    (h1 : starEach [.Call (.Name "reversed" p2) [e] [] pos2] X.env = [(false, eval (.Call (.Name "reversed" p2) [e] [] pos2) X.env)] := by rfl) (h2 : starEach [e] X.env = [(false, eval e X.env)] := by rfl) :
    PE X (.Call (.Name "list" p) [.Call (.Name "reversed" p2) [e] [] pos2] [] pos) (tListRev X.K te) := by
  intro pins s σ H Q I h
  refine wpAny_Call_Name_kw (ld_blt I g1 m1 b_list' ?_ (by decide) (by decide))
  refine PyProof.Rows.callWith_type1 ?_ h1 rfl
  rw [h1]
  show wpAny _ _ (spliced [(false, eval (.Call (.Name "reversed" p2) [e] [] pos2) X.env)]) _ _ s
  refine Calls.spliced_cons (wpAny_Call_Name_kw (ld_blt I g2 m2 b_reversed ?_ (by decide) (by decide)))
  refine PyProof.Rows.callWith_type1 ?_ h2 rfl
  rw [h2]
  show wpAny _ _ (spliced [(false, eval e X.env)]) _ _ s
  refine Calls.spliced_cons (thn (he pins s σ H _ I h) fun u s1 ⟨x, H1, I1, r1, q1⟩ => Calls.spliced_nil ?_)
  obtain ⟨a, xs, rfl, hq, q⟩ := q1
  cases r1
  obtain ⟨its, rv, ht, hz⟩ := I1.list hq
  have hlen := rv.length
  refine call_reversed_list ht.isList (Calls.spliced_nil ?_)
  have la : a < s1.heap.objs.size := let ⟨o, n, e, _⟩ := ht; Heap.lt_size e
  refine list_rev (s := { s1 with heap := s1.heap.push _ }) (show X.A.handled = none from I1.ok.hd hc) (ht.isList.push _) ⟨_, Heap.get?_push_size _ rfl, rfl, rfl⟩ (Nat.ne_of_lt la) (by simp; omega) fun h' tk acc' c' hk hS hacc => ?_
  have kp : ∀ b o, s1.heap.get? b = some o → h'.get? b = some o := fun b o z => hk b o (Nat.ne_of_lt (Heap.lt_size z)) (Heap.get?_push_of_some _ z)
  have sz : (s1.heap.push (revObj a ((its.toArray.size : Int) - 1))).objs.size = s1.heap.objs.size + 1 := Heap.size_push ..
  have hle : s1.heap.objs.size ≤ (s1.heap.push (revObj a ((its.toArray.size : Int) - 1))).objs.size := by rw [sz]; exact Nat.le_succ _
  have rr : Vals xs.reverse acc'.toList := vals_of_items (acc := acc'.toList) xs.reverse (by simpa using hacc) (by simp [hlen]) (fun i v y hv hy => by
    have hi : i < xs.length := by simpa using (List.getElem?_eq_some_iff.mp hy).1
    rw [List.getElem?_reverse hi] at hy
    obtain ⟨u', hu', ru'⟩ := rv.get hy
    have hv' : its[its.length - 1 - i]? = some v := by simpa using hv
    rw [hlen] at hu'
    rw [hv'] at hu'
    cases hu'
    exact ru')
  refine ⟨.ref _, _, I1.laid (t' := tk) (o := .lst xs.reverse) kp hle ⟨by simpa using hz, acc'.toList, c', rr, by simpa using hS⟩, rfl, q _ (I1.hok.fresh hle)⟩
end
end L2

/-! OWN RULES: a range with a step, a list unpacked, a text told 0 or 1 times, in / not in by data. -/
namespace L2
open PySem PySem.Spec PyProof.Rows
/-! ### range with a step -/
def Itrs (lo c : Int) (n : Nat) : It := ⟨fun i _ => i < n, fun i H v H' => H' = H ∧ v = .int (lo + i * c), fun i _ => n ≤ i⟩
theorem turn_rangeS {P : Program} {w : World} {K : PySem.W.Frag} {tg : Expr} (it : Addr) (lo c : Int) (n : Nat) : Turn P w K tg (Itrs lo c n) [it] it (fun i h => IsRangeIter h it (lo + (i : Nat) * c) ((n : Int) - (i : Nat)) c) where
  mem := by simp
  obj := fun i h st b hb => by
    have e : b = it := by simpa using hb
    subst e
    exact ⟨_, st, fun v z => by
      have z' : Data.fields _ = Data.cell v := z
      cases z'⟩
  keep := fun i h h' st k => k it (by simp) _ st
  item := by
    intro X hP hw hK hc i pins s σ H E I hf st hg
    subst hP hw hK
    obtain ⟨f0, f1, f2, f3, f4, f5⟩ := hf it (by simp)
    have W := Walks.range (prog := X.prog) (w := X.w) (I.ok.hd hc) it lo c n
    refine W.item i s _ _ hg st fun v h' tk hv st' kk => ?_
    obtain ⟨t, rfl⟩ := hv
    have I1 : Inv X pins σ H { s with heap := h', toks := tk } := I.turned (fun b o hb e => kk b o (by simpa using hb) e) f0 f1 f3 f4 f5
    exact ⟨_, rfl, go_of (s := { s with heap := h', toks := tk }) (n := "range_iterator") st' rfl rfl (by decide) ⟨.int (lo + i * c), H, I1, ⟨t, rfl⟩, ⟨rfl, rfl⟩, st', fun b hb => (hf b hb).1⟩⟩
  done := by
    intro X hP hw hK hc i pins s σ H E I hf st hg
    subst hP hw hK
    obtain ⟨f0, f1, f2, f3, f4, f5⟩ := hf it (by simp)
    exact wpAny_pyNext_range_end (I.ok.hd hc) st (by have : n ≤ i := hg; omega) fun h' eb => ⟨rfl, I.turned (t' := s.toks) (fun b o hb e => eb b o hb e) f0 f1 f3 f4 f5⟩
  self := fun _ _ _ _ _ st h => wpAny_pyIter_rangeiter st h
def iRng3 (ta : TA) : TI := fun σ H R => ta σ H fun vs H1 => ∃ (i j c : Int) (n : Nat), vs = [.int i, .int j, .int c] ∧ c ≠ 0 ∧ c.natAbs < 1073741824 ∧ Builtin.Range.small i j c = true ∧ Builtin.Range.rangeSize i j c = (n : Int) ∧ R (Itrs i c n) H1
theorem pi_range3 {X : Cx} {tg a b c : Expr} {ta : TA} {p pos : Pos} (hg : Gl X "range") (hm : X.mg "range" = none) (ha : PA X [a, b, c] ta) (hs : starEach [a, b, c] X.env = [(false, eval a X.env), (false, eval b X.env), (false, eval c X.env)] := by rfl)
    (hs2 : starEach [b, c] X.env = [(false, eval b X.env), (false, eval c X.env)] := by rfl) : PI X tg (.Call (.Name "range" p) [a, b, c] [] pos) (iRng3 ta) := by
  intro pins s σ H R I h
  refine Call_ (ld_blt I hg hm boot_range (PyProof.Rows.callWith_type1 (thn (ha pos pins s σ H _ I h) fun us s1 ⟨vs, H1, I1, r1, q1⟩ => ?_) (by rw [hs, hs2]) (by rw [hs2]; rfl)))
  obtain ⟨i, j, c, n, e, h0, h1, h2, h3, q⟩ := q1
  subst e
  cases r1 with
  | cons r rr =>
    cases rr with
    | cons r' rr =>
      cases rr with
      | cons r'' rr =>
        cases rr
        obtain ⟨t, rfl⟩ := r
        obtain ⟨t', rfl⟩ := r'
        obtain ⟨t'', rfl⟩ := r''
        refine call_range_3 h0 ?_ (Or.inl (PyProof.noPylong_small h1))
        refine wpAny_pyIter_range (IsRange.new ..) h2 ?_
        have I2 : Inv X pins σ H1 { s1 with heap := s1.heap.push { cls := .type "range", data := .fields #[.int i t, .int j t', .int c t''] }, toks := s1.toks } := I1.kept fun b o e => Heap.get?_push_of_some _ e
        refine ⟨(s1.heap.push { cls := .type "range", data := .fields #[.int i t, .int j t', .int c t''] }).objs.size, [(s1.heap.push { cls := .type "range", data := .fields #[.int i t, .int j t', .int c t''] }).objs.size], _, _, H1, rfl,
          I2.kept (t' := s1.toks) fun b o e => Heap.get?_push_of_some _ e, turn_rangeS _ i c n, ?_, fun b hb => ?_, q⟩
        · have e1 : i + ((0 : Nat) : Int) * c = i := by simp
          have e2 : ((n : Nat) : Int) - ((0 : Nat) : Int) = Builtin.Range.rangeSize i j c := by rw [h3]; omega
          show IsRangeIter _ _ (i + ((0 : Nat) : Int) * c) (((n : Nat) : Int) - ((0 : Nat) : Int)) c
          rw [e1, e2]
          exact Heap.get?_push_size _ rfl
        · have e : b = (s1.heap.push { cls := .type "range", data := .fields #[.int i t, .int j t', .int c t''] }).objs.size := by simpa using hb
          subst e
          exact I2.fpOk (Nat.le_refl _) (I2.hok.fresh (Nat.le_refl _))
theorem for_rangeS {lo c : Int} {n : Nat} {g : TG} {tb : TS} {D : Ends} {σ : St} {H : Hp} (Pv : Nat → St → Hp → Prop) (h0 : Pv 0 σ H)
    (hs : ∀ i σ H, i < n → Pv i σ H → g (.int (lo + i * c)) σ H fun σ2 H2 => tb { D with nx := Pv (i + 1), ct := Pv (i + 1), bk := D.nx } σ2 H2) (hd : ∀ σ H, Pv n σ H → D.nx σ H) :
    ∃ W : Nat → Nat → St → Hp → Prop, (∃ m, W 0 m σ H) ∧ ∀ i m σ H, W i m σ H →
      ((Itrs lo c n).stop i H ∧ D.nx σ H) ∨ ((Itrs lo c n).go i H ∧ ∃ N : St → Hp → Prop, (∀ σ' H', N σ' H' → ∃ m', m' < m ∧ W (i + 1) m' σ' H') ∧ ∀ x H', (Itrs lo c n).yld i H x H' → g x σ H' fun σ2 H2 => tb { D with nx := N, ct := N, bk := D.nx } σ2 H2) := by
  refine ⟨fun i m σ H => m = n - i ∧ i ≤ n ∧ Pv i σ H, ⟨n, by simp, Nat.zero_le _, h0⟩, ?_⟩
  rintro i m σ H ⟨rfl, hi, p⟩
  by_cases hlt : i < n
  · refine .inr ⟨hlt, Pv (i + 1), fun σ' H' p' => ⟨n - (i + 1), by omega, rfl, hlt, p'⟩, fun x H' y => ?_⟩
    obtain ⟨e, y⟩ := y
    subst e y
    exact hs i σ _ hlt p
  · have e : i = n := by omega
    subst e
    exact .inl ⟨Nat.le_refl _, hd σ H p⟩
theorem small_two {a b : Int} (ha : -(2 ^ 62) ≤ a) (ha' : a < 2 ^ 62) (hb : -(2 ^ 62) ≤ b) (hb' : b < 2 ^ 62) : Builtin.Range.small a b 2 = true := by
  unfold Builtin.Range.small Builtin.Range.rangeSize
  simp only [Builtin.Range.rangeFitsLong, Bool.and_eq_true, Bool.or_eq_true, decide_eq_true_eq, beq_iff_eq, show (2 : Int) > 0 by decide, if_true]
  split <;> omega
theorem size_two (a b : Int) : ∃ n : Nat, Builtin.Range.rangeSize a b 2 = (n : Int) := by
  unfold Builtin.Range.rangeSize
  simp only [show (2 : Int) > 0 by decide, if_true]
  split
  · exact ⟨((b - a - 1) / 2 + 1).toNat, by omega⟩
  · exact ⟨0, rfl⟩
/-! ### a, b = a list -/
section
variable {prog : Program} {w : World} {A : Around} {E : Value → Shared → Prop}
end
/-! ### a text, 0 or 1 times -/
theorem op_rep01 {X : Cx} : OpR X (binaryOp .Mult) (fun x y H Q => ∃ z i, x = .str z ∧ y = .int i ∧ (i = 0 ∨ i = 1) ∧ Q (.str (if i = 0 then Str.empty else z)) H) := by
  intro pins s σ H x y v u Q I rx ry h
  obtain ⟨z, i, rfl, rfl, hi, q⟩ := h
  obtain ⟨t, rfl⟩ := rx
  obtain ⟨t', rfl⟩ := ry
  rcases hi with rfl | rfl
  · exact PySem.P.mul_str_none (by decide) (by decide) ⟨.str Str.empty, H, I.tok _, ⟨_, rfl⟩, q⟩
  · refine PySem.P.mul_str (by decide) (fun _ h => ?_) (fun _ h => ?_) ?_
    · simp at h
    · simp at h
    · rw [if_neg (by decide), if_pos (by simp)]
      exact ⟨.str z, H, I, ⟨_, rfl⟩, q⟩
/-! ### in, by data -/
end L2

/-! OWN RULES: a walk over reversed(list). -/
namespace L2
open PySem PySem.Spec PyProof.Rows
end L2

namespace L2
open PySem PySem.Spec PyProof.Rows
/-! ### index and remove on lists of texts; the text of a list -/
section
variable {X : Cx}
end
end L2

/-! OWN RULES: a comprehension with names of its own that a comprehension within it takes along. -/
namespace L2
open PySem PySem.Spec PyProof.Rows
/-! ### its own cells -/
def ownTop (n : Nat) : List (Str × NameKind) → Nat
  | [] => n
  | (_, k) :: r => if k == .cell then ownTop (n + 1) r else ownTop n r
theorem ownTop_le : ∀ (names : List (Str × NameKind)) (n : Nat), n ≤ ownTop n names
  | [], n => Nat.le_refl n
  | (_, k) :: r, n => by
    unfold ownTop
    split
    · exact Nat.le_trans (Nat.le_succ n) (ownTop_le r (n + 1))
    · exact ownTop_le r n
/-- where a name is found: its own, or taken along -/
theorem own_or : ∀ (names : List (Str × NameKind)) (n : Nat) (acc : List (Str × Addr)) {x : Str} {c : Addr}, (cellsFrom n names acc).lookup x = some c → (n ≤ c ∧ c < ownTop n names) ∨ (acc.lookup x = some c ∧ (x, NameKind.cell) ∉ names)
  | [], n, acc, x, c, h => .inr ⟨h, fun z => nomatch z⟩
  | (y, k) :: r, n, acc, x, c, h => by
    unfold cellsFrom at h
    unfold ownTop
    by_cases hk : (k == NameKind.cell) = true
    · rw [if_pos hk] at h ⊢
      rcases own_or r (n + 1) ((y, n) :: acc) h with ⟨h1, h2⟩ | ⟨h1, h2⟩
      · exact .inl ⟨by omega, h2⟩
      · rw [List.lookup_cons] at h1
        cases hx : x == y with
        | true =>
          rw [hx] at h1
          cases h1
          exact .inl ⟨Nat.le_refl _, Nat.lt_of_lt_of_le (Nat.lt_succ_self _) (ownTop_le r (n + 1))⟩
        | false =>
          rw [hx] at h1
          refine .inr ⟨h1, fun z => ?_⟩
          rcases List.mem_cons.mp z with z | z
          · have : x = y := (Prod.mk.inj z).1
            rw [this] at hx
            simp at hx
          · exact h2 z
    · rw [if_neg hk] at h ⊢
      rcases own_or r n acc h with h1 | ⟨h1, h2⟩
      · exact .inl h1
      · refine .inr ⟨h1, fun z => ?_⟩
        rcases List.mem_cons.mp z with z | z
        · have : NameKind.cell = k := (Prod.mk.inj z).2
          rw [← this] at hk
          exact hk rfl
        · exact h2 z
theorem own_some : ∀ (names : List (Str × NameKind)) (n : Nat) (acc : List (Str × Addr)) {x : Str}, ((∃ c, acc.lookup x = some c) ∨ (x, NameKind.cell) ∈ names) → ∃ c, (cellsFrom n names acc).lookup x = some c
  | [], n, acc, x, h => by
    rcases h with h | h
    · exact h
    · cases h
  | (y, k) :: r, n, acc, x, h => by
    unfold cellsFrom
    by_cases hk : (k == NameKind.cell) = true
    · rw [if_pos hk]
      refine own_some r (n + 1) ((y, n) :: acc) ?_
      rw [List.lookup_cons]
      cases hx : x == y with
      | true => exact .inl ⟨n, rfl⟩
      | false =>
        rcases h with h | h
        · exact .inl h
        · rcases List.mem_cons.mp h with h | h
          · have : x = y := (Prod.mk.inj h).1
            rw [this] at hx
            simp at hx
          · exact .inr h
    · rw [if_neg hk]
      refine own_some r n acc (h.imp id fun h => ?_)
      rcases List.mem_cons.mp h with h | h
      · have : NameKind.cell = k := (Prod.mk.inj h).2
        rw [← this] at hk
        exact absurd rfl hk
      · exact h
theorem own_in {names : List (Str × NameKind)} {n : Nat} {acc : List (Str × Addr)} {x : Str} {c : Addr} (h : (x, NameKind.cell) ∈ names) (e : (cellsFrom n names acc).lookup x = some c) : n ≤ c ∧ c < ownTop n names := by
  rcases own_or names n acc e with h1 | ⟨_, h2⟩
  · exact h1
  · exact absurd h h2
theorem own_not {names : List (Str × NameKind)} {n : Nat} {acc : List (Str × Addr)} {x : Str} (h : (x, NameKind.cell) ∉ names) : (cellsFrom n names acc).lookup x = acc.lookup x := by
  induction names generalizing n acc with
  | nil => rfl
  | cons p r ih =>
    obtain ⟨y, k⟩ := p
    unfold cellsFrom
    by_cases hk : (k == NameKind.cell) = true
    · rw [if_pos hk, ih fun z => h (List.mem_cons_of_mem _ z), List.lookup_cons]
      cases hx : x == y with
      | true =>
        exfalso
        refine h ?_
        rw [eq_of_beq hx, eq_of_beq hk]
        exact List.mem_cons_self
      | false => rfl
    · rw [if_neg hk]
      exact ih fun z => h (List.mem_cons_of_mem _ z)
theorem own_inj : ∀ (names : List (Str × NameKind)) (n : Nat) (acc : List (Str × Addr)), (∀ x c, acc.lookup x = some c → c < n) → (∀ x y c, acc.lookup x = some c → acc.lookup y = some c → x = y) →
    ∀ x y c, (cellsFrom n names acc).lookup x = some c → (cellsFrom n names acc).lookup y = some c → x = y
  | [], _, _, _, h => h
  | (y0, k) :: r, n, acc, hb, hi => by
    unfold cellsFrom
    by_cases hk : (k == NameKind.cell) = true
    · rw [if_pos hk]
      refine own_inj r (n + 1) ((y0, n) :: acc) (fun x c e => ?_) (fun x y c e1 e2 => ?_)
      · rw [List.lookup_cons] at e
        cases hx : x == y0 with
        | true => rw [hx] at e; cases e; exact Nat.lt_succ_self _
        | false => rw [hx] at e; exact Nat.lt_succ_of_lt (hb x c e)
      · rw [List.lookup_cons] at e1 e2
        cases hx : x == y0 with
        | true =>
          rw [hx] at e1
          cases e1
          cases hy : y == y0 with
          | true => rw [eq_of_beq hx, eq_of_beq hy]
          | false => rw [hy] at e2; exact absurd (hb y n e2) (Nat.lt_irrefl _)
        | false =>
          rw [hx] at e1
          cases hy : y == y0 with
          | true => rw [hy] at e2; cases e2; exact absurd (hb x n e1) (Nat.lt_irrefl _)
          | false => rw [hy] at e2; exact hi x y c e1 e2
    · rw [if_neg hk]
      exact own_inj r n acc hb hi
theorem own_cell : ∀ (names : List (Str × NameKind)) (h : Heap) (c : Addr), h.objs.size ≤ c → c < ownTop h.objs.size names → (pushCells h names).IsCell c none
  | [], h, c, h1, h2 => absurd (Nat.lt_of_lt_of_le h2 h1) (Nat.lt_irrefl _)
  | (y, k) :: r, h, c, h1, h2 => by
    unfold ownTop at h2
    unfold pushCells
    by_cases hk : (k == NameKind.cell) = true
    · rw [if_pos hk] at h2 ⊢
      by_cases e : c = h.objs.size
      · subst e
        exact ⟨_, pushCells_keeps r _ _ _ (Heap.get?_push_size _ rfl), rfl⟩
      · refine own_cell r _ c (by rw [Heap.size_push]; exact Nat.lt_of_le_of_ne h1 (fun z => e z.symm)) (by rw [Heap.size_push]; exact h2)
    · rw [if_neg hk] at h2 ⊢
      exact own_cell r h c h1 h2
/-- the context of such a comprehension's block -/
def cxCompZ (X : Cx) (N : List Str) (scope : Scope) (cl : List (Str × Addr)) (s : Shared) (H : Hp) (ex : List Addr) : Cx :=
  { cxComp X N scope (cellsFrom (s.heap.objs.size + 1) scope.names cl) s H ex with fn := fun x => decide (scope.names.lookup x = some .cell) }
def compOkZ (N₀ : List Str) (sc₀ scope : Scope) (N : List Str) (xs : Nat) (js : List Nat) : Bool :=
  scope.kind == .function && (scope.names.all fun y => y.2 != .cell || scope.names.lookup y.1 == some .cell) && (scope.names.all fun y => y.2 != .local || scope.names.lookup y.1 == some .local) &&
  (scope.names.all fun y => y.2 != .free || (sc₀.names.lookup y.1 == some .cell || sc₀.names.lookup y.1 == some .free)) && N.length == xs + js.length &&
  (List.range js.length).all fun i => match js[i]?, N[xs + i]? with
    | some j, some x => N₀[j]? == some x && scope.names.lookup x == some .free
    | _, _ => false
structure CompScopeZ (X : Cx) (scope : Scope) (N : List Str) (xs : Nat) (js : List Nat) : Prop where
  kind : scope.kind = .function
  own : ∀ y ∈ scope.names, y.2 = .cell → scope.names.lookup y.1 = some .cell
  once : ∀ y ∈ scope.names, y.2 = .local → scope.names.lookup y.1 = some .local
  caught : ∀ y ∈ scope.names, y.2 = .free → X.env.kindOf y.1 = some .cell ∨ X.env.kindOf y.1 = some .free
  len : N.length = xs + js.length
  at_ : ∀ (i j : Nat) (x : Str), js[i]? = some j → N[xs + i]? = some x → X.N[j]? = some x ∧ scope.names.lookup x = some .free
theorem compScopeZ_of {X : Cx} {scope : Scope} {N : List Str} {xs : Nat} {js : List Nat} (h : compOkZ X.N X.env.scope scope N xs js = true) : CompScopeZ X scope N xs js := by
  unfold compOkZ at h
  simp only [Bool.and_eq_true] at h
  obtain ⟨⟨⟨⟨⟨h1, h2⟩, h3⟩, h4⟩, h5⟩, h6⟩ := h
  refine ⟨by simpa using h1, fun y hy e => ?_, fun y hy e => ?_, fun y hy e => ?_, by simpa using h5, fun i j x e1 e2 => ?_⟩
  · have := List.all_eq_true.mp h2 y hy
    rw [e] at this
    simpa using this
  · have := List.all_eq_true.mp h3 y hy
    rw [e] at this
    simpa using this
  · have := List.all_eq_true.mp h4 y hy
    rw [e] at this
    simpa [Env.kindOf] using this
  · have hi : i < js.length := (List.getElem?_eq_some_iff.mp e1).1
    have := List.all_eq_true.mp h6 i (List.mem_range.mpr hi)
    rw [e1, e2] at this
    simpa using this
theorem wpAny_envZ {M : Model} {A : Around} {E : Value → Shared → Prop} {s : Shared} {scope : Scope} {globals : Addr} {closure : List (Str × Addr)} {qual : Str} {func : Option Addr} {code : Value} {around : Env} {Q : Env → Shared → Prop}
    (hQ : Q (newEnv scope s.heap.objs.size globals (cellsFrom (s.heap.objs.size + 1) scope.names closure) qual func code (some around) builtinsNs) { s with heap := pushCells (s.heap.push { cls := .type "dict", data := .dict #[] }) scope.names }) :
    wpAny M A (newFunctionEnv scope globals closure [] qual func code (some around)) Q E s := by
  simp only [newFunctionEnv, Option.isSome_some, if_true]
  refine wpAny_bind (wpAny_alloc ?_)
  refine wpAny_bind (wpAny_layCells _ (fun name kind cells => by cases hkc : kind == NameKind.cell <;> simp [hkc]) _ _ _ _ ?_)
  rw [show ({ s with heap := s.heap.push { cls := .type "dict", data := .dict #[] } } : Shared).heap.objs.size = s.heap.objs.size + 1 from Heap.size_push ..]
  rw [List.forIn_nil]
  exact wpAny_bind (wpAny_pure (wpAny_pure hQ))
section
variable {X : Cx} {pins : List (Addr × Obj)} {σ : St} {H : Hp} {s : Shared} {scope : Scope} {N : List Str} {xs : Nat} {js : List Nat} {cl : List (Str × Addr)} {fp : List Addr} {o : Obj}
theorem comp_okZ (I : Inv X pins σ H s) (S : CompScopeZ X scope N xs js) (h2 : ∀ x c, cl.lookup x = some c → X.env.cells.lookup x = some c) (h4 : ∀ y ∈ scope.names, y.2 = .free → ∃ c, cl.lookup y.1 = some c)
    (hf : ∀ b ∈ fp, FpOk X pins H b) (hfo : ∀ b ∈ fp, ∃ u, s.heap.get? b = some u) :
    (cxCompZ X N scope cl { s with heap := s.heap.push o } H (s.heap.objs.size :: fp)).Ok := by
  have I3 : Inv X pins σ H { s with heap := s.heap.push o } := I.kept (t' := s.toks) fun b u e => Heap.get?_push_of_some _ e
  have hsz : (s.heap.push o).objs.size = s.heap.objs.size + 1 := Heap.size_push ..
  have hcl : ∀ x c, cl.lookup x = some c → c < s.heap.objs.size := fun x c e => by
    obtain ⟨v, u, hu, _⟩ := I.cell x c (h2 x c e)
    exact Heap.lt_size hu
  have zs : ({ s with heap := s.heap.push o } : Shared).heap.objs.size = s.heap.objs.size + 1 := hsz
  have found : ∀ x c, (cellsFrom (({ s with heap := s.heap.push o } : Shared).heap.objs.size + 1) scope.names cl).lookup x = some c → (s.heap.objs.size + 2 ≤ c) ∨ cl.lookup x = some c := fun x c e => by
    rcases own_or _ _ _ e with h | h
    · exact .inl (by have := h.1; rw [zs] at this; omega)
    · exact .inr h.1
  refine ⟨I.ok.mod, S.kind, I.ok.glob, I.ok.blt, Nat.le_refl _, own_inj _ _ _ (fun x c e => ?_) (fun x y c e1 e2 => I.ok.inj x y c (h2 x c e1) (h2 y c e2)), fun x hx => ?_, fun x c e1 e2 => ?_, I.ok.hd, I.ok.frames, .inl rfl, fun b hb => ?_, I3.bs, Nat.le_trans I3.ok.bsz I3.sz,
    fun b u e hb => ?_, fun b hb => ?_, I3.stack, I3.stkFree⟩
  · have := hcl x c e
    show c < (s.heap.push o).objs.size + 1
    rw [hsz]
    exact Nat.lt_succ_of_lt (Nat.lt_succ_of_lt this)
  · obtain ⟨y, hy, rfl, hk⟩ := relabel_kind (scope := scope) (env := X.env) (x := x) (names := scope.names) hx
    refine own_some _ _ _ ?_
    rcases hk with hk | hk
    · exact .inl (h4 y hy hk)
    · obtain ⟨y1, y2⟩ := y
      cases hk
      exact .inr hy
  · have e1' : scope.names.lookup x = some .cell := of_decide_eq_true e1
    have := (own_in (lookup_mem e1') e2).1
    exact Nat.le_trans (Nat.le_succ _) this
  · show b ≠ (s.heap.push o).objs.size ∧ _
    rcases List.mem_cons.mp hb with rfl | hb
    · exact ⟨by rw [hsz]; exact Nat.ne_of_lt (Nat.lt_succ_self _), fun x c e => (found x c e).elim (fun h => Nat.ne_of_gt (Nat.lt_of_lt_of_le (Nat.lt_add_of_pos_right (by decide)) h)) fun h => Nat.ne_of_lt (hcl x c h)⟩
    · obtain ⟨u, hu⟩ := hfo b hb
      have := Heap.lt_size hu
      exact ⟨by rw [hsz]; exact Nat.ne_of_lt (Nat.lt_succ_of_lt this), fun x c e => (found x c e).elim (fun h => Nat.ne_of_gt (Nat.lt_trans this (Nat.lt_of_lt_of_le (Nat.lt_add_of_pos_right (by decide)) h))) fun h => (hf b hb).2.2.2.2.1 x c (h2 x c h)⟩
  · rcases List.mem_cons.mp hb with rfl | hb
    · exact absurd (Heap.lt_size (I.bk _ u e)) (Nat.lt_irrefl _)
    · rcases (hf b hb).2.2.2.1 with z | z
      · exact I.ok.noex b u e z
      · exact absurd (Nat.lt_of_lt_of_le (Heap.lt_size e) (Nat.le_trans I.ok.bsz z)) (Nat.lt_irrefl _)
  · rcases List.mem_cons.mp hb with rfl | hb
    · exact I.nostk (Nat.le_refl _)
    · intro z
      rcases List.mem_cons.mp (I.stkSub b z) with e | e
      · exact (hf b hb).2.1 e
      · exact (hf b hb).2.2.1 e

theorem comp_invZ {h₁ : Heap} {tk : Nat} (I : Inv X pins σ H s) (S : CompScopeZ X scope N xs js) (h2 : ∀ x c, cl.lookup x = some c → X.env.cells.lookup x = some c) (h4 : ∀ y ∈ scope.names, y.2 = .free → ∃ c, cl.lookup y.1 = some c)
    (hf : ∀ b ∈ fp, FpOk X pins H b) (hfo : ∀ b ∈ fp, ∃ u, s.heap.get? b = some u) (hd : ∀ v, o.data ≠ .cell v) (ho : o.isFreed = false) {m : Str → Option Value}
    (hns : h₁.Ns (s.heap.push o).objs.size m) (k3 : ∀ b u, (s.heap.push o).get? b = some u → h₁.get? b = some u) (hown : ∀ c, (s.heap.push o).objs.size + 1 ≤ c → c < ownTop ((s.heap.push o).objs.size + 1) scope.names → h₁.IsCell c none) :
    Inv (cxCompZ X N scope cl { s with heap := s.heap.push o } H (s.heap.objs.size :: fp)) [(s.heap.objs.size, o)] (List.replicate xs none ++ capOf σ js) H { s with heap := h₁, toks := tk } := by
  have hsz : (s.heap.push o).objs.size = s.heap.objs.size + 1 := Heap.size_push ..
  have k2 : ∀ b u, s.heap.get? b = some u → h₁.get? b = some u := fun b u e => k3 b u (Heap.get?_push_of_some _ e)
  refine ⟨comp_okZ I S h2 h4 hf hfo, rfl, I.bare, Un.kept k3, ⟨m, hns, fun i x v e1 e2 e3 => ?_⟩, fun x c e => ?_, I.hok.fresh (show s.heap.objs.size ≤ (s.heap.push o).objs.size by rw [hsz]; exact Nat.le_succ _), fun x c e => ?_, fun p hp => ?_, I.hok.kept k2, ?_⟩
  · obtain ⟨k, j, rfl, hj, hσ⟩ := getElem_capOf e2
    obtain ⟨hN, hl⟩ := S.at_ k j x hj e1
    have hmem := lookup_mem hl
    have hk := S.caught _ hmem rfl
    obtain ⟨m', _, hloc⟩ := I.loc
    obtain ⟨u, r, l⟩ := hloc j x v hN hσ (by rcases hk with z | z; exact .inr (.inl z); exact .inr (.inr z))
    refine ⟨u, r, ?_⟩
    rcases l with ⟨z, _⟩ | ⟨_, c, ec, oc, hoc, hdc⟩
    · rcases hk with q | q <;> rw [q] at z <;> cases z
    · obtain ⟨c', ec'⟩ := h4 _ hmem rfl
      have := h2 _ _ ec'
      have e : c = c' := Option.some.inj (ec.symm.trans this)
      subst e
      have hno : (x, NameKind.cell) ∉ scope.names := fun z => by
        have := S.own _ z rfl
        rw [hl] at this
        cases this
      exact .inr ⟨relabel_free (env := X.env) hl, c, (own_not hno).trans ec', oc, k2 _ _ hoc, hdc⟩
  · rcases own_or _ _ _ (show (cellsFrom ((s.heap.push o).objs.size + 1) scope.names cl).lookup x = some c from e) with h | h
    · exact ⟨none, hown c h.1 h.2⟩
    · obtain ⟨v, oc, hoc, hdc⟩ := I.cell x c (h2 x c h.1)
      exact ⟨v, oc, k2 _ _ hoc, hdc⟩
  · rcases own_or _ _ _ (show (cellsFrom ((s.heap.push o).objs.size + 1) scope.names cl).lookup x = some c from e) with h | h
    · exact I.hok.fresh (show s.heap.objs.size ≤ c by have := h.1; rw [hsz] at this; omega)
    · exact I.freeC x c (h2 x c h.1)
  · have e : p = (s.heap.objs.size, o) := by simpa [cxCompZ, cxComp] using hp
    subst e
    exact ⟨k3 _ _ (Heap.get?_push_size _ ho), I.hok.fresh (Nat.le_refl _), (show s.heap.objs.size ≠ (s.heap.push o).objs.size by rw [hsz]; exact Nat.ne_of_lt (Nat.lt_succ_self _)), I.nostk (Nat.le_refl _), hd⟩
  · rw [List.length_append, List.length_replicate]
    unfold capOf
    rw [List.length_map]
    exact S.len.symm

/-- back in the frame around -/
theorem comp_backZ {s' : Shared} {H' : Hp} {σ' : St} {its : List Value} {n : Nat} {acc : List V} (I : Inv X pins σ H s) (hf : ∀ b ∈ fp, FpOk X pins H b)
    (J : Inv (cxCompZ X N scope cl { s with heap := s.heap.push o } H (s.heap.objs.size :: fp)) [(s.heap.objs.size, ({ cls := .type "list", data := .seq its.toArray n } : Obj))] σ' H' s')
    (rv : Vals acc its) (hz : acc.length ≤ sizeLine) :
    Inv X pins σ (upd H' s.heap.objs.size (.lst acc)) s' ∧ FpOk X pins (upd H' s.heap.objs.size (.lst acc)) (s.heap.push o).objs.size ∧ H' s.heap.objs.size = none := by
  have hsz : (s.heap.push o).objs.size = s.heap.objs.size + 1 := Heap.size_push ..
  obtain ⟨hD, hn, _, _, _⟩ := J.pin (s.heap.objs.size, ({ cls := .type "list", data := .seq its.toArray n } : Obj)) (by simp [cxCompZ, cxComp])
  have nd : ∀ b u, H' b = some u → b ≠ s.heap.objs.size := fun b u e => ne_of_none e hn
  have lt : ∀ b u, s.heap.get? b = some u → b ∉ fp → b ∉ s.heap.objs.size :: fp := fun b u e hb z => by
    rcases List.mem_cons.mp z with z | z
    · exact absurd (Heap.lt_size e) (by rw [z]; exact Nat.lt_irrefl _)
    · exact hb z
  have ps : ∀ b u, s.heap.get? b = some u → (s.heap.push o).get? b = some u := fun b u e => Heap.get?_push_of_some _ e
  refine ⟨I.call' (ch := fp) J.os ⟨fun b u e q hb hx => J.base.keep b u (ps b u e) q hb (lt b u e hx), fun b u e q hb hx => J.base.slot b u (ps b u e) q hb (lt b u e hx), fun b u e q hx => ?_, fun b u e hx => J.base.there b u (ps b u e) (lt b u e hx),
    fun b ys e => ?_, fun b u ys e => ?_, fun b ys e => ?_⟩ (fun b u e => ?_) J.bare (fun b hb => ?_), ?_, hn⟩
  · rw [upd_ne (Nat.ne_of_lt (Heap.lt_size e))]
    exact J.base.free b u (ps b u e) q (lt b u e hx)
  · have z := J.base.tups b ys e
    rw [upd_ne (nd _ _ z)]; exact z
  · have z := J.base.frzs b u ys e
    rw [upd_ne (nd _ _ z)]; exact z
  · obtain ⟨more, z⟩ := J.base.tbls b ys e
    exact ⟨more, by rw [upd_ne (nd _ _ z)]; exact z⟩
  · by_cases hb : b = s.heap.objs.size
    · subst hb
      rw [upd_same] at e
      cases e
      exact ⟨hz, its, n, rv, hD⟩
    · rw [upd_ne hb] at e
      exact (J.hok b u e).stay (fun c v _ q => q) (fun c q => by rw [upd_ne (nd _ _ q)]; exact q) fun c ys q => by rw [upd_ne (nd _ _ q)]; exact q
  · obtain ⟨_, f1, _, f3, f4, f5⟩ := hf b hb
    exact ⟨f3, f1, f4, f5⟩
  · have I3 : Inv X pins σ H { s with heap := s.heap.push o } := I.kept (t' := s.toks) fun b u e => Heap.get?_push_of_some _ e
    refine I3.fpOk (Nat.le_refl _) ?_
    rw [upd_ne (show (s.heap.push o).objs.size ≠ s.heap.objs.size by rw [hsz]; exact Nat.succ_ne_self _)]
    exact J.free
end
section
variable {X : Cx} {scope : Scope} {N : List Str} {xs : Nat} {js : List Nat} {tg iter elt : Expr} {ifs : List Expr} {pos : Pos} {ti : TI} {g : TG} {tt : TT} {te : TE}
/-- the block from the iterator on -/
theorem comp_blockZ {pins : List (Addr × Obj)} {s : Shared} {σ : St} {H : Hp} {Q : VK} {RR : Value → Addr → Result → Shared → Prop} {E : Value → Shared → Prop} {it : Addr} {fp : List Addr} {tn : Nat → Heap → Prop} {J : It} {cl : List (Str × Addr)}
    (hc : X.calm = true) (S : CompScopeZ X scope N xs js) (hg : ∀ cl s H ex, PG (cxCompZ X N scope cl s H ex) tg g) (ht : ∀ cl s H ex, PTs (cxCompZ X N scope cl s H ex) ifs tt) (he : ∀ cl s H ex, PE (cxCompZ X N scope cl s H ex) elt te)
    (h2 : ∀ x c, cl.lookup x = some c → X.env.cells.lookup x = some c) (h4 : ∀ y ∈ scope.names, y.2 = .free → ∃ c, cl.lookup y.1 = some c)
    (I : Inv X pins σ H s) (T : Turn X.prog X.w X.K tg J fp it tn) (st : tn 0 s.heap) (hf : ∀ b ∈ fp, FpOk X pins H b)
    (hW : CompGoal xs js g tt te σ Q J H)
    (hR : ∀ (D C : Addr) (H' : Hp) (s' : Shared) (m : Str → Option Value), Inv X pins σ H' s' → s'.heap.Ns C m → FpOk X pins H' C → Q (.ref D) H' → RR (.ref D) C (.ok .next) s') :
    wpAny (model X.prog X.w) X.A (newList []) (fun acc s₃ => wpAny (model X.prog X.w) X.A (newFunctionEnv scope X.env.globals cl [] X.env.qual none .none (some X.env)) (fun cenv s₄ =>
      codeAny (model X.prog X.w) X.A (.compStart (.ListComp elt [⟨tg, iter, ifs, 0⟩] scope pos) 0 (.ref it) acc { cenv with scope := relabel scope X.env }) (RR acc cenv.locals) s₄) E s₃) E s := by
  refine wpAny_newObj_type (wpAny_envZ ?_)
  dsimp only
  have hns₁ : (pushCells ((s.heap.push ({ cls := .type "list", dict := none, data := .seq ([] : List Value).toArray } : Obj)).push { cls := .type "dict", data := .dict #[] }) scope.names).Ns (s.heap.push ({ cls := .type "list", dict := none, data := .seq ([] : List Value).toArray } : Obj)).objs.size (fun _ => none) := (Heap.Ns.new _ (.type "dict")).keeps (pushCells_keeps _ _)
  have k3 : ∀ b u, (s.heap.push ({ cls := .type "list", dict := none, data := .seq ([] : List Value).toArray } : Obj)).get? b = some u → (pushCells ((s.heap.push ({ cls := .type "list", dict := none, data := .seq ([] : List Value).toArray } : Obj)).push { cls := .type "dict", data := .dict #[] }) scope.names).get? b = some u := fun b u e =>
    pushCells_keeps _ _ b u (Heap.get?_push_of_some _ e)
  have hown : ∀ c, (s.heap.push ({ cls := .type "list", dict := none, data := .seq ([] : List Value).toArray } : Obj)).objs.size + 1 ≤ c → c < ownTop ((s.heap.push ({ cls := .type "list", dict := none, data := .seq ([] : List Value).toArray } : Obj)).objs.size + 1) scope.names →
      (pushCells ((s.heap.push ({ cls := .type "list", dict := none, data := .seq ([] : List Value).toArray } : Obj)).push { cls := .type "dict", data := .dict #[] }) scope.names).IsCell c none := fun c h1 h2 => own_cell _ _ c (by rw [Heap.size_push]; exact h1) (by rw [Heap.size_push]; exact h2)
  generalize pushCells ((s.heap.push ({ cls := .type "list", dict := none, data := .seq ([] : List Value).toArray } : Obj)).push { cls := .type "dict", data := .dict #[] }) scope.names = h₁ at hns₁ k3 hown
  obtain ⟨W, ⟨m0, w0⟩, turn⟩ := hW
  have hfo : ∀ b ∈ fp, ∃ u, s.heap.get? b = some u := fun b hb => let ⟨u, hu, _⟩ := T.obj _ _ st b hb; ⟨u, hu⟩
  have hsz : (s.heap.push ({ cls := .type "list", dict := none, data := .seq ([] : List Value).toArray } : Obj)).objs.size = s.heap.objs.size + 1 := Heap.size_push ..
  have B0 := comp_invZ (X := X) (N := N) (xs := xs) (js := js) (tk := s.toks) I S h2 h4 hf hfo (fun v z => by cases z) rfl hns₁ k3 hown
  generalize hXc : cxCompZ X N scope cl { s with heap := s.heap.push ({ cls := .type "list", dict := none, data := .seq ([] : List Value).toArray } : Obj) } H (s.heap.objs.size :: fp) = Xc at B0
  have eP : Xc.prog = X.prog := by rw [← hXc]; rfl
  have eW : Xc.w = X.w := by rw [← hXc]; rfl
  have eK : Xc.K = X.K := by rw [← hXc]; rfl
  have eA : Xc.A = X.A := by rw [← hXc]; rfl
  have eC : Xc.calm = true := by rw [← hXc]; exact hc
  have eX : Xc.xe = fun _ _ => False := by rw [← hXc]; rfl
  have eE : Xc.env = compEnvC scope (cellsFrom ((s.heap.push ({ cls := .type "list", dict := none, data := .seq ([] : List Value).toArray } : Obj)).objs.size + 1) scope.names cl) (s.heap.push ({ cls := .type "list", dict := none, data := .seq ([] : List Value).toArray } : Obj)).objs.size X.env := by rw [← hXc]; rfl
  have eF : Xc.fs = frs X.stack := by rw [← hXc]; rfl
  have eex : Xc.ex = s.heap.objs.size :: fp := by rw [← hXc]; rfl
  have hg' : PG Xc tg g := by rw [← hXc]; exact hg _ _ _ _
  have ht' : PTs Xc ifs tt := by rw [← hXc]; exact ht _ _ _ _
  have he' : PE Xc elt te := by rw [← hXc]; exact he _ _ _ _
  have ecl : ∀ x c, Xc.env.cells.lookup x = some c → s.heap.objs.size + 2 ≤ c ∨ X.env.cells.lookup x = some c := by
    rw [eE]
    intro x c e
    rcases own_or _ _ _ (show (cellsFrom ((s.heap.push ({ cls := .type "list", dict := none, data := .seq ([] : List Value).toArray } : Obj)).objs.size + 1) scope.names cl).lookup x = some c from e) with h | h
    · exact .inl (by have := h.1; rw [hsz] at this; omega)
    · exact .inr (h2 x c h.1)
  -- what stays true of the iterator's objects
  have fpk : ∀ {H' : Hp} {ob : Obj}, (∀ b ∈ fp, H' b = none) → ∀ b ∈ fp, FpOk Xc [(s.heap.objs.size, ob)] H' b := fun {H' ob} hn b hb => by
    obtain ⟨u, hu⟩ := hfo b hb
    have hlt := Heap.lt_size hu
    obtain ⟨_, f1, f2, f3, f4, f5⟩ := hf b hb
    refine ⟨hn b hb, ?_, ?_, .inl ?_, fun x c e => (ecl x c e).elim (fun h => Nat.ne_of_gt (Nat.lt_trans hlt (Nat.lt_of_lt_of_le (Nat.lt_add_of_pos_right (by decide)) h))) fun h => f4 x c h, fun p hp => ?_⟩
    · rw [eE]
      show b ≠ (s.heap.push _).objs.size
      rw [hsz]; exact Nat.ne_of_lt (Nat.lt_succ_of_lt hlt)
    · rw [eF]
      intro z
      rcases List.mem_cons.mp (I.stkSub b z) with e | e
      · exact f1 e
      · exact f2 e
    · rw [eex]; exact List.mem_cons_of_mem _ hb
    · have e : p = (s.heap.objs.size, ob) := by
        rw [← hXc] at hp
        simpa [cxCompZ, cxComp] using hp
      subst e
      show s.heap.objs.size ≠ b
      exact Nat.ne_of_gt hlt
  have loop : ∀ s₃ : Shared, s₃ = { s with heap := h₁, toks := s.toks } →
      codeAny (model X.prog X.w) X.A (.compLoop (.ListComp elt [⟨tg, iter, ifs, 0⟩] scope pos) 0 (.ref it) (.ref s.heap.objs.size) (compEnvC scope (cellsFrom ((s.heap.push ({ cls := .type "list", dict := none, data := .seq ([] : List Value).toArray } : Obj)).objs.size + 1) scope.names cl) (s.heap.push ({ cls := .type "list", dict := none, data := .seq ([] : List Value).toArray } : Obj)).objs.size X.env))
        (RR (.ref s.heap.objs.size) (s.heap.push ({ cls := .type "list", dict := none, data := .seq ([] : List Value).toArray } : Obj)).objs.size) s₃ := by
    rintro s₃ rfl
    refine compLoop_go (fun n s' => ∃ (i : Nat) (acc : List V) (its : List Value) (c : Nat) (σ' : St) (H' : Hp), Inv Xc [(s.heap.objs.size, ({ cls := .type "list", data := .seq its.toArray c } : Obj))] σ' H' s' ∧ Vals acc its ∧ tn i s'.heap ∧
      (∀ b ∈ fp, H' b = none) ∧ acc.length ≤ sizeLine ∧ W i n acc σ' H') ?_ m0 ⟨0, [], [], 0, _, H, B0, .nil, T.keep _ _ _ st fun b _ u e => k3 b u (Heap.get?_push_of_some _ e), fun b hb => (hf b hb).1, Nat.zero_le _, w0⟩
    rintro n s3 ⟨i, acc, its, c, σ3, H3, I3, rv, st3, fr3, hz, w3⟩
    rcases turn i n acc σ3 H3 w3 with ⟨stop, qn⟩ | ⟨go, hlen, NN, hNN, step⟩
    · have h := T.done Xc eP eW eK eC i _ s3 σ3 H3 (fun _ _ => False) I3 (fpk fr3) st3 stop
      rw [eA] at h
      refine thn h fun r s4 ⟨hr, I4⟩ => ?_
      subst hr
      rw [← hXc] at I4
      obtain ⟨a1, a2, a3⟩ := comp_backZ I hf I4 rv hz
      obtain ⟨mC, hmC, _⟩ := I4.loc
      exact hR _ _ _ _ mC a1 hmC a2 (qn _ a3)
    · have h := T.item Xc eP eW eK eC i _ s3 σ3 H3 (fun _ _ => False) I3 (fpk fr3) st3 go
      rw [eA] at h
      refine thn h fun r s4 ⟨u, hr, h4⟩ => ?_
      subst hr
      refine thn h4 fun _ s5 ⟨x, H5, I5, r5, y5, st5, fr5⟩ => ?_
      have I5' := I5.pinned (fpk fr5) (T.obj _ _ st5)
      have ha := hg' _ s5 σ3 H5 x u _ I5' r5 (step x H5 y5)
      rw [eP, eW, eA, eE, eX] at ha
      refine thn ha fun _ s6 ⟨σ6, H6, I6, q6⟩ => ?_
      have hb := ht' _ s6 σ6 H6 _ I6 q6
      rw [eP, eW, eA, eE, eX] at hb
      refine thn hb fun ok s7 ⟨H7, I7, q7⟩ => ?_
      have tn' : ∀ {σ8 : St} {H8 : Hp} {s8 : Shared}, Inv Xc ([(s.heap.objs.size, ({ cls := .type "list", data := .seq its.toArray c } : Obj))] ++ pinsAt fp s5.heap) σ8 H8 s8 → tn (i + 1) s8.heap ∧ ∀ b ∈ fp, H8 b = none := fun {σ8 H8 s8} I8 => by
        refine ⟨T.keep _ _ _ st5 fun b hb o e => (I8.pin (b, o) (List.mem_append_right _ (List.mem_append_right _ (mem_pinsAt hb e)))).1, fun b hb => ?_⟩
        obtain ⟨o, e, d⟩ := T.obj _ _ st5 b hb
        exact (I8.pin (b, o) (List.mem_append_right _ (List.mem_append_right _ (mem_pinsAt hb e)))).2.1
      cases ok with
      | false =>
        obtain ⟨m', hm, w7⟩ := hNN _ _ _ q7
        obtain ⟨t1, t2⟩ := tn' I7
        exact ⟨m', hm, i + 1, acc, its, c, σ6, H7, I7.unpinned, rv, t1, t2, hz, w7⟩
      | true =>
        have hd := he' _ s7 σ6 H7 _ I7 q7
        rw [eP, eW, eA, eE, eX] at hd
        refine thn hd fun v s8 ⟨y, H8, I8, r8, q8⟩ => ?_
        obtain ⟨m', hm, w8⟩ := hNN _ _ _ q8
        obtain ⟨t1, t2⟩ := tn' I8
        have I9 := I8.unpinned
        obtain ⟨eD, nD, nC, nF, _⟩ := I9.pin (s.heap.objs.size, ({ cls := .type "list", data := .seq its.toArray c } : Obj)) (by simp)
        have hln := rv.length
        refine call_meets F.slot_list_append ⟨_, eD, rfl⟩ F.entry_list_append (F.args_list_append_2 _ _) (PySem.list_append s.heap.objs.size its.toArray c v (by rw [List.size_toArray]; omega)) ⟨eD, ?_⟩
        obtain ⟨n9, q⟩ : ∃ n9, (s8.heap.update s.heap.objs.size (Obj.mapSeq fun a => a.push v)).get? s.heap.objs.size = some ({ cls := .type "list", data := .seq (its ++ [v]).toArray n9 } : Obj) := by
          have q := PySem.IsL.update eD (fun a => a.push v)
          have ea : its.toArray.push v = (its ++ [v]).toArray := by simp
          rw [ea] at q
          exact ⟨_, q⟩
        have I10 : Inv Xc [] σ6 H8 { s8 with heap := s8.heap.update s.heap.objs.size (Obj.mapSeq fun a => a.push v) } := by
          refine (I9.pins_of (pins' := []) fun p hp => nomatch hp).turned (it := s.heap.objs.size) (t' := s8.toks) (fun b u hb e => (Heap.get?_update_other s8.heap _ (Ne.symm hb)).trans e) nD nC (.inl (by rw [eex]; exact List.mem_cons_self)) (fun x cc e => ?_) (fun p hp => ?_)
          · rcases ecl x cc e with h | h
            · exact Nat.ne_of_gt (Nat.lt_of_lt_of_le (Nat.lt_add_of_pos_right (by decide)) h)
            · obtain ⟨w0, oc, hoc, _⟩ := I.cell x cc h
              exact Nat.ne_of_lt (Heap.lt_size hoc)
          · rw [← hXc] at hp
            exact absurd hp (by simp [cxCompZ, cxComp])
        refine ⟨m', hm, i + 1, acc ++ [y], its ++ [v], n9, σ6, H8, I10.pins_of fun p hp => ?_, rv.append (.cons r8 .nil), T.keep _ _ _ t1 fun b hb u e => ?_, t2, by rw [List.length_append, List.length_singleton]; omega, w8⟩
        · have e : p = (s.heap.objs.size, ({ cls := .type "list", data := .seq (its ++ [v]).toArray n9 } : Obj)) := by simpa using hp
          subst e
          exact ⟨q, nD, nC, nF, fun w z => by cases z⟩
        · have hb' : b ≠ s.heap.objs.size := by
            obtain ⟨z, hz'⟩ := hfo b hb
            exact Nat.ne_of_lt (Heap.lt_size hz')
          exact (Heap.get?_update_other s8.heap _ (Ne.symm hb')).trans e
  exact codeAny_compStart_list (loop _ rfl) (T.self _ 0 _ _ _ (T.keep _ _ _ st fun b _ u e => k3 b u (Heap.get?_push_of_some _ e)) (loop _ rfl))

/-- a comprehension as a value -/
theorem pe_compZ (hc : X.calm = true) (S : CompScopeZ X scope N xs js) (hi : PI X tg iter ti) (hg : ∀ cl s H ex, PG (cxCompZ X N scope cl s H ex) tg g) (ht : ∀ cl s H ex, PTs (cxCompZ X N scope cl s H ex) ifs tt)
    (he : ∀ cl s H ex, PE (cxCompZ X N scope cl s H ex) elt te) (hs : ∀ x, foldedSetIterable iter X.env x = pure x := by intro _; rfl) :
    PE X (.ListComp elt [⟨tg, iter, ifs, 0⟩] scope pos) (tComp xs js ti g tt te) := by
  intro pins s σ H Q I h
  obtain ⟨cl, e1, h2, h4⟩ := closure_ok (scope := scope) (env := X.env) fun y hy e => I.ok.has y.1 (S.caught y hy e)
  rw [eval_ListComp]
  refine wpAny_comprehension_free (use := none) rfl hs e1 S.kind S.once (thn (hi pins s σ H _ I h) fun v s1 h1 => thn h1 fun itv s2 h2' => ?_)
  obtain ⟨it, fp, tn, J, H2, e, I2, T, st2, f2, hW⟩ := h2'
  subst e
  refine comp_blockZ (RR := fun acc C => compPost (model X.prog X.w) X.A X.xe none (EP X pins σ Q) acc C) hc S hg ht he h2 h4 I2 T st2 f2 hW fun D C H' s' m I' hn hC q => ?_
  obtain ⟨f0, f1, _, f3, f4, f5⟩ := hC
  exact ⟨m, hn, fun h' hs' => ⟨.ref D, H', I'.turned (it := C) (t' := s'.toks) (fun b u hb e => (hs'.2 b hb).trans e) f0 f1 f3 f4 f5, rfl, q⟩⟩

end
end L2

/-! OWN RULES: d.setdefault(key, value). -/
namespace L2
open PySem PySem.Spec PyProof.Rows
section
variable {X : Cx} {pins : List (Addr × Obj)} {σ : St} {H : Hp} {s : Shared} {a : Addr} {kvs : List (Key × V)} {k : Key} {u r : Value} {v : V} {A : Around} {E : Value → Shared → Prop}
theorem d_setd {Q : Value → Shared → Prop} (I : Inv X pins σ H s) (e : H a = some (.dK kvs)) (ry : RelV (kV k) u) (rv : RelV v r) (l : kvs.length < sizeLine)
    (h1 : ∀ x w' s', valV kvs k = some x → RelV x w' → Inv X pins σ H s' → Q w' s') (h2 : ∀ s', valV kvs k = none → Inv X pins σ (upd H a (.dK (putK kvs k v))) s' → Q r s') :
    wpAny (model X.prog X.w) A (call (.builtin "dict.setdefault") [.ref a, u, r]) Q E s := by
  obtain ⟨z, hd, vs, rel, dd⟩ := dk_of I.hok e
  have hl : (putK kvs k v).length ≤ sizeLine := by have := length_putK kvs k v; omega
  refine call_meetsIn PySem.F.slot_dict_setdefault dd.typeIs PySem.F.entry_dict_setdefault (PySem.F.args_dict_setdefault_3 _ _ _) (kt_meets_setdefault (mixKind X.prog X.w) a (kV_is ry) hd r)
    ⟨vs, dd, by rw [← rel.length]; exact z, fun w' hw => ?_, fun hn h' dd' hs => ?_⟩
  · cases e2 : valV kvs k with
    | none =>
      have := RelO.none_of (o := valueAt vs k) (by rw [← e2]; exact rel.val k)
      rw [hw] at this
      cases this
    | some x =>
      obtain ⟨w2, hw2, rw2⟩ := RelO.some_of (v := x) (o := valueAt vs k) (by rw [← e2]; exact rel.val k)
      rw [hw] at hw2
      cases hw2
      exact h1 x w' _ e2 rw2 (I.tok _)
  · refine h2 _ ?_ ?_
    · cases e2 : valV kvs k with
      | none => rfl
      | some x =>
        obtain ⟨w2, hw2, _⟩ := RelO.some_of (v := x) (o := valueAt vs k) (by rw [← e2]; exact rel.val k)
        rw [hn] at hw2
        cases hw2
    · have he : ∃ q, h'.get? a = some q := let ⟨q, _, _, hq, _⟩ := dd'; ⟨q, hq⟩
      exact d_write I (by rw [e]; exact True.intro) hs he (dk_new hl hd (rel.put k rv) dd')
end
/-- d.setdefault(y, z) -/
def tDSetD (td ty tx : TE) : TE := fun σ H Q => td σ H fun x H1 => ∃ a, x = .ref a ∧ IsD H1 a ∧ ty σ H1 fun y H2 => tx σ H2 fun z H3 => ∃ kvs k, H3 a = some (.dK kvs) ∧ y = kV k ∧ kvs.length < sizeLine ∧
  (∀ v, valV kvs k = some v → Q v H3) ∧ (valV kvs k = none → Q z (upd H3 a (.dK (putK kvs k z))))
theorem pe_dsetd {X : Cx} {o e f : Expr} {apos cpos : Pos} {td ty tx : TE} (ho : PE X o td) (he : PE X e ty) (hf : PE X f tx) (m : M2 X o "setdefault" apos e f cpos) : PE X (.Call (.Attribute o "setdefault" apos) [e, f] [] cpos) (tDSetD td ty tx) := by
  intro pins s σ H Q I h
  refine wpAny_Call_method m.base m.few m.line PySem.F.plainAttrs_dict PySem.F.slot_dict_setdefault PySem.F.type_dict_setdefault (thn (ho pins s σ H _ I h) fun u s1 ⟨x, H1, I1, rx, a, ex, d, q1⟩ => ?_)
  subst ex
  obtain rfl : u = Value.ref a := rx
  obtain ⟨t1, t2, _⟩ := isD_at I1 d
  refine ⟨t1, t2, ?_⟩
  rw [m.trees]
  refine Calls.callWith_builtin rfl (Calls.evalArgs_plain (Calls.spliced_cons (thn (he pins s1 σ H1 _ I1 q1) fun iv s2 ⟨y, H2, I2, ry, q2⟩ =>
    Calls.spliced_cons (thn (hf pins s2 σ H2 _ I2 q2) fun fv s3 ⟨z, H3, I3, rz, kvs, k, ea, ey, hl, q3, q4⟩ => Calls.spliced_nil ?_))))
  subst ey
  exact d_setd I3 ea ry rz hl (fun x w' s4 e4 r4 I4 => ⟨x, H3, I4, r4, q3 x e4⟩) fun s4 e4 I4 => ⟨z, _, I4, rz, q4 e4⟩
end L2

namespace Net
open PySem L2
def top (i : Nat) : Stmt := PySem.Challenge.pw_netcourt_k43_costs_found.main.body.getD i (.Pass ⟨0, 0, 0, 0⟩)
abbrev s_is_made_of : Stmt := top 11
abbrev s_is_name : Stmt := top 12
abbrev s_is_whole : Stmt := top 13
abbrev s_ties_by_name : Stmt := top 15
abbrev s_walk_cost : Stmt := top 16
abbrev s_steps_of : Stmt := top 18
abbrev s_steps_to_places : Stmt := top 19
abbrev s_steps_by_begin : Stmt := top 20
abbrev s_members_of : Stmt := top 21
abbrev s_member_paper : Stmt := top 23
abbrev s_find_plain : Stmt := top 25
abbrev s_find_cost : Stmt := top 31
abbrev s_lower_prices : Stmt := top 32
abbrev s_is_lower : Stmt := top 33
abbrev s_ring_behind : Stmt := top 34
abbrev s_walk_behind : Stmt := top 35
abbrev s_stretches_by_ring : Stmt := top 36
abbrev s_rounds_to_nought : Stmt := top 37
abbrev s_refuse_no_name : Stmt := top 41
abbrev s_refuse_no_width : Stmt := top 42
abbrev s_refuse_more : Stmt := top 43
abbrev s_Net_init : Stmt := inClass (top 44) 0
abbrev s_Net_place : Stmt := inClass (top 44) 1
abbrev s_Net_tie : Stmt := inClass (top 44) 2
abbrev s_Net_places : Stmt := inClass (top 44) 6
abbrev s_Net_ties : Stmt := inClass (top 44) 7
abbrev s_l_cell_at : Stmt := top 46
abbrev s_l_mixed : Stmt := top 47
abbrev s_l_whole : Stmt := top 48
abbrev s_l_words : Stmt := top 49
abbrev s_l_cost : Stmt := top 50
abbrev s_l_net : Stmt := top 51
abbrev s_l_end : Stmt := top 52
abbrev s_l_spent : Stmt := top 53
abbrev s_l_listed : Stmt := top 54
abbrev s_l_verdict : Stmt := top 55
abbrev s_l_stretched : Stmt := top 56
abbrev s_l_parted : Stmt := top 57
abbrev s_l_dear : Stmt := top 58
abbrev s_l_asked : Stmt := top 59
abbrev s_law : Stmt := top 60
end Net

namespace Net
open PySem L2
/-! ### a block's rest, under a name of its own (smaller proofs) -/
section
variable {D : Ends} {σ : St} {H : Hp}
theorem hide2 {t1 t2 : TS} (h : ∀ u2, t2 = u2 → (tSeq t1 u2) D σ H) : (tSeq t1 t2) D σ H := h _ rfl
theorem hide3 {t1 t2 t3 : TS} (h : ∀ u2 u3, t2 = u2 → t3 = u3 → (tSeq t1 (tSeq u2 u3)) D σ H) : (tSeq t1 (tSeq t2 t3)) D σ H := h _ _ rfl rfl
theorem hide4 {t1 t2 t3 t4 : TS} (h : ∀ u2 u3 u4, t2 = u2 → t3 = u3 → t4 = u4 → (tSeq t1 (tSeq u2 (tSeq u3 u4))) D σ H) : (tSeq t1 (tSeq t2 (tSeq t3 t4))) D σ H := h _ _ _ rfl rfl rfl
theorem hide5 {t1 t2 t3 t4 t5 : TS} (h : ∀ u2 u3 u4 u5, t2 = u2 → t3 = u3 → t4 = u4 → t5 = u5 → (tSeq t1 (tSeq u2 (tSeq u3 (tSeq u4 u5)))) D σ H) : (tSeq t1 (tSeq t2 (tSeq t3 (tSeq t4 t5)))) D σ H := h _ _ _ _ rfl rfl rfl rfl
theorem hide6 {t1 t2 t3 t4 t5 t6 : TS} (h : ∀ u2 u3 u4 u5 u6, t2 = u2 → t3 = u3 → t4 = u4 → t5 = u5 → t6 = u6 → (tSeq t1 (tSeq u2 (tSeq u3 (tSeq u4 (tSeq u5 u6))))) D σ H) : (tSeq t1 (tSeq t2 (tSeq t3 (tSeq t4 (tSeq t5 t6))))) D σ H := h _ _ _ _ _ rfl rfl rfl rfl rfl
theorem hide7 {t1 t2 t3 t4 t5 t6 t7 : TS} (h : ∀ u2 u3 u4 u5 u6 u7, t2 = u2 → t3 = u3 → t4 = u4 → t5 = u5 → t6 = u6 → t7 = u7 → (tSeq t1 (tSeq u2 (tSeq u3 (tSeq u4 (tSeq u5 (tSeq u6 u7)))))) D σ H) : (tSeq t1 (tSeq t2 (tSeq t3 (tSeq t4 (tSeq t5 (tSeq t6 t7)))))) D σ H := h _ _ _ _ _ _ rfl rfl rfl rfl rfl rfl
theorem hide8 {t1 t2 t3 t4 t5 t6 t7 t8 : TS} (h : ∀ u2 u3 u4 u5 u6 u7 u8, t2 = u2 → t3 = u3 → t4 = u4 → t5 = u5 → t6 = u6 → t7 = u7 → t8 = u8 → (tSeq t1 (tSeq u2 (tSeq u3 (tSeq u4 (tSeq u5 (tSeq u6 (tSeq u7 u8))))))) D σ H) : (tSeq t1 (tSeq t2 (tSeq t3 (tSeq t4 (tSeq t5 (tSeq t6 (tSeq t7 t8))))))) D σ H := h _ _ _ _ _ _ _ rfl rfl rfl rfl rfl rfl rfl
theorem hide9 {t1 t2 t3 t4 t5 t6 t7 t8 t9 : TS} (h : ∀ u2 u3 u4 u5 u6 u7 u8 u9, t2 = u2 → t3 = u3 → t4 = u4 → t5 = u5 → t6 = u6 → t7 = u7 → t8 = u8 → t9 = u9 → (tSeq t1 (tSeq u2 (tSeq u3 (tSeq u4 (tSeq u5 (tSeq u6 (tSeq u7 (tSeq u8 u9)))))))) D σ H) : (tSeq t1 (tSeq t2 (tSeq t3 (tSeq t4 (tSeq t5 (tSeq t6 (tSeq t7 (tSeq t8 t9)))))))) D σ H := h _ _ _ _ _ _ _ _ rfl rfl rfl rfl rfl rfl rfl rfl
end
/-! ### the data -/
def abc : Str := "abcdefghijklmnopqrstuvwxyz"
def smallB (c : Nat) : Bool := decide (97 ≤ c) && decide (c ≤ 122)
def nameB (x : Str) : Bool := decide (1 ≤ x.length) && decide (x.length ≤ 12) && x.cps.toList.all smallB
structure Row where
  nm : Str
  a : Str
  b : Str
  w : Int
  c : Int
def Row.tup (r : Row) : List V := [.str r.nm, .str r.a, .str r.b, .int r.w, .int r.c]
structure NS where
  pl : List Str
  ti : List Row
def NS.nil : NS := ⟨[], []⟩
def NS.nms (S : NS) : List Str := S.ti.map (·.nm)
/-- a net's attributes, in the order in which they are stored -/
def flds (ds dl : Addr) : List (Str × V) := putF "laid" (.ref dl) (putF "standing" (.ref ds) [])
theorem sl_ne : ¬ (("standing" : Str) = "laid") := by decide +kernel
theorem flds_st (ds dl : Addr) : (flds ds dl).lookup ("standing" : Str) = some (.ref ds) := by
  unfold flds
  rw [lookup_putF, if_neg sl_ne, lookup_putF, if_pos rfl]
theorem flds_ld (ds dl : Addr) : (flds ds dl).lookup ("laid" : Str) = some (.ref dl) := by
  unfold flds
  rw [lookup_putF, if_pos rfl]
theorem flds_no (ds dl : Addr) {m : Str} (h1 : ¬ m = "laid") (h2 : ¬ m = "standing") : (flds ds dl).lookup m = none := by
  unfold flds
  rw [lookup_putF, if_neg h1, lookup_putF, if_neg h2]
  all_goals rfl
def stKV (S : NS) : List (Key × V) := S.pl.map fun x => (Sum.inr x, V.bl true)
def ldKV (L : List (Row × Addr)) : List (Key × V) := L.map fun q => (Sum.inr q.1.nm, V.ref q.2)
/-- rows stand as tuples -/
def Rows (H : Hp) (L : List (Row × Addr)) (rs : List Row) : Prop := L.map (·.1) = rs ∧ ∀ q ∈ L, H q.2 = some (.tup q.1.tup)
/-- a net stands at p, its two dicts at ds, dl -/
structure NetAt (C : Addr) (H : Hp) (p ds dl : Addr) (S : NS) : Prop where
  ob : ∃ dx, H p = some (.ins C dx (flds ds dl))
  st : H ds = some (.dK (stKV S))
  ld : ∃ L, Rows H L S.ti ∧ H dl = some (.dK (ldKV L))
  ne : ds ≠ dl
/-- all but what stands at ds, dl is kept -/
def But2 (H H' : Hp) (ds dl : Addr) : Prop := ∀ b o, H b = some o → b ≠ ds → b ≠ dl → H' b = some o

/-! ### promises -/
def spMade : Sp := fun vs H Q _ => ∃ (x y : Str), vs = [.str x, .str y] ∧ x.length ≤ sizeLine ∧ ∀ H', Same H H' → Q (.bl (x.cps.toList.all fun c => decide (c ∈ y.cps.toList))) H'
def spName : Sp := fun vs H Q _ => ∃ (x : Str), vs = [.str x] ∧ x.length ≤ sizeLine ∧ ∀ H', Same H H' → Q (.bl (nameB x)) H'
def spWhole : Sp := fun vs H Q _ => ∃ (i : Int), vs = [.int i] ∧ Q (.bl true) H
def spRefName : Sp := fun vs H Q _ => ∃ (x : Str), vs = [.str x] ∧ nameB x = true ∧ ∀ H', Same H H' → Q .non H'
def spRefWidth : Sp := fun vs H Q _ => ∃ (i : Int), vs = [.int i] ∧ 1 ≤ i ∧ Q .non H
def spRefMore : Sp := fun vs H Q _ => ∃ (i j : Int), vs = [.int i, .int j] ∧ i ≤ j ∧ Q .non H
def spInit (C : Addr) : Sp := fun vs H Q _ => ∃ (p dx : Addr), vs = [.ref p] ∧ H p = some (.ins C dx []) ∧ ∀ (ds dl : Addr) (H' : Hp), H ds = none → H dl = none → NetAt C H' p ds dl .nil → (∀ b o, H b = some o → b ≠ p → H' b = some o) → Q .non H'
def spPlace (C : Addr) : Sp := fun vs H Q _ => ∃ (p ds dl : Addr) (S : NS) (x : Str), vs = [.ref p, .str x] ∧ NetAt C H p ds dl S ∧ nameB x = true ∧ x ∉ S.pl ∧ S.pl.length < 20 ∧
  ∀ H', NetAt C H' p ds dl ⟨S.pl ++ [x], S.ti⟩ → But2 H H' ds dl → Q .non H'
/-- the places behind a tie from a to b -/
def withEnds (pl : List Str) (a b : Str) : List Str := pl ++ [a, b].filter fun x => !decide (x ∈ pl)
def spTie (C : Addr) : Sp := fun vs H Q _ => ∃ (p ds dl : Addr) (S : NS) (r : Row), vs = [.ref p, .str r.nm, .str r.a, .str r.b, .int r.w, .int r.c] ∧ NetAt C H p ds dl S ∧ nameB r.nm = true ∧ nameB r.a = true ∧ nameB r.b = true ∧ r.nm ∉ S.nms ∧ ¬ r.a = r.b ∧ 1 ≤ r.w ∧
  S.ti.length < 40 ∧ (withEnds S.pl r.a r.b).length ≤ 20 ∧ ∀ H', NetAt C H' p ds dl ⟨withEnds S.pl r.a r.b, S.ti ++ [r]⟩ → But2 H H' ds dl → Q .non H'
def spPlaces (C : Addr) : Sp := fun vs H Q _ => ∃ (p ds dl : Addr) (S : NS), vs = [.ref p] ∧ NetAt C H p ds dl S ∧ ∀ l, H l = none → Q (.ref l) (upd H l (.lst (S.pl.map V.str)))
def spTies (C : Addr) : Sp := fun vs H Q _ => ∃ (p ds dl : Addr) (S : NS), vs = [.ref p] ∧ NetAt C H p ds dl S ∧ ∀ (l : Addr) (H' : Hp) (L : List (Row × Addr)), H l = none → Same H H' → Rows H L S.ti → H' l = some (.lst (L.map fun q => V.ref q.2)) → Q (.ref l) H'

/-- what is asked of the text as the top has made it -/
structure Txt (K : PySem.W.Frag) (mg : Str → Option Value) (C : Addr) : Prop where
  cl : Cls K C
  nS : NoAttr K C "standing"
  nL : NoAttr K C "laid"
  mgC : mg "Net" = some (.ref C)
  all : mg "all" = none
  isi : mg "isinstance" = none
  str : mg "str" = none
  int : mg "int" = none
  bool : mg "bool" = none
  list : mg "list" = none
  tuple : mg "tuple" = none
  len : mg "len" = none
  range : mg "range" = none
  abs : mg "abs" = none
  small : GlobIs mg "SMALL_LETTERS" (.str abc)
  longest : GlobIs mg "LONGEST_NAME" (.int 12)
  mostP : GlobIs mg "MOST_PLACES" (.int 20)
  mostT : GlobIs mg "MOST_TIES" (.int 40)
  kIB : PySem.W.kitOne K (.type "int") (.type "bool") = some false

section
variable {P : Program} {w : World} {K : PySem.W.Frag} {mg : Str → Option Value} {base : Heap} {C : Addr}
/-! ### is_made_of -/
theorem sc_made : FnScope ["text", "signs"] ["text", "signs"] (defScope s_is_made_of) := ⟨rfl, rfl, rfl, by decide +kernel, rfl, by decide +kernel, by decide +kernel⟩
theorem ok_made {f : Addr} {fd : FuncData} (F : Fun K "is_made_of" "is_made_of" s_is_made_of f fd) (T : Txt K mg C) : FnOk P w K mg base CX0 1 f fd ["text", "signs"] spMade := by
  refine F.ok sc_made (fun vs H Q E h => ?_) (fun cdv A outer s H vs Q E hr h => ?_)
  · obtain ⟨x, y, rfl, _⟩ := h
    rfl
  · obtain ⟨x, y, rfl, hx, k⟩ := h
    refine ⟨_, pss_one (ps_ret (pe_callB (call_all rfl) (by rfl) T.all b_all (pa_cons (pe_comp (N := ["sign", "signs"]) (xs := 1) (js := [1]) rfl (compScope_of rfl) (pi_str (pv 0))
      (fun _ _ _ _ => pg_name (i := 0) (show List.Nodup (["sign", "signs"] : List Str) by decide +kernel) rfl (Or.inl rfl)) (fun _ _ _ _ => pts_nil) (fun _ _ _ _ => pe_cmpR op_in_str (pv 0) (pv 1) (by with_unfolding_all rfl))) pa_nil))), ?_⟩
    refine ⟨_, rfl, x, rfl, comp_str (fun i acc σ' H' => H' = H ∧ acc = (x.cps.toList.take i).map (fun c => V.bl (decide (c ∈ y.cps.toList))) ∧ ∃ o, σ' = [o, some (.str y)])
      ⟨rfl, rfl, none, rfl⟩ (fun i acc σ' H' h => ?_) hx (fun i c acc σ' H' hc h => ?_) (fun acc σ' H' h p hp => ?_)⟩
    · rw [h.2.1, List.length_map, List.length_take]
      omega
    · obtain ⟨rfl, rfl, o, rfl⟩ := h
      refine ⟨_, rfl, _, rfl, _, _, rfl, rfl, rfl, ?_, _, rfl⟩
      have hc' : x.cps.toList[i]? = some c := by simpa using hc
      rw [StrLaws.found_one, List.take_add_one, hc', List.map_append]
      rfl
    · obtain ⟨rfl, rfl, o, rfl⟩ := h
      refine ⟨p, x.cps.toList.map (fun c => decide (c ∈ y.cps.toList)), rfl, SqL.of ?_, ?_⟩
      · rw [upd_same, List.map_map, List.take_of_length_le (by simp)]
        rfl
      · rw [List.all_map]
        exact k _ fun b ob e => by rw [upd_ne (ne_of_none e hp)]; exact e

/-! ### is_name, is_whole -/
theorem mem_abc (c : Nat) : decide (c ∈ abc.cps.toList) = smallB c := by
  have e : abc.cps.toList = (List.range 26).map (97 + ·) := by decide +kernel
  rw [e]
  unfold smallB
  rw [Bool.eq_iff_iff]
  simp only [decide_eq_true_eq, Bool.and_eq_true, List.mem_map, List.mem_range]
  constructor
  · rintro ⟨k, h1, h2⟩
    omega
  · intro h
    exact ⟨c - 97, by omega, by omega⟩
theorem sc_name : FnScope ["word"] ["word"] (defScope s_is_name) := ⟨rfl, rfl, rfl, by decide +kernel, rfl, by decide +kernel, by decide +kernel⟩
theorem ok_name {f : Addr} {fd : FuncData} (F : Fun K "is_name" "is_name" s_is_name f fd) (T : Txt K mg C) (c1 : Can P w K mg base 1 "is_made_of" ["text", "signs"] spMade) : FnOk P w K mg base CX0 2 f fd ["word"] spName := by
  refine F.ok sc_name (fun vs H Q E h => ?_) (fun cdv A outer s H vs Q E hr h => ?_)
  · obtain ⟨x, rfl, _⟩ := h
    rfl
  · obtain ⟨x, rfl, hx, k⟩ := h
    refine ⟨_, pss_cons (ps_if (pt_not (pt_val (pe_callB call_isinst (by rfl) T.isi b_isi (pa_cons (pv 0) (pa_cons (pe_ty T.str (by rfl) b_str) pa_nil))))) (pss_one (ps_ret pe_bl)) pss_nil)
      (pss_one (ps_ret (pe_and (pe_chain op_le op_le pe_int (pe_callB call_len_str (by rfl) T.len b_len (pa_cons (pv 0) pa_nil)) (pe_globC T.longest (by rfl)))
        (pe_one (pe_callC c1 hr (by rfl) (pa_cons (pv 0) (pa_cons (pe_globC T.small (by rfl)) pa_nil))))))), ?_⟩
    refine ⟨_, rfl, _, "str", _, true, rfl, .str x, rfl, true, rfl, iteF ?_⟩
    refine ⟨_, rfl, x, rfl, hx, _, _, rfl, rfl, _, rfl, ?_⟩
    refine ite2 (fun h1 => ⟨_, _, rfl, rfl, _, rfl, ite2 (fun h2 => ⟨_, rfl, x, abc, rfl, hx, fun H' s' => ?_⟩) (fun h2 => ?_)⟩) (fun h1 => ⟨_, rfl, iteF ?_⟩)
    · have e : nameB x = (x.cps.toList.all fun c => decide (c ∈ abc.cps.toList)) := by
        unfold nameB
        rw [decide_eq_true (p := 1 ≤ x.length) (by have := of_decide_eq_true h1; omega), decide_eq_true (p := x.length ≤ 12) (by have := of_decide_eq_true h2; omega)]
        simp only [mem_abc, Bool.true_and]
      rw [← e]
      exact k H' s'
    · have e : nameB x = false := by
        unfold nameB
        rw [decide_eq_false (p := x.length ≤ 12) (fun z => h2 (decide_eq_true (by omega)))]
        simp
      have := k H (Same.refl H)
      rw [e] at this
      exact this
    · have e : nameB x = false := by
        unfold nameB
        rw [decide_eq_false (p := 1 ≤ x.length) (fun z => h1 (decide_eq_true (by omega)))]
        simp
      have := k H (Same.refl H)
      rw [e] at this
      exact this
theorem sc_whole : FnScope ["thing"] ["thing"] (defScope s_is_whole) := ⟨rfl, rfl, rfl, by decide +kernel, rfl, by decide +kernel, by decide +kernel⟩
theorem ok_whole {f : Addr} {fd : FuncData} (F : Fun K "is_whole" "is_whole" s_is_whole f fd) (T : Txt K mg C) : FnOk P w K mg base CX0 1 f fd ["thing"] spWhole := by
  refine F.ok sc_whole (fun vs H Q E h => ?_) (fun cdv A outer s H vs Q E hr h => ?_)
  · obtain ⟨x, rfl, _⟩ := h
    rfl
  · obtain ⟨x, rfl, k⟩ := h
    refine ⟨_, pss_one (ps_ret (pe_and (pe_callB call_isinst (by rfl) T.isi b_isi (pa_cons (pv 0) (pa_cons (pe_ty T.int (by rfl) b_int) pa_nil)))
      (pe_one (pe_not (pe_callB call_isinst (by rfl) T.isi b_isi (pa_cons (pv 0) (pa_cons (pe_ty T.bool (by rfl) b_bool) pa_nil))))))), ?_⟩
    exact ⟨_, rfl, _, "int", _, true, rfl, .int x, rfl, true, rfl, iteT ⟨_, rfl, _, "bool", _, false, rfl, .int x, T.kIB, false, rfl, k⟩⟩

/-! ### the refusals that don't come -/
theorem sc_refName : FnScope ["word"] ["word"] (defScope s_refuse_no_name) := ⟨rfl, rfl, rfl, by decide +kernel, rfl, by decide +kernel, by decide +kernel⟩
theorem ok_refName {f : Addr} {fd : FuncData} (F : Fun K "refuse_no_name" "refuse_no_name" s_refuse_no_name f fd) (T : Txt K mg C) (c1 : Can P w K mg base 2 "is_name" ["word"] spName) : FnOk P w K mg base CX0 3 f fd ["word"] spRefName := by
  refine F.ok sc_refName (fun vs H Q E h => ?_) (fun cdv A outer s H vs Q E hr h => ?_)
  · obtain ⟨x, rfl, _⟩ := h
    rfl
  · obtain ⟨x, rfl, hx, k⟩ := h
    refine ⟨_, pss_one (ps_if (pt_not (pt_val (pe_callC c1 hr (by rfl) (pa_cons (pv 0) pa_nil)))) pss_never pss_nil), ?_⟩
    refine ⟨_, rfl, x, rfl, ?_, fun H' s' => ⟨_, rfl, ?_⟩⟩
    · have h1 : x.length ≤ 12 := by
        unfold nameB at hx
        simp at hx
        exact hx.1.2
      exact Nat.le_trans h1 (by decide)
    · rw [hx]
      exact iteF (k H' s')
theorem sc_refWidth : FnScope ["width"] ["width"] (defScope s_refuse_no_width) := ⟨rfl, rfl, rfl, by decide +kernel, rfl, by decide +kernel, by decide +kernel⟩
theorem ok_refWidth {f : Addr} {fd : FuncData} (F : Fun K "refuse_no_width" "refuse_no_width" s_refuse_no_width f fd) (T : Txt K mg C) (c1 : Can P w K mg base 1 "is_whole" ["thing"] spWhole) : FnOk P w K mg base CX0 2 f fd ["width"] spRefWidth := by
  refine F.ok sc_refWidth (fun vs H Q E h => ?_) (fun cdv A outer s H vs Q E hr h => ?_)
  · obtain ⟨x, rfl, _⟩ := h
    rfl
  · obtain ⟨x, rfl, hx, k⟩ := h
    refine ⟨_, pss_one (ps_if (PW.pt (pw_or (pt_not (pt_val (pe_callC c1 hr (by rfl) (pa_cons (pv 0) pa_nil)))) (pw_or1 (pt_cmpR op_lt (pv 0) pe_int (nomark _))))) pss_never pss_nil), ?_⟩
    refine ⟨_, rfl, x, rfl, true, rfl, iteF ⟨_, rfl, _, _, rfl, rfl, _, rfl, ?_⟩⟩
    rw [decide_eq_false (by omega)]
    exact iteF k
theorem sc_refMore : FnScope ["many", "most"] ["many", "most"] (defScope s_refuse_more) := ⟨rfl, rfl, rfl, by decide +kernel, rfl, by decide +kernel, by decide +kernel⟩
theorem ok_refMore {f : Addr} {fd : FuncData} (F : Fun K "refuse_more" "refuse_more" s_refuse_more f fd) (T : Txt K mg C) : FnOk P w K mg base CX0 1 f fd ["many", "most"] spRefMore := by
  refine F.ok sc_refMore (fun vs H Q E h => ?_) (fun cdv A outer s H vs Q E hr h => ?_)
  · obtain ⟨x, y, rfl, _⟩ := h
    rfl
  · obtain ⟨x, y, rfl, hx, k⟩ := h
    refine ⟨_, pss_one (ps_if (pt_cmpR op_gt (pv 0) (pv 1) (nomark _)) pss_never pss_nil), ?_⟩
    refine ⟨_, rfl, _, rfl, _, _, rfl, rfl, _, rfl, ?_⟩
    rw [decide_eq_false (by omega)]
    exact iteF k

/-! ### Net -/
theorem sc_init : FnScope ["self"] ["self"] (defScope s_Net_init) := ⟨rfl, rfl, rfl, by decide +kernel, rfl, by decide +kernel, by decide +kernel⟩
theorem ok_init {f : Addr} {fd : FuncData} (F : Fun K "__init__" "Net.__init__" s_Net_init f fd) (T : Txt K mg C) : FnOk P w K mg base CX0 1 f fd ["self"] (spInit C) := by
  refine F.ok sc_init (fun vs H Q E h => ?_) (fun cdv A outer s H vs Q E hr h => ?_)
  · obtain ⟨p, dx, rfl, _⟩ := h
    rfl
  · obtain ⟨p, dx, rfl, hp, k⟩ := h
    refine ⟨_, pss_cons (ps_fld (pv 0) pe_dnewK rfl) (pss_one (ps_fld (pv 0) pe_dnewK rfl)), ?_⟩
    intro ds hds
    have n1 : p ≠ ds := ne_of_none hp hds
    refine ⟨_, rfl, p, C, dx, [], rfl, (by rw [upd_ne n1]; exact hp), T.cl, T.nS, (by show 0 < 1000; decide), ?_⟩
    intro dl hdl
    have n2 : p ≠ dl := by
      intro e
      subst e
      rw [upd_same] at hdl
      cases hdl
    have n3 : ds ≠ dl := by
      intro e
      subst e
      rw [upd_ne n1.symm, upd_same] at hdl
      cases hdl
    have hdl' : H dl = none := by
      rw [upd_ne n2.symm, upd_ne n3.symm] at hdl
      exact hdl
    refine ⟨_, rfl, p, C, dx, _, rfl, (by rw [upd_ne n2, upd_same]), T.cl, T.nL, (by show 1 < 1000; decide), ?_⟩
    refine k ds dl _ hds hdl' ⟨⟨dx, upd_same⟩, ?_, ⟨[], ⟨rfl, fun q h => nomatch h⟩, ?_⟩, n3⟩ fun b o e hb => ?_
    · rw [upd_ne n1.symm, upd_ne n3, upd_ne n1.symm, upd_same]
      rfl
    · rw [upd_ne n2.symm, upd_same]
      rfl
    · rw [upd_ne hb, upd_ne (ne_of_none e hdl'), upd_ne hb, upd_ne (ne_of_none e hds)]
      exact e

/-! tables -/
theorem st_none {S : NS} {x : Str} (h : x ∉ S.pl) : valV (stKV S) (Sum.inr x : Key) = none := by
  cases e : valV (stKV S) (Sum.inr x : Key) with
  | none => rfl
  | some v =>
    have := valV_in e
    unfold stKV at this
    rw [List.map_map] at this
    obtain ⟨y, hy, e2⟩ := List.mem_map.mp this
    exact absurd (Sum.inr.inj e2 ▸ hy) h
theorem st_some {S : NS} {x : Str} (h : x ∈ S.pl) : (valV (stKV S) (Sum.inr x : Key)).isSome = true := by
  cases e : valV (stKV S) (Sum.inr x : Key) with
  | some v => rfl
  | none =>
    refine absurd ?_ (valV_not e)
    unfold stKV
    rw [List.map_map]
    exact List.mem_map.mpr ⟨x, h, rfl⟩
theorem st_in (S : NS) (x : Str) : (valV (stKV S) (Sum.inr x : Key)).isSome = decide (x ∈ S.pl) := by
  by_cases h : x ∈ S.pl
  · rw [st_some h, decide_eq_true h]
  · rw [st_none h, decide_eq_false h]
    rfl
theorem ld_keys {L : List (Row × Addr)} {rs : List Row} (h : L.map (·.1) = rs) : (ldKV L).map (·.1) = rs.map fun r => (Sum.inr r.nm : Key) := by
  rw [← h]
  unfold ldKV
  rw [List.map_map, List.map_map]
  rfl
theorem ld_none {L : List (Row × Addr)} {S : NS} {x : Str} (hL : L.map (·.1) = S.ti) (h : x ∉ S.nms) : valV (ldKV L) (Sum.inr x : Key) = none := by
  cases e : valV (ldKV L) (Sum.inr x : Key) with
  | none => rfl
  | some v =>
    have := valV_in e
    rw [ld_keys hL] at this
    obtain ⟨y, hy, e2⟩ := List.mem_map.mp this
    exact absurd (List.mem_map.mpr ⟨y, hy, Sum.inr.inj e2⟩) h
theorem ld_some {L : List (Row × Addr)} {S : NS} {x : Str} (hL : L.map (·.1) = S.ti) (h : x ∈ S.nms) : ∃ q ∈ L, q.1.nm = x ∧ valV (ldKV L) (Sum.inr x : Key) = some (.ref q.2) := by
  have hx : ∃ q ∈ L, q.1.nm = x := by
    unfold NS.nms at h
    rw [← hL, List.map_map] at h
    exact List.mem_map.mp h
  have key : ∀ L : List (Row × Addr), (∃ q ∈ L, q.1.nm = x) → ∃ q ∈ L, q.1.nm = x ∧ valV (ldKV L) (Sum.inr x : Key) = some (.ref q.2) := by
    intro L
    induction L with
    | nil => rintro ⟨q, h, _⟩; exact nomatch h
    | cons q r ih =>
      intro h
      by_cases e : q.1.nm = x
      · exact ⟨q, List.mem_cons_self, e, valV_pos (congrArg Sum.inr e)⟩
      · obtain ⟨q', h1, h2⟩ := h
        rcases List.mem_cons.mp h1 with rfl | h1
        · exact absurd h2 e
        · obtain ⟨q2, a1, a2, a3⟩ := ih ⟨q', h1, h2⟩
          refine ⟨q2, List.mem_cons_of_mem _ a1, a2, ?_⟩
          show valV (_ :: ldKV r) _ = _
          rw [valV_neg (fun z => e (Sum.inr.inj z))]
          exact a3
  exact key L hx

theorem sc_place : FnScope ["self", "name"] ["self", "name"] (defScope s_Net_place) := ⟨rfl, rfl, rfl, by decide +kernel, rfl, by decide +kernel, by decide +kernel⟩
theorem ok_place {f : Addr} {fd : FuncData} (F : Fun K "place" "Net.place" s_Net_place f fd) (T : Txt K mg C) (c1 : Can P w K mg base 3 "refuse_no_name" ["word"] spRefName) (c2 : Can P w K mg base 1 "refuse_more" ["many", "most"] spRefMore) :
    FnOk P w K mg base CX0 4 f fd ["self", "name"] (spPlace C) := by
  refine F.ok sc_place (fun vs H Q E h => ?_) (fun cdv A outer s H vs Q E hr h => ?_)
  · obtain ⟨p, ds, dl, S, x, rfl, _⟩ := h
    rfl
  · obtain ⟨p, ds, dl, S, x, rfl, N, hx, hn, hl, k⟩ := h
    have hu := hu_of hr
    refine ⟨_, pss_cons (ps_expr (pe_callC c1 hr (by rfl) (pa_cons (pv 1) pa_nil)))
      (pss_cons (ps_if (pt_cmp (pc_din hu (pv 1) (pe_fld (pv 0) rfl))) pss_never pss_nil)
      (pss_cons (ps_expr (pe_callC c2 (hr.mono (by decide)) (by rfl) (pa_cons (pe_op op_add (pe_callB call_lenD (by rfl) T.len b_len (pa_cons (pe_fld (pv 0) rfl) pa_nil)) pe_int) (pa_cons (pe_globC T.mostP (by rfl)) pa_nil))))
      (pss_one (ps_dput hu (pe_fld (pv 0) rfl) (pv 1) pe_bl rfl)))), ?_⟩
    refine ⟨_, rfl, x, rfl, hx, fun H1 s1 => ?_⟩
    obtain ⟨⟨dx, h1⟩, h2, ⟨L, ⟨r1, r2⟩, h3⟩, ne⟩ := N
    have g1 := s1 _ _ h1
    have g2 := s1 _ _ h2
    refine ⟨_, rfl, _, rfl, p, C, dx, _, _, rfl, g1, T.cl, T.nS, flds_st _ _, ds, _, rfl, DGet.k (k := Sum.inr x) g2, _, rfl, ?_⟩
    rw [st_none hn]
    refine iteF ?_
    refine ⟨_, rfl, p, C, dx, _, _, rfl, g1, T.cl, T.nS, flds_st _ _, ds, _, rfl, g2, _, _, rfl, rfl, _, _, rfl, ?_, ?_⟩
    · unfold stKV
      rw [List.length_map]
      omega
    refine ⟨_, rfl, p, C, dx, _, _, rfl, g1, T.cl, T.nS, flds_st _ _, _, rfl, ds, _, rfl, DPut.k (k := Sum.inr x) g2 (small1000 (by unfold stKV; rw [List.length_map]; omega)), ?_⟩
    have npd : p ≠ ds := ne_of g1 g2 (by intro z; cases z)
    have e : putK (stKV S) (Sum.inr x : Key) (V.bl true) = stKV ⟨S.pl ++ [x], S.ti⟩ := by
      rw [putK_new _ (st_none hn)]
      unfold stKV
      rw [List.map_append]
      rfl
    refine k _ ⟨⟨dx, by rw [upd_ne npd]; exact g1⟩, by rw [upd_same, e], ⟨L, ⟨r1, fun q hq => ?_⟩, by rw [upd_ne ne.symm]; exact s1 _ _ h3⟩, ne⟩ fun b o z z1 z2 => by rw [upd_ne z1]; exact s1 _ _ z
    have z := s1 _ _ (r2 q hq)
    rw [upd_ne (ne_of z g2 (by intro y; cases y))]
    exact z

theorem sc_places : FnScope ["self"] ["self"] (defScope s_Net_places) := ⟨rfl, rfl, rfl, by decide +kernel, rfl, by decide +kernel, by decide +kernel⟩
theorem ok_places {f : Addr} {fd : FuncData} (F : Fun K "places" "Net.places" s_Net_places f fd) (T : Txt K mg C) : FnOk P w K mg base CX0 1 f fd ["self"] (spPlaces C) := by
  refine F.ok sc_places (fun vs H Q E h => ?_) (fun cdv A outer s H vs Q E hr h => ?_)
  · obtain ⟨p, ds, dl, S, rfl, _⟩ := h
    rfl
  · obtain ⟨p, ds, dl, S, rfl, ⟨⟨dx, h1⟩, h2, _, _⟩, k⟩ := h
    refine ⟨_, pss_one (ps_ret (pe_callTy (call_listD rfl) (by rfl) T.list b_list (pa_cons (pe_fld (pv 0) rfl) pa_nil))), ?_⟩
    refine ⟨_, rfl, p, C, dx, _, _, rfl, h1, T.cl, T.nS, flds_st _ _, ds, stKV S, rfl, .inl h2, fun l hl => ?_⟩
    have e : (stKV S).map (fun kv => kV kv.1) = S.pl.map V.str := by
      unfold stKV
      rw [List.map_map]
      rfl
    rw [e]
    exact k l hl
theorem sc_ties : FnScope ["self"] ["self"] (defScope s_Net_ties) := ⟨rfl, rfl, rfl, by decide +kernel, rfl, by decide +kernel, by decide +kernel⟩
theorem ok_ties {f : Addr} {fd : FuncData} (F : Fun K "ties" "Net.ties" s_Net_ties f fd) (T : Txt K mg C) : FnOk P w K mg base CX0 1 f fd ["self"] (spTies C) := by
  refine F.ok sc_ties (fun vs H Q E h => ?_) (fun cdv A outer s H vs Q E hr h => ?_)
  · obtain ⟨p, ds, dl, S, rfl, _⟩ := h
    rfl
  · obtain ⟨p, ds, dl, S, rfl, ⟨⟨dx, h1⟩, h2, ⟨L, R, h3⟩, _⟩, k⟩ := h
    refine ⟨_, pss_one (ps_ret (pe_callTy (call_listV rfl) (by rfl) T.list b_list (pa_cons (pe_bm0 PySem.F.plainAttrs_dict PySem.F.slot_dict_values PySem.F.type_dict_values mt_values (pe_fld (pv 0) rfl)) pa_nil))), ?_⟩
    refine ⟨_, rfl, p, C, dx, _, _, rfl, h1, T.cl, T.nL, flds_ld _ _, .inr (.inr (.inl ⟨rfl, .inl ⟨_, h3⟩⟩)), dl, ldKV L, rfl, rfl, .inl h3, fun v hv => ?_⟩
    have nv : dl ≠ v := ne_of_none h3 hv
    refine ⟨v, dl, ldKV L, rfl, upd_same, .inl (by rw [upd_ne nv]; exact h3), fun l hl => ?_⟩
    have hlv : l ≠ v := by
      intro e
      subst e
      rw [upd_same] at hl
      cases hl
    have hl' : H l = none := by rw [upd_ne hlv] at hl; exact hl
    refine k l _ L hl' ((Same.new hv).upd hl) R ?_
    rw [upd_same]
    unfold ldKV
    rw [List.map_map]
    rfl
end
end Net

namespace Net
open PySem L2
/-! ### the law's own small defs -/
def spCell (K : PySem.W.Frag) : Sp := fun vs H Q _ => ∃ (a : Addr) (ns : List Int) (k : Int), vs = [.ref a, .int k] ∧ SqL K H a (ns.map V.int) ∧ 0 ≤ k ∧ ∀ c, Q (.int c) H
def spMixed : Sp := fun vs H Q _ => ∃ (c k : Int), vs = [.int c, .int k] ∧ 0 ≤ k ∧ k ≤ 100 ∧ ∀ n, 0 ≤ n → Q (.int n) H
/-- each code one above the one ahead -/
def consecB : List Nat → Bool
  | x :: y :: r => decide (y = x + 1) && consecB (y :: r)
  | _ => true
/-- letters in their order but for one that is put in -/
def drawnB (x : Str) : Bool := (List.range x.cps.toList.length).any fun i => consecB (x.cps.toList.eraseIdx i)
def spWords : Sp := fun vs H Q _ => ∃ (c m k : Int), vs = [.int c, .int m, .int k] ∧ 0 ≤ m ∧ m ≤ 26 ∧ 0 ≤ k ∧ k ≤ 100 ∧
  ∀ (l : Addr) (ws : List Str), H l = none → ws.length = m.toNat → (∀ x ∈ ws, nameB x = true ∧ drawnB x = true) → ws.Nodup → Q (.ref l) (upd H l (.lst (ws.map V.str)))
section
variable {P : Program} {w : World} {K : PySem.W.Frag} {mg : Str → Option Value} {base : Heap} {C : Addr}
theorem sc_cell : FnScope ["_law_script", "_law_k"] ["_law_script", "_law_k"] (defScope s_l_cell_at) := ⟨rfl, rfl, rfl, by decide +kernel, rfl, by decide +kernel, by decide +kernel⟩
theorem ok_cell {f : Addr} {fd : FuncData} (F : Fun K "_law_cell_at" "_law_cell_at" s_l_cell_at f fd) (T : Txt K mg C) : FnOk P w K mg base CX0 1 f fd ["_law_script", "_law_k"] (spCell K) := by
  refine F.ok sc_cell (fun vs H Q E h => ?_) (fun cdv A outer s H vs Q E hr h => ?_)
  · obtain ⟨a, ns, k, rfl, _⟩ := h
    rfl
  · obtain ⟨a, ns, k, rfl, hS, hk, q⟩ := h
    refine ⟨_, pss_cons (ps_if (pt_cmpR op_lt (pv 1) (pe_callB call_len_seq (by rfl) T.len b_len (pa_cons (pv 0) pa_nil)) (nomark _)) (pss_one (ps_ret (pe_ix ix_list (pv 0) (pv 1) (fun _ _ => rfl)))) pss_nil) (pss_one (ps_ret pe_int)), ?_⟩
    refine ⟨_, rfl, _, rfl, a, _, rfl, .inl hS, _, _, rfl, rfl, _, rfl, ite2 (fun h => ?_) (fun h => q 0)⟩
    obtain ⟨n, rfl⟩ := Int.eq_ofNat_of_zero_le hk
    have hn : n < ns.length := by
      have := of_decide_eq_true h
      rw [List.length_map] at this
      omega
    exact ⟨_, rfl, _, rfl, a, _, _, _, rfl, rfl, hS, atI_nat (v := V.int ns[n]) (by simp [hn]), q _⟩

theorem sc_mixed : FnScope ["_law_cell", "_law_k", "_law_number", "_law_time"] ["_law_cell", "_law_k"] (defScope s_l_mixed) := ⟨rfl, rfl, rfl, by decide +kernel, rfl, by decide +kernel, by decide +kernel⟩
theorem ok_mixed {f : Addr} {fd : FuncData} (F : Fun K "_law_mixed" "_law_mixed" s_l_mixed f fd) (T : Txt K mg C) : FnOk P w K mg base CX0 1 f fd ["_law_cell", "_law_k"] spMixed := by
  refine F.ok sc_mixed (fun vs H Q E h => ?_) (fun cdv A outer s H vs Q E hr h => ?_)
  · obtain ⟨c, k, rfl, _⟩ := h
    rfl
  · obtain ⟨c, k, rfl, hk, hk2, q⟩ := h
    refine ⟨_, pss_cons (ps_if (pt_cmpR op_eq (pe_op op_mod (pv 0) pe_int) pe_int (nomark _))
        (pss_cons (ps_set (i := 2) sc_mixed.nd rfl (Or.inl rfl) (pe_op op_fdiv (pe_callB call_abs (by rfl) T.abs b_abs (pa_cons (pv 0) pa_nil)) pe_int))
        (pss_cons (ps_for PassesOwn.never rfl (pi_range1 rfl T.range (pa_cons (pv 1) pa_nil)) (pg_name (i := 3) sc_mixed.nd rfl (Or.inl rfl))
          (pss_one (ps_set (i := 2) sc_mixed.nd rfl (Or.inl rfl) (pe_op op_fdivB (pv 2) (pe_op op_pow pe_int pe_int)))))
        (pss_one (ps_ret (pv 2))))) pss_nil)
      (pss_cons (ps_set (i := 2) sc_mixed.nd rfl (Or.inl rfl) (pe_op op_mod (pe_op op_add (pv 0) (pe_op op_mul pe_int (pv 1))) pe_int))
      (pss_cons (ps_set (i := 2) sc_mixed.nd rfl (Or.inl rfl) (pe_op op_mod (pe_op op_add (pe_op op_add (pe_op op_mul (pv 2) (pv 2)) (pe_op op_mul pe_int (pv 2))) (pv 1)) pe_int))
      (pss_one (ps_ret (pe_op op_mod (pe_op op_mul (pv 2) (pv 2)) pe_int))))), ?_⟩
    refine ⟨_, rfl, _, _, rfl, rfl, (by show (0 : Int) < 2; decide), rfl, _, rfl, ite2 (fun _ => ?_) (fun _ => ?_)⟩
    · refine ⟨_, rfl, c, rfl, _, _, rfl, rfl, ⟨by decide, by decide⟩, ?_⟩
      refine ⟨_, rfl, k, rfl, by omega, by omega, for_range (n := k.toNat) (fun i σ' H' => H' = H ∧ ∃ (n : Int) (t : Option V), 0 ≤ n ∧ σ' = [some (.int c), some (.int k), some (.int n), t]) ?_ ?_ ?_⟩
      · refine ⟨rfl, _, _, ?_, rfl⟩
        refine Int.ediv_nonneg ?_ (by decide)
        split <;> omega
      · rintro i σ' H' hi ⟨rfl, n, t, hn, rfl⟩
        refine ⟨_, rfl, _, _, rfl, rfl, ⟨by decide, by decide, by decide⟩, _, _, rfl, rfl, ⟨by decide, by decide +kernel⟩, rfl, _, _, ?_, rfl⟩
        exact Int.ediv_nonneg hn (by decide)
      · rintro σ' H' ⟨rfl, n, t, hn, rfl⟩
        exact ⟨_, rfl, q n hn⟩
    · refine ⟨_, rfl, _, rfl, _, _, rfl, rfl, .inl ⟨by decide, by decide⟩, _, _, rfl, rfl, _, _, rfl, rfl, (by show (0 : Int) < 2147483629; decide), ?_⟩
      generalize hn : (c + 7919 * k) % 2147483629 = n
      have h1 : 0 ≤ n := by omega
      have h2 : n < 2147483629 := by omega
      refine ⟨_, rfl, _, rfl, _, _, rfl, rfl, .inl ⟨by omega, by omega⟩, _, rfl, _, _, rfl, rfl, .inl ⟨by decide, by decide⟩, _, _, rfl, rfl, _, rfl, _, _, rfl, rfl, _, _, rfl, rfl, (by show (0 : Int) < 2147483629; decide), ?_⟩
      generalize hm : (n * n + 16807 * n + k) % 2147483629 = m
      have h3 : 0 ≤ m := by omega
      have h4 : m < 2147483629 := by omega
      refine ⟨_, rfl, _, rfl, _, _, rfl, rfl, .inl ⟨by omega, by omega⟩, _, _, rfl, rfl, (by show (0 : Int) < 2147483587; decide), ?_⟩
      exact q _ (Int.emod_nonneg _ (by decide))

/-! ### names -/
theorem nodup_len {α : Type} [DecidableEq α] : ∀ {l m : List α}, l.Nodup → (∀ x ∈ l, x ∈ m) → l.length ≤ m.length
  | [], _, _, _ => Nat.zero_le _
  | x :: r, m, h, hs => by
    obtain ⟨h1, h2⟩ := List.nodup_cons.mp h
    have hx : x ∈ m := hs x List.mem_cons_self
    have := nodup_len (l := r) (m := m.erase x) h2 fun y hy => by
      have hne : y ≠ x := fun e => h1 (e ▸ hy)
      exact (List.mem_erase_of_ne hne).mpr (hs y (List.mem_cons_of_mem _ hy))
    rw [List.length_erase_of_mem hx] at this
    have hp : 0 < m.length := List.length_pos_of_mem hx
    rw [List.length_cons]
    omega
/-- the name by base, place and letter -/
def nmL (base : List Nat) (k j : Nat) : List Nat := base.take k ++ [97 + j] ++ base.drop k
theorem nmL_len (base : List Nat) (k j : Nat) : (nmL base k j).length = base.length + 1 := by
  unfold nmL
  simp [List.length_take, List.length_drop]
  omega
theorem nmL_small {base : List Nat} {k j : Nat} (hb : ∀ c ∈ base, 97 ≤ c ∧ c ≤ 122) (hj : j < 26) : ∀ c ∈ nmL base k j, 97 ≤ c ∧ c ≤ 122 := by
  intro c hc
  unfold nmL at hc
  rcases List.mem_append.mp hc with h | h
  · rcases List.mem_append.mp h with h | h
    · exact hb c (List.mem_of_mem_take h)
    · have : c = 97 + j := by simpa using h
      omega
  · exact hb c (List.mem_of_mem_drop h)
theorem nmL_inj {base : List Nat} {k i j : Nat} (hk : k ≤ base.length) (e : nmL base k i = nmL base k j) : i = j := by
  have h : ∀ n, (nmL base k n)[k]? = some (97 + n) := by
    intro n
    unfold nmL
    rw [List.append_assoc, List.getElem?_append_right (by rw [List.length_take]; omega)]
    simp [List.length_take, Nat.min_eq_left hk]
  have h1 := h i
  rw [e, h j] at h1
  have := Option.some.inj h1
  omega
def nmS (base : Str) (k j : Nat) : Str := ⟨(nmL base.cps.toList k j).toArray⟩
theorem nmS_name {base : Str} {k j : Nat} (hb : ∀ c ∈ base.cps.toList, 97 ≤ c ∧ c ≤ 122) (hl : base.length ≤ 11) (hj : j < 26) : nameB (nmS base k j) = true := by
  have h1 : (nmS base k j).length = base.length + 1 := by
    have := nmL_len base.cps.toList k j
    show (nmL base.cps.toList k j).toArray.size = _
    rw [List.size_toArray, this]
    rfl
  unfold nameB
  rw [h1, decide_eq_true (by omega), decide_eq_true (by omega)]
  simp only [Bool.true_and, List.all_eq_true]
  intro c hc
  have := nmL_small (k := k) hb hj c hc
  unfold smallB
  rw [decide_eq_true this.1, decide_eq_true this.2]
  rfl
theorem nmS_drawn {base : Str} {k j : Nat} (hk : k ≤ base.length) (hc : consecB base.cps.toList = true) : drawnB (nmS base k j) = true := by
  unfold drawnB
  have hk' : k ≤ base.cps.toList.length := hk
  rw [List.any_eq_true]
  refine ⟨k, ?_, ?_⟩
  · rw [List.mem_range]
    show k < (nmL base.cps.toList k j).length
    rw [nmL_len]
    omega
  · show consecB ((nmL base.cps.toList k j).eraseIdx k) = true
    have e : (nmL base.cps.toList k j).eraseIdx k = base.cps.toList := by
      unfold nmL
      have hl : (base.cps.toList.take k).length = k := by rw [List.length_take]; omega
      rw [List.append_assoc, List.eraseIdx_append_of_length_le (by omega), hl, Nat.sub_self]
      exact List.take_append_drop k _
    rw [e]
    exact hc
theorem consec_range (n : Nat) : ∀ a, consecB ((List.range' a n)) = true := by
  induction n with
  | zero => intro a; rfl
  | succ n ih =>
    intro a
    cases n with
    | zero => rfl
    | succ n =>
      show (decide (a + 1 = a + 1) && consecB (List.range' (a + 1) (n + 1))) = true
      rw [ih (a + 1), decide_eq_true rfl]
      rfl
theorem consec_take : ∀ (l : List Nat) (n : Nat), consecB l = true → consecB (l.take n) = true
  | [], n, _ => by simp [consecB]
  | [x], n, _ => by cases n <;> simp [consecB]
  | x :: y :: r, 0, _ => rfl
  | x :: y :: r, 1, _ => rfl
  | x :: y :: r, n + 2, h => by
    have h' : decide (y = x + 1) = true ∧ consecB (y :: r) = true := Bool.and_eq_true_iff.mp h
    show (decide (y = x + 1) && consecB ((y :: r).take (n + 1))) = true
    rw [consec_take (y :: r) (n + 1) h'.2, h'.1]
    rfl
theorem nmS_nodup {base : Str} {k n : Nat} (hk : k ≤ base.length) : ((List.range n).map (nmS base k)).Nodup := by
  unfold List.Nodup
  rw [List.pairwise_map]
  refine List.Pairwise.imp (fun h e => h (nmL_inj (base := base.cps.toList) hk ?_)) List.nodup_range
  have := congrArg (fun s : Str => s.cps.toList) e
  simpa [nmS] using this
theorem nmS_eq {base : Str} {k j : Nat} (hk : k ≤ base.length) : Txt.slice base none (some (k : Int)) ++ (⟨#[97 + j]⟩ : Str) ++ Txt.slice base (some (k : Int)) none = nmS base k j := by
  have e : ∀ x y : Str, x.cps.toList = y.cps.toList → x = y := fun x y h => by
    obtain ⟨a⟩ := x
    obtain ⟨b⟩ := y
    exact congrArg Str.mk (Array.toList_inj.mp h)
  apply e
  show ((Txt.slice base none (some (k : Int))).cps ++ #[97 + j] ++ (Txt.slice base (some (k : Int)) none).cps).toList = _
  rw [Array.toList_append, Array.toList_append, slice_to, slice_from base hk]
  rfl
theorem abc_get {j : Nat} (h : j < 26) : abc.cps.toList[j]? = some (97 + j) := by
  have e : abc.cps.toList = (List.range 26).map (97 + ·) := by decide +kernel
  rw [e, List.getElem?_map, List.getElem?_range h]
  rfl
theorem base_ok {a b : Nat} (ha : a < 26) (hab : a ≤ b) (hb : b ≤ a + 11) : (Txt.slice abc (some (a : Int)) (some (b : Int))).length ≤ 11 ∧ consecB (Txt.slice abc (some (a : Int)) (some (b : Int))).cps.toList = true ∧ ∀ c ∈ (Txt.slice abc (some (a : Int)) (some (b : Int))).cps.toList, 97 ≤ c ∧ c ≤ 122 := by
  have hl : abc.length = 26 := by decide +kernel
  have e := slice_list abc (a := a) (b := b) (by omega) hab
  refine ⟨?_, ?_, ?_⟩
  · show (Txt.slice abc (some (a : Int)) (some (b : Int))).cps.size ≤ 11
    rw [← Array.length_toList, e, List.length_take]
    omega
  · rw [e]
    have ea : abc.cps.toList = List.range' 97 26 := by decide +kernel
    rw [ea, List.drop_range']
    exact consec_take _ _ (consec_range _ _)
  · intro c hc
    rw [e] at hc
    have h := List.mem_of_mem_drop (List.mem_of_mem_take hc)
    have := mem_abc c
    rw [decide_eq_true h] at this
    unfold smallB at this
    simpa using this.symm

theorem sc_words : FnScope ["_law_cell", "_law_many", "_law_k", "_law_letters", "_law_number", "_law_base", "_law_at"] ["_law_cell", "_law_many", "_law_k"] (defScope s_l_words) := ⟨rfl, rfl, rfl, by decide +kernel, rfl, by decide +kernel, by decide +kernel⟩
theorem ok_words {f : Addr} {fd : FuncData} (F : Fun K "_law_words" "_law_words" s_l_words f fd) (T : Txt K mg C) (c1 : Can P w K mg base 1 "_law_mixed" ["_law_cell", "_law_k"] spMixed) : FnOk P w K mg base CX0 2 f fd ["_law_cell", "_law_many", "_law_k"] spWords := by
  refine F.ok sc_words (fun vs H Q E h => ?_) (fun cdv A outer s H vs Q E hr h => ?_)
  · obtain ⟨c, m, k, rfl, _⟩ := h
    rfl
  · obtain ⟨c, m, k, rfl, hm0, hm, hk0, hk, q⟩ := h
    refine ⟨_, pss_cons (ps_set (i := 3) sc_words.nd rfl (Or.inr rfl) pe_str)
      (pss_cons (ps_set (i := 4) sc_words.nd rfl (Or.inl rfl) (pe_callC c1 hr (by rfl) (pa_cons (pv 0) (pa_cons (pv 2) pa_nil))))
      (pss_cons (ps_set (i := 5) sc_words.nd rfl (Or.inr rfl) (pe_slice sl_str (pv 3) (po_some (pe_op op_mod (pv 4) pe_int)) (po_some (pe_op op_add (pe_op op_mod (pv 4) pe_int) (pe_op op_mod (pe_op op_fdiv (pv 4) pe_int) pe_int)))))
      (pss_cons (ps_set (i := 6) sc_words.nd rfl (Or.inr rfl) (pe_op op_mod (pe_op op_fdiv (pv 4) pe_int) (pe_op op_add (pe_callB call_len_str (by rfl) T.len b_len (pa_cons (pv 5) pa_nil)) pe_int)))
      (pss_one (ps_ret (pe_comp (N := ["_law_j", "_law_at", "_law_base", "_law_letters"]) (xs := 1) (js := [6, 5, 3]) rfl (compScope_of rfl) (pi_range1 rfl T.range (pa_cons (pv 1) pa_nil))
        (fun _ _ _ _ => pg_name (i := 0) (show List.Nodup (["_law_j", "_law_at", "_law_base", "_law_letters"] : List Str) by decide +kernel) rfl (Or.inl rfl)) (fun _ _ _ _ => pts_nil)
        (fun _ _ _ _ => pe_op op_add_str (pe_op op_add_str (pe_slice sl_str (pv 2) po_none (po_some (pv 1))) (pe_ix ix_str (pv 3) (pv 0) (fun _ _ => rfl))) (pe_slice sl_str (pv 2) (po_some (pv 1)) po_none)))))))), ?_⟩
    refine ⟨_, rfl, _, rfl, c, k, rfl, hk0, hk, fun n hn => ?_⟩
    have hl : abc.length = 26 := by decide +kernel
    refine ⟨_, rfl, _, rfl, _, _, rfl, rfl, (by show (0 : Int) < 26; decide), _, rfl, _, rfl, _, _, rfl, rfl, (by show (0 : Int) < 26; decide), _, rfl, _, _, rfl, rfl, ⟨by decide, by decide⟩, _, _, rfl, rfl, (by show (0 : Int) < 12; decide), _, _, rfl, rfl, _, rfl, abc, rfl, (by rw [hl]; decide), ?_⟩
    obtain ⟨a, ha⟩ := Int.eq_ofNat_of_zero_le (Int.emod_nonneg n (by decide : (26 : Int) ≠ 0))
    obtain ⟨d, hd⟩ := Int.eq_ofNat_of_zero_le (Int.emod_nonneg (n / 26) (by decide : (12 : Int) ≠ 0))
    have ha' : a < 26 := by have := Int.emod_lt_of_pos n (by decide : (0 : Int) < 26); omega
    have hd' : d < 12 := by have := Int.emod_lt_of_pos (n / 26) (by decide : (0 : Int) < 12); omega
    obtain ⟨b1, b3, b2⟩ := base_ok (a := a) (b := a + d) ha' (by omega) (by omega)
    have eb : Txt.slice abc (some (n % 26)) (some (n % 26 + n / 26 % 12)) = Txt.slice abc (some (a : Int)) (some ((a + d : Nat) : Int)) := by rw [ha, hd]; rfl
    rw [eb]
    generalize Txt.slice abc (some (a : Int)) (some ((a + d : Nat) : Int)) = bs at b1 b2 b3
    have hz : bs.length ≤ sizeLine := Nat.le_trans b1 (by decide)
    refine ⟨_, rfl, _, _, rfl, rfl, ⟨by decide, by decide⟩, _, rfl, bs, rfl, hz, _, _, rfl, rfl, _, _, rfl, rfl, (by show (0 : Int) < (bs.length : Int) + 1; omega), ?_⟩
    obtain ⟨t, ht⟩ := Int.eq_ofNat_of_zero_le (Int.emod_nonneg (n / 312) (by omega : ((bs.length : Int) + 1) ≠ 0))
    have ht' : t ≤ bs.length := by have := Int.emod_lt_of_pos (n / 312) (by omega : (0 : Int) < (bs.length : Int) + 1); omega
    dsimp only
    rw [ht]
    obtain ⟨M, rfl⟩ := Int.eq_ofNat_of_zero_le hm0
    have hM : M ≤ 26 := by omega
    refine ⟨_, rfl, M, rfl, by omega, by omega, comp_range (n := (M : Int).toNat) (fun i acc σ' H' => i ≤ M ∧ H' = H ∧ acc = ((List.range i).map (nmS bs t)).map V.str ∧ ∃ o, σ' = [o, some (.int t), some (.str bs), some (.str abc)])
      ⟨Nat.zero_le _, rfl, rfl, none, rfl⟩ (fun i acc σ' H' h => ?_) ?_ (fun i acc σ' H' hi h => ?_) (fun acc σ' H' h p hp => ?_)⟩
    · obtain ⟨_, rfl, rfl, o, rfl⟩ := h
      simp
    · rw [Int.toNat_natCast]
      exact Nat.le_trans hM (by decide)
    · obtain ⟨h0, rfl, rfl, o, rfl⟩ := h
      rw [Int.toNat_natCast] at hi
      have l1 : (Txt.slice bs none (some (t : Int))).length ≤ 11 := Nat.le_trans (Txt.slice_le _ _ _) b1
      have l2 : (Txt.slice bs (some (t : Int)) none).length ≤ 11 := Nat.le_trans (Txt.slice_le _ _ _) b1
      have l3 : ((⟨#[97 + i]⟩ : Str)).length = 1 := rfl
      have l4 : ∀ x y : Str, (x ++ y).length = x.length + y.length := fun x y => Array.size_append
      have s26 : (26 : Nat) ≤ sizeLine := by decide
      refine ⟨_, rfl, _, rfl, _, rfl, bs, rfl, hz, _, rfl, _, rfl, abc, _, 97 + i, rfl, rfl, (by rw [hl]; decide), ?_, _, _, rfl, rfl, ?_, _, rfl, _, rfl, _, rfl, bs, rfl, hz, _, _, rfl, rfl, ?_, ?_⟩
      · rw [Int.zero_add]
        exact atI_nat (abc_get (by omega))
      · omega
      · rw [l4]
        omega
      · refine ⟨by omega, rfl, ?_, _, rfl⟩
        rw [nmS_eq ht', List.range_succ, List.map_append, List.map_append]
        rfl
    · obtain ⟨h0, rfl, rfl, o, rfl⟩ := h
      rw [Int.toNat_natCast]
      refine q p _ hp (by simp) (fun x hx => ?_) (nmS_nodup ht')
      obtain ⟨j, hj, rfl⟩ := List.mem_map.mp hx
      exact ⟨nmS_name b2 b1 (by have := List.mem_range.mp hj; omega), nmS_drawn ht' b3⟩

theorem sc_lwhole : FnScope ["_law_found"] ["_law_found"] (defScope s_l_whole) := ⟨rfl, rfl, rfl, by decide +kernel, rfl, by decide +kernel, by decide +kernel⟩
theorem ok_lwhole {f : Addr} {fd : FuncData} (F : Fun K "_law_whole" "_law_whole" s_l_whole f fd) (T : Txt K mg C) : FnOk P w K mg base CX0 1 f fd ["_law_found"] spWhole := by
  refine F.ok sc_lwhole (fun vs H Q E h => ?_) (fun cdv A outer s H vs Q E hr h => ?_)
  · obtain ⟨x, rfl, _⟩ := h
    rfl
  · obtain ⟨x, rfl, k⟩ := h
    refine ⟨_, pss_one (ps_ret (pe_and (pe_callB call_isinst (by rfl) T.isi b_isi (pa_cons (pv 0) (pa_cons (pe_ty T.int (by rfl) b_int) pa_nil)))
      (pe_one (pe_not (pe_callB call_isinst (by rfl) T.isi b_isi (pa_cons (pv 0) (pa_cons (pe_ty T.bool (by rfl) b_bool) pa_nil))))))), ?_⟩
    exact ⟨_, rfl, _, "int", _, true, rfl, .int x, rfl, true, rfl, iteT ⟨_, rfl, _, "bool", _, false, rfl, .int x, T.kIB, false, rfl, k⟩⟩
end
end Net

namespace Net
open PySem L2
/-! ### deeds -/
theorem nodup_snoc {l : List Str} {x : Str} (h : l.Nodup) (hx : x ∉ l) : (l ++ [x]).Nodup := L2.nd_snoc h hx
theorem withEnds_eq (pl : List Str) (a b : Str) : withEnds pl a b = pl ++ ((if a ∈ pl then [] else [a]) ++ (if b ∈ pl then [] else [b])) := by
  unfold withEnds
  by_cases ha : a ∈ pl <;> by_cases hb : b ∈ pl <;> simp [ha, hb]
/-! ### the note beside -/
theorem Rows.same {H H' : Hp} {L : List (Row × Addr)} {rs : List Row} (s : Same H H') (h : Rows H L rs) : Rows H' L rs := ⟨h.1, fun q hq => s _ _ (h.2 q hq)⟩
theorem NetAt.same {C : Addr} {H H' : Hp} {p ds dl : Addr} {S : NS} (s : Same H H') (h : NetAt C H p ds dl S) : NetAt C H' p ds dl S :=
  ⟨let ⟨dx, e⟩ := h.ob; ⟨dx, s _ _ e⟩, s _ _ h.st, let ⟨L, r, e⟩ := h.ld; ⟨L, r.same s, s _ _ e⟩, h.ne⟩

/-! ### data -/
theorem strOk_of {x : Str} (h : nameB x = true) : PyData.strOk x = true := by
  unfold nameB at h
  simp only [Bool.and_eq_true, List.all_eq_true] at h
  unfold PyData.strOk
  rw [Array.all_eq_true']
  intro c hc
  have := h.2 c (by simpa using hc)
  unfold smallB at this
  simp at this
  simp
  omega
def rowD (r : Row) : PyData := .tuple [.str r.nm, .str r.a, .str r.b, .int r.w, .int r.c]
theorem rd_strs {K : PySem.W.Frag} {H : Hp} {l : Addr} {ws : List Str} (h : H l = some (.lst (ws.map V.str))) (ok : ∀ x ∈ ws, nameB x = true) : RdD K H 2 (.ref l) (.list (ws.map PyData.str)) := by
  refine .inl ⟨_, _, SqL.of h, rfl, ?_⟩
  clear h
  induction ws with
  | nil => exact .nil
  | cons x r ih => exact .cons ⟨strOk_of (ok x List.mem_cons_self), rfl⟩ (ih fun y hy => ok y (List.mem_cons_of_mem _ hy))
theorem rd_rows {K : PySem.W.Frag} {H : Hp} {l : Addr} {L : List (Row × Addr)} {rs : List Row} (R : Rows H L rs) (h : H l = some (.lst (L.map fun q => V.ref q.2)))
    (ok : ∀ r ∈ rs, nameB r.nm = true ∧ nameB r.a = true ∧ nameB r.b = true) : RdD K H 2 (.ref l) (.list (rs.map rowD)) := by
  refine .inl ⟨_, _, SqL.of h, rfl, ?_⟩
  clear h
  obtain ⟨rfl, h2⟩ := R
  induction L with
  | nil => exact .nil
  | cons q r ih =>
    refine .cons (.inr ⟨_, _, SqT.of (h2 q List.mem_cons_self), rfl, ?_⟩) (ih (fun y hy => h2 y (List.mem_cons_of_mem _ hy)) fun y hy => ok y (List.mem_cons_of_mem _ hy))
    obtain ⟨a1, a2, a3⟩ := ok q.1 List.mem_cons_self
    exact .cons ⟨strOk_of a1, rfl⟩ (.cons ⟨strOk_of a2, rfl⟩ (.cons ⟨strOk_of a3, rfl⟩ (.cons rfl (.cons rfl .nil))))
theorem rd_nil {K : PySem.W.Frag} {H : Hp} {l : Addr} (h : H l = some (.lst [])) : RdD K H 2 (.ref l) (.list []) := .inl ⟨_, _, SqL.of h, rfl, .nil⟩
theorem lay_strs {ws : List Str} (ok : ∀ x ∈ ws, nameB x = true) : PyData.eqv (.list (ws.map PyData.str)) (.list (ws.map PyData.str)) = true := by
  rw [PyData.eqv]
  induction ws with
  | nil => rfl
  | cons x r ih =>
    show (PyData.eqv (.str x) (.str x) && PyData.eqvAll (r.map PyData.str) (r.map PyData.str)) = true
    rw [ih fun y hy => ok y (List.mem_cons_of_mem _ hy)]
    simp [PyData.eqv]
theorem lay_rows (rs : List Row) : PyData.eqv (.list (rs.map rowD)) (.list (rs.map rowD)) = true := by
  rw [PyData.eqv]
  induction rs with
  | nil => rfl
  | cons x r ih =>
    show (PyData.eqv (rowD x) (rowD x) && PyData.eqvAll (r.map rowD) (r.map rowD)) = true
    rw [ih]
    simp [rowD, PyData.eqv, PyData.eqvAll]
theorem eqv_nil (ds : List PyData) : PyData.eqv (.list ds) (.list []) = ds.isEmpty := by
  cases ds <;> rfl
theorem inV_str (x : Str) (ns : List Str) : inV (.str x) (ns.map V.str) = decide (x ∈ ns) := by
  unfold inV
  rw [List.any_map, Bool.eq_iff_iff]
  simp only [List.any_eq_true, Function.comp, decide_eq_true_eq, eqV]
  constructor
  · rintro ⟨y, h1, h2⟩
    have := eq_of_beq h2
    exact this ▸ h1
  · intro h
    exact ⟨x, h, by simp⟩
theorem flat_strs (ns : List Str) : (ns.map V.str).all flatV = true := by
  rw [List.all_map]
  exact List.all_eq_true.mpr fun _ _ => rfl
end Net

namespace Net
open PySem L2
section
variable {P : Program} {w : World} {K : PySem.W.Frag} {mg : Str → Option Value} {base : Heap} {C : Addr}
abbrev Ntie : List Str := ["self", "name", "a", "b", "width", "cost", "word", "new_places", "end"]
theorem sc_tie : FnScope Ntie ["self", "name", "a", "b", "width", "cost"] (defScope s_Net_tie) := ⟨rfl, rfl, rfl, by decide +kernel, rfl, by decide +kernel, by decide +kernel⟩
theorem ok_tie {f : Addr} {fd : FuncData} (F : Fun K "tie" "Net.tie" s_Net_tie f fd) (T : Txt K mg C) (c1 : Can P w K mg base 3 "refuse_no_name" ["word"] spRefName) (c2 : Can P w K mg base 2 "refuse_no_width" ["width"] spRefWidth) (c3 : Can P w K mg base 1 "refuse_more" ["many", "most"] spRefMore) :
    FnOk P w K mg base CX0 4 f fd ["self", "name", "a", "b", "width", "cost"] (spTie C) := by
  refine F.ok sc_tie (fun vs H Q E h => ?_) (fun cdv A outer s H vs Q E hr h => ?_)
  · obtain ⟨p, ds, dl, S, r, rfl, _⟩ := h
    rfl
  · obtain ⟨p, ds, dl, S, r, rfl, N, n1, n2, n3, hn, hab, hw, hl40, hl20, k⟩ := h
    have hu := hu_of hr
    refine ⟨_, pss_cons (ps_for PassesOwn.never rfl (pi_tup (pe_tup (pa_cons (pv 1) (pa_cons (pv 2) (pa_cons (pv 3) pa_nil))))) (pg_name (i := 6) sc_tie.nd rfl (Or.inl rfl)) (pss_one (ps_expr (pe_callC c1 hr (by rfl) (pa_cons (pv 6) pa_nil)))))
      (pss_cons (ps_if (pt_cmp (pc_din hu (pv 1) (pe_fld (pv 0) rfl))) pss_never pss_nil)
      (pss_cons (ps_if (pt_cmpR op_eq (pv 2) (pv 3) (nomark _)) pss_never pss_nil)
      (pss_cons (ps_expr (pe_callC c2 (hr.mono (by decide)) (by rfl) (pa_cons (pv 4) pa_nil)))
      (pss_cons (ps_comp (j := 7) (N := ["end", "self"]) (xs := 1) (js := [0]) rfl sc_tie.nd rfl rfl (compScope_of rfl) (pi_tup (pe_tup (pa_cons (pv 2) (pa_cons (pv 3) pa_nil)))) (fun _ _ _ _ => pg_name (i := 0) (show List.Nodup (["end", "self"] : List Str) by decide +kernel) rfl (Or.inl rfl))
        (fun _ _ _ _ => pts_one (pt_cmp (pc_dnotin hu (pv 0) (pe_fldK K (by rfl) (pv 1) (by rfl))))) (fun _ _ _ _ => pv 0) rfl)
      (pss_cons (ps_expr (pe_callC c3 (hr.mono (by decide)) (by rfl) (pa_cons (pe_op op_add (pe_callB call_lenD (by rfl) T.len b_len (pa_cons (pe_fld (pv 0) rfl) pa_nil)) pe_int) (pa_cons (pe_globC T.mostT (by rfl)) pa_nil))))
      (pss_cons (ps_expr (pe_callC c3 (hr.mono (by decide)) (by rfl) (pa_cons (pe_op op_add (pe_callB call_lenD (by rfl) T.len b_len (pa_cons (pe_fld (pv 0) rfl) pa_nil)) (pe_callB call_len_seq (by rfl) T.len b_len (pa_cons (pv 7) pa_nil))) (pa_cons (pe_globC T.mostP (by rfl)) pa_nil))))
      (pss_cons (ps_for PassesOwn.never rfl (pi_list (pv 7)) (pg_name (i := 8) sc_tie.nd rfl (Or.inl rfl)) (pss_one (ps_dput hu (pe_fld (pv 0) rfl) (pv 8) pe_bl rfl)))
      (pss_one (ps_dput hu (pe_fld (pv 0) rfl) (pv 1) (pe_tup (pa_cons (pv 1) (pa_cons (pv 2) (pa_cons (pv 3) (pa_cons (pv 4) (pa_cons (pv 5) pa_nil)))))) rfl))))))))), ?_⟩
    -- for word in (name, a, b)
    refine ⟨_, rfl, _, rfl, _, rfl, (by show 3 ≤ sizeLine; decide), fun t ht => ⟨t, rfl, ⟨_, SqT.of upd_same⟩, ?_⟩⟩
    have st : Same H (upd H t (.tup [V.str r.nm, V.str r.a, V.str r.b])) := Same.new ht
    have et : (upd H t (.tup [V.str r.nm, V.str r.a, V.str r.b])) t = some (.tup [V.str r.nm, V.str r.a, V.str r.b]) := upd_same
    generalize upd H t (.tup [V.str r.nm, V.str r.a, V.str r.b]) = H1 at st et
    refine for_tup (K := K) (a := t) (xs := [V.str r.nm, V.str r.a, V.str r.b]) (fun i σ' H' => (∃ v, σ' = [some (.ref p), some (.str r.nm), some (.str r.a), some (.str r.b), some (.int r.w), some (.int r.c), v, none, none]) ∧ Same H1 H')
      ⟨⟨_, rfl⟩, Same.refl H1⟩ (fun i σ' H' _ h => SqT.of (h.2 _ _ et)) (fun i x σ' H' hx h => ?_) (fun σ' H' h => ?_)
    · obtain ⟨⟨v, rfl⟩, s1⟩ := h
      obtain ⟨y, rfl, hy⟩ : ∃ y, x = V.str y ∧ nameB y = true := by
        match i, hx with
        | 0, hx => exact ⟨_, (Option.some.inj hx).symm, n1⟩
        | 1, hx => exact ⟨_, (Option.some.inj hx).symm, n2⟩
        | 2, hx => exact ⟨_, (Option.some.inj hx).symm, n3⟩
        | n + 3, hx => simp at hx
      exact ⟨_, rfl, y, rfl, hy, fun H2 s2 => ⟨⟨_, rfl⟩, s1.trans s2⟩⟩
    obtain ⟨⟨v, rfl⟩, s1⟩ := h
    have sA := st.trans s1
    obtain ⟨⟨dx, h1⟩, h2, ⟨L, R, h3⟩, ne⟩ := N.same sA
    -- if name in self.laid
    refine ⟨_, rfl, _, rfl, p, C, dx, _, _, rfl, h1, T.cl, T.nL, flds_ld _ _, dl, _, rfl, DGet.k (k := Sum.inr r.nm) h3, _, rfl, ?_⟩
    rw [ld_none R.1 hn]
    refine iteF ?_
    -- if a == b
    refine ⟨_, rfl, _, rfl, rfl, _, rfl, ?_⟩
    rw [decide_eq_false (fun z => hab (by injection z))]
    refine iteF ⟨_, rfl, r.w, rfl, hw, ?_⟩
    -- new_places
    refine ⟨_, rfl, _, rfl, (by show 2 ≤ sizeLine; decide), fun t2 ht2 => ⟨t2, rfl, ⟨_, SqT.of upd_same⟩, ?_⟩⟩
    have sB : Same H' (upd H' t2 (.tup [V.str r.a, V.str r.b])) := Same.new ht2
    have et2 : (upd H' t2 (.tup [V.str r.a, V.str r.b])) t2 = some (.tup [V.str r.a, V.str r.b]) := upd_same
    generalize upd H' t2 (.tup [V.str r.a, V.str r.b]) = H2 at sB et2
    have g1 := sB _ _ h1
    have g2 := sB _ _ h2
    have g3 := sB _ _ h3
    refine comp_tup (K := K) (a := t2) (ys := [r.a, r.b].map V.str) (fun i acc σ' H' => H' = H2 ∧ acc = (([r.a, r.b].take i).filter fun x => !decide (x ∈ S.pl)).map V.str ∧ ∃ o, σ' = [o, some (.ref p)]) ⟨rfl, rfl, none, rfl⟩ (fun i acc σ' H' h => ?_) (by show 2 ≤ sizeLine; decide)
      (fun i acc σ' H' _ h => by rw [h.1]; exact SqT.of et2) (fun i x acc σ' H' hx h => ?_) (fun acc σ' H' h np hnp => ?_)
    · obtain ⟨_, rfl, _⟩ := h
      rw [List.length_map]
      exact Nat.le_trans (List.length_filter_le _ _) (by rw [List.length_take]; omega)
    · obtain ⟨rfl, rfl, o, rfl⟩ := h
      rw [List.getElem?_map] at hx
      cases ex : [r.a, r.b][i]? with
      | none => rw [ex] at hx; cases hx
      | some y =>
        rw [ex] at hx
        cases hx
        refine ⟨_, rfl, _, rfl, p, C, dx, _, _, rfl, g1, T.cl, T.nS, flds_st _ _, ds, _, rfl, DGet.k (k := Sum.inr y) g2, _, rfl, ?_⟩
        rw [st_in]
        by_cases hy : y ∈ S.pl
        · rw [decide_eq_true hy]
          refine iteF ⟨rfl, ?_, _, rfl⟩
          rw [List.take_add_one, ex, List.filter_append]
          simp [hy]
        · rw [decide_eq_false hy]
          refine iteT ⟨_, rfl, rfl, ?_, _, rfl⟩
          rw [List.take_add_one, ex, List.filter_append, List.map_append]
          simp [hy]
    obtain ⟨rfl, rfl, o, rfl⟩ := h
    have etk : ([r.a, r.b].take ([r.a, r.b].map V.str).length) = [r.a, r.b] := rfl
    rw [etk]
    generalize hnew : ([r.a, r.b].filter fun x => !decide (x ∈ S.pl)) = new
    have hwe : withEnds S.pl r.a r.b = S.pl ++ new := by rw [← hnew]; rfl
    have hnn : new.Nodup ∧ ∀ x ∈ new, x ∉ S.pl := by
      rw [← hnew]
      refine ⟨?_, fun x hx => by simpa using (List.mem_filter.mp hx).2⟩
      refine List.Pairwise.filter _ ?_
      simp [hab]
    have sC : Same H' (upd H' np (.lst (new.map V.str))) := Same.new hnp
    have enp : (upd H' np (.lst (new.map V.str))) np = some (.lst (new.map V.str)) := upd_same
    generalize upd H' np (.lst (new.map V.str)) = H3 at sC enp
    have k1 := sC _ _ g1
    have k2 := sC _ _ g2
    have k3 := sC _ _ g3
    -- the two TooMany
    refine ⟨_, rfl, p, C, dx, _, _, rfl, k1, T.cl, T.nL, flds_ld _ _, dl, _, rfl, k3, _, _, rfl, rfl, _, _, rfl, ?_, ?_⟩
    · have : (ldKV L).length = S.ti.length := by unfold ldKV; rw [List.length_map, ← R.1, List.length_map]
      omega
    refine ⟨_, rfl, p, C, dx, _, _, rfl, k1, T.cl, T.nS, flds_st _ _, ds, _, rfl, k2, _, rfl, np, _, rfl, .inl (SqL.of enp), _, _, rfl, rfl, _, _, rfl, ?_, ?_⟩
    · rw [hwe, List.length_append] at hl20
      have : (stKV S).length = S.pl.length := by unfold stKV; rw [List.length_map]
      rw [List.length_map]
      omega
    -- for end in new_places
    have nnd : np ≠ ds := ne_of enp k2 (by intro z; cases z)
    refine ⟨_, rfl, np, rfl, ⟨_, SqL.of enp⟩, for_list (K := K) (a := np) (xs := new.map V.str) (fun i σ' H' => i ≤ new.length ∧ (∃ e, σ' = [some (.ref p), some (.str r.nm), some (.str r.a), some (.str r.b), some (.int r.w), some (.int r.c), v, some (.ref np), e]) ∧ H' ds = some (.dK (stKV ⟨S.pl ++ new.take i, S.ti⟩)) ∧ ∀ b ob, H3 b = some ob → b ≠ ds → H' b = some ob)
      ⟨Nat.zero_le _, ⟨_, rfl⟩, by rw [List.take_zero, List.append_nil]; exact k2, fun b ob e _ => e⟩ (fun i σ' H' _ h => SqL.of (h.2.2.2 _ _ enp nnd)) (fun i x σ' H' hx h => ?_) (fun σ' H' h => ?_)⟩
    · obtain ⟨hi, ⟨e0, rfl⟩, hds, kp⟩ := h
      rw [List.getElem?_map] at hx
      cases ex : new[i]? with
      | none => rw [ex] at hx; cases hx
      | some y =>
        rw [ex] at hx
        cases hx
        have hil : i < new.length := (List.getElem?_eq_some_iff.mp ex).1
        have hyn : y ∉ S.pl ++ new.take i := by
          intro m
          rcases List.mem_append.mp m with z | z
          · exact hnn.2 y (List.mem_of_getElem? ex) z
          · obtain ⟨j, hj, ej⟩ := List.mem_iff_getElem.mp z
            rw [List.length_take] at hj
            rw [List.getElem_take] at ej
            have e2 := List.getElem?_eq_getElem hil
            rw [ex] at e2
            have : j = i := (List.getElem_inj hnn.1).mp (ej.trans (Option.some.inj e2))
            omega
        refine ⟨_, rfl, p, C, dx, _, _, rfl, kp _ _ k1 (ne_of k1 k2 (by intro z; cases z)), T.cl, T.nS, flds_st _ _, _, rfl, ds, _, rfl, DPut.k (k := Sum.inr y) hds (small1000 ?_), by omega, ⟨_, rfl⟩, ?_, fun b ob e h1 => by rw [upd_ne h1]; exact kp b ob e h1⟩
        · unfold stKV
          rw [List.length_map, List.length_append, List.length_take]
          rw [hwe, List.length_append] at hl20
          omega
        · rw [upd_same, putK_new _ (st_none (S := ⟨S.pl ++ new.take i, S.ti⟩) hyn), List.take_add_one, ex]
          unfold stKV
          show _ = some (HO.dK ((S.pl ++ (new.take i ++ [y])).map _))
          rw [← List.append_assoc, List.map_append (l₂ := [y])]
          rfl
    obtain ⟨_, ⟨e0, rfl⟩, hds, kp⟩ := h
    rw [List.length_map, List.take_length, ← hwe] at hds
    have q1 := kp _ _ k1 (ne_of k1 k2 (by intro z; cases z))
    have q3 := kp _ _ k3 ne.symm
    -- self.laid[name] = (name, a, b, width, cost)
    refine ⟨_, rfl, _, rfl, _, rfl, _, rfl, _, rfl, (by show 5 ≤ sizeLine; decide), fun u hu' => ?_⟩
    have sD : Same H' (upd H' u (.tup [V.str r.nm, V.str r.a, V.str r.b, V.int r.w, V.int r.c])) := Same.new hu'
    have eu : (upd H' u (.tup [V.str r.nm, V.str r.a, V.str r.b, V.int r.w, V.int r.c])) u = some (.tup r.tup) := upd_same
    generalize upd H' u (.tup [V.str r.nm, V.str r.a, V.str r.b, V.int r.w, V.int r.c]) = H5 at sD eu
    refine ⟨_, rfl, p, C, dx, _, _, rfl, sD _ _ q1, T.cl, T.nL, flds_ld _ _, _, rfl, dl, _, rfl, DPut.k (k := Sum.inr r.nm) (sD _ _ q3) (small1000 ?_), ?_⟩
    · have : (ldKV L).length = S.ti.length := by unfold ldKV; rw [List.length_map, ← R.1, List.length_map]
      omega
    have npd : p ≠ dl := ne_of q1 q3 (by intro z; cases z)
    have udl : u ≠ dl := by intro z; rw [z] at hu'; rw [q3] at hu'; cases hu'
    refine k _ ⟨⟨dx, by rw [upd_ne npd]; exact sD _ _ q1⟩, by rw [upd_ne ne]; exact sD _ _ hds, ⟨L ++ [(r, u)], ⟨?_, fun q hq => ?_⟩, ?_⟩, ne⟩ fun b ob e z1 z2 => ?_
    · rw [List.map_append, R.1]; rfl
    · rcases List.mem_append.mp hq with hq | hq
      · have y := R.2 q hq
        have y3 := kp _ _ (sC _ _ (sB _ _ y)) (ne_of (sC _ _ (sB _ _ y)) k2 (by intro z; cases z))
        rw [upd_ne (ne_of y3 q3 (by intro z; cases z))]
        exact sD _ _ y3
      · rw [List.mem_singleton.mp hq, upd_ne udl]
        exact eu
    · rw [upd_same, putK_new _ (ld_none R.1 hn)]
      unfold ldKV
      rw [List.map_append]
      rfl
    · rw [upd_ne z2]
      exact sD _ _ (kp _ _ (sC _ _ (sB _ _ (sA _ _ e))) z1)
end
end Net

namespace Net
open PySem L2
/-! ### papers as data -/
def isL : PyData → Bool
  | .list _ => true
  | _ => false
def isS : PyData → Bool
  | .str _ => true
  | _ => false
/-! ### walks -/
def rowOf (ti : List Row) (x : Str) : Option Row := ti.find? fun r => decide (r.nm = x)
def stepD (ti : List Row) (here : Str) : PyData → Option Str
  | .str x => (rowOf ti x).bind fun r => if r.a = here then some r.b else none
  | _ => none
/-- the places that a walk comes to, the first one first -/
def stD (ti : List Row) : Str → List PyData → Option (List Str)
  | here, [] => some [here]
  | here, d :: ds => (stepD ti here d).bind fun h => (stD ti h ds).map (here :: ·)
def stopsOf (ti : List Row) (a : Str) : PyData → Option (List Str)
  | .list ds => stD ti a ds
  | _ => none
def endOf (ti : List Row) (a : Str) (d : PyData) : Option Str := (stopsOf ti a d).bind List.getLast?
theorem endOf_list (ti : List Row) (a : Str) (e : List PyData) : endOf ti a (.list e) = (stD ti a e).bind List.getLast? := rfl
def optV : Option Str → V
  | none => .non
  | some x => .str x
theorem stD_ne {ti : List Row} : ∀ {ds : List PyData} {a : Str} {l : List Str}, stD ti a ds = some l → l ≠ []
  | [], a, l, h => by cases h; exact List.cons_ne_nil _ _
  | d :: ds, a, l, h => by
    unfold stD at h
    cases e : stepD ti a d with
    | none => rw [e] at h; cases h
    | some x =>
      rw [e] at h
      cases e2 : stD ti x ds with
      | none => rw [Option.bind_some, e2] at h; cases h
      | some l' => rw [Option.bind_some, e2] at h; cases h; exact List.cons_ne_nil _ _
theorem stD_none {ti : List Row} (r : List PyData) : ∀ {ds : List PyData} {a : Str}, stD ti a ds = none → stD ti a (ds ++ r) = none
  | [], a, h => by cases h
  | d :: ds, a, h => by
    show (stepD ti a d).bind (fun x => (stD ti x (ds ++ r)).map (a :: ·)) = none
    unfold stD at h
    cases e : stepD ti a d with
    | none => rfl
    | some x =>
      rw [e, Option.bind_some] at h
      rw [Option.bind_some]
      have h' : stD ti x ds = none := by
        cases e2 : stD ti x ds with
        | none => rfl
        | some l => rw [e2] at h; cases h
      rw [stD_none r h']
      rfl
theorem stD_snoc {ti : List Row} {d : PyData} {here : Str} : ∀ {ds : List PyData} {a : Str} {l : List Str}, stD ti a ds = some l → l.getLast? = some here → stD ti a (ds ++ [d]) = (stepD ti here d).map fun x => l ++ [x]
  | [], a, l, h, e => by
    cases h
    have e' : a = here := by simpa using e
    subst e'
    show (stepD ti a d).bind (fun x => (stD ti x []).map (a :: ·)) = _
    cases stepD ti a d <;> rfl
  | c :: ds, a, l, h, e => by
    unfold stD at h
    show (stepD ti a c).bind (fun x => (stD ti x (ds ++ [d])).map (a :: ·)) = _
    cases e1 : stepD ti a c with
    | none => rw [e1] at h; cases h
    | some x =>
      rw [e1, Option.bind_some] at h
      rw [Option.bind_some]
      cases e2 : stD ti x ds with
      | none => rw [e2] at h; cases h
      | some l' =>
        rw [e2] at h
        cases h
        have hne := stD_ne e2
        have e' : l'.getLast? = some here := by
          rw [← e]
          cases l' with
          | nil => exact absurd rfl hne
          | cons y ys => simp [List.getLast?_cons_cons]
        rw [stD_snoc e2 e']
        cases stepD ti here d <;> rfl
theorem stD_take {ti : List Row} {ds : List PyData} {a here : Str} {l : List Str} {i : Nat} {d : PyData} (h : stD ti a (ds.take i) = some l) (e : l.getLast? = some here) (hd : ds[i]? = some d) : stD ti a (ds.take (i + 1)) = (stepD ti here d).map fun x => l ++ [x] := by
  rw [List.take_add_one, hd]
  exact stD_snoc h e
theorem stD_stop {ti : List Row} {ds : List PyData} {a here : Str} {l : List Str} {i : Nat} {d : PyData} (h : stD ti a (ds.take i) = some l) (e : l.getLast? = some here) (hd : ds[i]? = some d) (hs : stepD ti here d = none) : stD ti a ds = none := by
  have h1 := stD_take h e hd
  rw [hs] at h1
  have h2 := stD_none (ds.drop (i + 1)) (show stD ti a (ds.take (i + 1)) = none from h1)
  rw [List.take_append_drop] at h2
  exact h2
theorem row_find {ti : List Row} {L : List (Row × Addr)} (h : L.map (·.1) = ti) (x : Str) : (rowOf ti x = none ∧ valV (ldKV L) (Sum.inr x : Key) = none) ∨ ∃ q ∈ L, q.1.nm = x ∧ rowOf ti x = some q.1 ∧ valV (ldKV L) (Sum.inr x : Key) = some (.ref q.2) := by
  subst h
  induction L with
  | nil => exact .inl ⟨rfl, rfl⟩
  | cons q r ih =>
    by_cases e : q.1.nm = x
    · refine .inr ⟨q, List.mem_cons_self, e, ?_, valV_pos (congrArg Sum.inr e)⟩
      show List.find? _ (q.1 :: _) = _
      rw [List.find?_cons_of_pos (by simpa using e)]
    · have h1 : rowOf ((q :: r).map (·.1)) x = rowOf (r.map (·.1)) x := by
        show List.find? _ (q.1 :: _) = _
        rw [List.find?_cons_of_neg (by simpa using e)]
        rfl
      have h2 : valV (ldKV (q :: r)) (Sum.inr x : Key) = valV (ldKV r) (Sum.inr x : Key) := valV_neg (fun z => e (Sum.inr.inj z))
      rw [h1, h2]
      rcases ih with z | ⟨q', a, b, c⟩
      · exact .inl z
      · exact .inr ⟨q', List.mem_cons_of_mem _ a, b, c⟩
/-! ### promises -/
structure TxtW (mg : Str → Option Value) : Prop where
  dict : mg "dict" = none
  sum : mg "sum" = none
/-- a net that can be walked -/
structure NetW (C : Addr) (H : Hp) (p ds dl : Addr) (S : NS) : Prop where
  net : NetAt C H p ds dl S
  nd : S.nms.Nodup
  few : S.ti.length ≤ 40
def spByName (C : Addr) : Sp := fun vs H Q _ => ∃ (p ds dl : Addr) (S : NS), vs = [.ref p] ∧ NetW C H p ds dl S ∧ ∀ (d : Addr) (H' : Hp) (L : List (Row × Addr)), H d = none → Same H H' → Rows H L S.ti → H' d = some (.dK (ldKV L)) → Q (.ref d) H'
def costOf (ti : List Row) (ws : List Str) : Int := (ws.map fun x => ((rowOf ti x).map (·.c)).getD 0).sum
def spWCost (C : Addr) : Sp := fun vs H Q _ => ∃ (p ds dl l : Addr) (S : NS) (ws : List Str), vs = [.ref p, .ref l] ∧ NetW C H p ds dl S ∧ H l = some (.lst (ws.map V.str)) ∧ (∀ x ∈ ws, x ∈ S.nms) ∧ ws.length ≤ 1000 ∧ ∀ H', Same H H' → Q (.int (costOf S.ti ws)) H'
section
variable {P : Program} {w : World} {K : PySem.W.Frag} {mg : Str → Option Value} {base : Heap} {C : Addr}
theorem sc_byName : FnScope ["net"] ["net"] (defScope s_ties_by_name) := ⟨rfl, rfl, rfl, by decide +kernel, rfl, by decide +kernel, by decide +kernel⟩
theorem ok_byName {f : Addr} {fd : FuncData} (F : Fun K "ties_by_name" "ties_by_name" s_ties_by_name f fd) (T : Txt K mg C) (TW : TxtW mg) (m2 : CanM P w K mg base 1 C "ties" ["self"] (spTies C)) : FnOk P w K mg base CX0 2 f fd ["net"] (spByName C) := by
  refine F.ok sc_byName (fun vs H Q E h => ?_) (fun cdv A outer s H vs Q E hr h => ?_)
  · obtain ⟨p, ds, dl, S, rfl, _⟩ := h
    rfl
  · obtain ⟨p, ds, dl, S, rfl, ⟨N, nd, few⟩, q⟩ := h
    obtain ⟨dx, h1⟩ := N.ob
    refine ⟨_, pss_one (ps_ret (pe_callTy (call_dictP rfl) (by rfl) TW.dict b_dict (pa_cons (pe_comp (N := ["row"]) (xs := 1) (js := []) rfl (compScope_of rfl) (pi_list (pe_methC0 (pv 0) T.cl m2 hr))
      (fun _ _ _ _ => pg_name (i := 0) (show List.Nodup (["row"] : List Str) by decide +kernel) rfl (Or.inl rfl)) (fun _ _ _ _ => pts_nil)
      (fun _ _ _ _ => pe_tup (pa_cons (pe_ix (ix_tupK K (by rfl)) (pv 0) pe_int (fun _ _ => by rfl)) (pa_cons (pv 0) pa_nil)))) pa_nil))), ?_⟩
    refine ⟨_, rfl, p, dx, _, rfl, h1, flds_no ds dl (by decide +kernel) (by decide +kernel), p, ds, dl, S, rfl, N, fun l H1 L hl s1 RL e1 => ?_⟩
    refine ⟨l, rfl, ⟨_, SqL.of e1⟩, comp_list (K := K) (ys := L.map fun q => V.ref q.2) (fun i acc σ' H' => ∃ ps : List (Addr × Key × V), acc = ps.map (fun q => V.ref q.1) ∧ ps.map (·.2) = ldKV (L.take i) ∧ (∀ q ∈ ps, H' q.1 = some (.tup [kV q.2.1, q.2.2])) ∧ Same H1 H' ∧ ∃ o, σ' = [o])
      ⟨[], rfl, rfl, fun _ h => (nomatch h), Same.refl H1, none, rfl⟩ (fun i acc σ' H' h => ?_) ?_ (fun i acc σ' H' _ h => ?_) (fun i x acc σ' H' hx h => ?_) (fun acc σ' H' h pp hpp => ?_)⟩
    · obtain ⟨ps, rfl, e, _⟩ := h
      have := congrArg List.length e
      unfold ldKV at this
      rw [List.length_map, List.length_map, List.length_take] at this
      rw [List.length_map]
      omega
    · have e : L.length = S.ti.length := by rw [← RL.1, List.length_map]
      rw [List.length_map, e]
      exact Nat.le_trans few (by decide)
    · obtain ⟨_, _, _, _, s2, _⟩ := h
      exact SqL.of (s2 _ _ e1)
    · obtain ⟨ps, rfl, e, hp, s2, o, rfl⟩ := h
      rw [List.getElem?_map] at hx
      cases eq : L[i]? with
      | none => rw [eq] at hx; cases hx
      | some qq =>
        rw [eq] at hx
        cases hx
        have hq := s2 _ _ (s1 _ _ (RL.2 qq (List.mem_of_getElem? eq)))
        refine ⟨_, rfl, _, _, _, .str qq.1.nm, rfl, rfl, SqT.of hq, rfl, _, rfl, (by show 2 ≤ sizeLine; decide), fun t ht => ?_⟩
        refine ⟨ps ++ [(t, Sum.inr qq.1.nm, V.ref qq.2)], by rw [List.map_append]; rfl, ?_, fun z hz => ?_, s2.upd ht, _, rfl⟩
        · rw [List.map_append, e, List.take_add_one, eq]
          unfold ldKV
          rw [List.map_append]
          rfl
        · rcases List.mem_append.mp hz with hz | hz
          · exact (Same.new ht) _ _ (hp z hz)
          · cases List.mem_singleton.mp hz
            exact upd_same
    · obtain ⟨ps, rfl, e, hp, s2, o, rfl⟩ := h
      rw [List.length_map, List.take_length] at e
      have s3 := Same.new (o := .lst (ps.map fun q => V.ref q.1)) hpp
      refine ⟨pp, ps, rfl, SqL.of upd_same, fun z hz => SqT.of (s3 _ _ (hp z hz)), fun d hd => ?_⟩
      have en : mergeK [] (ps.map (·.2)) = ldKV L := by
        rw [e, mergeK_new _ _ ?_, List.nil_append]
        rw [List.nil_append, ld_keys RL.1]
        have := nd
        unfold NS.nms at this
        rw [show (fun r : Row => (Sum.inr r.nm : Key)) = Sum.inr ∘ (fun r : Row => r.nm) from rfl, ← List.map_map]
        exact List.Pairwise.map _ (fun a b hab z => hab (Sum.inr.inj z)) this
      rw [en]
      have sa := s1.trans (s2.trans s3)
      exact q d _ L (sa.free hd) (sa.upd hd) RL upd_same
theorem sc_wcost : FnScope ["net", "walk", "rows"] ["net", "walk"] (defScope s_walk_cost) := ⟨rfl, rfl, rfl, by decide +kernel, rfl, by decide +kernel, by decide +kernel⟩
theorem ok_wcost {f : Addr} {fd : FuncData} (F : Fun K "walk_cost" "walk_cost" s_walk_cost f fd) (T : Txt K mg C) (TW : TxtW mg) (c1 : Can P w K mg base 2 "ties_by_name" ["net"] (spByName C)) : FnOk P w K mg base CX0 3 f fd ["net", "walk"] (spWCost C) := by
  refine F.ok sc_wcost (fun vs H Q E h => ?_) (fun cdv A outer s H vs Q E hr h => ?_)
  · obtain ⟨p, ds, dl, l, S, ws, rfl, _⟩ := h
    rfl
  · obtain ⟨p, ds, dl, l, S, ws, rfl, N, hl, hin, hlen, q⟩ := h
    have hu := hu_of hr
    refine ⟨_, pss_cons (ps_set (i := 2) sc_wcost.nd rfl (Or.inr rfl) (pe_callC c1 hr (by rfl) (pa_cons (pv 0) pa_nil)))
      (pss_one (ps_ret (pe_callB (call_sum rfl) (by rfl) TW.sum b_sum (pa_cons (pe_comp (N := ["name", "rows"]) (xs := 1) (js := [2]) rfl (compScope_of rfl) (pi_list (pv 1))
        (fun _ _ _ _ => pg_name (i := 0) (show List.Nodup (["name", "rows"] : List Str) by decide +kernel) rfl (Or.inl rfl)) (fun _ _ _ _ => pts_nil)
        (fun _ _ _ _ => pe_ix (ix_tupK K (by rfl)) (pe_dget hu (pv 1) (pv 0) (fun _ _ => rfl)) pe_int (fun _ _ => by rfl))) pa_nil)))), ?_⟩
    refine ⟨_, rfl, p, ds, dl, S, rfl, N, fun dd H1 L hdd s1 RL edd => ?_⟩
    have RL1 := RL.same s1
    refine ⟨_, rfl, l, rfl, ⟨_, SqL.of (s1 _ _ hl)⟩, comp_list (K := K) (ys := ws.map V.str) (fun i acc σ' H' => H' = H1 ∧ acc = ((ws.take i).map fun x => V.int (((rowOf S.ti x).map (·.c)).getD 0)) ∧ ∃ o, σ' = [o, some (.ref dd)])
      ⟨rfl, rfl, none, rfl⟩ (fun i acc σ' H' h => ?_) ?_ (fun i acc σ' H' _ h => by rw [h.1]; exact SqL.of (s1 _ _ hl)) (fun i x acc σ' H' hx h => ?_) (fun acc σ' H' h pp hpp => ?_)⟩
    · rw [h.2.1, List.length_map, List.length_take]
      omega
    · rw [List.length_map]
      exact Nat.le_trans hlen (by decide)
    · obtain ⟨rfl, rfl, o, rfl⟩ := h
      rw [List.getElem?_map] at hx
      cases eq : ws[i]? with
      | none => rw [eq] at hx; cases hx
      | some y =>
        rw [eq] at hx
        cases hx
        have hy := hin y (List.mem_of_getElem? eq)
        rcases row_find RL1.1 y with ⟨r1, r2⟩ | ⟨qq, hqq, hn, r1, r2⟩
        · obtain ⟨q', _, _, z⟩ := ld_some RL1.1 hy
          rw [r2] at z
          cases z
        · refine ⟨_, rfl, _, rfl, dd, .ref qq.2, rfl, by rw [← r2]; exact DGet.k (k := Sum.inr y) edd, qq.2, _, _, .int qq.1.c, rfl, rfl, SqT.of (RL1.2 qq hqq), rfl, rfl, ?_, _, rfl⟩
          rw [List.take_add_one, eq, List.map_append]
          show _ = _ ++ [V.int (((rowOf S.ti y).map (·.c)).getD 0)]
          rw [r1]
          rfl
    · obtain ⟨rfl, rfl, o, rfl⟩ := h
      rw [List.length_map, List.take_length]
      refine ⟨pp, ws.map (fun x : Str => ((rowOf S.ti x).map (fun r : Row => r.c)).getD 0), rfl, SqL.of ?_, q _ (s1.upd hpp)⟩
      rw [upd_same, List.map_map]
      rfl
end
end Net

namespace L2
open PySem PySem.Spec PyProof.Rows
/-- a is not b, of two truths -/
theorem op_isnotB {X : Cx} : OpR X (compareOp .IsNot) (fun x y H Q => ∃ a b, x = .bl a ∧ y = .bl b ∧ Q (.bl (!decide (a = b))) H) := by
  intro pins s σ H x y v u Q I rx ry h
  obtain ⟨a, b, rfl, rfl, q⟩ := h
  cases rx
  cases ry
  refine wpAny_isNot_plain rfl (fin_bl I q ?_)
  cases a <;> cases b <;> rfl
end L2
namespace Net
open PySem L2
/-! ### steps and paths -/
abbrev Trip := Str × Str × Str
def Trip.vs (t : Trip) : List V := [.str t.1, .str t.2.1, .str t.2.2]
def stepsR (to : Bool) (ti : List Row) : List Trip := ti.map fun r => if to then (r.nm, r.b, r.a) else (r.nm, r.a, r.b)
def Trips (H : Hp) (L : List (Trip × Addr)) (T : List Trip) : Prop := L.map (·.1) = T ∧ ∀ q ∈ L, H q.2 = some (.tup (Trip.vs q.1))
theorem Trips.same {H H' : Hp} {L : List (Trip × Addr)} {T : List Trip} (s : Same H H') (h : Trips H L T) : Trips H' L T := ⟨h.1, fun q hq => s _ _ (h.2 q hq)⟩
inductive Path (T : List Trip) (a : Str) : List Str → Str → Prop
  | nil : Path T a [] a
  | snoc {ws : List Str} {x nm y : Str} (p : Path T a ws x) (h : (nm, x, y) ∈ T) : Path T a (ws ++ [nm]) y
def Closed (T : List Trip) (S : List Str) : Prop := ∀ t ∈ T, t.2.1 ∈ S → t.2.2 ∈ S
theorem Path.in_ {T : List Trip} {a : Str} {S ws : List Str} {x : Str} (c : Closed T S) (h : a ∈ S) (p : Path T a ws x) : x ∈ S := by
  induction p with
  | nil => exact h
  | snoc p h ih => exact c _ h ih
/-! ### what has been found -/
abbrev Fd := Str × List Str × Addr
def fdKV (G : List Fd) : List (Key × V) := G.map fun g => (Sum.inr g.1, V.ref g.2.2)
def keysG (G : List Fd) : List Str := G.map (·.1)
structure FdAt (H : Hp) (d : Addr) (T : List Trip) (a : Str) (G : List Fd) : Prop where
  ob : H d = some (.dK (fdKV G))
  ws : ∀ g ∈ G, H g.2.2 = some (.lst (g.2.1.map V.str)) ∧ Path T a g.2.1 g.1 ∧ g.2.1.length < G.length
  nd : (keysG G).Nodup
theorem FdAt.same {H H' : Hp} {d : Addr} {T : List Trip} {a : Str} {G : List Fd} (s : Same H H') (h : FdAt H d T a G) : FdAt H' d T a G :=
  ⟨s _ _ h.ob, fun g hg => ⟨s _ _ (h.ws g hg).1, (h.ws g hg).2⟩, h.nd⟩
theorem fd_get {G : List Fd} {x : Str} (h : x ∈ keysG G) : ∃ g ∈ G, g.1 = x ∧ valV (fdKV G) (Sum.inr x : Key) = some (.ref g.2.2) := by
  induction G with
  | nil => exact nomatch h
  | cons g r ih =>
    by_cases e : g.1 = x
    · exact ⟨g, List.mem_cons_self, e, valV_pos (congrArg Sum.inr e)⟩
    · have h' : x ∈ keysG r := by
        rcases List.mem_cons.mp h with z | z
        · exact absurd z.symm e
        · exact z
      obtain ⟨g', h1, h2, h3⟩ := ih h'
      refine ⟨g', List.mem_cons_of_mem _ h1, h2, ?_⟩
      show valV (_ :: fdKV r) _ = _
      rw [valV_neg (fun z => e (Sum.inr.inj z))]
      exact h3
theorem fd_none {G : List Fd} {x : Str} (h : x ∉ keysG G) : valV (fdKV G) (Sum.inr x : Key) = none := by
  cases e : valV (fdKV G) (Sum.inr x : Key) with
  | none => rfl
  | some v =>
    have := valV_in e
    unfold fdKV at this
    rw [List.map_map] at this
    obtain ⟨y, hy, e2⟩ := List.mem_map.mp this
    exact absurd (List.mem_map.mpr ⟨y, hy, Sum.inr.inj e2⟩) h
theorem fd_some (G : List Fd) (x : Str) : (valV (fdKV G) (Sum.inr x : Key)).isSome = decide (x ∈ keysG G) := by
  by_cases h : x ∈ keysG G
  · obtain ⟨g, _, _, e⟩ := fd_get h
    rw [e, decide_eq_true h]
    rfl
  · rw [fd_none h, decide_eq_false h]
    rfl
def spSteps (C : Addr) : Sp := fun vs H Q _ => ∃ (p ds dl : Addr) (S : NS) (wd : Str), vs = [.ref p, .str wd] ∧ NetAt C H p ds dl S ∧ S.ti.length ≤ 40 ∧
  ∀ (l : Addr) (H' : Hp) (L : List (Trip × Addr)), H l = none → Same H H' → Trips H' L (stepsR (decide (wd = "to")) S.ti) → H' l = some (.lst (L.map fun q => V.ref q.2)) → Q (.ref l) H'
def spBfs : Sp := fun vs H Q _ => ∃ (l : Addr) (L : List (Trip × Addr)) (T : List Trip) (a : Str), vs = [.ref l, .str a] ∧ H l = some (.lst (L.map fun q => V.ref q.2)) ∧ Trips H L T ∧ T.length ≤ 40 ∧ nameB a = true ∧ (∀ t ∈ T, nameB t.2.2 = true) ∧
  ∀ (d : Addr) (H' : Hp) (G : List Fd), H d = none → Same H H' → FdAt H' d T a G → a ∈ keysG G → Closed T (keysG G) → G.length ≤ 41 → (∀ g ∈ G, H g.2.2 = none) → Q (.ref d) H'
/-- steps by where they begin; the middle of each triple is not used -/
def begs (x : Str) (L : List (Trip × Addr)) : List (Trip × Addr) := L.filter fun q => decide (q.1.2.1 = x)
structure OnAt (H : Hp) (d : Addr) (L : List (Trip × Addr)) (B : List Fd) : Prop where
  ob : H d = some (.dK (fdKV B))
  ls : ∀ b ∈ B, H b.2.2 = some (.lst ((begs b.1 L).map fun q => V.ref q.2))
  all : ∀ q ∈ L, q.1.2.1 ∈ keysG B
theorem OnAt.same {H H' : Hp} {d : Addr} {L : List (Trip × Addr)} {B : List Fd} (s : Same H H') (h : OnAt H d L B) : OnAt H' d L B := ⟨s _ _ h.ob, fun b hb => s _ _ (h.ls b hb), h.all⟩
structure BI (H H' : Hp) (d : Addr) (L : List (Trip × Addr)) (B : List Fd) : Prop where
  same : Same H H'
  on : OnAt H' d L B
  hd : H d = none
  fr : ∀ b ∈ B, H b.2.2 = none
  na : (B.map (·.2.2)).Nodup
  nd : (keysG B).Nodup
  few : B.length ≤ L.length
theorem inj_nodup {α β : Type} {f : α → β} : ∀ {l : List α}, (l.map f).Nodup → ∀ {a b : α}, a ∈ l → b ∈ l → f a = f b → a = b
  | [], _, _, _, h, _, _ => nomatch h
  | x :: r, n, a, b, ha, hb, e => by
    obtain ⟨n1, n2⟩ := List.nodup_cons.mp n
    rcases List.mem_cons.mp ha with h1 | h1
    · rcases List.mem_cons.mp hb with h2 | h2
      · exact h1.trans h2.symm
      · exact absurd (by rw [← h1, e]; exact List.mem_map.mpr ⟨b, h2, rfl⟩) n1
    · rcases List.mem_cons.mp hb with h2 | h2
      · exact absurd (by rw [← h2, ← e]; exact List.mem_map.mpr ⟨a, h1, rfl⟩) n1
      · exact inj_nodup n2 h1 h2 e
theorem begs_snoc (x : Str) (L : List (Trip × Addr)) (q : Trip × Addr) : begs x (L ++ [q]) = begs x L ++ if q.1.2.1 = x then [q] else [] := by
  unfold begs
  rw [List.filter_append]
  by_cases h : q.1.2.1 = x
  · rw [if_pos h]; simp [h]
  · rw [if_neg h]; simp [h]
theorem begs_len (x : Str) (L : List (Trip × Addr)) : (begs x L).length ≤ L.length := List.length_filter_le ..
def spBy : Sp := fun vs H Q _ => ∃ (l : Addr) (L : List (Trip × Addr)) (T : List Trip), vs = [.ref l] ∧ H l = some (.lst (L.map fun q => V.ref q.2)) ∧ Trips H L T ∧ T.length ≤ 40 ∧ ∀ (d : Addr) (H' : Hp) (B : List Fd), Same H H' → OnAt H' d L B → Q (.ref d) H'
theorem trip_len {to : Bool} (ti : List Row) : (stepsR to ti).length = ti.length := List.length_map ..
section
variable {P : Program} {w : World} {K : PySem.W.Frag} {mg : Str → Option Value} {base : Heap} {C : Addr}
theorem sc_steps : FnScope ["net", "word"] ["net", "word"] (defScope s_steps_of) := ⟨rfl, rfl, rfl, by decide +kernel, rfl, by decide +kernel, by decide +kernel⟩
theorem ok_steps {f : Addr} {fd : FuncData} (F : Fun K "steps_of" "steps_of" s_steps_of f fd) (T : Txt K mg C) (m2 : CanM P w K mg base 1 C "ties" ["self"] (spTies C)) : FnOk P w K mg base CX0 2 f fd ["net", "word"] (spSteps C) := by
  refine F.ok sc_steps (fun vs H Q E h => ?_) (fun cdv A outer s H vs Q E hr h => ?_)
  · obtain ⟨p, ds, dl, S, wd, rfl, _⟩ := h
    rfl
  · obtain ⟨p, ds, dl, S, wd, rfl, N, few, q⟩ := h
    obtain ⟨dx, h1⟩ := N.ob
    refine ⟨_, pss_cons (ps_if (pt_cmpR op_eq (pv 1) pe_str (nomark _)) (pss_one (ps_ret (pe_comp (N := ["row"]) (xs := 1) (js := []) rfl (compScope_of rfl) (pi_list (pe_methC0 (pv 0) T.cl m2 hr))
      (fun _ _ _ _ => pg_name (i := 0) (show List.Nodup (["row"] : List Str) by decide +kernel) rfl (Or.inl rfl)) (fun _ _ _ _ => pts_nil)
      (fun _ _ _ _ => pe_tup (pa_cons (pe_ix (ix_tupK K (by rfl)) (pv 0) pe_int (fun _ _ => by rfl)) (pa_cons (pe_ix (ix_tupK K (by rfl)) (pv 0) pe_int (fun _ _ => by rfl)) (pa_cons (pe_ix (ix_tupK K (by rfl)) (pv 0) pe_int (fun _ _ => by rfl)) pa_nil))))))) pss_nil)
      (pss_one (ps_ret (pe_comp (N := ["row"]) (xs := 1) (js := []) rfl (compScope_of rfl) (pi_list (pe_methC0 (pv 0) T.cl m2 hr))
      (fun _ _ _ _ => pg_name (i := 0) (show List.Nodup (["row"] : List Str) by decide +kernel) rfl (Or.inl rfl)) (fun _ _ _ _ => pts_nil)
      (fun _ _ _ _ => pe_tup (pa_cons (pe_ix (ix_tupK K (by rfl)) (pv 0) pe_int (fun _ _ => by rfl)) (pa_cons (pe_ix (ix_tupK K (by rfl)) (pv 0) pe_int (fun _ _ => by rfl)) (pa_cons (pe_ix (ix_tupK K (by rfl)) (pv 0) pe_int (fun _ _ => by rfl)) pa_nil))))))), ?_⟩
    refine ⟨_, rfl, rfl, _, rfl, ?_⟩
    by_cases ew : wd = "to"
    · have eb : decide (wd = "to") = true := decide_eq_true ew
      rw [eb] at q
      refine iteTb (by rw [ew]; simp) ?_
      refine ⟨_, rfl, p, dx, _, rfl, h1, flds_no ds dl (by decide +kernel) (by decide +kernel), p, ds, dl, S, rfl, N, fun l H1 L hl s1 RL e1 => ?_⟩
      have RL1 := RL.same s1
      refine ⟨l, rfl, ⟨_, SqL.of e1⟩, comp_list (K := K) (ys := L.map fun q => V.ref q.2) (fun i acc σ' H' => ∃ M : List (Trip × Addr), acc = M.map (fun q => V.ref q.2) ∧ Trips H' M (stepsR true ((L.take i).map (·.1))) ∧ Same H1 H' ∧ ∃ o, σ' = [o])
        ⟨[], rfl, ⟨rfl, fun _ h => nomatch h⟩, Same.refl H1, none, rfl⟩ (fun i acc σ' H' h => ?_) ?_ (fun i acc σ' H' _ h => ?_) (fun i x acc σ' H' hx h => ?_) (fun acc σ' H' h pp hpp => ?_)⟩
      · obtain ⟨M, rfl, e, _⟩ := h
        have := congrArg List.length e.1
        rw [trip_len, List.length_map, List.length_map, List.length_take] at this
        rw [List.length_map]
        omega
      · have e : L.length = S.ti.length := by rw [← RL.1, List.length_map]
        rw [List.length_map, e]
        exact Nat.le_trans few (by decide)
      · obtain ⟨_, _, _, s2, _⟩ := h
        exact SqL.of (s2 _ _ e1)
      · obtain ⟨M, rfl, e, s2, o, rfl⟩ := h
        rw [List.getElem?_map] at hx
        cases eq : L[i]? with
        | none => rw [eq] at hx; cases hx
        | some qq =>
          rw [eq] at hx
          cases hx
          have hq := s2 _ _ (RL1.2 qq (List.mem_of_getElem? eq))
          refine ⟨_, rfl, _, _, _, .str qq.1.nm, rfl, rfl, SqT.of hq, rfl, _, rfl, _, _, _, .str qq.1.b, rfl, rfl, SqT.of hq, rfl, _, rfl, _, _, _, .str qq.1.a, rfl, rfl, SqT.of hq, rfl, (by show 3 ≤ sizeLine; decide), fun t ht => ?_⟩
          refine ⟨M ++ [((qq.1.nm, qq.1.b, qq.1.a), t)], by rw [List.map_append]; rfl, ⟨?_, fun z hz => ?_⟩, s2.upd ht, _, rfl⟩
          · rw [List.map_append, e.1, List.take_add_one, eq, List.map_append]
            unfold stepsR
            rw [List.map_append]
            rfl
          · rcases List.mem_append.mp hz with hz | hz
            · exact (Same.new ht) _ _ (e.2 z hz)
            · cases List.mem_singleton.mp hz
              exact upd_same
      · obtain ⟨M, rfl, e, s2, o, rfl⟩ := h
        rw [List.length_map, List.take_length, RL.1] at e
        have s3 := Same.new (o := .lst (M.map fun q => V.ref q.2)) hpp
        have sa := s1.trans s2
        exact q pp _ M (sa.free hpp) (sa.trans s3) (e.same s3) upd_same
    · have eb : decide (wd = "to") = false := decide_eq_false ew
      rw [eb] at q
      refine iteFb (by simp [ew]) ?_
      refine ⟨_, rfl, p, dx, _, rfl, h1, flds_no ds dl (by decide +kernel) (by decide +kernel), p, ds, dl, S, rfl, N, fun l H1 L hl s1 RL e1 => ?_⟩
      have RL1 := RL.same s1
      refine ⟨l, rfl, ⟨_, SqL.of e1⟩, comp_list (K := K) (ys := L.map fun q => V.ref q.2) (fun i acc σ' H' => ∃ M : List (Trip × Addr), acc = M.map (fun q => V.ref q.2) ∧ Trips H' M (stepsR false ((L.take i).map (·.1))) ∧ Same H1 H' ∧ ∃ o, σ' = [o])
        ⟨[], rfl, ⟨rfl, fun _ h => nomatch h⟩, Same.refl H1, none, rfl⟩ (fun i acc σ' H' h => ?_) ?_ (fun i acc σ' H' _ h => ?_) (fun i x acc σ' H' hx h => ?_) (fun acc σ' H' h pp hpp => ?_)⟩
      · obtain ⟨M, rfl, e, _⟩ := h
        have := congrArg List.length e.1
        rw [trip_len, List.length_map, List.length_map, List.length_take] at this
        rw [List.length_map]
        omega
      · have e : L.length = S.ti.length := by rw [← RL.1, List.length_map]
        rw [List.length_map, e]
        exact Nat.le_trans few (by decide)
      · obtain ⟨_, _, _, s2, _⟩ := h
        exact SqL.of (s2 _ _ e1)
      · obtain ⟨M, rfl, e, s2, o, rfl⟩ := h
        rw [List.getElem?_map] at hx
        cases eq : L[i]? with
        | none => rw [eq] at hx; cases hx
        | some qq =>
          rw [eq] at hx
          cases hx
          have hq := s2 _ _ (RL1.2 qq (List.mem_of_getElem? eq))
          refine ⟨_, rfl, _, _, _, .str qq.1.nm, rfl, rfl, SqT.of hq, rfl, _, rfl, _, _, _, .str qq.1.a, rfl, rfl, SqT.of hq, rfl, _, rfl, _, _, _, .str qq.1.b, rfl, rfl, SqT.of hq, rfl, (by show 3 ≤ sizeLine; decide), fun t ht => ?_⟩
          refine ⟨M ++ [((qq.1.nm, qq.1.a, qq.1.b), t)], by rw [List.map_append]; rfl, ⟨?_, fun z hz => ?_⟩, s2.upd ht, _, rfl⟩
          · rw [List.map_append, e.1, List.take_add_one, eq, List.map_append]
            unfold stepsR
            rw [List.map_append]
            rfl
          · rcases List.mem_append.mp hz with hz | hz
            · exact (Same.new ht) _ _ (e.2 z hz)
            · cases List.mem_singleton.mp hz
              exact upd_same
      · obtain ⟨M, rfl, e, s2, o, rfl⟩ := h
        rw [List.length_map, List.take_length, RL.1] at e
        have s3 := Same.new (o := .lst (M.map fun q => V.ref q.2)) hpp
        have sa := s1.trans s2
        exact q pp _ M (sa.free hpp) (sa.trans s3) (e.same s3) upd_same
abbrev Nby : List Str := ["steps", "onward", "step"]
theorem sc_by : FnScope Nby ["steps"] (defScope s_steps_by_begin) := ⟨rfl, rfl, rfl, by decide +kernel, rfl, by decide +kernel, by decide +kernel⟩
theorem ok_by {f : Addr} {fd : FuncData} (F : Fun K "steps_by_begin" "steps_by_begin" s_steps_by_begin f fd) (T : Txt K mg C) : FnOk P w K mg base CX0 1 f fd ["steps"] spBy := by
  refine F.ok sc_by (fun vs H Q E h => ?_) (fun cdv A outer s H vs Q E hr h => ?_)
  · obtain ⟨l, L, T, rfl, _⟩ := h
    rfl
  · obtain ⟨l, L, TT, rfl, hl, tr, few, q⟩ := h
    refine ⟨_, (pss_cons (ps_set (i := 1) sc_by.nd rfl (Or.inl rfl) pe_dnewK)
      (pss_cons (ps_for PassesOwn.never rfl (pi_list (pv 0)) (pg_name (i := 2) sc_by.nd rfl (Or.inl rfl))
        (pss_one (ps_expr (pe_bm PySem.F.plainAttrs_list PySem.F.slot_list_append PySem.F.type_list_append mt_append (pe_dsetd (pv 1) (pe_ix ix_tup (pv 2) pe_int (fun _ _ => by rfl)) (pe_lst pa_nil) ⟨rfl, rfl, rfl, rfl⟩) (pa_cons (pv 2) pa_nil)))))
      (pss_one (ps_ret (pv 1))))), ?_⟩
    intro d hd
    have hLl : L.length ≤ 40 := by
      have : L.length = TT.length := by rw [← tr.1, List.length_map]
      omega
    have s0 := Same.new (o := .dK []) hd
    refine ⟨_, rfl, l, rfl, ⟨_, SqL.of (s0 _ _ hl)⟩, for_list (K := K) (a := l) (xs := L.map fun q => V.ref q.2) (fun j σ' H' => ∃ (B : List Fd) (v : Option V), σ' = [some (.ref l), some (.ref d), v] ∧ BI H H' d (L.take j) B)
      ⟨[], none, rfl, s0, ⟨upd_same, fun _ h => (nomatch h), fun _ h => (nomatch h)⟩, hd, fun _ h => (nomatch h), List.nodup_nil, List.nodup_nil, Nat.zero_le _⟩ (fun j σ' H' _ h => ?_) (fun j v σ' H' hv h => ?_) (fun σ' H' h => ?_)⟩
    · obtain ⟨_, _, _, b⟩ := h
      exact SqL.of (b.same _ _ hl)
    · obtain ⟨B, v', rfl, b⟩ := h
      rw [List.getElem?_map] at hv
      cases eq : L[j]? with
      | none => rw [eq] at hv; cases hv
      | some qq =>
        rw [eq] at hv
        cases hv
        have hq := b.same _ _ (tr.2 qq (List.mem_of_getElem? eq))
        have et : L.take (j + 1) = L.take j ++ [qq] := by rw [List.take_add_one, eq]; rfl
        have hj : (L.take j).length ≤ 40 := Nat.le_trans (List.length_take_le' ..) hLl
        have hB := b.few
        refine ⟨_, rfl, d, rfl, .inl ⟨_, .inl b.on.ob⟩, _, rfl, _, _, _, .str qq.1.2.1, rfl, rfl, SqT.of hq, rfl, by decide, fun e he => ⟨fdKV B, Sum.inr qq.1.2.1, (Same.new he) _ _ b.on.ob, rfl, small1000 (by unfold fdKV; rw [List.length_map]; omega), fun v hv => ?_, fun hn => ?_⟩⟩
        · have hk : qq.1.2.1 ∈ keysG B := by
            by_cases z : qq.1.2.1 ∈ keysG B
            · exact z
            · rw [fd_none z] at hv; cases hv
          obtain ⟨b0, hb0, e0, v0⟩ := fd_get hk
          rw [v0] at hv
          cases hv
          have h0 := (Same.new (o := .lst []) he) _ _ (b.on.ls b0 hb0)
          refine ⟨.inl ⟨rfl, _, SqL.of h0⟩, _, rfl, _, _, _, rfl, rfl, h0, small1000 (by rw [List.length_map]; have := begs_len b0.1 (L.take j); omega), ?_⟩
          have ndb : d ≠ b0.2.2 := ne_of b.on.ob (b.on.ls b0 hb0) (by intro z; cases z)
          refine ⟨B, _, rfl, ⟨fun y ob z => ?_, ⟨?_, fun b1 hb1 => ?_, fun q1 hq1 => ?_⟩, b.hd, b.fr, b.na, b.nd, ?_⟩⟩
          · rw [upd_ne (ne_of_none z (b.fr b0 hb0))]
            exact (b.same.upd he) _ _ z
          · rw [upd_ne ndb]
            exact (Same.new he) _ _ b.on.ob
          · rw [et, begs_snoc]
            by_cases ea : b1 = b0
            · subst ea
              rw [if_pos e0.symm, upd_same, List.map_append]
              rfl
            · rw [if_neg (fun z => ea (inj_nodup b.nd hb1 hb0 (z.symm.trans e0.symm))), List.append_nil, upd_ne (fun z => ea (inj_nodup b.na hb1 hb0 z))]
              exact (Same.new he) _ _ (b.on.ls b1 hb1)
          · rw [et] at hq1
            rcases List.mem_append.mp hq1 with z | z
            · exact b.on.all q1 z
            · cases List.mem_singleton.mp z
              exact hk
          · rw [et, List.length_append]
            omega
        · have hk : qq.1.2.1 ∉ keysG B := fun z => by
            obtain ⟨_, _, _, v0⟩ := fd_get z
            rw [hn] at v0
            cases v0
          rw [putK_new _ hn]
          have nde : d ≠ e := ne_of_none b.on.ob he
          have h0 : (upd (upd H' e (.lst [])) d (.dK (fdKV B ++ [((Sum.inr qq.1.2.1 : Key), V.ref e)]))) e = some (.lst []) := by rw [upd_ne nde.symm]; exact upd_same
          have heH : H e = none := b.same.free he
          refine ⟨.inl ⟨rfl, _, SqL.of h0⟩, _, rfl, _, _, _, rfl, rfl, h0, by decide, ?_⟩
          have none_q : begs qq.1.2.1 (L.take j) = [] := by
            unfold begs
            refine List.filter_eq_nil_iff.mpr fun q1 hq1 z => hk ?_
            rw [← of_decide_eq_true z]
            exact b.on.all q1 hq1
          refine ⟨B ++ [(qq.1.2.1, [], e)], _, rfl, ⟨fun y ob z => ?_, ⟨?_, fun b1 hb1 => ?_, fun q1 hq1 => ?_⟩, b.hd, fun b1 hb1 => ?_, ?_, ?_, ?_⟩⟩
          · rw [upd_ne (ne_of_none z heH), upd_ne (ne_of_none z b.hd)]
            exact (b.same.upd he) _ _ z
          · rw [upd_ne nde, upd_same]
            unfold fdKV
            rw [List.map_append]
            rfl
          · rw [et, begs_snoc]
            rcases List.mem_append.mp hb1 with hb1 | hb1
            · have nb : b1.2.2 ≠ e := ne_of_none (b.on.ls b1 hb1) he
              rw [if_neg (fun z => hk (by rw [z]; exact List.mem_map.mpr ⟨b1, hb1, rfl⟩)), List.append_nil, upd_ne nb, upd_ne (ne_of (b.on.ls b1 hb1) b.on.ob (by intro z; cases z)), upd_ne nb]
              exact b.on.ls b1 hb1
            · cases List.mem_singleton.mp hb1
              rw [if_pos rfl, none_q]
              exact upd_same
          · unfold keysG
            rw [List.map_append]
            rw [et] at hq1
            rcases List.mem_append.mp hq1 with z | z
            · exact List.mem_append_left _ (b.on.all q1 z)
            · cases List.mem_singleton.mp z
              exact List.mem_append_right _ List.mem_cons_self
          · rcases List.mem_append.mp hb1 with hb1 | hb1
            · exact b.fr b1 hb1
            · cases List.mem_singleton.mp hb1
              exact heH
          · rw [List.map_append]
            refine L2.nd_snoc b.na fun z => ?_
            obtain ⟨b1, hb1, e1⟩ := List.mem_map.mp z
            have := b.on.ls b1 hb1
            rw [show b1.2.2 = e from e1, he] at this
            cases this
          · unfold keysG
            rw [List.map_append]
            exact L2.nd_snoc b.nd hk
          · rw [et, List.length_append, List.length_append]
            show B.length + 1 ≤ (L.take j).length + 1
            omega
    · obtain ⟨B, v', rfl, b⟩ := h
      rw [List.length_map, List.take_length] at b
      exact ⟨_, rfl, q d H' B b.same b.on⟩
/-- between two turns of the search; m: what is left -/
structure BF (H H' : Hp) (d wt : Addr) (T : List Trip) (a : Str) (G : List Fd) (ws : List Str) : Prop where
  same : Same H H'
  fd : FdAt H' d T a G
  wl : H' wt = some (.lst (ws.map V.str))
  hd : H d = none
  hw : H wt = none
  fr : ∀ g ∈ G, H g.2.2 = none ∧ g.2.2 ≠ wt
  inw : ∀ x ∈ ws, x ∈ keysG G
  st : a ∈ keysG G
  sub : ∀ x ∈ keysG G, x ∈ a :: T.map (·.2.2)
theorem BF.up {H H' H2 : Hp} {d wt : Addr} {T : List Trip} {a : Str} {G : List Fd} {ws : List Str} (b : BF H H' d wt T a G ws) (s : Same H' H2) : BF H H2 d wt T a G ws :=
  ⟨b.same.trans s, b.fd.same s, s _ _ b.wl, b.hd, b.hw, b.fr, b.inw, b.st, b.sub⟩
theorem BF.few {H H' : Hp} {d wt : Addr} {T : List Trip} {a : Str} {G : List Fd} {ws : List Str} (b : BF H H' d wt T a G ws) : G.length ≤ T.length + 1 := by
  have := nodup_len b.fd.nd b.sub
  unfold keysG at this
  rw [List.length_map, List.length_cons, List.length_map] at this
  exact this
theorem BF.ok {H H' : Hp} {d wt : Addr} {T : List Trip} {a : Str} {G : List Fd} {ws : List Str} (b : BF H H' d wt T a G ws) (h1 : nameB a = true) (h2 : ∀ t ∈ T, nameB t.2.2 = true) : ∀ x ∈ keysG G, nameB x = true := fun x hx => by
  rcases List.mem_cons.mp (b.sub x hx) with rfl | z
  · exact h1
  · obtain ⟨t, ht, rfl⟩ := List.mem_map.mp z
    exact h2 t ht
/-- the search's word: m is what is left -/
def BW (H : Hp) (l od d wt : Addr) (T : List Trip) (a : Str) (m : Nat) (σ : St) (H' : Hp) : Prop := ∃ (G : List Fd) (ws : List Str) (v1 v2 v3 v4 : Option V), σ = [some (.ref l), some (.str a), some (.ref od), some (.ref d), some (.ref wt), v1, v2, v3, v4] ∧ BF H H' d wt T a G ws ∧
  (∀ t ∈ T, t.2.1 ∈ keysG G → t.2.1 ∉ ws → t.2.2 ∈ keysG G) ∧ m = 2 * (T.length + 1 - G.length) + ws.length ∧ m ≤ 100
abbrev Nbfs : List Str := ["steps", "a", "onward", "found", "waiting", "here", "name", "begin", "end"]
theorem sc_bfs : FnScope Nbfs ["steps", "a"] (defScope s_steps_to_places) := ⟨rfl, rfl, rfl, by decide +kernel, rfl, by decide +kernel, by decide +kernel⟩
theorem ok_bfs {f : Addr} {fd : FuncData} (F : Fun K "steps_to_places" "steps_to_places" s_steps_to_places f fd) (T : Txt K mg C) (cy : Can P w K mg base 1 "steps_by_begin" ["steps"] spBy) : FnOk P w K mg base CX0 2 f fd ["steps", "a"] spBfs := by
  refine F.ok sc_bfs (fun vs H Q E h => ?_) (fun cdv A outer s H vs Q E hr h => ?_)
  · obtain ⟨l, L, T, a, rfl, _⟩ := h
    rfl
  · obtain ⟨l, L, TT, a, rfl, hl00, tr00, few, oka, okt, q00⟩ := h
    have hu := hu_of hr
    have hU := hr.units
    refine ⟨_, pss_cons (ps_set (i := 2) sc_bfs.nd rfl (Or.inl rfl) (pe_callC cy hr rfl (pa_cons (pv 0) pa_nil)))
      (pss_cons (ps_set (i := 3) sc_bfs.nd rfl (Or.inl rfl) (pe_disp (pps_cons (pv 1) (pe_lst pa_nil) pps_nil) rfl rfl (by simp) (by decide)))
      (pss_cons (ps_set (i := 4) sc_bfs.nd rfl (Or.inl rfl) (pe_lst (pa_cons (pv 1) pa_nil)))
      (pss_cons (ps_while PassesOwn.never (pt_cmpR (op_neD hU) (pv 4) (pe_lst pa_nil) (nomark _))
        (pss_cons (ps_set (i := 5) sc_bfs.nd rfl (Or.inl rfl) (pe_bm PySem.F.plainAttrs_list PySem.F.slot_list_pop PySem.F.type_list_pop mt_popAt (pv 4) (pa_cons pe_int pa_nil)))
        (pss_one (ps_for PassesOwn.never rfl (pi_list (pe_dget2 hu (pv 2) (pv 5) (pe_lst pa_nil) ⟨rfl, rfl, rfl, rfl⟩)) (pg_tup rfl (pgs_cons (pg_name (i := 6) sc_bfs.nd rfl (Or.inl rfl)) (pgs_cons (pg_name (i := 7) sc_bfs.nd rfl (Or.inl rfl)) (pgs_cons (pg_name (i := 8) sc_bfs.nd rfl (Or.inl rfl)) pgs_nil))))
          (pss_one (ps_if (pt_cmp (pc_dnotin hu (pv 8) (pv 3)))
            (pss_cons (ps_dput hu (pv 3) (pv 8) (pe_op op_cat (pe_dget hu (pv 3) (pv 5) (fun _ _ => rfl)) (pe_lst (pa_cons (pv 6) pa_nil))) rfl)
            (pss_one (ps_expr (pe_bm PySem.F.plainAttrs_list PySem.F.slot_list_append PySem.F.type_list_append mt_append (pv 4) (pa_cons (pv 8) pa_nil))))) pss_nil))))))
      (pss_one (ps_ret (pv 3)))))), ?_⟩
    refine ⟨_, rfl, l, L, TT, rfl, hl00, tr00, few, fun od H9 B9 s9 on9 => ?_⟩
    have hl := s9 _ _ hl00
    have tr := tr00.same s9
    have q : ∀ (d : Addr) (H' : Hp) (G : List Fd), H9 d = none → Same H9 H' → FdAt H' d TT a G → a ∈ keysG G → Closed TT (keysG G) → G.length ≤ 41 → (∀ g ∈ G, H9 g.2.2 = none) → Q (.ref d) H' :=
      fun d H' G h1 h2 h3 h4 h5 h6 h7 => q00 d H' G (s9.free h1) (s9.trans h2) h3 h4 h5 h6 fun g hg => s9.free (h7 g hg)
    clear q00 hl00 tr00
    generalize H9 = H at *
    intro d hd
    refine ⟨_, rfl, by decide, fun e he => ?_⟩
    have nde : d ≠ e := ne_of_none upd_same he
    have he0 : H e = none := by rw [upd_ne nde.symm] at he; exact he
    refine ⟨by rw [upd_ne nde]; exact upd_same, [(Sum.inr a, .ref e)], rfl, (by show 1 ≤ 15; decide), ?_⟩
    have s1 : Same H (upd (upd (upd H d (.dK [])) e (.lst [])) d (.dK (mergeK [] [(Sum.inr a, V.ref e)]))) := fun b ob z => by
      rw [upd_ne (ne_of_none z hd), upd_ne (ne_of_none z he0), upd_ne (ne_of_none z hd)]
      exact z
    have F1 : FdAt (upd (upd (upd H d (.dK [])) e (.lst [])) d (.dK (mergeK [] [(Sum.inr a, V.ref e)]))) d TT a [(a, [], e)] :=
      ⟨upd_same, fun g hg => by
        rw [List.mem_singleton.mp hg]
        exact ⟨by rw [upd_ne nde.symm]; exact upd_same, .nil, by show 0 < 1; decide⟩, by simp [keysG]⟩
    generalize upd (upd (upd H d (.dK [])) e (.lst [])) d (.dK (mergeK [] [(Sum.inr a, V.ref e)])) = H1 at s1 F1
    refine ⟨_, rfl, (by show 1 ≤ sizeLine; decide), fun wt hwt => ?_⟩
    have s2 := Same.new (o := .lst [.str a]) hwt
    have nwe : e ≠ wt := ne_of_none (F1.ws _ List.mem_cons_self).1 hwt
    have B0 : BF H (upd H1 wt (.lst [.str a])) d wt TT a [(a, [], e)] [a] := ⟨s1.trans s2, F1.same s2, upd_same, hd, s1.free hwt, fun g hg => by rw [List.mem_singleton.mp hg]; exact ⟨he0, nwe⟩, fun x hx => hx, List.mem_cons_self, fun x hx => by rw [List.mem_singleton.mp hx]; exact List.mem_cons_self⟩
    generalize upd H1 wt (.lst [.str a]) = H2 at B0
    refine ⟨BW H l od d wt TT a, ⟨_, _, _, none, none, none, none, rfl, B0, fun t ht h1 h2 => absurd h1 h2, rfl, ?_⟩, ?_⟩
    · show 2 * (TT.length + 1 - 1) + 1 ≤ 100
      omega
    rintro m σ' H' ⟨G, ws, v1, v2, v3, v4, rfl, B, cl, hm, h100⟩
    have kok := B.ok oka okt
    refine ⟨_, rfl, by decide, fun ee hee => ⟨2, _, _, by decide, rd_strs ((Same.new hee) _ _ B.wl) (fun x hx => kok x (B.inw x hx)), rd_nil upd_same, _, rfl, ?_⟩⟩
    have B1 := B.up (Same.new (o := .lst []) hee)
    generalize upd H' ee (.lst []) = H3 at B1
    show if (!PyData.eqv (.list (ws.map PyData.str)) (.list [])) = true then _ else _
    rw [eqv_nil]
    cases ws with
    | nil =>
      refine iteF ⟨_, rfl, ?_⟩
      have hf := B1.few
      exact q d H3 G hd B1.same B1.fd B1.st (fun t ht hb => cl t ht hb (fun z => nomatch z)) (by omega) fun g hg => (B1.fr g hg).1
    | cons here rest =>
      refine iteT ⟨fun σ' H' => ∃ m', m' < m ∧ BW H l od d wt TT a m' σ' H', fun _ _ z => z, ?_⟩
      have hhere : here ∈ keysG G := B1.inw here List.mem_cons_self
      refine ⟨_, rfl, .inl ⟨rfl, _, SqL.of B1.wl⟩, wt, _, 0, 0, .str here, rfl, rfl, B1.wl, by decide, by decide, by simp [seqIndex?], rfl, ?_⟩
      have sw : Same H (upd H3 wt (.lst ((here :: rest).map V.str |>.eraseIdx 0))) := fun b ob z => by
        rw [upd_ne (ne_of_none z B1.hw)]
        exact B1.same _ _ z
      have ndw : d ≠ wt := ne_of B1.fd.ob B1.wl (by intro z; cases z)
      have B2 : BF H (upd H3 wt (.lst ((here :: rest).map V.str |>.eraseIdx 0))) d wt TT a G rest :=
        ⟨sw, ⟨by rw [upd_ne ndw]; exact B1.fd.ob, fun g hg => ⟨by rw [upd_ne (B1.fr g hg).2]; exact (B1.fd.ws g hg).1, (B1.fd.ws g hg).2⟩, B1.fd.nd⟩, upd_same, B1.hd, B1.hw, B1.fr, fun x hx => B1.inw x (List.mem_cons_of_mem _ hx), B1.st, B1.sub⟩
      generalize upd H3 wt (.lst ((here :: rest).map V.str |>.eraseIdx 0)) = H4 at B2
      have hLl : L.length = TT.length := by rw [← tr.1, List.length_map]
      have oc := on9.same B2.same
      refine ⟨_, rfl, od, rfl, .inl ⟨_, .inl oc.ob⟩, _, rfl, by decide, fun e5 he5 => ?_⟩
      have s5 := Same.new (o := .lst []) he5
      have B3 := B2.up s5
      have oc5 := oc.same s5
      have nw5 : e5 ≠ wt := (ne_of_none B2.wl he5).symm
      have h5 : (upd H4 e5 (.lst [])) e5 = some (.lst []) := upd_same
      generalize upd H4 e5 (.lst []) = H5 at B3 oc5 h5
      have key : ∃ (lx : Addr), (Option.getD (valV (fdKV B9) (Sum.inr here : Key)) (.ref e5)) = .ref lx ∧ H5 lx = some (.lst ((begs here L).map fun q => V.ref q.2)) ∧ lx ≠ wt := by
        by_cases hk : here ∈ keysG B9
        · obtain ⟨b0, hb0, e0, v0⟩ := fd_get hk
          refine ⟨b0.2.2, by rw [v0]; rfl, by rw [← e0]; exact oc5.ls b0 hb0, fun z => ?_⟩
          have := on9.ls b0 hb0
          rw [z, B2.hw] at this
          cases this
        · refine ⟨e5, by rw [fd_none hk]; rfl, ?_, nw5⟩
          have : begs here L = [] := by
            unfold begs
            refine List.filter_eq_nil_iff.mpr fun q1 hq1 z => hk ?_
            rw [← of_decide_eq_true z]
            exact on9.all q1 hq1
          rw [this]
          exact h5
      obtain ⟨lx, elx, hlx, nlw⟩ := key
      refine ⟨_, DGet.k (k := Sum.inr here) oc5.ob, lx, elx, ⟨_, SqL.of hlx⟩, for_list (K := K) (a := lx) (xs := (begs here L).map fun q => V.ref q.2) (fun j σ' H' => ∃ (G2 : List Fd) (ws2 : List Str) (v2 v3 v4 : Option V), σ' = [some (.ref l), some (.str a), some (.ref od), some (.ref d), some (.ref wt), some (.str here), v2, v3, v4] ∧ BF H H' d wt TT a G2 ws2 ∧ here ∈ keysG G2 ∧
          (∀ t ∈ TT, t.2.1 ∈ keysG G2 → t.2.1 ∉ ws2 → t.2.1 ≠ here → t.2.2 ∈ keysG G2) ∧ (∀ t ∈ (begs here L).take j, t.1.2.2 ∈ keysG G2) ∧ 2 * (TT.length + 1 - G2.length) + ws2.length < m ∧ H' lx = some (.lst ((begs here L).map fun q => V.ref q.2)))
        ⟨G, rest, _, _, _, rfl, B3, hhere, fun t ht h1 h2 h3 => cl t ht h1 (fun z => (List.mem_cons.mp z).elim h3 h2), fun t ht => (nomatch ht), by rw [hm, List.length_cons]; omega, hlx⟩ (fun j σ' H' _ h => ?_) (fun j v σ' H' hv h => ?_) (fun σ' H' h => ?_)⟩
      · obtain ⟨_, _, _, _, _, _, b, _, _, _, _, hx⟩ := h
        exact SqL.of hx
      · obtain ⟨G2, ws2, v2', v3', v4', rfl, b, hh, c1, c2, lt, hx⟩ := h
        rw [List.getElem?_map] at hv
        cases eq : (begs here L)[j]? with
        | none => rw [eq] at hv; cases hv
        | some qq =>
          rw [eq] at hv
          cases hv
          obtain ⟨hqL, hqh⟩ := List.mem_filter.mp (List.mem_of_getElem? eq)
          have eb := of_decide_eq_true hqh
          have hqm : qq.1 ∈ TT := by rw [← tr.1]; exact List.mem_map.mpr ⟨qq, hqL, rfl⟩
          have hq := b.same _ _ (tr.2 qq hqL)
          obtain ⟨⟨nm, bg, en⟩, qa⟩ := qq
          have tk : ∀ t ∈ (begs here L).take (j + 1), t ∈ (begs here L).take j ∨ t = ((nm, bg, en), qa) := fun t ht => by
            rw [List.take_add_one, eq] at ht
            rcases List.mem_append.mp ht with z | z
            · exact .inl z
            · exact .inr (List.mem_singleton.mp z)
          refine ⟨qa, _, rfl, SqT.of hq, rfl, _, _, rfl, _, _, rfl, _, _, rfl, rfl, ?_⟩
          refine ⟨_, rfl, _, rfl, d, _, rfl, DGet.k (k := Sum.inr en) b.fd.ob, _, rfl, ?_⟩
          rw [fd_some]
          by_cases ek : en ∈ keysG G2
          · refine iteFb (by simp [ek]) ⟨G2, ws2, _, _, _, rfl, b, hh, c1, fun t ht => ?_, lt, hx⟩
            rcases tk t ht with z | rfl
            · exact c2 t z
            · exact ek
          · refine iteTb (by simp [ek]) ?_
            obtain ⟨g, hg, eg, vg⟩ := fd_get hh
            have hgl := b.fd.ws g hg
            have hgf := b.few
            refine ⟨_, rfl, _, rfl, d, .ref g.2.2, rfl, by rw [← vg]; exact DGet.k (k := Sum.inr here) b.fd.ob, _, rfl, (by show 1 ≤ sizeLine; decide), fun pn hpn => ?_⟩
            have z1 := Same.new (o := .lst [.str nm]) hpn
            refine ⟨g.2.2, pn, _, _, rfl, rfl, z1 _ _ hgl.1, upd_same, ?_, fun pp hpp => ?_⟩
            · rw [List.length_map]
              exact Nat.le_trans (show _ + 1 ≤ 100 by omega) (by decide)
            have z2 := z1.upd (o := .lst (g.2.1.map V.str ++ [.str nm])) hpp
            have ep : (upd (upd H' pn (.lst [.str nm])) pp (.lst (g.2.1.map V.str ++ [.str nm]))) pp = some (.lst ((g.2.1 ++ [nm]).map V.str)) := by rw [upd_same, List.map_append]; rfl
            have hpp0 : H' pp = none := z1.free hpp
            have bz := b.up z2
            have hxz := z2 _ _ hx
            generalize upd (upd H' pn (.lst [.str nm])) pp (.lst (g.2.1.map V.str ++ [.str nm])) = H6 at ep bz hxz
            refine ⟨_, rfl, _, rfl, d, _, rfl, DPut.k (k := Sum.inr en) bz.fd.ob (small1000 (by unfold fdKV; rw [List.length_map]; omega)), ?_⟩
            rw [putK_new _ (fd_none ek)]
            have npd : pp ≠ d := ne_of ep bz.fd.ob (by intro z; cases z)
            have nwd : wt ≠ d := ne_of bz.wl bz.fd.ob (by intro z; cases z)
            have npw : pp ≠ wt := fun z => by rw [z] at hpp0; rw [b.wl] at hpp0; cases hpp0
            have nxd : lx ≠ d := ne_of hxz bz.fd.ob (by intro z; cases z)
            have hpH : H pp = none := b.same.free hpp0
            have ekv : fdKV G2 ++ [((Sum.inr en : Key), V.ref pp)] = fdKV (G2 ++ [(en, g.2.1 ++ [nm], pp)]) := by unfold fdKV; rw [List.map_append]; rfl
            rw [ekv]
            have ewt : (upd H6 d (.dK (fdKV (G2 ++ [(en, g.2.1 ++ [nm], pp)])))) wt = some (.lst (ws2.map V.str)) := by rw [upd_ne nwd]; exact bz.wl
            have hwl : ws2.length ≤ 100 := by omega
            refine ⟨_, rfl, .inl ⟨rfl, _, SqL.of ewt⟩, _, rfl, wt, _, _, rfl, rfl, ewt, small1000 (by rw [List.length_map]; omega), ?_⟩
            have kk : keysG (G2 ++ [(en, g.2.1 ++ [nm], pp)]) = keysG G2 ++ [en] := by unfold keysG; rw [List.map_append]; rfl
            refine ⟨G2 ++ [(en, g.2.1 ++ [nm], pp)], ws2 ++ [en], _, _, _, rfl, ⟨fun y ob z => ?_, ⟨?_, fun g' hg' => ?_, ?_⟩, ?_, b.hd, b.hw, fun g' hg' => ?_, fun x hx => ?_, ?_, fun x hx => ?_⟩, ?_, fun t ht h1 h2 h3 => ?_, fun t ht => ?_, ?_, ?_⟩
            · rw [upd_ne (ne_of_none z b.hw), upd_ne (ne_of_none z b.hd)]
              exact bz.same _ _ z
            · rw [upd_ne nwd.symm]; exact upd_same
            · rw [List.length_append]
              rcases List.mem_append.mp hg' with hg' | hg'
              · have o1 := bz.fd.ws g' hg'
                refine ⟨?_, o1.2.1, Nat.lt_succ_of_lt o1.2.2⟩
                rw [upd_ne (bz.fr g' hg').2, upd_ne (ne_of o1.1 bz.fd.ob (by intro z; cases z))]
                exact o1.1
              · cases List.mem_singleton.mp hg'
                refine ⟨by rw [upd_ne npw, upd_ne npd]; exact ep, .snoc (eg ▸ hgl.2.1) (eb ▸ hqm), ?_⟩
                show (g.2.1 ++ [nm]).length < G2.length + 1
                rw [List.length_append]
                show g.2.1.length + 1 < _
                omega
            · rw [kk]; exact nodup_snoc b.fd.nd ek
            · rw [upd_same, List.map_append]; rfl
            · rcases List.mem_append.mp hg' with hg' | hg'
              · exact b.fr g' hg'
              · cases List.mem_singleton.mp hg'; exact ⟨hpH, npw⟩
            · rw [kk]
              rcases List.mem_append.mp hx with z | z
              · exact List.mem_append_left _ (b.inw x z)
              · exact List.mem_append_right _ z
            · rw [kk]; exact List.mem_append_left _ b.st
            · rw [kk] at hx
              rcases List.mem_append.mp hx with z | z
              · exact b.sub x z
              · rw [List.mem_singleton.mp z]; exact List.mem_cons_of_mem _ (List.mem_map.mpr ⟨_, hqm, rfl⟩)
            · rw [kk]; exact List.mem_append_left _ hh
            · rw [kk] at h1 ⊢
              rcases List.mem_append.mp h1 with z | z
              · exact List.mem_append_left _ (c1 t ht z (fun y => h2 (List.mem_append_left _ y)) h3)
              · exact absurd (List.mem_append_right _ z) h2
            · rw [kk]
              rcases tk t ht with z | rfl
              · exact List.mem_append_left _ (c2 t z)
              · exact List.mem_append_right _ List.mem_cons_self
            · have hb2 : G2.length < TT.length + 1 := by
                have nd2 : (keysG G2 ++ [en]).Nodup := nodup_snoc b.fd.nd ek
                have := nodup_len nd2 (m := a :: TT.map (·.2.2)) (fun x hx => by
                  rcases List.mem_append.mp hx with z | z
                  · exact b.sub x z
                  · rw [List.mem_singleton.mp z]; exact List.mem_cons_of_mem _ (List.mem_map.mpr ⟨_, hqm, rfl⟩))
                have e1 : (keysG G2 ++ [en]).length = G2.length + 1 := by unfold keysG; rw [List.length_append, List.length_map]; rfl
                rw [e1, List.length_cons, List.length_map] at this
                omega
              rw [List.length_append, List.length_append]
              show 2 * (TT.length + 1 - (G2.length + 1)) + (ws2.length + 1) < m
              omega
            · rw [upd_ne nlw, upd_ne nxd]
              exact hxz
      · obtain ⟨G2, ws2, v2', v3', v4', rfl, b, hh, c1, c2, lt, hx⟩ := h
        rw [List.length_map, List.take_length] at c2
        refine ⟨_, lt, G2, ws2, _, _, _, _, rfl, b, fun t ht h1 h2 => ?_, rfl, by omega⟩
        by_cases e3 : t.2.1 = here
        · rw [← tr.1] at ht
          obtain ⟨q1, hq1, rfl⟩ := List.mem_map.mp ht
          exact c2 q1 (List.mem_filter.mpr ⟨hq1, decide_eq_true e3⟩)
        · exact c1 t ht h1 h2 e3
end
end Net

namespace L2
open PySem PySem.Spec PyProof.Rows
end L2
namespace Net
open PySem L2
/-! ### sets of places -/
inductive Kd where
  | all
  | these (ns : List Str)
  | from_ (a : Str)
  | to_ (a : Str)
def KindAt (H : Hp) (t : Addr) : Kd → Prop
  | .all => H t = some (.tup [.str "all"])
  | .these ns => ∃ l, H t = some (.tup [.str "these", .ref l]) ∧ H l = some (.lst (ns.map V.str))
  | .from_ a => H t = some (.tup [.str "from", .str a])
  | .to_ a => H t = some (.tup [.str "to", .str a])
theorem KindAt.same {H H' : Hp} {t : Addr} (s : Same H H') : ∀ {k : Kd}, KindAt H t k → KindAt H' t k
  | .all, h => s _ _ h
  | .these _, ⟨l, h1, h2⟩ => ⟨l, s _ _ h1, s _ _ h2⟩
  | .from_ _, h => s _ _ h
  | .to_ _, h => s _ _ h
def KindOk (S : NS) : Kd → Prop
  | .all => True
  | .these ns => ns.length ≤ 100 ∧ ∀ x ∈ ns, x ∈ S.pl
  | .from_ a => a ∈ S.pl
  | .to_ a => a ∈ S.pl
/-- a net whose names are names -/
structure NetS (C : Addr) (H : Hp) (p ds dl : Addr) (S : NS) : Prop where
  net : NetAt C H p ds dl S
  nd : S.nms.Nodup
  few : S.ti.length ≤ 40
  fewP : S.pl.length ≤ 20
  ndP : S.pl.Nodup
  okP : ∀ x ∈ S.pl, nameB x = true
  okT : ∀ r ∈ S.ti, nameB r.nm = true ∧ r.a ∈ S.pl ∧ r.b ∈ S.pl
theorem NetS.same {C : Addr} {H H' : Hp} {p ds dl : Addr} {S : NS} (s : Same H H') (h : NetS C H p ds dl S) : NetS C H' p ds dl S := ⟨h.net.same s, h.nd, h.few, h.fewP, h.ndP, h.okP, h.okT⟩
theorem NetS.w {C : Addr} {H : Hp} {p ds dl : Addr} {S : NS} (h : NetS C H p ds dl S) : NetW C H p ds dl S := ⟨h.net, h.nd, h.few⟩
def noLeave (T : List Trip) (ws : List Str) : Bool := (T.filter fun t => decide (t.2.1 ∈ ws)).all fun t => decide (t.2.2 ∈ ws)
def withinK (S : NS) (k : Kd) (ws : List Str) : Bool := match k with
  | .all => S.pl.all fun x => decide (x ∈ ws)
  | .these ns => ns.all fun x => decide (x ∈ ws)
  | .from_ a => decide (a ∈ ws) && noLeave (stepsR false S.ti) ws
  | .to_ a => decide (a ∈ ws) && noLeave (stepsR true S.ti) ws
def memberK (S : NS) (k : Kd) (x : Str) (ws : List Str) : Bool := match k with
  | .all => ws.isEmpty
  | .these ns => decide (x ∈ ns) && ws.isEmpty
  | .from_ a => decide (endOf S.ti a (.list (ws.map PyData.str)) = some x)
  | .to_ a => decide (endOf S.ti x (.list (ws.map PyData.str)) = some a)
def memberB (S : NS) (k : Kd) (x : Str) (ws : List Str) : Bool := decide (x ∈ S.pl) && memberK S k x ws
open Classical in
noncomputable def reachB (T : List Trip) (a x : Str) : Bool := decide (∃ ws, Path T a ws x)
noncomputable def inB (S : NS) (k : Kd) (x : Str) : Bool := match k with
  | .all => true
  | .these ns => decide (x ∈ ns)
  | .from_ a => reachB (stepsR false S.ti) a x
  | .to_ a => reachB (stepsR true S.ti) a x
noncomputable def membersD (S : NS) (k : Kd) : List Str := S.pl.filter fun x => inB S k x
open Classical in
theorem reach_keys {H : Hp} {d : Addr} {T : List Trip} {a : Str} {G : List Fd} (F : FdAt H d T a G) (h : a ∈ keysG G) (c : Closed T (keysG G)) (x : Str) : reachB T a x = decide (x ∈ keysG G) := by
  unfold reachB
  by_cases e : x ∈ keysG G
  · rw [decide_eq_true e]
    obtain ⟨g, hg, rfl⟩ := List.mem_map.mp e
    exact decide_eq_true ⟨_, (F.ws g hg).2.1⟩
  · rw [decide_eq_false e]
    exact decide_eq_false fun ⟨ws, p⟩ => e (p.in_ c h)
/-! paths are walks -/
theorem row_of {ti : List Row} (nd : (ti.map (·.nm)).Nodup) {r : Row} (h : r ∈ ti) : rowOf ti r.nm = some r := by
  induction ti with
  | nil => exact nomatch h
  | cons q t ih =>
    have nd' : q.nm ∉ t.map (·.nm) ∧ (t.map (·.nm)).Nodup := List.nodup_cons.mp nd
    unfold rowOf
    rcases List.mem_cons.mp h with rfl | h
    · rw [List.find?_cons_of_pos (by simp)]
    · have hne : ¬ q.nm = r.nm := fun z => nd'.1 (List.mem_map.mpr ⟨r, h, z.symm⟩)
      rw [List.find?_cons_of_neg (by simpa using hne)]
      exact ih nd'.2 h
theorem path_from {ti : List Row} (nd : (ti.map (·.nm)).Nodup) {a : Str} {ws : List Str} {x : Str} (p : Path (stepsR false ti) a ws x) : ∃ l, stD ti a (ws.map PyData.str) = some l ∧ l.getLast? = some x := by
  induction p with
  | nil => exact ⟨[a], rfl, rfl⟩
  | @snoc ws x nm y p h ih =>
    obtain ⟨l, e1, e2⟩ := ih
    obtain ⟨r, hr, er⟩ := List.mem_map.mp h
    have er' : (r.nm, r.a, r.b) = (nm, x, y) := er
    cases er'
    refine ⟨l ++ [r.b], ?_, by simp⟩
    rw [List.map_append]
    show stD ti a (ws.map PyData.str ++ [.str r.nm]) = _
    rw [stD_snoc e1 e2]
    show ((rowOf ti r.nm).bind _).map _ = _
    rw [row_of nd hr]
    show (if r.a = r.a then some r.b else none).map _ = _
    rw [if_pos rfl]
    rfl
theorem path_to {ti : List Row} (nd : (ti.map (·.nm)).Nodup) {a : Str} {ws : List Str} {x : Str} (p : Path (stepsR true ti) a ws x) : ∃ l, stD ti x (ws.reverse.map PyData.str) = some l ∧ l.getLast? = some a := by
  induction p with
  | nil => exact ⟨[a], rfl, rfl⟩
  | @snoc ws x nm y p h ih =>
    obtain ⟨l, e1, e2⟩ := ih
    obtain ⟨r, hr, er⟩ := List.mem_map.mp h
    have er' : (r.nm, r.b, r.a) = (nm, x, y) := er
    cases er'
    refine ⟨r.a :: l, ?_, ?_⟩
    · rw [List.reverse_append]
      show (stepD ti r.a (.str r.nm)).bind (fun z => (stD ti z (ws.reverse.map PyData.str)).map (r.a :: ·)) = _
      have : stepD ti r.a (.str r.nm) = some r.b := by
        show (rowOf ti r.nm).bind _ = _
        rw [row_of nd hr]
        show (if r.a = r.a then some r.b else none) = _
        rw [if_pos rfl]
      rw [this, Option.bind_some, e1]
      rfl
    · have hne := stD_ne e1
      cases l with
      | nil => exact absurd rfl hne
      | cons y ys => rw [List.getLast?_cons_cons]; exact e2
def spMembers (C : Addr) : Sp := fun vs H Q _ => ∃ (p ds dl kt : Addr) (S : NS) (k : Kd), vs = [.ref p, .ref kt] ∧ NetS C H p ds dl S ∧ KindAt H kt k ∧ KindOk S k ∧ ∀ (l : Addr) (H' : Hp), H l = none → Same H H' → H' l = some (.lst ((membersD S k).map V.str)) → Q (.ref l) H'
def spMPaper (C : Addr) : Sp := fun vs H Q _ => ∃ (p ds dl kt : Addr) (S : NS) (k : Kd) (x : Str), vs = [.ref p, .ref kt, .str x] ∧ NetS C H p ds dl S ∧ KindAt H kt k ∧ KindOk S k ∧ nameB x = true ∧ (x ∉ membersD S k → ∀ H', Same H H' → Q .non H') ∧
  (x ∈ membersD S k → ∀ (l : Addr) (ws : List Str) (H' : Hp), H l = none → Same H H' → H' l = some (.lst (ws.map V.str)) → ws.length ≤ 100 → (∀ y ∈ ws, y ∈ S.nms) → memberB S k x ws = true → Q (.ref l) H')
section
variable {P : Program} {w : World} {K : PySem.W.Frag} {mg : Str → Option Value} {base : Heap} {C : Addr}
structure TxtS (mg : Str → Option Value) : Prop where
  set : mg "set" = none
  rev : mg "reversed" = none
end
end Net

namespace Net
open PySem L2
theorem s_all_all : decide (V.str "all" = V.str "all") = true := by decide +kernel
theorem s_these_all : decide (V.str "these" = V.str "all") = false := by decide +kernel
theorem s_from_all : decide (V.str "from" = V.str "all") = false := by decide +kernel
theorem s_to_all : decide (V.str "to" = V.str "all") = false := by decide +kernel
theorem s_these_these : decide (V.str "these" = V.str "these") = true := by decide +kernel
theorem s_from_these : decide (V.str "from" = V.str "these") = false := by decide +kernel
theorem s_to_these : decide (V.str "to" = V.str "these") = false := by decide +kernel
theorem s_from_from : decide (V.str "from" = V.str "from") = true := by decide +kernel
theorem s_to_from : decide (V.str "to" = V.str "from") = false := by decide +kernel
theorem s_from_to : decide (V.str "from" = V.str "to") = false := by decide +kernel
theorem s_to_to : decide (V.str "to" = V.str "to") = true := by decide +kernel
theorem d_from : decide (("from" : Str) = "to") = false := by decide +kernel
theorem d_to : decide (("to" : Str) = "to") = true := by decide +kernel
section
variable {P : Program} {w : World} {K : PySem.W.Frag} {mg : Str → Option Value} {base : Heap} {C : Addr}
end
end Net

namespace Net
open PySem L2
theorem filt_snoc {α : Type} {xs : List α} {i : Nat} {y : α} (f : α → Bool) (e : xs[i]? = some y) {b : Bool} (h : f y = b) : (xs.take (i + 1)).filter f = (xs.take i).filter f ++ (if b then [y] else []) := by
  rw [List.take_add_one, e, List.filter_append]
  show _ ++ List.filter f [y] = _
  cases b with
  | true => rw [List.filter_cons_of_pos h]; rfl
  | false => rw [List.filter_cons_of_neg (by rw [h]; decide)]; rfl
theorem mem_all (S : NS) : membersD S .all = S.pl := List.filter_eq_self.mpr fun _ _ => rfl
theorem path_names {b : Bool} {ti : List Row} {a : Str} {ws : List Str} {x : Str} (p : Path (stepsR b ti) a ws x) : ∀ y ∈ ws, y ∈ ti.map (·.nm) := by
  induction p with
  | nil => exact fun _ h => nomatch h
  | snoc p h ih =>
    intro y hy
    rcases List.mem_append.mp hy with hy | hy
    · exact ih y hy
    · cases List.mem_singleton.mp hy
      obtain ⟨r, hr, er⟩ := List.mem_map.mp h
      refine List.mem_map.mpr ⟨r, hr, ?_⟩
      cases b
      · have e' := congrArg (·.1) er
        exact e'
      · have e' := congrArg (·.1) er
        exact e'
theorem trip_end {C : Addr} {H : Hp} {p ds dl : Addr} {S : NS} (N : NetS C H p ds dl S) (b : Bool) : ∀ t ∈ stepsR b S.ti, t.2.2 ∈ S.pl := fun t ht => by
  obtain ⟨r, hr, rfl⟩ := List.mem_map.mp ht
  cases b
  · exact (N.okT r hr).2.2
  · exact (N.okT r hr).2.1
open Classical in
theorem reach_iff {T : List Trip} {a x : Str} : reachB T a x = true ↔ ∃ ws, Path T a ws x := by
  unfold reachB
  exact decide_eq_true_iff
structure ToFrom (H : Hp) (kt : Addr) (S : NS) (k : Kd) (b : Bool) (a wd : Str) : Prop where
  tp : H kt = some (.tup [.str wd, .str a])
  nall : decide (V.str wd = V.str "all") = false
  nthese : decide (V.str wd = V.str "these") = false
  isto : decide (wd = "to") = b
  istoV : decide (V.str wd = V.str "to") = b
  isfrV : decide (V.str wd = V.str "from") = !b
  ain : a ∈ S.pl
  mem : membersD S k = S.pl.filter fun x => reachB (stepsR b S.ti) a x
  win : ∀ ws, withinK S k ws = (decide (a ∈ ws) && noLeave (stepsR b S.ti) ws)
  path : ∀ {ws : List Str} {x : Str}, S.nms.Nodup → Path (stepsR b S.ti) a ws x → x ∈ S.pl → memberB S k x (if b then ws.reverse else ws) = true
theorem kd_view {H : Hp} {kt : Addr} {S : NS} : ∀ {k : Kd}, KindAt H kt k → KindOk S k → k = .all ∨ (∃ ns, k = .these ns) ∨ ∃ b a wd, ToFrom H kt S k b a wd
  | .all, _, _ => .inl rfl
  | .these _, _, _ => .inr (.inl ⟨_, rfl⟩)
  | .from_ a, h, o => .inr (.inr ⟨false, a, "from", h, s_from_all, s_from_these, d_from, s_from_to, s_from_from, o, rfl, fun _ => rfl, fun nd p hx => by
      obtain ⟨l, e1, e2⟩ := path_from nd p
      show (decide (_ ∈ S.pl) && decide (endOf S.ti a (.list (List.map PyData.str _)) = some _)) = true
      rw [decide_eq_true hx, Bool.true_and]
      refine decide_eq_true ?_
      rw [endOf_list, if_neg Bool.false_ne_true, e1]
      exact e2⟩)
  | .to_ a, h, o => .inr (.inr ⟨true, a, "to", h, s_to_all, s_to_these, d_to, s_to_to, s_to_from, o, rfl, fun _ => rfl, fun nd p hx => by
      obtain ⟨l, e1, e2⟩ := path_to nd p
      show (decide (_ ∈ S.pl) && decide (endOf S.ti _ (.list (List.map PyData.str _)) = some a)) = true
      rw [decide_eq_true hx, Bool.true_and]
      refine decide_eq_true ?_
      rw [endOf_list, if_pos rfl, e1]
      exact e2⟩)
section
variable {P : Program} {w : World} {K : PySem.W.Frag} {mg : Str → Option Value} {base : Heap} {C : Addr}
theorem sc_members : FnScope ["net", "kind", "found"] ["net", "kind"] (defScope s_members_of) := ⟨rfl, rfl, rfl, by decide +kernel, rfl, by decide +kernel, by decide +kernel⟩
theorem ok_members {f : Addr} {fd : FuncData} (F : Fun K "members_of" "members_of" s_members_of f fd) (T : Txt K mg C) (cs : Can P w K mg base 2 "steps_of" ["net", "word"] (spSteps C)) (cb : Can P w K mg base 2 "steps_to_places" ["steps", "a"] spBfs)
    (m1 : CanM P w K mg base 1 C "places" ["self"] (spPlaces C)) : FnOk P w K mg base CX0 3 f fd ["net", "kind"] (spMembers C) := by
  refine F.ok sc_members (fun vs H Q E h => ?_) (fun cdv A outer s H vs Q E hr h => ?_)
  · obtain ⟨p, ds, dl, kt, S, k, rfl, _⟩ := h
    rfl
  · obtain ⟨p, ds, dl, kt, S, k, rfl, N, hk, kok, q⟩ := h
    have hu := hu_of hr
    have r1 : Room 1 _ := hr.mono (by decide)
    have r2 : Room 2 _ := hr.mono (by decide)
    have nd2 : List.Nodup (["place", "kind"] : List Str) := by decide +kernel
    have nd3 : List.Nodup (["place", "found"] : List Str) := by decide +kernel
    refine ⟨_, pss_cons (ps_if (pt_cmpR op_eq (pe_ix ix_tup (pv 1) pe_int (fun _ _ => by rfl)) pe_str (nomark _)) (pss_one (ps_ret (pe_methC0 (pv 0) T.cl m1 r1))) pss_nil)
      (pss_cons (ps_if (pt_cmpR op_eq (pe_ix ix_tup (pv 1) pe_int (fun _ _ => by rfl)) pe_str (nomark _)) (pss_one (ps_ret (pe_comp (N := ["place", "kind"]) (xs := 1) (js := [1]) rfl (compScope_of rfl) (pi_list (pe_methC0 (pv 0) T.cl m1 r1))
        (fun _ _ _ _ => pg_name (i := 0) nd2 rfl (Or.inl rfl)) (fun _ _ _ _ => pts_one (pt_cmpR (op_inK K (by rfl)) (pv 0) (pe_ix (ix_tupK K (by rfl)) (pv 1) pe_int (fun _ _ => by rfl)) (by with_unfolding_all rfl))) (fun _ _ _ _ => pv 0)))) pss_nil)
      (pss_cons (ps_set (i := 2) sc_members.nd rfl (Or.inr rfl) (pe_callC cb r2 (by rfl) (pa_cons (pe_callC cs hr (by rfl) (pa_cons (pv 0) (pa_cons (pe_ix ix_tup (pv 1) pe_int (fun _ _ => by rfl)) pa_nil))) (pa_cons (pe_ix ix_tup (pv 1) pe_int (fun _ _ => by rfl)) pa_nil))))
      (pss_one (ps_ret (pe_comp (N := ["place", "found"]) (xs := 1) (js := [2]) rfl (compScope_of rfl) (pi_list (pe_methC0 (pv 0) T.cl m1 r1))
        (fun _ _ _ _ => pg_name (i := 0) nd3 rfl (Or.inl rfl)) (fun _ _ _ _ => pts_one (pt_cmp (pc_din hu (pv 0) (pv 1)) (by with_unfolding_all rfl))) (fun _ _ _ _ => pv 0)))))), ?_⟩
    obtain ⟨dx, h1⟩ := N.net.ob
    rcases kd_view hk kok with rfl | ⟨ns, rfl⟩ | ⟨b, a, wd, v⟩
    · refine ⟨_, rfl, kt, _, _, .str "all", rfl, rfl, SqT.of hk, rfl, rfl, _, rfl, iteTb s_all_all ?_⟩
      refine ⟨_, rfl, p, dx, _, rfl, h1, flds_no ds dl (by decide +kernel) (by decide +kernel), p, ds, dl, S, rfl, N.net, fun pl hpl => ?_⟩
      exact q pl _ hpl (Same.new hpl) (by rw [upd_same, mem_all])
    · obtain ⟨nl, g1, g2⟩ := hk
      refine ⟨_, rfl, kt, _, _, .str "these", rfl, rfl, SqT.of g1, rfl, rfl, _, rfl, iteFb s_these_all ?_⟩
      refine ⟨_, rfl, kt, _, _, .str "these", rfl, rfl, SqT.of g1, rfl, rfl, _, rfl, iteTb s_these_these ?_⟩
      refine ⟨_, rfl, p, dx, _, rfl, h1, flds_no ds dl (by decide +kernel) (by decide +kernel), p, ds, dl, S, rfl, N.net, fun pl hpl => ⟨pl, rfl, ⟨_, SqL.of upd_same⟩, ?_⟩⟩
      have s1 := Same.new (o := .lst (S.pl.map V.str)) hpl
      have e1 : (upd H pl (.lst (S.pl.map V.str))) pl = some (.lst (S.pl.map V.str)) := upd_same
      generalize upd H pl (.lst (S.pl.map V.str)) = H1 at s1 e1
      refine comp_list (K := K) (ys := S.pl.map V.str) (fun i acc σ' H' => H' = H1 ∧ acc = (((S.pl.take i).filter fun x => decide (x ∈ ns)).map V.str) ∧ ∃ o, σ' = [o, some (.ref kt)])
        ⟨rfl, rfl, none, rfl⟩ (fun i acc σ' H' h => ?_) ?_ (fun i acc σ' H' _ h => by rw [h.1]; exact SqL.of e1) (fun i x acc σ' H' hx h => ?_) (fun acc σ' H' h pp hpp => ?_)
      · rw [h.2.1, List.length_map]
        exact Nat.le_trans (List.length_filter_le _ _) (by rw [List.length_take]; omega)
      · rw [List.length_map]; exact Nat.le_trans N.fewP (by decide)
      · obtain ⟨rfl, rfl, o, rfl⟩ := h
        rw [List.getElem?_map] at hx
        cases eq : S.pl[i]? with
        | none => rw [eq] at hx; cases hx
        | some y =>
          rw [eq] at hx
          cases hx
          refine ⟨_, rfl, _, rfl, kt, _, _, .ref nl, rfl, rfl, SqT.of (s1 _ _ g1), rfl, nl, ns.map V.str, rfl, .inl (SqL.of (s1 _ _ g2)), rfl, flat_strs _, _, rfl, ?_⟩
          have ei : (if false = true then !inV (.str y) (ns.map V.str) else inV (.str y) (ns.map V.str)) = decide (y ∈ ns) := inV_str y ns
          show if (if false = true then !inV (.str y) (ns.map V.str) else inV (.str y) (ns.map V.str)) = true then _ else _
          rw [ei]
          by_cases hb : y ∈ ns
          · refine iteTb (decide_eq_true hb) ⟨_, rfl, rfl, ?_, _, rfl⟩
            rw [filt_snoc _ eq (decide_eq_true hb), List.map_append]
            rfl
          · refine iteFb (decide_eq_false hb) ⟨rfl, ?_, _, rfl⟩
            rw [filt_snoc _ eq (decide_eq_false hb), List.map_append]
            exact (List.append_nil _).symm
      · obtain ⟨rfl, rfl, o, rfl⟩ := h
        rw [List.length_map, List.take_length]
        exact q pp _ (s1.free hpp) (s1.upd hpp) upd_same
    · refine ⟨_, rfl, kt, _, _, .str wd, rfl, rfl, SqT.of v.tp, rfl, rfl, _, rfl, iteFb v.nall ?_⟩
      refine ⟨_, rfl, kt, _, _, .str wd, rfl, rfl, SqT.of v.tp, rfl, rfl, _, rfl, iteFb v.nthese ?_⟩
      refine ⟨_, rfl, _, rfl, kt, _, _, .str wd, rfl, rfl, SqT.of v.tp, rfl, p, ds, dl, S, wd, rfl, N.net, N.few, fun sl H1 L hsl s1 tr esl => ?_⟩
      rw [v.isto] at tr
      refine ⟨_, rfl, kt, _, _, .str a, rfl, rfl, SqT.of (s1 _ _ v.tp), rfl, sl, L, _, a, rfl, esl, tr, by rw [trip_len]; exact N.few, N.okP _ v.ain, fun t ht => N.okP _ (trip_end N b t ht), fun d H2 G hd s2 fd hG hcl hln hfr => ?_⟩
      have s02 := s1.trans s2
      have N2 := N.same s02
      obtain ⟨dx2, h12⟩ := N2.net.ob
      refine ⟨_, rfl, p, dx2, _, rfl, h12, flds_no ds dl (by decide +kernel) (by decide +kernel), p, ds, dl, S, rfl, N2.net, fun pl hpl => ⟨pl, rfl, ⟨_, SqL.of upd_same⟩, ?_⟩⟩
      have s3 := s02.upd (o := .lst (S.pl.map V.str)) hpl
      have fd3 := fd.same (Same.new (o := .lst (S.pl.map V.str)) hpl)
      have e1 : (upd H2 pl (.lst (S.pl.map V.str))) pl = some (.lst (S.pl.map V.str)) := upd_same
      generalize upd H2 pl (.lst (S.pl.map V.str)) = H3 at s3 e1 fd3
      refine comp_list (K := K) (ys := S.pl.map V.str) (fun i acc σ' H' => H' = H3 ∧ acc = (((S.pl.take i).filter fun x => reachB (stepsR b S.ti) a x).map V.str) ∧ ∃ o, σ' = [o, some (.ref d)])
        ⟨rfl, rfl, none, rfl⟩ (fun i acc σ' H' h => ?_) ?_ (fun i acc σ' H' _ h => by rw [h.1]; exact SqL.of e1) (fun i x acc σ' H' hx h => ?_) (fun acc σ' H' h pp hpp => ?_)
      · rw [h.2.1, List.length_map]
        exact Nat.le_trans (List.length_filter_le _ _) (by rw [List.length_take]; omega)
      · rw [List.length_map]; exact Nat.le_trans N.fewP (by decide)
      · obtain ⟨rfl, rfl, o, rfl⟩ := h
        rw [List.getElem?_map] at hx
        cases eq : S.pl[i]? with
        | none => rw [eq] at hx; cases hx
        | some y =>
          rw [eq] at hx
          cases hx
          refine ⟨_, rfl, _, rfl, d, _, rfl, DGet.k (k := Sum.inr y) fd3.ob, _, rfl, ?_⟩
          have er := reach_keys fd3 hG hcl y
          rw [fd_some]
          by_cases hb : y ∈ keysG G
          · rw [decide_eq_true hb] at er
            refine iteTb (decide_eq_true hb) ⟨_, rfl, rfl, ?_, _, rfl⟩
            rw [filt_snoc (fun x => reachB (stepsR b S.ti) a x) eq er, List.map_append]
            rfl
          · rw [decide_eq_false hb] at er
            refine iteFb (decide_eq_false hb) ⟨rfl, ?_, _, rfl⟩
            rw [filt_snoc (fun x => reachB (stepsR b S.ti) a x) eq er, List.map_append]
            exact (List.append_nil _).symm
      · obtain ⟨rfl, rfl, o, rfl⟩ := h
        rw [List.length_map, List.take_length, ← v.mem]
        exact q pp _ (s3.free hpp) (s3.upd hpp) upd_same
theorem sc_mpaper : FnScope ["net", "kind", "place", "names"] ["net", "kind", "place"] (defScope s_member_paper) := ⟨rfl, rfl, rfl, by decide +kernel, rfl, by decide +kernel, by decide +kernel⟩
theorem ok_mpaper {f : Addr} {fd : FuncData} (F : Fun K "member_paper" "member_paper" s_member_paper f fd) (T : Txt K mg C) (TS : TxtS mg) (cm : Can P w K mg base 3 "members_of" ["net", "kind"] (spMembers C)) (cs : Can P w K mg base 2 "steps_of" ["net", "word"] (spSteps C)) (cb : Can P w K mg base 2 "steps_to_places" ["steps", "a"] spBfs) :
    FnOk P w K mg base CX0 4 f fd ["net", "kind", "place"] (spMPaper C) := by
  refine F.ok sc_mpaper (fun vs H Q E h => ?_) (fun cdv A outer s H vs Q E hr h => ?_)
  · obtain ⟨p, ds, dl, kt, S, k, x, rfl, _⟩ := h
    rfl
  · obtain ⟨p, ds, dl, kt, S, k, x, rfl, N, hk, kok, hx, q1, q2⟩ := h
    have hu := hu_of hr
    have r1 : Room 1 _ := hr.mono (by decide)
    have r2 : Room 2 _ := hr.mono (by decide)
    refine ⟨_, pss_cons (ps_if (pt_cmpR op_notIn_seq (pv 2) (pe_callC cm hr (by rfl) (pa_cons (pv 0) (pa_cons (pv 1) pa_nil))) (by with_unfolding_all rfl)) (pss_one (ps_ret pe_non)) pss_nil)
      (pss_cons (ps_if (PW.pt (pw_or (pt_cmpR op_eq (pe_ix ix_tup (pv 1) pe_int (fun _ _ => by rfl)) pe_str (nomark _)) (pw_or1 (pt_cmpR op_eq (pe_ix ix_tup (pv 1) pe_int (fun _ _ => by rfl)) pe_str (nomark _))))) (pss_one (ps_ret (pe_lst pa_nil))) pss_nil)
      (pss_cons (ps_set (i := 3) sc_mpaper.nd rfl (Or.inl rfl) (pe_dget hu (pe_callC cb r2 (by rfl) (pa_cons (pe_callC cs r2 (by rfl) (pa_cons (pv 0) (pa_cons (pe_ix ix_tup (pv 1) pe_int (fun _ _ => by rfl)) pa_nil))) (pa_cons (pe_ix ix_tup (pv 1) pe_int (fun _ _ => by rfl)) pa_nil))) (pv 2) (fun _ _ => rfl)))
      (pss_one (ps_ret (pe_ifExp (pt_cmpR op_eq (pe_ix ix_tup (pv 1) pe_int (fun _ _ => by rfl)) pe_str (nomark _)) (pe_listRev (pv 3) rfl (by rfl) T.list (by rfl) TS.rev) (pv 3)))))), ?_⟩
    refine ⟨_, rfl, _, rfl, _, rfl, p, ds, dl, kt, S, k, rfl, N, hk, kok, fun l H1 hl s1 el => ?_⟩
    refine ⟨l, _, rfl, .inl (SqL.of el), rfl, flat_strs _, _, rfl, ?_⟩
    show if (if true = true then !inV (.str x) ((membersD S k).map V.str) else inV (.str x) ((membersD S k).map V.str)) = true then _ else _
    rw [if_pos rfl, inV_str]
    by_cases hm : x ∈ membersD S k
    · rw [decide_eq_true hm]
      refine iteF ?_
      have q := q2 hm
      have hxp : x ∈ S.pl := (List.mem_filter.mp hm).1
      rcases kd_view (hk.same s1) kok with rfl | ⟨ns, rfl⟩ | ⟨b, a, wd, v⟩
      · refine ⟨_, rfl, kt, _, _, .str "all", rfl, rfl, SqT.of (s1 _ _ hk), rfl, rfl, _, rfl, iteTb s_all_all (iteT ?_)⟩
        refine ⟨by decide, fun e he => q e [] _ (s1.free he) (s1.upd he) upd_same (by decide) (fun _ h => (nomatch h)) ?_⟩
        show (decide (x ∈ S.pl) && _) = true
        rw [decide_eq_true hxp]
        rfl
      · obtain ⟨nl, g1, g2⟩ := hk.same s1
        refine ⟨_, rfl, kt, _, _, .str "these", rfl, rfl, SqT.of g1, rfl, rfl, _, rfl, iteFb s_these_all ?_⟩
        refine ⟨_, rfl, kt, _, _, .str "these", rfl, rfl, SqT.of g1, rfl, rfl, _, rfl, ?_⟩
        rw [s_these_these]
        refine iteT ?_
        refine ⟨by decide, fun e he => q e [] _ (s1.free he) (s1.upd he) upd_same (by decide) (fun _ h => (nomatch h)) ?_⟩
        show (decide (x ∈ S.pl) && (decide (x ∈ ns) && _)) = true
        rw [decide_eq_true hxp, decide_eq_true (of_decide_eq_true (List.mem_filter.mp hm).2)]
        rfl
      · refine ⟨_, rfl, kt, _, _, .str wd, rfl, rfl, SqT.of v.tp, rfl, rfl, _, rfl, iteFb v.nall ?_⟩
        refine ⟨_, rfl, kt, _, _, .str wd, rfl, rfl, SqT.of v.tp, rfl, rfl, _, rfl, ?_⟩
        rw [v.nthese]
        refine iteF ?_
        refine ⟨_, rfl, _, rfl, kt, _, _, .str wd, rfl, rfl, SqT.of v.tp, rfl, p, ds, dl, S, wd, rfl, (N.same s1).net, N.few, fun sl H2 L hsl s2 tr esl => ?_⟩
        rw [v.isto] at tr
        refine ⟨_, rfl, kt, _, _, .str a, rfl, rfl, SqT.of (s2 _ _ v.tp), rfl, sl, L, _, a, rfl, esl, tr, by rw [trip_len]; exact N.few, N.okP _ v.ain, fun t ht => N.okP _ (trip_end N b t ht), fun d H3 G hd s3 fd hG hcl hln hfr => ?_⟩
        have hxr : x ∈ keysG G := by
          have h0 := hm
          rw [v.mem] at h0
          have h1 := (List.mem_filter.mp h0).2
          rw [reach_keys fd hG hcl x] at h1
          exact of_decide_eq_true h1
        obtain ⟨g, hg, egx, eg⟩ := fd_get hxr
        subst egx
        obtain ⟨w1, w2, w3⟩ := fd.ws g hg
        have s03 := (s1.trans s2).trans s3
        refine ⟨_, rfl, d, _, rfl, by rw [← eg]; exact DGet.k (k := Sum.inr g.1) fd.ob, ?_⟩
        have mb := v.path N.nd w2 hxp
        have nm := path_names w2
        refine ⟨_, rfl, kt, _, _, .str wd, rfl, rfl, SqT.of (s3 _ _ (s2 _ _ v.tp)), rfl, rfl, _, rfl, ?_⟩
        rw [v.istoV]
        cases b with
        | true =>
          refine iteT ⟨_, rfl, _, _, rfl, SqL.of w1, fun l2 hl2 => ?_⟩
          refine q l2 g.2.1.reverse _ (s03.free hl2) (s03.upd hl2) (by rw [upd_same, List.map_reverse]) (by rw [List.length_reverse]; omega) (fun y hy => nm y (List.mem_reverse.mp hy)) mb
        | false =>
          refine iteF ⟨_, rfl, ?_⟩
          exact q g.2.2 g.2.1 H3 ((s1.trans s2).free (hfr g hg)) s03 w1 (by omega) nm mb
    · rw [decide_eq_false hm]
      exact iteT (q1 hm H1 s1)
end
end Net

namespace Net
open PySem L2
/-! ### ways and musts -/
def WalkP (S : NS) (a b : Str) (ws : List Str) : Prop := (∀ y ∈ ws, y ∈ S.nms) ∧ endOf S.ti a (.list (ws.map PyData.str)) = some b
def ListP (S : NS) (ws : List Str) : Prop := ws.Nodup ∧ ∀ y ∈ ws, y ∈ S.pl
theorem path_end {C : Addr} {H : Hp} {p ds dl : Addr} {S : NS} (N : NetS C H p ds dl S) {a b : Str} {ws : List Str} (h : Path (stepsR false S.ti) a ws b) : WalkP S a b ws := by
  refine ⟨path_names h, ?_⟩
  obtain ⟨l, e1, e2⟩ := path_from N.nd h
  rw [endOf_list, e1]
  exact e2
section
variable {P : Program} {w : World} {K : PySem.W.Frag} {mg : Str → Option Value} {base : Heap} {C : Addr}
end
end Net

namespace Net
open PySem L2
structure PartsAt (H : Hp) (pa ta : Addr) (S : NS) : Prop where
  pl : H pa = some (.lst (S.pl.map V.str))
  ti : ∃ L, Rows H L S.ti ∧ H ta = some (.lst (L.map fun q => V.ref q.2))
theorem PartsAt.same {H H' : Hp} {pa ta : Addr} {S : NS} (s : Same H H') (h : PartsAt H pa ta S) : PartsAt H' pa ta S := ⟨s _ _ h.pl, let ⟨L, a, b⟩ := h.ti; ⟨L, a.same s, s _ _ b⟩⟩
def BC (n : Int) : Prop := -(10 ^ 59) ≤ n ∧ n ≤ 10 ^ 59
def spLCost : Sp := fun vs H Q _ => ∃ (c low : Int), vs = [.int c, .int low] ∧ 0 ≤ low ∧ low ≤ 4 ∧ ∀ n, BC n → Q (.int n) H
def spLNet (K : PySem.W.Frag) (C : Addr) : Sp := fun vs H Q _ => ∃ (a : Addr) (ns : List Int), vs = [.ref a] ∧ SqL K H a (ns.map V.int) ∧
  ∀ (t x pa ta ds dl : Addr) (S : NS) (H' : Hp), Same H H' → H' t = some (.tup [.ref x, .ref pa, .ref ta]) → NetS C H' x ds dl S → PartsAt H' pa ta S → 1 ≤ S.pl.length → (∀ r ∈ S.ti, r.a ≠ r.b ∧ BC r.c) → Q (.ref t) H'
structure TxtM (mg : Str → Option Value) : Prop where
  max : mg "max" = none
  min : mg "min" = none
theorem b_max : bootBuiltins "max" = some (.builtin "max") := by decide +kernel
theorem b_min : bootBuiltins "min" = some (.builtin "min") := by decide +kernel
def tnm (k : Nat) : Str := ("t" : Str) ++ (⟨#[97 + k % 20]⟩ : Str) ++ (if k < 20 then Str.empty else ("u" : Str))
theorem tnm_ok : ((List.range 40).all fun k => nameB (tnm k)) = true := by decide +kernel
theorem tnm_un : ((List.range 40).all fun i => (List.range 40).all fun j => !decide (tnm i = tnm j) || decide (i = j)) = true := by decide +kernel
theorem tnm_name {k : Nat} (h : k < 40) : nameB (tnm k) = true := List.all_eq_true.mp tnm_ok k (List.mem_range.mpr h)
theorem tnm_inj {i j : Nat} (hi : i < 40) (hj : j < 40) (e : tnm i = tnm j) : i = j := by
  have h := List.all_eq_true.mp (List.all_eq_true.mp tnm_un i (List.mem_range.mpr hi)) j (List.mem_range.mpr hj)
  rw [decide_eq_true e] at h
  exact of_decide_eq_true h
theorem t20 {k : Nat} : atI ("abcdefghijklmnopqrst" : Str).cps.toList ((k : Int) % 20) = some (97 + k % 20) := by
  have e : ("abcdefghijklmnopqrst" : Str).cps.toList = (List.range 20).map (97 + ·) := by decide +kernel
  rw [e, show (k : Int) % 20 = ((k % 20 : Nat) : Int) from rfl]
  refine atI_nat ?_
  rw [List.getElem?_map, List.getElem?_range (Nat.mod_lt _ (by decide))]
  rfl
theorem take_new {xs : List Str} {i : Nat} {y : Str} (nd : xs.Nodup) (e : xs[i]? = some y) : y ∉ xs.take i := fun h => by
  obtain ⟨j, hj⟩ := List.getElem?_of_mem h
  rw [List.getElem?_take] at hj
  by_cases hji : j < i
  · rw [if_pos hji] at hj
    have := nodup_ix nd hj e
    omega
  · rw [if_neg hji] at hj
    cases hj
theorem ends_in {pl : List Str} {a b : Str} (ha : a ∈ pl) (hb : b ∈ pl) : withEnds pl a b = pl := by
  rw [withEnds_eq, if_pos ha, if_pos hb]
  exact List.append_nil _
theorem emod_nat (z : Int) {n : Nat} (h : 1 ≤ n) : ∃ j : Nat, j < n ∧ z % (n : Int) = (j : Int) := by
  have h1 := Int.emod_nonneg z (by omega : (n : Int) ≠ 0)
  have h2 := Int.emod_lt_of_pos z (by omega : (0 : Int) < (n : Int))
  exact ⟨(z % (n : Int)).toNat, by omega, by omega⟩
theorem but2_keep {C : Addr} {H H' : Hp} {p ds dl : Addr} {S : NS} (N : NetAt C H p ds dl S) (b2 : But2 H H' ds dl) {b : Addr} {ob : HO} (h : H b = some ob) (hn : ∀ kvs, ob ≠ .dK kvs) : H' b = some ob := by
  refine b2 b ob h (fun z => ?_) (fun z => ?_)
  · have := N.st
    rw [← z, h] at this
    exact hn _ (Option.some.inj this)
  · obtain ⟨L, _, e⟩ := N.ld
    rw [← z, h] at e
    exact hn _ (Option.some.inj e)
theorem low_at (z : Int) : ∃ l : Int, atI [V.int 0, V.int 0, V.int 1, V.int 2, V.int 4] (z % 5) = some (.int l) ∧ 0 ≤ l ∧ l ≤ 4 := by
  obtain ⟨j, hj, e⟩ := emod_nat z (n := 5) (by decide)
  have e' : z % 5 = (j : Int) := e
  rw [e']
  have hj' : j = 0 ∨ j = 1 ∨ j = 2 ∨ j = 3 ∨ j = 4 := by omega
  rcases hj' with rfl | rfl | rfl | rfl | rfl
  · exact ⟨0, atI_nat rfl, by decide⟩
  · exact ⟨0, atI_nat rfl, by decide⟩
  · exact ⟨1, atI_nat rfl, by decide⟩
  · exact ⟨2, atI_nat rfl, by decide⟩
  · exact ⟨4, atI_nat rfl, by decide⟩
theorem pl_at {pl : List Str} {j : Nat} {y : Str} (h : pl[j]? = some y) : atI (pl.map V.str) (j : Int) = some (V.str y) := atI_nat (by rw [List.getElem?_map, h]; rfl)
/-- the ties behind k turns -/
structure TiesK (pl : List Str) (k : Nat) (ti : List Row) : Prop where
  len : ti.length ≤ k
  nd : (ti.map (·.nm)).Nodup
  nm : ∀ r ∈ ti, ∃ j : Nat, j < k ∧ r.nm = tnm j
  ab : ∀ r ∈ ti, r.a ∈ pl ∧ r.b ∈ pl
  ok : ∀ r ∈ ti, r.a ≠ r.b ∧ BC r.c
theorem TiesK.keep {pl : List Str} {k : Nat} {ti : List Row} (h : TiesK pl k ti) : TiesK pl (k + 1) ti := ⟨Nat.le_succ_of_le h.len, h.nd, fun r hr => let ⟨j, a, b⟩ := h.nm r hr; ⟨j, by omega, b⟩, h.ab, h.ok⟩
theorem TiesK.new {pl : List Str} {k : Nat} {ti : List Row} (h : TiesK pl k ti) (hk : k < 40) : tnm k ∉ ti.map (·.nm) := fun z => by
  obtain ⟨r, hr, e⟩ := List.mem_map.mp z
  obtain ⟨j, hj, e2⟩ := h.nm r hr
  have := tnm_inj (by omega) hk (e2.symm.trans e)
  omega
theorem TiesK.add {pl : List Str} {k : Nat} {ti : List Row} {a b : Str} {w c : Int} (h : TiesK pl k ti) (hk : k < 40) (ha : a ∈ pl) (hb : b ∈ pl) (hn : a ≠ b) (hc : BC c) : TiesK pl (k + 1) (ti ++ [⟨tnm k, a, b, w, c⟩]) := by
  refine ⟨by rw [List.length_append]; exact Nat.succ_le_succ h.len, ?_, fun r hr => ?_, fun r hr => ?_, fun r hr => ?_⟩
  · rw [List.map_append]
    exact nodup_snoc h.nd (h.new hk)
  · rcases List.mem_append.mp hr with hr | hr
    · obtain ⟨j, a, b⟩ := h.nm r hr
      exact ⟨j, by omega, b⟩
    · cases List.mem_singleton.mp hr
      exact ⟨k, by omega, rfl⟩
  · rcases List.mem_append.mp hr with hr | hr
    · exact h.ab r hr
    · cases List.mem_singleton.mp hr
      exact ⟨ha, hb⟩
  · rcases List.mem_append.mp hr with hr | hr
    · exact h.ok r hr
    · cases List.mem_singleton.mp hr
      exact ⟨hn, hc⟩
theorem bc_big (c : Int) : BC (c % (2 * 10 ^ (59 : Int).toNat) - 10 ^ (59 : Int).toNat) := by
  have e : ((59 : Int).toNat) = 59 := rfl
  rw [e]
  have h1 := Int.emod_nonneg c (show (2 * 10 ^ 59 : Int) ≠ 0 by decide)
  have h2 := Int.emod_lt_of_pos c (show (0 : Int) < 2 * 10 ^ 59 by decide)
  unfold BC
  omega
theorem bc_small {n l : Int} (h : 0 ≤ l) (h4 : l ≤ 4) : BC (n / 9 % (10 + l) - l) := by
  have h1 := Int.emod_nonneg (n / 9) (show (10 + l : Int) ≠ 0 by omega)
  have h2 := Int.emod_lt_of_pos (n / 9) (show (0 : Int) < 10 + l by omega)
  have h3 : (100 : Int) ≤ 10 ^ 59 := by decide
  unfold BC
  omega
section
variable {P : Program} {w : World} {K : PySem.W.Frag} {mg : Str → Option Value} {base : Heap} {C : Addr}
theorem sc_lcost : FnScope ["_law_cell", "_law_low", "_law_number"] ["_law_cell", "_law_low"] (defScope s_l_cost) := ⟨rfl, rfl, rfl, by decide +kernel, rfl, by decide +kernel, by decide +kernel⟩
theorem ok_lcost {f : Addr} {fd : FuncData} (F : Fun K "_law_cost" "_law_cost" s_l_cost f fd) (c1 : Can P w K mg base 1 "_law_mixed" ["_law_cell", "_law_k"] spMixed) : FnOk P w K mg base CX0 2 f fd ["_law_cell", "_law_low"] spLCost := by
  refine F.ok sc_lcost (fun vs H Q E h => ?_) (fun cdv A outer s H vs Q E hr h => ?_)
  · obtain ⟨c, l, rfl, _⟩ := h
    rfl
  · obtain ⟨c, l, rfl, hl, hl4, q⟩ := h
    refine ⟨_, (pss_cons (ps_set (i := 2) sc_lcost.nd rfl (Or.inl rfl) (pe_callC c1 hr (by rfl) (pa_cons (pv 0) (pa_cons pe_int pa_nil))))
      (pss_cons (ps_if (pt_cmpR op_eq (pe_op op_mod (pv 2) pe_int) pe_int (nomark _)) (pss_one (ps_ret (pe_op op_sub (pe_op op_mod (pv 0) (pe_op op_mul pe_int (pe_op op_pow pe_int pe_int))) (pe_op op_pow pe_int pe_int)))) pss_nil)
      (pss_one (ps_ret (pe_op op_sub (pe_op op_mod (pe_op op_fdiv (pv 2) pe_int) (pe_op op_add pe_int (pv 1))) (pv 1)))))), ?_⟩
    refine ⟨_, rfl, c, 1, rfl, by decide, by decide, fun n hn => ?_⟩
    refine ⟨_, rfl, _, _, rfl, rfl, (by show (0 : Int) < 9; decide), rfl, _, rfl, ite2 (fun _ => ?_) (fun _ => ?_)⟩
    · exact ⟨_, rfl, _, _, rfl, rfl, ⟨by decide, by decide, by decide⟩, _, _, rfl, rfl, .inl ⟨by decide, by decide⟩, _, _, rfl, rfl, (by show (0 : Int) < 2 * 10 ^ (59 : Int).toNat; decide), _, _, rfl, rfl, ⟨by decide, by decide, by decide⟩, _, _, rfl, rfl, q _ (bc_big c)⟩
    · exact ⟨_, rfl, _, _, rfl, rfl, ⟨by decide, by decide⟩, _, rfl, _, _, rfl, rfl, _, _, rfl, rfl, (by show (0 : Int) < 10 + l; omega), _, rfl, _, _, rfl, rfl, q _ (bc_small hl hl4)⟩
abbrev Nlnet : List Str := ["_law_script", "_law_number", "_law_many", "_law_places", "_law_low", "_law_net_here", "_law_place", "_law_ties", "_law_k", "_law_cell", "_law_one", "_law_a", "_law_b", "_law_name"]
theorem sc_lnet : FnScope Nlnet ["_law_script"] (defScope s_l_net) := ⟨rfl, rfl, rfl, by decide +kernel, rfl, by decide +kernel, by decide +kernel⟩
theorem ok_lnet {f : Addr} {fd : FuncData} (F : Fun K "_law_net" "_law_net" s_l_net f fd) (T : Txt K mg C) (TM : TxtM mg) (cm : Can P w K mg base 1 "_law_mixed" ["_law_cell", "_law_k"] spMixed) (cc : Can P w K mg base 1 "_law_cell_at" ["_law_script", "_law_k"] (spCell K))
    (cw : Can P w K mg base 2 "_law_words" ["_law_cell", "_law_many", "_law_k"] spWords) (ck : Can P w K mg base 2 "_law_cost" ["_law_cell", "_law_low"] spLCost) (ci : CanI P w K mg base 1 C ["self"] (spInit C)) (m1 : CanM P w K mg base 4 C "place" ["self", "name"] (spPlace C))
    (m2 : CanM P w K mg base 4 C "tie" ["self", "name", "a", "b", "width", "cost"] (spTie C)) : FnOk P w K mg base CX0 5 f fd ["_law_script"] (spLNet K C) := by
  refine F.ok sc_lnet (fun vs H Q E h => ?_) (fun cdv A outer s H vs Q E hr h => ?_)
  · obtain ⟨a, ns, rfl, _⟩ := h
    rfl
  · obtain ⟨a, ns, rfl, hS, q⟩ := h
    have r1 : Room 1 _ := hr.mono (by decide)
    have r2 : Room 2 _ := hr.mono (by decide)
    refine ⟨_, (pss_cons (ps_set (i := 1) sc_lnet.nd rfl (Or.inl rfl) (pe_callC cm r1 (by rfl) (pa_cons (pe_callC cc r1 (by rfl) (pa_cons (pv 0) (pa_cons pe_int pa_nil))) (pa_cons pe_int pa_nil))))
      (pss_cons (ps_set (i := 2) sc_lnet.nd rfl (Or.inl rfl) (pe_lst (pa_cons (pe_op op_add pe_int (pe_op op_mod (pv 1) pe_int)) (pa_cons (pe_op op_mod (pe_op op_fdiv (pv 1) pe_int) pe_int) pa_nil))))
      (pss_cutE (ps_if (pt_cmpR op_eq (pe_op op_mod (pe_op op_fdiv (pv 1) pe_int) pe_int) pe_int (nomark _)) (pss_one (ps_set (i := 2) sc_lnet.nd rfl (Or.inl rfl) (pe_lst (pa_cons pe_int (pa_cons pe_int pa_nil))))) pss_nil)
      (pss_cons (ps_set (i := 3) sc_lnet.nd rfl (Or.inl rfl) (pe_callC cw r2 (by rfl) (pa_cons (pe_callC cc r1 (by rfl) (pa_cons (pv 0) (pa_cons pe_int pa_nil))) (pa_cons (pe_ix ix_list (pv 2) pe_int (fun _ _ => by rfl)) (pa_cons pe_int pa_nil)))))
      (pss_cons (ps_set (i := 4) sc_lnet.nd rfl (Or.inl rfl) (pe_ix ix_list (pe_lst (pa_cons pe_int (pa_cons pe_int (pa_cons pe_int (pa_cons pe_int (pa_cons pe_int pa_nil)))))) (pe_op op_mod (pe_op op_fdiv (pv 1) pe_int) pe_int) (fun _ _ => by rfl)))
      (pss_cons (ps_set (i := 5) sc_lnet.nd rfl (Or.inl rfl) (pe_makeC0 ci r2 (by rfl) T.mgC))
      (pss_cons (ps_for PassesOwn.never rfl (pi_list (pv 3)) (pg_name (i := 6) sc_lnet.nd rfl (Or.inl rfl)) (pss_one (ps_expr (pe_methC (pv 5) T.cl m1 hr (pa_cons (pv 6) pa_nil)))))
      (pss_cons (ps_set (i := 7) sc_lnet.nd rfl (Or.inl rfl) (pe_lst pa_nil))
      (pss_cons (ps_for PassesOwn.never rfl (pi_range1 rfl T.range (pa_cons (pe_ix ix_list (pv 2) pe_int (fun _ _ => by rfl)) pa_nil)) (pg_name (i := 8) sc_lnet.nd rfl (Or.inl rfl))
        (pss_cons (ps_set (i := 9) sc_lnet.nd rfl (Or.inl rfl) (pe_callC cc r1 (by rfl) (pa_cons (pv 0) (pa_cons (pe_op op_add pe_int (pv 8)) pa_nil))))
      (pss_cons (ps_set (i := 10) sc_lnet.nd rfl (Or.inl rfl) (pe_callC cm r1 (by rfl) (pa_cons (pv 9) (pa_cons (pe_op op_mul (pe_op op_fdiv (pe_ix ix_list (pv 2) pe_int (fun _ _ => by rfl)) pe_int) (pe_op op_add pe_int (pv 8))) pa_nil))))
      (pss_cons (ps_set (i := 11) sc_lnet.nd rfl (Or.inl rfl) (pe_op op_mod (pv 10) (pe_callB call_len_seq (by rfl) T.len b_len (pa_cons (pv 3) pa_nil))))
      (pss_cons (ps_set (i := 12) sc_lnet.nd rfl (Or.inl rfl) (pe_op op_mod (pe_op op_add (pe_op op_add (pv 11) pe_int) (pe_op op_mod (pe_op op_fdiv (pv 10) pe_int) (pe_callB (call_max2 rfl) (by rfl) TM.max b_max (pa_cons (pe_op op_sub (pe_callB call_len_seq (by rfl) T.len b_len (pa_cons (pv 3) pa_nil)) pe_int) (pa_cons pe_int pa_nil)))))
            (pe_callB call_len_seq (by rfl) T.len b_len (pa_cons (pv 3) pa_nil))))
      (pss_cutE (ps_if (PW.pt (pw_and (pt_cmpR op_eq (pe_op op_mod (pe_op op_fdiv (pv 1) pe_int) pe_int) pe_int (nomark _)) (pw_and1 (pt_cmpR op_gt (pv 11) (pv 12) (nomark _))))) (pss_one (ps_par (i := 11) (j := 12) rfl sc_lnet.nd rfl rfl (by decide) rfl rfl (pa_cons (pv 12) (pa_cons (pv 11) pa_nil)) rfl)) pss_nil)
      (pss_one (ps_if (pt_cmpR op_ne (pv 11) (pv 12) (nomark _))
            (pss_cons (ps_set (i := 13) sc_lnet.nd rfl (Or.inl rfl) (pe_op op_add_str (pe_op op_add_str pe_str (pe_ix ix_str pe_str (pe_op op_mod (pv 8) pe_int) (fun _ _ => by rfl))) (pe_op op_rep01 pe_str (pe_op op_fdiv (pv 8) pe_int))))
      (pss_cons (ps_expr (pe_bm PySem.F.plainAttrs_list PySem.F.slot_list_append PySem.F.type_list_append mt_append (pv 7) (pa_cons (pe_tup (pa_cons (pv 13) (pa_cons (pe_ix ix_list (pv 3) (pv 11) (fun _ _ => by rfl)) (pa_cons (pe_ix ix_list (pv 3) (pv 12) (fun _ _ => by rfl)) (pa_cons (pe_op op_add pe_int (pe_op op_mod (pe_op op_fdiv (pv 10) pe_int) pe_int)) (pa_cons (pe_callC ck r2 (by rfl) (pa_cons (pv 9) (pa_cons (pv 4) pa_nil))) pa_nil)))))) pa_nil)))
      (pss_one (ps_expr (pe_methC (pv 5) T.cl m2 hr (pa_cons (pv 13) (pa_cons (pe_ix ix_list (pv 3) (pv 11) (fun _ _ => by rfl)) (pa_cons (pe_ix ix_list (pv 3) (pv 12) (fun _ _ => by rfl)) (pa_cons (pe_ix ix_tup (pe_ix ix_list (pv 7) (pe_un un_neg pe_int) (fun _ _ => by rfl)) pe_int (fun _ _ => by rfl)) (pa_cons (pe_ix ix_tup (pe_ix ix_list (pv 7) (pe_un un_neg pe_int) (fun _ _ => by rfl)) pe_int (fun _ _ => by rfl)) pa_nil)))))))))) pss_nil))))))))
      (pss_one (ps_ret (pe_tup (pa_cons (pv 5) (pa_cons (pv 3) (pa_cons (pv 7) pa_nil))))))))))))))), ?_⟩
    refine ⟨_, rfl, a, ns, 0, rfl, hS, by decide, fun c0 => ⟨c0, 2, rfl, by decide, by decide, fun num hnum => ?_⟩⟩
    refine ⟨_, rfl, _, _, rfl, rfl, (by show (0 : Int) < 7; decide), _, _, rfl, rfl, _, rfl, _, _, rfl, rfl, ⟨by decide, by decide⟩, _, _, rfl, rfl, (by show (0 : Int) < 19; decide), (by show 2 ≤ sizeLine; decide), fun ml hml => ?_⟩
    obtain ⟨n0, hn0, en0⟩ := emod_nat num (n := 7) (by decide)
    obtain ⟨m0, hm0, em0⟩ := emod_nat (num / 35) (n := 19) (by decide)
    have en0' : num % 7 = (n0 : Int) := en0
    have em0' : num / 35 % 19 = (m0 : Int) := em0
    dsimp only
    rw [en0', em0']
    refine ⟨fun σ2 H2 => ∃ (ml : Addr) (n m : Nat), 1 ≤ n ∧ n ≤ 20 ∧ m ≤ 40 ∧ σ2 = [some (.ref a), some (.int num), some (.ref ml), none, none, none, none, none, none, none, none, none, none, none] ∧ Same H H2 ∧ H2 ml = some (.lst [.int n, .int m]), ?_, ?_⟩
    · refine ⟨_, rfl, _, _, rfl, rfl, ⟨by decide, by decide⟩, _, _, rfl, rfl, (by show (0 : Int) < 16; decide), rfl, _, rfl, ite2 (fun _ => ?_) (fun _ => ?_)⟩
      · exact ⟨(by show 2 ≤ sizeLine; decide), fun ml2 hml2 => ⟨ml2, 20, 40, by decide, by decide, by decide, rfl, (Same.new hml).upd hml2, upd_same⟩⟩
      · exact ⟨ml, 1 + n0, m0, by omega, by omega, by omega, rfl, Same.new hml, upd_same⟩
    rintro σ2 H1 ⟨ml, n, m, hn1, hn20, hm40, rfl, s1, eml⟩
    refine ⟨_, rfl, a, ns, 0, rfl, s1.seq hS, by decide, fun c1 => ⟨_, rfl, ml, _, _, _, rfl, rfl, SqL.of eml, atI_nat (j := 0) rfl, c1, n, 0, rfl, by omega, by omega, by decide, by decide, fun pa ws hpa hlen hok hnd => ?_⟩⟩
    have hwn : ws.length = n := by rw [hlen]; exact Int.toNat_natCast n
    have s2 := s1.upd (o := .lst (ws.map V.str)) hpa
    have epa : (upd H1 pa (.lst (ws.map V.str))) pa = some (.lst (ws.map V.str)) := upd_same
    have eml2 : (upd H1 pa (.lst (ws.map V.str))) ml = some (.lst [.int n, .int m]) := (Same.new hpa) _ _ eml
    generalize upd H1 pa (.lst (ws.map V.str)) = H2 at s2 epa eml2
    refine ⟨(by show 5 ≤ sizeLine; decide), fun lw hlw => ?_⟩
    obtain ⟨low, elow, hlow⟩ := low_at (num / 7)
    refine ⟨_, rfl, _, _, rfl, rfl, ⟨by decide, by decide⟩, _, _, rfl, rfl, (by show (0 : Int) < 5; decide), lw, _, _, _, rfl, rfl, SqL.of upd_same, elow, ?_⟩
    have s3 := s2.upd (o := .lst [.int 0, .int 0, .int 1, .int 2, .int 4]) hlw
    have epa3 := (Same.new (o := .lst [.int 0, .int 0, .int 1, .int 2, .int 4]) hlw) _ _ epa
    have eml3 := (Same.new (o := .lst [.int 0, .int 0, .int 1, .int 2, .int 4]) hlw) _ _ eml2
    generalize upd H2 lw (.lst [.int 0, .int 0, .int 1, .int 2, .int 4]) = Hb at s3 epa3 eml3
    intro x dx nx ndx nex
    refine ⟨x, dx, rfl, upd_same, fun ds dl H4 fds fdl N4 kp4 => ⟨rfl, ?_⟩⟩
    have s0 : Same Hb (upd (upd Hb dx (.own x)) x (.ins C dx [])) := fun b ob e => by
      rw [upd_ne (ne_of_none e nx), upd_ne (ne_of_none e ndx)]
      exact e
    have s4 : Same Hb H4 := fun b ob e => kp4 b ob (s0 b ob e) (ne_of_none e nx)
    have hds : Hb ds = none := s0.free fds
    have hdl : Hb dl = none := s0.free fdl
    refine ⟨_, rfl, pa, rfl, ⟨_, SqL.of (s4 _ _ epa3)⟩, for_list (K := K) (a := pa) (xs := ws.map V.str) (fun i σ' H' => (∃ o, σ' = [some (.ref a), some (.int num), some (.ref ml), some (.ref pa), some (.int low), some (.ref x), o, none, none, none, none, none, none, none]) ∧ Same Hb H' ∧ NetAt C H' x ds dl ⟨ws.take i, []⟩)
      ⟨⟨none, rfl⟩, s4, N4⟩ (fun i σ' H' _ h => SqL.of (h.2.1 _ _ epa3)) (fun i v σ' H' hv h => ?_) (fun σ' H' h => ?_)⟩
    · obtain ⟨⟨o, rfl⟩, t3, N3⟩ := h
      rw [List.getElem?_map] at hv
      cases ey : ws[i]? with
      | none => rw [ey] at hv; cases hv
      | some y =>
        rw [ey] at hv
        cases hv
        have hi : i < ws.length := (List.getElem?_eq_some_iff.mp ey).1
        obtain ⟨dx3, h13⟩ := N3.ob
        refine ⟨_, rfl, x, dx3, _, rfl, h13, flds_no ds dl (by decide +kernel) (by decide +kernel), _, rfl, x, ds, dl, _, y, rfl, N3, (hok y (List.mem_of_getElem? ey)).1, take_new hnd ey, ?_, fun H5 N5 b5 => ⟨⟨_, rfl⟩, fun b ob e => b5 b ob (t3 b ob e) (ne_of_none e hds) (ne_of_none e hdl), ?_⟩⟩
        · show (ws.take i).length < 20
          rw [List.length_take]
          omega
        · have e : ws.take (i + 1) = ws.take i ++ [y] := by rw [List.take_add_one, ey]; rfl
          rw [e]
          exact N5
    obtain ⟨⟨o, rfl⟩, s5, N5⟩ := h
    rw [List.length_map, List.take_length] at N5
    refine ⟨by decide, fun ta hta => ?_⟩
    have s6 := s5.upd (o := .lst []) hta
    have N6 := N5.same (Same.new (o := .lst []) hta)
    have eta : (upd H' ta (.lst [])) ta = some (.lst []) := upd_same
    have nds : ta ≠ ds := (ne_of_none N5.st hta).symm
    have ndl : ta ≠ dl := by
      obtain ⟨_, _, e⟩ := N5.ld
      exact (ne_of_none e hta).symm
    have fta : Hb ta = none := s5.free hta
    generalize upd H' ta (.lst []) = H6 at s6 N6 eta
    have hlw' : (ws.map V.str).length = n := by rw [List.length_map]; exact hwn
    have wget : ∀ j : Nat, j < n → ∃ y ∈ ws, atI (ws.map V.str) (j : Int) = some (V.str y) ∧ ws[j]? = some y := fun j hj => by
      have hj' : j < ws.length := by omega
      have e := List.getElem?_eq_getElem hj'
      exact ⟨_, List.mem_of_getElem? e, pl_at e, e⟩
    refine ⟨_, rfl, ml, _, _, _, rfl, rfl, SqL.of (s6 _ _ eml3), atI_nat (j := 1) rfl, _, rfl, by omega, by omega, ?_⟩
    rw [Int.toNat_natCast]
    refine for_range (n := m) (fun k σ' H' => ∃ (ti : List Row) (L : List (Row × Addr)) (o6 o8 o9 o10 o11 o12 o13 : Option V), σ' = [some (.ref a), some (.int num), some (.ref ml), some (.ref pa), some (.int low), some (.ref x), o6, some (.ref ta), o8, o9, o10, o11, o12, o13] ∧ Same Hb H' ∧
        NetAt C H' x ds dl ⟨ws, ti⟩ ∧ H' ta = some (.lst (L.map fun q => V.ref q.2)) ∧ Rows H' L ti ∧ TiesK ws k ti)
      ⟨[], [], _, _, _, _, _, _, _, rfl, s6, N6, eta, ⟨rfl, fun _ h => (nomatch h)⟩, ⟨Nat.le_refl _, List.nodup_nil, fun _ h => (nomatch h), fun _ h => (nomatch h), fun _ h => (nomatch h)⟩⟩ (fun k σ' H' hk h => ?_) (fun σ' H' h => ?_)
    · obtain ⟨ti, L, o6, o8, o9, o10, o11, o12, o13, rfl, t, N, eta, R, TK⟩ := h
      have ept := t _ _ epa3
      have emt := t _ _ eml3
      have st := (s3.trans t).seq hS
      refine ⟨_, rfl, _, rfl, _, _, rfl, rfl, a, ns, _, rfl, st, by omega, fun cell => ?_⟩
      have h20 : ((n : Int) / 20 = 0 ∨ (n : Int) / 20 = 1) := by omega
      refine ⟨_, rfl, _, rfl, ml, _, _, _, rfl, rfl, SqL.of emt, atI_nat (j := 0) rfl, _, _, rfl, rfl, ⟨by decide, by decide⟩, _, rfl, _, _, rfl, rfl, _, _, rfl, rfl, .inl ⟨?_, ?_⟩, _, _, rfl, ?_, ?_, fun one hone => ?_⟩
      · rcases h20 with e | e <;> (show _ < (n : Int) / 20; rw [e]; decide)
      · rcases h20 with e | e <;> (show (n : Int) / 20 < _; rw [e]; decide)
      · show 0 ≤ (n : Int) / 20 * (5 + ((0 : Int) + k))
        rcases h20 with e | e <;> rw [e] <;> omega
      · show (n : Int) / 20 * (5 + ((0 : Int) + k)) ≤ 100
        rcases h20 with e | e <;> rw [e] <;> omega
      refine ⟨_, rfl, _, rfl, pa, _, rfl, .inl (SqL.of ept), _, _, rfl, rfl, (by rw [hlw']; omega), ?_⟩
      obtain ⟨aa, haa, ea⟩ := emod_nat one hn1
      dsimp only
      rw [hlw', ea]
      have hmax : (0 : Int) < (if (1 : Int) > ((n : Int) - 1) then 1 else ((n : Int) - 1)) := by split <;> omega
      refine ⟨_, rfl, _, _, rfl, rfl, _, rfl, _, _, rfl, rfl, ⟨by decide, by decide⟩, _, rfl, pa, _, rfl, .inl (SqL.of ept), _, _, rfl, rfl, _, _, rfl, _, _, rfl, rfl, (by rw [hlw']; exact hmax), _, _, rfl, rfl, _, rfl, pa, _, rfl, .inl (SqL.of ept), _, _, rfl, rfl, (by rw [hlw']; omega), ?_⟩
      rw [hlw']
      obtain ⟨b0, hb0, eb0⟩ := emod_nat ((aa : Int) + 1 + one / 20 % (if (1 : Int) > ((n : Int) - 1) then 1 else ((n : Int) - 1))) hn1
      dsimp only
      rw [eb0]
      refine ⟨fun σ2 H2 => H2 = H' ∧ ∃ a' b' : Nat, a' < n ∧ b' < n ∧ σ2 = [some (.ref a), some (.int num), some (.ref ml), some (.ref pa), some (.int low), some (.ref x), o6, some (.ref ta), some (.int ((0 : Int) + k)), some (.int cell), some (.int one), some (.int a'), some (.int b'), o13], ?_, ?_⟩
      · refine ⟨_, rfl, _, _, rfl, rfl, ⟨by decide, by decide⟩, _, _, rfl, rfl, (by show (0 : Int) < 3; decide), rfl, _, rfl, ite2 (fun _ => ?_) (fun _ => iteF ⟨rfl, aa, b0, haa, hb0, rfl⟩)⟩
        refine ⟨_, rfl, _, rfl, _, _, rfl, rfl, _, rfl, ite2 (fun _ => ?_) (fun _ => ⟨rfl, aa, b0, haa, hb0, rfl⟩)⟩
        exact ⟨_, rfl, _, rfl, _, _, rfl, rfl, b0, aa, hb0, haa, rfl⟩
      · rintro σ2 H2 ⟨rfl, a', b', ha', hb', rfl⟩
        refine ⟨_, rfl, _, rfl, rfl, _, rfl, ite2 (fun hne => ?_) (fun _ => ⟨ti, L, _, _, _, _, _, _, _, rfl, t, N, eta, R, TK.keep⟩)⟩
        have hab : a' ≠ b' := fun z => by
          rw [z] at hne
          simp at hne
        obtain ⟨ya, hya, eya, gya⟩ := wget a' ha'
        obtain ⟨yb, hyb, eyb, gyb⟩ := wget b' hb'
        have hyab : ¬ ya = yb := fun z => hab (nodup_ix hnd (by rw [gya, z]) gyb)
        have hk40 : k < 40 := by omega
        have z20 : ((0 : Int) + k) / 20 = 0 ∨ ((0 : Int) + k) / 20 = 1 := by omega
        have sz : (100 : Nat) ≤ sizeLine := by decide
        refine ⟨_, rfl, _, _, rfl, rfl, (by show (0 : Int) < 20; decide), _, _, _, rfl, rfl, ?_, by rw [Int.zero_add]; exact t20, _, _, rfl, rfl, ?_, _, rfl, _, _, rfl, rfl, ⟨by decide, by decide⟩, _, _, rfl, rfl, z20, _, _, rfl, rfl, ?_, ?_⟩
        · exact Nat.le_trans (show ("abcdefghijklmnopqrst" : Str).length ≤ 100 by decide +kernel) sz
        · exact Nat.le_trans (show ("t" : Str).length + 1 ≤ 100 by decide +kernel) sz
        · have e1 : (("t" : Str) ++ (⟨#[97 + k % 20]⟩ : Str)).length = 2 := rfl
          have e2 : (if ((0 : Int) + k) / 20 = 0 then Str.empty else ("u" : Str)).length ≤ 1 := by split <;> decide +kernel
          rw [e1]
          omega
        have enm : ("t" : Str) ++ (⟨#[97 + k % 20]⟩ : Str) ++ (if ((0 : Int) + k) / 20 = 0 then Str.empty else ("u" : Str)) = tnm k := by
          unfold tnm
          by_cases h : k < 20
          · rw [if_pos (by omega), if_pos h]
          · rw [if_neg (by omega), if_neg h]
        dsimp only
        rw [enm]
        refine ⟨_, rfl, .inl ⟨rfl, _, SqL.of eta⟩, _, rfl, _, rfl, _, rfl, pa, _, _, _, rfl, rfl, SqL.of ept, eya, _, rfl, _, rfl, pa, _, _, _, rfl, rfl, SqL.of ept, eyb, _, rfl, _, _, rfl, rfl, ⟨by decide, by decide⟩, _, _, rfl, rfl, (by show (0 : Int) < 3; decide), _, _, rfl, rfl,
          _, rfl, _, rfl, _, _, rfl, hlow.1, hlow.2, fun cost hcost => ⟨(by show 5 ≤ sizeLine; decide), fun t2 ht2 => ?_⟩⟩
        have n6 := Same.new (o := .tup [.str (tnm k), .str ya, .str yb, .int (1 + one / 800 % 3), .int cost]) ht2
        have nt2 : t2 ≠ ta := (ne_of_none eta ht2).symm
        have e62 : (upd H2 t2 (.tup [.str (tnm k), .str ya, .str yb, .int (1 + one / 800 % 3), .int cost])) t2 = some (.tup [.str (tnm k), .str ya, .str yb, .int (1 + one / 800 % 3), .int cost]) := upd_same
        have t6 := t.trans n6
        have N6 := N.same n6
        have R6 := R.same n6
        have eta6 := n6 _ _ eta
        generalize upd H2 t2 (.tup [.str (tnm k), .str ya, .str yb, .int (1 + one / 800 % 3), .int cost]) = H6 at n6 e62 t6 N6 R6 eta6
        refine ⟨ta, _, _, rfl, rfl, eta6, ?_, ?_⟩
        · refine small1000 ?_
          have := congrArg List.length R.1
          rw [List.length_map] at this
          rw [List.length_map, this]
          have := TK.len
          omega
        -- the tie
        have t7 : Same Hb (upd H6 ta (.lst (L.map (fun q => V.ref q.2) ++ [.ref t2]))) := fun b ob z => by
          rw [upd_ne (ne_of_none z fta)]
          exact t6 _ _ z
        have e7 : (upd H6 ta (.lst (L.map (fun q => V.ref q.2) ++ [.ref t2]))) ta = some (.lst (L.map (fun q => V.ref q.2) ++ [.ref t2])) := upd_same
        have e72 : (upd H6 ta (.lst (L.map (fun q => V.ref q.2) ++ [.ref t2]))) t2 = some (.tup [.str (tnm k), .str ya, .str yb, .int (1 + one / 800 % 3), .int cost]) := by rw [upd_ne nt2]; exact e62
        have R7 : Rows (upd H6 ta (.lst (L.map (fun q => V.ref q.2) ++ [.ref t2]))) L ti := ⟨R6.1, fun z hz => by
          rw [upd_ne (ne_of (R6.2 z hz) eta6 (fun q => by cases q))]
          exact R6.2 z hz⟩
        have N7 : NetAt C (upd H6 ta (.lst (L.map (fun q => V.ref q.2) ++ [.ref t2]))) x ds dl ⟨ws, ti⟩ := by
          obtain ⟨⟨dx7, g1⟩, g2, ⟨L7, g3, g4⟩, g5⟩ := N6
          refine ⟨⟨dx7, ?_⟩, ?_, ⟨L7, ⟨g3.1, fun z hz => ?_⟩, ?_⟩, g5⟩
          · rw [upd_ne (ne_of g1 eta6 (fun q => by cases q))]; exact g1
          · rw [upd_ne nds.symm]; exact g2
          · rw [upd_ne (ne_of (g3.2 z hz) eta6 (fun q => by cases q))]; exact g3.2 z hz
          · rw [upd_ne ndl.symm]; exact g4
        generalize upd H6 ta (.lst (L.map (fun q => V.ref q.2) ++ [.ref t2])) = H7 at t7 e7 e72 R7 N7
        have ep7 := t7 _ _ epa3
        have lastt : atI (L.map (fun q => V.ref q.2) ++ [.ref t2]) (-1) = some (.ref t2) := atI_last _ _
        obtain ⟨dx7, h17⟩ := N7.ob
        have h3 := Int.emod_nonneg (one / 800) (by decide : (3 : Int) ≠ 0)
        have we : withEnds ws ya yb = ws := ends_in hya hyb
        refine ⟨_, rfl, x, dx7, _, rfl, h17, flds_no ds dl (by decide +kernel) (by decide +kernel), _, rfl, _, rfl, _, rfl, pa, _, _, _, rfl, rfl, SqL.of ep7, eya, _, rfl, _, rfl, pa, _, _, _, rfl, rfl, SqL.of ep7, eyb,
          _, rfl, _, rfl, ta, _, _, _, rfl, rfl, SqL.of e7, lastt, t2, _, _, .int (1 + one / 800 % 3), rfl, rfl, SqT.of e72, rfl, _, rfl, _, rfl, ta, _, _, _, rfl, rfl, SqL.of e7, lastt, t2, _, _, .int cost, rfl, rfl, SqT.of e72, rfl,
          x, ds, dl, ⟨ws, ti⟩, ⟨tnm k, ya, yb, 1 + one / 800 % 3, cost⟩, rfl, N7, tnm_name hk40, (hok ya hya).1, (hok yb hyb).1, TK.new hk40, hyab, by show (1 : Int) ≤ 1 + one / 800 % 3; omega, ?_, ?_, fun H8 N8 b8 => ?_⟩
        · show ti.length < 40
          have := TK.len
          omega
        · show (withEnds ws ya yb).length ≤ 20
          rw [we]
          omega
        · have N8' : NetAt C H8 x ds dl ⟨withEnds ws ya yb, ti ++ [⟨tnm k, ya, yb, 1 + one / 800 % 3, cost⟩]⟩ := N8
          rw [we] at N8'
          refine ⟨ti ++ [⟨tnm k, ya, yb, 1 + one / 800 % 3, cost⟩], L ++ [(⟨tnm k, ya, yb, 1 + one / 800 % 3, cost⟩, t2)], _, _, _, _, _, _, _, rfl, fun b ob e => b8 b ob (t7 b ob e) (ne_of_none e hds) (ne_of_none e hdl), N8', ?_, ⟨?_, fun z hz => ?_⟩, TK.add hk40 hya hyb hyab hcost⟩
          · rw [List.map_append]
            exact b8 _ _ e7 nds ndl
          · rw [List.map_append, R7.1]
            rfl
          · rcases List.mem_append.mp hz with hz | hz
            · exact but2_keep N7 b8 (R7.2 z hz) (fun _ q => by cases q)
            · cases List.mem_singleton.mp hz
              exact but2_keep N7 b8 e72 (fun _ q => by cases q)
    · obtain ⟨ti, L, o6, o8, o9, o10, o11, o12, o13, rfl, t, N, eta, R, TK⟩ := h
      refine ⟨_, rfl, _, rfl, _, rfl, (by show 3 ≤ sizeLine; decide), fun tt htt => ?_⟩
      have n9 := Same.new (o := .tup [.ref x, .ref pa, .ref ta]) htt
      refine q tt x pa ta ds dl ⟨ws, ti⟩ _ ((s3.trans t).trans n9) upd_same ⟨N.same n9, TK.nd, Nat.le_trans TK.len hm40, by show ws.length ≤ 20; omega, hnd, fun y hy => (hok y hy).1, fun r hr => ?_⟩ ⟨n9 _ _ (t _ _ epa3), L, R.same n9, n9 _ _ eta⟩ (by show 1 ≤ ws.length; omega) TK.ok
      obtain ⟨j, hj, e⟩ := TK.nm r hr
      exact ⟨by rw [e]; exact tnm_name (by omega), TK.ab r hr⟩
end
end Net

namespace Net
open PySem L2
def filtS (ti : List Row) (here nm : Str) : List Row := ti.filter fun r => decide (r.nm = nm) && decide (r.a = here)
theorem filtS_head {here nm : Str} : ∀ {ti : List Row}, (ti.map (·.nm)).Nodup → stepD ti here (.str nm) = (filtS ti here nm).head?.map (·.b)
  | [], _ => rfl
  | q :: t, nd => by
    have nd' : q.nm ∉ t.map (·.nm) ∧ (t.map (·.nm)).Nodup := List.nodup_cons.mp nd
    by_cases h : q.nm = nm
    · have e : rowOf (q :: t) nm = some q := by unfold rowOf; rw [List.find?_cons_of_pos (by simpa using h)]
      show (rowOf (q :: t) nm).bind _ = _
      rw [e]
      show (if q.a = here then some q.b else none) = _
      by_cases h2 : q.a = here
      · rw [if_pos h2]
        unfold filtS
        rw [List.filter_cons_of_pos (by simp [h, h2])]
        rfl
      · rw [if_neg h2]
        have : filtS (q :: t) here nm = [] := by
          unfold filtS
          rw [List.filter_eq_nil_iff]
          intro r hr z
          obtain ⟨z1, z2⟩ := Bool.and_eq_true_iff.mp z
          rcases List.mem_cons.mp hr with rfl | hr
          · exact h2 (of_decide_eq_true z2)
          · exact nd'.1 (List.mem_map.mpr ⟨r, hr, (of_decide_eq_true z1).trans h.symm⟩)
        rw [this]
        rfl
    · have e : rowOf (q :: t) nm = rowOf t nm := by unfold rowOf; rw [List.find?_cons_of_neg (by simpa using h)]
      have e2 : filtS (q :: t) here nm = filtS t here nm := by
        unfold filtS
        rw [List.filter_cons_of_neg (by simp [h])]
      show (rowOf (q :: t) nm).bind _ = _
      rw [e, e2]
      exact filtS_head nd'.2
theorem rows_filter {H : Hp} {L : List (Row × Addr)} {rs : List Row} (R : Rows H L rs) (f : Row → Bool) : Rows H (L.filter fun q => f q.1) (rs.filter f) := by
  obtain ⟨rfl, h⟩ := R
  refine ⟨?_, fun q hq => h q (List.mem_filter.mp hq).1⟩
  rw [List.filter_map]
  rfl
theorem k_tt (K : PySem.W.Frag) : PySem.W.kitOne K (.type "tuple") (.type "tuple") = some true := by first | rfl | kernel_rfl
theorem k_bb (K : PySem.W.Frag) : PySem.W.kitOne K (.type "bool") (.type "bool") = some true := by first | rfl | kernel_rfl
def spLEnd : Sp := fun vs H Q _ => ∃ (ta l pa : Addr) (S : NS) (a b : Str) (ws : List Str), vs = [.ref ta, .str a, .ref l] ∧ PartsAt H pa ta S ∧ S.nms.Nodup ∧ S.ti.length ≤ 40 ∧ (∀ r ∈ S.ti, nameB r.nm = true ∧ nameB r.a = true ∧ nameB r.b = true) ∧ H l = some (.lst (ws.map V.str)) ∧
  endOf S.ti a (.list (ws.map PyData.str)) = some b ∧ ∀ H', Same H H' → Q (.str b) H'
def spLListed : Sp := fun vs H Q _ => ∃ (pa l ta : Addr) (S : NS) (ws : List Str), vs = [.ref pa, .ref l] ∧ PartsAt H pa ta S ∧ H l = some (.lst (ws.map V.str)) ∧ ListP S ws ∧ ws.length ≤ 100 ∧ ∀ H', Same H H' → Q (.bl true) H'
def spVerdict : Sp := fun vs H Q _ => ∃ (t l : Addr) (b : Bool), vs = [.ref t] ∧ H t = some (.tup [.bl b, .ref l]) ∧ Q (.bl true) H
section
variable {P : Program} {w : World} {K : PySem.W.Frag} {mg : Str → Option Value} {base : Heap} {C : Addr}
abbrev Nlend : List Str := ["_law_ties", "_law_a", "_law_paper", "_law_name", "_law_rows"]
theorem sc_lend : FnScope Nlend ["_law_ties", "_law_a", "_law_paper"] (defScope s_l_end) := ⟨rfl, rfl, rfl, by decide +kernel, rfl, by decide +kernel, by decide +kernel⟩
theorem ok_lend {f : Addr} {fd : FuncData} (F : Fun K "_law_end" "_law_end" s_l_end f fd) (T : Txt K mg C) : FnOk P w K mg base CX0 1 f fd ["_law_ties", "_law_a", "_law_paper"] spLEnd := by
  refine F.ok sc_lend (fun vs H Q E h => ?_) (fun cdv A outer s H vs Q E hr h => ?_)
  · obtain ⟨ta, l, pa, S, a, b, ws, rfl, _⟩ := h
    rfl
  · obtain ⟨ta, l, pa, S, a, b, ws, rfl, PA, nd, few, rok, hl, he, q⟩ := h
    have hu := hr.units
    have nd3 : List.Nodup (["_law_row", "_law_name", "_law_a"] : List Str) := by decide +kernel
    refine ⟨_, (pss_cons (ps_if (pt_not (pt_val (pe_callB call_isinst (by rfl) T.isi b_isi (pa_cons (pv 2) (pa_cons (pe_ty T.list (by rfl) b_list) pa_nil))))) (pss_one (ps_ret pe_non)) pss_nil)
      (pss_cons (ps_for PassesOwn.never rfl (pi_list (pv 2)) (pg_name (i := 3) sc_lend.nd rfl (Or.inr rfl))
        (pss_cons (ps_comp (j := 4) (N := ["_law_row", "_law_name", "_law_a"]) (xs := 1) (js := [3, 1]) rfl sc_lend.nd rfl rfl (compScope_of rfl) (pi_list (pv 0)) (fun _ _ _ _ => pg_name (i := 0) nd3 rfl (Or.inl rfl))
            (fun _ _ _ _ => pts_one (PW.pt (pw_and (pt_cmpR op_eq (pe_ix (ix_tupK K (by rfl)) (pv 0) pe_int (fun _ _ => by rfl)) (pv 1) (nomark _)) (pw_and1 (pt_cmpR op_eq (pe_ix (ix_tupK K (by rfl)) (pv 0) pe_int (fun _ _ => by rfl)) (pv 2) (nomark _)))))) (fun _ _ _ _ => pv 0) rfl)
      (pss_cons (ps_if (PW.pt (pw_or (pt_not (pt_val (pe_callB call_isinst (by rfl) T.isi b_isi (pa_cons (pv 3) (pa_cons (pe_ty T.str (by rfl) b_str) pa_nil))))) (pw_or1 (pt_cmpR (op_eqD hu) (pv 4) (pe_lst pa_nil) (nomark _))))) (pss_one (ps_ret pe_non)) pss_nil)
      (pss_one (ps_set (i := 1) sc_lend.nd rfl (Or.inr rfl) (pe_ix ix_tup (pe_ix ix_list (pv 4) pe_int (fun _ _ => by rfl)) pe_int (fun _ _ => by rfl)))))))
      (pss_one (ps_ret (pv 1))))), ?_⟩
    obtain ⟨L, RL, eta⟩ := PA.ti
    have hL : L.length = S.ti.length := by rw [← RL.1, List.length_map]
    rw [endOf_list] at he
    refine ⟨_, rfl, _, "list", _, true, rfl, .lst hl, rfl, true, rfl, iteF ?_⟩
    refine ⟨_, rfl, l, rfl, ⟨_, SqL.of hl⟩, for_list (K := K) (a := l) (xs := ws.map V.str) (fun i σ' H' => ∃ (lp : List Str) (here : Str) (o3 o4 : Option V), σ' = [some (.ref ta), some (.str here), some (.ref l), o3, o4] ∧ Same H H' ∧ stD S.ti a ((ws.map PyData.str).take i) = some lp ∧ lp.getLast? = some here)
      ⟨[a], a, none, none, rfl, Same.refl H, rfl, rfl⟩ (fun i σ' H' _ h => ?_) (fun i v σ' H' hv h => ?_) (fun σ' H' h => ?_)⟩
    · obtain ⟨_, _, _, _, _, s1, _⟩ := h
      exact SqL.of (s1 _ _ hl)
    · obtain ⟨lp, here, o3, o4, rfl, s1, e1, e2⟩ := h
      rw [List.getElem?_map] at hv
      cases ey : ws[i]? with
      | none => rw [ey] at hv; cases hv
      | some y =>
        rw [ey] at hv
        cases hv
        have ed : (ws.map PyData.str)[i]? = some (.str y) := by rw [List.getElem?_map, ey]; rfl
        cases es : stepD S.ti here (.str y) with
        | none =>
          have := stD_stop e1 e2 ed es
          rw [this] at he
          cases he
        | some nx =>
          have e3 := stD_take e1 e2 ed
          rw [es] at e3
          have hh := es
          rw [filtS_head nd] at hh
          have RL1 := RL.same s1
          have eta1 := s1 _ _ eta
          refine ⟨_, rfl, ta, rfl, ⟨_, SqL.of eta1⟩, comp_list (K := K) (ys := L.map fun q => V.ref q.2) (fun j acc σ2 H2 => H2 = H' ∧ acc = (((L.take j).filter fun q => decide (q.1.nm = y) && decide (q.1.a = here)).map fun q => V.ref q.2) ∧ ∃ o, σ2 = [o, some (.str y), some (.str here)])
            ⟨rfl, rfl, none, rfl⟩ (fun j acc σ2 H2 h => ?_) ?_ (fun j acc σ2 H2 _ h => by rw [h.1]; exact SqL.of eta1) (fun j v acc σ2 H2 hv h => ?_) (fun acc σ2 H2 h fl hfl => ?_)⟩
          · rw [h.2.1, List.length_map]
            exact Nat.le_trans (List.length_filter_le _ _) (by rw [List.length_take]; omega)
          · rw [List.length_map, hL]; exact Nat.le_trans few (by decide)
          · obtain ⟨rfl, rfl, o, rfl⟩ := h
            rw [List.getElem?_map] at hv
            cases eq : L[j]? with
            | none => rw [eq] at hv; cases hv
            | some qq =>
              rw [eq] at hv
              cases hv
              have hq := RL1.2 qq (List.mem_of_getElem? eq)
              have fs : ∀ b : Bool, (decide (qq.1.nm = y) && decide (qq.1.a = here)) = b → _ := fun b hb => filt_snoc (fun q : Row × Addr => decide (q.1.nm = y) && decide (q.1.a = here)) eq hb
              refine ⟨_, rfl, qq.2, _, _, .str qq.1.nm, rfl, rfl, SqT.of hq, rfl, _, rfl, rfl, _, rfl, ?_⟩
              by_cases h1 : qq.1.nm = y
              · refine iteTb (decide_eq_true (by rw [h1])) ⟨_, rfl, qq.2, _, _, .str qq.1.a, rfl, rfl, SqT.of hq, rfl, _, rfl, rfl, _, rfl, ?_⟩
                by_cases h2 : qq.1.a = here
                · refine iteTb (decide_eq_true (by rw [h2])) ⟨_, rfl, rfl, ?_, _, rfl⟩
                  rw [fs true (by rw [decide_eq_true h1, decide_eq_true h2]; rfl), List.map_append]
                  rfl
                · refine iteFb (decide_eq_false fun z => h2 (V.str.inj z)) ⟨rfl, ?_, _, rfl⟩
                  rw [fs false (by rw [decide_eq_true h1, decide_eq_false h2]; rfl), List.map_append]
                  exact (List.append_nil _).symm
              · refine iteFb (decide_eq_false fun z => h1 (V.str.inj z)) (iteF ⟨rfl, ?_, _, rfl⟩)
                rw [fs false (by rw [decide_eq_false h1]; rfl), List.map_append]
                exact (List.append_nil _).symm
          · obtain ⟨rfl, rfl, o, rfl⟩ := h
            rw [List.length_map, List.take_length]
            have RF := (rows_filter RL1 fun r => decide (r.nm = y) && decide (r.a = here)).same (Same.new (o := .lst ((L.filter fun q => decide (q.1.nm = y) && decide (q.1.a = here)).map fun q => V.ref q.2)) hfl)
            have efl : (upd H2 fl (.lst ((L.filter fun q => decide (q.1.nm = y) && decide (q.1.a = here)).map fun q => V.ref q.2))) fl = some (.lst ((L.filter fun q => decide (q.1.nm = y) && decide (q.1.a = here)).map fun q => V.ref q.2)) := upd_same
            have s2 := s1.upd (o := .lst ((L.filter fun q => decide (q.1.nm = y) && decide (q.1.a = here)).map fun q => V.ref q.2)) hfl
            generalize upd H2 fl (.lst ((L.filter fun q => decide (q.1.nm = y) && decide (q.1.a = here)).map fun q => V.ref q.2)) = H3 at RF efl s2
            generalize (L.filter fun q => decide (q.1.nm = y) && decide (q.1.a = here)) = LF at RF efl
            have eF : S.ti.filter (fun r => decide (r.nm = y) && decide (r.a = here)) = filtS S.ti here y := rfl
            rw [eF] at RF
            have rokF : ∀ r ∈ filtS S.ti here y, nameB r.nm = true ∧ nameB r.a = true ∧ nameB r.b = true := fun r hr => rok r (List.mem_filter.mp hr).1
            generalize filtS S.ti here y = fs at RF hh rokF
            refine ⟨_, rfl, _, "str", _, true, rfl, .str _, rfl, true, rfl, iteF ?_⟩
            refine ⟨_, rfl, by decide, fun e he => ⟨2, _, _, by decide, rd_rows (RF.same (Same.new he)) ((Same.new he) _ _ efl) rokF, rd_nil upd_same, _, rfl, ?_⟩⟩
            show if PyData.eqv (.list (fs.map rowD)) (.list []) = true then _ else _
            rw [eqv_nil]
            cases fs with
            | nil => cases hh
            | cons r rs =>
              obtain ⟨q0, LF', rfl, e0⟩ : ∃ q0 LF', LF = q0 :: LF' ∧ q0.1 = r := by
                cases LF with
                | nil => cases RF.1
                | cons q0 LF' =>
                  have := RF.1
                  injection this with z1 z2
                  exact ⟨q0, LF', rfl, z1⟩
              have hb : r.b = nx := Option.some.inj hh
              refine iteF ?_
              have t0 := (Same.new (o := .lst []) he) _ _ (RF.2 q0 List.mem_cons_self)
              have f0 := (Same.new (o := .lst []) he) _ _ efl
              refine ⟨_, rfl, fl, _, _, _, rfl, rfl, SqL.of f0, atI_nat (j := 0) rfl, q0.2, _, _, .str q0.1.b, rfl, rfl, SqT.of t0, rfl, lp ++ [nx], nx, some (.str y), some (.ref fl), ?_, s2.upd he, e3, by simp⟩
              rw [e0, hb]
              rfl
    · obtain ⟨lp, here, o3, o4, rfl, s1, e1, e2⟩ := h
      have e3 : stD S.ti a (ws.map PyData.str) = some lp := by
        rw [List.length_map] at e1
        rw [List.take_of_length_le (by rw [List.length_map]; exact Nat.le_refl _)] at e1
        exact e1
      rw [e3] at he
      have : here = b := Option.some.inj (e2.symm.trans he)
      subst this
      exact ⟨_, rfl, q H' s1⟩
theorem sc_llisted : FnScope ["_law_places", "_law_paper", "_law_k"] ["_law_places", "_law_paper"] (defScope s_l_listed) := ⟨rfl, rfl, rfl, by decide +kernel, rfl, by decide +kernel, by decide +kernel⟩
theorem ok_llisted {f : Addr} {fd : FuncData} (F : Fun K "_law_listed" "_law_listed" s_l_listed f fd) (T : Txt K mg C) : FnOk P w K mg base CX0 1 f fd ["_law_places", "_law_paper"] spLListed := by
  refine F.ok sc_llisted (fun vs H Q E h => ?_) (fun cdv A outer s H vs Q E hr h => ?_)
  · obtain ⟨pa, l, ta, S, ws, rfl, _⟩ := h
    rfl
  · obtain ⟨pa, l, ta, S, ws, rfl, PA, hl, lp, hn, q⟩ := h
    refine ⟨_, (pss_cons (ps_if (pt_not (pt_val (pe_callB call_isinst (by rfl) T.isi b_isi (pa_cons (pv 1) (pa_cons (pe_ty T.list (by rfl) b_list) pa_nil))))) (pss_one (ps_ret pe_bl)) pss_nil)
      (pss_cons (ps_for PassesOwn.never rfl (pi_range1 rfl T.range (pa_cons (pe_callB call_len_seq (by rfl) T.len b_len (pa_cons (pv 1) pa_nil)) pa_nil)) (pg_name (i := 2) sc_llisted.nd rfl (Or.inl rfl))
        (pss_one (ps_if (PW.pt (pw_or (pt_not (pt_val (pe_callB call_isinst (by rfl) T.isi b_isi (pa_cons (pe_ix ix_list (pv 1) (pv 2) (fun _ _ => by rfl)) (pa_cons (pe_ty T.str (by rfl) b_str) pa_nil)))))
            (pw_or (pt_cmpR op_notIn_seq (pe_ix ix_list (pv 1) (pv 2) (fun _ _ => by rfl)) (pv 0) (by with_unfolding_all rfl))
            (pw_or1 (pt_cmpR op_in_seq (pe_ix ix_list (pv 1) (pv 2) (fun _ _ => by rfl)) (pe_slice sl_list (pv 1) po_none (po_some (pv 2))) (by with_unfolding_all rfl)))))) (pss_one (ps_ret pe_bl)) pss_nil)))
      (pss_one (ps_ret pe_bl)))), ?_⟩
    have hlen : (ws.map V.str).length = ws.length := List.length_map ..
    refine ⟨_, rfl, _, "list", _, true, rfl, .lst hl, rfl, true, rfl, iteF ?_⟩
    refine ⟨_, rfl, l, _, rfl, .inl (SqL.of hl), _, rfl, by rw [hlen]; omega, by rw [hlen]; omega, ?_⟩
    rw [hlen, Int.toNat_natCast]
    refine for_range (n := ws.length) (fun i σ' H' => Same H H' ∧ ∃ o, σ' = [some (.ref pa), some (.ref l), o]) ⟨Same.refl H, none, rfl⟩ (fun i σ' H' hi h => ?_) (fun σ' H' h => ?_)
    · obtain ⟨s1, o, rfl⟩ := h
      have ey := List.getElem?_eq_getElem hi
      generalize ws[i] = y at ey
      have hl1 := s1 _ _ hl
      have at1 : atI (ws.map V.str) ((0 : Int) + i) = some (V.str y) := by rw [Int.zero_add]; exact pl_at ey
      refine ⟨_, rfl, _, rfl, l, _, _, _, rfl, rfl, SqL.of hl1, at1, _, "str", _, true, rfl, .str _, rfl, true, rfl, iteF ?_⟩
      refine ⟨_, rfl, _, rfl, l, _, _, _, rfl, rfl, SqL.of hl1, at1, _, rfl, pa, _, rfl, .inl (SqL.of (s1 _ _ PA.pl)), rfl, flat_strs _, _, rfl, ?_⟩
      show if (if true = true then !inV (.str y) (S.pl.map V.str) else inV (.str y) (S.pl.map V.str)) = true then _ else _
      rw [if_pos rfl, inV_str, decide_eq_true (lp.2 y (List.mem_of_getElem? ey))]
      refine iteF ?_
      refine ⟨_, rfl, _, rfl, l, _, _, _, rfl, rfl, SqL.of hl1, at1, _, rfl, _, rfl, _, rfl, l, _, rfl, SqL.of hl1, fun c hc => ?_⟩
      have ec : cutV (ws.map V.str) none (some ((0 : Int) + i)) = (ws.take i).map V.str := by
        rw [Int.zero_add, cutV_to _ (by rw [hlen]; omega), List.map_take]
      rw [ec]
      refine ⟨c, _, rfl, .inl (SqL.of upd_same), rfl, flat_strs _, _, rfl, ?_⟩
      show if (if false = true then !inV (.str y) ((ws.take i).map V.str) else inV (.str y) ((ws.take i).map V.str)) = true then _ else _
      rw [if_neg Bool.false_ne_true, inV_str, decide_eq_false (take_new lp.1 ey)]
      exact iteF ⟨s1.upd hc, _, rfl⟩
    · exact q H' h.1
theorem sc_verdict : FnScope ["_law_told"] ["_law_told"] (defScope s_l_verdict) := ⟨rfl, rfl, rfl, by decide +kernel, rfl, by decide +kernel, by decide +kernel⟩
theorem ok_verdict {f : Addr} {fd : FuncData} (F : Fun K "_law_verdict" "_law_verdict" s_l_verdict f fd) (T : Txt K mg C) : FnOk P w K mg base CX0 1 f fd ["_law_told"] spVerdict := by
  refine F.ok sc_verdict (fun vs H Q E h => ?_) (fun cdv A outer s H vs Q E hr h => ?_)
  · obtain ⟨t, l, b, rfl, _⟩ := h
    rfl
  · obtain ⟨t, l, b, rfl, ht, q⟩ := h
    refine ⟨_, (pss_one (ps_ret (pe_and (pe_callB call_isinst (by rfl) T.isi b_isi (pa_cons (pv 0) (pa_cons (pe_ty T.tuple (by rfl) b_tuple) pa_nil))) (pe_and (pe_cmpR op_eq (pe_callB call_len_seq (by rfl) T.len b_len (pa_cons (pv 0) pa_nil)) pe_int (nomark _))
      (pe_one (pe_callB call_isinst (by rfl) T.isi b_isi (pa_cons (pe_ix ix_tup (pv 0) pe_int (fun _ _ => by rfl)) (pa_cons (pe_ty T.bool (by rfl) b_bool) pa_nil)))))))), ?_⟩
    refine ⟨_, rfl, _, "tuple", _, true, rfl, .tup ht, k_tt K, true, rfl, iteT ?_⟩
    refine ⟨_, rfl, t, _, rfl, .inr (SqT.of ht), rfl, _, rfl, iteT ?_⟩
    exact ⟨_, rfl, t, _, _, .bl b, rfl, rfl, SqT.of ht, rfl, _, "bool", _, true, rfl, .bl _, k_bb K, q⟩
end
end Net

namespace Net
open PySem L2
/-! ### prices that are lowered along ties, some places without one at first -/
structure LS where
  p : Str → Option Int
  b : Str → Option Row
def lowR (s : LS) (r : Row) : Bool := match s.p r.a with
  | none => false
  | some x => match s.p r.b with
    | none => true
    | some y => decide (x + r.c < y)
def putR (s : LS) (r : Row) : LS := ⟨fun v => if v = r.b then (s.p r.a).map (· + r.c) else s.p v, fun v => if v = r.b then some r else s.b v⟩
def goR (q : LS × Option Str) (r : Row) : LS × Option Str := if lowR q.1 r = true then (putR q.1 r, some r.b) else q
def roundR (rows : List Row) (s : LS) : LS × Option Str := rows.foldl goR (s, none)
def roundsR (rows : List Row) : Nat → LS → LS × Option Str
  | 0, s => (s, none)
  | k + 1, s => roundR rows (roundsR rows k s).1
def Settled (s : LS) (r : Row) : Prop := ∀ y, s.p r.a = some y → ∃ x, s.p r.b = some x ∧ x ≤ y + r.c
theorem low_not {s : LS} {r : Row} (h : lowR s r = false) : Settled s r := fun y e => by
  unfold lowR at h
  rw [e] at h
  cases e2 : s.p r.b with
  | none => rw [e2] at h; cases h
  | some x =>
    rw [e2] at h
    have : ¬ y + r.c < x := of_decide_eq_false h
    exact ⟨x, rfl, by omega⟩
theorem low_yes {s : LS} {r : Row} (h : lowR s r = true) : ∃ x, s.p r.a = some x ∧ ∀ y, s.p r.b = some y → x + r.c < y := by
  unfold lowR at h
  cases e : s.p r.a with
  | none => rw [e] at h; cases h
  | some x =>
    rw [e] at h
    refine ⟨x, rfl, fun y ey => ?_⟩
    rw [ey] at h
    exact of_decide_eq_true h
theorem low_uns {s : LS} {r : Row} (h : lowR s r = true) : ¬ Settled s r := fun st => by
  obtain ⟨x, e, hy⟩ := low_yes h
  obtain ⟨y, e2, h2⟩ := st x e
  have := hy y e2
  omega
/-- what holds all along; lr: the round in which a place was lowered last, tau: the deed -/
structure LI (rows done todo : List Row) (k now : Nat) (s0 s : LS) (late : Option Str) (lr tau : Str → Nat) : Prop where
  bk : ∀ v r, s.b v = some r → r ∈ rows ∧ r.b = v ∧ ∃ x y, s.p v = some x ∧ s.p r.a = some y ∧ y + r.c ≤ x ∧ (tau v < tau r.a → y + r.c < x)
  bn : ∀ v, s.b v = none → lr v = 0 ∧ s.p v = s0.p v
  b1 : ∀ v r, s.b v = some r → 1 ≤ lr v ∧ 1 ≤ tau v ∧ lr v ≤ lr r.a + 1
  le : ∀ v, lr v ≤ k ∧ tau v ≤ now
  tj : ∀ v w, tau v = tau w → 1 ≤ tau v → v = w
  dn : ∀ r ∈ done, Settled s r ∨ lr r.a = k
  td : ∀ r ∈ todo, 2 ≤ k → Settled s r ∨ k ≤ lr r.a + 1
  lt : ∀ v, late = some v → lr v = k ∧ s.b v ≠ none
  mo : ∀ v x, s0.p v = some x → ∃ y, s.p v = some y ∧ y ≤ x
def setF (f : Str → Nat) (v : Str) (n : Nat) : Str → Nat := fun w => if w = v then n else f w
theorem setF_eq {f : Str → Nat} {v : Str} {n : Nat} : setF f v n v = n := by unfold setF; rw [if_pos rfl]
theorem setF_ne {f : Str → Nat} {v w : Str} {n : Nat} (h : w ≠ v) : setF f v n w = f w := by unfold setF; rw [if_neg h]
theorem put_p_eq {s : LS} {r : Row} {x : Int} (e : s.p r.a = some x) : (putR s r).p r.b = some (x + r.c) := by
  show (if r.b = r.b then (s.p r.a).map (· + r.c) else s.p r.b) = _
  rw [if_pos rfl, e]
  rfl
theorem put_p_ne {s : LS} {r : Row} {v : Str} (h : v ≠ r.b) : (putR s r).p v = s.p v := by
  show (if v = r.b then (s.p r.a).map (· + r.c) else s.p v) = _
  rw [if_neg h]
theorem put_b_eq {s : LS} {r : Row} : (putR s r).b r.b = some r := by
  show (if r.b = r.b then some r else s.b r.b) = _
  rw [if_pos rfl]
theorem put_b_ne {s : LS} {r : Row} {v : Str} (h : v ≠ r.b) : (putR s r).b v = s.b v := by
  show (if v = r.b then some r else s.b v) = _
  rw [if_neg h]
theorem settled_put {s : LS} {r q : Row} (h : lowR s r = true) (hq : q.a ≠ r.b) (st : Settled s q) : Settled (putR s r) q := fun y e => by
  rw [put_p_ne hq] at e
  obtain ⟨x, e2, h2⟩ := st y e
  obtain ⟨z, ez, hz⟩ := low_yes h
  by_cases hb : q.b = r.b
  · rw [hb] at e2 ⊢
    have := hz x e2
    exact ⟨_, put_p_eq ez, by omega⟩
  · exact ⟨x, by rw [put_p_ne hb]; exact e2, h2⟩
theorem LI.go {rows done todo : List Row} {k now : Nat} {s0 s : LS} {late : Option Str} {lr tau : Str → Nat} {r : Row} (I : LI rows done (r :: todo) k now s0 s late lr tau) (hk : 1 ≤ k) (hr : r ∈ rows) (hne : r.a ≠ r.b) :
    ∃ lr' tau', LI rows (r :: done) todo k (now + 1) s0 (goR (s, late) r).1 (goR (s, late) r).2 lr' tau' := by
  unfold goR
  cases hl : lowR s r with
  | false =>
    rw [if_neg Bool.false_ne_true]
    refine ⟨lr, tau, I.bk, I.bn, I.b1, fun v => ⟨(I.le v).1, Nat.le_succ_of_le (I.le v).2⟩, I.tj, fun q hq => ?_, fun q hq => I.td q (List.mem_cons_of_mem _ hq), I.lt, I.mo⟩
    rcases List.mem_cons.mp hq with rfl | hq
    · exact .inl (low_not hl)
    · exact I.dn q hq
  | true =>
    rw [if_pos rfl]
    obtain ⟨x, ex, hx⟩ := low_yes hl
    refine ⟨setF lr r.b k, setF tau r.b (now + 1), ?_⟩
    have hra : ∀ f n, setF f r.b n r.a = f r.a := fun f n => setF_ne hne
    refine ⟨fun v q e => ?_, fun v e => ?_, fun v q e => ?_, fun v => ?_, fun v w e h1 => ?_, fun q hq => ?_, fun q hq h2 => ?_, fun v e => ?_, fun v y e => ?_⟩
    · by_cases hv : v = r.b
      · subst hv
        rw [put_b_eq] at e
        cases e
        refine ⟨hr, rfl, x + r.c, x, put_p_eq ex, by rw [put_p_ne hne]; exact ex, Int.le_refl _, fun z => ?_⟩
        rw [setF_eq, hra] at z
        have := (I.le r.a).2
        omega
      · rw [put_b_ne hv] at e
        obtain ⟨h1, h2, u, y, eu, ey, hle, hs⟩ := I.bk v q e
        by_cases hq : q.a = r.b
        · have := hx y (by rw [← hq]; exact ey)
          exact ⟨h1, h2, u, x + r.c, by rw [put_p_ne hv]; exact eu, by rw [hq]; exact put_p_eq ex, by omega, fun _ => by omega⟩
        · refine ⟨h1, h2, u, y, by rw [put_p_ne hv]; exact eu, by rw [put_p_ne hq]; exact ey, hle, fun z => hs ?_⟩
          rw [setF_ne hv, setF_ne hq] at z
          exact z
    · have hv : v ≠ r.b := fun z => by rw [z, put_b_eq] at e; cases e
      rw [put_b_ne hv] at e
      rw [setF_ne hv, put_p_ne hv]
      exact I.bn v e
    · by_cases hv : v = r.b
      · subst hv
        rw [put_b_eq] at e
        cases e
        rw [setF_eq, setF_eq, hra]
        refine ⟨hk, Nat.succ_le_succ (Nat.zero_le _), ?_⟩
        by_cases h2 : 2 ≤ k
        · exact (I.td r List.mem_cons_self h2).resolve_left (low_uns hl)
        · omega
      · rw [put_b_ne hv] at e
        obtain ⟨h1, h2, h3⟩ := I.b1 v q e
        rw [setF_ne hv, setF_ne hv]
        refine ⟨h1, h2, ?_⟩
        by_cases hq : q.a = r.b
        · rw [hq, setF_eq]
          have := (I.le v).1
          omega
        · rw [setF_ne hq]
          exact h3
    · by_cases hv : v = r.b
      · subst hv
        rw [setF_eq, setF_eq]
        exact ⟨Nat.le_refl _, Nat.le_refl _⟩
      · rw [setF_ne hv, setF_ne hv]
        exact ⟨(I.le v).1, Nat.le_succ_of_le (I.le v).2⟩
    · have l1 := (I.le v).2
      have l2 := (I.le w).2
      by_cases hv : v = r.b
      · by_cases hw : w = r.b
        · rw [hv, hw]
        · rw [hv, setF_eq, setF_ne hw] at e
          omega
      · by_cases hw : w = r.b
        · rw [hw, setF_eq, setF_ne hv] at e
          omega
        · rw [setF_ne hv, setF_ne hw] at e
          rw [setF_ne hv] at h1
          exact I.tj v w e h1
    · rcases List.mem_cons.mp hq with rfl | hq
      · refine .inl fun y e => ?_
        rw [put_p_ne hne, ex] at e
        cases e
        exact ⟨_, put_p_eq ex, Int.le_refl _⟩
      · by_cases ha : q.a = r.b
        · rw [ha, setF_eq]
          exact .inr rfl
        · rw [setF_ne ha]
          exact (I.dn q hq).imp (settled_put hl ha) id
    · by_cases ha : q.a = r.b
      · rw [ha, setF_eq]
        exact .inr (Nat.le_succ _)
      · rw [setF_ne ha]
        exact (I.td q (List.mem_cons_of_mem _ hq) h2).imp (settled_put hl ha) id
    · cases e
      rw [setF_eq, put_b_eq]
      exact ⟨rfl, fun z => nomatch z⟩
    · obtain ⟨z, ez, hz⟩ := I.mo v y e
      by_cases hv : v = r.b
      · subst hv
        have := hx z ez
        exact ⟨_, put_p_eq ex, by omega⟩
      · exact ⟨z, by rw [put_p_ne hv]; exact ez, hz⟩
theorem LI.all {rows : List Row} {k : Nat} {s0 : LS} (hk : 1 ≤ k) (hne : ∀ r ∈ rows, r.a ≠ r.b) : ∀ (todo done : List Row) {now : Nat} {s : LS} {late : Option Str} {lr tau : Str → Nat}, (∀ r ∈ todo, r ∈ rows) → LI rows done todo k now s0 s late lr tau →
    ∃ now' lr' tau', LI rows (todo.reverse ++ done) [] k now' s0 (todo.foldl goR (s, late)).1 (todo.foldl goR (s, late)).2 lr' tau'
  | [], done, now, s, late, lr, tau, _, I => ⟨now, lr, tau, I⟩
  | r :: t, done, now, s, late, lr, tau, h, I => by
    obtain ⟨lr', tau', I'⟩ := I.go hk (h r List.mem_cons_self) (hne r (h r List.mem_cons_self))
    obtain ⟨n2, l2, t2, I2⟩ := LI.all hk hne t (r :: done) (fun q hq => h q (List.mem_cons_of_mem _ hq)) I'
    rw [List.foldl_cons, List.reverse_cons, List.append_assoc]
    exact ⟨n2, l2, t2, I2⟩
theorem LI.rounds {rows : List Row} {s0 : LS} (h0 : ∀ v, s0.b v = none) (hne : ∀ r ∈ rows, r.a ≠ r.b) : ∀ k, 1 ≤ k → ∃ now lr tau, LI rows rows [] k now s0 (roundsR rows k s0).1 (roundsR rows k s0).2 lr tau
  | 0, h => absurd h (by decide)
  | 1, _ => by
    have I : LI rows [] rows 1 0 s0 s0 none (fun _ => 0) (fun _ => 0) := ⟨fun v r e => (by rw [h0] at e; cases e), fun v _ => ⟨rfl, rfl⟩, fun v r e => (by rw [h0] at e; cases e), fun v => ⟨Nat.zero_le _, Nat.le_refl _⟩, fun _ _ _ h => absurd h (by decide), fun _ h => (nomatch h), fun _ _ h => absurd h (by decide), fun _ h => (nomatch h), fun v x e => ⟨x, e, Int.le_refl _⟩⟩
    obtain ⟨n, l, t, I'⟩ := LI.all (Nat.le_refl _) hne rows [] (fun _ h => h) I
    refine ⟨n, l, t, ?_⟩
    have hd : ∀ q ∈ rows, Settled (rows.foldl goR (s0, none)).1 q ∨ l q.a = 1 := fun q hq => I'.dn q (List.mem_append_left _ (List.mem_reverse.mpr hq))
    exact ⟨I'.bk, I'.bn, I'.b1, I'.le, I'.tj, hd, fun _ h => (nomatch h), I'.lt, I'.mo⟩
  | k + 2, _ => by
    obtain ⟨n, l, t, I⟩ := LI.rounds h0 hne (k + 1) (Nat.succ_le_succ (Nat.zero_le _))
    have I1 : LI rows [] rows (k + 2) n s0 (roundsR rows (k + 1) s0).1 none l t := ⟨I.bk, I.bn, I.b1, fun v => ⟨Nat.le_succ_of_le (I.le v).1, (I.le v).2⟩, I.tj, fun _ h => (nomatch h), fun q hq _ => (I.dn q hq).imp id fun e => by omega, fun _ h => (nomatch h), I.mo⟩
    obtain ⟨n', l', t', I'⟩ := LI.all (Nat.succ_le_succ (Nat.zero_le _)) hne rows [] (fun _ h => h) I1
    refine ⟨n', l', t', ?_⟩
    have hd : ∀ q ∈ rows, Settled (roundsR rows (k + 2) s0).1 q ∨ l' q.a = k + 2 := fun q hq => I'.dn q (List.mem_append_left _ (List.mem_reverse.mpr hq))
    exact ⟨I'.bk, I'.bn, I'.b1, I'.le, I'.tj, hd, fun _ h => (nomatch h), I'.lt, I'.mo⟩
/-- a round that lowers nothing -/
theorem still_fold : ∀ (rows : List Row) {s : LS} {v : Option Str}, (rows.foldl goR (s, v)).2 = none → v = none ∧ (rows.foldl goR (s, v)).1 = s ∧ ∀ r ∈ rows, lowR s r = false
  | [], s, v, h => ⟨h, rfl, fun _ h => nomatch h⟩
  | r :: t, s, v, h => by
    rw [List.foldl_cons] at h ⊢
    cases hl : lowR s r with
    | true =>
      have e : goR (s, v) r = (putR s r, some r.b) := by unfold goR; rw [if_pos hl]
      rw [e] at h
      exact absurd (still_fold t h).1 (by simp)
    | false =>
      have e : goR (s, v) r = (s, v) := by unfold goR; rw [if_neg (by rw [hl]; exact Bool.false_ne_true)]
      rw [e] at h ⊢
      obtain ⟨h1, h2, h3⟩ := still_fold t h
      refine ⟨h1, h2, fun q hq => ?_⟩
      rcases List.mem_cons.mp hq with rfl | hq
      · exact hl
      · exact h3 q hq
theorem still_settled {rows : List Row} {s0 : LS} {k : Nat} (hk : 1 ≤ k) (h : (roundsR rows k s0).2 = none) : ∀ r ∈ rows, Settled (roundsR rows k s0).1 r := by
  cases k with
  | zero => exact absurd hk (by decide)
  | succ k =>
    obtain ⟨_, e, hl⟩ := still_fold rows (s := (roundsR rows k s0).1) (v := none) h
    intro r hr
    have : (roundsR rows (k + 1) s0).1 = (roundsR rows k s0).1 := e
    rw [this]
    exact low_not (hl r hr)
/-! ### back along the ties that lowered -/
def rowB (s : LS) (v : Str) : Row := (s.b v).getD ⟨"", "", "", 0, 0⟩
def preB (s : LS) (v : Str) : Str := (rowB s v).a
def itB (s : LS) : Nat → Str → Str
  | 0, v => v
  | i + 1, v => preB s (itB s i v)
theorem rowB_some {s : LS} {v : Str} {r : Row} (h : s.b v = some r) : rowB s v = r := by unfold rowB; rw [h]; rfl
theorem itB_add (s : LS) (v : Str) (i : Nat) : ∀ j, itB s (i + j) v = itB s j (itB s i v)
  | 0 => rfl
  | j + 1 => by
    show preB s (itB s (i + j) v) = preB s (itB s j (itB s i v))
    rw [itB_add s v i j]
theorem it_rep {s : LS} {v : Str} {i j : Nat} (h : itB s i v = itB s j v) (t : Nat) : itB s (i + t) v = itB s (j + t) v := by
  rw [itB_add, itB_add, h]
theorem php {α : Type} [DecidableEq α] (f : Nat → α) (A : List α) (h : ∀ i, i ≤ A.length → f i ∈ A) : ∃ i j, i < j ∧ j ≤ A.length ∧ f i = f j := by
  refine Classical.byContradiction fun hn => ?_
  have nd : ((List.range (A.length + 1)).map f).Nodup := by
    unfold List.Nodup
    rw [List.pairwise_map]
    refine List.Pairwise.imp_of_mem (fun {i j} hi hj hlt e => hn ⟨i, j, hlt, ?_, e⟩) List.pairwise_lt_range
    have := List.mem_range.mp hj
    omega
  have := nodup_len nd (m := A) fun x hx => by
    obtain ⟨i, hi, rfl⟩ := List.mem_map.mp hx
    have := List.mem_range.mp hi
    exact h i (by omega)
  rw [List.length_map, List.length_range] at this
  omega
/-- from a place lowered in the last round one never comes to an end -/
theorem never_ends {rows : List Row} {A : List Str} {s0 s : LS} {v : Str} {now : Nat} {lr tau : Str → Nat} (I : LI rows rows [] A.length now s0 s (some v) lr tau) (hA : ∀ r ∈ rows, r.a ∈ A ∧ r.b ∈ A) : ∀ i, s.b (itB s i v) ≠ none := by
  have hv := I.lt v rfl
  have step : ∀ u, s.b u ≠ none → ∃ r, s.b u = some r ∧ preB s u = r.a ∧ lr u ≤ lr (preB s u) + 1 ∧ u ∈ A ∧ preB s u ∈ A := fun u hu => by
    cases e : s.b u with
    | none => exact absurd e hu
    | some r =>
      have hp : preB s u = r.a := by unfold preB; rw [rowB_some e]
      obtain ⟨h1, h2, _⟩ := I.bk u r e
      refine ⟨r, rfl, hp, by rw [hp]; exact (I.b1 u r e).2.2, by rw [← h2]; exact (hA r h1).2, by rw [hp]; exact (hA r h1).1⟩
  have far : ∀ i, i < A.length → s.b (itB s i v) ≠ none ∧ A.length - i ≤ lr (itB s i v) := fun i => by
    induction i with
    | zero => exact fun _ => ⟨hv.2, by rw [show itB s 0 v = v from rfl, hv.1]; omega⟩
    | succ i ih =>
      intro hi
      obtain ⟨h1, h2⟩ := ih (by omega)
      obtain ⟨r, e, hp, h3, _⟩ := step _ h1
      have hl : A.length - (i + 1) ≤ lr (itB s (i + 1) v) := by
        show _ ≤ lr (preB s (itB s i v))
        omega
      refine ⟨fun z => ?_, hl⟩
      have := (I.bn _ z).1
      omega
  have inA : ∀ i, i ≤ A.length → itB s i v ∈ A := fun i hi => by
    cases i with
    | zero =>
      obtain ⟨r, _, _, _, h, _⟩ := step v hv.2
      exact h
    | succ i =>
      obtain ⟨r, _, _, _, _, h⟩ := step _ (far i (by omega)).1
      exact h
  obtain ⟨x, y, hxy, hy, e⟩ := php (fun i => itB s i v) A inA
  intro i
  induction i using Nat.strongRecOn with
  | ind i ih =>
    by_cases hi : i < A.length
    · exact (far i hi).1
    · have h := it_rep e (i - y)
      have e1 : y + (i - y) = i := by omega
      rw [e1] at h
      rw [← h]
      exact ih _ (by omega)
/-- behind as many steps as there are places with a tie, one is on a ring -/
theorem on_ring {s : LS} {v : Str} {ks : List Str} (hk : ∀ x, s.b x ≠ none → x ∈ ks) (hn : ∀ i, s.b (itB s i v) ≠ none) : ∃ d, 1 ≤ d ∧ d ≤ ks.length ∧ itB s d (itB s ks.length v) = itB s ks.length v := by
  obtain ⟨x, y, hxy, hy, e⟩ := php (fun i => itB s i v) ks fun i _ => hk _ (hn i)
  refine ⟨y - x, by omega, by omega, ?_⟩
  have h := it_rep e (ks.length - x)
  have e1 : x + (ks.length - x) = ks.length := by omega
  have e2 : y + (ks.length - x) = ks.length + (y - x) := by omega
  rw [e1, e2, itB_add] at h
  exact h.symm
def backL (s : LS) (v : Str) (i : Nat) : List Str := ((List.range i).map fun j => (rowB s (itB s j v)).nm).reverse
theorem backL_succ (s : LS) (v : Str) (i : Nat) : backL s v (i + 1) = (rowB s (itB s i v)).nm :: backL s v i := by
  unfold backL
  rw [List.range_succ, List.map_append, List.reverse_append]
  rfl
theorem cost_cons {ti : List Row} {x : Str} {us : List Str} {r : Row} (h : rowOf ti x = some r) : costOf ti (x :: us) = r.c + costOf ti us := by
  unfold costOf
  rw [List.map_cons, List.sum_cons, h]
  rfl
theorem rowOf_nd {ti : List Row} (nd : (ti.map (·.nm)).Nodup) : ∀ {r : Row}, r ∈ ti → rowOf ti r.nm = some r := by
  induction ti with
  | nil => exact fun h => nomatch h
  | cons q t ih =>
    intro r hr
    unfold rowOf
    rw [List.map_cons, List.nodup_cons] at nd
    rcases List.mem_cons.mp hr with rfl | hr
    · rw [List.find?_cons_of_pos (by simp)]
    · rw [List.find?_cons_of_neg (by
        have : q.nm ≠ r.nm := fun z => nd.1 (List.mem_map.mpr ⟨r, hr, z.symm⟩)
        simpa using this)]
      exact ih nd.2 hr
theorem Path.cons {T : List Trip} {nm x y z : Str} {ws : List Str} (h : (nm, x, y) ∈ T) (p : Path T y ws z) : Path T x (nm :: ws) z := by
  induction p with
  | nil => exact Path.snoc (ws := []) .nil h
  | snoc p h2 ih => exact .snoc ih h2
theorem back_path {ti rows : List Row} (hsub : ∀ r ∈ rows, r ∈ ti) {s : LS} {v : Str} (hb : ∀ u r, s.b u = some r → r ∈ rows ∧ r.b = u) : ∀ i, (∀ j, j < i → s.b (itB s j v) ≠ none) → Path (stepsR false ti) (itB s i v) (backL s v i) v
  | 0, _ => .nil
  | i + 1, h => by
    have ih := back_path hsub hb i fun j hj => h j (Nat.lt_succ_of_lt hj)
    rw [backL_succ]
    cases e : s.b (itB s i v) with
    | none => exact absurd e (h i (Nat.lt_succ_self _))
    | some r =>
      obtain ⟨h1, h2⟩ := hb _ r e
      show Path _ (preB s (itB s i v)) _ _
      unfold preB
      rw [rowB_some e]
      refine Path.cons (y := itB s i v) ?_ ih
      rw [← h2]
      exact List.mem_map.mpr ⟨r, hsub r h1, rfl⟩
theorem back_cost {ti rows done todo : List Row} {k now : Nat} {s0 s : LS} {late : Option Str} {lr tau : Str → Nat} (I : LI rows done todo k now s0 s late lr tau) (nd : (ti.map (·.nm)).Nodup) (hsub : ∀ r ∈ rows, r ∈ ti) {v : Str} : ∀ i, (∀ j, j < i + 1 → s.b (itB s j v) ≠ none) →
    ∃ x y, s.p v = some x ∧ s.p (itB s (i + 1) v) = some y ∧ y + costOf ti (backL s v (i + 1)) ≤ x ∧ (y + costOf ti (backL s v (i + 1)) < x ∨ (tau (itB s (i + 1) v) ≤ tau (itB s 1 v) ∧ tau (itB s 1 v) ≤ tau v))
  | 0, h => by
    cases e : s.b v with
    | none => exact absurd e (h 0 (Nat.lt_succ_self _))
    | some r =>
      obtain ⟨h1, _, x, y, ex, ey, hle, hs⟩ := I.bk v r e
      have ep : itB s 1 v = r.a := by show preB s v = _; unfold preB; rw [rowB_some e]
      have ec : costOf ti (backL s v 1) = r.c := by
        rw [backL_succ, show itB s 0 v = v from rfl, rowB_some e, cost_cons (rowOf_nd nd (hsub r h1))]
        show r.c + 0 = r.c
        omega
      refine ⟨x, y, ex, by rw [ep]; exact ey, by rw [ec]; exact hle, ?_⟩
      rw [ep, ec]
      by_cases ht : tau v < tau r.a
      · exact .inl (hs ht)
      · exact .inr ⟨Nat.le_refl _, by omega⟩
  | i + 1, h => by
    obtain ⟨x, y, ex, ey, hle, hs⟩ := back_cost I nd hsub i fun j hj => h j (Nat.lt_succ_of_lt hj)
    cases e : s.b (itB s (i + 1) v) with
    | none => exact absurd e (h (i + 1) (Nat.lt_succ_self _))
    | some r =>
      obtain ⟨h1, _, x2, y2, ex2, ey2, hle2, hs2⟩ := I.bk _ r e
      have ep : itB s (i + 1 + 1) v = r.a := by show preB s (itB s (i + 1) v) = _; unfold preB; rw [rowB_some e]
      rw [ey] at ex2
      cases ex2
      have ec : costOf ti (backL s v (i + 1 + 1)) = r.c + costOf ti (backL s v (i + 1)) := by
        rw [backL_succ, rowB_some e, cost_cons (rowOf_nd nd (hsub r h1))]
      refine ⟨x, y2, ex, by rw [ep]; exact ey2, by rw [ec]; omega, ?_⟩
      rw [ep, ec]
      rcases hs with hs | hs
      · exact .inl (by omega)
      · by_cases ht : tau (itB s (i + 1) v) < tau r.a
        · have := hs2 ht
          exact .inl (by omega)
        · exact .inr ⟨by omega, hs.2⟩
/-- a ring behind costs less than nought -/
theorem ring_neg {ti rows done todo : List Row} {k now : Nat} {s0 s : LS} {late : Option Str} {lr tau : Str → Nat} (I : LI rows done todo k now s0 s late lr tau) (nd : (ti.map (·.nm)).Nodup) (hsub : ∀ r ∈ rows, r ∈ ti) (hne : ∀ r ∈ rows, r.a ≠ r.b) {v : Str} {d : Nat} (hd : 1 ≤ d) (h : ∀ j, j < d → s.b (itB s j v) ≠ none) (e : itB s d v = v) :
    costOf ti (backL s v d) < 0 := by
  obtain ⟨i, rfl⟩ : ∃ i, d = i + 1 := ⟨d - 1, by omega⟩
  obtain ⟨x, y, ex, ey, hle, hs⟩ := back_cost I nd hsub i h
  rw [e, ex] at ey
  cases ey
  rcases hs with hs | ⟨h1, h2⟩
  · omega
  · rw [e] at h1
    have ht : tau v = tau (itB s 1 v) := by omega
    cases eb : s.b v with
    | none => exact absurd eb (h 0 (by omega))
    | some r =>
      have ep : itB s 1 v = r.a := by show preB s v = _; unfold preB; rw [rowB_some eb]
      have := I.tj v _ ht (I.b1 v r eb).2.1
      obtain ⟨q1, q2, _⟩ := I.bk v r eb
      rw [ep] at this
      exact absurd (this.symm.trans q2.symm) (hne r q1)
/-- where all is settled no price is above what a way back costs -/
theorem back_settled {ti rows done todo : List Row} {k now : Nat} {s0 s : LS} {late : Option Str} {lr tau : Str → Nat} (I : LI rows done todo k now s0 s late lr tau) (st : ∀ r ∈ rows, Settled s r) (nd : (ti.map (·.nm)).Nodup) (hsub : ∀ r ∈ rows, r ∈ ti) {v : Str} : ∀ i, (∀ j, j < i → s.b (itB s j v) ≠ none) → ∀ x, s.p v = some x →
    ∃ y, s.p (itB s i v) = some y ∧ x = y + costOf ti (backL s v i)
  | 0, _, x, ex => ⟨x, ex, by show x = x + 0; omega⟩
  | i + 1, h, x, ex => by
    obtain ⟨y, ey, e1⟩ := back_settled I st nd hsub i (fun j hj => h j (Nat.lt_succ_of_lt hj)) x ex
    cases e : s.b (itB s i v) with
    | none => exact absurd e (h i (Nat.lt_succ_self _))
    | some r =>
      obtain ⟨h1, h2, x2, y2, ex2, ey2, hle2, _⟩ := I.bk _ r e
      have ep : itB s (i + 1) v = r.a := by show preB s (itB s i v) = _; unfold preB; rw [rowB_some e]
      rw [ey] at ex2
      cases ex2
      have ec : costOf ti (backL s v (i + 1)) = r.c + costOf ti (backL s v i) := by
        rw [backL_succ, rowB_some e, cost_cons (rowOf_nd nd (hsub r h1))]
      obtain ⟨x3, ex3, h3⟩ := st r h1 y2 ey2
      rw [h2, ey] at ex3
      cases ex3
      exact ⟨y2, by rw [ep]; exact ey2, by rw [ec]; omega⟩
/-- .. so there one comes to an end -/
theorem back_ends {ti rows done todo : List Row} {A : List Str} {k now : Nat} {s0 s : LS} {late : Option Str} {lr tau : Str → Nat} (I : LI rows done todo k now s0 s late lr tau) (st : ∀ r ∈ rows, Settled s r) (nd : (ti.map (·.nm)).Nodup) (hsub : ∀ r ∈ rows, r ∈ ti) (hne : ∀ r ∈ rows, r.a ≠ r.b) (hA : ∀ r ∈ rows, r.a ∈ A ∧ r.b ∈ A) {v : Str} (hv : v ∈ A) :
    ∃ i, i ≤ A.length ∧ s.b (itB s i v) = none ∧ ∀ j, j < i → s.b (itB s j v) ≠ none := by
  have ex : ∃ i, i ≤ A.length ∧ s.b (itB s i v) = none := by
    refine Classical.byContradiction fun hn => ?_
    have all : ∀ i, i ≤ A.length → s.b (itB s i v) ≠ none := fun i hi z => hn ⟨i, hi, z⟩
    have inA : ∀ i, i ≤ A.length → itB s i v ∈ A := fun i hi => by
      cases i with
      | zero => exact hv
      | succ i =>
        cases e : s.b (itB s i v) with
        | none => exact absurd e (all i (by omega))
        | some r =>
          show preB s (itB s i v) ∈ A
          unfold preB
          rw [rowB_some e]
          exact (hA r (I.bk _ r e).1).1
    obtain ⟨x, y, hxy, hy, e⟩ := php (fun i => itB s i v) A inA
    have hc : itB s (y - x) (itB s x v) = itB s x v := by
      rw [← itB_add, show x + (y - x) = y by omega]
      exact e.symm
    have hb : ∀ j, j < y - x → s.b (itB s j (itB s x v)) ≠ none := fun j hj => by
      rw [← itB_add]
      exact all _ (by omega)
    have neg := ring_neg I nd hsub hne (by omega) hb hc
    cases eb : s.b (itB s x v) with
    | none => exact absurd eb (all x (by omega))
    | some r =>
      obtain ⟨_, _, u, w', eu, _⟩ := I.bk _ r eb
      obtain ⟨z, ez, e2⟩ := back_settled I st nd hsub (y - x) hb u eu
      rw [hc, eu] at ez
      cases ez
      omega
  -- the first one
  obtain ⟨i, hi, e⟩ := ex
  induction i using Nat.strongRecOn with
  | ind i ih =>
    by_cases hj : ∃ j, j < i ∧ s.b (itB s j v) = none
    · obtain ⟨j, hj, ej⟩ := hj
      exact ih j hj (by omega) ej
    · exact ⟨i, hi, e, fun j hj' z => hj ⟨j, hj', z⟩⟩
end Net

namespace L2
open PySem PySem.Spec PyProof.Rows
def CBig (i j : Int) : Prop := i.natAbs < 2 ^ 3000 ∧ j.natAbs < 2 ^ 3000
theorem bits_big {i : Int} (h : i.natAbs < 2 ^ 3000) : Builtin.Int.intBits i ≤ 3000 := by
  unfold Builtin.Int.intBits
  by_cases e : (i == 0) = true
  · rw [if_pos e]; exact Nat.zero_le _
  · rw [if_neg e]
    have hn : i.natAbs ≠ 0 := fun z => e (by simpa using z)
    exact (Nat.log2_lt hn).mpr h
theorem CBig.ok {i j : Int} (h : CBig i j) : IntMulOk i j := by
  have h1 := bits_big h.1
  have h2 := bits_big h.2
  unfold IntMulOk
  have hz : Builtin.Int.intTooBig (Builtin.Int.intBits i + Builtin.Int.intBits j) = false := by
    unfold Builtin.Int.intTooBig
    refine decide_eq_false fun z => ?_
    have hb : (10000 : Int) ≤ bitsLine := by decide
    omega
  rw [hz, Bool.and_false]
  exact Bool.false_ne_true
section
variable {X : Cx}
theorem op_mulG : OpR X (binaryOp .Mult) (rI CBig fun i j => .int (i * j)) := opI fun _ _ _ _ _ _ _ hc q => mul_int q hc.ok
theorem op_fdivG : OpR X (binaryOp .FloorDiv) (rI (fun _ j => j ≠ 0 ∧ j.natAbs < 2 ^ 3000) fun i j => .int (i.fdiv j)) := opI fun _ j _ _ _ _ _ hc q => floordiv_int hc.1 q (.inl (PyProof.noPylong_of_log2 (by
  have hn : j.natAbs ≠ 0 := fun z => hc.1 (by simpa using z)
  have := (Nat.log2_lt hn).mpr hc.2
  omega)))
end
end L2
namespace Net
open PySem L2
/-! ### prices and ties as dicts -/
def DKeys (kvs : List (Key × V)) (A : List Str) : Prop := (kvs.map (·.1)).Nodup ∧ ∀ k ∈ kvs.map (·.1), ∃ x ∈ A, k = Sum.inr x
theorem DKeys.len {kvs : List (Key × V)} {A : List Str} (h : DKeys kvs A) : kvs.length ≤ A.length := by
  have := nodup_len h.1 (m := A.map Sum.inr) fun k hk => by
    obtain ⟨x, hx, rfl⟩ := h.2 k hk
    exact List.mem_map_of_mem hx
  rw [List.length_map, List.length_map] at this
  exact this
theorem DKeys.put {kvs : List (Key × V)} {A : List Str} (h : DKeys kvs A) {x : Str} (hx : x ∈ A) (v : V) : DKeys (putK kvs (Sum.inr x : Key) v) A := by
  cases e : valV kvs (Sum.inr x : Key) with
  | none =>
    rw [putK_new _ e]
    have hno : (Sum.inr x : Key) ∉ kvs.map (·.1) := fun z => by
      obtain ⟨p, hp, ep⟩ := List.mem_map.mp z
      have : (kvs.any fun kv => decide (kv.1 = (Sum.inr x : Key))) = true := List.any_eq_true.mpr ⟨p, hp, decide_eq_true ep⟩
      rw [valV_any, e] at this
      cases this
    refine ⟨?_, fun k hk => ?_⟩
    · rw [List.map_append, List.nodup_append]
      refine ⟨h.1, by simp, fun a ha b hb => ?_⟩
      rw [show b = (Sum.inr x : Key) from List.mem_singleton.mp hb]
      intro z
      exact hno (z ▸ ha)
    · rw [List.map_append] at hk
      rcases List.mem_append.mp hk with hk | hk
      · exact h.2 k hk
      · exact ⟨x, hx, List.mem_singleton.mp hk⟩
  | some u =>
    have ek : (putK kvs (Sum.inr x : Key) v).map (·.1) = kvs.map (·.1) := by
      unfold putK
      rw [valV_any, e, if_pos (by rfl), List.map_map]
      refine List.map_congr_left fun p _ => ?_
      show (if p.1 = (Sum.inr x : Key) then (p.1, v) else p).1 = p.1
      split <;> rfl
    unfold DKeys
    rw [ek]
    exact h
theorem val_key {kvs : List (Key × V)} {x : Str} {v : V} (h : valV kvs (Sum.inr x : Key) = some v) : (Sum.inr x : Key) ∈ kvs.map (·.1) := by
  have : (kvs.any fun kv => decide (kv.1 = (Sum.inr x : Key))) = true := by rw [valV_any, h]; rfl
  obtain ⟨p, hp, e⟩ := List.any_eq_true.mp this
  exact List.mem_map.mpr ⟨p, hp, of_decide_eq_true e⟩
def PrAt (H : Hp) (dp : Addr) (A : List Str) (p : Str → Option Int) : Prop := ∃ kvs, H dp = some (.dK kvs) ∧ DKeys kvs A ∧ ∀ v, valV kvs (Sum.inr v : Key) = (p v).map V.int
def BkAt (H : Hp) (db : Addr) (A : List Str) (L : List (Row × Addr)) (b : Str → Option Row) : Prop := ∃ kvs, H db = some (.dK kvs) ∧ DKeys kvs A ∧ ∀ v, (b v = none → valV kvs (Sum.inr v : Key) = none) ∧ ∀ r, b v = some r → ∃ q, (r, q) ∈ L ∧ valV kvs (Sum.inr v : Key) = some (.ref q)
def spIsLow : Sp := fun vs H Q _ => ∃ (dp t : Addr) (A : List Str) (s : LS) (r : Row), vs = [.ref dp, .ref t] ∧ PrAt H dp A s.p ∧ H t = some (.tup r.tup) ∧ Q (.bl (lowR s r)) H
def spLower : Sp := fun vs H Q _ => ∃ (dp db rl : Addr) (n : Nat) (A : List Str) (L : List (Row × Addr)) (rows : List Row) (s : LS), vs = [.ref dp, .ref db, .ref rl, .int n] ∧ dp ≠ db ∧ n ≤ 1000 ∧ A.length ≤ 40 ∧ (∀ r ∈ rows, r.b ∈ A) ∧ Rows H L rows ∧ H rl = some (.lst (L.map fun q => V.ref q.2)) ∧ PrAt H dp A s.p ∧ BkAt H db A L s.b ∧
  ∀ H', But2 H H' dp db → PrAt H' dp A (roundsR rows n s).1.p → BkAt H' db A L (roundsR rows n s).1.b → Q (optV (roundsR rows n s).2) H'
def spRingB : Sp := fun vs H Q _ => ∃ (db : Addr) (v : Str) (A : List Str) (L : List (Row × Addr)) (rows : List Row) (s : LS), vs = [.ref db, .str v] ∧ A.length ≤ 40 ∧ Rows H L rows ∧ BkAt H db A L s.b ∧ (∀ i, s.b (itB s i v) ≠ none) ∧
  ∀ (l : Addr) (i d : Nat) (H' : Hp), H l = none → Same H H' → H' l = some (.lst ((backL s (itB s i v) d).map V.str)) → 1 ≤ d → d ≤ A.length → itB s d (itB s i v) = itB s i v → Q (.ref l) H'
def spWalkB : Sp := fun vs H Q _ => ∃ (db : Addr) (v : Str) (i : Nat) (A : List Str) (L : List (Row × Addr)) (rows : List Row) (s : LS), vs = [.ref db, .str v] ∧ Rows H L rows ∧ BkAt H db A L s.b ∧ i ≤ 40 ∧ s.b (itB s i v) = none ∧ (∀ j, j < i → s.b (itB s j v) ≠ none) ∧
  ∀ (l : Addr) (H' : Hp), H l = none → Same H H' → H' l = some (.lst ((backL s v i).map V.str)) → Q (.ref l) H'
def timesN (l r : Int) : Int := if -(l.fdiv r) > 1 then -(l.fdiv r) else 1
def spNought : Sp := fun vs H Q _ => ∃ (l r : Int), vs = [.int l, .int r] ∧ r ≠ 0 ∧ r.natAbs < 2 ^ 3000 ∧ Q (.int (timesN l r)) H
section
variable {P : Program} {w : World} {K : PySem.W.Frag} {mg : Str → Option Value} {base : Heap} {C : Addr}
theorem sc_islow : FnScope ["prices", "row"] ["prices", "row"] (defScope s_is_lower) := ⟨rfl, rfl, rfl, by decide +kernel, rfl, by decide +kernel, by decide +kernel⟩
theorem ok_islow {f : Addr} {fd : FuncData} (F : Fun K "is_lower" "is_lower" s_is_lower f fd) : FnOk P w K mg base CX0 1 f fd ["prices", "row"] spIsLow := by
  refine F.ok sc_islow (fun vs H Q E h => ?_) (fun cdv A outer s H vs Q E hr h => ?_)
  · obtain ⟨dp, t, A, s, r, rfl, _⟩ := h
    rfl
  · obtain ⟨dp, t, A, s, r, rfl, ⟨kvs, ek, _, hv⟩, et, q⟩ := h
    have hu := hu_of hr
    refine ⟨_, (pss_cons (ps_if (pt_cmp (pc_dnotin hu (pe_ix ix_tup (pv 1) pe_int (fun _ _ => by rfl)) (pv 0))) (pss_one (ps_ret pe_bl)) pss_nil)
      (pss_one (ps_ret (pe_or (pe_cmp (pc_dnotin hu (pe_ix ix_tup (pv 1) pe_int (fun _ _ => by rfl)) (pv 0))) (pe_one (pe_cmpR op_lt (pe_op op_add (pe_dget hu (pv 0) (pe_ix ix_tup (pv 1) pe_int (fun _ _ => by rfl)) (fun _ _ => rfl)) (pe_ix ix_tup (pv 1) pe_int (fun _ _ => by rfl))) (pe_dget hu (pv 0) (pe_ix ix_tup (pv 1) pe_int (fun _ _ => by rfl)) (fun _ _ => rfl)) (nomark _))))))), ?_⟩
    refine ⟨_, rfl, t, _, _, .str r.a, rfl, rfl, SqT.of et, rfl, _, rfl, dp, _, rfl, DGet.k (k := Sum.inr r.a) ek, _, rfl, ?_⟩
    rw [hv, Option.isSome_map]
    cases ea : s.p r.a with
    | none =>
      refine iteT ?_
      unfold lowR at q
      rw [ea] at q
      exact q
    | some x =>
      have va : valV kvs (Sum.inr r.a : Key) = some (.int x) := by rw [hv, ea]; rfl
      refine iteF ⟨_, rfl, t, _, _, .str r.b, rfl, rfl, SqT.of et, rfl, _, rfl, dp, _, rfl, DGet.k (k := Sum.inr r.b) ek, _, rfl, ?_⟩
      rw [hv, Option.isSome_map]
      cases eb : s.p r.b with
      | none =>
        refine iteT ?_
        unfold lowR at q
        rw [ea, eb] at q
        exact q
      | some y =>
        have vb : valV kvs (Sum.inr r.b : Key) = some (.int y) := by rw [hv, eb]; rfl
        refine iteF ⟨_, rfl, _, rfl, t, _, _, .str r.a, rfl, rfl, SqT.of et, rfl, dp, _, rfl, by rw [← va]; exact DGet.k (k := Sum.inr r.a) ek, _, rfl, t, _, _, .int r.c, rfl, rfl, SqT.of et, rfl, _, _, rfl, rfl, _, rfl, _, rfl, t, _, _, .str r.b, rfl, rfl, SqT.of et, rfl, dp, _, rfl, by rw [← vb]; exact DGet.k (k := Sum.inr r.b) ek, _, _, rfl, rfl, ?_⟩
        unfold lowR at q
        rw [ea, eb] at q
        exact q
abbrev Nlower : List Str := ["prices", "lowered_by", "rows", "rounds", "late", "number", "row"]
theorem sc_lower : FnScope Nlower ["prices", "lowered_by", "rows", "rounds"] (defScope s_lower_prices) := ⟨rfl, rfl, rfl, by decide +kernel, rfl, by decide +kernel, by decide +kernel⟩
def LW (H : Hp) (dp db rl : Addr) (n : Nat) (A : List Str) (L : List (Row × Addr)) (q : LS × Option Str) (σ : St) (H' : Hp) : Prop := ∃ o5 o6, σ = [some (.ref dp), some (.ref db), some (.ref rl), some (.int n), some (optV q.2), o5, o6] ∧ But2 H H' dp db ∧ PrAt H' dp A q.1.p ∧ BkAt H' db A L q.1.b
theorem ok_lower {f : Addr} {fd : FuncData} (F : Fun K "lower_prices" "lower_prices" s_lower_prices f fd) (T : Txt K mg C) (cl : Can P w K mg base 1 "is_lower" ["prices", "row"] spIsLow) : FnOk P w K mg base CX0 2 f fd ["prices", "lowered_by", "rows", "rounds"] spLower := by
  refine F.ok sc_lower (fun vs H Q E h => ?_) (fun cdv A outer s H vs Q E hr h => ?_)
  · obtain ⟨dp, db, rl, n, A, L, rows, s, rfl, _⟩ := h
    rfl
  · obtain ⟨dp, db, rl, n, A, L, rows, s, rfl, hne, hn, hA, hin, RL, erl, Pr, Bk, q⟩ := h
    have hu := hu_of hr
    refine ⟨_, (pss_cons (ps_set (i := 4) sc_lower.nd rfl (Or.inl rfl) pe_non)
      (pss_cons (ps_for PassesOwn.never rfl (pi_range1 rfl T.range (pa_cons (pv 3) pa_nil)) (pg_name (i := 5) sc_lower.nd rfl (Or.inl rfl))
        (pss_cons (ps_set (i := 4) sc_lower.nd rfl (Or.inl rfl) pe_non)
      (pss_one (ps_for PassesOwn.never rfl (pi_list (pv 2)) (pg_name (i := 6) sc_lower.nd rfl (Or.inl rfl))
          (pss_one (ps_if (pt_val (pe_callC cl hr (by rfl) (pa_cons (pv 0) (pa_cons (pv 6) pa_nil))))
            (pss_cons (ps_dput hu (pv 0) (pe_ix ix_tup (pv 6) pe_int (fun _ _ => by rfl)) (pe_op op_add (pe_dget hu (pv 0) (pe_ix ix_tup (pv 6) pe_int (fun _ _ => by rfl)) (fun _ _ => rfl)) (pe_ix ix_tup (pv 6) pe_int (fun _ _ => by rfl))) rfl)
      (pss_cons (ps_dput hu (pv 1) (pe_ix ix_tup (pv 6) pe_int (fun _ _ => by rfl)) (pv 6) rfl)
      (pss_one (ps_set (i := 4) sc_lower.nd rfl (Or.inl rfl) (pe_ix ix_tup (pv 6) pe_int (fun _ _ => by rfl)))))) pss_nil))))))
      (pss_one (ps_ret (pv 4))))), ?_⟩
    have hL : L.length = rows.length := by rw [← RL.1, List.length_map]
    obtain ⟨kp, ekp, dkp, hkp⟩ := Pr
    obtain ⟨kb, ekb, dkb, hkb⟩ := Bk
    have r1 : rl ≠ dp := ne_of erl ekp (fun z => by cases z)
    have r2 : rl ≠ db := ne_of erl ekb (fun z => by cases z)
    have tq : ∀ {H' : Hp}, But2 H H' dp db → ∀ qq ∈ L, H' qq.2 = some (.tup qq.1.tup) := fun b2 qq hq => b2 _ _ (RL.2 qq hq) (ne_of (RL.2 qq hq) ekp (fun z => by cases z)) (ne_of (RL.2 qq hq) ekb (fun z => by cases z))
    refine ⟨_, rfl, _, rfl, by omega, by omega, ?_⟩
    rw [Int.toNat_natCast]
    refine for_range (n := n) (fun i σ' H' => LW H dp db rl n A L (roundsR rows i s) σ' H') ⟨_, _, rfl, fun b o e _ _ => e, ⟨kp, ekp, dkp, hkp⟩, ⟨kb, ekb, dkb, hkb⟩⟩ (fun i σ' H' hi h => ?_) (fun σ' H' h => ?_)
    · obtain ⟨o5, o6, rfl, b2, Pr, Bk⟩ := h
      refine ⟨_, rfl, rl, rfl, ⟨_, SqL.of (b2 _ _ erl r1 r2)⟩, for_list (K := K) (a := rl) (xs := L.map fun q => V.ref q.2) (fun j σ' H' => LW H dp db rl n A L ((rows.take j).foldl goR ((roundsR rows i s).1, none)) σ' H')
        ⟨_, _, rfl, b2, Pr, Bk⟩ (fun j σ' H' _ h => ?_) (fun j x σ' H' hx h => ?_) (fun σ' H' h => ?_)⟩
      · obtain ⟨_, _, _, b3, _⟩ := h
        exact SqL.of (b3 _ _ erl r1 r2)
      · obtain ⟨o5, o6, rfl, b3, Pr, Bk⟩ := h
        rw [List.getElem?_map] at hx
        cases eq : L[j]? with
        | none => rw [eq] at hx; cases hx
        | some qq =>
          rw [eq] at hx
          cases hx
          have hq := List.mem_of_getElem? eq
          have et := tq b3 qq hq
          have er : rows[j]? = some qq.1 := by rw [← RL.1, List.getElem?_map, eq]; rfl
          have hb := hin qq.1 (List.mem_of_getElem? er)
          have enx : (rows.take (j + 1)).foldl goR ((roundsR rows i s).1, none) = goR ((rows.take j).foldl goR ((roundsR rows i s).1, none)) qq.1 := by
            rw [List.take_add_one, er, List.foldl_append]
            rfl
          rw [enx]
          generalize (rows.take j).foldl goR ((roundsR rows i s).1, none) = st at Pr Bk
          refine ⟨_, rfl, _, rfl, dp, qq.2, A, st.1, qq.1, rfl, Pr, et, _, rfl, ?_⟩
          cases hl : lowR st.1 qq.1 with
          | false =>
            have eg : goR st qq.1 = st := by
              unfold goR
              rw [if_neg (by rw [hl]; exact Bool.false_ne_true)]
            rw [eg]
            exact iteF ⟨_, _, rfl, b3, Pr, Bk⟩
          | true =>
            have eg : goR st qq.1 = (putR st.1 qq.1, some qq.1.b) := by
              unfold goR
              rw [if_pos hl]
            rw [eg]
            obtain ⟨x, ex, _⟩ := low_yes hl
            obtain ⟨kvs, ek, dk, hv⟩ := Pr
            obtain ⟨kvb, ekb', dkb', hvb⟩ := Bk
            have va : valV kvs (Sum.inr qq.1.a : Key) = some (.int x) := by rw [hv, ex]; rfl
            have l1 := dk.len
            have l2 := dkb'.len
            refine iteT ⟨_, rfl, _, rfl, qq.2, _, _, .str qq.1.a, rfl, rfl, SqT.of et, rfl, dp, _, rfl, by rw [← va]; exact DGet.k (k := Sum.inr qq.1.a) ek, _, rfl, qq.2, _, _, .int qq.1.c, rfl, rfl, SqT.of et, rfl, _, _, rfl, rfl, _, rfl, _, rfl, qq.2, _, _, .str qq.1.b, rfl, rfl, SqT.of et, rfl, dp, _, rfl, DPut.k (k := Sum.inr qq.1.b) ek (small1000 (by omega)), ?_⟩
            have et1 : (upd H' dp (.dK (putK kvs (Sum.inr qq.1.b : Key) (.int (x + qq.1.c))))) qq.2 = some (.tup qq.1.tup) := by rw [upd_ne (ne_of et ek (fun z => by cases z))]; exact et
            have ekb1 : (upd H' dp (.dK (putK kvs (Sum.inr qq.1.b : Key) (.int (x + qq.1.c))))) db = some (.dK kvb) := by rw [upd_ne hne.symm]; exact ekb'
            have ep1 : (upd H' dp (.dK (putK kvs (Sum.inr qq.1.b : Key) (.int (x + qq.1.c))))) dp = some (.dK (putK kvs (Sum.inr qq.1.b : Key) (.int (x + qq.1.c)))) := upd_same
            have b4 : But2 H (upd H' dp (.dK (putK kvs (Sum.inr qq.1.b : Key) (.int (x + qq.1.c))))) dp db := fun b o e h1 h2 => by
              rw [upd_ne h1]
              exact b3 b o e h1 h2
            generalize upd H' dp (.dK (putK kvs (Sum.inr qq.1.b : Key) (.int (x + qq.1.c)))) = H4 at et1 ekb1 ep1 b4
            refine ⟨_, rfl, _, rfl, _, rfl, qq.2, _, _, .str qq.1.b, rfl, rfl, SqT.of et1, rfl, db, _, rfl, DPut.k (k := Sum.inr qq.1.b) ekb1 (small1000 (by omega)), ?_⟩
            have et2 : (upd H4 db (.dK (putK kvb (Sum.inr qq.1.b : Key) (.ref qq.2)))) qq.2 = some (.tup qq.1.tup) := by rw [upd_ne (ne_of et1 ekb1 (fun z => by cases z))]; exact et1
            refine ⟨_, rfl, qq.2, _, _, .str qq.1.b, rfl, rfl, SqT.of et2, rfl, _, _, rfl, fun b o e h1 h2 => ?_, ⟨_, by rw [upd_ne hne]; exact ep1, dk.put hb _, fun v => ?_⟩, ⟨_, upd_same, dkb'.put hb _, fun v => ?_⟩⟩
            · rw [upd_ne h2]
              exact b4 b o e h1 h2
            · rw [valV_put]
              by_cases hvb' : v = qq.1.b
              · rw [if_pos (congrArg Sum.inr hvb'), hvb', put_p_eq ex]
                rfl
              · rw [if_neg (fun z => hvb' (Sum.inr.inj z)), put_p_ne hvb']
                exact hv v
            · rw [valV_put]
              by_cases hvb' : v = qq.1.b
              · subst hvb'
                rw [if_pos rfl]
                refine ⟨fun z => ?_, fun r z => ?_⟩
                · rw [put_b_eq] at z; cases z
                · rw [put_b_eq] at z
                  cases z
                  exact ⟨qq.2, hq, rfl⟩
              · rw [if_neg (fun z => hvb' (Sum.inr.inj z))]
                show (_ = none → _) ∧ _
                rw [put_b_ne hvb']
                exact hvb v
      · have hT : (L.map fun q => V.ref q.2).length = rows.length := by rw [List.length_map, hL]
        rw [hT, List.take_length] at h
        exact h
    · obtain ⟨o5, o6, rfl, b3, Pr, Bk⟩ := h
      exact ⟨_, rfl, q _ b3 Pr Bk⟩
theorem sc_nought : FnScope ["left_over", "ring_cost"] ["left_over", "ring_cost"] (defScope s_rounds_to_nought) := ⟨rfl, rfl, rfl, by decide +kernel, rfl, by decide +kernel, by decide +kernel⟩
theorem ok_nought {f : Addr} {fd : FuncData} (F : Fun K "rounds_to_nought" "rounds_to_nought" s_rounds_to_nought f fd) (TM : TxtM mg) : FnOk P w K mg base CX0 1 f fd ["left_over", "ring_cost"] spNought := by
  refine F.ok sc_nought (fun vs H Q E h => ?_) (fun cdv A outer s H vs Q E hr h => ?_)
  · obtain ⟨l, r, rfl, _⟩ := h
    rfl
  · obtain ⟨l, r, rfl, h0, h4, q⟩ := h
    refine ⟨_, (pss_one (ps_ret (pe_callB (call_max2 rfl) (by rfl) TM.max b_max (pa_cons pe_int (pa_cons (pe_un un_neg (pe_op op_fdivG (pv 0) (pv 1))) pa_nil))))), ?_⟩
    exact ⟨_, rfl, _, rfl, _, _, rfl, rfl, ⟨h0, h4⟩, _, rfl, _, _, rfl, q⟩
end
end Net

namespace Net
open PySem L2
theorem neVs (x y : Str) : (!decide (V.str x = V.str y)) = !decide (x = y) := by
  by_cases h : x = y
  · rw [decide_eq_true h, h, decide_eq_true rfl]
  · rw [decide_eq_false h, decide_eq_false fun z => h (by injection z)]
def keyS : Key → Str
  | Sum.inr x => x
  | Sum.inl _ => ""
def fwdL (s : LS) (v : Str) (i : Nat) : List Str := (List.range i).map fun j => (rowB s (itB s j v)).nm
theorem fwdL_succ (s : LS) (v : Str) (i : Nat) : fwdL s v (i + 1) = fwdL s v i ++ [(rowB s (itB s i v)).nm] := by
  unfold fwdL
  rw [List.range_succ, List.map_append]
  rfl
theorem fwdL_len (s : LS) (v : Str) (i : Nat) : (fwdL s v i).length = i := by unfold fwdL; rw [List.length_map, List.length_range]
theorem fwdL_rev (s : LS) (v : Str) (i : Nat) : ((fwdL s v i).map V.str).reverse = (backL s v i).map V.str := by
  unfold backL
  rw [← List.map_reverse]
  rfl
theorem bk_get {H : Hp} {kvs : List (Key × V)} {L : List (Row × Addr)} {rows : List Row} {s : LS} (RL : Rows H L rows) (hv : ∀ v, (s.b v = none → valV kvs (Sum.inr v : Key) = none) ∧ ∀ r, s.b v = some r → ∃ q, (r, q) ∈ L ∧ valV kvs (Sum.inr v : Key) = some (.ref q)) {u : Str} (h : s.b u ≠ none) : ∃ q, valV kvs (Sum.inr u : Key) = some (.ref q) ∧ H q = some (.tup (rowB s u).tup) := by
  cases e : s.b u with
  | none => exact absurd e h
  | some r =>
    obtain ⟨q, hq, eq⟩ := (hv u).2 r e
    exact ⟨q, eq, by rw [rowB_some e]; exact RL.2 (r, q) hq⟩
section
variable {P : Program} {w : World} {K : PySem.W.Frag} {mg : Str → Option Value} {base : Heap} {C : Addr}
abbrev Nringb : List Str := ["lowered_by", "late", "corner", "number", "ring", "here"]
theorem sc_ringb : FnScope Nringb ["lowered_by", "late"] (defScope s_ring_behind) := ⟨rfl, rfl, rfl, by decide +kernel, rfl, by decide +kernel, by decide +kernel⟩
theorem ok_ringb {f : Addr} {fd : FuncData} (F : Fun K "ring_behind" "ring_behind" s_ring_behind f fd) (T : Txt K mg C) (TS : TxtS mg) : FnOk P w K mg base CX0 1 f fd ["lowered_by", "late"] spRingB := by
  refine F.ok sc_ringb (fun vs H Q E h => ?_) (fun cdv A outer s H vs Q E hr h => ?_)
  · obtain ⟨db, v, A, L, rows, s, rfl, _⟩ := h
    rfl
  · obtain ⟨db, v, A, L, rows, s, rfl, hA, RL, ⟨kvs, ek, dk, hv⟩, nev, q⟩ := h
    have hu := hu_of hr
    refine ⟨_, (pss_cons (ps_set (i := 2) sc_ringb.nd rfl (Or.inl rfl) (pv 1))
      (pss_cutE (ps_for PassesOwn.never rfl (pi_range1 rfl T.range (pa_cons (pe_callB call_lenD (by rfl) T.len b_len (pa_cons (pv 0) pa_nil)) pa_nil)) (pg_name (i := 3) sc_ringb.nd rfl (Or.inl rfl)) (pss_one (ps_set (i := 2) sc_ringb.nd rfl (Or.inl rfl) (pe_ix ix_tup (pe_dget hu (pv 0) (pv 2) (fun _ _ => rfl)) pe_int (fun _ _ => by rfl)))))
      (pss_cons (ps_set (i := 4) sc_ringb.nd rfl (Or.inl rfl) (pe_lst (pa_cons (pe_ix ix_tup (pe_dget hu (pv 0) (pv 2) (fun _ _ => rfl)) pe_int (fun _ _ => by rfl)) pa_nil)))
      (pss_cons (ps_set (i := 5) sc_ringb.nd rfl (Or.inl rfl) (pe_ix ix_tup (pe_dget hu (pv 0) (pv 2) (fun _ _ => rfl)) pe_int (fun _ _ => by rfl)))
      (pss_cutE (ps_while PassesOwn.never (pt_cmpR op_ne (pv 5) (pv 2) (nomark _))
        (pss_cons (ps_expr (pe_bm PySem.F.plainAttrs_list PySem.F.slot_list_append PySem.F.type_list_append mt_append (pv 4) (pa_cons (pe_ix ix_tup (pe_dget hu (pv 0) (pv 5) (fun _ _ => rfl)) pe_int (fun _ _ => by rfl)) pa_nil)))
      (pss_one (ps_set (i := 5) sc_ringb.nd rfl (Or.inl rfl) (pe_ix ix_tup (pe_dget hu (pv 0) (pv 5) (fun _ _ => rfl)) pe_int (fun _ _ => by rfl))))))
      (pss_one (ps_ret (pe_listRev (pv 4) rfl (by rfl) T.list (by rfl) TS.rev)))))))), ?_⟩
    have get := fun {u} h => bk_get (u := u) RL hv h
    have dl := dk.len
    refine ⟨_, rfl, fun σ' H' => H' = H ∧ ∃ o3, σ' = [some (.ref db), some (.str v), some (.str (itB s kvs.length v)), o3, none, none], ?_, ?_⟩
    · refine ⟨_, rfl, db, _, rfl, ek, _, rfl, by omega, by omega, ?_⟩
      rw [Int.toNat_natCast]
      refine for_range (n := kvs.length) (fun i σ' H' => H' = H ∧ ∃ o3, σ' = [some (.ref db), some (.str v), some (.str (itB s i v)), o3, none, none]) ⟨rfl, _, rfl⟩ (fun i σ' H' hi h => ?_) (fun σ' H' h => h)
      obtain ⟨rfl, o3, rfl⟩ := h
      obtain ⟨qa, eq, et⟩ := get (nev i)
      exact ⟨_, rfl, _, rfl, db, _, rfl, by rw [← eq]; exact DGet.k (k := Sum.inr (itB s i v)) ek, qa, _, _, .str (rowB s (itB s i v)).a, rfl, rfl, SqT.of et, rfl, rfl, _, rfl⟩
    rintro σ1 H1 ⟨rfl, o3, rfl⟩
    -- on the ring
    have hks : ∀ x, s.b x ≠ none → x ∈ kvs.map fun kv => keyS kv.1 := fun x hx => by
      obtain ⟨qa, eq, _⟩ := get hx
      obtain ⟨p, hp, ep⟩ := List.mem_map.mp (val_key eq)
      exact List.mem_map.mpr ⟨p, hp, by rw [ep]; rfl⟩
    obtain ⟨d0, hd1, hd2, hd3⟩ := on_ring hks nev
    rw [List.length_map] at hd2 hd3
    have nevc : ∀ i, s.b (itB s i (itB s kvs.length v)) ≠ none := fun i => by rw [← itB_add]; exact nev _
    generalize hc : itB s kvs.length v = c at hd3 nevc
    obtain ⟨q0, eq0, et0⟩ := get (nevc 0)
    have eq0' : valV kvs (Sum.inr c : Key) = some (.ref q0) := eq0
    refine ⟨_, rfl, _, rfl, db, _, rfl, by rw [← eq0']; exact DGet.k (k := Sum.inr c) ek, q0, _, _, .str (rowB s c).nm, rfl, rfl, SqT.of et0, rfl, (by show 1 ≤ sizeLine; decide), fun rl hrl => ?_⟩
    have s1 := Same.new (o := .lst [.str (rowB s c).nm]) hrl
    have e1 : (upd H1 rl (.lst [.str (rowB s c).nm])) rl = some (.lst ((fwdL s c 1).map V.str)) := upd_same
    generalize upd H1 rl (.lst [.str (rowB s c).nm]) = H2 at s1 e1
    refine ⟨_, rfl, _, rfl, db, _, rfl, by rw [← eq0']; exact DGet.k (k := Sum.inr c) (s1 _ _ ek), q0, _, _, .str (rowB s c).a, rfl, rfl, SqT.of (s1 _ _ et0), rfl, ?_⟩
    refine ⟨fun σ' H' => ∃ (j : Nat) (o3 : Option V), σ' = [some (.ref db), some (.str v), some (.str c), o3, some (.ref rl), some (.str c)] ∧ Same H1 H' ∧ H' rl = some (.lst ((fwdL s c (j + 1)).map V.str)) ∧ itB s (j + 1) c = c ∧ j + 1 ≤ d0, ?_, ?_⟩
    · refine ⟨fun m σ' H' => ∃ (j : Nat), m = d0 - (j + 1) ∧ j + 1 ≤ d0 ∧ (∃ o3, σ' = [some (.ref db), some (.str v), some (.str c), o3, some (.ref rl), some (.str (itB s (j + 1) c))]) ∧ Same H1 H' ∧ H' rl = some (.lst ((fwdL s c (j + 1)).map V.str)), ⟨_, 0, rfl, hd1, ⟨_, rfl⟩, s1, e1⟩, ?_⟩
      rintro m σ' H' ⟨j, rfl, hj, ⟨o3, rfl⟩, s2, e2⟩
      refine ⟨_, rfl, _, rfl, rfl, _, rfl, ?_⟩
      show if (!decide (V.str (itB s (j + 1) c) = V.str c)) = true then _ else _
      rw [neVs]
      by_cases hjc : itB s (j + 1) c = c
      · rw [decide_eq_true hjc]
        exact iteF ⟨j, o3, by rw [hjc], s2, e2, hjc, hj⟩
      · rw [decide_eq_false hjc]
        have hlt : j + 1 < d0 := Nat.lt_of_le_of_ne hj fun z => hjc (by rw [z]; exact hd3)
        obtain ⟨qa, eq, et⟩ := get (nevc (j + 1))
        refine iteT ⟨fun σ'' H'' => ∃ (j : Nat), d0 - (j + 1) < d0 - (_ + 1) ∧ j + 1 ≤ d0 ∧ (∃ o3, σ'' = [some (.ref db), some (.str v), some (.str c), o3, some (.ref rl), some (.str (itB s (j + 1) c))]) ∧ Same H1 H'' ∧ H'' rl = some (.lst ((fwdL s c (j + 1)).map V.str)), fun σ'' H'' ⟨j', a, b⟩ => ⟨_, a, j', rfl, b⟩, ?_⟩
        refine ⟨_, rfl, .inl ⟨rfl, _, SqL.of e2⟩, _, rfl, _, rfl, db, _, rfl, by rw [← eq]; exact DGet.k (k := Sum.inr (itB s (j + 1) c)) (s2 _ _ ek), qa, _, _, .str (rowB s (itB s (j + 1) c)).nm, rfl, rfl, SqT.of (s2 _ _ et), rfl, rl, _, _, rfl, rfl, e2, small1000 (by rw [List.length_map, fwdL_len]; omega), ?_⟩
        have s3 : Same H1 (upd H' rl (.lst ((fwdL s c (j + 1)).map V.str ++ [.str (rowB s (itB s (j + 1) c)).nm]))) := fun b ob z => by
          rw [upd_ne (ne_of_none z hrl)]
          exact s2 _ _ z
        have e3 : (upd H' rl (.lst ((fwdL s c (j + 1)).map V.str ++ [.str (rowB s (itB s (j + 1) c)).nm]))) rl = some (.lst ((fwdL s c (j + 1 + 1)).map V.str)) := by
          rw [upd_same, fwdL_succ s c (j + 1), List.map_append]
          rfl
        generalize upd H' rl (.lst ((fwdL s c (j + 1)).map V.str ++ [.str (rowB s (itB s (j + 1) c)).nm])) = H3 at s3 e3
        exact ⟨_, rfl, _, rfl, db, _, rfl, by rw [← eq]; exact DGet.k (k := Sum.inr (itB s (j + 1) c)) (s3 _ _ ek), qa, _, _, .str (rowB s (itB s (j + 1) c)).a, rfl, rfl, SqT.of (s3 _ _ et), rfl, j + 1, by omega, by omega, ⟨_, rfl⟩, s3, e3⟩
    rintro σ3 H3 ⟨j, o3', rfl, s3, e3, hjc, hj⟩
    refine ⟨_, rfl, rl, _, rfl, SqL.of e3, fun l hl => ?_⟩
    have hl1 : H1 l = none := by
      cases z : H1 l with
      | none => rfl
      | some o => rw [s3 _ _ z] at hl; cases hl
    refine q l kvs.length (j + 1) _ hl1 (s3.upd hl) ?_ (by omega) (by omega) (by rw [hc]; exact hjc)
    rw [upd_same, fwdL_rev, hc]
theorem sc_walkb : FnScope ["lowered_by", "place", "walk", "here"] ["lowered_by", "place"] (defScope s_walk_behind) := ⟨rfl, rfl, rfl, by decide +kernel, rfl, by decide +kernel, by decide +kernel⟩
theorem ok_walkb {f : Addr} {fd : FuncData} (F : Fun K "walk_behind" "walk_behind" s_walk_behind f fd) (T : Txt K mg C) (TS : TxtS mg) : FnOk P w K mg base CX0 1 f fd ["lowered_by", "place"] spWalkB := by
  refine F.ok sc_walkb (fun vs H Q E h => ?_) (fun cdv A outer s H vs Q E hr h => ?_)
  · obtain ⟨db, v, i, A, L, rows, s, rfl, _⟩ := h
    rfl
  · obtain ⟨db, v, i, A, L, rows, s, rfl, RL, ⟨kvs, ek, dk, hv⟩, hi, hend, hgo, q⟩ := h
    have hu := hu_of hr
    refine ⟨_, (pss_cons (ps_set (i := 2) sc_walkb.nd rfl (Or.inl rfl) (pe_lst pa_nil))
      (pss_cons (ps_set (i := 3) sc_walkb.nd rfl (Or.inl rfl) (pv 1))
      (pss_cutE (ps_while PassesOwn.never (pt_cmp (pc_din hu (pv 3) (pv 0)))
        (pss_cons (ps_expr (pe_bm PySem.F.plainAttrs_list PySem.F.slot_list_append PySem.F.type_list_append mt_append (pv 2) (pa_cons (pe_ix ix_tup (pe_dget hu (pv 0) (pv 3) (fun _ _ => rfl)) pe_int (fun _ _ => by rfl)) pa_nil)))
      (pss_one (ps_set (i := 3) sc_walkb.nd rfl (Or.inl rfl) (pe_ix ix_tup (pe_dget hu (pv 0) (pv 3) (fun _ _ => rfl)) pe_int (fun _ _ => by rfl))))))
      (pss_one (ps_ret (pe_listRev (pv 2) rfl (by rfl) T.list (by rfl) TS.rev)))))), ?_⟩
    have get := fun {u} h => bk_get (u := u) RL hv h
    refine ⟨by decide, fun rl hrl => ?_⟩
    have s1 := Same.new (o := .lst []) hrl
    have e1 : (upd H rl (.lst [])) rl = some (.lst ((fwdL s v 0).map V.str)) := upd_same
    generalize upd H rl (.lst []) = H1 at s1 e1
    refine ⟨_, rfl, fun σ' H' => (∃ o3, σ' = [some (.ref db), some (.str v), some (.ref rl), o3]) ∧ Same H H' ∧ H' rl = some (.lst ((fwdL s v i).map V.str)), ?_, ?_⟩
    · refine ⟨fun m σ' H' => ∃ (j : Nat), m = i - j ∧ j ≤ i ∧ σ' = [some (.ref db), some (.str v), some (.ref rl), some (.str (itB s j v))] ∧ Same H H' ∧ H' rl = some (.lst ((fwdL s v j).map V.str)), ⟨_, 0, rfl, Nat.zero_le _, rfl, s1, e1⟩, ?_⟩
      rintro m σ' H' ⟨j, rfl, hj, rfl, s2, e2⟩
      refine ⟨_, rfl, _, rfl, db, _, rfl, DGet.k (k := Sum.inr (itB s j v)) (s2 _ _ ek), _, rfl, ?_⟩
      by_cases hji : j = i
      · subst hji
        rw [(hv _).1 hend]
        exact iteF ⟨⟨_, rfl⟩, s2, e2⟩
      · obtain ⟨qa, eq, et⟩ := get (hgo j (by omega))
        rw [eq]
        refine iteT ⟨fun σ'' H'' => ∃ (j' : Nat), i - j' < i - j ∧ j' ≤ i ∧ σ'' = [some (.ref db), some (.str v), some (.ref rl), some (.str (itB s j' v))] ∧ Same H H'' ∧ H'' rl = some (.lst ((fwdL s v j').map V.str)), fun σ'' H'' ⟨j', a, b⟩ => ⟨_, a, j', rfl, b⟩, ?_⟩
        refine ⟨_, rfl, .inl ⟨rfl, _, SqL.of e2⟩, _, rfl, _, rfl, db, _, rfl, by rw [← eq]; exact DGet.k (k := Sum.inr (itB s j v)) (s2 _ _ ek), qa, _, _, .str (rowB s (itB s j v)).nm, rfl, rfl, SqT.of (s2 _ _ et), rfl, rl, _, _, rfl, rfl, e2, small1000 (by rw [List.length_map, fwdL_len]; omega), ?_⟩
        have s3 : Same H (upd H' rl (.lst ((fwdL s v j).map V.str ++ [.str (rowB s (itB s j v)).nm]))) := fun b ob z => by
          rw [upd_ne (ne_of_none z hrl)]
          exact s2 _ _ z
        have e3 : (upd H' rl (.lst ((fwdL s v j).map V.str ++ [.str (rowB s (itB s j v)).nm]))) rl = some (.lst ((fwdL s v (j + 1)).map V.str)) := by
          rw [upd_same, fwdL_succ s v j, List.map_append]
          rfl
        generalize upd H' rl (.lst ((fwdL s v j).map V.str ++ [.str (rowB s (itB s j v)).nm])) = H3 at s3 e3
        exact ⟨_, rfl, _, rfl, db, _, rfl, by rw [← eq]; exact DGet.k (k := Sum.inr (itB s j v)) (s3 _ _ ek), qa, _, _, .str (rowB s (itB s j v)).a, rfl, rfl, SqT.of (s3 _ _ et), rfl, j + 1, by omega, by omega, rfl, s3, e3⟩
    rintro σ3 H3 ⟨⟨o3, rfl⟩, s3, e3⟩
    refine ⟨_, rfl, rl, _, rfl, SqL.of e3, fun l hl => ?_⟩
    have hl1 : H l = none := by
      cases z : H l with
      | none => rfl
      | some o => rw [s3 _ _ z] at hl; cases hl
    refine q l _ hl1 (s3.upd hl) ?_
    rw [upd_same, fwdL_rev]
end
end Net

namespace Net
open PySem L2
/-! ### what costs are found -/
theorem Path.back {ti : List Row} {b : Str} {ws : List Str} {x : Str} (p : Path (stepsR true ti) b ws x) : Path (stepsR false ti) x ws.reverse b := by
  induction p with
  | nil => exact .nil
  | snoc p h ih =>
    obtain ⟨r, hr, e⟩ := List.mem_map.mp h
    rw [List.reverse_append]
    have e' : (r.nm, r.b, r.a) = (_, _, _) := e
    injection e' with e1 e2
    injection e2 with e2 e3
    subst e1 e2 e3
    exact Path.cons (List.mem_map.mpr ⟨r, hr, rfl⟩) ih
section
open Classical
theorem in_from {S : NS} {a x : Str} : x ∈ membersD S (.from_ a) ↔ x ∈ S.pl ∧ ∃ ws, Path (stepsR false S.ti) a ws x := by
  unfold membersD
  rw [List.mem_filter]
  show _ ∧ reachB _ _ _ = true ↔ _
  rw [reach_iff]
theorem in_to {S : NS} {b x : Str} : x ∈ membersD S (.to_ b) ↔ x ∈ S.pl ∧ ∃ ws, Path (stepsR true S.ti) b ws x := by
  unfold membersD
  rw [List.mem_filter]
  show _ ∧ reachB _ _ _ = true ↔ _
  rw [reach_iff]
end
/-- a net as is needed here -/
structure NetC (S : NS) : Prop where
  ndP : S.pl.Nodup
  ndT : S.nms.Nodup
  lenP : S.pl.length ≤ 20
  lenT : S.ti.length ≤ 40
  ends : ∀ r ∈ S.ti, r.a ∈ S.pl ∧ r.b ∈ S.pl
  ne : ∀ r ∈ S.ti, r.a ≠ r.b
  bc : ∀ r ∈ S.ti, BC r.c
theorem from_self {S : NS} {a : Str} (h : a ∈ S.pl) : a ∈ membersD S (.from_ a) := in_from.mpr ⟨h, [], .nil⟩
theorem to_self {S : NS} {a : Str} (h : a ∈ S.pl) : a ∈ membersD S (.to_ a) := in_to.mpr ⟨h, [], .nil⟩
theorem from_step {S : NS} (g : NetC S) {a : Str} {r : Row} (hr : r ∈ S.ti) (h : r.a ∈ membersD S (.from_ a)) : r.b ∈ membersD S (.from_ a) := by
  obtain ⟨_, ws, p⟩ := in_from.mp h
  exact in_from.mpr ⟨(g.ends r hr).2, _, .snoc p (List.mem_map.mpr ⟨r, hr, rfl⟩)⟩
theorem to_step {S : NS} (g : NetC S) {b : Str} {r : Row} (hr : r ∈ S.ti) (h : r.b ∈ membersD S (.to_ b)) : r.a ∈ membersD S (.to_ b) := by
  obtain ⟨_, ws, p⟩ := in_to.mp h
  exact in_to.mpr ⟨(g.ends r hr).1, _, .snoc p (List.mem_map.mpr ⟨r, hr, rfl⟩)⟩
theorem to_from {S : NS} {b x : Str} (hb : b ∈ S.pl) (h : x ∈ membersD S (.to_ b)) : b ∈ membersD S (.from_ x) := by
  obtain ⟨_, ws, p⟩ := in_to.mp h
  exact in_from.mpr ⟨hb, _, p.back⟩
theorem path_to_b {S : NS} (g : NetC S) {a b : Str} {ws : List Str} {x : Str} (p : Path (stepsR false S.ti) a ws x) (h : x ∈ membersD S (.to_ b)) : a ∈ membersD S (.to_ b) := by
  induction p with
  | nil => exact h
  | snoc p hs ih =>
    obtain ⟨r, hr, e⟩ := List.mem_map.mp hs
    have e' : (r.nm, r.a, r.b) = (_, _, _) := e
    injection e' with e1 e2
    injection e2 with e2 e3
    subst e1 e2 e3
    exact ih (to_step g hr h)
noncomputable section
open Classical
def aliveL (S : NS) (a b : Str) : List Str := (membersD S (.from_ a)).filter fun x => decide (x ∈ membersD S (.to_ b))
def deadL (S : NS) (a b : Str) : List Str := (membersD S (.from_ a)).filter fun x => !decide (x ∈ membersD S (.to_ b))
def rowsA (S : NS) (a b : Str) : List Row := S.ti.filter fun r => decide (r.a ∈ aliveL S a b) && decide (r.b ∈ aliveL S a b)
def st0 (a : Str) : LS := ⟨fun v => if v = a then some 0 else none, fun _ => none⟩
def endS (S : NS) (a b : Str) : LS × Option Str := roundsR (rowsA S a b) (aliveL S a b).length (st0 a)
def cheapS (s : LS) (b : Str) (k : Int) : Bool := match s.p b with
  | none => false
  | some x => decide (x ≤ k)
def vdC (S : NS) (a b : Str) (k : Int) : Bool := decide (b ∈ membersD S (.from_ a)) && ((endS S a b).2.isSome || cheapS (endS S a b).1 b k)
end
theorem alive_iff {S : NS} {a b x : Str} : x ∈ aliveL S a b ↔ x ∈ membersD S (.from_ a) ∧ x ∈ membersD S (.to_ b) := by
  unfold aliveL
  rw [List.mem_filter]
  exact ⟨fun h => ⟨h.1, of_decide_eq_true h.2⟩, fun h => ⟨h.1, decide_eq_true h.2⟩⟩
theorem dead_iff {S : NS} {a b x : Str} : x ∈ deadL S a b ↔ x ∈ membersD S (.from_ a) ∧ x ∉ membersD S (.to_ b) := by
  unfold deadL
  rw [List.mem_filter]
  refine ⟨fun h => ⟨h.1, fun z => ?_⟩, fun h => ⟨h.1, ?_⟩⟩
  · have := h.2
    rw [decide_eq_true z] at this
    cases this
  · rw [decide_eq_false h.2]; rfl
theorem rowsA_iff {S : NS} {a b : Str} {r : Row} : r ∈ rowsA S a b ↔ r ∈ S.ti ∧ r.a ∈ aliveL S a b ∧ r.b ∈ aliveL S a b := by
  unfold rowsA
  rw [List.mem_filter, Bool.and_eq_true_iff]
  exact ⟨fun h => ⟨h.1, of_decide_eq_true h.2.1, of_decide_eq_true h.2.2⟩, fun h => ⟨h.1, decide_eq_true h.2.1, decide_eq_true h.2.2⟩⟩
theorem members_nd {S : NS} (g : NetC S) (k : Kd) : (membersD S k).Nodup := List.Pairwise.filter _ g.ndP
theorem members_pl {S : NS} {k : Kd} {x : Str} (h : x ∈ membersD S k) : x ∈ S.pl := (List.mem_filter.mp h).1
theorem alive_nd {S : NS} (g : NetC S) (a b : Str) : (aliveL S a b).Nodup := List.Pairwise.filter _ (members_nd g _)
theorem dead_nd {S : NS} (g : NetC S) (a b : Str) : (deadL S a b).Nodup := List.Pairwise.filter _ (members_nd g _)
theorem alive_len {S : NS} (g : NetC S) (a b : Str) : (aliveL S a b).length ≤ 20 := Nat.le_trans (nodup_len (alive_nd g a b) (m := S.pl) fun x hx => members_pl (alive_iff.mp hx).1) g.lenP
theorem alive_a {S : NS} (g : NetC S) {a b : Str} (ha : a ∈ S.pl) (hb : b ∈ S.pl) (h : b ∈ membersD S (.from_ a)) : a ∈ aliveL S a b := by
  obtain ⟨_, ws, p⟩ := in_from.mp h
  exact alive_iff.mpr ⟨from_self ha, path_to_b g p (to_self hb)⟩
theorem alive_b {S : NS} {a b : Str} (hb : b ∈ S.pl) (h : b ∈ membersD S (.from_ a)) : b ∈ aliveL S a b := alive_iff.mpr ⟨h, to_self hb⟩
theorem alive_go {S : NS} (g : NetC S) {a b : Str} {s : LS} (st : ∀ r ∈ rowsA S a b, Settled s r) (ha : ∃ x, s.p a = some x) {ws : List Str} {x : Str} (p : Path (stepsR false S.ti) a ws x) (hx : x ∈ membersD S (.to_ b)) (hpl : a ∈ S.pl) : ∃ y, s.p x = some y := by
  induction p with
  | nil => exact ha
  | snoc p hs ih =>
    obtain ⟨r, hr, e⟩ := List.mem_map.mp hs
    have e' : (r.nm, r.a, r.b) = (_, _, _) := e
    injection e' with e1 e2
    injection e2 with e2 e3
    subst e1 e2 e3
    have h1 := to_step g hr hx
    obtain ⟨y, ey⟩ := ih h1
    have hfa : r.a ∈ membersD S (.from_ a) := in_from.mpr ⟨(g.ends r hr).1, _, p⟩
    obtain ⟨z, ez, _⟩ := st r (rowsA_iff.mpr ⟨hr, alive_iff.mpr ⟨hfa, h1⟩, alive_iff.mpr ⟨from_step g hr hfa, hx⟩⟩) y ey
    exact ⟨z, ez⟩
/-- the run -/
structure RunC (S : NS) (a b : Str) (now : Nat) (lr tau : Str → Nat) : Prop where
  inv : LI (rowsA S a b) (rowsA S a b) [] (aliveL S a b).length now (st0 a) (endS S a b).1 (endS S a b).2 lr tau
  pos : 1 ≤ (aliveL S a b).length
  ends : ∀ r ∈ rowsA S a b, r.a ∈ aliveL S a b ∧ r.b ∈ aliveL S a b
  sub : ∀ r ∈ rowsA S a b, r ∈ S.ti
  ne : ∀ r ∈ rowsA S a b, r.a ≠ r.b
theorem run_of {S : NS} (g : NetC S) {a b : Str} (ha : a ∈ S.pl) (hb : b ∈ S.pl) (h : b ∈ membersD S (.from_ a)) : ∃ now lr tau, RunC S a b now lr tau := by
  have h1 : 1 ≤ (aliveL S a b).length := Nat.one_le_iff_ne_zero.mpr fun z => by
    have := alive_a g ha hb h
    rw [List.length_eq_zero_iff.mp z] at this
    cases this
  have hne : ∀ r ∈ rowsA S a b, r.a ≠ r.b := fun r hr => g.ne r (rowsA_iff.mp hr).1
  obtain ⟨n, l, t, I⟩ := LI.rounds (s0 := st0 a) (fun _ => rfl) hne _ h1
  exact ⟨n, l, t, I, h1, fun r hr => (rowsA_iff.mp hr).2, fun r hr => (rowsA_iff.mp hr).1, hne⟩
/-! papers -/
def DearP (S : NS) (a b : Str) (k : Int) (kv : List (Str × Int)) (dead : List Str) : Prop :=
  (kv.map (·.1) ++ dead).Nodup ∧ (∀ x ∈ kv.map (·.1) ++ dead, x ∈ S.pl) ∧ b ∉ dead ∧ (a ∈ kv.map (·.1) ∨ a ∈ dead) ∧ (∀ r ∈ S.ti, r.a ∈ dead → r.b ∈ dead) ∧
  (∀ r ∈ S.ti, ∀ x, (r.a, x) ∈ kv → r.b ∉ dead → ∃ y, (r.b, y) ∈ kv ∧ y ≤ x + r.c) ∧ ∀ x y, (a, x) ∈ kv → (b, y) ∈ kv → x + k < y
inductive StrW (S : NS) : Str → List (List Str × Int) → Str → Int → Prop
  | nil (a : Str) : StrW S a [] a 0
  | cons {a c b : Str} {ws : List Str} {t tot : Int} {rest : List (List Str × Int)} (h1 : WalkP S a c ws) (h2 : 1 ≤ t) (h3 : 1 < t → c = a) (hl : ws.length ≤ 100) (hr : StrW S c rest b tot) : StrW S a ((ws, t) :: rest) b (t * costOf S.ti ws + tot)
theorem dear_unreached {S : NS} (g : NetC S) {a b : Str} {k : Int} (ha : a ∈ S.pl) (h : b ∉ membersD S (.from_ a)) : DearP S a b k [] (membersD S (.from_ a)) := by
  refine ⟨members_nd g _, fun x hx => members_pl hx, h, .inr (from_self ha), fun r hr hd => from_step g hr hd, fun r _ x hx => (by cases hx), fun x y hx => (by cases hx)⟩
theorem dear_priced {S : NS} (g : NetC S) {a b : Str} {k : Int} (ha : a ∈ S.pl) (hb : b ∈ S.pl) (h : b ∈ membersD S (.from_ a)) (hl : (endS S a b).2 = none) {f : Str → Int} (hf : ∀ x ∈ aliveL S a b, (endS S a b).1.p x = some (f x)) (hk : k < f b) :
    DearP S a b k ((aliveL S a b).map fun x => (x, f x)) (deadL S a b) := by
  obtain ⟨now, lr, tau, R⟩ := run_of g ha hb h
  have st := still_settled R.pos hl
  have ek : ((aliveL S a b).map fun x => (x, f x)).map (·.1) = aliveL S a b := by
    rw [List.map_map]
    exact List.map_id' _
  have hin : ∀ {x : Str} {y : Int}, (x, y) ∈ ((aliveL S a b).map fun x => (x, f x)) → x ∈ aliveL S a b ∧ y = f x := fun {x y} hx => by
    obtain ⟨z, hz, e⟩ := List.mem_map.mp hx
    have e1 : z = x := congrArg Prod.fst e
    have e2 : f z = y := congrArg Prod.snd e
    subst e1
    exact ⟨hz, e2.symm⟩
  unfold DearP
  rw [ek]
  refine ⟨?_, fun x hx => ?_, fun z => (dead_iff.mp z).2 (to_self hb), .inl (alive_a g ha hb h), fun r hr hd => ?_, fun r hr x hx hd => ?_, fun x y hx hy => ?_⟩
  · rw [List.nodup_append]
    refine ⟨alive_nd g a b, dead_nd g a b, fun x hx y hy z => ?_⟩
    rw [← z] at hy
    exact (dead_iff.mp hy).2 (alive_iff.mp hx).2
  · rcases List.mem_append.mp hx with hx | hx
    · exact members_pl (alive_iff.mp hx).1
    · exact members_pl (dead_iff.mp hx).1
  · obtain ⟨h1, h2⟩ := dead_iff.mp hd
    exact dead_iff.mpr ⟨from_step g hr h1, fun z => h2 (to_step g hr z)⟩
  · obtain ⟨hx1, rfl⟩ := hin hx
    have hfb := from_step g hr (alive_iff.mp hx1).1
    have htb : r.b ∈ membersD S (.to_ b) := Classical.byContradiction fun z => hd (dead_iff.mpr ⟨hfb, z⟩)
    have hab : r.b ∈ aliveL S a b := alive_iff.mpr ⟨hfb, htb⟩
    obtain ⟨y, ey, hy⟩ := st r (rowsA_iff.mpr ⟨hr, hx1, hab⟩) _ (hf _ hx1)
    have ey' : (endS S a b).1.p r.b = some y := ey
    rw [hf _ hab] at ey'
    cases ey'
    exact ⟨_, List.mem_map.mpr ⟨r.b, hab, rfl⟩, hy⟩
  · obtain ⟨hx1, rfl⟩ := hin hx
    obtain ⟨hy1, rfl⟩ := hin hy
    obtain ⟨z, ez, hz⟩ := R.inv.mo a 0 (by show (if a = a then some (0 : Int) else none) = _; rw [if_pos rfl])
    rw [hf _ hx1] at ez
    cases ez
    omega
/-- all alive places are priced where nothing was lowered late -/
theorem priced_all {S : NS} (g : NetC S) {a b : Str} (ha : a ∈ S.pl) (hb : b ∈ S.pl) (h : b ∈ membersD S (.from_ a)) (hl : (endS S a b).2 = none) : ∀ x ∈ aliveL S a b, ∃ y, (endS S a b).1.p x = some y := fun x hx => by
  obtain ⟨now, lr, tau, R⟩ := run_of g ha hb h
  have st := still_settled R.pos hl
  obtain ⟨z, ez, _⟩ := R.inv.mo a 0 (by show (if a = a then some (0 : Int) else none) = _; rw [if_pos rfl])
  obtain ⟨h1, h2⟩ := alive_iff.mp hx
  obtain ⟨_, ws, p⟩ := in_from.mp h1
  exact alive_go g st ⟨z, ez⟩ p h2 ha
theorem bk_row {S : NS} {a b : Str} {now : Nat} {lr tau : Str → Nat} (R : RunC S a b now lr tau) : ∀ u r, (endS S a b).1.b u = some r → r ∈ rowsA S a b ∧ r.b = u := fun u r e => let ⟨h1, h2, _⟩ := R.inv.bk u r e; ⟨h1, h2⟩
/-- the walk behind b -/
theorem walk_found {S : NS} (g : NetC S) {a b : Str} (ha : a ∈ S.pl) (hb : b ∈ S.pl) (h : b ∈ membersD S (.from_ a)) (hl : (endS S a b).2 = none) {x : Int} (hx : (endS S a b).1.p b = some x) :
    ∃ i, i ≤ 20 ∧ (endS S a b).1.b (itB (endS S a b).1 i b) = none ∧ (∀ j, j < i → (endS S a b).1.b (itB (endS S a b).1 j b) ≠ none) ∧ Path (stepsR false S.ti) a (backL (endS S a b).1 b i) b ∧ costOf S.ti (backL (endS S a b).1 b i) = x := by
  obtain ⟨now, lr, tau, R⟩ := run_of g ha hb h
  have st := still_settled R.pos hl
  obtain ⟨i, hi, he, hg⟩ := back_ends R.inv st g.ndT R.sub R.ne R.ends (alive_b hb h)
  obtain ⟨y, ey, e⟩ := back_settled R.inv st g.ndT R.sub i hg x hx
  have := (R.inv.bn _ he).2
  have ey' : (endS S a b).1.p (itB (endS S a b).1 i b) = some y := ey
  rw [ey'] at this
  have hia : itB (endS S a b).1 i b = a ∧ y = 0 := by
    have h2 : some y = if itB (endS S a b).1 i b = a then some (0 : Int) else none := this
    by_cases hz : itB (endS S a b).1 i b = a
    · rw [if_pos hz] at h2
      exact ⟨hz, Option.some.inj h2⟩
    · rw [if_neg hz] at h2
      cases h2
  have p := back_path R.sub (bk_row R) i hg
  rw [hia.1] at p
  exact ⟨i, Nat.le_trans hi (alive_len g a b), he, hg, p, by rw [hia.2] at e; omega⟩
/-- the ring behind a late place -/
theorem ring_found {S : NS} (g : NetC S) {a b v : Str} (ha : a ∈ S.pl) (hb : b ∈ S.pl) (h : b ∈ membersD S (.from_ a)) (hl : (endS S a b).2 = some v) :
    (∀ i, (endS S a b).1.b (itB (endS S a b).1 i v) ≠ none) ∧ ∀ i d, 1 ≤ d → itB (endS S a b).1 d (itB (endS S a b).1 i v) = itB (endS S a b).1 i v →
      itB (endS S a b).1 i v ∈ aliveL S a b ∧ Path (stepsR false S.ti) (itB (endS S a b).1 i v) (backL (endS S a b).1 (itB (endS S a b).1 i v) d) (itB (endS S a b).1 i v) ∧ costOf S.ti (backL (endS S a b).1 (itB (endS S a b).1 i v) d) < 0 ∧
      ∃ r ws, backL (endS S a b).1 (itB (endS S a b).1 i v) d = r.nm :: ws ∧ r ∈ S.ti ∧ r.a = itB (endS S a b).1 i v := by
  obtain ⟨now, lr, tau, R⟩ := run_of g ha hb h
  have I := R.inv
  rw [hl] at I
  have nev := never_ends I R.ends
  refine ⟨nev, fun i d hd e => ?_⟩
  have nevc : ∀ j, (endS S a b).1.b (itB (endS S a b).1 j (itB (endS S a b).1 i v)) ≠ none := fun j => by rw [← itB_add]; exact nev _
  generalize itB (endS S a b).1 i v = c at e nevc
  have p := back_path R.sub (bk_row R) d fun j _ => nevc j
  rw [e] at p
  have neg := ring_neg R.inv g.ndT R.sub R.ne hd (fun j _ => nevc j) e
  obtain ⟨d', rfl⟩ : ∃ d', d = d' + 1 := ⟨d - 1, by omega⟩
  have hc : c ∈ aliveL S a b := by
    cases eb : (endS S a b).1.b c with
    | none => exact absurd eb (nevc 0)
    | some r =>
      obtain ⟨h1, h2⟩ := bk_row R c r eb
      rw [← h2]
      exact (R.ends r h1).2
  refine ⟨hc, p, neg, ?_⟩
  rw [backL_succ]
  cases eb : (endS S a b).1.b (itB (endS S a b).1 d' c) with
  | none => exact absurd eb (nevc d')
  | some r =>
    refine ⟨r, _, by rw [rowB_some eb], R.sub r (bk_row R _ r eb).1, ?_⟩
    have : preB (endS S a b).1 (itB (endS S a b).1 d' c) = c := e
    unfold preB at this
    rw [rowB_some eb] at this
    exact this
/-! numbers -/
theorem cost_bound {ti : List Row} (h : ∀ r ∈ ti, BC r.c) : ∀ ws : List Str, (costOf ti ws).natAbs ≤ ws.length * 10 ^ 59
  | [] => by show (0 : Int).natAbs ≤ _; exact Nat.zero_le _
  | x :: ws => by
    have ih := cost_bound h ws
    have e : costOf ti (x :: ws) = ((rowOf ti x).map fun r : Row => r.c).getD 0 + costOf ti ws := by
      unfold costOf
      rw [List.map_cons, List.sum_cons]
    have h1 : (((rowOf ti x).map fun r : Row => r.c).getD 0).natAbs ≤ 10 ^ 59 := by
      cases er : rowOf ti x with
      | none => exact Nat.zero_le _
      | some r =>
        have := h r (List.mem_of_find?_eq_some er)
        unfold BC at this
        show r.c.natAbs ≤ 10 ^ 59
        omega
    rw [e, List.length_cons, Nat.succ_mul]
    have := Int.natAbs_add_le (((rowOf ti x).map fun r : Row => r.c).getD 0) (costOf ti ws)
    omega
theorem cost_100 {ti : List Row} (h : ∀ r ∈ ti, BC r.c) {ws : List Str} (hl : ws.length ≤ 100) : (costOf ti ws).natAbs ≤ 10 ^ 61 := by
  have := cost_bound h ws
  have h2 : ws.length * 10 ^ 59 ≤ 100 * 10 ^ 59 := Nat.mul_le_mul_right _ hl
  have h3 : (100 * 10 ^ 59 : Nat) = 10 ^ 61 := by decide
  omega
theorem times_pos (l r : Int) : 1 ≤ timesN l r := by
  unfold timesN
  split <;> omega
theorem times_enough {l r : Int} (hr : r < 0) : l + timesN l r * r ≤ 0 := by
  have h1 := Int.mul_fdiv_add_fmod l r
  have h2 : l.fmod r ≤ 0 := by
    rw [Int.fmod_eq_emod]
    by_cases hd : r ∣ l
    · rw [if_pos (.inr hd), Int.emod_eq_zero_of_dvd hd]
      omega
    · rw [if_neg (by rintro (h | h) <;> first | omega | exact hd h)]
      have := Int.emod_lt l (by omega : r ≠ 0)
      omega
  have ht : -(l.fdiv r) ≤ timesN l r := by
    unfold timesN
    split <;> omega
  have h3 : timesN l r * r ≤ -(l.fdiv r) * r := Int.mul_le_mul_of_nonpos_right ht (by omega)
  have h4 : -(l.fdiv r) * r = -(r * l.fdiv r) := by rw [Int.neg_mul, Int.mul_comm]
  omega
theorem times_bound {l r : Int} (hr : r < 0) : (timesN l r).natAbs ≤ l.natAbs + 1 := by
  unfold timesN
  have h := Int.natAbs_fdiv_le_natAbs l r
  split <;> omega
end Net

namespace Net
open PySem L2
theorem member_walk {S : NS} {a x : Str} {ws : List Str} (h : memberB S (.from_ a) x ws = true) (hn : ∀ y ∈ ws, y ∈ S.nms) : WalkP S a x ws := by
  unfold memberB at h
  rw [Bool.and_eq_true_iff] at h
  exact ⟨hn, of_decide_eq_true h.2⟩
def spStretch (C : Addr) : Sp := fun vs H Q _ => ∃ (p ds dl ct rg : Addr) (S : NS) (a b c : Str) (k : Int) (r : Row) (tl : List Str), vs = [.ref p, .ref ct, .ref rg] ∧ NetS C H p ds dl S ∧ NetC S ∧ H ct = some (.tup [.str "cost", .str a, .str b, .int k]) ∧ a ∈ S.pl ∧ b ∈ S.pl ∧
  H rg = some (.lst ((r.nm :: tl).map V.str)) ∧ r ∈ S.ti ∧ r.a = c ∧ c ∈ membersD S (.from_ a) ∧ b ∈ membersD S (.from_ c) ∧ (∀ y ∈ r.nm :: tl, y ∈ S.nms) ∧ (r.nm :: tl).length ≤ 100 ∧ costOf S.ti (r.nm :: tl) < 0 ∧
  ∀ (res l1 l2 l3 th on : Addr) (wt wo : List Str) (H' : Hp), Same H H' → H' res = some (.lst [.ref l1, .ref l2, .ref l3]) → H res = none → H' l1 = some (.lst [.ref th, .int 1]) → H' l2 = some (.lst [.ref rg, .int (timesN (costOf S.ti wt + costOf S.ti wo - k) (costOf S.ti (r.nm :: tl)))]) → H' l3 = some (.lst [.ref on, .int 1]) →
    H' th = some (.lst (wt.map V.str)) → H th = none → H' on = some (.lst (wo.map V.str)) → H on = none → WalkP S a c wt → WalkP S c b wo → wt.length ≤ 100 → wo.length ≤ 100 → Q (.ref res) H'
def RowsP (H0 H : Hp) (rs : List (Addr × Addr × List Str × Int)) : Prop := ∀ q ∈ rs, H q.1 = some (.lst [.ref q.2.1, .int q.2.2.2]) ∧ H q.2.1 = some (.lst (q.2.2.1.map V.str)) ∧ H0 q.2.1 = none
def PricesP (H : Hp) (L : List ((Str × Int) × Addr)) (kv : List (Str × Int)) : Prop := L.map (·.1) = kv ∧ ∀ q ∈ L, H q.2 = some (.lst [.str q.1.1, .int q.1.2])
def TimesB (k : Int) (rs : List (Addr × Addr × List Str × Int)) : Prop := ∀ q ∈ rs, q.2.2.2.natAbs ≤ k.natAbs + 10 ^ 63
def spFindC (C : Addr) : Sp := fun vs H Q _ => ∃ (p ds dl ct : Addr) (S : NS) (a b : Str) (k : Int), vs = [.ref p, .ref ct] ∧ NetS C H p ds dl S ∧ NetC S ∧ H ct = some (.tup [.str "cost", .str a, .str b, .int k]) ∧ a ∈ S.pl ∧ b ∈ S.pl ∧
  (∀ (t res : Addr) (rs : List (Addr × Addr × List Str × Int)) (tot : Int) (H' : Hp), Same H H' → H' t = some (.tup [.bl true, .ref res]) → H' res = some (.lst (rs.map fun q => V.ref q.1)) → H res = none → RowsP H H' rs → rs.length ≤ 3 → StrW S a (rs.map (·.2.2)) b tot → tot ≤ k → vdC S a b tot = true → vdC S a b k = true → TimesB k rs → Q (.ref t) H') ∧
  ∀ (t res pl dd : Addr) (L : List ((Str × Int) × Addr)) (kv : List (Str × Int)) (dead : List Str) (H' : Hp), Same H H' → H' t = some (.tup [.bl false, .ref res]) → H' res = some (.lst [.ref pl, .ref dd]) → H' pl = some (.lst (L.map fun q => V.ref q.2)) → PricesP H' L kv → H' dd = some (.lst (dead.map V.str)) → H pl = none → H dd = none → DearP S a b k kv dead → vdC S a b k = false → Q (.ref t) H'
theorem c_cw : decide (V.str "cost" = V.str "way") = false := by decide +kernel
theorem c_cc : decide (V.str "cost" = V.str "cost") = true := by decide +kernel
section
variable {P : Program} {w : World} {K : PySem.W.Frag} {mg : Str → Option Value} {base : Heap} {C : Addr}
abbrev Nstretch : List Str := ["net", "claim", "ring", "corner", "there", "onward", "left_over"]
theorem sc_stretch : FnScope Nstretch ["net", "claim", "ring"] (defScope s_stretches_by_ring) := ⟨rfl, rfl, rfl, by decide +kernel, rfl, by decide +kernel, by decide +kernel⟩
theorem ok_stretch {f : Addr} {fd : FuncData} (F : Fun K "stretches_by_ring" "stretches_by_ring" s_stretches_by_ring f fd) (cb : Can P w K mg base 2 "ties_by_name" ["net"] (spByName C)) (cm : Can P w K mg base 4 "member_paper" ["net", "kind", "place"] (spMPaper C)) (cc : Can P w K mg base 3 "walk_cost" ["net", "walk"] (spWCost C)) (cn : Can P w K mg base 1 "rounds_to_nought" ["left_over", "ring_cost"] spNought) :
    FnOk P w K mg base CX0 5 f fd ["net", "claim", "ring"] (spStretch C) := by
  refine F.ok sc_stretch (fun vs H Q E h => ?_) (fun cdv A outer s H vs Q E hr h => ?_)
  · obtain ⟨p, ds, dl, ct, rg, S, a, b, c, k, r, tl, rfl, _⟩ := h
    rfl
  · obtain ⟨p, ds, dl, ct, rg, S, a, b, c, k, r, tl, rfl, N, g, hc, ha, hb, erg, hr', hrc, hca, hbc, hnm, hlen, hneg, q⟩ := h
    have hu := hu_of hr
    have r1 : Room 1 _ := hr.mono (by decide)
    have r2 : Room 2 _ := hr.mono (by decide)
    have r3 : Room 3 _ := hr.mono (by decide)
    refine ⟨_, (pss_cons (ps_set (i := 3) sc_stretch.nd rfl (Or.inl rfl) (pe_ix ix_tup (pe_dget hu (pe_callC cb r2 (by rfl) (pa_cons (pv 0) pa_nil)) (pe_ix ix_list (pv 2) pe_int (fun _ _ => by rfl)) (fun _ _ => rfl)) pe_int (fun _ _ => by rfl)))
      (pss_cons (ps_set (i := 4) sc_stretch.nd rfl (Or.inl rfl) (pe_callC cm hr (by rfl) (pa_cons (pv 0) (pa_cons (pe_tup (pa_cons pe_str (pa_cons (pe_ix ix_tup (pv 1) pe_int (fun _ _ => by rfl)) pa_nil))) (pa_cons (pv 3) pa_nil)))))
      (pss_cons (ps_set (i := 5) sc_stretch.nd rfl (Or.inl rfl) (pe_callC cm hr (by rfl) (pa_cons (pv 0) (pa_cons (pe_tup (pa_cons pe_str (pa_cons (pv 3) pa_nil))) (pa_cons (pe_ix ix_tup (pv 1) pe_int (fun _ _ => by rfl)) pa_nil)))))
      (pss_cons (ps_set (i := 6) sc_stretch.nd rfl (Or.inl rfl) (pe_op op_sub (pe_op op_add (pe_callC cc r3 (by rfl) (pa_cons (pv 0) (pa_cons (pv 4) pa_nil))) (pe_callC cc r3 (by rfl) (pa_cons (pv 0) (pa_cons (pv 5) pa_nil)))) (pe_ix ix_tup (pv 1) pe_int (fun _ _ => by rfl))))
      (pss_one (ps_ret (pe_lst (pa_cons (pe_lst (pa_cons (pv 4) (pa_cons pe_int pa_nil))) (pa_cons (pe_lst (pa_cons (pv 2) (pa_cons (pe_callC cn r1 (by rfl) (pa_cons (pv 6) (pa_cons (pe_callC cc r3 (by rfl) (pa_cons (pv 0) (pa_cons (pv 2) pa_nil))) pa_nil))) pa_nil))) (pa_cons (pe_lst (pa_cons (pv 5) (pa_cons pe_int pa_nil))) pa_nil)))))))))), ?_⟩
    refine ⟨_, rfl, p, ds, dl, S, rfl, N.w, fun d H1 L hd s1 RL ed => ?_⟩
    obtain ⟨qq, hq, hqn, hqv⟩ := ld_some (S := S) RL.1 (hnm r.nm List.mem_cons_self)
    have hqr : qq.1 = r := by
      have h1 : qq.1 ∈ S.ti := by rw [← RL.1]; exact List.mem_map_of_mem hq
      have e1 := rowOf_nd g.ndT h1
      have e2 := rowOf_nd g.ndT hr'
      rw [hqn, e2] at e1
      exact (Option.some.inj e1).symm
    have et1 := s1 _ _ (RL.2 qq hq)
    rw [hqr] at et1
    have erg1 := s1 _ _ erg
    refine ⟨_, rfl, rg, _, _, .str r.nm, rfl, rfl, SqL.of erg1, atI_nat (j := 0) rfl, d, _, rfl, by rw [← hqv]; exact DGet.k (k := Sum.inr r.nm) ed, qq.2, _, _, .str r.a, rfl, rfl, SqT.of et1, rfl, ?_⟩
    have ec : V.str r.a = V.str c := by rw [hrc]
    have hc1 := s1 _ _ hc
    -- there
    refine ⟨_, rfl, _, rfl, ct, _, _, .str a, rfl, rfl, SqT.of hc1, rfl, (by show 2 ≤ sizeLine; decide), fun k1 hk1 => ?_⟩
    have s2 := Same.new (o := .tup [.str "from", .str a]) hk1
    have ek1 : (upd H1 k1 (.tup [.str "from", .str a])) k1 = some (.tup [.str "from", .str a]) := upd_same
    generalize upd H1 k1 (.tup [.str "from", .str a]) = H2 at s2 ek1
    have s02 := s1.trans s2
    refine ⟨_, rfl, p, ds, dl, k1, S, .from_ a, r.a, rfl, N.same s02, ek1, ha, N.okP _ (g.ends r hr').1, fun hno => absurd (by rw [hrc]; exact hca) hno, fun _ th wt H3 hth s3 eth lth nth mth => ?_⟩
    have wth := member_walk mth nth
    rw [hrc] at wth
    have hth0 : H th = none := s02.free hth
    have s03 := s02.trans s3
    refine ⟨_, rfl, _, rfl, (by show 2 ≤ sizeLine; decide), fun k2 hk2 => ?_⟩
    have s4 := Same.new (o := .tup [.str "from", .str r.a]) hk2
    have ek2 : (upd H3 k2 (.tup [.str "from", .str r.a])) k2 = some (.tup [.str "from", .str r.a]) := upd_same
    generalize upd H3 k2 (.tup [.str "from", .str r.a]) = H4 at s4 ek2
    have s04 := s03.trans s4
    refine ⟨_, rfl, ct, _, _, .str b, rfl, rfl, SqT.of (s04 _ _ hc), rfl, p, ds, dl, k2, S, .from_ r.a, b, rfl, N.same s04, ek2, (g.ends r hr').1, N.okP _ hb, fun hno => absurd (by rw [hrc]; exact hbc) hno, fun _ on wo H5 hon s5 eon lon non mon => ?_⟩
    have won := member_walk mon non
    rw [hrc] at won
    have hon0 : H on = none := s04.free hon
    have s05 := s04.trans s5
    have eth5 := (s4.trans s5) _ _ eth
    -- left over
    refine ⟨_, rfl, _, rfl, p, ds, dl, th, S, wt, rfl, (N.same s05).w, eth5, wth.1, by omega, fun H6 s6 => ?_⟩
    refine ⟨_, rfl, _, rfl, p, ds, dl, on, S, wo, rfl, (N.same (s05.trans s6)).w, s6 _ _ eon, won.1, by omega, fun H7 s7 => ?_⟩
    have s57 := s6.trans s7
    have s07 := s05.trans s57
    refine ⟨_, _, rfl, rfl, _, rfl, ct, _, _, .int k, rfl, rfl, SqT.of (s07 _ _ hc), rfl, _, _, rfl, rfl, ?_⟩
    -- the rows
    refine ⟨_, rfl, (by show 2 ≤ sizeLine; decide), fun l1 hl1 => ?_⟩
    have z1 := Same.new (o := .lst [.ref th, .int 1]) hl1
    have e1 : (upd H7 l1 (.lst [.ref th, .int 1])) l1 = some (.lst [.ref th, .int 1]) := upd_same
    generalize upd H7 l1 (.lst [.ref th, .int 1]) = H8 at z1 e1
    have s08 := s07.trans z1
    refine ⟨_, rfl, _, rfl, _, rfl, _, rfl, p, ds, dl, rg, S, r.nm :: tl, rfl, (N.same s08).w, s08 _ _ erg, hnm, by omega, fun H9 s9 => ?_⟩
    have s09 := s08.trans s9
    have hb' := cost_100 g.bc hlen
    refine ⟨_, _, rfl, by omega, ?_, (by show 2 ≤ sizeLine; decide), fun l2 hl2 => ?_⟩
    · have : (10 ^ 61 : Nat) < 2 ^ 3000 := by decide +kernel
      omega
    have z2 := Same.new (o := .lst [.ref rg, .int (timesN (costOf S.ti wt + costOf S.ti wo - k) (costOf S.ti (r.nm :: tl)))]) hl2
    have e2 : (upd H9 l2 (.lst [.ref rg, .int (timesN (costOf S.ti wt + costOf S.ti wo - k) (costOf S.ti (r.nm :: tl)))])) l2 = some (.lst [.ref rg, .int (timesN (costOf S.ti wt + costOf S.ti wo - k) (costOf S.ti (r.nm :: tl)))]) := upd_same
    generalize upd H9 l2 (.lst [.ref rg, .int (timesN (costOf S.ti wt + costOf S.ti wo - k) (costOf S.ti (r.nm :: tl)))]) = H10 at z2 e2
    refine ⟨_, rfl, (by show 2 ≤ sizeLine; decide), fun l3 hl3 => ?_⟩
    have z3 := Same.new (o := .lst [.ref on, .int 1]) hl3
    have e3 : (upd H10 l3 (.lst [.ref on, .int 1])) l3 = some (.lst [.ref on, .int 1]) := upd_same
    generalize upd H10 l3 (.lst [.ref on, .int 1]) = H11 at z3 e3
    have s11 := s09.trans (z2.trans z3)
    refine ⟨(by show 3 ≤ sizeLine; decide), fun res hres => ?_⟩
    have z4 := Same.new (o := .lst [.ref l1, .ref l2, .ref l3]) hres
    have t79 := z1.trans s9
    have t9 := z2.trans (z3.trans z4)
    exact q res l1 l2 l3 th on wt wo _ (s11.trans z4) upd_same (s11.free hres) ((s9.trans t9) _ _ e1) ((z3.trans z4) _ _ e2) (z4 _ _ e3) ((s57.trans (t79.trans t9)) _ _ eth5) hth0 ((s57.trans (t79.trans t9)) _ _ eon) hon0 wth won lth lon
end
end Net

namespace Net
open PySem L2
theorem take_filter {α : Type} {f : α → Bool} {l : List α} {i : Nat} {x : α} (e : l[i]? = some x) (b : Bool) (hb : f x = b) : (l.take (i + 1)).filter f = (l.take i).filter f ++ (if b then [x] else []) := by
  rw [List.take_add_one, e, List.filter_append]
  show _ ++ List.filter f [x] = _
  cases b with
  | true => rw [List.filter_cons_of_pos hb]; rfl
  | false => rw [List.filter_cons_of_neg (by rw [hb]; exact Bool.false_ne_true)]; rfl
theorem st0_pr {a : Str} : ∀ v, valV [((Sum.inr a : Key), V.int 0)] (Sum.inr v : Key) = ((st0 a).p v).map V.int := fun v => by
  show _ = (if v = a then some (0 : Int) else none).map V.int
  by_cases h : v = a
  · rw [if_pos h, valV_pos (congrArg Sum.inr h.symm)]
    rfl
  · rw [if_neg h, valV_neg (fun z => h (Sum.inr.inj z).symm)]
    rfl
theorem vdC_no {S : NS} {a b : Str} {k : Int} (h : b ∉ membersD S (.from_ a)) : vdC S a b k = false := by
  unfold vdC
  rw [decide_eq_false h]
  rfl
theorem vdC_late {S : NS} {a b v : Str} {k : Int} (h : b ∈ membersD S (.from_ a)) (hl : (endS S a b).2 = some v) : vdC S a b k = true := by
  unfold vdC
  rw [decide_eq_true h, hl]
  rfl
theorem vdC_still {S : NS} {a b : Str} {k x : Int} (h : b ∈ membersD S (.from_ a)) (hl : (endS S a b).2 = none) (hx : (endS S a b).1.p b = some x) : vdC S a b k = decide (x ≤ k) := by
  unfold vdC cheapS
  rw [decide_eq_true h, hl, hx]
  rfl
section
variable {P : Program} {w : World} {K : PySem.W.Frag} {mg : Str → Option Value} {base : Heap} {C : Addr}
abbrev Nfcost : List Str := ["net", "claim", "a", "b", "reached", "leading", "alive", "dead", "rows", "prices", "lowered_by", "late"]
theorem sc_fcost : FnScope Nfcost ["net", "claim"] (defScope s_find_cost) := ⟨rfl, rfl, rfl, by decide +kernel, rfl, by decide +kernel, by decide +kernel⟩
theorem ok_fcost {f : Addr} {fd : FuncData} (F : Fun K "find_cost" "find_cost" s_find_cost f fd) (T : Txt K mg C) (cm : Can P w K mg base 3 "members_of" ["net", "kind"] (spMembers C)) (m2 : CanM P w K mg base 1 C "ties" ["self"] (spTies C)) (cl : Can P w K mg base 2 "lower_prices" ["prices", "lowered_by", "rows", "rounds"] spLower) (cr : Can P w K mg base 1 "ring_behind" ["lowered_by", "late"] spRingB)
    (cw : Can P w K mg base 1 "walk_behind" ["lowered_by", "place"] spWalkB) (cs : Can P w K mg base 5 "stretches_by_ring" ["net", "claim", "ring"] (spStretch C)) : FnOk P w K mg base CX0 6 f fd ["net", "claim"] (spFindC C) := by
  refine F.ok sc_fcost (fun vs H Q E h => ?_) (fun cdv A outer s H vs Q E hr h => ?_)
  · obtain ⟨p, ds, dl, ct, S, a, b, k, rfl, _⟩ := h
    rfl
  · obtain ⟨p, ds, dl, ct, S, a, b, k, rfl, N, g, hc, ha, hb, qT, qF⟩ := h
    have hu := hu_of hr
    have r1 : Room 1 _ := hr.mono (by decide)
    have r2 : Room 2 _ := hr.mono (by decide)
    have r3 : Room 3 _ := hr.mono (by decide)
    have nd2 : List.Nodup (["place", "leading"] : List Str) := by decide +kernel
    have nd3 : List.Nodup (["row", "alive"] : List Str) := by decide +kernel
    have nd4 : List.Nodup (["place", "prices"] : List Str) := by decide +kernel
    refine ⟨_, (pss_cons (ps_set (i := 2) sc_fcost.nd rfl (Or.inl rfl) (pe_ix ix_tup (pv 1) pe_int (fun _ _ => by rfl)))
      (pss_cons (ps_set (i := 3) sc_fcost.nd rfl (Or.inl rfl) (pe_ix ix_tup (pv 1) pe_int (fun _ _ => by rfl)))
      (pss_cons (ps_set (i := 4) sc_fcost.nd rfl (Or.inl rfl) (pe_callC cm r3 (by rfl) (pa_cons (pv 0) (pa_cons (pe_tup (pa_cons pe_str (pa_cons (pv 2) pa_nil))) pa_nil))))
      (pss_cons (ps_if (pt_cmpR op_notIn_seq (pv 3) (pv 4) (by with_unfolding_all rfl)) (pss_one (ps_ret (pe_tup (pa_cons pe_bl (pa_cons (pe_lst (pa_cons (pe_lst pa_nil) (pa_cons (pv 4) pa_nil))) pa_nil))))) pss_nil)
      (pss_cons (ps_set (i := 5) sc_fcost.nd rfl (Or.inr rfl) (pe_callC cm r3 (by rfl) (pa_cons (pv 0) (pa_cons (pe_tup (pa_cons pe_str (pa_cons (pv 3) pa_nil))) pa_nil))))
      (pss_cons (ps_set (i := 6) sc_fcost.nd rfl (Or.inr rfl) (pe_comp (N := ["place", "leading"]) (xs := 1) (js := [5]) rfl (compScope_of rfl) (pi_list (pv 4)) (fun _ _ _ _ => pg_name (i := 0) nd2 rfl (Or.inl rfl))
          (fun _ _ _ _ => pts_one (pt_cmpR (op_inK K (by rfl)) (pv 0) (pv 1) (by with_unfolding_all rfl))) (fun _ _ _ _ => pv 0)))
      (pss_cons (ps_comp (j := 7) (N := ["place", "leading"]) (xs := 1) (js := [5]) rfl sc_fcost.nd rfl rfl (compScope_of rfl) (pi_list (pv 4)) (fun _ _ _ _ => pg_name (i := 0) nd2 rfl (Or.inl rfl))
          (fun _ _ _ _ => pts_one (pt_cmpR (op_notInK K (by rfl)) (pv 0) (pv 1) (by with_unfolding_all rfl))) (fun _ _ _ _ => pv 0) rfl)
      (pss_cons (ps_comp (j := 8) (N := ["row", "alive"]) (xs := 1) (js := [6]) rfl sc_fcost.nd rfl rfl (compScope_of rfl) (pi_list (pe_methC0 (pv 0) T.cl m2 r1)) (fun _ _ _ _ => pg_name (i := 0) nd3 rfl (Or.inl rfl))
          (fun _ _ _ _ => pts_one (PW.pt (pw_and (pt_cmpR (op_inK K (by rfl)) (pe_ix (ix_tupK K (by rfl)) (pv 0) pe_int (fun _ _ => by rfl)) (pv 1) (by with_unfolding_all rfl)) (pw_and1 (pt_cmpR (op_inK K (by rfl)) (pe_ix (ix_tupK K (by rfl)) (pv 0) pe_int (fun _ _ => by rfl)) (pv 1) (by with_unfolding_all rfl)))))) (fun _ _ _ _ => pv 0) rfl)
      (pss_cons (ps_set (i := 9) sc_fcost.nd rfl (Or.inr rfl) (pe_disp (pps_cons (pv 2) pe_int pps_nil) rfl rfl (by simp) (by decide)))
      (pss_cons (ps_set (i := 10) sc_fcost.nd rfl (Or.inl rfl) pe_dnewK)
      (pss_cons (ps_set (i := 11) sc_fcost.nd rfl (Or.inl rfl) (pe_callC cl r2 (by rfl) (pa_cons (pv 9) (pa_cons (pv 10) (pa_cons (pv 8) (pa_cons (pe_callB call_len_seq (by rfl) T.len b_len (pa_cons (pv 6) pa_nil)) pa_nil))))))
      (pss_cons (ps_if (pt_cmp (pc_notN (pv 11))) (pss_one (ps_ret (pe_tup (pa_cons pe_bl (pa_cons (pe_callC cs hr (by rfl) (pa_cons (pv 0) (pa_cons (pv 1) (pa_cons (pe_callC cr r1 (by rfl) (pa_cons (pv 10) (pa_cons (pv 11) pa_nil))) pa_nil)))) pa_nil))))) pss_nil)
      (pss_cons (ps_if (pt_cmpR op_le (pe_dget hu (pv 9) (pv 3) (fun _ _ => rfl)) (pe_ix ix_tup (pv 1) pe_int (fun _ _ => by rfl)) (nomark _)) (pss_one (ps_ret (pe_tup (pa_cons pe_bl (pa_cons (pe_lst (pa_cons (pe_lst (pa_cons (pe_callC cw r1 (by rfl) (pa_cons (pv 10) (pa_cons (pv 3) pa_nil))) (pa_cons pe_int pa_nil))) pa_nil)) pa_nil))))) pss_nil)
      (pss_one (ps_ret (pe_tup (pa_cons pe_bl (pa_cons (pe_lst (pa_cons (pe_comp (N := ["place", "prices"]) (xs := 1) (js := [9]) rfl (compScope_of rfl) (pi_list (pv 6)) (fun _ _ _ _ => pg_name (i := 0) nd4 rfl (Or.inl rfl)) (fun _ _ _ _ => pts_nil)
          (fun _ _ _ _ => pe_lst (pa_cons (pv 0) (pa_cons (pe_dget hu (pv 1) (pv 0) (fun _ _ => rfl)) pa_nil)))) (pa_cons (pv 7) pa_nil))) pa_nil)))))))))))))))))), ?_⟩
    refine ⟨_, rfl, ct, _, _, .str a, rfl, rfl, SqT.of hc, rfl, _, rfl, ct, _, _, .str b, rfl, rfl, SqT.of hc, rfl, ?_⟩
    -- reached
    refine ⟨_, rfl, _, rfl, (by show 2 ≤ sizeLine; decide), fun k1 hk1 => ?_⟩
    have s1 := Same.new (o := .tup [.str "from", .str a]) hk1
    have ek1 : (upd H k1 (.tup [.str "from", .str a])) k1 = some (.tup [.str "from", .str a]) := upd_same
    generalize upd H k1 (.tup [.str "from", .str a]) = H1 at s1 ek1
    refine ⟨p, ds, dl, k1, S, .from_ a, rfl, N.same s1, ek1, ha, fun re H2 hre s2 ere => ?_⟩
    have s02 := s1.trans s2
    have hre0 : H re = none := s1.free hre
    refine ⟨_, rfl, _, rfl, re, _, rfl, .inl (SqL.of ere), rfl, flat_strs _, _, rfl, ?_⟩
    show if (if true = true then !inV (.str b) ((membersD S (.from_ a)).map V.str) else inV (.str b) ((membersD S (.from_ a)).map V.str)) = true then _ else _
    rw [if_pos rfl, inV_str]
    by_cases hbr : b ∈ membersD S (.from_ a)
    case neg =>
      refine iteTb (by rw [decide_eq_false hbr]; rfl) ?_
      refine ⟨by decide, fun pl hpl => ?_⟩
      have z1 := Same.new (o := .lst []) hpl
      have e1 : (upd H2 pl (.lst [])) pl = some (.lst []) := upd_same
      generalize upd H2 pl (.lst []) = H3 at z1 e1
      refine ⟨_, rfl, (by show 2 ≤ sizeLine; decide), fun res hres => ?_⟩
      have z2 := Same.new (o := .lst [.ref pl, .ref re]) hres
      have e2 : (upd H3 res (.lst [.ref pl, .ref re])) res = some (.lst [.ref pl, .ref re]) := upd_same
      generalize upd H3 res (.lst [.ref pl, .ref re]) = H4 at z2 e2
      refine ⟨(by show 2 ≤ sizeLine; decide), fun t ht => ?_⟩
      have z3 := Same.new (o := .tup [.bl false, .ref res]) ht
      exact qF t res pl re [] [] (membersD S (.from_ a)) _ (s02.trans (z1.trans (z2.trans z3))) upd_same (z3 _ _ e2) ((z2.trans z3) _ _ e1) ⟨rfl, fun _ h => (nomatch h)⟩ ((z1.trans (z2.trans z3)) _ _ ere) (s02.free hpl) hre0 (dear_unreached g ha hbr) (vdC_no hbr)
    case pos =>
    refine iteFb (by rw [decide_eq_true hbr]; rfl) ?_
    -- leading
    refine ⟨_, rfl, _, rfl, (by show 2 ≤ sizeLine; decide), fun k2 hk2 => ?_⟩
    have s3 := Same.new (o := .tup [.str "to", .str b]) hk2
    have ek2 : (upd H2 k2 (.tup [.str "to", .str b])) k2 = some (.tup [.str "to", .str b]) := upd_same
    generalize upd H2 k2 (.tup [.str "to", .str b]) = H3 at s3 ek2
    have s03 := s02.trans s3
    refine ⟨p, ds, dl, k2, S, .to_ b, rfl, N.same s03, ek2, hb, fun le H4 hle s4 ele => ?_⟩
    have s04 := s03.trans s4
    have ere4 := (s3.trans s4) _ _ ere
    have mlen : (membersD S (.from_ a)).length ≤ 20 := Nat.le_trans (List.length_filter_le _ _) g.lenP
    -- alive
    refine ⟨_, rfl, re, rfl, ⟨_, SqL.of ere4⟩, comp_list (K := K) (ys := (membersD S (.from_ a)).map V.str) (fun i acc σ' H' => H' = H4 ∧ acc = (((membersD S (.from_ a)).take i).filter fun x => decide (x ∈ membersD S (.to_ b))).map V.str ∧ ∃ o, σ' = [o, some (.ref le)])
      ⟨rfl, rfl, none, rfl⟩ (fun i acc σ' H' h => ?_) ?_ (fun i acc σ' H' _ h => by rw [h.1]; exact SqL.of ere4) (fun i x acc σ' H' hx h => ?_) (fun acc σ' H' h al hal => ?_)⟩
    · obtain ⟨_, rfl, _⟩ := h
      rw [List.length_map]
      exact Nat.le_trans (List.length_filter_le _ _) (by rw [List.length_take]; omega)
    · rw [List.length_map]
      exact Nat.le_trans mlen (by decide)
    · obtain ⟨rfl, rfl, o, rfl⟩ := h
      rw [List.getElem?_map] at hx
      cases ey : (membersD S (.from_ a))[i]? with
      | none => rw [ey] at hx; cases hx
      | some y =>
        rw [ey] at hx
        cases hx
        refine ⟨_, rfl, _, rfl, le, _, rfl, .inl (SqL.of ele), rfl, flat_strs _, _, rfl, ?_⟩
        show if (if false = true then !inV (.str y) ((membersD S (.to_ b)).map V.str) else inV (.str y) ((membersD S (.to_ b)).map V.str)) = true then _ else _
        rw [if_neg Bool.false_ne_true, inV_str]
        cases e1 : decide (y ∈ membersD S (.to_ b)) with
        | true =>
          refine iteT ⟨_, rfl, rfl, ?_, _, rfl⟩
          rw [take_filter ey true e1, List.map_append]
          rfl
        | false =>
          refine iteF ⟨rfl, ?_, _, rfl⟩
          rw [take_filter ey false e1]
          simp
    obtain ⟨rfl, rfl, o, rfl⟩ := h
    rw [List.length_map, List.take_length]
    have z5 := Same.new (o := .lst ((aliveL S a b).map V.str)) hal
    have eal : (upd H' al (.lst ((aliveL S a b).map V.str))) al = some (.lst ((aliveL S a b).map V.str)) := upd_same
    have hshow : upd H' al (.lst (((membersD S (.from_ a)).filter fun x => decide (x ∈ membersD S (.to_ b))).map V.str)) = upd H' al (.lst ((aliveL S a b).map V.str)) := by unfold aliveL; rfl
    rw [hshow]
    generalize upd H' al (.lst ((aliveL S a b).map V.str)) = H5 at z5 eal
    have s05 := s04.trans z5
    have ere5 := z5 _ _ ere4
    have ele5 := z5 _ _ ele
    -- dead
    refine ⟨_, rfl, re, rfl, ⟨_, SqL.of ere5⟩, comp_list (K := K) (ys := (membersD S (.from_ a)).map V.str) (fun i acc σ' H' => H' = H5 ∧ acc = (((membersD S (.from_ a)).take i).filter fun x => !decide (x ∈ membersD S (.to_ b))).map V.str ∧ ∃ o, σ' = [o, some (.ref le)])
      ⟨rfl, rfl, none, rfl⟩ (fun i acc σ' H' h => ?_) ?_ (fun i acc σ' H' _ h => by rw [h.1]; exact SqL.of ere5) (fun i x acc σ' H' hx h => ?_) (fun acc σ' H' h de hde => ?_)⟩
    · obtain ⟨_, rfl, _⟩ := h
      rw [List.length_map]
      exact Nat.le_trans (List.length_filter_le _ _) (by rw [List.length_take]; omega)
    · rw [List.length_map]
      exact Nat.le_trans mlen (by decide)
    · obtain ⟨rfl, rfl, o, rfl⟩ := h
      rw [List.getElem?_map] at hx
      cases ey : (membersD S (.from_ a))[i]? with
      | none => rw [ey] at hx; cases hx
      | some y =>
        rw [ey] at hx
        cases hx
        refine ⟨_, rfl, _, rfl, le, _, rfl, .inl (SqL.of ele5), rfl, flat_strs _, _, rfl, ?_⟩
        show if (if true = true then !inV (.str y) ((membersD S (.to_ b)).map V.str) else inV (.str y) ((membersD S (.to_ b)).map V.str)) = true then _ else _
        rw [if_pos rfl, inV_str]
        cases e1 : (!decide (y ∈ membersD S (.to_ b))) with
        | true =>
          refine iteT ⟨_, rfl, rfl, ?_, _, rfl⟩
          rw [take_filter ey true e1, List.map_append]
          rfl
        | false =>
          refine iteF ⟨rfl, ?_, _, rfl⟩
          rw [take_filter ey false e1]
          simp
    obtain ⟨rfl, rfl, o2, rfl⟩ := h
    rw [List.length_map, List.take_length]
    have z6 := Same.new (o := .lst ((deadL S a b).map V.str)) hde
    have ede : (upd H' de (.lst ((deadL S a b).map V.str))) de = some (.lst ((deadL S a b).map V.str)) := upd_same
    have hshow : upd H' de (.lst (((membersD S (.from_ a)).filter fun x => !decide (x ∈ membersD S (.to_ b))).map V.str)) = upd H' de (.lst ((deadL S a b).map V.str)) := by unfold deadL; rfl
    rw [hshow]
    generalize upd H' de (.lst ((deadL S a b).map V.str)) = H6 at z6 ede
    have s06 := s05.trans z6
    have hde0 : H de = none := s05.free hde
    have eal6 := z6 _ _ eal
    -- the rows
    have N6 := N.same s06
    obtain ⟨dx, h1⟩ := N6.net.ob
    refine ⟨_, rfl, p, dx, _, rfl, h1, flds_no ds dl (by decide +kernel) (by decide +kernel), p, ds, dl, S, rfl, N6.net, fun tl H7 L htl s7 RL etl => ?_⟩
    have RL7 := RL.same s7
    have eal7 := s7 _ _ eal6
    have hL : L.length = S.ti.length := by rw [← RL.1, List.length_map]
    refine ⟨tl, rfl, ⟨_, SqL.of etl⟩, comp_list (K := K) (ys := L.map fun q => V.ref q.2) (fun i acc σ' H' => H' = H7 ∧ acc = ((L.take i).filter fun q => decide (q.1.a ∈ aliveL S a b) && decide (q.1.b ∈ aliveL S a b)).map (fun q => V.ref q.2) ∧ ∃ o, σ' = [o, some (.ref al)])
      ⟨rfl, rfl, none, rfl⟩ (fun i acc σ' H' h => ?_) ?_ (fun i acc σ' H' _ h => by rw [h.1]; exact SqL.of etl) (fun i x acc σ' H' hx h => ?_) (fun acc σ' H' h rl hrl => ?_)⟩
    · obtain ⟨_, rfl, _⟩ := h
      rw [List.length_map]
      exact Nat.le_trans (List.length_filter_le _ _) (by rw [List.length_take]; omega)
    · rw [List.length_map, hL]
      exact Nat.le_trans g.lenT (by decide)
    · obtain ⟨rfl, rfl, o3, rfl⟩ := h
      rw [List.getElem?_map] at hx
      cases eq : L[i]? with
      | none => rw [eq] at hx; cases hx
      | some qq =>
        rw [eq] at hx
        cases hx
        have ht := RL7.2 qq (List.mem_of_getElem? eq)
        have tk := fun c hc => take_filter (f := fun q : Row × Addr => decide (q.1.a ∈ aliveL S a b) && decide (q.1.b ∈ aliveL S a b)) eq c hc
        refine ⟨_, rfl, qq.2, _, _, .str qq.1.a, rfl, rfl, SqT.of ht, rfl, _, rfl, al, _, rfl, .inl (SqL.of eal7), rfl, flat_strs _, _, rfl, ?_⟩
        show if (if false = true then !inV (.str qq.1.a) ((aliveL S a b).map V.str) else inV (.str qq.1.a) ((aliveL S a b).map V.str)) = true then _ else _
        rw [if_neg Bool.false_ne_true, inV_str]
        by_cases h1 : qq.1.a ∈ aliveL S a b
        · rw [decide_eq_true h1]
          refine iteT ⟨_, rfl, qq.2, _, _, .str qq.1.b, rfl, rfl, SqT.of ht, rfl, _, rfl, al, _, rfl, .inl (SqL.of eal7), rfl, flat_strs _, _, rfl, ?_⟩
          show if (if false = true then !inV (.str qq.1.b) ((aliveL S a b).map V.str) else inV (.str qq.1.b) ((aliveL S a b).map V.str)) = true then _ else _
          rw [if_neg Bool.false_ne_true, inV_str]
          by_cases h2 : qq.1.b ∈ aliveL S a b
          · rw [decide_eq_true h2]
            refine iteT ⟨_, rfl, rfl, ?_, _, rfl⟩
            rw [tk true (by rw [decide_eq_true h1, decide_eq_true h2]; rfl), List.map_append]
            rfl
          · rw [decide_eq_false h2]
            refine iteF ⟨rfl, ?_, _, rfl⟩
            rw [tk false (by rw [decide_eq_false h2, Bool.and_false])]
            simp
        · rw [decide_eq_false h1]
          refine iteF (iteF ⟨rfl, ?_, _, rfl⟩)
          rw [tk false (by rw [decide_eq_false h1, Bool.false_and])]
          simp
    obtain ⟨rfl, rfl, o3, rfl⟩ := h
    rw [List.length_map, List.take_length]
    have RA : Rows H' (L.filter fun q => decide (q.1.a ∈ aliveL S a b) && decide (q.1.b ∈ aliveL S a b)) (rowsA S a b) := by
      refine ⟨?_, fun q hq => RL7.2 q (List.mem_filter.mp hq).1⟩
      unfold rowsA
      rw [← RL.1, List.filter_map]
      rfl
    generalize (L.filter fun q => decide (q.1.a ∈ aliveL S a b) && decide (q.1.b ∈ aliveL S a b)) = LA at RA
    have z8 := Same.new (o := .lst (LA.map fun q => V.ref q.2)) hrl
    have erl : (upd H' rl (.lst (LA.map fun q => V.ref q.2))) rl = some (.lst (LA.map fun q => V.ref q.2)) := upd_same
    generalize upd H' rl (.lst (LA.map fun q => V.ref q.2)) = H8 at z8 erl
    have s08 := (s06.trans s7).trans z8
    have RA8 := RA.same z8
    have eal8 := z8 _ _ eal7
    have ede8 := (s7.trans z8) _ _ ede
    -- prices
    intro dp hdp
    refine ⟨_, rfl, upd_same, [((Sum.inr a : Key), .int 0)], rfl, (by show 1 ≤ 15; decide), ?_⟩
    have z9 : Same H8 (upd (upd H8 dp (.dK [])) dp (.dK (mergeK [] [((Sum.inr a : Key), V.int 0)]))) := fun c oc z => by
      rw [upd_ne (ne_of_none z hdp), upd_ne (ne_of_none z hdp)]
      exact z
    have edp : (upd (upd H8 dp (.dK [])) dp (.dK (mergeK [] [((Sum.inr a : Key), V.int 0)]))) dp = some (.dK [((Sum.inr a : Key), V.int 0)]) := upd_same
    generalize upd (upd H8 dp (.dK [])) dp (.dK (mergeK [] [((Sum.inr a : Key), V.int 0)])) = H9 at z9 edp
    intro db hdb
    have z10 := Same.new (o := .dK []) hdb
    have edb : (upd H9 db (.dK [])) db = some (.dK []) := upd_same
    have hne : dp ≠ db := ne_of_none edp hdb
    generalize upd H9 db (.dK []) = H10 at z10 edb
    have edp10 := z10 _ _ edp
    have z810 := z9.trans z10
    have s010 := s08.trans z810
    have hdp0 : H dp = none := s08.free hdp
    have hdb0 : H db = none := (s08.trans z9).free hdb
    have eal10 := z810 _ _ eal8
    have ede10 := z810 _ _ ede8
    have erl10 := z810 _ _ erl
    have RA10 := RA8.same z810
    have al20 := alive_len g a b
    have hna : a ∈ aliveL S a b := alive_a g ha hb hbr
    have hlen : ((aliveL S a b).map V.str).length = (aliveL S a b).length := List.length_map ..
    refine ⟨_, rfl, _, rfl, _, rfl, _, rfl, al, _, rfl, .inl (SqL.of eal10), dp, db, rl, ((aliveL S a b).map V.str).length, aliveL S a b, LA, rowsA S a b, st0 a, rfl, hne, by omega, by omega, fun r hr => (rowsA_iff.mp hr).2.2, RA10, erl10, ⟨_, edp10, ⟨by simp, fun k hk => ⟨a, hna, List.mem_singleton.mp hk⟩⟩, st0_pr⟩, ⟨_, edb, ⟨List.nodup_nil, fun k hk => (nomatch hk)⟩, fun v => ⟨fun _ => rfl, fun r z => (nomatch z)⟩⟩, fun H11 b2 Pr Bk => ?_⟩
    rw [hlen] at Pr Bk
    rw [hlen]
    show gName 11 (optV (endS S a b).2) _ H11 _
    have Pr' : PrAt H11 dp (aliveL S a b) (endS S a b).1.p := Pr
    have Bk' : BkAt H11 db (aliveL S a b) LA (endS S a b).1.b := Bk
    clear Pr Bk
    have s11 : Same H H11 := fun c oc z => b2 c oc (s010 _ _ z) (ne_of_none z hdp0) (ne_of_none z hdb0)
    have eal11 := b2 _ _ eal10 (ne_of eal10 edp10 (fun z => by cases z)) (ne_of eal10 edb (fun z => by cases z))
    have ede11 := b2 _ _ ede10 (ne_of ede10 edp10 (fun z => by cases z)) (ne_of ede10 edb (fun z => by cases z))
    have RA11 : Rows H11 LA (rowsA S a b) := ⟨RA10.1, fun qq hq => b2 _ _ (RA10.2 qq hq) (ne_of (RA10.2 qq hq) edp10 (fun z => by cases z)) (ne_of (RA10.2 qq hq) edb (fun z => by cases z))⟩
    have hc11 := s11 _ _ hc
    have N11 := N.same s11
    cases hl : (endS S a b).2 with
    | some v =>
      obtain ⟨nev, hring⟩ := ring_found g ha hb hbr hl
      refine ⟨_, rfl, _, rfl, iteTb (by rfl) ?_⟩
      refine ⟨_, rfl, _, rfl, _, rfl, _, rfl, db, v, aliveL S a b, LA, rowsA S a b, (endS S a b).1, rfl, by omega, RA11, Bk', nev, fun rg i d H12 hrg s12 erg hd1 hd2 hit => ?_⟩
      obtain ⟨hca, path, neg, r, tlw, eback, hr', hra⟩ := hring i d hd1 hit
      have blen : (backL (endS S a b).1 (itB (endS S a b).1 i v) d).length = d := by unfold backL; rw [List.length_reverse, List.length_map, List.length_range]
      rw [eback] at erg path neg blen
      have hnm := path_names path
      have s012 := s11.trans s12
      have hrg0 : H rg = none := s11.free hrg
      refine ⟨p, ds, dl, ct, rg, S, a, b, itB (endS S a b).1 i v, k, r, tlw, rfl, N11.same s12, g, s12 _ _ hc11, ha, hb, erg, hr', hra, (alive_iff.mp hca).1, to_from hb (alive_iff.mp hca).2, hnm, by omega, neg, fun res l1 l2 l3 th on wt wo H13 s13 eres hres e1 e2 e3 eth hth eon hon wth won lth lon => ?_⟩
      refine ⟨(by show 2 ≤ sizeLine; decide), fun t ht => ?_⟩
      have z14 := Same.new (o := .tup [.bl true, .ref res]) ht
      have c1 := cost_100 g.bc lth
      have c2 := cost_100 g.bc lon
      have tt := times_bound (l := costOf S.ti wt + costOf S.ti wo - k) neg
      have te := times_enough (l := costOf S.ti wt + costOf S.ti wo - k) neg
      have tp := times_pos (costOf S.ti wt + costOf S.ti wo - k) (costOf S.ti (r.nm :: tlw))
      generalize timesN (costOf S.ti wt + costOf S.ti wo - k) (costOf S.ti (r.nm :: tlw)) = tm at e2 tt te tp
      have wring := path_end N path
      have hsw : StrW S a [(wt, 1), (r.nm :: tlw, tm), (wo, 1)] b (1 * costOf S.ti wt + (tm * costOf S.ti (r.nm :: tlw) + (1 * costOf S.ti wo + 0))) := .cons wth (by decide) (fun z => absurd z (by decide)) lth (.cons wring tp (fun _ => rfl) (by omega) (.cons won (by decide) (fun z => absurd z (by decide)) lon (.nil b)))
      refine qT t res [(l1, th, wt, 1), (l2, rg, r.nm :: tlw, tm), (l3, on, wo, 1)] _ _ ((s012.trans s13).trans z14) upd_same (z14 _ _ eres) (s012.free hres) (fun qq hq => ?_) (by show 3 ≤ 3; decide) hsw (by omega) (vdC_late hbr hl) (vdC_late hbr hl) (fun qq hq => ?_)
      · simp only [List.mem_cons, List.not_mem_nil, or_false] at hq
        rcases hq with rfl | rfl | rfl
        · exact ⟨z14 _ _ e1, z14 _ _ eth, s012.free hth⟩
        · exact ⟨z14 _ _ e2, z14 _ _ (s13 _ _ erg), hrg0⟩
        · exact ⟨z14 _ _ e3, z14 _ _ eon, s012.free hon⟩
      · have h63 : (3 * 10 ^ 61 + 1 : Nat) ≤ 10 ^ 63 := by decide
        simp only [List.mem_cons, List.not_mem_nil, or_false] at hq
        rcases hq with rfl | rfl | rfl
        · show (1 : Int).natAbs ≤ _
          omega
        · show tm.natAbs ≤ _
          omega
        · show (1 : Int).natAbs ≤ _
          omega
    | none =>
      obtain ⟨x, ex⟩ := priced_all g ha hb hbr hl b (alive_b hb hbr)
      obtain ⟨kvs, ek, dk, hv⟩ := Pr'
      have vb : valV kvs (Sum.inr b : Key) = some (.int x) := by rw [hv, ex]; rfl
      refine ⟨_, rfl, _, rfl, iteFb (by rfl) ?_⟩
      refine ⟨_, rfl, _, rfl, dp, _, rfl, by rw [← vb]; exact DGet.k (k := Sum.inr b) ek, _, rfl, ct, _, _, .int k, rfl, rfl, SqT.of hc11, rfl, _, _, rfl, rfl, _, rfl, ?_⟩
      show if decide (x ≤ k) = true then _ else _
      by_cases hxk : x ≤ k
      · refine iteTb (decide_eq_true hxk) ?_
        obtain ⟨i, hi, he, hg, path, ecost⟩ := walk_found g ha hb hbr hl ex
        refine ⟨_, rfl, _, rfl, db, b, i, aliveL S a b, LA, rowsA S a b, (endS S a b).1, rfl, RA11, Bk', by omega, he, hg, fun wl H12 hwl s12 ewl => ?_⟩
        refine ⟨(by show 2 ≤ sizeLine; decide), fun l1 hl1 => ?_⟩
        have z1 := Same.new (o := .lst [.ref wl, .int 1]) hl1
        have e1 : (upd H12 l1 (.lst [.ref wl, .int 1])) l1 = some (.lst [.ref wl, .int 1]) := upd_same
        generalize upd H12 l1 (.lst [.ref wl, .int 1]) = H13 at z1 e1
        refine ⟨(by show 1 ≤ sizeLine; decide), fun res hres => ?_⟩
        have z2 := Same.new (o := .lst [.ref l1]) hres
        have e2 : (upd H13 res (.lst [.ref l1])) res = some (.lst [.ref l1]) := upd_same
        generalize upd H13 res (.lst [.ref l1]) = H14 at z2 e2
        refine ⟨(by show 2 ≤ sizeLine; decide), fun t ht => ?_⟩
        have z3 := Same.new (o := .tup [.bl true, .ref res]) ht
        have blen : (backL (endS S a b).1 b i).length = i := by unfold backL; rw [List.length_reverse, List.length_map, List.length_range]
        have hsw : StrW S a [(backL (endS S a b).1 b i, 1)] b (1 * costOf S.ti (backL (endS S a b).1 b i) + 0) := .cons (path_end N path) (by decide) (fun z => absurd z (by decide)) (by omega) (.nil b)
        have etot : 1 * costOf S.ti (backL (endS S a b).1 b i) + 0 = x := by omega
        rw [etot] at hsw
        have s012 := s11.trans s12
        refine qT t res [(l1, wl, backL (endS S a b).1 b i, 1)] x _ (s012.trans (z1.trans (z2.trans z3))) upd_same (z3 _ _ e2) ((s012.trans z1).free hres) (fun qq hq => ?_) (by show 1 ≤ 3; decide) hsw hxk (by rw [vdC_still hbr hl ex]; exact decide_eq_true (Int.le_refl _)) (by rw [vdC_still hbr hl ex]; exact decide_eq_true hxk) (fun qq hq => ?_)
        · rw [List.mem_singleton.mp hq]
          exact ⟨(z2.trans z3) _ _ e1, (z1.trans (z2.trans z3)) _ _ ewl, s11.free hwl⟩
        · rw [List.mem_singleton.mp hq]
          show (1 : Int).natAbs ≤ _
          have : (1 : Nat) ≤ 10 ^ 63 := by decide
          omega
      · refine iteFb (decide_eq_false hxk) ?_
        have hf : ∀ y ∈ aliveL S a b, (endS S a b).1.p y = some (((endS S a b).1.p y).getD 0) := fun y hy => by
          obtain ⟨z, ez⟩ := priced_all g ha hb hbr hl y hy
          rw [ez]
          rfl
        have hfb : ((endS S a b).1.p b).getD 0 = x := by rw [ex]; rfl
        have dear := dear_priced (k := k) g ha hb hbr hl hf (by rw [hfb]; omega)
        refine ⟨_, rfl, al, rfl, ⟨_, SqL.of eal11⟩, comp_list (K := K) (ys := (aliveL S a b).map V.str) (fun i acc σ' H' => Same H11 H' ∧ (∃ L2 : List ((Str × Int) × Addr), acc = L2.map (fun q => V.ref q.2) ∧ PricesP H' L2 (((aliveL S a b).take i).map fun y => (y, ((endS S a b).1.p y).getD 0))) ∧ ∃ o, σ' = [o, some (.ref dp)])
          ⟨Same.refl _, ⟨[], rfl, rfl, fun _ h => (nomatch h)⟩, none, rfl⟩ (fun i acc σ' H' h => ?_) ?_ (fun i acc σ' H' _ h => SqL.of (h.1 _ _ eal11)) (fun i y acc σ' H' hy h => ?_) (fun acc σ' H' h pl hpl => ?_)⟩
        · obtain ⟨_, ⟨L2, rfl, h1, _⟩, _⟩ := h
          have := congrArg List.length h1
          rw [List.length_map, List.length_map, List.length_take] at this
          rw [List.length_map]
          omega
        · rw [hlen]
          exact Nat.le_trans al20 (by decide)
        · obtain ⟨t5, ⟨L2, rfl, h1, h2⟩, o, rfl⟩ := h
          rw [List.getElem?_map] at hy
          cases ey : (aliveL S a b)[i]? with
          | none => rw [ey] at hy; cases hy
          | some u =>
            rw [ey] at hy
            cases hy
            have hu' := List.mem_of_getElem? ey
            have vu : valV kvs (Sum.inr u : Key) = some (.int (((endS S a b).1.p u).getD 0)) := by rw [hv, hf u hu']; rfl
            refine ⟨_, rfl, _, rfl, _, rfl, dp, _, rfl, by rw [← vu]; exact DGet.k (k := Sum.inr u) (t5 _ _ ek), (by show 2 ≤ sizeLine; decide), fun qa hqa => ?_⟩
            have z1 := Same.new (o := .lst [.str u, .int (((endS S a b).1.p u).getD 0)]) hqa
            refine ⟨t5.trans z1, ⟨L2 ++ [((u, ((endS S a b).1.p u).getD 0), qa)], by rw [List.map_append]; rfl, ?_, fun q hq => ?_⟩, _, rfl⟩
            · rw [List.map_append, h1, List.take_add_one, ey, List.map_append]
              rfl
            · rcases List.mem_append.mp hq with hq | hq
              · exact z1 _ _ (h2 q hq)
              · rw [List.mem_singleton.mp hq]
                exact upd_same
        · obtain ⟨t5, ⟨L2, rfl, h1, h2⟩, o, rfl⟩ := h
          rw [hlen, List.take_length] at h1
          have z1 := Same.new (o := .lst (L2.map fun q => V.ref q.2)) hpl
          have e1 : (upd H' pl (.lst (L2.map fun q => V.ref q.2))) pl = some (.lst (L2.map fun q => V.ref q.2)) := upd_same
          generalize upd H' pl (.lst (L2.map fun q => V.ref q.2)) = H12 at z1 e1
          refine ⟨_, rfl, (by show 2 ≤ sizeLine; decide), fun res hres => ?_⟩
          have z2 := Same.new (o := .lst [.ref pl, .ref de]) hres
          have e2 : (upd H12 res (.lst [.ref pl, .ref de])) res = some (.lst [.ref pl, .ref de]) := upd_same
          generalize upd H12 res (.lst [.ref pl, .ref de]) = H13 at z2 e2
          refine ⟨(by show 2 ≤ sizeLine; decide), fun t ht => ?_⟩
          have z3 := Same.new (o := .tup [.bl false, .ref res]) ht
          have s012 := s11.trans t5
          exact qF t res pl de L2 _ (deadL S a b) _ (s012.trans (z1.trans (z2.trans z3))) upd_same (z3 _ _ e2) ((z2.trans z3) _ _ e1) ⟨h1, fun q hq => (z1.trans (z2.trans z3)) _ _ (h2 q hq)⟩ ((t5.trans (z1.trans (z2.trans z3))) _ _ ede11) (s012.free hpl) hde0 dear (by rw [vdC_still hbr hl ex]; exact decide_eq_false hxk)
theorem sc_fplain43 : FnScope ["net", "claim"] ["net", "claim"] (defScope s_find_plain) := ⟨rfl, rfl, rfl, by decide +kernel, rfl, by decide +kernel, by decide +kernel⟩
theorem ok_fplain43 {f : Addr} {fd : FuncData} (F : Fun K "find_plain" "find_plain" s_find_plain f fd) (cc : Can P w K mg base 6 "find_cost" ["net", "claim"] (spFindC C)) : FnOk P w K mg base CX0 7 f fd ["net", "claim"] (spFindC C) := by
  refine F.ok sc_fplain43 (fun vs H Q E h => ?_) (fun cdv A outer s H vs Q E hr h => ?_)
  · obtain ⟨p, ds, dl, ct, S, a, b, k, rfl, _⟩ := h
    rfl
  · obtain ⟨p, ds, dl, ct, S, a, b, k, rfl, N, g, hc, rest⟩ := h
    refine ⟨_, (pss_cons (ps_if (pt_cmpR op_eq (pe_ix ix_tup (pv 1) pe_int (fun _ _ => by rfl)) pe_str (nomark _)) (pss_one ps_never) pss_nil)
      (pss_cons (ps_if (pt_cmpR op_eq (pe_ix ix_tup (pv 1) pe_int (fun _ _ => by rfl)) pe_str (nomark _)) (pss_one (ps_ret (pe_callC cc hr (by rfl) (pa_cons (pv 0) (pa_cons (pv 1) pa_nil))))) pss_nil)
      (pss_cons ps_never
      (pss_cons ps_never
      (pss_one ps_never))))), ?_⟩
    refine ⟨_, rfl, ct, _, _, .str "cost", rfl, rfl, SqT.of hc, rfl, rfl, _, rfl, iteFb c_cw ?_⟩
    refine ⟨_, rfl, ct, _, _, .str "cost", rfl, rfl, SqT.of hc, rfl, rfl, _, rfl, iteTb c_cc ?_⟩
    exact ⟨_, rfl, _, rfl, p, ds, dl, ct, S, a, b, k, rfl, N, g, hc, rest⟩
end
end Net

namespace Net
open PySem L2
def RowsOk (S : NS) : Prop := ∀ r ∈ S.ti, nameB r.nm = true ∧ nameB r.a = true ∧ nameB r.b = true
def spSpent : Sp := fun vs H Q _ => ∃ (ta l pa : Addr) (S : NS) (ws : List Str), vs = [.ref ta, .ref l] ∧ PartsAt H pa ta S ∧ NetC S ∧ H l = some (.lst (ws.map V.str)) ∧ (∀ y ∈ ws, y ∈ S.nms) ∧ ws.length ≤ 100 ∧ ∀ H', Same H H' → Q (.int (costOf S.ti ws)) H'
def spStretched : Sp := fun vs H Q _ => ∃ (ta pa res : Addr) (S : NS) (a b : Str) (k tot : Int) (rs : List (Addr × Addr × List Str × Int)), vs = [.ref ta, .str a, .ref res] ∧ PartsAt H pa ta S ∧ NetC S ∧ RowsOk S ∧ H res = some (.lst (rs.map fun q => V.ref q.1)) ∧ (∀ q ∈ rs, H q.1 = some (.lst [.ref q.2.1, .int q.2.2.2]) ∧ H q.2.1 = some (.lst (q.2.2.1.map V.str))) ∧ rs.length ≤ 3 ∧
  StrW S a (rs.map (·.2.2)) b tot ∧ k.natAbs ≤ 10 ^ 200 ∧ TimesB k rs ∧ ∀ (t : Addr) (H' : Hp), Same H H' → H' t = some (.tup [.str b, .int tot]) → Q (.ref t) H'
def kvD (kv : List (Str × Int)) : List (Key × V) := kv.map fun p => ((Sum.inr p.1 : Key), V.int p.2)
def spParted : Sp := fun vs H Q _ => ∃ (pa ta res pl dd : Addr) (S : NS) (L : List ((Str × Int) × Addr)) (kv : List (Str × Int)) (dead : List Str), vs = [.ref pa, .ref res] ∧ PartsAt H pa ta S ∧ H res = some (.lst [.ref pl, .ref dd]) ∧ H pl = some (.lst (L.map fun q => V.ref q.2)) ∧ PricesP H L kv ∧ H dd = some (.lst (dead.map V.str)) ∧
  (kv.map (·.1) ++ dead).Nodup ∧ (∀ x ∈ kv.map (·.1) ++ dead, x ∈ S.pl) ∧ S.pl.length ≤ 20 ∧ ∀ (d : Addr) (H' : Hp), Same H H' → H' d = some (.dK (kvD kv)) → Q (.ref d) H'
def spDear : Sp := fun vs H Q _ => ∃ (ta pa res pl dd : Addr) (S : NS) (a b : Str) (k : Int) (L : List ((Str × Int) × Addr)) (kv : List (Str × Int)) (dead : List Str), vs = [.ref ta, .ref pa, .str a, .str b, .int k, .ref res] ∧ PartsAt H pa ta S ∧ NetC S ∧ H res = some (.lst [.ref pl, .ref dd]) ∧ H pl = some (.lst (L.map fun q => V.ref q.2)) ∧ PricesP H L kv ∧ H dd = some (.lst (dead.map V.str)) ∧ DearP S a b k kv dead ∧
  ∀ H', Same H H' → Q (.bl true) H'
theorem take_filt {α : Type} {f : α → Bool} {l : List α} {i : Nat} {x : α} (e : l[i]? = some x) (b : Bool) (hb : f x = b) : (l.take (i + 1)).filter f = (l.take i).filter f ++ (if b then [x] else []) := by
  rw [List.take_add_one, e, List.filter_append]
  show _ ++ List.filter f [x] = _
  cases b with
  | true => rw [List.filter_cons_of_pos hb]; rfl
  | false => rw [List.filter_cons_of_neg (by rw [hb]; exact Bool.false_ne_true)]; rfl
theorem row_filter {ti : List Row} (nd : (ti.map (·.nm)).Nodup) {r : Row} (hr : r ∈ ti) : ti.filter (fun q => decide (q.nm = r.nm)) = [r] := by
  induction ti with
  | nil => cases hr
  | cons q t ih =>
    rw [List.map_cons, List.nodup_cons] at nd
    rcases List.mem_cons.mp hr with rfl | hr
    · rw [List.filter_cons_of_pos (by simp)]
      have : t.filter (fun q => decide (q.nm = r.nm)) = [] := List.filter_eq_nil_iff.mpr fun q hq z => nd.1 (List.mem_map.mpr ⟨q, hq, of_decide_eq_true z⟩)
      rw [this]
    · have hne : q.nm ≠ r.nm := fun z => nd.1 (List.mem_map.mpr ⟨r, hr, z.symm⟩)
      rw [List.filter_cons_of_neg (by simpa using hne)]
      exact ih nd.2 hr
theorem kvD_val {kv : List (Str × Int)} (x : Str) : valV (kvD kv) (Sum.inr x : Key) = (kv.find? fun p => decide (p.1 = x)).map fun p => V.int p.2 := by
  unfold kvD
  induction kv with
  | nil => rfl
  | cons p r ih =>
    by_cases e : p.1 = x
    · rw [List.map_cons, valV_pos (congrArg Sum.inr e), List.find?_cons_of_pos (by simpa using e)]
      rfl
    · rw [List.map_cons, valV_neg (fun z => e (Sum.inr.inj z)), List.find?_cons_of_neg (by simpa using e)]
      exact ih
theorem kvD_in {kv : List (Str × Int)} (nd : (kv.map (·.1)).Nodup) {x : Str} {y : Int} (h : (x, y) ∈ kv) : valV (kvD kv) (Sum.inr x : Key) = some (.int y) := by
  rw [kvD_val]
  induction kv with
  | nil => cases h
  | cons p r ih =>
    rw [List.map_cons, List.nodup_cons] at nd
    rcases List.mem_cons.mp h with rfl | h
    · rw [List.find?_cons_of_pos (by simp)]
      rfl
    · have hne : p.1 ≠ x := fun z => nd.1 (List.mem_map.mpr ⟨(x, y), h, z.symm⟩)
      rw [List.find?_cons_of_neg (by simpa using hne)]
      exact ih nd.2 h
theorem kvD_out {kv : List (Str × Int)} {x : Str} (h : x ∉ kv.map (·.1)) : valV (kvD kv) (Sum.inr x : Key) = none := by
  rw [kvD_val, List.find?_eq_none.mpr]
  · rfl
  · intro p hp z
    exact h (List.mem_map.mpr ⟨p, hp, of_decide_eq_true z⟩)
theorem mem_key {kv : List (Str × Int)} {x : Str} (h : x ∈ kv.map (·.1)) : ∃ y, (x, y) ∈ kv := by
  obtain ⟨p, hp, rfl⟩ := List.mem_map.mp h
  exact ⟨p.2, hp⟩
section
variable {P : Program} {w : World} {K : PySem.W.Frag} {mg : Str → Option Value} {base : Heap} {C : Addr}
theorem sc_spent : FnScope ["_law_ties", "_law_walk"] ["_law_ties", "_law_walk"] (defScope s_l_spent) := ⟨rfl, rfl, rfl, by decide +kernel, rfl, by decide +kernel, by decide +kernel⟩
theorem ok_spent {f : Addr} {fd : FuncData} (F : Fun K "_law_spent" "_law_spent" s_l_spent f fd) (TW : TxtW mg) : FnOk P w K mg base CX0 1 f fd ["_law_ties", "_law_walk"] spSpent := by
  refine F.ok sc_spent (fun vs H Q E h => ?_) (fun cdv A outer s H vs Q E hr h => ?_)
  · obtain ⟨ta, l, pa, S, ws, rfl, _⟩ := h
    rfl
  · obtain ⟨ta, l, pa, S, ws, rfl, PA, g, hl, hin, hlen, q⟩ := h
    have nd3 : List.Nodup (["_law_name", "_law_ties"] : List Str) := by decide +kernel
    have nd4 : List.Nodup (["_law_row", "_law_name"] : List Str) := by decide +kernel
    refine ⟨_, (pss_one (ps_ret (pe_callB (call_sum rfl) (by rfl) TW.sum b_sum (pa_cons (pe_compZ (N := ["_law_name", "_law_ties"]) (xs := 1) (js := [0]) rfl (compScopeZ_of rfl) (pi_list (pv 1)) (fun _ _ _ _ => pg_name (i := 0) nd3 rfl (Or.inr rfl)) (fun _ _ _ _ => pts_nil)
      (fun _ _ _ _ => pe_ix (ix_listK K (by rfl)) (pe_comp (N := ["_law_row", "_law_name"]) (xs := 1) (js := [0]) rfl (compScope_of rfl) (pi_listK K (by rfl) (pv 1)) (fun _ _ _ _ => pg_name (i := 0) nd4 rfl (Or.inl rfl))
          (fun _ _ _ _ => pts_one (pt_cmpR op_eq (pe_ix (ix_tupK K (by rfl)) (pv 0) pe_int (fun _ _ => by rfl)) (pv 1) (nomark _))) (fun _ _ _ _ => pe_ix (ix_tupK K (by rfl)) (pv 0) pe_int (fun _ _ => by rfl))) pe_int (fun _ _ => by rfl))) pa_nil)))), ?_⟩
    obtain ⟨L, RL, eta⟩ := PA.ti
    have hL : L.length = S.ti.length := by rw [← RL.1, List.length_map]
    refine ⟨_, rfl, l, rfl, ⟨_, SqL.of hl⟩, comp_list (K := K) (ys := ws.map V.str) (fun i acc σ' H' => Same H H' ∧ acc = ((ws.take i).map fun x => V.int (((rowOf S.ti x).map fun r : Row => r.c).getD 0)) ∧ ∃ o, σ' = [o, some (.ref ta)])
      ⟨Same.refl _, rfl, none, rfl⟩ (fun i acc σ' H' h => ?_) ?_ (fun i acc σ' H' _ h => SqL.of (h.1 _ _ hl)) (fun i x acc σ' H' hx h => ?_) (fun acc σ' H' h pp hpp => ?_)⟩
    · rw [h.2.1, List.length_map, List.length_take]
      omega
    · rw [List.length_map]
      exact Nat.le_trans hlen (by decide)
    · obtain ⟨t1, rfl, o, rfl⟩ := h
      rw [List.getElem?_map] at hx
      cases ey : ws[i]? with
      | none => rw [ey] at hx; cases hx
      | some y =>
        rw [ey] at hx
        cases hx
        obtain ⟨r, hr', hrn⟩ := List.mem_map.mp (hin y (List.mem_of_getElem? ey))
        subst hrn
        have eta1 := t1 _ _ eta
        have RL1 := RL.same t1
        refine ⟨_, rfl, ta, rfl, ⟨_, SqL.of eta1⟩, comp_list (K := K) (ys := L.map fun q => V.ref q.2) (fun j acc σ' H2 => H2 = H' ∧ acc = ((L.take j).filter fun q => decide (q.1.nm = r.nm)).map (fun q => V.int q.1.c) ∧ ∃ o, σ' = [o, some (.str r.nm)])
          ⟨rfl, rfl, none, rfl⟩ (fun j acc σ' H2 h => ?_) ?_ (fun j acc σ' H2 _ h => by rw [h.1]; exact SqL.of eta1) (fun j x acc σ' H2 hx h => ?_) (fun acc σ' H2 h pp hpp => ?_)⟩
        · obtain ⟨_, rfl, _⟩ := h
          rw [List.length_map]
          exact Nat.le_trans (List.length_filter_le _ _) (by rw [List.length_take]; omega)
        · rw [List.length_map, hL]
          exact Nat.le_trans g.lenT (by decide)
        · obtain ⟨rfl, rfl, o2, rfl⟩ := h
          rw [List.getElem?_map] at hx
          cases eq : L[j]? with
          | none => rw [eq] at hx; cases hx
          | some qq =>
            rw [eq] at hx
            cases hx
            have ht := RL1.2 qq (List.mem_of_getElem? eq)
            have tk := fun c hc => take_filt (f := fun q : Row × Addr => decide (q.1.nm = r.nm)) eq c hc
            refine ⟨_, rfl, qq.2, _, _, .str qq.1.nm, rfl, rfl, SqT.of ht, rfl, _, rfl, rfl, _, rfl, ?_⟩
            show if decide (V.str qq.1.nm = V.str r.nm) = true then _ else _
            by_cases h1 : qq.1.nm = r.nm
            · refine iteTb (decide_eq_true (by rw [h1])) ⟨_, rfl, qq.2, _, _, .int qq.1.c, rfl, rfl, SqT.of ht, rfl, rfl, ?_, _, rfl⟩
              rw [tk true (decide_eq_true h1), List.map_append]
              rfl
            · refine iteFb (decide_eq_false fun z => h1 (V.str.inj z)) ⟨rfl, ?_, _, rfl⟩
              rw [tk false (decide_eq_false h1)]
              simp
        · obtain ⟨rfl, rfl, o2, rfl⟩ := h
          rw [List.length_map, List.take_length]
          have e1 : (L.filter fun q => decide (q.1.nm = r.nm)).map (fun q => V.int q.1.c) = [V.int r.c] := by
            have h2 : ((L.map (·.1)).filter fun q => decide (q.nm = r.nm)) = [r] := by rw [RL.1]; exact row_filter g.ndT hr'
            rw [List.filter_map] at h2
            have h3 := congrArg (List.map fun q : Row => V.int q.c) h2
            rw [List.map_map] at h3
            exact h3
          rw [e1]
          refine ⟨pp, _, _, .int r.c, rfl, rfl, SqL.of upd_same, atI_nat (j := 0) rfl, t1.upd hpp, ?_, _, rfl⟩
          rw [List.take_add_one, ey, List.map_append]
          show _ ++ [V.int r.c] = _ ++ [V.int (((rowOf S.ti r.nm).map fun r : Row => r.c).getD 0)]
          rw [rowOf_nd g.ndT hr']
          rfl
    · obtain ⟨t1, rfl, o, rfl⟩ := h
      rw [List.length_map, List.take_length]
      refine ⟨pp, ws.map (fun x : Str => ((rowOf S.ti x).map (fun r : Row => r.c)).getD 0), rfl, SqL.of ?_, q _ (t1.upd hpp)⟩
      rw [upd_same, List.map_map]
      rfl
abbrev Nstretched : List Str := ["_law_ties", "_law_a", "_law_paper", "_law_cost_here", "_law_row", "_law_end_here"]
theorem sc_stretched : FnScope Nstretched ["_law_ties", "_law_a", "_law_paper"] (defScope s_l_stretched) := ⟨rfl, rfl, rfl, by decide +kernel, rfl, by decide +kernel, by decide +kernel⟩
theorem ok_stretched {f : Addr} {fd : FuncData} (F : Fun K "_law_stretched" "_law_stretched" s_l_stretched f fd) (T : Txt K mg C) (cwh : Can P w K mg base 1 "_law_whole" ["_law_found"] spWhole) (ce : Can P w K mg base 1 "_law_end" ["_law_ties", "_law_a", "_law_paper"] spLEnd) (csp : Can P w K mg base 1 "_law_spent" ["_law_ties", "_law_walk"] spSpent) :
    FnOk P w K mg base CX0 2 f fd ["_law_ties", "_law_a", "_law_paper"] spStretched := by
  refine F.ok sc_stretched (fun vs H Q E h => ?_) (fun cdv A outer s H vs Q E hr h => ?_)
  · obtain ⟨ta, pa, res, S, a, b, k, tot, rs, rfl, _⟩ := h
    rfl
  · obtain ⟨ta, pa, res, S, a, b, k, tot, rs, rfl, PA, g, rok, eres, hrs, hl3, sw, hk, tb, q⟩ := h
    refine ⟨_, (pss_cons (ps_if (pt_not (pt_val (pe_callB call_isinst (by rfl) T.isi b_isi (pa_cons (pv 2) (pa_cons (pe_ty T.list (by rfl) b_list) pa_nil))))) (pss_one (ps_ret pe_non)) pss_nil)
      (pss_cons (ps_set (i := 3) sc_stretched.nd rfl (Or.inl rfl) pe_int)
      (pss_cons (ps_for PassesOwn.never rfl (pi_list (pv 2)) (pg_name (i := 4) sc_stretched.nd rfl (Or.inl rfl))
        (pss_cons (ps_if (PW.pt (pw_or (pt_not (pt_val (pe_callB call_isinst (by rfl) T.isi b_isi (pa_cons (pv 4) (pa_cons (pe_ty T.list (by rfl) b_list) pa_nil))))) (pw_or (pt_cmpR op_ne (pe_callB call_len_seq (by rfl) T.len b_len (pa_cons (pv 4) pa_nil)) pe_int (nomark _)) (pw_or (pt_not (pt_val (pe_callC cwh hr (by rfl) (pa_cons (pe_ix ix_list (pv 4) pe_int (fun _ _ => by rfl)) pa_nil)))) (pw_or1 (pt_cmpR op_lt (pe_ix ix_list (pv 4) pe_int (fun _ _ => by rfl)) pe_int (nomark _))))))) (pss_one (ps_ret pe_non)) pss_nil)
      (pss_cons (ps_set (i := 5) sc_stretched.nd rfl (Or.inl rfl) (pe_callC ce hr (by rfl) (pa_cons (pv 0) (pa_cons (pv 1) (pa_cons (pe_ix ix_list (pv 4) pe_int (fun _ _ => by rfl)) pa_nil)))))
      (pss_cutE (ps_if (PW.pt (pw_or (pt_cmp (pc_isN (pv 5))) (pw_or1 (PW.pt (pw_and (pt_cmpR op_gt (pe_ix ix_list (pv 4) pe_int (fun _ _ => by rfl)) pe_int (nomark _)) (pw_and1 (pt_cmpR op_ne (pv 5) (pv 1) (nomark _)))))))) (pss_one (ps_ret pe_non)) pss_nil)
      (pss_cons (ps_set (i := 3) sc_stretched.nd rfl (Or.inl rfl) (pe_op op_add (pv 3) (pe_op op_mulG (pe_ix ix_list (pv 4) pe_int (fun _ _ => by rfl)) (pe_callC csp hr (by rfl) (pa_cons (pv 0) (pa_cons (pe_ix ix_list (pv 4) pe_int (fun _ _ => by rfl)) pa_nil))))))
      (pss_one (ps_set (i := 1) sc_stretched.nd rfl (Or.inl rfl) (pv 5))))))))
      (pss_one (ps_ret (pe_tup (pa_cons (pv 1) (pa_cons (pv 3) pa_nil)))))))), ?_⟩
    refine ⟨_, rfl, _, "list", _, true, rfl, .lst eres, rfl, true, rfl, iteF ?_⟩
    refine ⟨_, rfl, res, rfl, ⟨_, SqL.of eres⟩, for_list (K := K) (a := res) (xs := rs.map fun q => V.ref q.1) (fun i σ' H' => ∃ (c : Str) (acc tt : Int) (o4 o5 : Option V), σ' = [some (.ref ta), some (.str c), some (.ref res), some (.int acc), o4, o5] ∧ Same H H' ∧ StrW S c ((rs.drop i).map (·.2.2)) b tt ∧ acc + tt = tot)
      ⟨a, 0, tot, _, _, rfl, Same.refl H, by rw [List.drop_zero]; exact sw, by omega⟩ (fun i σ' H' _ h => ?_) (fun i v σ' H' hv h => ?_) (fun σ' H' h => ?_)⟩
    · obtain ⟨_, _, _, _, _, _, s1, _⟩ := h
      exact SqL.of (s1 _ _ eres)
    · obtain ⟨c, acc, tt, o4, o5, rfl, s1, sw1, hacc⟩ := h
      rw [List.getElem?_map] at hv
      cases eq : rs[i]? with
      | none => rw [eq] at hv; cases hv
      | some qq =>
        rw [eq] at hv
        cases hv
        have hi : i < rs.length := (List.getElem?_eq_some_iff.mp eq).1
        have hdrop : rs.drop i = qq :: rs.drop (i + 1) := by
          rw [List.drop_eq_getElem_cons hi]
          have := (List.getElem?_eq_some_iff.mp eq).2
          rw [this]
        rw [hdrop, List.map_cons] at sw1
        have hq := List.mem_of_getElem? eq
        obtain ⟨e1, e2⟩ := hrs qq hq
        have e1' := s1 _ _ e1
        have e2' := s1 _ _ e2
        have htb := tb qq hq
        obtain ⟨q1, q2, ws, tm⟩ := qq
        dsimp only at e1 e2 e1' e2' htb sw1
        cases sw1 with
        | @cons _ d _ _ _ tot' _ h1 h2 h3 hl hrest =>
          refine ⟨_, rfl, _, "list", _, true, rfl, .lst e1', rfl, true, rfl, iteF ⟨_, rfl, q1, _, rfl, .inl (SqL.of e1'), rfl, _, rfl, iteF ⟨_, rfl, q1, _, _, .int tm, rfl, rfl, SqL.of e1', atI_nat (j := 1) rfl, tm, rfl, _, rfl, iteF ⟨_, rfl, q1, _, _, .int tm, rfl, rfl, SqL.of e1', atI_nat (j := 1) rfl, _, _, rfl, rfl, _, rfl, iteFb (decide_eq_false (by omega)) ?_⟩⟩⟩⟩
          refine ⟨_, rfl, _, rfl, _, rfl, q1, _, _, .ref q2, rfl, rfl, SqL.of e1', atI_nat (j := 0) rfl, ta, q2, pa, S, c, d, ws, rfl, PA.same s1, g.ndT, g.lenT, rok, e2', h1.2, fun H2 s2 => ?_⟩
          have s12 := s1.trans s2
          have e1'' := s2 _ _ e1'
          refine ⟨fun σ3 H3 => H3 = H2 ∧ σ3 = [some (.ref ta), some (.str c), some (.ref res), some (.int acc), some (.ref q1), some (.str d)], ?_, ?_⟩
          · refine ⟨_, rfl, _, rfl, iteFb (by rfl) ⟨_, rfl, q1, _, _, .int tm, rfl, rfl, SqL.of e1'', atI_nat (j := 1) rfl, _, _, rfl, rfl, _, rfl, ?_⟩⟩
            show if decide ((1 : Int) < tm) = true then _ else _
            by_cases h1t : 1 < tm
            · refine iteTb (decide_eq_true h1t) ⟨_, rfl, _, rfl, rfl, _, rfl, ?_⟩
              have hdc := h3 h1t
              subst hdc
              exact iteFb (by simp) ⟨rfl, rfl⟩
            · exact iteFb (decide_eq_false h1t) (iteF ⟨rfl, rfl⟩)
          rintro σ3 H3 ⟨rfl, rfl⟩
          have cb := cost_100 g.bc hl
          have big : (10 ^ 61 : Nat) < 2 ^ 3000 := by decide +kernel
          have big2 : (10 ^ 200 + 10 ^ 63 : Nat) < 2 ^ 3000 := by decide +kernel
          refine ⟨_, rfl, _, rfl, q1, _, _, .int tm, rfl, rfl, SqL.of e1'', atI_nat (j := 1) rfl, _, rfl, _, rfl, q1, _, _, .ref q2, rfl, rfl, SqL.of e1'', atI_nat (j := 0) rfl, ta, q2, pa, S, ws, rfl, PA.same s12, g, s2 _ _ e2', h1.1, hl, fun H4 s4 => ⟨_, _, rfl, rfl, ⟨by omega, by omega⟩, _, _, rfl, rfl, ?_⟩⟩
          exact ⟨_, rfl, d, acc + tm * costOf S.ti ws, tot', _, _, rfl, s12.trans s4, hrest, by omega⟩
    · obtain ⟨c, acc, tt, o4, o5, rfl, s1, sw1, hacc⟩ := h
      rw [List.length_map, List.drop_length] at sw1
      have hcb : c = b ∧ tt = 0 := by
        cases sw1
        exact ⟨rfl, rfl⟩
      rw [hcb.1, show acc = tot by omega]
      refine ⟨_, rfl, _, rfl, (by show 2 ≤ sizeLine; decide), fun t ht => q t _ (s1.upd ht) upd_same⟩
end
end Net

namespace Net
open PySem L2
theorem strW_bound {S : NS} (bc : ∀ r ∈ S.ti, BC r.c) {B : Nat} {a b : Str} {l : List (List Str × Int)} {tot : Int} (h : StrW S a l b tot) (hB : ∀ q ∈ l, q.2.natAbs ≤ B) : tot.natAbs ≤ l.length * (B * 10 ^ 61) := by
  induction h with
  | nil a => exact Nat.zero_le _
  | @cons a c b ws t tot rest h1 h2 h3 hl hr ih =>
    have ih' := ih fun q hq => hB q (List.mem_cons_of_mem _ hq)
    have ht := hB (ws, t) List.mem_cons_self
    have hc := cost_100 bc hl
    have hm : (t * costOf S.ti ws).natAbs ≤ B * 10 ^ 61 := by
      rw [Int.natAbs_mul]
      exact Nat.mul_le_mul ht hc
    have := Int.natAbs_add_le (t * costOf S.ti ws) tot
    rw [List.length_cons, Nat.succ_mul]
    omega
def spAsked43 (C : Addr) : Sp := fun vs H Q _ => ∃ (x ds dl ta pa : Addr) (S : NS) (a b : Str) (k : Int), vs = [.ref x, .ref ta, .ref pa, .str a, .str b, .int k] ∧ NetS C H x ds dl S ∧ NetC S ∧ RowsOk S ∧ PartsAt H pa ta S ∧ a ∈ S.pl ∧ b ∈ S.pl ∧ k.natAbs ≤ 10 ^ 200 ∧
  (∀ (t : Addr) (H' : Hp), Same H H' → vdC S a b k = false → H' t = some (.tup [.bl false, .int 0]) → Q (.ref t) H') ∧
  ∀ (t : Addr) (c : Int) (H' : Hp), Same H H' → vdC S a b c = true → c.natAbs ≤ 3 * ((k.natAbs + 10 ^ 63) * 10 ^ 61) → H' t = some (.tup [.bl true, .int c]) → Q (.ref t) H'
theorem kvD_take {kv : List (Str × Int)} (nd : (kv.map (·.1)).Nodup) {i : Nat} {x : Str} {y : Int} (e : kv[i]? = some (x, y)) : putK (kvD (kv.take i)) (Sum.inr x : Key) (.int y) = kvD (kv.take (i + 1)) := by
  have hx : x ∉ (kv.take i).map (·.1) := by
    have e2 : (kv.map (·.1))[i]? = some x := by rw [List.getElem?_map, e]; rfl
    have := take_new nd e2
    rw [← List.map_take] at this
    exact this
  rw [putK_new _ (kvD_out hx), List.take_add_one, e]
  unfold kvD
  rw [List.map_append]
  rfl
section
variable {P : Program} {w : World} {K : PySem.W.Frag} {mg : Str → Option Value} {base : Heap} {C : Addr}
abbrev Nparted : List Str := ["_law_places", "_law_paper", "_law_price", "_law_row", "_law_names"]
theorem sc_parted : FnScope Nparted ["_law_places", "_law_paper"] (defScope s_l_parted) := ⟨rfl, rfl, rfl, by decide +kernel, rfl, by decide +kernel, by decide +kernel⟩
theorem ok_parted {f : Addr} {fd : FuncData} (F : Fun K "_law_parted" "_law_parted" s_l_parted f fd) (T : Txt K mg C) (cwh : Can P w K mg base 1 "_law_whole" ["_law_found"] spWhole) (cl : Can P w K mg base 1 "_law_listed" ["_law_places", "_law_paper"] spLListed) : FnOk P w K mg base CX0 2 f fd ["_law_places", "_law_paper"] spParted := by
  refine F.ok sc_parted (fun vs H Q E h => ?_) (fun cdv A outer s H vs Q E hr h => ?_)
  · obtain ⟨pa, ta, res, pl, dd, S, L, kv, dead, rfl, _⟩ := h
    rfl
  · obtain ⟨pa, ta, res, pl, dd, S, L, kv, dead, rfl, PA, eres, epl, ⟨hLk, hL⟩, edd, nd, hin, h20, q⟩ := h
    have hu := hu_of hr
    have nd1 : List.Nodup (["_law_row"] : List Str) := by decide +kernel
    have hlen : (kv.map (·.1) ++ dead).length ≤ 20 := Nat.le_trans (nodup_len nd hin) h20
    have hkl : kv.length + dead.length ≤ 20 := by rw [List.length_append, List.length_map] at hlen; exact hlen
    have hLl : L.length = kv.length := by rw [← hLk, List.length_map]
    refine ⟨_, (pss_cons (ps_if (PW.pt (pw_or (pt_not (pt_val (pe_callB call_isinst (by rfl) T.isi b_isi (pa_cons (pv 1) (pa_cons (pe_ty T.list (by rfl) b_list) pa_nil))))) (pw_or1 (pt_cmpR op_ne (pe_callB call_len_seq (by rfl) T.len b_len (pa_cons (pv 1) pa_nil)) pe_int (nomark _))))) (pss_one (ps_ret pe_non)) pss_nil)
      (pss_cons (ps_if (PW.pt (pw_or (pt_not (pt_val (pe_callB call_isinst (by rfl) T.isi b_isi (pa_cons (pe_ix ix_list (pv 1) pe_int (fun _ _ => by rfl)) (pa_cons (pe_ty T.list (by rfl) b_list) pa_nil))))) (pw_or1 (pt_not (pt_val (pe_callB call_isinst (by rfl) T.isi b_isi (pa_cons (pe_ix ix_list (pv 1) pe_int (fun _ _ => by rfl)) (pa_cons (pe_ty T.list (by rfl) b_list) pa_nil)))))))) (pss_one (ps_ret pe_non)) pss_nil)
      (pss_cons (ps_set (i := 2) sc_parted.nd rfl (Or.inl rfl) pe_dnewK)
      (pss_cons (ps_for PassesOwn.never rfl (pi_list (pe_ix ix_list (pv 1) pe_int (fun _ _ => by rfl))) (pg_name (i := 3) sc_parted.nd rfl (Or.inl rfl))
        (pss_one (ps_if (PW.pt (pw_or (pt_not (pt_val (pe_callB call_isinst (by rfl) T.isi b_isi (pa_cons (pv 3) (pa_cons (pe_ty T.list (by rfl) b_list) pa_nil))))) (pw_or (pt_cmpR op_ne (pe_callB call_len_seq (by rfl) T.len b_len (pa_cons (pv 3) pa_nil)) pe_int (nomark _)) (pw_or1 (pt_not (pt_val (pe_callC cwh (hr.mono (by decide)) (by rfl) (pa_cons (pe_ix ix_list (pv 3) pe_int (fun _ _ => by rfl)) pa_nil)))))))) (pss_one (ps_ret pe_non)) pss_nil)))
      (pss_cons (ps_comp (j := 4) (N := ["_law_row"]) (xs := 1) (js := []) rfl sc_parted.nd rfl rfl (compScope_of rfl) (pi_list (pe_ix ix_list (pv 1) pe_int (fun _ _ => by rfl))) (fun _ _ _ _ => pg_name (i := 0) nd1 rfl (Or.inl rfl)) (fun _ _ _ _ => pts_nil) (fun _ _ _ _ => pe_ix (ix_listK K (by rfl)) (pv 0) pe_int (fun _ _ => by rfl)) rfl)
      (pss_cons (ps_if (pt_not (pt_val (pe_callC cl (hr.mono (by decide)) (by rfl) (pa_cons (pv 0) (pa_cons (pe_op op_cat (pv 4) (pe_ix ix_list (pv 1) pe_int (fun _ _ => by rfl))) pa_nil))))) (pss_one (ps_ret pe_non)) pss_nil)
      (pss_cons (ps_for PassesOwn.never rfl (pi_list (pe_ix ix_list (pv 1) pe_int (fun _ _ => by rfl))) (pg_name (i := 3) sc_parted.nd rfl (Or.inl rfl))
        (pss_one (ps_dput hu (pv 2) (pe_ix ix_list (pv 3) pe_int (fun _ _ => by rfl)) (pe_ix ix_list (pv 3) pe_int (fun _ _ => by rfl)) rfl)))
      (pss_one (ps_ret (pv 2)))))))))), ?_⟩
    refine ⟨_, rfl, _, "list", _, true, rfl, .lst eres, rfl, true, rfl, iteF ⟨_, rfl, res, _, rfl, .inl (SqL.of eres), rfl, _, rfl, iteF ?_⟩⟩
    refine ⟨_, rfl, res, _, _, .ref pl, rfl, rfl, SqL.of eres, atI_nat (j := 0) rfl, _, "list", _, true, rfl, .lst epl, rfl, true, rfl, iteF ⟨_, rfl, res, _, _, .ref dd, rfl, rfl, SqL.of eres, atI_nat (j := 1) rfl, _, "list", _, true, rfl, .lst edd, rfl, true, rfl, iteF ?_⟩⟩
    refine (fun d hd => ?_)
    have s1 := Same.new (o := .dK []) hd
    have ed : (upd H d (.dK [])) d = some (.dK []) := upd_same
    generalize upd H d (.dK []) = H1 at s1 ed
    refine ⟨_, rfl, res, _, _, .ref pl, rfl, rfl, SqL.of (s1 _ _ eres), atI_nat (j := 0) rfl, pl, rfl, ⟨_, SqL.of (s1 _ _ epl)⟩, for_list (K := K) (a := pl) (xs := L.map fun q => V.ref q.2) (fun i σ' H' => Same H1 H' ∧ ∃ o3, σ' = [some (.ref pa), some (.ref res), some (.ref d), o3, none])
      ⟨Same.refl _, none, rfl⟩ (fun i σ' H' _ h => SqL.of ((s1.trans h.1) _ _ epl)) (fun i v σ' H' hv h => ?_) (fun σ' H' h => ?_)⟩
    · obtain ⟨s2, o3, rfl⟩ := h
      rw [List.getElem?_map] at hv
      cases eq : L[i]? with
      | none => rw [eq] at hv; cases hv
      | some qq =>
        rw [eq] at hv
        cases hv
        have e1 := (s1.trans s2) _ _ (hL qq (List.mem_of_getElem? eq))
        exact ⟨_, rfl, _, "list", _, true, rfl, .lst e1, rfl, true, rfl, iteF ⟨_, rfl, qq.2, _, rfl, .inl (SqL.of e1), rfl, _, rfl, iteF ⟨_, rfl, qq.2, _, _, .int qq.1.2, rfl, rfl, SqL.of e1, atI_nat (j := 1) rfl, qq.1.2, rfl, _, rfl, iteF ⟨s2, _, rfl⟩⟩⟩⟩
    · obtain ⟨s2, o3, rfl⟩ := h
      have s12 := s1.trans s2
      refine ⟨_, rfl, res, _, _, .ref pl, rfl, rfl, SqL.of (s12 _ _ eres), atI_nat (j := 0) rfl, pl, rfl, ⟨_, SqL.of (s12 _ _ epl)⟩, comp_list (K := K) (ys := L.map fun q => V.ref q.2) (fun j acc σ' H2 => H2 = H' ∧ acc = ((L.take j).map fun q => V.str q.1.1) ∧ ∃ o, σ' = [o])
        ⟨rfl, rfl, none, rfl⟩ (fun j acc σ' H2 h => ?_) ?_ (fun j acc σ' H2 _ h => by rw [h.1]; exact SqL.of (s12 _ _ epl)) (fun j v acc σ' H2 hv h => ?_) (fun acc σ' H2 h nl hnl => ?_)⟩
      · rw [h.2.1, List.length_map, List.length_take]
        omega
      · rw [List.length_map]
        exact Nat.le_trans (by omega : L.length ≤ 20) (by decide)
      · obtain ⟨rfl, rfl, o, rfl⟩ := h
        rw [List.getElem?_map] at hv
        cases eq : L[j]? with
        | none => rw [eq] at hv; cases hv
        | some qq =>
          rw [eq] at hv
          cases hv
          have e1 := s12 _ _ (hL qq (List.mem_of_getElem? eq))
          refine ⟨_, rfl, qq.2, _, _, .str qq.1.1, rfl, rfl, SqL.of e1, atI_nat (j := 0) rfl, rfl, ?_, _, rfl⟩
          rw [List.take_add_one, eq, List.map_append]
          rfl
      · obtain ⟨rfl, rfl, o, rfl⟩ := h
        rw [List.length_map, List.take_length]
        have en : (L.map fun q => V.str q.1.1) = (kv.map (·.1)).map V.str := by rw [← hLk, List.map_map, List.map_map]; rfl
        rw [en]
        have s3 := s12.upd (o := .lst ((kv.map (·.1)).map V.str)) hnl
        have s23 := s2.upd (o := .lst ((kv.map (·.1)).map V.str)) hnl
        have e3 : (upd H2 nl (.lst ((kv.map (·.1)).map V.str))) nl = some (.lst ((kv.map (·.1)).map V.str)) := upd_same
        generalize upd H2 nl (.lst ((kv.map (·.1)).map V.str)) = H3 at s3 s23 e3
        refine ⟨_, rfl, _, rfl, _, rfl, res, _, _, .ref dd, rfl, rfl, SqL.of (s3 _ _ eres), atI_nat (j := 1) rfl, nl, dd, _, _, rfl, rfl, e3, s3 _ _ edd, ?_, fun c hc => ?_⟩
        · rw [List.length_map, List.length_map, List.length_map]
          exact Nat.le_trans hkl (by decide)
        rw [← List.map_append]
        have s4 := s3.upd (o := .lst ((kv.map (·.1) ++ dead).map V.str)) hc
        have s24 := s23.upd (o := .lst ((kv.map (·.1) ++ dead).map V.str)) hc
        have e4 : (upd H3 c (.lst ((kv.map (·.1) ++ dead).map V.str))) c = some (.lst ((kv.map (·.1) ++ dead).map V.str)) := upd_same
        generalize upd H3 c (.lst ((kv.map (·.1) ++ dead).map V.str)) = H4 at s4 s24 e4
        refine ⟨pa, c, ta, S, _, rfl, PA.same s4, e4, ⟨nd, hin⟩, by omega, fun H5 s5 => ⟨_, rfl, iteF ?_⟩⟩
        have s05 := s4.trans s5
        have ed5 := (s24.trans s5) _ _ ed
        refine ⟨_, rfl, res, _, _, .ref pl, rfl, rfl, SqL.of (s05 _ _ eres), atI_nat (j := 0) rfl, pl, rfl, ⟨_, SqL.of (s05 _ _ epl)⟩, for_list (K := K) (a := pl) (xs := L.map fun q => V.ref q.2) (fun i σ' H' => Same H H' ∧ H' d = some (.dK (kvD (kv.take i))) ∧ ∃ o3, σ' = [some (.ref pa), some (.ref res), some (.ref d), o3, some (.ref nl)])
          ⟨s05, ed5, _, rfl⟩ (fun i σ' H' _ h => SqL.of (h.1 _ _ epl)) (fun i v σ' H' hv h => ?_) (fun σ' H' h => ?_)⟩
        · obtain ⟨s6, e6, o3, rfl⟩ := h
          rw [List.getElem?_map] at hv
          cases eq : L[i]? with
          | none => rw [eq] at hv; cases hv
          | some qq =>
            rw [eq] at hv
            cases hv
            have e1 := s6 _ _ (hL qq (List.mem_of_getElem? eq))
            have ek : kv[i]? = some qq.1 := by rw [← hLk, List.getElem?_map, eq]; rfl
            have ndk : (kv.map (·.1)).Nodup := (List.nodup_append.mp nd).1
            have hi : (kvD (kv.take i)).length ≤ 20 := by
              unfold kvD
              rw [List.length_map, List.length_take]
              omega
            refine ⟨_, rfl, qq.2, _, _, .int qq.1.2, rfl, rfl, SqL.of e1, atI_nat (j := 1) rfl, _, rfl, _, rfl, qq.2, _, _, .str qq.1.1, rfl, rfl, SqL.of e1, atI_nat (j := 0) rfl, d, _, rfl, DPut.k (k := Sum.inr qq.1.1) e6 (small1000 (by omega)), ?_⟩
            rw [kvD_take ndk ek]
            exact ⟨fun b o e => by rw [upd_ne (ne_of_none e hd)]; exact s6 _ _ e, upd_same, _, rfl⟩
        · obtain ⟨s6, e6, o3, rfl⟩ := h
          rw [List.length_map, hLl, List.take_length] at e6
          exact ⟨_, rfl, q d _ s6 e6⟩
abbrev Ndear : List Str := ["_law_ties", "_law_places", "_law_a", "_law_b", "_law_k", "_law_paper", "_law_price", "_law_name", "_law_here", "_law_there", "_law_width", "_law_cost_here"]
theorem sc_dear : FnScope Ndear ["_law_ties", "_law_places", "_law_a", "_law_b", "_law_k", "_law_paper"] (defScope s_l_dear) := ⟨rfl, rfl, rfl, by decide +kernel, rfl, by decide +kernel, by decide +kernel⟩
theorem ok_dear {f : Addr} {fd : FuncData} (F : Fun K "_law_dear" "_law_dear" s_l_dear f fd) (cp : Can P w K mg base 2 "_law_parted" ["_law_places", "_law_paper"] spParted) : FnOk P w K mg base CX0 3 f fd ["_law_ties", "_law_places", "_law_a", "_law_b", "_law_k", "_law_paper"] spDear := by
  refine F.ok sc_dear (fun vs H Q E h => ?_) (fun cdv A outer s H vs Q E hr h => ?_)
  · obtain ⟨ta, pa, res, pl, dd, S, a, b, k, L, kv, dead, rfl, _⟩ := h
    rfl
  · obtain ⟨ta, pa, res, pl, dd, S, a, b, k, L, kv, dead, rfl, PA, g, eres, epl, pp, edd, ⟨nd, hin, hbd, had, hdd, hpr, hk⟩, q⟩ := h
    have hu := hu_of hr
    have ndk : (kv.map (·.1)).Nodup := (List.nodup_append.mp nd).1
    refine ⟨_, (pss_cons (ps_set (i := 6) sc_dear.nd rfl (Or.inl rfl) (pe_callC cp hr (by rfl) (pa_cons (pv 1) (pa_cons (pv 5) pa_nil))))
      (pss_cutE (ps_if (PW.pt (pw_or (pt_cmp (pc_isN (pv 6))) (pw_or (pt_cmpR op_in_seq (pv 3) (pe_ix ix_list (pv 5) pe_int (fun _ _ => by rfl)) (by with_unfolding_all rfl)) (pw_or1 (PW.pt (pw_and (pt_cmp (pc_dnotin hu (pv 2) (pv 6))) (pw_and1 (pt_cmpR op_notIn_seq (pv 2) (pe_ix ix_list (pv 5) pe_int (fun _ _ => by rfl)) (by with_unfolding_all rfl)))))))) ) (pss_one (ps_ret pe_bl)) pss_nil)
      (pss_cons (ps_for PassesOwn.never rfl (pi_list (pv 0)) (pg_tup rfl (pgs_cons (pg_name (i := 7) sc_dear.nd rfl (Or.inl rfl)) (pgs_cons (pg_name (i := 8) sc_dear.nd rfl (Or.inl rfl)) (pgs_cons (pg_name (i := 9) sc_dear.nd rfl (Or.inl rfl)) (pgs_cons (pg_name (i := 10) sc_dear.nd rfl (Or.inl rfl)) (pgs_cons (pg_name (i := 11) sc_dear.nd rfl (Or.inl rfl)) pgs_nil))))))
        (pss_cutE (ps_if (PW.pt (pw_and (pt_cmpR op_in_seq (pv 8) (pe_ix ix_list (pv 5) pe_int (fun _ _ => by rfl)) (by with_unfolding_all rfl)) (pw_and1 (pt_cmpR op_notIn_seq (pv 9) (pe_ix ix_list (pv 5) pe_int (fun _ _ => by rfl)) (by with_unfolding_all rfl))))) (pss_one (ps_ret pe_bl)) pss_nil)
      (pss_one (ps_if (PW.pt (pw_and (pt_cmp (pc_din hu (pv 8) (pv 6))) (pw_and1 (pt_cmpR op_notIn_seq (pv 9) (pe_ix ix_list (pv 5) pe_int (fun _ _ => by rfl)) (by with_unfolding_all rfl)))))
          (pss_one (ps_if (PW.pt (pw_or (pt_cmp (pc_dnotin hu (pv 9) (pv 6))) (pw_or1 (pt_cmpR op_gt (pe_dget hu (pv 6) (pv 9) (fun _ _ => rfl)) (pe_op op_add (pe_dget hu (pv 6) (pv 8) (fun _ _ => rfl)) (pv 11)) (nomark _))))) (pss_one (ps_ret pe_bl)) pss_nil)) pss_nil))))
      (pss_one (ps_ret (pe_or (pe_cmp (pc_dnotin hu (pv 2) (pv 6))) (pe_or (pe_cmp (pc_dnotin hu (pv 3) (pv 6))) (pe_one (pe_cmpR op_gt (pe_dget hu (pv 6) (pv 3) (fun _ _ => rfl)) (pe_op op_add (pe_dget hu (pv 6) (pv 2) (fun _ _ => rfl)) (pv 4)) (nomark _)))))))))), ?_⟩
    refine ⟨_, rfl, _, rfl, pa, ta, res, pl, dd, S, L, kv, dead, rfl, PA, eres, epl, pp, edd, nd, hin, g.lenP, fun d H1 s1 ed => ?_⟩
    have keyT : ∀ {x : Str}, x ∈ kv.map (·.1) → (valV (kvD kv) (Sum.inr x : Key)).isSome = true := fun hx => by
      obtain ⟨y, hy⟩ := mem_key hx
      rw [kvD_in ndk hy]
      rfl
    have keyF : ∀ {x : Str}, x ∉ kv.map (·.1) → (valV (kvD kv) (Sum.inr x : Key)).isSome = false := fun hx => by rw [kvD_out hx]; rfl
    have inD : ∀ {x : Str}, x ∈ dead → inV (.str x) (dead.map V.str) = true := fun hx => by rw [inV_str, decide_eq_true hx]
    have outD : ∀ {x : Str}, x ∉ dead → inV (.str x) (dead.map V.str) = false := fun hx => by rw [inV_str, decide_eq_false hx]
    have fls := flat_strs dead
    have eres1 := s1 _ _ eres
    have edd1 := s1 _ _ edd
    refine ⟨fun σ' H' => H' = H1 ∧ σ' = [some (.ref ta), some (.ref pa), some (.str a), some (.str b), some (.int k), some (.ref res), some (.ref d), none, none, none, none, none], ?_, ?_⟩
    · refine ⟨_, rfl, _, rfl, iteFb (by rfl) ?_⟩
      refine ⟨_, rfl, _, rfl, res, _, _, .ref dd, rfl, rfl, SqL.of eres1, atI_nat (j := 1) rfl, dd, _, rfl, .inl (SqL.of edd1), rfl, fls, _, rfl, ?_⟩
      show if (if false = true then !inV (.str b) (dead.map V.str) else inV (.str b) (dead.map V.str)) = true then _ else _
      rw [if_neg Bool.false_ne_true, outD hbd]
      refine iteF ⟨_, rfl, _, rfl, d, _, rfl, DGet.k (k := Sum.inr a) ed, _, rfl, ?_⟩
      by_cases ha : a ∈ kv.map (·.1)
      · rw [keyT ha]
        exact iteF (iteF ⟨rfl, rfl⟩)
      · rw [keyF ha]
        have had' := had.resolve_left ha
        refine iteT ⟨_, rfl, _, rfl, res, _, _, .ref dd, rfl, rfl, SqL.of eres1, atI_nat (j := 1) rfl, dd, _, rfl, .inl (SqL.of edd1), rfl, fls, _, rfl, ?_⟩
        show if (if true = true then !inV (.str a) (dead.map V.str) else inV (.str a) (dead.map V.str)) = true then _ else _
        rw [if_pos rfl, inD had']
        exact iteF ⟨rfl, rfl⟩
    rintro σ2 H2 ⟨rfl, rfl⟩
    have PA1 := PA.same s1
    obtain ⟨LT, RL, eta⟩ := PA1.ti
    refine ⟨_, rfl, ta, rfl, ⟨_, SqL.of eta⟩, for_list (K := K) (a := ta) (xs := LT.map fun q => V.ref q.2) (fun i σ' H' => H' = H2 ∧ ∃ o7 o8 o9 o10 o11, σ' = [some (.ref ta), some (.ref pa), some (.str a), some (.str b), some (.int k), some (.ref res), some (.ref d), o7, o8, o9, o10, o11])
      ⟨rfl, _, _, _, _, _, rfl⟩ (fun i σ' H' _ h => by rw [h.1]; exact SqL.of eta) (fun i v σ' H' hv h => ?_) (fun σ' H' h => ?_)⟩
    · obtain ⟨rfl, o7, o8, o9, o10, o11, rfl⟩ := h
      rw [List.getElem?_map] at hv
      cases eq : LT[i]? with
      | none => rw [eq] at hv; cases hv
      | some qq =>
        rw [eq] at hv
        cases hv
        have hq := List.mem_of_getElem? eq
        have ht := RL.2 qq hq
        have hrow : qq.1 ∈ S.ti := by rw [← RL.1]; exact List.mem_map_of_mem hq
        obtain ⟨r, ra⟩ := qq
        dsimp only at ht hrow
        refine ⟨ra, _, rfl, SqT.of ht, rfl, _, _, rfl, _, _, rfl, _, _, rfl, _, _, rfl, _, _, rfl, rfl, ?_⟩
        refine ⟨fun σ3 H3 => H3 = H' ∧ σ3 = [some (.ref ta), some (.ref pa), some (.str a), some (.str b), some (.int k), some (.ref res), some (.ref d), some (.str r.nm), some (.str r.a), some (.str r.b), some (.int r.w), some (.int r.c)], ?_, ?_⟩
        · refine ⟨_, rfl, _, rfl, res, _, _, .ref dd, rfl, rfl, SqL.of eres1, atI_nat (j := 1) rfl, dd, _, rfl, .inl (SqL.of edd1), rfl, fls, _, rfl, ?_⟩
          show if (if false = true then !inV (.str r.a) (dead.map V.str) else inV (.str r.a) (dead.map V.str)) = true then _ else _
          rw [if_neg Bool.false_ne_true]
          by_cases h1 : r.a ∈ dead
          · rw [inD h1]
            refine iteT ⟨_, rfl, _, rfl, res, _, _, .ref dd, rfl, rfl, SqL.of eres1, atI_nat (j := 1) rfl, dd, _, rfl, .inl (SqL.of edd1), rfl, fls, _, rfl, ?_⟩
            show if (if true = true then !inV (.str r.b) (dead.map V.str) else inV (.str r.b) (dead.map V.str)) = true then _ else _
            rw [if_pos rfl, inD (hdd r hrow h1)]
            exact iteF ⟨rfl, rfl⟩
          · rw [outD h1]
            exact iteF (iteF ⟨rfl, rfl⟩)
        rintro σ3 H3 ⟨rfl, rfl⟩
        refine ⟨_, rfl, _, rfl, d, _, rfl, DGet.k (k := Sum.inr r.a) ed, _, rfl, ?_⟩
        by_cases h1 : r.a ∈ kv.map (·.1)
        · rw [keyT h1]
          refine iteT ⟨_, rfl, _, rfl, res, _, _, .ref dd, rfl, rfl, SqL.of eres1, atI_nat (j := 1) rfl, dd, _, rfl, .inl (SqL.of edd1), rfl, fls, _, rfl, ?_⟩
          show if (if true = true then !inV (.str r.b) (dead.map V.str) else inV (.str r.b) (dead.map V.str)) = true then _ else _
          rw [if_pos rfl]
          by_cases h2 : r.b ∈ dead
          · rw [inD h2]
            exact iteF ⟨rfl, _, _, _, _, _, rfl⟩
          · rw [outD h2]
            obtain ⟨x, hx⟩ := mem_key h1
            obtain ⟨y, hy, hxy⟩ := hpr r hrow x hx h2
            refine iteT ⟨_, rfl, _, rfl, d, _, rfl, DGet.k (k := Sum.inr r.b) ed, _, rfl, ?_⟩
            rw [keyT (List.mem_map.mpr ⟨_, hy, rfl⟩)]
            refine iteF ⟨_, rfl, _, rfl, d, _, rfl, by rw [← kvD_in ndk hy]; exact DGet.k (k := Sum.inr r.b) ed, _, rfl, _, rfl, d, _, rfl, by rw [← kvD_in ndk hx]; exact DGet.k (k := Sum.inr r.a) ed, _, rfl, _, _, rfl, rfl, _, _, rfl, rfl, _, rfl, iteFb (decide_eq_false (by omega)) ⟨rfl, _, _, _, _, _, rfl⟩⟩
        · rw [keyF h1]
          exact iteF (iteF ⟨rfl, _, _, _, _, _, rfl⟩)
    · obtain ⟨rfl, o7, o8, o9, o10, o11, rfl⟩ := h
      refine ⟨_, rfl, _, rfl, d, _, rfl, DGet.k (k := Sum.inr a) ed, _, rfl, ?_⟩
      by_cases ha : a ∈ kv.map (·.1)
      · rw [keyT ha]
        refine iteF ⟨_, rfl, _, rfl, d, _, rfl, DGet.k (k := Sum.inr b) ed, _, rfl, ?_⟩
        by_cases hb : b ∈ kv.map (·.1)
        · rw [keyT hb]
          obtain ⟨x, hx⟩ := mem_key ha
          obtain ⟨y, hy⟩ := mem_key hb
          have := hk x y hx hy
          refine iteF ⟨_, rfl, _, rfl, d, _, rfl, by rw [← kvD_in ndk hy]; exact DGet.k (k := Sum.inr b) ed, _, rfl, _, rfl, d, _, rfl, by rw [← kvD_in ndk hx]; exact DGet.k (k := Sum.inr a) ed, _, rfl, _, _, rfl, rfl, _, _, rfl, rfl, ?_⟩
          show Q (.bl (decide (x + k < y))) _
          rw [decide_eq_true (by omega : x + k < y)]
          exact q _ s1
        · rw [keyF hb]
          exact iteT (q _ s1)
      · rw [keyF ha]
        exact iteT (q _ s1)
abbrev Nasked43 : List Str := ["_law_net_here", "_law_ties", "_law_places", "_law_a", "_law_b", "_law_k", "_law_told", "_law_found", "_law_row"]
theorem sc_asked43 : FnScope Nasked43 ["_law_net_here", "_law_ties", "_law_places", "_law_a", "_law_b", "_law_k"] (defScope s_l_asked) := ⟨rfl, rfl, rfl, by decide +kernel, rfl, by decide +kernel, by decide +kernel⟩
theorem ok_asked43 {f : Addr} {fd : FuncData} (F : Fun K "_law_asked" "_law_asked" s_l_asked f fd) (cf : Can P w K mg base 7 "find_plain" ["net", "claim"] (spFindC C)) (cv : Can P w K mg base 1 "_law_verdict" ["_law_told"] spVerdict)
    (cd : Can P w K mg base 3 "_law_dear" ["_law_ties", "_law_places", "_law_a", "_law_b", "_law_k", "_law_paper"] spDear) (cs : Can P w K mg base 2 "_law_stretched" ["_law_ties", "_law_a", "_law_paper"] spStretched) :
    FnOk P w K mg base CX0 8 f fd ["_law_net_here", "_law_ties", "_law_places", "_law_a", "_law_b", "_law_k"] (spAsked43 C) := by
  refine F.ok sc_asked43 (fun vs H Q E h => ?_) (fun cdv A outer s H vs Q E hr h => ?_)
  · obtain ⟨x, ds, dl, ta, pa, S, a, b, k, rfl, _⟩ := h
    rfl
  · obtain ⟨x, ds, dl, ta, pa, S, a, b, k, rfl, N, g, rok, PA, ha, hb, hk, qF, qT⟩ := h
    have r1 : Room 1 _ := hr.mono (by decide)
    have r2 : Room 2 _ := hr.mono (by decide)
    have r3 : Room 3 _ := hr.mono (by decide)
    refine ⟨_, (pss_cons (ps_set (i := 6) sc_asked43.nd rfl (Or.inl rfl) (pe_callC cf hr (by rfl) (pa_cons (pv 0) (pa_cons (pe_tup (pa_cons pe_str (pa_cons (pv 3) (pa_cons (pv 4) (pa_cons (pv 5) pa_nil))))) pa_nil))))
      (pss_cons (ps_if (pt_not (pt_val (pe_callC cv r1 (by rfl) (pa_cons (pv 6) pa_nil)))) (pss_one (ps_ret pe_non)) pss_nil)
      (pss_cons (ps_if (pt_not (pt_val (pe_ix ix_tup (pv 6) pe_int (fun _ _ => by rfl))))
        (pss_cons (ps_if (pt_not (pt_val (pe_callC cd r3 (by rfl) (pa_cons (pv 1) (pa_cons (pv 2) (pa_cons (pv 3) (pa_cons (pv 4) (pa_cons (pv 5) (pa_cons (pe_ix ix_tup (pv 6) pe_int (fun _ _ => by rfl)) pa_nil))))))))) (pss_one (ps_ret pe_non)) pss_nil)
      (pss_cons (ps_expr (pe_bm0 PySem.F.plainAttrs_list PySem.F.slot_list_clear PySem.F.type_list_clear mt_clear (pe_ix ix_list (pe_ix ix_tup (pv 6) pe_int (fun _ _ => by rfl)) pe_int (fun _ _ => by rfl))))
      (pss_cons (ps_expr (pe_bm PySem.F.plainAttrs_list PySem.F.slot_list_append PySem.F.type_list_append mt_append (pe_ix ix_list (pe_ix ix_tup (pv 6) pe_int (fun _ _ => by rfl)) pe_int (fun _ _ => by rfl)) (pa_cons (pv 3) pa_nil)))
      (pss_one (ps_ret (pe_tup (pa_cons pe_bl (pa_cons pe_int pa_nil)))))))) pss_nil)
      (pss_cons (ps_set (i := 7) sc_asked43.nd rfl (Or.inl rfl) (pe_callC cs r2 (by rfl) (pa_cons (pv 1) (pa_cons (pv 3) (pa_cons (pe_ix ix_tup (pv 6) pe_int (fun _ _ => by rfl)) pa_nil)))))
      (pss_cons (ps_if (PW.pt (pw_or (pt_cmp (pc_isN (pv 7))) (pw_or (pt_cmpR op_ne (pe_ix ix_tup (pv 7) pe_int (fun _ _ => by rfl)) (pv 4) (nomark _)) (pw_or1 (pt_cmpR op_gt (pe_ix ix_tup (pv 7) pe_int (fun _ _ => by rfl)) (pv 5) (nomark _)))))) (pss_one (ps_ret pe_non)) pss_nil)
      (pss_cons (ps_for PassesOwn.never rfl (pi_list (pe_ix ix_tup (pv 6) pe_int (fun _ _ => by rfl))) (pg_name (i := 8) sc_asked43.nd rfl (Or.inl rfl))
        (pss_one (ps_expr (pe_bm0 PySem.F.plainAttrs_list PySem.F.slot_list_clear PySem.F.type_list_clear mt_clear (pe_ix ix_list (pv 8) pe_int (fun _ _ => by rfl))))))
      (pss_cons (ps_expr (pe_bm0 PySem.F.plainAttrs_list PySem.F.slot_list_clear PySem.F.type_list_clear mt_clear (pe_ix ix_tup (pv 6) pe_int (fun _ _ => by rfl))))
      (pss_one (ps_ret (pe_tup (pa_cons pe_bl (pa_cons (pe_ix ix_tup (pv 7) pe_int (fun _ _ => by rfl)) pa_nil)))))))))))), ?_⟩
    refine ⟨_, rfl, _, rfl, _, rfl, _, rfl, (by show 4 ≤ sizeLine; decide), fun ct hct => ?_⟩
    have s1 := Same.new (o := .tup [.str "cost", .str a, .str b, .int k]) hct
    have ec : (upd H ct (.tup [.str "cost", .str a, .str b, .int k])) ct = some (.tup [.str "cost", .str a, .str b, .int k]) := upd_same
    generalize upd H ct (.tup [.str "cost", .str a, .str b, .int k]) = H1 at s1 ec
    refine ⟨x, ds, dl, ct, S, a, b, k, rfl, N.same s1, g, ec, ha, hb, fun t res rs tot H2 s2 et eres fres rp hl3 sw htk vt vk tb => ?_, fun t res pl dd L kv dead H2 s2 et eres epl pp edd fpl fdd dp vk => ?_⟩
    · have s02 := s1.trans s2
      have fres0 : H res = none := s1.free fres
      have fw0 : ∀ q ∈ rs, H q.2.1 = none := fun q hq => s1.free (rp q hq).2.2
      refine ⟨_, rfl, t, res, true, rfl, et, _, rfl, iteF ?_⟩
      refine ⟨_, rfl, t, _, _, .bl true, rfl, rfl, SqT.of et, rfl, _, rfl, iteF ?_⟩
      refine ⟨_, rfl, _, rfl, _, rfl, t, _, _, .ref res, rfl, rfl, SqT.of et, rfl, ta, pa, res, S, a, b, k, tot, rs, rfl, PA.same s02, g, rok, eres, fun q hq => ⟨(rp q hq).1, (rp q hq).2.1⟩, hl3, sw, hk, tb, fun ft H3 s3 eft => ?_⟩
      have s03 := s02.trans s3
      have et3 := s3 _ _ et
      have eres3 := s3 _ _ eres
      refine ⟨_, rfl, _, rfl, iteFb (by rfl) ?_⟩
      refine ⟨_, rfl, ft, _, _, .str b, rfl, rfl, SqT.of eft, rfl, _, rfl, rfl, _, rfl, iteFb (by simp) ?_⟩
      refine ⟨_, rfl, ft, _, _, .int tot, rfl, rfl, SqT.of eft, rfl, _, rfl, _, _, rfl, rfl, _, rfl, iteFb (decide_eq_false (by omega)) ?_⟩
      refine ⟨_, rfl, t, _, _, .ref res, rfl, rfl, SqT.of et3, rfl, res, rfl, ⟨_, SqL.of eres3⟩, for_list (K := K) (a := res) (xs := rs.map fun q => V.ref q.1) (fun i σ' H' => ∃ o8, σ' = [some (.ref x), some (.ref ta), some (.ref pa), some (.str a), some (.str b), some (.int k), some (.ref t), some (.ref ft), o8] ∧ Same H H' ∧ H' t = some (.tup [.bl true, .ref res]) ∧ H' ft = some (.tup [.str b, .int tot]) ∧ H' res = some (.lst (rs.map fun q => V.ref q.1)) ∧ ∀ q ∈ rs, H' q.1 = some (.lst [.ref q.2.1, .int q.2.2.2]) ∧ ∃ ws : List Str, H' q.2.1 = some (.lst (ws.map V.str)))
        ⟨_, rfl, s03, et3, eft, eres3, fun q hq => ⟨s3 _ _ (rp q hq).1, _, s3 _ _ (rp q hq).2.1⟩⟩ (fun i σ' H' _ h => ?_) (fun i v σ' H' hv h => ?_) (fun σ' H' h => ?_)⟩
      · obtain ⟨_, _, _, _, _, e, _⟩ := h
        exact SqL.of e
      · obtain ⟨o8, rfl, t0, e1, e2, e3, e4⟩ := h
        rw [List.getElem?_map] at hv
        cases eq : rs[i]? with
        | none => rw [eq] at hv; cases hv
        | some qq =>
          rw [eq] at hv
          cases hv
          have hq := List.mem_of_getElem? eq
          obtain ⟨g1, ws, g2⟩ := e4 qq hq
          refine ⟨_, rfl, qq.1, _, _, .ref qq.2.1, rfl, rfl, SqL.of g1, atI_nat (j := 0) rfl, .inl ⟨rfl, _, SqL.of g2⟩, qq.2.1, _, rfl, rfl, g2, ?_⟩
          have n1 : t ≠ qq.2.1 := ne_of e1 g2 (fun z => by cases z)
          have n2 : ft ≠ qq.2.1 := ne_of e2 g2 (fun z => by cases z)
          have n3 : res ≠ qq.2.1 := ne_of e3 g2 (fun z => by
            injection z with z
            cases rs with
            | nil => cases hq
            | cons q0 r0 =>
              cases ws with
              | nil => cases z
              | cons w0 ws => injection z with z1 _; cases z1)
          have n4 : ∀ q ∈ rs, q.1 ≠ qq.2.1 := fun q hq' => ne_of (e4 q hq').1 g2 (fun z => by
            injection z with z
            cases ws with
            | nil => cases z
            | cons w0 ws => injection z with z1 _; cases z1)
          refine ⟨_, rfl, fun bb ob zz => ?_, by rw [upd_ne n1]; exact e1, by rw [upd_ne n2]; exact e2, by rw [upd_ne n3]; exact e3, fun q hq' => ⟨by rw [upd_ne (n4 q hq')]; exact (e4 q hq').1, ?_⟩⟩
          · rw [upd_ne (ne_of_none zz (fw0 qq hq))]
            exact t0 _ _ zz
          · by_cases hz : q.2.1 = qq.2.1
            · exact ⟨[], by rw [hz]; exact upd_same⟩
            · obtain ⟨ws', e'⟩ := (e4 q hq').2
              exact ⟨ws', by rw [upd_ne hz]; exact e'⟩
      · obtain ⟨o8, rfl, t0, e1, e2, e3, e4⟩ := h
        have n1 : ft ≠ res := ne_of e2 e3 (fun z => by cases z)
        refine ⟨_, rfl, t, _, _, .ref res, rfl, rfl, SqT.of e1, rfl, .inl ⟨rfl, _, SqL.of e3⟩, res, _, rfl, rfl, e3, ?_⟩
        have e2' : (upd H' res (.lst [])) ft = some (.tup [.str b, .int tot]) := by rw [upd_ne n1]; exact e2
        have t1 : Same H (upd H' res (.lst [])) := fun bb ob zz => by
          rw [upd_ne (ne_of_none zz fres0)]
          exact t0 _ _ zz
        generalize upd H' res (.lst []) = H5 at e2' t1
        refine ⟨_, rfl, ft, _, _, .int tot, rfl, rfl, SqT.of e2', rfl, (by show 2 ≤ sizeLine; decide), fun rt hrt => qT rt tot _ (t1.upd hrt) vt ?_ upd_same⟩
        have hB := strW_bound g.bc (B := k.natAbs + 10 ^ 63) sw fun q hq => by
          obtain ⟨q', hq', rfl⟩ := List.mem_map.mp hq
          exact tb q' hq'
        rw [List.length_map] at hB
        exact Nat.le_trans hB (Nat.mul_le_mul_right _ hl3)
    · have s02 := s1.trans s2
      have fpl0 : H pl = none := s1.free fpl
      have fdd0 : H dd = none := s1.free fdd
      refine ⟨_, rfl, t, res, false, rfl, et, _, rfl, iteF ?_⟩
      refine ⟨_, rfl, t, _, _, .bl false, rfl, rfl, SqT.of et, rfl, _, rfl, iteT ?_⟩
      refine ⟨_, rfl, _, rfl, _, rfl, _, rfl, _, rfl, _, rfl, t, _, _, .ref res, rfl, rfl, SqT.of et, rfl, ta, pa, res, pl, dd, S, a, b, k, L, kv, dead, rfl, PA.same s02, g, eres, epl, pp, edd, dp, fun H3 s3 => ⟨_, rfl, iteF ?_⟩⟩
      have s03 := s02.trans s3
      have et3 := s3 _ _ et
      have eres3 := s3 _ _ eres
      have epl3 := s3 _ _ epl
      have edd3 := s3 _ _ edd
      have n1 : t ≠ pl := ne_of et3 epl3 (fun z => by cases z)
      have n2 : res ≠ pl := fun z => by
        have epl4 := epl3
        rw [← z, eres3] at epl4
        injection epl4 with epl4
        injection epl4 with epl4
        cases L with
        | nil => cases epl4
        | cons q0 L0 =>
          injection epl4 with z1 _
          have z2 : pl = q0.2 := V.ref.inj z1
          have h1 := s3 _ _ (pp.2 q0 List.mem_cons_self)
          rw [← z2, ← z, eres3] at h1
          injection h1 with h1
          injection h1 with h1
          injection h1 with h1 _
          cases h1
      have hdl : dead.length ≤ 20 := by
        have := nodup_len dp.1 dp.2.1
        rw [List.length_append] at this
        have := g.lenP
        omega
      refine ⟨_, rfl, t, _, _, .ref res, rfl, rfl, SqT.of et3, rfl, res, _, _, .ref pl, rfl, rfl, SqL.of eres3, atI_nat (j := 0) rfl, .inl ⟨rfl, _, SqL.of epl3⟩, pl, _, rfl, rfl, epl3, ?_⟩
      have et4 : (upd H3 pl (.lst [])) t = some (.tup [.bl false, .ref res]) := by rw [upd_ne n1]; exact et3
      have eres4 : (upd H3 pl (.lst [])) res = some (.lst [.ref pl, .ref dd]) := by rw [upd_ne n2]; exact eres3
      have edd4 : ∃ ys : List V, ys.length ≤ 20 ∧ (upd H3 pl (.lst [])) dd = some (.lst ys) := by
        by_cases z : dd = pl
        · exact ⟨[], by decide, by rw [z]; exact upd_same⟩
        · exact ⟨dead.map V.str, by rw [List.length_map]; exact hdl, by rw [upd_ne z]; exact edd3⟩
      have s04 : Same H (upd H3 pl (.lst [])) := fun bb ob zz => by
        rw [upd_ne (ne_of_none zz fpl0)]
        exact s03 _ _ zz
      generalize upd H3 pl (.lst []) = H4 at et4 eres4 edd4 s04
      obtain ⟨ys, hys, edd4⟩ := edd4
      refine ⟨_, rfl, t, _, _, .ref res, rfl, rfl, SqT.of et4, rfl, res, _, _, .ref dd, rfl, rfl, SqL.of eres4, atI_nat (j := 1) rfl, .inl ⟨rfl, _, SqL.of edd4⟩, _, rfl, dd, _, _, rfl, rfl, edd4, small1000 (by omega), ?_⟩
      have s05 : Same H (upd H4 dd (.lst (ys ++ [.str a]))) := fun bb ob zz => by
        rw [upd_ne (ne_of_none zz fdd0)]
        exact s04 _ _ zz
      generalize upd H4 dd (.lst (ys ++ [.str a])) = H5 at s05
      exact ⟨(by show 2 ≤ sizeLine; decide), fun rt hrt => qF rt _ (s05.upd hrt) vk upd_same⟩
end
end Net

namespace Net
open PySem L2
def spLaw (K : PySem.W.Frag) : Sp := fun vs H Q _ => ∃ (a : Addr) (ns : List Int), vs = [.ref a] ∧ SqL K H a (ns.map V.int) ∧ ns.length ≤ 63 ∧ ∀ H', Q (.bl true) H'
theorem NetS.rows {C : Addr} {H : Hp} {p ds dl : Addr} {S : NS} (N : NetS C H p ds dl S) : ∀ r ∈ S.ti, nameB r.nm = true ∧ nameB r.a = true ∧ nameB r.b = true := fun r hr => ⟨(N.okT r hr).1, N.okP _ (N.okT r hr).2.1, N.okP _ (N.okT r hr).2.2⟩
theorem netC_of {C : Addr} {H : Hp} {x ds dl : Addr} {S : NS} (N : NetS C H x ds dl S) (h : ∀ r ∈ S.ti, r.a ≠ r.b ∧ BC r.c) : NetC S := ⟨N.ndP, N.nd, N.fewP, N.few, fun r hr => ⟨(N.okT r hr).2.1, (N.okT r hr).2.2⟩, fun r hr => (h r hr).1, fun r hr => (h r hr).2⟩
theorem k_bigK (c : Int) : (c % (2 * 10 ^ (58 : Int).toNat) - 10 ^ (58 : Int).toNat).natAbs ≤ 10 ^ 60 := by
  have e : ((58 : Int).toNat) = 58 := rfl
  rw [e]
  have h1 := Int.emod_nonneg c (show (2 * 10 ^ 58 : Int) ≠ 0 by decide)
  have h2 := Int.emod_lt_of_pos c (show (0 : Int) < 2 * 10 ^ 58 by decide)
  have e3 : (10 ^ 58 : Int) ≤ 10 ^ 60 := by decide
  have e4 : (10 ^ 60 : Int) = ((10 ^ 60 : Nat) : Int) := by decide
  omega
theorem k_smallK (n : Int) : (n % 40 - 9).natAbs ≤ 10 ^ 60 := by
  have h1 := Int.emod_nonneg n (show (40 : Int) ≠ 0 by decide)
  have h2 := Int.emod_lt_of_pos n (show (0 : Int) < 40 by decide)
  have : (1000 : Nat) ≤ 10 ^ 60 := by decide
  omega
section
variable {P : Program} {w : World} {K : PySem.W.Frag} {mg : Str → Option Value} {base : Heap} {C : Addr}
abbrev Nlaw43 : List Str := ["_law_script", "_law_net_here", "_law_places", "_law_ties", "_law_last", "_law_at", "_law_number", "_law_cell", "_law_k", "_law_a", "_law_b", "_law_found", "_law_edge"]
theorem sc_law43 : FnScope Nlaw43 ["_law_script"] (defScope s_law) := ⟨rfl, rfl, rfl, by decide +kernel, rfl, by decide +kernel, by decide +kernel⟩
theorem ok_law43 {f : Addr} {fd : FuncData} (F : Fun K "law" "law" s_law f fd) (T : Txt K mg C) (TM : TxtM mg) (cn : Can P w K mg base 5 "_law_net" ["_law_script"] (spLNet K C)) (cm : Can P w K mg base 1 "_law_mixed" ["_law_cell", "_law_k"] spMixed) (cc : Can P w K mg base 1 "_law_cell_at" ["_law_script", "_law_k"] (spCell K))
    (ca : Can P w K mg base 8 "_law_asked" ["_law_net_here", "_law_ties", "_law_places", "_law_a", "_law_b", "_law_k"] (spAsked43 C)) (m1 : CanM P w K mg base 1 C "places" ["self"] (spPlaces C)) (m2 : CanM P w K mg base 1 C "ties" ["self"] (spTies C)) : FnOk P w K mg base CX0 9 f fd ["_law_script"] (spLaw K) := by
  refine F.ok sc_law43 (fun vs H Q E h => ?_) (fun cdv A outer s H vs Q E hr h => ?_)
  · obtain ⟨a, ns, rfl, _⟩ := h
    rfl
  · obtain ⟨a, ns, rfl, hS, hlen, q⟩ := h
    have hu := hr.units
    have r1 : Room 1 _ := hr.mono (by decide)
    have r5 : Room 5 _ := hr.mono (by decide)
    refine ⟨_, (pss_cons (ps_asg (pe_callC cn r5 (by rfl) (pa_cons (pv 0) pa_nil)) (pg_tup rfl (pgs_cons (pg_name (i := 1) sc_law43.nd rfl (Or.inl rfl)) (pgs_cons (pg_name (i := 2) sc_law43.nd rfl (Or.inl rfl)) (pgs_cons (pg_name (i := 3) sc_law43.nd rfl (Or.inl rfl)) pgs_nil)))))
      (pss_cons (ps_set (i := 4) sc_law43.nd rfl (Or.inl rfl) (pe_callB (call_max2 rfl) (by rfl) TM.max b_max (pa_cons (pe_op op_sub (pe_callB (call_min2 rfl) (by rfl) TM.min b_min (pa_cons (pe_callB call_len_seq (by rfl) T.len b_len (pa_cons (pv 0) pa_nil)) (pa_cons pe_int pa_nil))) pe_int) (pa_cons pe_int pa_nil))))
      (pss_cutE (ps_if (pt_cmpR op_gt (pe_callB call_len_seq (by rfl) T.len b_len (pa_cons (pv 2) pa_nil)) pe_int (nomark _)) (pss_one (ps_set (i := 4) sc_law43.nd rfl (Or.inl rfl) pe_int)) pss_nil)
      (pss_cons (ps_for PassesOwn.never rfl (pi_range3 rfl T.range (pa_cons pe_int (pa_cons (pv 4) (pa_cons pe_int pa_nil)))) (pg_name (i := 5) sc_law43.nd rfl (Or.inl rfl))
        (pss_cons (ps_set (i := 6) sc_law43.nd rfl (Or.inl rfl) (pe_callC cm r1 (by rfl) (pa_cons (pe_callC cc r1 (by rfl) (pa_cons (pv 0) (pa_cons (pv 5) pa_nil))) (pa_cons pe_int pa_nil))))
      (pss_cons (ps_set (i := 7) sc_law43.nd rfl (Or.inl rfl) (pe_callC cc r1 (by rfl) (pa_cons (pv 0) (pa_cons (pe_op op_add (pv 5) pe_int) pa_nil))))
      (pss_cons (ps_set (i := 8) sc_law43.nd rfl (Or.inl rfl) (pe_op op_sub (pe_op op_mod (pe_callC cm r1 (by rfl) (pa_cons (pv 7) (pa_cons pe_int pa_nil))) pe_int) pe_int))
      (pss_cutE (ps_if (pt_cmpR op_eq (pe_op op_mod (pe_op op_fdiv (pv 6) pe_int) pe_int) pe_int (nomark _)) (pss_one (ps_set (i := 8) sc_law43.nd rfl (Or.inl rfl) (pe_op op_sub (pe_op op_mod (pv 7) (pe_op op_mul pe_int (pe_op op_pow pe_int pe_int))) (pe_op op_pow pe_int pe_int)))) pss_nil)
      (pss_cons (ps_set (i := 9) sc_law43.nd rfl (Or.inl rfl) (pe_ix ix_list (pv 2) (pe_op op_mod (pv 6) (pe_callB call_len_seq (by rfl) T.len b_len (pa_cons (pv 2) pa_nil))) (fun _ _ => by rfl)))
      (pss_cons (ps_set (i := 10) sc_law43.nd rfl (Or.inl rfl) (pe_ix ix_list (pv 2) (pe_op op_mod (pe_op op_fdiv (pv 6) pe_int) (pe_callB call_len_seq (by rfl) T.len b_len (pa_cons (pv 2) pa_nil))) (fun _ _ => by rfl)))
      (pss_cons (ps_set (i := 11) sc_law43.nd rfl (Or.inl rfl) (pe_callC ca hr (by rfl) (pa_cons (pv 1) (pa_cons (pv 3) (pa_cons (pv 2) (pa_cons (pv 9) (pa_cons (pv 10) (pa_cons (pv 8) pa_nil))))))))
      (pss_cons (ps_if (pt_cmp (pc_isN (pv 11))) (pss_one (ps_ret pe_bl)) pss_nil)
      (pss_one (ps_if (PW.pt (pw_and (pt_val (pe_ix ix_tup (pv 11) pe_int (fun _ _ => by rfl))) (pw_and1 (pt_cmpR op_gt (pe_ix ix_tup (pv 11) pe_int (fun _ _ => by rfl)) (pe_un un_neg (pe_op op_pow pe_int pe_int)) (nomark _)))))
          (pss_cons (ps_for PassesOwn.never rfl (pi_list (pe_lst (pa_cons (pe_ix ix_tup (pv 11) pe_int (fun _ _ => by rfl)) (pa_cons (pe_op op_sub (pe_ix ix_tup (pv 11) pe_int (fun _ _ => by rfl)) pe_int) pa_nil)))) (pg_name (i := 12) sc_law43.nd rfl (Or.inl rfl))
            (pss_one (ps_if (pt_cmp (pc_isN (pe_callC ca hr (by rfl) (pa_cons (pv 1) (pa_cons (pv 3) (pa_cons (pv 2) (pa_cons (pv 9) (pa_cons (pv 10) (pa_cons (pv 12) pa_nil))))))))) (pss_one (ps_ret pe_bl)) pss_nil)))
      (pss_one (ps_if (pt_cmpR op_isnotB (pe_ix ix_tup (pe_callC ca hr (by rfl) (pa_cons (pv 1) (pa_cons (pv 3) (pa_cons (pv 2) (pa_cons (pv 9) (pa_cons (pv 10) (pa_cons (pe_ix ix_tup (pv 11) pe_int (fun _ _ => by rfl)) pa_nil))))))) pe_int (fun _ _ => by rfl)) pe_bl (nomark _)) (pss_one (ps_ret pe_bl)) pss_nil))) pss_nil)))))))))))
      (pss_one (ps_ret (pe_and (pe_cmpR (op_eqD hu) (pe_methC0 (pv 1) T.cl m2 r1) (pv 3) (nomark _)) (pe_one (pe_cmpR (op_eqD hu) (pe_methC0 (pv 1) T.cl m1 r1) (pv 2) (nomark _)))))))))), ?_⟩
    refine ⟨_, rfl, a, ns, rfl, hS, fun t x pa ta ds dl S H1 s1 et N PA hne hbc => ?_⟩
    have g := netC_of N hbc
    refine ⟨t, _, rfl, SqT.of et, rfl, _, _, rfl, _, _, rfl, _, _, rfl, rfl, ?_⟩
    have hln : (ns.map V.int).length = ns.length := List.length_map ..
    have hm1 : -(2 ^ 62) ≤ (if (21 : Int) > (if (50 : Int) < (ns.length : Int) then 50 else (ns.length : Int)) - 1 then 21 else (if (50 : Int) < (ns.length : Int) then 50 else (ns.length : Int)) - 1) := by split <;> split <;> omega
    have hm2 : (if (21 : Int) > (if (50 : Int) < (ns.length : Int) then 50 else (ns.length : Int)) - 1 then 21 else (if (50 : Int) < (ns.length : Int) then 50 else (ns.length : Int)) - 1) < 2 ^ 62 := by split <;> split <;> omega
    refine ⟨_, rfl, a, _, rfl, .inl (s1.seq hS), _, _, rfl, _, _, rfl, rfl, _, _, rfl, ?_⟩
    rw [hln]
    generalize (if (21 : Int) > (if (50 : Int) < (ns.length : Int) then 50 else (ns.length : Int)) - 1 then 21 else (if (50 : Int) < (ns.length : Int) then 50 else (ns.length : Int)) - 1) = top at hm1 hm2
    refine ⟨fun σ' H' => H' = H1 ∧ ∃ top : Int, -(2 ^ 62) ≤ top ∧ top < 2 ^ 62 ∧ σ' = [some (.ref a), some (.ref x), some (.ref pa), some (.ref ta), some (.int top), none, none, none, none, none, none, none, none], ?_, ?_⟩
    · refine ⟨_, rfl, pa, _, rfl, .inl (SqL.of PA.pl), _, _, rfl, rfl, _, rfl, ite2 (fun _ => ⟨rfl, 25, by decide, by decide, rfl⟩) (fun _ => ⟨rfl, top, hm1, hm2, rfl⟩)⟩
    rintro σ2 H2 ⟨rfl, top, hm1, hm2, rfl⟩
    obtain ⟨n, en⟩ := size_two 20 top
    refine ⟨_, rfl, 20, top, 2, n, rfl, by decide, by decide, small_two (by decide) (by decide) hm1 hm2, en, ?_⟩
    refine for_rangeS (n := n) (fun i σ' H' => (∃ o5 o6 o7 o8 o9 o10 o11 o12, σ' = [some (.ref a), some (.ref x), some (.ref pa), some (.ref ta), some (.int top), o5, o6, o7, o8, o9, o10, o11, o12]) ∧ Same H2 H') ⟨⟨_, _, _, _, _, _, _, _, rfl⟩, Same.refl _⟩ (fun i σ' H' hi h => ?_) (fun σ' H' h => ?_)
    · obtain ⟨⟨o5, o6, o7, o8, o9, o10, o11, o12, rfl⟩, t1⟩ := h
      have st := (s1.trans t1).seq hS
      have ept := t1 _ _ PA.pl
      have hlp : (S.pl.map V.str).length = S.pl.length := List.length_map ..
      have wget : ∀ zz : Int, ∃ y ∈ S.pl, atI (S.pl.map V.str) (zz % (S.pl.length : Int)) = some (V.str y) := fun zz => by
        obtain ⟨j, hj, e⟩ := emod_nat zz hne
        have e' := List.getElem?_eq_getElem hj
        rw [e]
        exact ⟨_, List.mem_of_getElem? e', pl_at e'⟩
      refine ⟨_, rfl, _, rfl, a, ns, _, rfl, st, by omega, fun c0 => ⟨c0, 3, rfl, by decide, by decide, fun num hnum => ?_⟩⟩
      refine ⟨_, rfl, _, rfl, _, _, rfl, rfl, a, ns, _, rfl, st, by omega, fun c1 => ?_⟩
      refine ⟨_, rfl, c1, 4, rfl, by decide, by decide, fun oth hoth => ⟨_, _, rfl, rfl, (by show (0 : Int) < 40; decide), _, _, rfl, rfl, ?_⟩⟩
      refine ⟨fun σ3 H3 => H3 = H' ∧ ∃ k : Int, k.natAbs ≤ 10 ^ 60 ∧ σ3 = [some (.ref a), some (.ref x), some (.ref pa), some (.ref ta), some (.int top), some (.int (20 + i * 2)), some (.int num), some (.int c1), some (.int k), o9, o10, o11, o12], ?_, ?_⟩
      · refine ⟨_, rfl, _, _, rfl, rfl, ⟨by decide, by decide⟩, _, _, rfl, rfl, (by show (0 : Int) < 4; decide), rfl, _, rfl, ite2 (fun _ => ?_) (fun _ => ⟨rfl, _, k_smallK oth, rfl⟩)⟩
        exact ⟨_, rfl, _, _, rfl, rfl, ⟨by decide, by decide, by decide⟩, _, _, rfl, rfl, .inl ⟨by decide, by decide⟩, _, _, rfl, rfl, (by show (0 : Int) < 2 * 10 ^ (58 : Int).toNat; decide), _, _, rfl, rfl, ⟨by decide, by decide, by decide⟩, _, _, rfl, rfl, rfl, _, k_bigK c1, rfl⟩
      rintro σ3 H3 ⟨rfl, k, hk, rfl⟩
      obtain ⟨ya, hya, ea⟩ := wget num
      obtain ⟨yb, hyb, eb⟩ := wget (num / 7)
      refine ⟨_, rfl, _, rfl, _, rfl, pa, _, rfl, .inl (SqL.of ept), _, _, rfl, rfl, (by rw [hlp]; omega), pa, _, _, .str ya, rfl, rfl, SqL.of ept, (by rw [hlp]; exact ea), ?_⟩
      refine ⟨_, rfl, _, rfl, _, _, rfl, rfl, ⟨by decide, by decide⟩, _, rfl, pa, _, rfl, .inl (SqL.of ept), _, _, rfl, rfl, (by rw [hlp]; omega), pa, _, _, .str yb, rfl, rfl, SqL.of ept, (by rw [hlp]; exact eb), ?_⟩
      have hk200 : k.natAbs ≤ 10 ^ 200 := Nat.le_trans hk (by decide)
      refine ⟨_, rfl, _, rfl, _, rfl, _, rfl, _, rfl, _, rfl, x, ds, dl, ta, pa, S, ya, yb, k, rfl, N.same t1, g, N.rows, PA.same t1, hya, hyb, hk200, fun f1 H4 s4 vk ef1 => ?_, fun f1 c H4 s4 vc hc ef1 => ?_⟩
      · have t4 := t1.trans s4
        refine ⟨_, rfl, _, rfl, iteFb (by rfl) ?_⟩
        exact ⟨_, rfl, f1, _, _, .bl false, rfl, rfl, SqT.of ef1, rfl, _, rfl, iteF (iteF ⟨⟨_, _, _, _, _, _, _, _, rfl⟩, t4⟩)⟩
      · have t4 := t1.trans s4
        refine ⟨_, rfl, _, rfl, iteFb (by rfl) ?_⟩
        refine ⟨_, rfl, f1, _, _, .bl true, rfl, rfl, SqT.of ef1, rfl, _, rfl, iteT ⟨_, rfl, f1, _, _, .int c, rfl, rfl, SqT.of ef1, rfl, _, _, rfl, rfl, ⟨by decide, by decide, by decide⟩, _, rfl, _, _, rfl, rfl, _, rfl, ite2 (fun _ => ?_) (fun _ => ⟨⟨_, _, _, _, _, _, _, _, rfl⟩, t4⟩)⟩⟩
        have hcb : c.natAbs ≤ 10 ^ 130 := by
          have h2 : 3 * ((k.natAbs + 10 ^ 63) * 10 ^ 61) ≤ 3 * ((10 ^ 60 + 10 ^ 63) * 10 ^ 61) := Nat.mul_le_mul_left _ (Nat.mul_le_mul_right _ (Nat.add_le_add_right hk _))
          exact Nat.le_trans hc (Nat.le_trans h2 (by decide))
        have hb1 : c.natAbs ≤ 10 ^ 200 := Nat.le_trans hcb (by decide)
        have hb2 : (c - 1).natAbs ≤ 10 ^ 200 := by
          have : (10 ^ 130 + 1 : Nat) ≤ 10 ^ 200 := by decide
          omega
        refine ⟨_, rfl, f1, _, _, .int c, rfl, rfl, SqT.of ef1, rfl, _, rfl, f1, _, _, .int c, rfl, rfl, SqT.of ef1, rfl, _, _, rfl, rfl, (by show 2 ≤ sizeLine; decide), fun el hel => ?_⟩
        have s5 := Same.new (o := .lst [.int c, .int (c - 1)]) hel
        have eel : (upd H4 el (.lst [.int c, .int (c - 1)])) el = some (.lst [.int c, .int (c - 1)]) := upd_same
        generalize upd H4 el (.lst [.int c, .int (c - 1)]) = H5 at s5 eel
        have t5 := t4.trans s5
        refine ⟨el, rfl, ⟨_, SqL.of eel⟩, for_list (K := K) (a := el) (xs := [.int c, .int (c - 1)]) (fun j σ' H' => (∃ o12, σ' = [some (.ref a), some (.ref x), some (.ref pa), some (.ref ta), some (.int top), some (.int (20 + i * 2)), some (.int num), some (.int c1), some (.int k), some (.str ya), some (.str yb), some (.ref f1), o12]) ∧ Same H5 H')
          ⟨⟨_, rfl⟩, Same.refl _⟩ (fun j σ' H' _ h => SqL.of (h.2 _ _ eel)) (fun j v σ' H' hv h => ?_) (fun σ' H' h => ?_)⟩
        · obtain ⟨⟨o12, rfl⟩, s6⟩ := h
          have t6 := t5.trans s6
          obtain ⟨e, rfl, he⟩ : ∃ e : Int, v = .int e ∧ e.natAbs ≤ 10 ^ 200 := by
            rcases j with _ | _ | j
            · exact ⟨c, (Option.some.inj hv).symm, hb1⟩
            · exact ⟨c - 1, (Option.some.inj hv).symm, hb2⟩
            · cases hv
          exact ⟨_, rfl, _, rfl, _, rfl, _, rfl, _, rfl, _, rfl, x, ds, dl, ta, pa, S, ya, yb, e, rfl, N.same t6, g, N.rows, PA.same t6, hya, hyb, he, fun f2 H7 s7 _ _ => ⟨_, rfl, iteFb (by rfl) ⟨⟨_, rfl⟩, s6.trans s7⟩⟩, fun f2 c2 H7 s7 _ _ _ => ⟨_, rfl, iteFb (by rfl) ⟨⟨_, rfl⟩, s6.trans s7⟩⟩⟩
        · obtain ⟨⟨o12, rfl⟩, s6⟩ := h
          have t6 := t5.trans s6
          refine ⟨_, rfl, _, rfl, _, rfl, _, rfl, _, rfl, _, rfl, f1, _, _, .int c, rfl, rfl, SqT.of ((s5.trans s6) _ _ ef1), rfl, x, ds, dl, ta, pa, S, ya, yb, c, rfl, N.same t6, g, N.rows, PA.same t6, hya, hyb, hb1, fun f2 H7 s7 vno _ => ?_, fun f2 c2 H7 s7 _ _ ef2 => ?_⟩
          · rw [vc] at vno
            cases vno
          · exact ⟨f2, _, _, .bl true, rfl, rfl, SqT.of ef2, rfl, _, _, rfl, rfl, _, rfl, iteF ⟨⟨_, _, _, _, _, _, _, _, rfl⟩, t6.trans s7⟩⟩
    · obtain ⟨⟨o5, o6, o7, o8, o9, o10, o11, o12, rfl⟩, t1⟩ := h
      have N4 := N.same t1
      obtain ⟨dx, h1⟩ := N4.net.ob
      refine ⟨_, rfl, x, dx, _, rfl, h1, flds_no ds dl (by decide +kernel) (by decide +kernel), x, ds, dl, S, rfl, N4.net, fun tl H6 L htl s6 RL etl => ?_⟩
      have PA6 := PA.same (t1.trans s6)
      obtain ⟨L2, RL2, eta⟩ := PA6.ti
      refine ⟨_, rfl, 2, _, _, by decide, rd_rows (RL.same s6) etl N.rows, rd_rows RL2 eta N.rows, _, rfl, ?_⟩
      show if (if false = true then !PyData.eqv (.list (S.ti.map rowD)) (.list (S.ti.map rowD)) else PyData.eqv (.list (S.ti.map rowD)) (.list (S.ti.map rowD))) = true then _ else _
      rw [if_neg Bool.false_ne_true, lay_rows]
      refine iteT ?_
      have N6 := N4.same s6
      obtain ⟨dx6, h16⟩ := N6.net.ob
      refine ⟨_, rfl, x, dx6, _, rfl, h16, flds_no ds dl (by decide +kernel) (by decide +kernel), x, ds, dl, S, rfl, N6.net, fun pl hpl => ?_⟩
      have s7 := Same.new (o := .lst (S.pl.map V.str)) hpl
      refine ⟨_, rfl, 2, _, _, by decide, rd_strs upd_same N.okP, rd_strs (s7 _ _ PA6.pl) N.okP, ?_⟩
      show Q (.bl (if false = true then !PyData.eqv (.list (S.pl.map PyData.str)) (.list (S.pl.map PyData.str)) else PyData.eqv (.list (S.pl.map PyData.str)) (.list (S.pl.map PyData.str)))) _
      rw [if_neg Bool.false_ne_true, lay_strs N.okP]
      exact q _
end
end Net

namespace Net
open PySem L2
theorem kib1 (K : PySem.W.Frag) : PySem.W.kitOne K (.type "int") (.type "bool") = some false := by
  first | rfl | kernel_rfl
/-! ### what the top has written -/
structure Fn (K : PySem.W.Frag) (mg : Str → Option Value) (x : Str) (st : Stmt) : Prop where
  ex : ∃ f fd, Fun K x x st f fd ∧ mg x = some (.ref f)
structure Mt (K : PySem.W.Frag) (C : Addr) (x qual : Str) (st : Stmt) : Prop where
  ex : ∃ f fd, Fun K x qual st f fd ∧ Meth K C x f
theorem fn_mk {K : PySem.W.Frag} {h : Heap} {mg : Str → Option Value} {x : Str} {st : Stmt} {f : Addr} {oc : Value} {od an : Option Addr} {osl : Array (Option Value)} {kV doc pm cdv ct : Value} (X : K.In h) (G : h.Ns mainGlobals mg) (a : PySem.W.nsIn K mainGlobals x = some (some (.ref f)))
    (l : K.lookup f = some ⟨oc, od, .func (PySem.W.fnOf x x (defArgs st) (defBody st) (defScope st) .none kV doc pm an cdv ct), osl⟩) (c : PySem.W.codeIn K cdv x = true) (k : PySem.W.keepIn K (.ref f) = true) : Fn K mg x st :=
  ⟨f, _, fun_mk l c k, PySem.W.mg_of X G a⟩
theorem mt_mk {K : PySem.W.Frag} {C : Addr} {x qual : Str} {st : Stmt} {f : Addr} {oc : Value} {od an : Option Addr} {osl : Array (Option Value)} {kV doc pm cdv ct : Value} (a : PySem.W.findIn K (.ref C) x = some (some (.ref f))) (i : PySem.W.isFn K (.ref f) = true)
    (l : K.lookup f = some ⟨oc, od, .func (PySem.W.fnOf x qual (defArgs st) (defBody st) (defScope st) .none kV doc pm an cdv ct), osl⟩) (c : PySem.W.codeIn K cdv qual = true) (k : PySem.W.keepIn K (.ref f) = true) : Mt K C x qual st :=
  ⟨f, _, fun_mk l c k, a, i, k⟩
section
variable {P : Program} {w : World} {K : PySem.W.Frag} {mg : Str → Option Value} {base : Heap} {C : Addr} {k : Nat} {x qual : Str} {st : Stmt} {ps : List Str} {sp : Sp}
theorem Fn.can (F : Fn K mg x st) (ok : ∀ f fd, Fun K x x st f fd → FnOk P w K mg base CX0 k f fd ps sp)
    (h : ∀ (kV doc pm : Value) (an : Option Addr) (cdv ct : Value) (us : List Value), us.length = ps.length → bindArgs (PySem.W.fnOf x x (defArgs st) (defBody st) (defScope st) .none kV doc pm an cdv ct) ⟨us, []⟩ = pure (ps.zip us)) : Can P w K mg base k x ps sp := by
  obtain ⟨f, fd, G, m⟩ := F.ex
  exact ⟨f, fd, ok f fd G, m, G.kp, G.binds h⟩
theorem Mt.can (F : Mt K C x qual st) (ok : ∀ f fd, Fun K x qual st f fd → FnOk P w K mg base CX0 k f fd ps sp)
    (h : ∀ (kV doc pm : Value) (an : Option Addr) (cdv ct : Value) (us : List Value), us.length = ps.length → bindArgs (PySem.W.fnOf x qual (defArgs st) (defBody st) (defScope st) .none kV doc pm an cdv ct) ⟨us, []⟩ = pure (ps.zip us)) : CanM P w K mg base k C x ps sp := by
  obtain ⟨f, fd, G, m⟩ := F.ex
  exact ⟨f, fd, ok f fd G, m, G.binds h⟩
theorem Mt.canI (F : Mt K C "__init__" qual st) (mk : PySem.W.makesIn K C = true) (kc : PySem.W.keepIn K (.ref C) = true) (ok : ∀ f fd, Fun K "__init__" qual st f fd → FnOk P w K mg base CX0 k f fd ps sp)
    (h : ∀ (kV doc pm : Value) (an : Option Addr) (cdv ct : Value) (us : List Value), us.length = ps.length → bindArgs (PySem.W.fnOf "__init__" qual (defArgs st) (defBody st) (defScope st) .none kV doc pm an cdv ct) ⟨us, []⟩ = pure (ps.zip us)) : CanI P w K mg base k C ps sp := by
  obtain ⟨f, fd, G, m⟩ := F.ex
  exact ⟨f, fd, ok f fd G, ⟨mk, m.at_, m.fn, kc⟩, G.binds h⟩
end
structure All (K : PySem.W.Frag) (mg : Str → Option Value) (C : Addr) : Prop where
  T : Txt K mg C
  mks : PySem.W.makesIn K C = true
  kc : PySem.W.keepIn K (.ref C) = true
  tw : TxtW mg
  ts : TxtS mg
  tm : TxtM mg
  made : Fn K mg "is_made_of" s_is_made_of
  name : Fn K mg "is_name" s_is_name
  whole : Fn K mg "is_whole" s_is_whole
  rname : Fn K mg "refuse_no_name" s_refuse_no_name
  rwidth : Fn K mg "refuse_no_width" s_refuse_no_width
  rmore : Fn K mg "refuse_more" s_refuse_more
  init : Mt K C "__init__" "Net.__init__" s_Net_init
  place : Mt K C "place" "Net.place" s_Net_place
  tie : Mt K C "tie" "Net.tie" s_Net_tie
  places : Mt K C "places" "Net.places" s_Net_places
  ties : Mt K C "ties" "Net.ties" s_Net_ties
  cell : Fn K mg "_law_cell_at" s_l_cell_at
  mixed : Fn K mg "_law_mixed" s_l_mixed
  lwhole : Fn K mg "_law_whole" s_l_whole
  words : Fn K mg "_law_words" s_l_words
  steps : Fn K mg "steps_of" s_steps_of
  byb : Fn K mg "steps_by_begin" s_steps_by_begin
  bfs : Fn K mg "steps_to_places" s_steps_to_places
  members : Fn K mg "members_of" s_members_of
  mpaper : Fn K mg "member_paper" s_member_paper
  byname : Fn K mg "ties_by_name" s_ties_by_name
  wcost : Fn K mg "walk_cost" s_walk_cost
  islow : Fn K mg "is_lower" s_is_lower
  lower : Fn K mg "lower_prices" s_lower_prices
  ringb : Fn K mg "ring_behind" s_ring_behind
  walkb : Fn K mg "walk_behind" s_walk_behind
  nought : Fn K mg "rounds_to_nought" s_rounds_to_nought
  stretch : Fn K mg "stretches_by_ring" s_stretches_by_ring
  fcost : Fn K mg "find_cost" s_find_cost
  fplain : Fn K mg "find_plain" s_find_plain
  lcost : Fn K mg "_law_cost" s_l_cost
  lnet : Fn K mg "_law_net" s_l_net
  lend : Fn K mg "_law_end" s_l_end
  spent : Fn K mg "_law_spent" s_l_spent
  llisted : Fn K mg "_law_listed" s_l_listed
  verdict : Fn K mg "_law_verdict" s_l_verdict
  stretched : Fn K mg "_law_stretched" s_l_stretched
  parted : Fn K mg "_law_parted" s_l_parted
  dear : Fn K mg "_law_dear" s_l_dear
  asked : Fn K mg "_law_asked" s_l_asked
theorem law_ok {P : Program} {w : World} {K : PySem.W.Frag} {mg : Str → Option Value} {base : Heap} {C f : Addr} {fd : FuncData} (A : All K mg C) (F : Fun K "law" "law" s_law f fd) : FnOk P w K mg base CX0 9 f fd ["_law_script"] (spLaw K) := by
  have T := A.T
  have made : Can P w K mg base 1 _ _ _ := A.made.can (fun f fd F => ok_made F T) fun _ _ _ _ _ _ us hl => match us, hl with | [_, _], _ => rfl
  have name : Can P w K mg base 2 _ _ _ := A.name.can (fun f fd F => ok_name F T made) fun _ _ _ _ _ _ us hl => match us, hl with | [_], _ => rfl
  have whole : Can P w K mg base 1 _ _ _ := A.whole.can (fun f fd F => ok_whole F T) fun _ _ _ _ _ _ us hl => match us, hl with | [_], _ => rfl
  have rname : Can P w K mg base 3 _ _ _ := A.rname.can (fun f fd F => ok_refName F T name) fun _ _ _ _ _ _ us hl => match us, hl with | [_], _ => rfl
  have rwidth : Can P w K mg base 2 _ _ _ := A.rwidth.can (fun f fd F => ok_refWidth F T whole) fun _ _ _ _ _ _ us hl => match us, hl with | [_], _ => rfl
  have rmore : Can P w K mg base 1 _ _ _ := A.rmore.can (fun f fd F => ok_refMore F T) fun _ _ _ _ _ _ us hl => match us, hl with | [_, _], _ => rfl
  have init : CanI P w K mg base 1 C _ _ := A.init.canI A.mks A.kc (fun f fd F => ok_init F T) fun _ _ _ _ _ _ us hl => match us, hl with | [_], _ => rfl
  have place : CanM P w K mg base 4 C _ _ _ := A.place.can (fun f fd F => ok_place F T rname rmore) fun _ _ _ _ _ _ us hl => match us, hl with | [_, _], _ => rfl
  have tie : CanM P w K mg base 4 C _ _ _ := A.tie.can (fun f fd F => ok_tie F T rname rwidth rmore) fun _ _ _ _ _ _ us hl => match us, hl with | [_, _, _, _, _, _], _ => rfl
  have places : CanM P w K mg base 1 C _ _ _ := A.places.can (fun f fd F => ok_places F T) fun _ _ _ _ _ _ us hl => match us, hl with | [_], _ => rfl
  have ties : CanM P w K mg base 1 C _ _ _ := A.ties.can (fun f fd F => ok_ties F T) fun _ _ _ _ _ _ us hl => match us, hl with | [_], _ => rfl
  have cell : Can P w K mg base 1 _ _ _ := A.cell.can (fun f fd F => ok_cell F T) fun _ _ _ _ _ _ us hl => match us, hl with | [_, _], _ => rfl
  have mixed : Can P w K mg base 1 _ _ _ := A.mixed.can (fun f fd F => ok_mixed F T) fun _ _ _ _ _ _ us hl => match us, hl with | [_, _], _ => rfl
  have lwhole : Can P w K mg base 1 _ _ _ := A.lwhole.can (fun f fd F => ok_lwhole F T) fun _ _ _ _ _ _ us hl => match us, hl with | [_], _ => rfl
  have words : Can P w K mg base 2 _ _ _ := A.words.can (fun f fd F => ok_words F T mixed) fun _ _ _ _ _ _ us hl => match us, hl with | [_, _, _], _ => rfl
  have steps : Can P w K mg base 2 _ _ _ := A.steps.can (fun f fd F => ok_steps F T ties) fun _ _ _ _ _ _ us hl => match us, hl with | [_, _], _ => rfl
  have byb : Can P w K mg base 1 _ _ _ := A.byb.can (fun f fd F => ok_by F T) fun _ _ _ _ _ _ us hl => match us, hl with | [_], _ => rfl
  have bfs : Can P w K mg base 2 _ _ _ := A.bfs.can (fun f fd F => ok_bfs F T byb) fun _ _ _ _ _ _ us hl => match us, hl with | [_, _], _ => rfl
  have members : Can P w K mg base 3 _ _ _ := A.members.can (fun f fd F => ok_members F T steps bfs places) fun _ _ _ _ _ _ us hl => match us, hl with | [_, _], _ => rfl
  have mpaper : Can P w K mg base 4 _ _ _ := A.mpaper.can (fun f fd F => ok_mpaper F T A.ts members steps bfs) fun _ _ _ _ _ _ us hl => match us, hl with | [_, _, _], _ => rfl
  have byname : Can P w K mg base 2 _ _ _ := A.byname.can (fun f fd F => ok_byName F T A.tw ties) fun _ _ _ _ _ _ us hl => match us, hl with | [_], _ => rfl
  have wcost : Can P w K mg base 3 _ _ _ := A.wcost.can (fun f fd F => ok_wcost F T A.tw byname) fun _ _ _ _ _ _ us hl => match us, hl with | [_, _], _ => rfl
  have islow : Can P w K mg base 1 _ _ _ := A.islow.can (fun f fd F => ok_islow F) fun _ _ _ _ _ _ us hl => match us, hl with | [_, _], _ => rfl
  have lower : Can P w K mg base 2 _ _ _ := A.lower.can (fun f fd F => ok_lower F T islow) fun _ _ _ _ _ _ us hl => match us, hl with | [_, _, _, _], _ => rfl
  have ringb : Can P w K mg base 1 _ _ _ := A.ringb.can (fun f fd F => ok_ringb F T A.ts) fun _ _ _ _ _ _ us hl => match us, hl with | [_, _], _ => rfl
  have walkb : Can P w K mg base 1 _ _ _ := A.walkb.can (fun f fd F => ok_walkb F T A.ts) fun _ _ _ _ _ _ us hl => match us, hl with | [_, _], _ => rfl
  have nought : Can P w K mg base 1 _ _ _ := A.nought.can (fun f fd F => ok_nought F A.tm) fun _ _ _ _ _ _ us hl => match us, hl with | [_, _], _ => rfl
  have stretch : Can P w K mg base 5 _ _ _ := A.stretch.can (fun f fd F => ok_stretch F byname mpaper wcost nought) fun _ _ _ _ _ _ us hl => match us, hl with | [_, _, _], _ => rfl
  have fcost : Can P w K mg base 6 _ _ _ := A.fcost.can (fun f fd F => ok_fcost F T members ties lower ringb walkb stretch) fun _ _ _ _ _ _ us hl => match us, hl with | [_, _], _ => rfl
  have fplain : Can P w K mg base 7 _ _ _ := A.fplain.can (fun f fd F => ok_fplain43 F fcost) fun _ _ _ _ _ _ us hl => match us, hl with | [_, _], _ => rfl
  have lcost : Can P w K mg base 2 _ _ _ := A.lcost.can (fun f fd F => ok_lcost F mixed) fun _ _ _ _ _ _ us hl => match us, hl with | [_, _], _ => rfl
  have lnet : Can P w K mg base 5 _ _ _ := A.lnet.can (fun f fd F => ok_lnet F T A.tm mixed cell words lcost init place tie) fun _ _ _ _ _ _ us hl => match us, hl with | [_], _ => rfl
  have lend : Can P w K mg base 1 _ _ _ := A.lend.can (fun f fd F => ok_lend F T) fun _ _ _ _ _ _ us hl => match us, hl with | [_, _, _], _ => rfl
  have spent : Can P w K mg base 1 _ _ _ := A.spent.can (fun f fd F => ok_spent F A.tw) fun _ _ _ _ _ _ us hl => match us, hl with | [_, _], _ => rfl
  have llisted : Can P w K mg base 1 _ _ _ := A.llisted.can (fun f fd F => ok_llisted F T) fun _ _ _ _ _ _ us hl => match us, hl with | [_, _], _ => rfl
  have verdict : Can P w K mg base 1 _ _ _ := A.verdict.can (fun f fd F => ok_verdict F T) fun _ _ _ _ _ _ us hl => match us, hl with | [_], _ => rfl
  have stretched : Can P w K mg base 2 _ _ _ := A.stretched.can (fun f fd F => ok_stretched F T lwhole lend spent) fun _ _ _ _ _ _ us hl => match us, hl with | [_, _, _], _ => rfl
  have parted : Can P w K mg base 2 _ _ _ := A.parted.can (fun f fd F => ok_parted F T lwhole llisted) fun _ _ _ _ _ _ us hl => match us, hl with | [_, _], _ => rfl
  have dear : Can P w K mg base 3 _ _ _ := A.dear.can (fun f fd F => ok_dear F parted) fun _ _ _ _ _ _ us hl => match us, hl with | [_, _, _, _, _, _], _ => rfl
  have asked : Can P w K mg base 8 _ _ _ := A.asked.can (fun f fd F => ok_asked43 F fplain verdict dear stretched) fun _ _ _ _ _ _ us hl => match us, hl with | [_, _, _, _, _, _], _ => rfl
  exact ok_law43 F T A.tm lnet mixed cell asked places ties
end Net

namespace Net
open PySem L2
theorem all_mk {l : PySem.W.OpenLaw} {w : World} {K : PySem.W.Frag} {h : Heap} {mg : Str → Option Value} {fa C : Addr} {f0 : Addr} {od0 an0 : Option Addr} {sl0 : Array (Option Value)} {oc0 kV0 dc0 pm0 cd0 ct0 : Value} {f1 : Addr} {od1 an1 : Option Addr} {sl1 : Array (Option Value)} {oc1 kV1 dc1 pm1 cd1 ct1 : Value} {f2 : Addr} {od2 an2 : Option Addr} {sl2 : Array (Option Value)} {oc2 kV2 dc2 pm2 cd2 ct2 : Value} {f3 : Addr} {od3 an3 : Option Addr} {sl3 : Array (Option Value)} {oc3 kV3 dc3 pm3 cd3 ct3 : Value} {f4 : Addr} {od4 an4 : Option Addr} {sl4 : Array (Option Value)} {oc4 kV4 dc4 pm4 cd4 ct4 : Value} {f5 : Addr} {od5 an5 : Option Addr} {sl5 : Array (Option Value)} {oc5 kV5 dc5 pm5 cd5 ct5 : Value} {f6 : Addr} {od6 an6 : Option Addr} {sl6 : Array (Option Value)} {oc6 kV6 dc6 pm6 cd6 ct6 : Value} {f7 : Addr} {od7 an7 : Option Addr} {sl7 : Array (Option Value)} {oc7 kV7 dc7 pm7 cd7 ct7 : Value} {f8 : Addr} {od8 an8 : Option Addr} {sl8 : Array (Option Value)} {oc8 kV8 dc8 pm8 cd8 ct8 : Value} {f9 : Addr} {od9 an9 : Option Addr} {sl9 : Array (Option Value)} {oc9 kV9 dc9 pm9 cd9 ct9 : Value} {f10 : Addr} {od10 an10 : Option Addr} {sl10 : Array (Option Value)} {oc10 kV10 dc10 pm10 cd10 ct10 : Value} {f11 : Addr} {od11 an11 : Option Addr} {sl11 : Array (Option Value)} {oc11 kV11 dc11 pm11 cd11 ct11 : Value} {f12 : Addr} {od12 an12 : Option Addr} {sl12 : Array (Option Value)} {oc12 kV12 dc12 pm12 cd12 ct12 : Value} {f13 : Addr} {od13 an13 : Option Addr} {sl13 : Array (Option Value)} {oc13 kV13 dc13 pm13 cd13 ct13 : Value} {f14 : Addr} {od14 an14 : Option Addr} {sl14 : Array (Option Value)} {oc14 kV14 dc14 pm14 cd14 ct14 : Value} {f15 : Addr} {od15 an15 : Option Addr} {sl15 : Array (Option Value)} {oc15 kV15 dc15 pm15 cd15 ct15 : Value} {f16 : Addr} {od16 an16 : Option Addr} {sl16 : Array (Option Value)} {oc16 kV16 dc16 pm16 cd16 ct16 : Value} {f17 : Addr} {od17 an17 : Option Addr} {sl17 : Array (Option Value)} {oc17 kV17 dc17 pm17 cd17 ct17 : Value} {f18 : Addr} {od18 an18 : Option Addr} {sl18 : Array (Option Value)} {oc18 kV18 dc18 pm18 cd18 ct18 : Value} {f19 : Addr} {od19 an19 : Option Addr} {sl19 : Array (Option Value)} {oc19 kV19 dc19 pm19 cd19 ct19 : Value} {f20 : Addr} {od20 an20 : Option Addr} {sl20 : Array (Option Value)} {oc20 kV20 dc20 pm20 cd20 ct20 : Value} {f21 : Addr} {od21 an21 : Option Addr} {sl21 : Array (Option Value)} {oc21 kV21 dc21 pm21 cd21 ct21 : Value} {f22 : Addr} {od22 an22 : Option Addr} {sl22 : Array (Option Value)} {oc22 kV22 dc22 pm22 cd22 ct22 : Value} {f23 : Addr} {od23 an23 : Option Addr} {sl23 : Array (Option Value)} {oc23 kV23 dc23 pm23 cd23 ct23 : Value} {f24 : Addr} {od24 an24 : Option Addr} {sl24 : Array (Option Value)} {oc24 kV24 dc24 pm24 cd24 ct24 : Value} {f25 : Addr} {od25 an25 : Option Addr} {sl25 : Array (Option Value)} {oc25 kV25 dc25 pm25 cd25 ct25 : Value} {f26 : Addr} {od26 an26 : Option Addr} {sl26 : Array (Option Value)} {oc26 kV26 dc26 pm26 cd26 ct26 : Value} {f27 : Addr} {od27 an27 : Option Addr} {sl27 : Array (Option Value)} {oc27 kV27 dc27 pm27 cd27 ct27 : Value} {f28 : Addr} {od28 an28 : Option Addr} {sl28 : Array (Option Value)} {oc28 kV28 dc28 pm28 cd28 ct28 : Value} {f29 : Addr} {od29 an29 : Option Addr} {sl29 : Array (Option Value)} {oc29 kV29 dc29 pm29 cd29 ct29 : Value} {f30 : Addr} {od30 an30 : Option Addr} {sl30 : Array (Option Value)} {oc30 kV30 dc30 pm30 cd30 ct30 : Value} {f31 : Addr} {od31 an31 : Option Addr} {sl31 : Array (Option Value)} {oc31 kV31 dc31 pm31 cd31 ct31 : Value} {f32 : Addr} {od32 an32 : Option Addr} {sl32 : Array (Option Value)} {oc32 kV32 dc32 pm32 cd32 ct32 : Value} {f33 : Addr} {od33 an33 : Option Addr} {sl33 : Array (Option Value)} {oc33 kV33 dc33 pm33 cd33 ct33 : Value} {f34 : Addr} {od34 an34 : Option Addr} {sl34 : Array (Option Value)} {oc34 kV34 dc34 pm34 cd34 ct34 : Value} {f35 : Addr} {od35 an35 : Option Addr} {sl35 : Array (Option Value)} {oc35 kV35 dc35 pm35 cd35 ct35 : Value} {f36 : Addr} {od36 an36 : Option Addr} {sl36 : Array (Option Value)} {oc36 kV36 dc36 pm36 cd36 ct36 : Value} {f37 : Addr} {od37 an37 : Option Addr} {sl37 : Array (Option Value)} {oc37 kV37 dc37 pm37 cd37 ct37 : Value} {f38 : Addr} {od38 an38 : Option Addr} {sl38 : Array (Option Value)} {oc38 kV38 dc38 pm38 cd38 ct38 : Value} {f39 : Addr} {od39 an39 : Option Addr} {sl39 : Array (Option Value)} {oc39 kV39 dc39 pm39 cd39 ct39 : Value} {fL : Addr} {odL anL : Option Addr} {slL : Array (Option Value)} {ocL kVL dcL pmL cdL ctL : Value} {vS : Value} {vN : Value} {vP : Value} {vM : Value}
    (X : K.In h) (G : h.Ns mainGlobals mg) (hfa : mg "law" = some (.ref fa))
    (aC : PySem.W.nsIn K mainGlobals "Net" = some (some (.ref C)))
    (a0 : PySem.W.nsIn K mainGlobals "is_made_of" = some (some (.ref f0)))
    (l0 : K.lookup f0 = some ⟨oc0, od0, .func (PySem.W.fnOf "is_made_of" "is_made_of" (defArgs s_is_made_of) (defBody s_is_made_of) (defScope s_is_made_of) .none kV0 dc0 pm0 an0 cd0 ct0), sl0⟩) (c0 : PySem.W.codeIn K cd0 "is_made_of" = true) (k0 : PySem.W.keepIn K (.ref f0) = true)
    (a1 : PySem.W.nsIn K mainGlobals "is_name" = some (some (.ref f1)))
    (l1 : K.lookup f1 = some ⟨oc1, od1, .func (PySem.W.fnOf "is_name" "is_name" (defArgs s_is_name) (defBody s_is_name) (defScope s_is_name) .none kV1 dc1 pm1 an1 cd1 ct1), sl1⟩) (c1 : PySem.W.codeIn K cd1 "is_name" = true) (k1 : PySem.W.keepIn K (.ref f1) = true)
    (a2 : PySem.W.nsIn K mainGlobals "is_whole" = some (some (.ref f2)))
    (l2 : K.lookup f2 = some ⟨oc2, od2, .func (PySem.W.fnOf "is_whole" "is_whole" (defArgs s_is_whole) (defBody s_is_whole) (defScope s_is_whole) .none kV2 dc2 pm2 an2 cd2 ct2), sl2⟩) (c2 : PySem.W.codeIn K cd2 "is_whole" = true) (k2 : PySem.W.keepIn K (.ref f2) = true)
    (a3 : PySem.W.nsIn K mainGlobals "refuse_no_name" = some (some (.ref f3)))
    (l3 : K.lookup f3 = some ⟨oc3, od3, .func (PySem.W.fnOf "refuse_no_name" "refuse_no_name" (defArgs s_refuse_no_name) (defBody s_refuse_no_name) (defScope s_refuse_no_name) .none kV3 dc3 pm3 an3 cd3 ct3), sl3⟩) (c3 : PySem.W.codeIn K cd3 "refuse_no_name" = true) (k3 : PySem.W.keepIn K (.ref f3) = true)
    (a4 : PySem.W.nsIn K mainGlobals "refuse_no_width" = some (some (.ref f4)))
    (l4 : K.lookup f4 = some ⟨oc4, od4, .func (PySem.W.fnOf "refuse_no_width" "refuse_no_width" (defArgs s_refuse_no_width) (defBody s_refuse_no_width) (defScope s_refuse_no_width) .none kV4 dc4 pm4 an4 cd4 ct4), sl4⟩) (c4 : PySem.W.codeIn K cd4 "refuse_no_width" = true) (k4 : PySem.W.keepIn K (.ref f4) = true)
    (a5 : PySem.W.nsIn K mainGlobals "refuse_more" = some (some (.ref f5)))
    (l5 : K.lookup f5 = some ⟨oc5, od5, .func (PySem.W.fnOf "refuse_more" "refuse_more" (defArgs s_refuse_more) (defBody s_refuse_more) (defScope s_refuse_more) .none kV5 dc5 pm5 an5 cd5 ct5), sl5⟩) (c5 : PySem.W.codeIn K cd5 "refuse_more" = true) (k5 : PySem.W.keepIn K (.ref f5) = true)
    (a6 : PySem.W.findIn K (.ref C) "__init__" = some (some (.ref f6))) (i6 : PySem.W.isFn K (.ref f6) = true)
    (l6 : K.lookup f6 = some ⟨oc6, od6, .func (PySem.W.fnOf "__init__" "Net.__init__" (defArgs s_Net_init) (defBody s_Net_init) (defScope s_Net_init) .none kV6 dc6 pm6 an6 cd6 ct6), sl6⟩) (c6 : PySem.W.codeIn K cd6 "Net.__init__" = true) (k6 : PySem.W.keepIn K (.ref f6) = true)
    (a7 : PySem.W.findIn K (.ref C) "place" = some (some (.ref f7))) (i7 : PySem.W.isFn K (.ref f7) = true)
    (l7 : K.lookup f7 = some ⟨oc7, od7, .func (PySem.W.fnOf "place" "Net.place" (defArgs s_Net_place) (defBody s_Net_place) (defScope s_Net_place) .none kV7 dc7 pm7 an7 cd7 ct7), sl7⟩) (c7 : PySem.W.codeIn K cd7 "Net.place" = true) (k7 : PySem.W.keepIn K (.ref f7) = true)
    (a8 : PySem.W.findIn K (.ref C) "tie" = some (some (.ref f8))) (i8 : PySem.W.isFn K (.ref f8) = true)
    (l8 : K.lookup f8 = some ⟨oc8, od8, .func (PySem.W.fnOf "tie" "Net.tie" (defArgs s_Net_tie) (defBody s_Net_tie) (defScope s_Net_tie) .none kV8 dc8 pm8 an8 cd8 ct8), sl8⟩) (c8 : PySem.W.codeIn K cd8 "Net.tie" = true) (k8 : PySem.W.keepIn K (.ref f8) = true)
    (a9 : PySem.W.findIn K (.ref C) "places" = some (some (.ref f9))) (i9 : PySem.W.isFn K (.ref f9) = true)
    (l9 : K.lookup f9 = some ⟨oc9, od9, .func (PySem.W.fnOf "places" "Net.places" (defArgs s_Net_places) (defBody s_Net_places) (defScope s_Net_places) .none kV9 dc9 pm9 an9 cd9 ct9), sl9⟩) (c9 : PySem.W.codeIn K cd9 "Net.places" = true) (k9 : PySem.W.keepIn K (.ref f9) = true)
    (a10 : PySem.W.findIn K (.ref C) "ties" = some (some (.ref f10))) (i10 : PySem.W.isFn K (.ref f10) = true)
    (l10 : K.lookup f10 = some ⟨oc10, od10, .func (PySem.W.fnOf "ties" "Net.ties" (defArgs s_Net_ties) (defBody s_Net_ties) (defScope s_Net_ties) .none kV10 dc10 pm10 an10 cd10 ct10), sl10⟩) (c10 : PySem.W.codeIn K cd10 "Net.ties" = true) (k10 : PySem.W.keepIn K (.ref f10) = true)
    (a11 : PySem.W.nsIn K mainGlobals "_law_cell_at" = some (some (.ref f11)))
    (l11 : K.lookup f11 = some ⟨oc11, od11, .func (PySem.W.fnOf "_law_cell_at" "_law_cell_at" (defArgs s_l_cell_at) (defBody s_l_cell_at) (defScope s_l_cell_at) .none kV11 dc11 pm11 an11 cd11 ct11), sl11⟩) (c11 : PySem.W.codeIn K cd11 "_law_cell_at" = true) (k11 : PySem.W.keepIn K (.ref f11) = true)
    (a12 : PySem.W.nsIn K mainGlobals "_law_mixed" = some (some (.ref f12)))
    (l12 : K.lookup f12 = some ⟨oc12, od12, .func (PySem.W.fnOf "_law_mixed" "_law_mixed" (defArgs s_l_mixed) (defBody s_l_mixed) (defScope s_l_mixed) .none kV12 dc12 pm12 an12 cd12 ct12), sl12⟩) (c12 : PySem.W.codeIn K cd12 "_law_mixed" = true) (k12 : PySem.W.keepIn K (.ref f12) = true)
    (a13 : PySem.W.nsIn K mainGlobals "_law_whole" = some (some (.ref f13)))
    (l13 : K.lookup f13 = some ⟨oc13, od13, .func (PySem.W.fnOf "_law_whole" "_law_whole" (defArgs s_l_whole) (defBody s_l_whole) (defScope s_l_whole) .none kV13 dc13 pm13 an13 cd13 ct13), sl13⟩) (c13 : PySem.W.codeIn K cd13 "_law_whole" = true) (k13 : PySem.W.keepIn K (.ref f13) = true)
    (a14 : PySem.W.nsIn K mainGlobals "_law_words" = some (some (.ref f14)))
    (l14 : K.lookup f14 = some ⟨oc14, od14, .func (PySem.W.fnOf "_law_words" "_law_words" (defArgs s_l_words) (defBody s_l_words) (defScope s_l_words) .none kV14 dc14 pm14 an14 cd14 ct14), sl14⟩) (c14 : PySem.W.codeIn K cd14 "_law_words" = true) (k14 : PySem.W.keepIn K (.ref f14) = true)
    (a15 : PySem.W.nsIn K mainGlobals "steps_of" = some (some (.ref f15)))
    (l15 : K.lookup f15 = some ⟨oc15, od15, .func (PySem.W.fnOf "steps_of" "steps_of" (defArgs s_steps_of) (defBody s_steps_of) (defScope s_steps_of) .none kV15 dc15 pm15 an15 cd15 ct15), sl15⟩) (c15 : PySem.W.codeIn K cd15 "steps_of" = true) (k15 : PySem.W.keepIn K (.ref f15) = true)
    (a16 : PySem.W.nsIn K mainGlobals "steps_by_begin" = some (some (.ref f16)))
    (l16 : K.lookup f16 = some ⟨oc16, od16, .func (PySem.W.fnOf "steps_by_begin" "steps_by_begin" (defArgs s_steps_by_begin) (defBody s_steps_by_begin) (defScope s_steps_by_begin) .none kV16 dc16 pm16 an16 cd16 ct16), sl16⟩) (c16 : PySem.W.codeIn K cd16 "steps_by_begin" = true) (k16 : PySem.W.keepIn K (.ref f16) = true)
    (a17 : PySem.W.nsIn K mainGlobals "steps_to_places" = some (some (.ref f17)))
    (l17 : K.lookup f17 = some ⟨oc17, od17, .func (PySem.W.fnOf "steps_to_places" "steps_to_places" (defArgs s_steps_to_places) (defBody s_steps_to_places) (defScope s_steps_to_places) .none kV17 dc17 pm17 an17 cd17 ct17), sl17⟩) (c17 : PySem.W.codeIn K cd17 "steps_to_places" = true) (k17 : PySem.W.keepIn K (.ref f17) = true)
    (a18 : PySem.W.nsIn K mainGlobals "members_of" = some (some (.ref f18)))
    (l18 : K.lookup f18 = some ⟨oc18, od18, .func (PySem.W.fnOf "members_of" "members_of" (defArgs s_members_of) (defBody s_members_of) (defScope s_members_of) .none kV18 dc18 pm18 an18 cd18 ct18), sl18⟩) (c18 : PySem.W.codeIn K cd18 "members_of" = true) (k18 : PySem.W.keepIn K (.ref f18) = true)
    (a19 : PySem.W.nsIn K mainGlobals "member_paper" = some (some (.ref f19)))
    (l19 : K.lookup f19 = some ⟨oc19, od19, .func (PySem.W.fnOf "member_paper" "member_paper" (defArgs s_member_paper) (defBody s_member_paper) (defScope s_member_paper) .none kV19 dc19 pm19 an19 cd19 ct19), sl19⟩) (c19 : PySem.W.codeIn K cd19 "member_paper" = true) (k19 : PySem.W.keepIn K (.ref f19) = true)
    (a20 : PySem.W.nsIn K mainGlobals "ties_by_name" = some (some (.ref f20)))
    (l20 : K.lookup f20 = some ⟨oc20, od20, .func (PySem.W.fnOf "ties_by_name" "ties_by_name" (defArgs s_ties_by_name) (defBody s_ties_by_name) (defScope s_ties_by_name) .none kV20 dc20 pm20 an20 cd20 ct20), sl20⟩) (c20 : PySem.W.codeIn K cd20 "ties_by_name" = true) (k20 : PySem.W.keepIn K (.ref f20) = true)
    (a21 : PySem.W.nsIn K mainGlobals "walk_cost" = some (some (.ref f21)))
    (l21 : K.lookup f21 = some ⟨oc21, od21, .func (PySem.W.fnOf "walk_cost" "walk_cost" (defArgs s_walk_cost) (defBody s_walk_cost) (defScope s_walk_cost) .none kV21 dc21 pm21 an21 cd21 ct21), sl21⟩) (c21 : PySem.W.codeIn K cd21 "walk_cost" = true) (k21 : PySem.W.keepIn K (.ref f21) = true)
    (a22 : PySem.W.nsIn K mainGlobals "is_lower" = some (some (.ref f22)))
    (l22 : K.lookup f22 = some ⟨oc22, od22, .func (PySem.W.fnOf "is_lower" "is_lower" (defArgs s_is_lower) (defBody s_is_lower) (defScope s_is_lower) .none kV22 dc22 pm22 an22 cd22 ct22), sl22⟩) (c22 : PySem.W.codeIn K cd22 "is_lower" = true) (k22 : PySem.W.keepIn K (.ref f22) = true)
    (a23 : PySem.W.nsIn K mainGlobals "lower_prices" = some (some (.ref f23)))
    (l23 : K.lookup f23 = some ⟨oc23, od23, .func (PySem.W.fnOf "lower_prices" "lower_prices" (defArgs s_lower_prices) (defBody s_lower_prices) (defScope s_lower_prices) .none kV23 dc23 pm23 an23 cd23 ct23), sl23⟩) (c23 : PySem.W.codeIn K cd23 "lower_prices" = true) (k23 : PySem.W.keepIn K (.ref f23) = true)
    (a24 : PySem.W.nsIn K mainGlobals "ring_behind" = some (some (.ref f24)))
    (l24 : K.lookup f24 = some ⟨oc24, od24, .func (PySem.W.fnOf "ring_behind" "ring_behind" (defArgs s_ring_behind) (defBody s_ring_behind) (defScope s_ring_behind) .none kV24 dc24 pm24 an24 cd24 ct24), sl24⟩) (c24 : PySem.W.codeIn K cd24 "ring_behind" = true) (k24 : PySem.W.keepIn K (.ref f24) = true)
    (a25 : PySem.W.nsIn K mainGlobals "walk_behind" = some (some (.ref f25)))
    (l25 : K.lookup f25 = some ⟨oc25, od25, .func (PySem.W.fnOf "walk_behind" "walk_behind" (defArgs s_walk_behind) (defBody s_walk_behind) (defScope s_walk_behind) .none kV25 dc25 pm25 an25 cd25 ct25), sl25⟩) (c25 : PySem.W.codeIn K cd25 "walk_behind" = true) (k25 : PySem.W.keepIn K (.ref f25) = true)
    (a26 : PySem.W.nsIn K mainGlobals "rounds_to_nought" = some (some (.ref f26)))
    (l26 : K.lookup f26 = some ⟨oc26, od26, .func (PySem.W.fnOf "rounds_to_nought" "rounds_to_nought" (defArgs s_rounds_to_nought) (defBody s_rounds_to_nought) (defScope s_rounds_to_nought) .none kV26 dc26 pm26 an26 cd26 ct26), sl26⟩) (c26 : PySem.W.codeIn K cd26 "rounds_to_nought" = true) (k26 : PySem.W.keepIn K (.ref f26) = true)
    (a27 : PySem.W.nsIn K mainGlobals "stretches_by_ring" = some (some (.ref f27)))
    (l27 : K.lookup f27 = some ⟨oc27, od27, .func (PySem.W.fnOf "stretches_by_ring" "stretches_by_ring" (defArgs s_stretches_by_ring) (defBody s_stretches_by_ring) (defScope s_stretches_by_ring) .none kV27 dc27 pm27 an27 cd27 ct27), sl27⟩) (c27 : PySem.W.codeIn K cd27 "stretches_by_ring" = true) (k27 : PySem.W.keepIn K (.ref f27) = true)
    (a28 : PySem.W.nsIn K mainGlobals "find_cost" = some (some (.ref f28)))
    (l28 : K.lookup f28 = some ⟨oc28, od28, .func (PySem.W.fnOf "find_cost" "find_cost" (defArgs s_find_cost) (defBody s_find_cost) (defScope s_find_cost) .none kV28 dc28 pm28 an28 cd28 ct28), sl28⟩) (c28 : PySem.W.codeIn K cd28 "find_cost" = true) (k28 : PySem.W.keepIn K (.ref f28) = true)
    (a29 : PySem.W.nsIn K mainGlobals "find_plain" = some (some (.ref f29)))
    (l29 : K.lookup f29 = some ⟨oc29, od29, .func (PySem.W.fnOf "find_plain" "find_plain" (defArgs s_find_plain) (defBody s_find_plain) (defScope s_find_plain) .none kV29 dc29 pm29 an29 cd29 ct29), sl29⟩) (c29 : PySem.W.codeIn K cd29 "find_plain" = true) (k29 : PySem.W.keepIn K (.ref f29) = true)
    (a30 : PySem.W.nsIn K mainGlobals "_law_cost" = some (some (.ref f30)))
    (l30 : K.lookup f30 = some ⟨oc30, od30, .func (PySem.W.fnOf "_law_cost" "_law_cost" (defArgs s_l_cost) (defBody s_l_cost) (defScope s_l_cost) .none kV30 dc30 pm30 an30 cd30 ct30), sl30⟩) (c30 : PySem.W.codeIn K cd30 "_law_cost" = true) (k30 : PySem.W.keepIn K (.ref f30) = true)
    (a31 : PySem.W.nsIn K mainGlobals "_law_net" = some (some (.ref f31)))
    (l31 : K.lookup f31 = some ⟨oc31, od31, .func (PySem.W.fnOf "_law_net" "_law_net" (defArgs s_l_net) (defBody s_l_net) (defScope s_l_net) .none kV31 dc31 pm31 an31 cd31 ct31), sl31⟩) (c31 : PySem.W.codeIn K cd31 "_law_net" = true) (k31 : PySem.W.keepIn K (.ref f31) = true)
    (a32 : PySem.W.nsIn K mainGlobals "_law_end" = some (some (.ref f32)))
    (l32 : K.lookup f32 = some ⟨oc32, od32, .func (PySem.W.fnOf "_law_end" "_law_end" (defArgs s_l_end) (defBody s_l_end) (defScope s_l_end) .none kV32 dc32 pm32 an32 cd32 ct32), sl32⟩) (c32 : PySem.W.codeIn K cd32 "_law_end" = true) (k32 : PySem.W.keepIn K (.ref f32) = true)
    (a33 : PySem.W.nsIn K mainGlobals "_law_spent" = some (some (.ref f33)))
    (l33 : K.lookup f33 = some ⟨oc33, od33, .func (PySem.W.fnOf "_law_spent" "_law_spent" (defArgs s_l_spent) (defBody s_l_spent) (defScope s_l_spent) .none kV33 dc33 pm33 an33 cd33 ct33), sl33⟩) (c33 : PySem.W.codeIn K cd33 "_law_spent" = true) (k33 : PySem.W.keepIn K (.ref f33) = true)
    (a34 : PySem.W.nsIn K mainGlobals "_law_listed" = some (some (.ref f34)))
    (l34 : K.lookup f34 = some ⟨oc34, od34, .func (PySem.W.fnOf "_law_listed" "_law_listed" (defArgs s_l_listed) (defBody s_l_listed) (defScope s_l_listed) .none kV34 dc34 pm34 an34 cd34 ct34), sl34⟩) (c34 : PySem.W.codeIn K cd34 "_law_listed" = true) (k34 : PySem.W.keepIn K (.ref f34) = true)
    (a35 : PySem.W.nsIn K mainGlobals "_law_verdict" = some (some (.ref f35)))
    (l35 : K.lookup f35 = some ⟨oc35, od35, .func (PySem.W.fnOf "_law_verdict" "_law_verdict" (defArgs s_l_verdict) (defBody s_l_verdict) (defScope s_l_verdict) .none kV35 dc35 pm35 an35 cd35 ct35), sl35⟩) (c35 : PySem.W.codeIn K cd35 "_law_verdict" = true) (k35 : PySem.W.keepIn K (.ref f35) = true)
    (a36 : PySem.W.nsIn K mainGlobals "_law_stretched" = some (some (.ref f36)))
    (l36 : K.lookup f36 = some ⟨oc36, od36, .func (PySem.W.fnOf "_law_stretched" "_law_stretched" (defArgs s_l_stretched) (defBody s_l_stretched) (defScope s_l_stretched) .none kV36 dc36 pm36 an36 cd36 ct36), sl36⟩) (c36 : PySem.W.codeIn K cd36 "_law_stretched" = true) (k36 : PySem.W.keepIn K (.ref f36) = true)
    (a37 : PySem.W.nsIn K mainGlobals "_law_parted" = some (some (.ref f37)))
    (l37 : K.lookup f37 = some ⟨oc37, od37, .func (PySem.W.fnOf "_law_parted" "_law_parted" (defArgs s_l_parted) (defBody s_l_parted) (defScope s_l_parted) .none kV37 dc37 pm37 an37 cd37 ct37), sl37⟩) (c37 : PySem.W.codeIn K cd37 "_law_parted" = true) (k37 : PySem.W.keepIn K (.ref f37) = true)
    (a38 : PySem.W.nsIn K mainGlobals "_law_dear" = some (some (.ref f38)))
    (l38 : K.lookup f38 = some ⟨oc38, od38, .func (PySem.W.fnOf "_law_dear" "_law_dear" (defArgs s_l_dear) (defBody s_l_dear) (defScope s_l_dear) .none kV38 dc38 pm38 an38 cd38 ct38), sl38⟩) (c38 : PySem.W.codeIn K cd38 "_law_dear" = true) (k38 : PySem.W.keepIn K (.ref f38) = true)
    (a39 : PySem.W.nsIn K mainGlobals "_law_asked" = some (some (.ref f39)))
    (l39 : K.lookup f39 = some ⟨oc39, od39, .func (PySem.W.fnOf "_law_asked" "_law_asked" (defArgs s_l_asked) (defBody s_l_asked) (defScope s_l_asked) .none kV39 dc39 pm39 an39 cd39 ct39), sl39⟩) (c39 : PySem.W.codeIn K cd39 "_law_asked" = true) (k39 : PySem.W.keepIn K (.ref f39) = true)
    (aL : PySem.W.nsIn K mainGlobals "law" = some (some (.ref fL))) (lL : K.lookup fL = some ⟨ocL, odL, .func (PySem.W.fnOf "law" "law" (defArgs s_law) (defBody s_law) (defScope s_law) .none kVL dcL pmL anL cdL ctL), slL⟩) (cL : PySem.W.codeIn K cdL "law" = true) (kL : PySem.W.keepIn K (.ref fL) = true)
    (pg : PySem.W.plainGet K C Str.empty = true) (hd : PySem.W.hasDictIn K C = true) (po : PySem.W.plainOver K C = true) (sa : PySem.W.findIn K (.ref C) "__setattr__" = some (some (.builtin "object.__setattr__"))) (mk : PySem.W.makesIn K C = true) (kc : PySem.W.keepIn K (.ref C) = true)
    (nS : PySem.W.findIn K (.ref C) "standing" = some none) (nL : PySem.W.findIn K (.ref C) "laid" = some none)
    (z_all : PySem.W.nsIn K mainGlobals "all" = some none)
    (z_isinstance : PySem.W.nsIn K mainGlobals "isinstance" = some none)
    (z_str : PySem.W.nsIn K mainGlobals "str" = some none)
    (z_int : PySem.W.nsIn K mainGlobals "int" = some none)
    (z_bool : PySem.W.nsIn K mainGlobals "bool" = some none)
    (z_list : PySem.W.nsIn K mainGlobals "list" = some none)
    (z_tuple : PySem.W.nsIn K mainGlobals "tuple" = some none)
    (z_len : PySem.W.nsIn K mainGlobals "len" = some none)
    (z_range : PySem.W.nsIn K mainGlobals "range" = some none)
    (z_abs : PySem.W.nsIn K mainGlobals "abs" = some none)
    (z_dict : PySem.W.nsIn K mainGlobals "dict" = some none)
    (z_sum : PySem.W.nsIn K mainGlobals "sum" = some none)
    (z_set : PySem.W.nsIn K mainGlobals "set" = some none)
    (z_reversed : PySem.W.nsIn K mainGlobals "reversed" = some none)
    (z_max : PySem.W.nsIn K mainGlobals "max" = some none)
    (z_min : PySem.W.nsIn K mainGlobals "min" = some none)
    (gS : PySem.W.nsIn K mainGlobals "SMALL_LETTERS" = some (some vS)) (rS : RelV (.str abc) vS)
    (gN : PySem.W.nsIn K mainGlobals "LONGEST_NAME" = some (some vN)) (rN : RelV (.int 12) vN)
    (gP : PySem.W.nsIn K mainGlobals "MOST_PLACES" = some (some vP)) (rP : RelV (.int 20) vP)
    (gM : PySem.W.nsIn K mainGlobals "MOST_TIES" = some (some vM)) (rM : RelV (.int 40) vM) :
    ∃ fd : FuncData, (∀ (s : Shared) (v : Value), BindsTo s fd ⟨[v], []⟩ [("_law_script", v)]) ∧ ∀ base : Heap, K.In base → base.Ns mainGlobals mg → FnOk l.prog w K mg base CX0 9 fa fd ["_law_script"] (spLaw K) := by
  have e := hfa.symm.trans (PySem.W.mg_of X G aL)
  cases e
  have T : Txt K mg C := { cl := ⟨pg, hd, po, sa⟩, nS := nS, nL := nL, mgC := PySem.W.mg_of X G aC, all := PySem.W.mg_none_of X G z_all, isi := PySem.W.mg_none_of X G z_isinstance, str := PySem.W.mg_none_of X G z_str, int := PySem.W.mg_none_of X G z_int, bool := PySem.W.mg_none_of X G z_bool, list := PySem.W.mg_none_of X G z_list, tuple := PySem.W.mg_none_of X G z_tuple, len := PySem.W.mg_none_of X G z_len, range := PySem.W.mg_none_of X G z_range, abs := PySem.W.mg_none_of X G z_abs, small := ⟨vS, PySem.W.mg_of X G gS, rS⟩, longest := ⟨vN, PySem.W.mg_of X G gN, rN⟩, mostP := ⟨vP, PySem.W.mg_of X G gP, rP⟩, mostT := ⟨vM, PySem.W.mg_of X G gM, rM⟩, kIB := kib1 K }
  have A : All K mg C := { T := T, mks := mk, kc := kc, tw := ⟨PySem.W.mg_none_of X G z_dict, PySem.W.mg_none_of X G z_sum⟩, ts := ⟨PySem.W.mg_none_of X G z_set, PySem.W.mg_none_of X G z_reversed⟩, tm := ⟨PySem.W.mg_none_of X G z_max, PySem.W.mg_none_of X G z_min⟩, made := fn_mk X G a0 l0 c0 k0, name := fn_mk X G a1 l1 c1 k1, whole := fn_mk X G a2 l2 c2 k2, rname := fn_mk X G a3 l3 c3 k3, rwidth := fn_mk X G a4 l4 c4 k4, rmore := fn_mk X G a5 l5 c5 k5, init := mt_mk a6 i6 l6 c6 k6, place := mt_mk a7 i7 l7 c7 k7, tie := mt_mk a8 i8 l8 c8 k8, places := mt_mk a9 i9 l9 c9 k9, ties := mt_mk a10 i10 l10 c10 k10, cell := fn_mk X G a11 l11 c11 k11, mixed := fn_mk X G a12 l12 c12 k12, lwhole := fn_mk X G a13 l13 c13 k13, words := fn_mk X G a14 l14 c14 k14, steps := fn_mk X G a15 l15 c15 k15, byb := fn_mk X G a16 l16 c16 k16, bfs := fn_mk X G a17 l17 c17 k17, members := fn_mk X G a18 l18 c18 k18, mpaper := fn_mk X G a19 l19 c19 k19, byname := fn_mk X G a20 l20 c20 k20, wcost := fn_mk X G a21 l21 c21 k21, islow := fn_mk X G a22 l22 c22 k22, lower := fn_mk X G a23 l23 c23 k23, ringb := fn_mk X G a24 l24 c24 k24, walkb := fn_mk X G a25 l25 c25 k25, nought := fn_mk X G a26 l26 c26 k26, stretch := fn_mk X G a27 l27 c27 k27, fcost := fn_mk X G a28 l28 c28 k28, fplain := fn_mk X G a29 l29 c29 k29, lcost := fn_mk X G a30 l30 c30 k30, lnet := fn_mk X G a31 l31 c31 k31, lend := fn_mk X G a32 l32 c32 k32, spent := fn_mk X G a33 l33 c33 k33, llisted := fn_mk X G a34 l34 c34 k34, verdict := fn_mk X G a35 l35 c35 k35, stretched := fn_mk X G a36 l36 c36 k36, parted := fn_mk X G a37 l37 c37 k37, dear := fn_mk X G a38 l38 c38 k38, asked := fn_mk X G a39 l39 c39 k39 }
  exact ⟨PySem.W.fnOf "law" "law" (defArgs s_law) (defBody s_law) (defScope s_law) .none kVL dcL pmL anL cdL ctL, fun s v => .of_eq rfl, fun base _ _ => law_ok A (fun_mk lL cL kL)⟩
theorem walk {l : PySem.W.OpenLaw} {q : Program} {loose : List Str} {XP : (Str → Option Value) → Heap → Prop} {YP : World → Heap → Prop} {d : DefRec} {K : Params → PySem.W.Frag} (hn : l.most = some 63) (hdf : d.params.defaults = [])
    (hY : ∀ (w : World) (h : Heap), YP w h → (K w.params).In h)
    (F : ∀ (w : World) (mg : Str → Option Value) (fa : Addr) (h : Heap), (K w.params).In h → h.Ns mainGlobals mg → mg d.name = some (.ref fa) →
      ∃ fd : FuncData, (∀ (s : Shared) (u : Value), BindsTo s fd ⟨[u], []⟩ [("_law_script", u)]) ∧ ∀ base : Heap, (K w.params).In base → base.Ns mainGlobals mg → FnOk l.prog w (K w.params) mg base CX0 9 fa fd ["_law_script"] (spLaw (K w.params))) :
    PySem.W.WalkO q loose XP YP l.row.toRowW d [] (fun f vs => PySem.call f vs) :=
  L2.walk_of (n := 63) (k := 9) (x := "_law_script") (CX := fun _ => CX0) (sp := fun w => spLaw (K w.params)) hn (by decide) hdf ⟨rfl, by decide, by decide⟩ hY F (fun _ _ a ns hl _ hS => ⟨a, ns, rfl, hS, hl, fun _ => rfl⟩) fun _ _ _ _ _ z => z
end Net
def PySem.W.Fast.tw16331617572114868123 : Nat := 0
def PySem.W.Fast.tw14700466689889897483 : Nat := 0
def PySem.W.Fast.tw17903507168901240627 : Nat := 0
def PySem.W.Fast.tw6871215548268303240 : Nat := 0
def PySem.W.Fast.tw10410855696501218849 : Nat := 0
def PySem.W.Fast.tw9378726785952497303 : Nat := 0
def PySem.W.Fast.tw5135313667196600655 : Nat := 0
def PySem.W.Fast.tw13677268256929758680 : Nat := 0
def PySem.W.Fast.tw10810153990857234400 : Nat := 0
def PySem.W.Fast.tw15574752207836475425 : Nat := 0
def PySem.W.Fast.tw11115764407067691296 : Nat := 0
def PySem.W.Fast.tw9758558399252369355 : Nat := 0
def PySem.W.Fast.tw7784527322494191477 : Nat := 0
def PySem.W.Fast.tw7155008624012425397 : Nat := 0
def PySem.W.Fast.tw3789542543795177283 : Nat := 0
def PySem.W.Fast.tw7224129757735429706 : Nat := 0
def PySem.W.Fast.tw11156506468910322134 : Nat := 0
def PySem.W.Fast.tw7926279092999507240 : Nat := 0
def PySem.W.Fast.tw5446867036966054756 : Nat := 0
def PySem.W.Fast.tw14144089904286833666 : Nat := 0
def PySem.W.Fast.tw7574795292109026062 : Nat := 0
def PySem.W.Fast.tw3448557555428837075 : Nat := 0
def PySem.W.Fast.tw11452114576684723750 : Nat := 0
def PySem.W.Fast.tw4683218732456128445 : Nat := 0
def PySem.W.Fast.tw14207370557743598862 : Nat := 0
def PySem.W.Fast.tw514980373256924068 : Nat := 0
def PySem.W.Fast.tw11039592066622306542 : Nat := 0
def PySem.W.Fast.tw8873596872467173574 : Nat := 0
def PySem.W.Fast.tw4340653905301299759 : Nat := 0
def PySem.W.Fast.tw6396691165597251428 : Nat := 0
def PySem.W.Fast.tw10995103809598159964 : Nat := 0
def PySem.W.Fast.tw8679790306195505118 : Nat := 0
def PySem.W.Fast.tw1122634883537361740 : Nat := 0
def PySem.W.Fast.tw12920945215908731429 : Nat := 0
def PySem.W.Fast.tw1168011504118411339 : Nat := 0
def PySem.W.Fast.tw12495334503652021141 : Nat := 0
def PySem.W.Fast.tw8907769448508466751 : Nat := 0
def PySem.W.Fast.tw3878518746203417991 : Nat := 0
def PySem.W.Fast.tw12433854725400637367 : Nat := 0
def PySem.W.Fast.tw13626589994239761599 : Nat := 0
def PySem.W.Fast.tw636750869626419752 : Nat := 0
def PySem.W.Fast.tw11839357429367947751 : Nat := 0
def PySem.W.Fast.tw314246884541009884 : Nat := 0
def PySem.W.Fast.tw16404398221525959720 : Nat := 0
def PySem.W.Fast.tw3364919775948194186 : Nat := 0
def PySem.W.Fast.tw11541039882711445034 : Nat := 0
def PySem.W.Fast.tw16342598110516644745 : Nat := 0
def PySem.W.Fast.tw12917599411969671110 : Nat := 0
def PySem.W.Fast.tw9701342365096721653 : Nat := 0
def PySem.W.Fast.tw4434361724052139390 : Nat := 0
def PySem.W.Fast.tw3455565085599896478 : Nat := 0
def PySem.W.Fast.tw16239714927853085688 : Nat := 0
def PySem.W.Fast.tw3432576098641518112 : Nat := 0
def PySem.W.Fast.tw13951440749635133008 : Nat := 0
def PySem.W.Fast.tw1167682191008864859 : Nat := 0
def PySem.W.Fast.tw4172672311624966009 : Nat := 0
def PySem.W.Fast.tw3880583936034912940 : Nat := 0
def PySem.W.Fast.tw4700171486494579381 : Nat := 0
def PySem.W.Fast.tw9295758992466101937 : Nat := 0
def PySem.W.Fast.tw8364724266513867540 : Nat := 0
def PySem.W.Fast.tw1452643606114261446 : Nat := 0
def PySem.W.Fast.tw5980367647607948023 : Nat := 0
def PySem.W.Fast.tw1650198081167069451 : Nat := 0
def PySem.W.Fast.tw9145510142709417366 : Nat := 0
def PySem.W.Fast.tw5508315946251010488 : Nat := 0
def PySem.W.Fast.tw10829130735847113139 : Nat := 0
def PySem.W.Fast.tw8710106129277899433 : Nat := 0
def PySem.W.Fast.tw17559621976346055528 : Nat := 0
def PySem.W.Fast.tw13838617032939773676 : Nat := 0
def PySem.W.Fast.tw18148273543951241786 : Nat := 0
def PySem.W.Fast.tw18172392648455484370 : Nat := 0
def PySem.W.Fast.tw14986523654469462906 : Nat := 0
def PySem.W.Fast.tw1935940485268061355 : Nat := 0
def PySem.W.Fast.tw5987201612460995858 : Nat := 0
def PySem.W.Fast.tw1196571378715309199 : Nat := 0
def PySem.W.Fast.tw10125064186125672884 : Nat := 0
def PySem.W.Fast.tw9020021074643083590 : Nat := 0
def PySem.W.Fast.tw1266634908316560183 : Nat := 0
def PySem.W.Fast.tw12296371147962040542 : Nat := 0
def PySem.W.Fast.tw7120599974996842622 : Nat := 0
def PySem.W.Fast.tw1369689202547480225 : Nat := 0
def PySem.W.Fast.tw1505432720220293489 : Nat := 0
def PySem.W.Fast.tw16960772448506811044 : Nat := 0
def PySem.W.Fast.tw16382299118086319252 : Nat := 0
def PySem.W.Fast.tw13054606611969293205 : Nat := 0
def PySem.W.Fast.tw3116427476464686710 : Nat := 0
def PySem.W.Fast.tw10714162835503523012 : Nat := 0
def PySem.W.Fast.tw8881020617648531120 : Nat := 0
def PySem.W.Fast.tw17278017022085740304 : Nat := 0
def PySem.W.Fast.tw12428560777874256682 : Nat := 0
def PySem.W.Fast.tw14993570252499873573 : Nat := 0
def PySem.W.Fast.tw15688710157008888685 : Nat := 0
def PySem.W.Fast.tw9200097092684996568 : Nat := 0
def PySem.W.Fast.tw16754830202077949010 : Nat := 0
def PySem.W.Fast.tw5984449561935926889 : Nat := 0
def PySem.W.Fast.tw2985867839620799832 : Nat := 0
def PySem.W.Fast.tw326921527949560884 : Nat := 0
def PySem.W.Fast.tw13167331714054901792 : Nat := 0
def PySem.W.Fast.tw14401830583534041548 : Nat := 0
def PySem.W.Fast.tw8682961523271216988 : Nat := 0
def PySem.W.Fast.tw12437737486196809034 : Nat := 0
def PySem.W.Fast.tw14511622361729829967 : Nat := 0
def PySem.W.Fast.tw3734884914766383990 : Nat := 0
def PySem.W.Fast.tw13176385943401579151 : Nat := 0
def PySem.W.Fast.tw1863137522841916840 : Nat := 0
def PySem.W.Fast.tw206635648327836570 : Nat := 0
def PySem.W.Fast.tw14049528325023585887 : Nat := 0
def PySem.W.Fast.tw15528902759923922113 : Nat := 0
def PySem.W.Fast.tw5323839621591805830 : Nat := 0
def PySem.W.Fast.tw9468659002285680993 : Nat := 0
def PySem.W.Fast.tw849296987392825738 : Nat := 0
def PySem.W.Fast.tw14480663080591005625 : Nat := 0
def PySem.W.Fast.tw1907802018697810689 : Nat := 0
def PySem.W.Fast.tw16326949793935341949 : Nat := 0
def PySem.W.Fast.tw6471637634141608059 : Nat := 0
def PySem.W.Fast.tw17509961038042501393 : Nat := 0
def PySem.W.Fast.tw7169239604687814503 : Nat := 0
def PySem.W.Fast.tw14085854380605032490 : Nat := 0
def PySem.W.Fast.tw441230242709324017 : Nat := 0
def PySem.W.Fast.tw47585913933212733 : Nat := 0
def PySem.W.Fast.tw7877306278358705265 : Nat := 0
def PySem.W.Fast.tw1861581937001665916 : Nat := 0
def PySem.W.Fast.tw18252716252192973153 : Nat := 0
def PySem.W.Fast.tw14908614177865384304 : Nat := 0
def PySem.W.Fast.tw11224769405120673830 : Nat := 0
def PySem.W.Fast.tw16885883543039725215 : Nat := 0
def PySem.W.Fast.tw10232286932861717903 : Nat := 0
def PySem.W.Fast.tw9518733176201567313 : Nat := 0
def PySem.W.Fast.tw12596356703825717781 : Nat := 0
def PySem.W.Fast.tw16570718224025460107 : Nat := 0
def PySem.W.Fast.tw6320669870663713952 : Nat := 0
def PySem.W.Fast.tw16543428865186322624 : Nat := 0
def PySem.W.Fast.tw7190825137461159226 : Nat := 0
def PySem.W.Fast.tw598828718250956792 : Nat := 0
def PySem.W.Fast.tw17925086082606466711 : Nat := 0
def PySem.W.Fast.tw17609315318463267503 : Nat := 0
def PySem.W.Fast.tw7054493803704662650 : Nat := 0
def PySem.W.Fast.tw17879066466478356373 : Nat := 0
def PySem.W.Fast.tw3196318027697604509 : Nat := 0
def PySem.W.Fast.tw15373288120799266849 : Nat := 0
def PySem.W.Fast.tw13778579296124010587 : Nat := 0
def PySem.W.Fast.tw343764662902837169 : Nat := 0
def PySem.W.Fast.tw7184978800498069611 : Nat := 0
def PySem.W.Fast.tw18278672774888092361 : Nat := 0
def PySem.W.Fast.tw12063234772864156626 : Nat := 0
def PySem.W.Fast.tw7157201127609614084 : Nat := 0
def PySem.W.Fast.tw5682429022890610236 : Nat := 0
def PySem.W.Fast.tw2884926728130519380 : Nat := 0
def PySem.W.Fast.tw5641340609159903119 : Nat := 0
def PySem.W.Fast.tw14841739370584388692 : Nat := 0
def PySem.W.Fast.tw14869132878296143348 : Nat := 0
def PySem.W.Fast.tw362689614437230179 : Nat := 0
def PySem.W.Fast.tw8027161049429024624 : Nat := 0
def PySem.W.Fast.tw17334033618308463053 : Nat := 0
def PySem.W.Fast.tw9166306311395853913 : Nat := 0
def PySem.W.Fast.tw9928451540968117623 : Nat := 0
def PySem.W.Fast.tw10889231499835710162 : Nat := 0
def PySem.W.Fast.tw3498726638663179574 : Nat := 0
def PySem.W.Fast.tw13548087743579773270 : Nat := 0
def PySem.W.Fast.tw12510593385652950103 : Nat := 0
def PySem.W.Fast.tw15683986427341502245 : Nat := 0
def PySem.W.Fast.tw6132017679206745348 : Nat := 0
def PySem.W.Fast.tw11776661685816490293 : Nat := 0
def PySem.W.Fast.tw8620749810960379177 : Nat := 0
def PySem.W.Fast.tw13396858009029890569 : Nat := 0
def PySem.W.Fast.tw16292103002622858314 : Nat := 0
def PySem.W.Fast.tw5454195827175763401 : Nat := 0
def PySem.W.Fast.tw11718896840612840311 : Nat := 0
def PySem.W.Fast.tw7604024119424601280 : Nat := 0
def PySem.W.Fast.tw3425991758446044565 : Nat := 0
def PySem.W.Fast.tw10168841931314912150 : Nat := 0
def PySem.W.Fast.tw7628371051442132305 : Nat := 0
def PySem.W.Fast.tw17411337071019069188 : Nat := 0
def PySem.W.Fast.tw11609253201703914603 : Nat := 0
def PySem.W.Fast.tw3833237690168836377 : Nat := 0
def PySem.W.Fast.tw7981919274043468727 : Nat := 0
def PySem.W.Fast.tw7642604013590326969 : Nat := 0
def PySem.W.Fast.tw15271172968871422177 : Nat := 0
def PySem.W.Fast.tw3943680562350180808 : Nat := 0
def PySem.W.Fast.tw9355555933945470122 : Nat := 0
def PySem.W.Fast.tw1881918251391482224 : Nat := 0
def PySem.W.Fast.tw16156408957850636931 : Nat := 0
def PySem.W.Fast.tw17318641883050143506 : Nat := 0
def PySem.W.Fast.tw13405762820500909224 : Nat := 0
def PySem.W.Fast.tw2392341185804374409 : Nat := 0
def PySem.W.Fast.tw18188181192157897676 : Nat := 0
def PySem.W.Fast.tw4925639526742107841 : Nat := 0
def PySem.W.Fast.tw14452431913248486403 : Nat := 0
def PySem.W.Fast.tw7135895292547954410 : Nat := 0
def PySem.W.Fast.tw15165463677173470466 : Nat := 0
def PySem.W.Fast.tw18292465647839716579 : Nat := 0
def PySem.W.Fast.tw8058683868842392837 : Nat := 0
def PySem.W.Fast.tw16835968042618043639 : Nat := 0
def PySem.W.Fast.tw1484488934885028771 : Nat := 0
def PySem.W.Fast.tw1840715872211295957 : Nat := 0
def PySem.W.Fast.tw12902066469736641993 : Nat := 0
def PySem.W.Fast.tw4016599082524465776 : Nat := 0
def PySem.W.Fast.tw14507094436671780810 : Nat := 0
def PySem.W.Fast.tw14418788455974700429 : Nat := 0
def PySem.W.Fast.tw6756124338111735887 : Nat := 0
def PySem.W.Fast.tw9567313324037975465 : Nat := 0
def PySem.W.Fast.tw15437200354537398131 : Nat := 0
def PySem.W.Fast.tw13249355839166387939 : Nat := 0
def PySem.W.Fast.tw13555845991876402276 : Nat := 0
def PySem.W.Fast.tw1824618534222639376 : Nat := 0
def PySem.W.Fast.tw4064173943795081259 : Nat := 0
def PySem.W.Fast.tw796339696905209640 : Nat := 0
def PySem.W.Fast.tw10389294883836139561 : Nat := 0
def PySem.W.Fast.tw16426755814580207883 : Nat := 0
def PySem.W.Fast.tw1647171222365112296 : Nat := 0
def PySem.W.Fast.tw5254188980603787224 : Nat := 0
def PySem.W.Fast.tw12362600379268307706 : Nat := 0
def PySem.W.Fast.tw7274605330434555435 : Nat := 0
def PySem.W.Fast.tw5025001648664204749 : Nat := 0
def PySem.W.Fast.tw15957886328051185302 : Nat := 0
def PySem.W.Fast.tw15772325576071624956 : Nat := 0
def PySem.W.Fast.tw11286815354865723093 : Nat := 0
def PySem.W.Fast.tw14303004116992600911 : Nat := 0
def PySem.W.Fast.tw18355570395942725756 : Nat := 0
def PySem.W.Fast.tw3075201292846909990 : Nat := 0
def PySem.W.Fast.tw17582899697600016253 : Nat := 0
def PySem.W.Fast.tw2109777446946874522 : Nat := 0
def PySem.W.Fast.tw11456848911500324862 : Nat := 0
def PySem.W.Fast.tw1317808270743996687 : Nat := 0
def PySem.W.Fast.tw16621765559660381077 : Nat := 0
def PySem.W.Fast.tw13333901978242918309 : Nat := 0
def PySem.W.Fast.tw9519676191755599772 : Nat := 0
def PySem.W.Fast.tw3688097368236418194 : Nat := 0
def PySem.W.Fast.tw16638689745661787281 : Nat := 0
def PySem.W.Fast.tw11630285893568540429 : Nat := 0
def PySem.W.Fast.tw7365844010161143311 : Nat := 0
def PySem.W.Fast.tw16192231799505895640 : Nat := 0
def PySem.W.Fast.tw3495654069347785343 : Nat := 0
def PySem.W.Fast.tw1614032940343129059 : Nat := 0
def PySem.W.Fast.tw12600251168294483195 : Nat := 0
def PySem.W.Fast.tw1809406270361414517 : Nat := 0
def PySem.W.Fast.tw14878715190146249304 : Nat := 0
def PySem.W.Fast.tw9830491462215364902 : Nat := 0
def PySem.W.Fast.tw17625371646038043895 : Nat := 0
def PySem.W.Fast.tw2692578228823127657 : Nat := 0
def PySem.W.Fast.tw14596173343858858935 : Nat := 0
def PySem.W.Fast.tw12114307054048531428 : Nat := 0
def PySem.W.Fast.tw10349464689864479255 : Nat := 0
def PySem.W.Fast.tw12614104217450059021 : Nat := 0
def PySem.W.Fast.tw8629231000441476531 : Nat := 0
def PySem.W.Fast.tw8279156770275901820 : Nat := 0
def PySem.W.Fast.tw14012793016468948650 : Nat := 0
def PySem.W.Fast.tw2300117905563915378 : Nat := 0
def PySem.W.Fast.tw15752411804346948628 : Nat := 0
def PySem.W.Fast.tw10790132110788325834 : Nat := 0
def PySem.W.Fast.tw14793516127324460452 : Nat := 0
def PySem.W.Fast.tw6343499327751577563 : Nat := 0
def PySem.W.Fast.tw6491428463729427707 : Nat := 0
def PySem.W.Fast.tw1616723162889895560 : Nat := 0
def PySem.W.Fast.tw7744084461915044984 : Nat := 0
def PySem.W.Fast.tw4250941431181383470 : Nat := 0
def PySem.W.Fast.tw11113233267653728041 : Nat := 0
def PySem.W.Fast.tw10784573564431012340 : Nat := 0
def PySem.W.Fast.tw16152067204189050637 : Nat := 0
def PySem.W.Fast.tw15070007034670261620 : Nat := 0
def PySem.W.Fast.tw16022212019330898242 : Nat := 0
def PySem.W.Fast.tw2381179885754060210 : Nat := 0
def PySem.W.Fast.tw1195303708585506556 : Nat := 0
def PySem.W.Fast.tw414550753017646369 : Nat := 0
def PySem.W.Fast.tw15476096678764175039 : Nat := 0
def PySem.W.Fast.tw15134496467816412063 : Nat := 0
def PySem.W.Fast.tw11058844409971848688 : Nat := 0
def PySem.W.Fast.tw17643779816803732168 : Nat := 0
def PySem.W.Fast.tw16464951697900298816 : Nat := 0
def PySem.W.Fast.tw5216473188478615842 : Nat := 0
def PySem.W.Fast.tw17528247434761533379 : Nat := 0
def PySem.W.Fast.tw13487168638482625196 : Nat := 0
def PySem.W.Fast.tw17302785036616758852 : Nat := 0
def PySem.W.Fast.tw11880332196853696905 : Nat := 0
def PySem.W.Fast.tw17419515685631582608 : Nat := 0
def PySem.W.Fast.tw10697541855069021782 : Nat := 0
def PySem.W.Fast.tw10806909357896214958 : Nat := 0
def PySem.W.Fast.tw4132138904402983786 : Nat := 0
def PySem.W.Fast.tw7325122315531394895 : Nat := 0
def PySem.W.Fast.tw11065308312239014237 : Nat := 0
def PySem.W.Fast.tw10081256104190910489 : Nat := 0
def PySem.W.Fast.tw11494488290031411634 : Nat := 0
def PySem.W.Fast.tw8331072514263563104 : Nat := 0
def PySem.W.Fast.tw12347677619118869958 : Nat := 0
def PySem.W.Fast.tw14309360445842277781 : Nat := 0
def PySem.W.Fast.tw14881190425384139412 : Nat := 0
def PySem.W.Fast.tw3244230449560653483 : Nat := 0
def PySem.W.Fast.tw13528714662079399955 : Nat := 0
def PySem.W.Fast.tw5926100382532451505 : Nat := 0
def PySem.W.Fast.tw1882463626976241882 : Nat := 0
def PySem.W.Fast.tw1213458524512831569 : Nat := 0
def PySem.W.Fast.tw10260075747717503042 : Nat := 0
def PySem.W.Fast.tw2770518607694539783 : Nat := 0
def PySem.W.Fast.tw491225251740780522 : Nat := 0
def PySem.W.Fast.tw1163094573073561087 : Nat := 0
def PySem.W.Fast.tw10484081842505115324 : Nat := 0
def PySem.W.Fast.tw17666766864815748265 : Nat := 0
def PySem.W.Fast.tw4793468154794273230 : Nat := 0
def PySem.W.Fast.tw13966360147119758045 : Nat := 0
def PySem.W.Fast.tw2273427925230273455 : Nat := 0
def PySem.W.Fast.tw3905915668952551412 : Nat := 0
def PySem.W.Fast.tw4905521020658246826 : Nat := 0
def PySem.W.Fast.tw1661243800232542988 : Nat := 0
def PySem.W.Fast.tw3175285160144683288 : Nat := 0
def PySem.W.Fast.tw13086268505156494210 : Nat := 0
def PySem.W.Fast.tw15490396837254065237 : Nat := 0
def PySem.W.Fast.tw8868606613636765908 : Nat := 0
def PySem.W.Fast.tw5296884813995738980 : Nat := 0
def PySem.W.Fast.tw411862084161454815 : Nat := 0
def PySem.W.Fast.tw3332203100465136929 : Nat := 0
def PySem.W.Fast.tw15847925844435654944 : Nat := 0
def PySem.W.Fast.tw2537191050154475823 : Nat := 0
def PySem.W.Fast.tw7053210031293888783 : Nat := 0
def PySem.W.Fast.tw509774759587523343 : Nat := 0
def PySem.W.Fast.tw15406463238497988559 : Nat := 0
def PySem.W.Fast.tw17118031826044952999 : Nat := 0
def PySem.W.Fast.tw5823152750304075009 : Nat := 0
def PySem.W.Fast.tw8507539441918324388 : Nat := 0
def PySem.W.Fast.tw2408969928197310633 : Nat := 0
def PySem.W.Fast.tw12709748768619958220 : Nat := 0
def PySem.W.Fast.tw3516515020379173130 : Nat := 0
def PySem.W.Fast.tw10452013787728636042 : Nat := 0
def PySem.W.Fast.tw11497070054195131881 : Nat := 0
def PySem.W.Fast.tw13701272080467640457 : Nat := 0
def PySem.W.Fast.tw17225640684060297923 : Nat := 0
def PySem.W.Fast.tw12068555661919565142 : Nat := 0
def PySem.W.Fast.tw16154676822542105 : Nat := 0
def PySem.W.Fast.tw14647252308666828252 : Nat := 0
def PySem.W.Fast.tw17135757361006073282 : Nat := 0
def PySem.W.Fast.tw13501498289589911366 : Nat := 0
def PySem.W.Fast.tw10175725308902443449 : Nat := 0
def PySem.W.Fast.tw13969208374595083703 : Nat := 0
def PySem.W.Fast.tw7474305222960535888 : Nat := 0
def PySem.W.Fast.tw16165935145848763268 : Nat := 0
def PySem.W.Fast.tw2246830185730187411 : Nat := 0
def PySem.W.Fast.tw13503204301660547716 : Nat := 0
def PySem.W.Fast.tw7632933766076667987 : Nat := 0
def PySem.W.Fast.tw7007694607666194274 : Nat := 0
def PySem.W.Fast.tw15745130277673876929 : Nat := 0
def PySem.W.Fast.tw4994396602348904342 : Nat := 0
def PySem.W.Fast.tw5774165194840167452 : Nat := 0
def PySem.W.Fast.tw6407238321079633361 : Nat := 0
def PySem.W.Fast.tw17143416110658608660 : Nat := 0
def PySem.W.Fast.tw13279539575772680592 : Nat := 0
def PySem.W.Fast.tw4269164191470979241 : Nat := 0
def PySem.W.Fast.tw4339848074550976104 : Nat := 0
def PySem.W.Fast.tw8122663672272835633 : Nat := 0
def PySem.W.Fast.tw8994782651858307926 : Nat := 0
def PySem.W.Fast.tw15576817050936846126 : Nat := 0
def PySem.W.Fast.tw648307792970301625 : Nat := 0
def PySem.W.Fast.tw1026436212265456332 : Nat := 0
def PySem.W.Fast.tw4384503367955216677 : Nat := 0
def PySem.W.Fast.tw14989156236170732640 : Nat := 0
def PySem.W.Fast.tw4024724214734708968 : Nat := 0
def PySem.W.Fast.tw2159809865224086251 : Nat := 0
def PySem.W.Fast.tw3639613640084284932 : Nat := 0
def PySem.W.Fast.tw4810189782227727928 : Nat := 0
def PySem.W.Fast.tw9626874676069087889 : Nat := 0
def PySem.W.Fast.tw786916136495454592 : Nat := 0
def PySem.W.Fast.tw6830075407640298858 : Nat := 0
def PySem.W.Fast.tw7191225523501707593 : Nat := 0
def PySem.W.Fast.tw2324946263889414126 : Nat := 0
def PySem.W.Fast.tw16682941250564836219 : Nat := 0
def PySem.W.Fast.tw11125466327318768904 : Nat := 0
def PySem.W.Fast.tw10807767831790385403 : Nat := 0
def PySem.W.Fast.tw12112208018499728448 : Nat := 0
def PySem.W.Fast.tw4080917595315251662 : Nat := 0
def PySem.W.Fast.tw17773265991368889033 : Nat := 0
def PySem.W.Fast.tw6215749364655069739 : Nat := 0
def PySem.W.Fast.tw696334199404479320 : Nat := 0
def PySem.W.Fast.tw13045314197062522153 : Nat := 0
def PySem.W.Fast.tw4652120917381170994 : Nat := 0
def PySem.W.Fast.tw1296537970870755672 : Nat := 0
def PySem.W.Fast.tw14649168201397129114 : Nat := 0
def PySem.W.Fast.tw11650693196449648784 : Nat := 0
def PySem.W.Fast.tw13181576964608783340 : Nat := 0
def PySem.W.Fast.tw10404674947391317069 : Nat := 0
def PySem.W.Fast.tw43100697774701364 : Nat := 0
def PySem.W.Fast.tw13072509710279553479 : Nat := 0
def PySem.W.Fast.tw14918654618362793700 : Nat := 0
def PySem.W.Fast.tw5806649257342784842 : Nat := 0
def PySem.W.Fast.tw16140417074739994727 : Nat := 0
def PySem.W.Fast.tw9719229004026608500 : Nat := 0
def PySem.W.Fast.tw14194317764391329275 : Nat := 0
def PySem.W.Fast.tw3889339480518830845 : Nat := 0
def PySem.W.Fast.tw12339486248325546777 : Nat := 0
def PySem.W.Fast.tw2199319549344301934 : Nat := 0
def PySem.W.Fast.tw8030233491725547094 : Nat := 0
def PySem.W.Fast.tw254009802985203040 : Nat := 0
def PySem.W.Fast.tw4253633658308604575 : Nat := 0
def PySem.W.Fast.tw11523746139000529513 : Nat := 0
def PySem.W.Fast.tw8825473070076259536 : Nat := 0
def PySem.W.Fast.tw13501851682992712833 : Nat := 0
def PySem.W.Fast.tw8002053287222754439 : Nat := 0
def PySem.W.Fast.tw9364634595721417759 : Nat := 0
def PySem.W.Fast.tw6782654984701022433 : Nat := 0
def PySem.W.Fast.tw11204852024011272240 : Nat := 0
def PySem.W.Fast.tw2654290232378557690 : Nat := 0
def PySem.W.Fast.tw1626900431707180216 : Nat := 0
def PySem.W.Fast.tw5329747259804583651 : Nat := 0
def PySem.W.Fast.tw5771594127802589557 : Nat := 0
def PySem.W.Fast.tw11636760356625019291 : Nat := 0
def PySem.W.Fast.tw11961785387095358296 : Nat := 0
def PySem.W.Fast.tw7120834905993527604 : Nat := 0
def PySem.W.Fast.tw9941180453480957006 : Nat := 0
def PySem.W.Fast.tw2539592764065017008 : Nat := 0
def PySem.W.Fast.tw17117394044888171674 : Nat := 0
def PySem.W.Fast.tw15348722082888863760 : Nat := 0
def PySem.W.Fast.tw18146309752984484288 : Nat := 0
def PySem.W.Fast.tw14893267406218478287 : Nat := 0
def PySem.W.Fast.tw2082452848999343497 : Nat := 0
def PySem.W.Fast.tw8715604007782984141 : Nat := 0
def PySem.W.Fast.tw15883873005990882572 : Nat := 0
def PySem.W.Fast.tw12037261688666469098 : Nat := 0
def PySem.W.Fast.tw3139267205361221905 : Nat := 0

open PySem PySem.W PyProof.Rows
set_option maxRecDepth 100000 in
set_option maxHeartbeats 0 in
theorem PySem.Challenge.cw_netcourt_k43_costs_found_holds : PySem.Challenge.rw_netcourt_k43_costs_found.Holds := by
  w_on; o_law; k_head; (case hw => w_witness2)
  k_fill
  first | refine Net.walk (l := PySem.Challenge.rw_netcourt_k43_costs_found) rfl rfl (fun w h Y => PySem.W.kIn_of Y) ?F | refine Net.walk (l := PySem.Challenge.rw_netcourt_k43_costs_found) rfl rfl (fun w h Y => PySem.W.km_in_of Y) ?F
  case F =>
    intro w mg fa h KX G hmg
    refine' Net.all_mk KX G hmg ?aC ?a0 ?l0 ?c0 ?k0 ?a1 ?l1 ?c1 ?k1 ?a2 ?l2 ?c2 ?k2 ?a3 ?l3 ?c3 ?k3 ?a4 ?l4 ?c4 ?k4 ?a5 ?l5 ?c5 ?k5 ?a6 ?i6 ?l6 ?c6 ?k6 ?a7 ?i7 ?l7 ?c7 ?k7 ?a8 ?i8 ?l8 ?c8 ?k8 ?a9 ?i9 ?l9 ?c9 ?k9 ?a10 ?i10 ?l10 ?c10 ?k10 ?a11 ?l11 ?c11 ?k11 ?a12 ?l12 ?c12 ?k12 ?a13 ?l13 ?c13 ?k13 ?a14 ?l14 ?c14 ?k14 ?a15 ?l15 ?c15 ?k15 ?a16 ?l16 ?c16 ?k16 ?a17 ?l17 ?c17 ?k17 ?a18 ?l18 ?c18 ?k18 ?a19 ?l19 ?c19 ?k19 ?a20 ?l20 ?c20 ?k20 ?a21 ?l21 ?c21 ?k21 ?a22 ?l22 ?c22 ?k22 ?a23 ?l23 ?c23 ?k23 ?a24 ?l24 ?c24 ?k24 ?a25 ?l25 ?c25 ?k25 ?a26 ?l26 ?c26 ?k26 ?a27 ?l27 ?c27 ?k27 ?a28 ?l28 ?c28 ?k28 ?a29 ?l29 ?c29 ?k29 ?a30 ?l30 ?c30 ?k30 ?a31 ?l31 ?c31 ?k31 ?a32 ?l32 ?c32 ?k32 ?a33 ?l33 ?c33 ?k33 ?a34 ?l34 ?c34 ?k34 ?a35 ?l35 ?c35 ?k35 ?a36 ?l36 ?c36 ?k36 ?a37 ?l37 ?c37 ?k37 ?a38 ?l38 ?c38 ?k38 ?a39 ?l39 ?c39 ?k39 ?aL ?lL ?cL ?kL ?pg ?hd ?po ?sa ?mk ?kc ?nS ?nL ?z_all ?z_isinstance ?z_str ?z_int ?z_bool ?z_list ?z_tuple ?z_len ?z_range ?z_abs ?z_dict ?z_sum ?z_set ?z_reversed ?z_max ?z_min ?gS ?rS ?gN ?rN ?gP ?rP ?gM ?rM
    (case aC => k_is)
    (case a0 => k_is)
    (case l0 => k_is)
    (case c0 => k_is)
    (case k0 => k_is)
    (case a1 => k_is)
    (case l1 => k_is)
    (case c1 => k_is)
    (case k1 => k_is)
    (case a2 => k_is)
    (case l2 => k_is)
    (case c2 => k_is)
    (case k2 => k_is)
    (case a3 => k_is)
    (case l3 => k_is)
    (case c3 => k_is)
    (case k3 => k_is)
    (case a4 => k_is)
    (case l4 => k_is)
    (case c4 => k_is)
    (case k4 => k_is)
    (case a5 => k_is)
    (case l5 => k_is)
    (case c5 => k_is)
    (case k5 => k_is)
    (case a6 => k_is)
    (case i6 => k_is)
    (case l6 => k_is)
    (case c6 => k_is)
    (case k6 => k_is)
    (case a7 => k_is)
    (case i7 => k_is)
    (case l7 => k_is)
    (case c7 => k_is)
    (case k7 => k_is)
    (case a8 => k_is)
    (case i8 => k_is)
    (case l8 => k_is)
    (case c8 => k_is)
    (case k8 => k_is)
    (case a9 => k_is)
    (case i9 => k_is)
    (case l9 => k_is)
    (case c9 => k_is)
    (case k9 => k_is)
    (case a10 => k_is)
    (case i10 => k_is)
    (case l10 => k_is)
    (case c10 => k_is)
    (case k10 => k_is)
    (case a11 => k_is)
    (case l11 => k_is)
    (case c11 => k_is)
    (case k11 => k_is)
    (case a12 => k_is)
    (case l12 => k_is)
    (case c12 => k_is)
    (case k12 => k_is)
    (case a13 => k_is)
    (case l13 => k_is)
    (case c13 => k_is)
    (case k13 => k_is)
    (case a14 => k_is)
    (case l14 => k_is)
    (case c14 => k_is)
    (case k14 => k_is)
    (case a15 => k_is)
    (case l15 => k_is)
    (case c15 => k_is)
    (case k15 => k_is)
    (case a16 => k_is)
    (case l16 => k_is)
    (case c16 => k_is)
    (case k16 => k_is)
    (case a17 => k_is)
    (case l17 => k_is)
    (case c17 => k_is)
    (case k17 => k_is)
    (case a18 => k_is)
    (case l18 => k_is)
    (case c18 => k_is)
    (case k18 => k_is)
    (case a19 => k_is)
    (case l19 => k_is)
    (case c19 => k_is)
    (case k19 => k_is)
    (case a20 => k_is)
    (case l20 => k_is)
    (case c20 => k_is)
    (case k20 => k_is)
    (case a21 => k_is)
    (case l21 => k_is)
    (case c21 => k_is)
    (case k21 => k_is)
    (case a22 => k_is)
    (case l22 => k_is)
    (case c22 => k_is)
    (case k22 => k_is)
    (case a23 => k_is)
    (case l23 => k_is)
    (case c23 => k_is)
    (case k23 => k_is)
    (case a24 => k_is)
    (case l24 => k_is)
    (case c24 => k_is)
    (case k24 => k_is)
    (case a25 => k_is)
    (case l25 => k_is)
    (case c25 => k_is)
    (case k25 => k_is)
    (case a26 => k_is)
    (case l26 => k_is)
    (case c26 => k_is)
    (case k26 => k_is)
    (case a27 => k_is)
    (case l27 => k_is)
    (case c27 => k_is)
    (case k27 => k_is)
    (case a28 => k_is)
    (case l28 => k_is)
    (case c28 => k_is)
    (case k28 => k_is)
    (case a29 => k_is)
    (case l29 => k_is)
    (case c29 => k_is)
    (case k29 => k_is)
    (case a30 => k_is)
    (case l30 => k_is)
    (case c30 => k_is)
    (case k30 => k_is)
    (case a31 => k_is)
    (case l31 => k_is)
    (case c31 => k_is)
    (case k31 => k_is)
    (case a32 => k_is)
    (case l32 => k_is)
    (case c32 => k_is)
    (case k32 => k_is)
    (case a33 => k_is)
    (case l33 => k_is)
    (case c33 => k_is)
    (case k33 => k_is)
    (case a34 => k_is)
    (case l34 => k_is)
    (case c34 => k_is)
    (case k34 => k_is)
    (case a35 => k_is)
    (case l35 => k_is)
    (case c35 => k_is)
    (case k35 => k_is)
    (case a36 => k_is)
    (case l36 => k_is)
    (case c36 => k_is)
    (case k36 => k_is)
    (case a37 => k_is)
    (case l37 => k_is)
    (case c37 => k_is)
    (case k37 => k_is)
    (case a38 => k_is)
    (case l38 => k_is)
    (case c38 => k_is)
    (case k38 => k_is)
    (case a39 => k_is)
    (case l39 => k_is)
    (case c39 => k_is)
    (case k39 => k_is)
    (case aL => k_is)
    (case lL => k_is)
    (case cL => k_is)
    (case kL => k_is)
    (case pg => k_is)
    (case hd => k_is)
    (case po => k_is)
    (case sa => k_is)
    (case mk => k_is)
    (case kc => k_is)
    (case nS => k_is)
    (case nL => k_is)
    (case z_all => k_is)
    (case z_isinstance => k_is)
    (case z_str => k_is)
    (case z_int => k_is)
    (case z_bool => k_is)
    (case z_list => k_is)
    (case z_tuple => k_is)
    (case z_len => k_is)
    (case z_range => k_is)
    (case z_abs => k_is)
    (case z_dict => k_is)
    (case z_sum => k_is)
    (case z_set => k_is)
    (case z_reversed => k_is)
    (case z_max => k_is)
    (case z_min => k_is)
    (case gS => k_is)
    (case rS => exact ⟨_, rfl⟩)
    (case gN => k_is)
    (case rN => exact ⟨_, rfl⟩)
    (case gP => k_is)
    (case rP => exact ⟨_, rfl⟩)
    (case gM => k_is)
    (case rM => exact ⟨_, rfl⟩)
