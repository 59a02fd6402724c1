import PyProof.Rows.All
import Wide.All
import OpenK.AllK
import Wide.FinOn
import Lean
import PyProof.EqAt
import PyProof.EqKinds
import PyProof.TupleCall
import PySem.Challenge.RW_netcourt_k71_strangers_and_variables
set_option Elab.async false
set_option linter.all false
set_option maxRecDepth 100000
/-! THE HAND LAYER, for ints, bools, texts, own classes, DICTS (int and text keys), calls, loops. Paste it whole ahead of your own text; what your proof does not reach may be deleted. -/
namespace L2
open PySem PySem.Spec PyProof.Rows

/-- a key: an int or a str -/
abbrev Key := Sum Int Str
def keyIs : Key → Value → Bool
  | .inl k, v => Value.isInt k v
  | .inr x, v => Value.isStrOf x v
def keyH (w : World) : Key → Int
  | .inl k => hashInt k
  | .inr x => hashStr w x
theorem keyIs_shape : ∀ {k : Key} {v : Value}, keyIs k v = true → (∃ i t, k = Sum.inl i ∧ v = Value.int i t) ∨ (∃ x t, k = Sum.inr x ∧ v = Value.str x t)
  | .inl i, v, h => by
    obtain ⟨t, e⟩ := Value.isInt_shape (k := i) (v := v) h
    exact .inl ⟨i, t, rfl, e⟩
  | .inr x, v, h => by
    obtain ⟨t, e⟩ := Value.isStrOf_shape (x := x) (v := v) h
    exact .inr ⟨x, t, rfl, e⟩
theorem keyIs_int (i : Int) (t : Tok) : keyIs (.inl i) (.int i t) = true := by simp [keyIs, Value.isInt]
theorem keyIs_str (x : Str) (t : Tok) : keyIs (.inr x) (.str x t) = true := by simp [keyIs, Value.isStrOf]
theorem key_ll (a b : Int) : decide ((Sum.inl a : Key) = Sum.inl b) = (a == b) := by
  by_cases e : a = b
  · subst e; simp
  · have h : ¬ (Sum.inl a : Key) = Sum.inl b := fun q => e (Sum.inl.inj q)
    rw [decide_eq_false h]
    exact (beq_eq_false_iff_ne.mpr e).symm
theorem key_rr (a b : Str) : decide ((Sum.inr a : Key) = Sum.inr b) = decide (a = b) := by
  by_cases e : a = b
  · subst e; simp
  · have h : ¬ (Sum.inr a : Key) = Sum.inr b := fun q => e (Sum.inr.inj q)
    rw [decide_eq_false h, decide_eq_false e]
theorem key_lr (a : Int) (b : Str) : decide ((Sum.inl a : Key) = Sum.inr b) = false := decide_eq_false (fun q => nomatch q)
theorem key_rl (a : Str) (b : Int) : decide ((Sum.inr a : Key) = Sum.inl b) = false := decide_eq_false (fun q => nomatch q)

def mixKind (prog : Program) (w : World) : PySem.KeyKind prog w Key where
  is := keyIs
  hash := keyH w
  inj := fun v a b ha hb => by
    rcases keyIs_shape ha with ⟨i, t, rfl, rfl⟩ | ⟨x, t, rfl, rfl⟩
    · rcases keyIs_shape hb with ⟨j, u, rfl, e⟩ | ⟨y, u, rfl, e⟩
      · injection e with e1 _; rw [e1]
      · exact nomatch e
    · rcases keyIs_shape hb with ⟨j, u, rfl, e⟩ | ⟨y, u, rfl, e⟩
      · exact nomatch e
      · injection e with e1 _; rw [e1]
  byValue := fun k v h => by
    rcases keyIs_shape h with ⟨i, t, rfl, rfl⟩ | ⟨x, t, rfl, rfl⟩ <;> rfl
  pyHash := fun hv h => by
    rcases keyIs_shape hv with ⟨i, t, rfl, rfl⟩ | ⟨x, t, rfl, rfl⟩
    · exact wpAny_pyHash_int h
    · exact wpAny_pyHash_str h
  eqBool := fun hu hv h => by
    rcases keyIs_shape hu with ⟨i, t, rfl, rfl⟩ | ⟨x, t, rfl, rfl⟩
    · rcases keyIs_shape hv with ⟨j, u, rfl, rfl⟩ | ⟨y, u, rfl, rfl⟩
      · rw [key_ll] at h; exact wpAny_eqBool_int h
      · rw [key_lr] at h; exact SeqAt.EqAt.int_str i t y u _ _ _ _ h
    · rcases keyIs_shape hv with ⟨j, u, rfl, rfl⟩ | ⟨y, u, rfl, rfl⟩
      · rw [key_rl] at h; exact SeqAt.EqAt.str_int x t j u _ _ _ _ h
      · rw [key_rr] at h; exact wpAny_eqBool_str h
  «strs» := fun k x t v h => by
    rcases keyIs_shape h with ⟨i, u, rfl, e⟩ | ⟨y, u, rfl, e⟩
    · exact nomatch e
    · injection e with e1 _
      subst e1
      cases v <;> rfl

theorem mixKind_int (prog : Program) (w : World) (i : Int) (t : Tok) : (mixKind prog w).is (.inl i) (.int i t) = true := keyIs_int i t
theorem mixKind_str (prog : Program) (w : World) (x : Str) (t : Tok) : (mixKind prog w).is (.inr x) (.str x t) = true := keyIs_str x t
end L2

namespace L2
open PySem PySem.Spec PyProof.Rows

/-- a value, without the heap -/
inductive V where
  | non | bl (b : Bool) | int (i : Int) | str (x : Str) | byt (b : Array UInt8) | flt (b : UInt64) | ref (a : Addr) | ty (n : String)
  deriving DecidableEq

def RelV : V → Value → Prop
  | .non, u => u = Value.none
  | .bl b, u => u = Value.bool b
  | .int i, u => ∃ t, u = Value.int i t
  | .str x, u => ∃ t, u = Value.str x t
  | .byt b, u => ∃ t, u = Value.bytes b t
  | .flt b, u => ∃ t, u = Value.float b t
  | .ref a, u => u = Value.ref a
  | .ty n, u => u = Value.type n

abbrev Vals : List V → List Value → Prop := Paired RelV
theorem Vals.length {xs : List V} {us : List Value} (r : Vals xs us) : xs.length = us.length := Paired.length r
theorem Vals.get : ∀ {xs : List V} {us : List Value} {i : Nat} {x : V}, Vals xs us → xs[i]? = some x → ∃ u, us[i]? = some u ∧ RelV x u
  | _, _, _, _, .nil, e => by simp at e
  | _, _, 0, _, .cons r _, e => by simp at e; subst e; exact ⟨_, rfl, r⟩
  | _, _, i + 1, x, .cons _ t, e => by
    obtain ⟨u, h1, h2⟩ := Vals.get (i := i) (x := x) t (by simpa using e)
    exact ⟨u, by simpa using h1, h2⟩
theorem Vals.append : ∀ {xs ys : List V} {us ws : List Value}, Vals xs us → Vals ys ws → Vals (xs ++ ys) (us ++ ws)
  | _, _, _, _, .nil, s => s
  | _, _, _, _, .cons r t, s => .cons r (Vals.append t s)
theorem Vals.take : ∀ {xs : List V} {us : List Value} (n : Nat), Vals xs us → Vals (xs.take n) (us.take n)
  | _, _, 0, _ => .nil
  | _, _, _ + 1, .nil => .nil
  | _, _, n + 1, .cons r t => .cons r (Vals.take n t)
theorem Vals.drop : ∀ {xs : List V} {us : List Value} (n : Nat), Vals xs us → Vals (xs.drop n) (us.drop n)
  | _, _, 0, r => r
  | _, _, _ + 1, .nil => .nil
  | _, _, n + 1, .cons _ t => Vals.drop n t
def RelO : Option V → Option Value → Prop
  | some v, some u => RelV v u
  | none, none => True
  | _, _ => False
def KV {κ : Type} : List (κ × V) → List (κ × Value) → Prop := Paired fun (p : κ × V) (q : κ × Value) => p.1 = q.1 ∧ RelV p.2 q.2

/-- a key of a dict (00_mix): an int or a text -/
def kV : Key → V
  | .inl i => .int i
  | .inr x => .str x

/-- what stands at a tracked address -/
inductive HO where
  /-- a list -/
  | lst (xs : List V)
  /-- a tuple (never changes) -/
  | tup (xs : List V)
  /-- a dict whose keys are ints and texts; one whose keys are tuples of ints and texts (the empty one is both) -/
  | dK (kvs : List (Key × V)) | dT (kvs : List (List Key × V))
  /-- a set of ints: its members, its size -/
  | set (S : Int → Bool) (n : Nat)
  /-- an instance of the class at C, its dict at dx, its attributes -/
  | ins (C dx : Addr) (fs : List (Str × V))
  /-- the dict of the instance at x -/
  | own (x : Addr)
  /-- the dict of an exception -/
  | xd (fs : List (Str × V))
  /-- a bound method, f of x -/
  | met (f x : Addr)
  /-- a range object lo, lo + 1, .. below hi -/
  | rng (lo hi : Int)
  /-- a thing that is known to the object (the script; a dict while a loop walks it): read, never written while it is so -/
  | frz (o : Obj) (u : HO)
  /-- a code object's table -/
  | tbl (ps : Array Value)
  /-- any other thing, by what is true of its one object (a def of one's own: SetO a S n := HO.ext fun h => ..) -/
  | ext (φ : Heap → Prop)

abbrev Hp := Addr → Option HO
def upd (H : Hp) (a : Addr) (o : HO) : Hp := fun b => if b = a then some o else H b
theorem upd_same {H : Hp} {a : Addr} {o : HO} : upd H a o a = some o := by unfold upd; rw [if_pos rfl]
theorem upd_ne {H : Hp} {a b : Addr} {o : HO} (h : b ≠ a) : upd H a o b = H b := by unfold upd; rw [if_neg h]
/-- two objects of different content stand apart -/
theorem ne_of {H : Hp} {a b : Addr} {o u : HO} (h : H a = some o) (h' : H b = some u) (d : o ≠ u) : a ≠ b := by
  intro e; subst e; rw [h] at h'; exact d (Option.some.inj h')
theorem ne_of_none {H : Hp} {a b : Addr} {o : HO} (h : H a = some o) (h' : H b = none) : a ≠ b := by
  intro e; subst e; rw [h] at h'; cases h'

section
variable (P : Program) (w : World)
def ObjOk (H : Hp) (h : Heap) (a : Addr) : HO → Prop
  | .lst xs => xs.length ≤ sizeLine ∧ ∃ (its : List Value) (n : Nat), Vals xs its ∧ h.get? a = some { cls := .type "list", data := .seq its.toArray n }
  | .tup xs => xs.length ≤ sizeLine ∧ ∃ its : List Value, Vals xs its ∧ IsTup h a its.toArray
  | .dK kvs => kvs.length ≤ sizeLine ∧ (a == sysModules) = false ∧ ∃ vs, KV kvs vs ∧ h.DictOf (mixKind P w) a vs
  | .dT kvs => kvs.length ≤ sizeLine ∧ (a == sysModules) = false ∧ ∃ xs : List (List Key × Addr × Value),
      Paired (fun (p : List Key × V) (q : List Key × Addr × Value) => p.1 = q.1 ∧ H q.2.1 = some (.tup (p.1.map kV)) ∧ RelV p.2 q.2.2) kvs xs ∧
      ∃ o es ep, h.get? a = some o ∧ o.ExactDict ∧ o.data = .dict es ep ∧ es.toList = xs.map (entryOfKey (tupleKind (mixKind P w))) ∧ (xs.map (·.1)).Nodup
  | .set S n => h.SetOf (intKind P w) a S n
  | .ins C dx fs => H dx = some (.own a) ∧ fs.length ≤ 1000 ∧ dx ≠ a ∧ h.get? a = some (PySem.W.instObj C dx) ∧
      ∃ mA, h.Ns1 dx mA ∧ (∀ f, RelO (fs.lookup f) (mA f)) ∧ PySem.Within mA (fs.map (·.1))
  | .own _ => ∃ o, h.get? a = some o
  | .xd fs => ∃ mA, h.Ns1 a mA ∧ ∀ f, RelO (fs.lookup f) (mA f)
  | .rng lo hi => ∃ t u v, h.get? a = some { cls := .type "range", data := .fields #[.int lo t, .int hi u, .int 1 v] }
  | .frz o u => h.get? a = some o ∧ ObjOk H h a u
  | .tbl ps => h.get? a = some { cls := .none, data := .fields ps }
  | .met f x => h.get? a = some (PySem.W.methodObj (.ref f) (.ref x))
  | .ext φ => φ h ∧ (∃ o, h.get? a = some o) ∧ ∀ h1 h2 : Heap, φ h1 → (∀ o, h1.get? a = some o → h2.get? a = some o) → φ h2
/-- the abstract heap is held -/
def HOk (H : Hp) (h : Heap) : Prop := ∀ a o, H a = some o → ObjOk P w H h a o
end

section
variable {P : Program} {w : World} {H H' : Hp} {h h' : Heap} {a : Addr} {o : HO}
theorem ObjOk.lt (x : ObjOk P w H h a o) : a < h.objs.size := by
  cases o with
  | lst xs => obtain ⟨_, _, _, _, e⟩ := x; exact Heap.lt_size e
  | tup xs => obtain ⟨_, _, _, p⟩ := x; exact p.lt
  | dK kvs => obtain ⟨_, _, _, _, o, _, _, e, _⟩ := x; exact Heap.lt_size e
  | dT kvs => obtain ⟨_, _, _, _, o, _, _, e, _⟩ := x; exact Heap.lt_size e
  | set S n => obtain ⟨o, _, _, _, e, _⟩ := x; exact Heap.lt_size e
  | ins C dx fs => obtain ⟨_, _, _, e, _⟩ := x; exact Heap.lt_size e
  | own y => obtain ⟨_, e⟩ := x; exact Heap.lt_size e
  | xd fs => obtain ⟨_, ⟨_, _, _, e, _⟩, _⟩ := x; exact Heap.lt_size e
  | rng lo hi => obtain ⟨_, _, _, e⟩ := x; exact Heap.lt_size e
  | frz ob u => obtain ⟨e, _⟩ := x; exact Heap.lt_size e
  | tbl ps => exact Heap.lt_size (show h.get? a = some _ from x)
  | met f y => exact Heap.lt_size (show h.get? a = some _ from x)
  | ext φ => obtain ⟨_, ⟨_, e⟩, _⟩ := x; exact Heap.lt_size e
theorem Paired.mapP {α β : Type} {F G : α → β → Prop} : ∀ {l₁ : List α} {l₂ : List β}, Paired F l₁ l₂ → (∀ a b, F a b → G a b) → Paired G l₁ l₂
  | _, _, .nil, _ => .nil
  | _, _, .cons r t, f => .cons (f _ _ r) (Paired.mapP t f)
/-- what an object's description leans on: its own object, its own dict, the tuples -/
theorem ObjOk.stay (x : ObjOk P w H h a o) (k : ∀ b u, (b = a ∨ H b = some (.own a)) → h.get? b = some u → h'.get? b = some u)
    (ho : ∀ b, H b = some (.own a) → H' b = some (.own a)) (ht : ∀ b xs, H b = some (.tup xs) → H' b = some (.tup xs)) : ObjOk P w H' h' a o := by
  induction o with
  | lst xs => obtain ⟨z, its, n, r, e⟩ := x; exact ⟨z, its, n, r, k _ _ (.inl rfl) e⟩
  | tup xs => obtain ⟨z, its, r, ob, e, c⟩ := x; exact ⟨z, its, r, ob, k _ _ (.inl rfl) e, c⟩
  | dK kvs => obtain ⟨z, y, vs, r, ob, es, ep, e, c⟩ := x; exact ⟨z, y, vs, r, ob, es, ep, k _ _ (.inl rfl) e, c⟩
  | dT kvs =>
    obtain ⟨z, y, xs, r, ob, es, ep, e, c⟩ := x
    exact ⟨z, y, xs, Paired.mapP r fun p q z => ⟨z.1, ht _ _ z.2.1, z.2.2⟩, ob, es, ep, k _ _ (.inl rfl) e, c⟩
  | set S n => obtain ⟨ob, es, ep, t, e, c⟩ := x; exact ⟨ob, es, ep, t, k _ _ (.inl rfl) e, c⟩
  | ins C dx fs =>
    obtain ⟨d, z, ne, e, mA, ⟨od, es, ep, e2, c⟩, r⟩ := x
    exact ⟨ho _ d, z, ne, k _ _ (.inl rfl) e, mA, ⟨od, es, ep, k _ _ (.inr d) e2, c⟩, r⟩
  | own y => obtain ⟨ob, e⟩ := x; exact ⟨ob, k _ _ (.inl rfl) e⟩
  | xd fs => obtain ⟨mA, ⟨od, es, ep, e, c⟩, r⟩ := x; exact ⟨mA, ⟨od, es, ep, k _ _ (.inl rfl) e, c⟩, r⟩
  | rng lo hi => obtain ⟨t, u, v, e⟩ := x; exact ⟨t, u, v, k _ _ (.inl rfl) e⟩
  | frz ob u ih => obtain ⟨e, q⟩ := x; exact ⟨k _ _ (.inl rfl) e, ih q⟩
  | tbl ps =>
    have e : h.get? a = some { cls := .none, data := .fields ps } := x
    show h'.get? a = some { cls := .none, data := .fields ps }
    exact k a _ (.inl rfl) e
  | met f y =>
    have e : h.get? a = some (PySem.W.methodObj (.ref f) (.ref y)) := x
    show h'.get? a = some (PySem.W.methodObj (.ref f) (.ref y))
    exact k a _ (.inl rfl) e
  | ext φ => obtain ⟨p, ⟨o, e⟩, st⟩ := x; exact ⟨st _ _ p fun o q => k _ _ (.inl rfl) q, ⟨o, k _ _ (.inl rfl) e⟩, st⟩
theorem HOk.lt (x : HOk P w H h) (e : H a = some o) : a < h.objs.size := (x a o e).lt
theorem HOk.fresh (x : HOk P w H h) (e : h.objs.size ≤ a) : H a = none := by
  cases q : H a with
  | none => rfl
  | some u => exact absurd (Nat.lt_of_lt_of_le (x.lt q) e) (Nat.lt_irrefl _)
/-- every object of the heap is kept -/
theorem HOk.kept (x : HOk P w H h) (k : ∀ b u, h.get? b = some u → h'.get? b = some u) : HOk P w H h' := fun a o e =>
  (x a o e).stay (fun b u _ q => k b u q) (fun _ q => q) fun _ _ q => q
/-- a new object is laid and tracked -/
theorem HOk.laid (x : HOk P w H h) (k : ∀ b u, h.get? b = some u → h'.get? b = some u) (hp : h.objs.size ≤ a) (new : ObjOk P w (upd H a o) h' a o) : HOk P w (upd H a o) h' := fun b u e => by
  have hn := x.fresh hp
  by_cases hb : b = a
  · subst hb; rw [upd_same] at e; cases e; exact new
  · rw [upd_ne hb] at e
    exact (x b u e).stay (fun c v _ q => k c v q) (fun c q => by rw [upd_ne (ne_of_none q hn)]; exact q) fun c xs q => by rw [upd_ne (ne_of_none q hn)]; exact q
end

/-- what may be read as u: it is u, or a known u -/
def Rd (H : Hp) (a : Addr) (u : HO) : Prop := H a = some u ∨ ∃ o, H a = some (.frz o u)
theorem Rd.ok {P : Program} {w : World} {H : Hp} {h : Heap} {a : Addr} {u : HO} (r : Rd H a u) (x : HOk P w H h) : ObjOk P w H h a u := by
  rcases r with r | ⟨o, r⟩
  · exact x a u r
  · obtain ⟨_, q⟩ := x a _ r
    exact q
/-- what may be written -/
def Mut : Option HO → Prop
  | some (.lst _) => True
  | some (.dK _) => True
  | some (.dT _) => True
  | some (.set _ _) => True
  | some (.ins _ _ _) => True
  | some (.ext _) => True
  | _ => False
section
variable {P : Program} {w : World} {H : Hp} {h h' : Heap} {x e : Addr} {o' : HO}
/-- the object at e is changed: x itself, or the dict of the instance x -/
theorem HOk.write (ok : HOk P w H h) (mu : Mut (H x)) (he : e = x ∨ H e = some (.own x)) (k : ∀ b u, b ≠ e → h.get? b = some u → h'.get? b = some u) (heo : ∃ u, h'.get? e = some u)
    (new : ObjOk P w (upd H x o') h' x o') : HOk P w (upd H x o') h' := fun b u q => by
  have nown : ∀ c y, H c = some (.own y) → c ≠ x := fun c y r z => by subst z; rw [r] at mu; exact mu
  have ntup : ∀ c xs, H c = some (.tup xs) → c ≠ x := fun c xs r z => by subst z; rw [r] at mu; exact mu
  by_cases hb : b = x
  · subst hb; rw [upd_same] at q; cases q; exact new
  · rw [upd_ne hb] at q
    by_cases hbe : b = e
    · have q' : H b = some (.own x) := by
        rcases he with z | z
        · exact absurd (hbe.trans z) hb
        · rw [hbe]; exact z
      rw [q] at q'; cases q'
      obtain ⟨v, hv⟩ := heo
      exact ⟨v, by rw [hbe]; exact hv⟩
    · refine (ok b u q).stay (fun c v hc r => k c v ?_ r) (fun c r => by rw [upd_ne (nown c b r)]; exact r) fun c xs r => by rw [upd_ne (ntup c xs r)]; exact r
      rcases hc with rfl | hc
      · exact hbe
      · rintro rfl
        rcases he with z | z
        · exact nown c b hc z
        · rw [hc] at z; cases z; exact hb rfl
end

/-! ### kept unless tracked; of the frames at fs (the callers') the slots may change (an exception that passes writes there); of the records at ex (iterators) nothing is said -/
structure Un (fs ex : List Addr) (H H' : Hp) (h h' : Heap) : Prop where
  keep : ∀ b o, h.get? b = some o → H b = none → b ∉ fs → b ∉ ex → h'.get? b = some o
  slot : ∀ b o, h.get? b = some o → H b = none → b ∈ fs → b ∉ ex → ∃ sl, h'.get? b = some { o with slots := sl }
  free : ∀ b o, h.get? b = some o → H b = none → b ∉ ex → H' b = none
  there : ∀ b o, h.get? b = some o → b ∉ ex → ∃ o', h'.get? b = some o'
  tups : ∀ b xs, H b = some (.tup xs) → H' b = some (.tup xs)
  frzs : ∀ b o u, H b = some (.frz o u) → H' b = some (.frz o u)
  tbls : ∀ b ps, H b = some (.tbl ps) → ∃ more, H' b = some (.tbl (ps ++ more))
section
variable {fs fs' ex ex' : List Addr} {H H1 H2 : Hp} {h h1 h2 h' : Heap} {a x e : Addr} {o : HO}
theorem Un.any (u : Un fs ex H H1 h h1) {b : Addr} {ob : Obj} (q : h.get? b = some ob) (n : H b = none) (hx : b ∉ ex) : ∃ sl, h1.get? b = some { ob with slots := sl } := by
  by_cases hb : b ∈ fs
  · exact u.slot b ob q n hb hx
  · exact ⟨ob.slots, u.keep b ob q n hb hx⟩
theorem Un.kept (k : ∀ b u, h.get? b = some u → h'.get? b = some u) : Un fs ex H H h h' :=
  ⟨fun b ob q _ _ _ => k b ob q, fun b ob q _ _ _ => ⟨ob.slots, k b ob q⟩, fun _ _ _ n _ => n, fun b ob q _ => ⟨ob, k b ob q⟩, fun _ _ q => q, fun _ _ _ q => q, fun _ ps q => ⟨#[], by rw [q]; simp⟩⟩
theorem Un.refl : Un fs ex H H h h := Un.kept fun _ _ q => q
theorem Un.laid (k : ∀ b u, h.get? b = some u → h'.get? b = some u) (hp : h.objs.size ≤ a) (hn : H a = none) : Un fs ex H (upd H a o) h h' where
  keep := fun b u q _ _ _ => k b u q
  slot := fun b u q _ _ _ => ⟨u.slots, k b u q⟩
  free := fun b u q n _ => by rw [upd_ne (Nat.ne_of_lt (Nat.lt_of_lt_of_le (Heap.lt_size q) hp))]; exact n
  there := fun b u q _ => ⟨u, k b u q⟩
  tups := fun b xs q => by rw [upd_ne (ne_of_none q hn)]; exact q
  frzs := fun b u xs q => by rw [upd_ne (ne_of_none q hn)]; exact q
  tbls := fun b ps q => ⟨#[], by rw [upd_ne (ne_of_none q hn), q]; simp⟩
theorem Un.write (mu : Mut (H x)) (he : e = x ∨ H e = some (.own x)) (k : ∀ b u, b ≠ e → h.get? b = some u → h'.get? b = some u) (heo : ∃ u, h'.get? e = some u) : Un fs ex H (upd H x o) h h' := by
  have hx : ∀ b, H b = none → b ≠ x := fun b n z => by subst z; rw [n] at mu; exact mu
  have hb : ∀ b, H b = none → b ≠ e := fun b n z => by
    subst z
    rcases he with r | r
    · exact hx b n r
    · rw [n] at r; cases r
  have hm : ∀ b u, H b = some u → ¬ Mut (some u) → b ≠ x := fun b u q nm z => by subst z; rw [q] at mu; exact nm mu
  refine ⟨fun b u q n _ _ => k b u (hb b n) q, fun b u q n _ _ => ⟨u.slots, k b u (hb b n) q⟩, fun b u q n _ => by rw [upd_ne (hx b n)]; exact n, fun b u q _ => ?_,
    fun b xs q => by rw [upd_ne (hm b _ q fun z => z)]; exact q, fun b u xs q => by rw [upd_ne (hm b _ q fun z => z)]; exact q, fun b ps q => ⟨#[], by rw [upd_ne (hm b _ q fun z => z), q]; simp⟩⟩
  by_cases hbe : b = e
  · subst hbe; exact heo
  · exact ⟨u, k b u hbe q⟩
end

/-! ### the heap without what is tracked -/
def trk (h : Heap) (H : Hp) : List Addr := (List.range h.objs.size).filter fun a => (H a).isSome
def hidT (h : Heap) (H : Hp) : Heap := PySem.W.hideAll h (trk h H)
theorem hidT_size (h : Heap) (H : Hp) : (hidT h H).objs.size = h.objs.size := PySem.W.hideAll_size _ _
theorem hidT_get {h : Heap} {H : Hp} {b : Addr} {o : Obj} (e : h.get? b = some o) (n : H b = none) : (hidT h H).get? b = some o :=
  PySem.W.hideAll_get _ e fun hm => by
    have q : (H b).isSome = true := (List.mem_filter.mp hm).2
    rw [n] at q; simp at q
theorem of_hidT {h : Heap} {H : Hp} {b : Addr} {o : Obj} (e : (hidT h H).get? b = some o) : h.get? b = some o ∧ H b = none := by
  have e' : h.get? b = some o := PySem.W.of_hideAll (trk h H) e
  refine ⟨e', ?_⟩
  cases q : H b with
  | none => rfl
  | some x =>
    have hm : b ∈ trk h H := List.mem_filter.mpr ⟨List.mem_range.mpr (Heap.lt_size e'), by simp [q]⟩
    have z : (hidT h H).get? b = none := PySem.W.hideAll_none (trk h H) hm
    rw [z] at e; cases e

/-! ### OpenK's ledger, filled with every new object but one -/
end L2

namespace L2
open PySem PySem.Spec PyProof.Rows

/-- the module's facts, over the base: the heap at the law's entry without what is tracked there -/
structure Mod (K : PySem.W.Frag) (mg : Str → Option Value) (base : Heap) : Prop where
  kin : K.In base
  glob : base.Ns mainGlobals mg
  blt : ∃ mb, base.Ns builtinsNs mb ∧ ∀ x : Str, x ≠ "__name__" → mb x = bootBuiltins x
  nolimit : base.NoLimit

/-- the context: a def's body (or a comprehension's block) running. base: fixed through the whole law; s₀, H₀: the entry; outer: the frames whose slots others may change (a def's callers); stack: all frames that run;
   ex: iterators that were made ahead of the entry and are walked here (a comprehension's); fn: the names whose cells were made at the entry (a def: all; a comprehension's block: its own); calm: not within an except suite; pn: pins that every state bears; xe: what is wanted of an exception that leaves the code -/
structure Cx where
  prog : Program
  w : World
  K : PySem.W.Frag
  mg : Str → Option Value
  base : Heap
  A : Around
  N : List Str
  s₀ : Shared
  H₀ : Hp
  env : Env
  outer : List Env
  stack : List Env
  ex : List Addr
  fn : Str → Bool
  calm : Bool
  pn : List (Addr × Obj)
  xe : Value → Shared → Prop
/-- the callers' frames -/
def frs (l : List Env) : List Addr := l.filterMap (·.frame)
abbrev Cx.fs (X : Cx) : List Addr := frs X.outer

def Vis (sc : Scope) (x : Str) : Prop := sc.names.lookup x = some .local ∨ sc.names.lookup x = some .cell ∨ sc.names.lookup x = some .free
def Loc (sc : Scope) (x : Str) : Prop := sc.names.lookup x = some .local ∨ sc.names.lookup x = some .cell
def Look (env : Env) (h : Heap) (m : Str → Option Value) (x : Str) (u : Value) : Prop :=
  (env.kindOf x = some .local ∧ m x = some u) ∨ ((env.kindOf x = some .cell ∨ env.kindOf x = some .free) ∧ ∃ c, env.cells.lookup x = some c ∧ h.IsCell c (some u))

structure Cx.Ok (X : Cx) : Prop where
  mod : Mod X.K X.mg X.base
  kind : X.env.scope.kind = .function
  glob : X.env.globals = mainGlobals
  blt : X.env.builtins = builtinsNs
  above : X.s₀.heap.objs.size ≤ X.env.locals
  inj : ∀ x y c, X.env.cells.lookup x = some c → X.env.cells.lookup y = some c → x = y
  has : ∀ x, (X.env.kindOf x = some .cell ∨ X.env.kindOf x = some .free) → ∃ c, X.env.cells.lookup x = some c
  cab : ∀ x c, X.fn x = true → X.env.cells.lookup x = some c → X.s₀.heap.objs.size ≤ c
  hd : X.calm = true → X.A.handled = none
  frames : X.A.frames = some X.stack
  stk : X.stack = X.outer ∨ (X.stack = X.env :: X.outer ∧ X.env.frame = some X.env.locals)
  exf : ∀ b ∈ X.ex, b ≠ X.env.locals ∧ ∀ x c, X.env.cells.lookup x = some c → c ≠ b
  bs : ∀ b o, X.base.get? b = some o → X.s₀.heap.get? b = some o ∧ X.H₀ b = none
  bsz : X.base.objs.size ≤ X.s₀.heap.objs.size
  noex : ∀ b o, X.base.get? b = some o → b ∉ X.ex
  exfs : ∀ b ∈ X.ex, b ∉ X.fs
  funs : X.s₀.heap.FunFrames X.base X.outer
  frf : ∀ b ∈ X.fs, X.H₀ b = none

structure Inv (X : Cx) (pins : List (Addr × Obj)) (σ : List (Option V)) (H : Hp) (s : Shared) : Prop where
  ok : X.Ok
  os : s.os = X.s₀.os
  bare : AllBare s.gens
  base : Un X.fs X.ex X.H₀ H X.s₀.heap s.heap
  loc : ∃ m, s.heap.Ns X.env.locals m ∧ ∀ (i : Nat) (x : Str) (v : V), X.N[i]? = some x → σ[i]? = some (some v) → Vis X.env.scope x → ∃ u, RelV v u ∧ Look X.env s.heap m x u
  cell : ∀ x c, X.env.cells.lookup x = some c → ∃ v, s.heap.IsCell c v
  free : H X.env.locals = none
  freeC : ∀ x c, X.env.cells.lookup x = some c → H c = none
  pin : ∀ p ∈ X.pn ++ pins, s.heap.get? p.1 = some p.2 ∧ H p.1 = none ∧ p.1 ≠ X.env.locals ∧ p.1 ∉ X.fs ∧ ∀ v, p.2.data ≠ .cell v
  hok : HOk X.prog X.w H s.heap
  len : σ.length = X.N.length

section
variable {X : Cx} {pins : List (Addr × Obj)} {σ : List (Option V)} {H H' : Hp} {s : Shared} {h' : Heap}

theorem Cx.Ok.nofr (ok : X.Ok) {b : Addr} {o : Obj} (e : X.base.get? b = some o) : b ∉ X.fs := fun hb => by
  have := (ok.funs.mem hb).1
  rw [e] at this; cases this
theorem Inv.bs (I : Inv X pins σ H s) : ∀ b o, X.base.get? b = some o → s.heap.get? b = some o ∧ H b = none := fun b o e =>
  ⟨I.base.keep b o (I.ok.bs b o e).1 (I.ok.bs b o e).2 (I.ok.nofr e) (I.ok.noex b o e), I.base.free b o (I.ok.bs b o e).1 (I.ok.bs b o e).2 (I.ok.noex b o e)⟩
theorem Inv.bk (I : Inv X pins σ H s) : ∀ b o, X.base.get? b = some o → s.heap.get? b = some o := fun b o e => (I.bs b o e).1
theorem Inv.mod (I : Inv X pins σ H s) : Mod X.K X.mg X.base := I.ok.mod
theorem Inv.kIn (I : Inv X pins σ H s) : X.K.In s.heap := I.ok.mod.kin.keeps I.bk
theorem Inv.lt (I : Inv X pins σ H s) : X.env.locals < s.heap.objs.size := let ⟨_, hn, _⟩ := I.loc; hn.lt
theorem Inv.sz (I : Inv X pins σ H s) : X.s₀.heap.objs.size ≤ s.heap.objs.size := Nat.le_trans I.ok.above (Nat.le_of_lt I.lt)
theorem Inv.nofs (I : Inv X pins σ H s) {a : Addr} (h : s.heap.objs.size ≤ a) : a ∉ X.fs := fun hb => by
  obtain ⟨_, o, ho, _⟩ := I.ok.funs.mem hb
  exact absurd (Nat.lt_of_lt_of_le (Heap.lt_size ho) (Nat.le_trans I.sz h)) (Nat.lt_irrefl _)
theorem Inv.cne (I : Inv X pins σ H s) : ∀ x c, X.env.cells.lookup x = some c → c ≠ X.env.locals := fun x c e z => by
  obtain ⟨v, o, ho, hd⟩ := I.cell x c e
  obtain ⟨m, ⟨o', es, ep, ho', hd', _⟩, _⟩ := I.loc
  rw [z, ho'] at ho; cases ho; rw [hd'] at hd; cases hd
theorem Inv.funs (I : Inv X pins σ H s) : s.heap.FunFrames X.base X.outer := by
  have all : ∀ (l : List Env), (∀ b ∈ frs l, b ∈ X.fs) → X.s₀.heap.FunFrames X.base l → s.heap.FunFrames X.base l := by
    intro l
    induction l with
    | nil => intro _ _; trivial
    | cons env r ih =>
      intro hs hl
      obtain ⟨hk, ⟨L, o, hf, hn, ho, hd⟩, hr⟩ := hl
      have hL : L ∈ X.fs := hs L (by unfold frs; rw [List.filterMap_cons, hf]; exact List.mem_cons_self)
      obtain ⟨sl, e⟩ := I.base.slot L o ho (I.ok.frf L hL) hL fun z => I.ok.exfs L z hL
      exact ⟨hk, ⟨L, _, hf, hn, e, hd⟩, ih (fun b hb => hs b (by unfold frs; rw [List.filterMap_cons, hf]; exact List.mem_cons_of_mem _ hb)) hr⟩
  exact all X.outer (fun _ hb => hb) I.ok.funs

/-- the frames that run, for a call -/
theorem Inv.stack (I : Inv X pins σ H s) : s.heap.FunFrames X.base X.stack := by
  rcases I.ok.stk with e | ⟨e, hf⟩
  · rw [e]; exact I.funs
  · rw [e]
    obtain ⟨m, hn, _⟩ := I.loc
    refine .cons (by rw [I.ok.kind]; decide) hf hn ?_ I.funs
    exact Heap.get?_none_of_le (Nat.le_trans I.ok.bsz I.ok.above)
theorem Inv.stkSub (I : Inv X pins σ H s) : ∀ b ∈ frs X.stack, b ∈ X.env.locals :: X.fs := fun b hb => by
  rcases I.ok.stk with e | ⟨e, hf⟩
  · rw [e] at hb; exact List.mem_cons_of_mem _ hb
  · rw [e] at hb
    unfold frs at hb
    rw [List.filterMap_cons, hf] at hb
    exact hb
theorem Inv.stkFree (I : Inv X pins σ H s) : ∀ b ∈ frs X.stack, H b = none := fun b hb => by
  rcases List.mem_cons.mp (I.stkSub b hb) with e | hb
  · rw [e]; exact I.free
  · obtain ⟨_, o, ho, _⟩ := I.ok.funs.mem hb
    exact I.base.free b o ho (I.ok.frf b hb) fun z => I.ok.exfs b z hb

/-- THE STEP: the untracked objects but the frame and the records at ch are kept (the callers' frames up to slots), the frame's map is kept, the new abstract heap is held -/
theorem Inv.step {g' : Array GenState} {t' : Nat} {d' : Drawn} {ch : List Addr} (I : Inv X pins σ H s)
    (hch : ∀ b ∈ ch, (b ∈ X.ex ∨ X.s₀.heap.objs.size ≤ b) ∧ b ≠ X.env.locals ∧ (∀ x c, X.env.cells.lookup x = some c → c ≠ b) ∧ ∀ p ∈ X.pn ++ pins, p.1 ≠ b)
    (keep : ∀ b o, b ≠ X.env.locals → b ∉ X.fs → b ∉ ch → s.heap.get? b = some o → H b = none → h'.get? b = some o)
    (slot : ∀ b o, b ≠ X.env.locals → b ∈ X.fs → b ∉ ch → s.heap.get? b = some o → H b = none → ∃ sl, h'.get? b = some { o with slots := sl }) (free : ∀ b o, b ∉ ch → s.heap.get? b = some o → H b = none → H' b = none)
    (there : ∀ b o, b ∉ ch → s.heap.get? b = some o → ∃ o', h'.get? b = some o')
    (tups : ∀ b xs, H b = some (.tup xs) → H' b = some (.tup xs)) (frzs : ∀ b o u, H b = some (.frz o u) → H' b = some (.frz o u)) (tbls : ∀ b ps, H b = some (.tbl ps) → ∃ more, H' b = some (.tbl (ps ++ more)))
    (ns : ∀ m, s.heap.Ns X.env.locals m → h'.Ns X.env.locals m) (hok : HOk X.prog X.w H' h') (hg : AllBare g') :
    Inv X pins σ H' { s with heap := h', gens := g', drawn := d', toks := t' } := by
  have neL : ∀ b o, X.s₀.heap.get? b = some o → b ≠ X.env.locals := fun b o e => Nat.ne_of_lt (Nat.lt_of_lt_of_le (Heap.lt_size e) I.ok.above)
  have neC : ∀ b o, X.s₀.heap.get? b = some o → b ∉ X.ex → b ∉ ch := fun b o e hx hb => by
    rcases (hch b hb).1 with z | z
    · exact hx z
    · exact absurd (Nat.lt_of_lt_of_le (Heap.lt_size e) z) (Nat.lt_irrefl _)
  have cellK : ∀ x c, X.env.cells.lookup x = some c → ∀ v, s.heap.IsCell c v → h'.IsCell c v := fun x c e v ⟨o, ho, hd⟩ => by
    have nch : c ∉ ch := fun z => (hch c z).2.2.1 x c e rfl
    by_cases hc : c ∈ X.fs
    · obtain ⟨sl, q⟩ := slot c o (I.cne x c e) hc nch ho (I.freeC x c e)
      exact ⟨_, q, hd⟩
    · exact ⟨o, keep c o (I.cne x c e) hc nch ho (I.freeC x c e), hd⟩
  refine ⟨I.ok, I.os, hg, ⟨fun b o e n hb hx => ?_, fun b o e n hb hx => ?_, fun b o e n hx => ?_, fun b o e hx => ?_, fun b xs e => tups b xs (I.base.tups b xs e), fun b o xs e => frzs b o xs (I.base.frzs b o xs e), fun b ps e => ?_⟩, ?_, fun x c e => ?_, ?_, fun x c e => ?_, fun p hp => ?_, hok, I.len⟩
  · exact keep b o (neL b o e) hb (neC b o e hx) (I.base.keep b o e n hb hx) (I.base.free b o e n hx)
  · obtain ⟨sl, e1⟩ := I.base.slot b o e n hb hx
    obtain ⟨sl', e2⟩ := slot b _ (neL b o e) hb (neC b o e hx) e1 (I.base.free b o e n hx)
    exact ⟨sl', e2⟩
  · obtain ⟨o', e1⟩ := I.base.there b o e hx
    exact free b o' (neC b o e hx) e1 (I.base.free b o e n hx)
  · obtain ⟨o', e1⟩ := I.base.there b o e hx
    exact there b o' (neC b o e hx) e1
  · obtain ⟨m1, e1⟩ := I.base.tbls b ps e
    obtain ⟨m2, e2⟩ := tbls b _ e1
    exact ⟨m1 ++ m2, by rw [e2, Array.append_assoc]⟩
  · obtain ⟨m, hn, hl⟩ := I.loc
    refine ⟨m, ns m hn, fun i x v e1 e2 e3 => ?_⟩
    obtain ⟨u, r, l⟩ := hl i x v e1 e2 e3
    refine ⟨u, r, ?_⟩
    rcases l with l | ⟨k, c, e, z⟩
    · exact .inl l
    · exact .inr ⟨k, c, e, cellK x c e _ z⟩
  · obtain ⟨v, z⟩ := I.cell x c e
    exact ⟨v, cellK x c e v z⟩
  · obtain ⟨m, ⟨o, _, _, ho, _⟩, _⟩ := I.loc
    exact free _ o (fun z => (hch _ z).2.1 rfl) ho I.free
  · obtain ⟨v, o, ho, hd⟩ := I.cell x c e
    exact free c o (fun z => (hch c z).2.2.1 x c e rfl) ho (I.freeC x c e)
  · obtain ⟨e, n, ne, nf, d⟩ := I.pin p hp
    have nch : p.1 ∉ ch := fun z => (hch p.1 z).2.2.2 p hp rfl
    exact ⟨keep p.1 p.2 ne nf nch e n, free p.1 p.2 nch e n, ne, nf, d⟩
/-- .. where the frame's own object is kept too -/
theorem Inv.un {t' : Nat} (I : Inv X pins σ H s) (u : Un X.fs [] H H' s.heap h') (hok : HOk X.prog X.w H' h') : Inv X pins σ H' { s with heap := h', toks := t' } := by
  obtain ⟨m, ⟨o, es, ep, ho, r⟩, _⟩ := id I.loc
  obtain ⟨sl, hL⟩ := u.any ho I.free (by simp)
  exact I.step (g' := s.gens) (d' := s.drawn) (ch := []) (fun _ z => nomatch z) (fun b o _ hb _ e n => u.keep b o e n hb (by simp)) (fun b o _ hb _ e n => u.slot b o e n hb (by simp)) (fun b o _ e n => u.free b o e n (by simp)) (fun b o _ e => u.there b o e (by simp)) u.tups u.frzs u.tbls (fun m' hm => by
    obtain ⟨o', es', ep', ho', r'⟩ := hm
    rw [ho] at ho'; cases ho'
    exact ⟨_, es', ep', hL, r'⟩) hok I.bare
/-- behind a call (or a comprehension's block): the slots of this frame may have changed too, the records at ch may have turned -/
theorem Inv.call {g' : Array GenState} {t' : Nat} {d' : Drawn} {ch : List Addr} (I : Inv X pins σ H s) (u : Un (frs X.stack) ch H H' s.heap h') (hok : HOk X.prog X.w H' h') (hg : AllBare g')
    (hch : ∀ b ∈ ch, (b ∈ X.ex ∨ X.s₀.heap.objs.size ≤ b) ∧ b ≠ X.env.locals ∧ (∀ x c, X.env.cells.lookup x = some c → c ≠ b) ∧ ∀ p ∈ X.pn ++ pins, p.1 ≠ b) :
    Inv X pins σ H' { s with heap := h', gens := g', drawn := d', toks := t' } := by
  obtain ⟨m, ⟨o, es, ep, ho, r⟩, _⟩ := id I.loc
  obtain ⟨sl, hL⟩ := u.any ho I.free fun z => (hch _ z).2.1 rfl
  exact I.step (ch := ch) hch (fun b o hL hb hc e n => u.keep b o e n (fun z => (List.mem_cons.mp (I.stkSub b z)).elim hL hb) hc) (fun b o _ _ hc e n => u.any e n hc) (fun b o hc e n => u.free b o e n hc) (fun b o hc e => u.there b o e hc) u.tups u.frzs u.tbls (fun m' hm => by
    obtain ⟨o', es', ep', ho', r'⟩ := hm
    rw [ho] at ho'; cases ho'
    exact ⟨_, es', ep', hL, r'⟩) hok hg
/-- an untracked record of ours (an iterator) has turned -/
theorem Inv.turned {t' : Nat} {it : Addr} (I : Inv X pins σ H s) (k : ∀ b o, b ≠ it → s.heap.get? b = some o → h'.get? b = some o) (hn : H it = none) (hL : it ≠ X.env.locals)
    (h1 : it ∈ X.ex ∨ X.s₀.heap.objs.size ≤ it) (h2 : ∀ x c, X.env.cells.lookup x = some c → c ≠ it) (h3 : ∀ p ∈ X.pn ++ pins, p.1 ≠ it) : Inv X pins σ H { s with heap := h', toks := t' } := by
  have nit : ∀ b u, H b = some u → b ≠ it := fun b u e z => by rw [z, hn] at e; cases e
  refine I.step (g' := s.gens) (d' := s.drawn) (ch := [it]) (fun b hb => ?_) (fun b o _ _ hc e _ => k b o (fun z => hc (by simp [z])) e) (fun b o _ _ hc e _ => ⟨o.slots, k b o (fun z => hc (by simp [z])) e⟩) (fun _ _ _ _ n => n)
    (fun b o hc e => ⟨o, k b o (fun z => hc (by simp [z])) e⟩) (fun _ _ e => e) (fun _ _ _ e => e) (fun b ps e => ⟨#[], by rw [e]; simp⟩) (fun m hm => ?_) (fun b u e => ?_) I.bare
  · have e : b = it := by simpa using hb
    subst e
    exact ⟨h1, hL, h2, h3⟩
  · obtain ⟨o, es, ep, ho, r⟩ := hm
    exact ⟨o, es, ep, k _ o (Ne.symm hL) ho, r⟩
  · refine (I.hok b u e).stay (fun c v hc q => k c v ?_ q) (fun _ q => q) fun _ _ q => q
    rcases hc with z | z
    · rw [z]; exact nit b u e
    · exact nit c _ z
theorem Inv.tok (I : Inv X pins σ H s) (t : Nat) : Inv X pins σ H { s with toks := t } := I.un (h' := s.heap) (t' := t) Un.refl I.hok
/-- all objects kept -/
theorem Inv.kept {t' : Nat} (I : Inv X pins σ H s) (k : ∀ b u, s.heap.get? b = some u → h'.get? b = some u) : Inv X pins σ H { s with heap := h', toks := t' } := I.un (Un.kept k) (I.hok.kept k)
/-- a new object laid and tracked -/
theorem Inv.laid {a : Addr} {o : HO} {t' : Nat} (I : Inv X pins σ H s) (k : ∀ b u, s.heap.get? b = some u → h'.get? b = some u) (hp : s.heap.objs.size ≤ a) (new : ObjOk X.prog X.w (upd H a o) h' a o) :
    Inv X pins σ (upd H a o) { s with heap := h', toks := t' } := I.un (Un.laid k hp (I.hok.fresh hp)) (I.hok.laid k hp new)
/-- an object written -/
theorem Inv.write {x e : Addr} {o : HO} {t' : Nat} (I : Inv X pins σ H s) (mu : Mut (H x)) (he : e = x ∨ H e = some (.own x)) (k : ∀ b u, b ≠ e → s.heap.get? b = some u → h'.get? b = some u) (heo : ∃ u, h'.get? e = some u)
    (new : ObjOk X.prog X.w (upd H x o) h' x o) : Inv X pins σ (upd H x o) { s with heap := h', toks := t' } := I.un (Un.write mu he k heo) (I.hok.write mu he k heo new)
theorem Inv.pins_of {pins' : List (Addr × Obj)} (I : Inv X pins σ H s) (h : ∀ p ∈ pins', s.heap.get? p.1 = some p.2 ∧ H p.1 = none ∧ p.1 ≠ X.env.locals ∧ p.1 ∉ X.fs ∧ ∀ v, p.2.data ≠ .cell v) : Inv X pins' σ H s :=
  ⟨I.ok, I.os, I.bare, I.base, I.loc, I.cell, I.free, I.freeC, fun p hp => (List.mem_append.mp hp).elim (fun z => I.pin p (List.mem_append_left _ z)) (h p), I.hok, I.len⟩

theorem nodup_ix {N : List Str} (hN : N.Nodup) {i j : Nat} {x : Str} (a : N[i]? = some x) (b : N[j]? = some x) : i = j := by
  obtain ⟨h1, e1⟩ := List.getElem?_eq_some_iff.mp a
  obtain ⟨h2, e2⟩ := List.getElem?_eq_some_iff.mp b
  exact (List.getElem_inj hN).mp (e1.trans e2.symm)

/-- a name is stored; what changed -/
theorem store_ok2 {M : Model} {A : Around} {E : Value → Shared → Prop} {i : Nat} {x : Str} {v : V} {u : Value} {Q : Unit → Shared → Prop} (I : Inv X pins σ H s) (hN : X.N.Nodup) (hi : X.N[i]? = some x) (hx : Loc X.env.scope x) (r : RelV v u)
    (h : ∀ s', Inv X pins (σ.set i (some v)) H s' → (∃ a, Heap.SameBut a s.heap s'.heap ∧ (a = X.env.locals ∨ X.env.cells.lookup x = some a)) → Q () s') (hf : X.fn x = true ∨ X.env.scope.names.lookup x = some .local := by first | exact .inl rfl | exact .inr rfl | assumption) : wpAny M A (storeName X.env x u) Q E s := by
  obtain ⟨m, hn, hl⟩ := id I.loc
  have hcls : (X.env.scope.kind == .class || (X.env.scope.kind == .module && X.env.locals != X.env.globals)) = false := by rw [I.ok.kind]; rfl
  have hiσ : i < σ.length := by rw [I.len]; exact (List.getElem?_eq_some_iff.mp hi).1
  have cne := I.cne
  have tracked : ∀ {a : Addr} {h' : Heap}, (∃ o, s.heap.get? a = some o ∧ H a = none) → Heap.SameBut a s.heap h' → HOk X.prog X.w H h' := fun {a h'} ha hs b ob e => by
    obtain ⟨_, _, hfree⟩ := ha
    refine (I.hok b ob e).stay (fun c w' hc q => (hs.2 c ?_).trans q) (fun _ q => q) fun _ _ q => q
    rintro rfl
    rcases hc with rfl | hc
    · rw [hfree] at e; cases e
    · rw [hfree] at hc; cases hc
  rcases hx with hk | hk
  · refine wpAny_storeName_local hk hn (fun h' hn' hs => ?_) hcls
    obtain ⟨oL, _, _, hoL, _⟩ := id hn
    refine h _ ⟨I.ok, I.os, I.bare, ⟨fun b o e n hb hx => ?_, fun b o e n hb hx => ?_, I.base.free, fun b o e hx => ?_, I.base.tups, I.base.frzs, I.base.tbls⟩, ⟨_, hn', fun j y v' e1 e2 e3 => ?_⟩, fun y c e => ?_, I.free, I.freeC, fun p hp => ?_, tracked ⟨oL, hoL, I.free⟩ hs, by simpa using I.len⟩ ⟨_, hs, .inl rfl⟩
    · exact (hs.2 b (Nat.ne_of_lt (Nat.lt_of_lt_of_le (Heap.lt_size e) I.ok.above))).trans (I.base.keep b o e n hb hx)
    · obtain ⟨sl, e1⟩ := I.base.slot b o e n hb hx
      exact ⟨sl, (hs.2 b (Nat.ne_of_lt (Nat.lt_of_lt_of_le (Heap.lt_size e) I.ok.above))).trans e1⟩
    · obtain ⟨o', e1⟩ := I.base.there b o e hx
      exact ⟨o', (hs.2 b (Nat.ne_of_lt (Nat.lt_of_lt_of_le (Heap.lt_size e) I.ok.above))).trans e1⟩
    · by_cases hj : j = i
      · subst hj
        rw [hi] at e1; cases e1
        rw [List.getElem?_set_self hiσ] at e2
        cases e2
        exact ⟨u, r, .inl ⟨hk, by simp⟩⟩
      · rw [List.getElem?_set_ne (Ne.symm hj)] at e2
        obtain ⟨u', r', q⟩ := hl j y v' e1 e2 e3
        refine ⟨u', r', ?_⟩
        rcases q with ⟨k, e⟩ | ⟨k, c, e, z⟩
        · refine .inl ⟨k, ?_⟩
          have : y ≠ x := fun e => hj (nodup_ix hN e1 (e ▸ hi))
          simp [this, e]
        · exact .inr ⟨k, c, e, z.sameBut hs (cne y c e)⟩
    · obtain ⟨w', z⟩ := I.cell y c e
      exact ⟨w', z.sameBut hs (cne y c e)⟩
    · obtain ⟨e, n, ne, nf, d⟩ := I.pin p hp
      exact ⟨(hs.2 p.1 ne).trans e, n, ne, nf, d⟩
  · have hfn : X.fn x = true := by
      rcases hf with z | z
      · exact z
      · rw [z] at hk; cases hk
    obtain ⟨c, hc⟩ := I.ok.has x (.inl hk)
    obtain ⟨w', z⟩ := I.cell x c hc
    refine wpAny_storeName_cell I.ok.kind hk hc z (fun h' hc' hs => ?_)
    obtain ⟨oc, hoc, hocd⟩ := id z
    refine h { s with heap := h' } ⟨I.ok, I.os, I.bare, ⟨fun b o e n hb hx => ?_, fun b o e n hb hx => ?_, I.base.free, fun b o e hx => ?_, I.base.tups, I.base.frzs, I.base.tbls⟩, ⟨m, hn.sameBut hs (Ne.symm (cne x c hc)), fun j y v' e1 e2 e3 => ?_⟩, fun y c' e => ?_, I.free, I.freeC, fun p hp => ?_, tracked ⟨oc, hoc, I.freeC x c hc⟩ hs, by simpa using I.len⟩ ⟨c, hs, .inr hc⟩
    · exact (hs.2 b (Nat.ne_of_lt (Nat.lt_of_lt_of_le (Heap.lt_size e) (I.ok.cab x c hfn hc)))).trans (I.base.keep b o e n hb hx)
    · obtain ⟨sl, e1⟩ := I.base.slot b o e n hb hx
      exact ⟨sl, (hs.2 b (Nat.ne_of_lt (Nat.lt_of_lt_of_le (Heap.lt_size e) (I.ok.cab x c hfn hc)))).trans e1⟩
    · obtain ⟨o', e1⟩ := I.base.there b o e hx
      exact ⟨o', (hs.2 b (Nat.ne_of_lt (Nat.lt_of_lt_of_le (Heap.lt_size e) (I.ok.cab x c hfn hc)))).trans e1⟩
    · by_cases hj : j = i
      · subst hj
        rw [hi] at e1; cases e1
        rw [List.getElem?_set_self hiσ] at e2
        cases e2
        exact ⟨u, r, .inr ⟨.inl hk, c, hc, hc'⟩⟩
      · rw [List.getElem?_set_ne (Ne.symm hj)] at e2
        obtain ⟨u', r', q⟩ := hl j y v' e1 e2 e3
        refine ⟨u', r', ?_⟩
        rcases q with q | ⟨k, c', e, z'⟩
        · exact .inl q
        · refine .inr ⟨k, c', e, z'.sameBut hs ?_⟩
          rintro rfl
          exact hj (nodup_ix hN e1 (I.ok.inj _ _ _ e hc ▸ hi))
    · by_cases hcc : c' = c
      · subst hcc; exact ⟨_, hc'⟩
      · obtain ⟨w2, z2⟩ := I.cell y c' e
        exact ⟨w2, z2.sameBut hs hcc⟩
    · obtain ⟨e, n, ne, nf, d⟩ := I.pin p hp
      refine ⟨(hs.2 p.1 ?_).trans e, n, ne, nf, d⟩
      intro q
      rw [q, hoc] at e
      have q' : oc = p.2 := Option.some.inj e
      exact d w' (by rw [← q']; exact hocd)
theorem store_ok {M : Model} {A : Around} {E : Value → Shared → Prop} {i : Nat} {x : Str} {v : V} {u : Value} {Q : Unit → Shared → Prop} (I : Inv X pins σ H s) (hN : X.N.Nodup) (hi : X.N[i]? = some x) (hx : Loc X.env.scope x) (r : RelV v u)
    (h : ∀ s', Inv X pins (σ.set i (some v)) H s' → Q () s') (hf : X.fn x = true ∨ X.env.scope.names.lookup x = some .local := by first | exact .inl rfl | exact .inr rfl | assumption) : wpAny M A (storeName X.env x u) Q E s :=
  store_ok2 I hN hi hx r (fun s' I' _ => h s' I') hf
/-- behind a call or a block, the state as it is -/
theorem Inv.call' {s' : Shared} {ch : List Addr} (I : Inv X pins σ H s) (ho : s'.os = s.os) (u : Un (frs X.stack) ch H H' s.heap s'.heap) (hok : HOk X.prog X.w H' s'.heap) (hg : AllBare s'.gens)
    (hch : ∀ b ∈ ch, (b ∈ X.ex ∨ X.s₀.heap.objs.size ≤ b) ∧ b ≠ X.env.locals ∧ (∀ x c, X.env.cells.lookup x = some c → c ≠ b) ∧ ∀ p ∈ X.pn ++ pins, p.1 ≠ b) : Inv X pins σ H' s' := by
  obtain ⟨h', g', d', t', o'⟩ := s'
  have e : o' = s.os := ho
  subst e
  exact I.call (g' := g') (t' := t') (d' := d') u hok hg hch
end

/-! ### the judgements -/
/-- an exception: its class, its own dict's address (where it has one), the abstract heap behind it -/
abbrev XK := Value → Option Addr → Hp → Prop
abbrev St := List (Option V)
abbrev VK := V → Hp → Prop
/-- an expression's reading; a test's; an argument list's -/
abbrev TE := St → Hp → VK → Prop
abbrev TT := St → Hp → (Bool → Hp → Prop) → Prop
abbrev TA := St → Hp → (List V → Hp → Prop) → Prop
/-- what is wanted behind a statement -/
structure Ends where
  nx : St → Hp → Prop
  rt : VK
  bk : St → Hp → Prop := fun _ _ => False
  ct : St → Hp → Prop := fun _ _ => False
abbrev TS := Ends → St → Hp → Prop

def EP (X : Cx) (pins : List (Addr × Obj)) (σ : St) (Q : VK) (u : Value) (s' : Shared) : Prop := ∃ v H', Inv X pins σ H' s' ∧ RelV v u ∧ Q v H'
def TP (X : Cx) (pins : List (Addr × Obj)) (σ : St) (Q : Bool → Hp → Prop) (b : Bool) (s' : Shared) : Prop := ∃ H', Inv X pins σ H' s' ∧ Q b H'
def AP (X : Cx) (pins : List (Addr × Obj)) (σ : St) (Q : List V → Hp → Prop) (us : List Value) (s' : Shared) : Prop := ∃ vs H', Inv X pins σ H' s' ∧ Vals vs us ∧ Q vs H'
def SP (X : Cx) (pins : List (Addr × Obj)) (D : Ends) (f : Flow) (s' : Shared) : Prop :=
  match f with
  | .next => ∃ σ' H', Inv X pins σ' H' s' ∧ D.nx σ' H'
  | .brk => ∃ σ' H', Inv X pins σ' H' s' ∧ D.bk σ' H'
  | .cont => ∃ σ' H', Inv X pins σ' H' s' ∧ D.ct σ' H'
  | .ret u => ∃ v σ' H', Inv X pins σ' H' s' ∧ RelV v u ∧ D.rt v H'

def PE (X : Cx) (e : Expr) (t : TE) : Prop :=
  ∀ (pins : List (Addr × Obj)) (s : Shared) (σ : St) (H : Hp) (Q : VK), Inv X pins σ H s → t σ H Q → wpAny (model X.prog X.w) X.A (eval e X.env) (EP X pins σ Q) X.xe s
def PT (X : Cx) (e : Expr) (t : TT) : Prop :=
  ∀ (pins : List (Addr × Obj)) (s : Shared) (σ : St) (H : Hp) (Q : Bool → Hp → Prop), Inv X pins σ H s → t σ H Q → wpAny (model X.prog X.w) X.A (isTrue e X.env (eval e X.env)) (TP X pins σ Q) X.xe s
/-- a test whatever its 'whole' is (and, or) -/
def PW (X : Cx) (e : Expr) (t : TT) : Prop :=
  ∀ (whole : Sem Value) (pins : List (Addr × Obj)) (s : Shared) (σ : St) (H : Hp) (Q : Bool → Hp → Prop), Inv X pins σ H s → t σ H Q → wpAny (model X.prog X.w) X.A (isTrue e X.env whole) (TP X pins σ Q) X.xe s
theorem PW.pt {X : Cx} {e : Expr} {t : TT} (h : PW X e t) : PT X e t := h _
/-- an argument list (no star), from the left -/
def PA (X : Cx) (es : List Expr) (t : TA) : Prop :=
  ∀ (pos : Pos) (pins : List (Addr × Obj)) (s : Shared) (σ : St) (H : Hp) (Q : List V → Hp → Prop), Inv X pins σ H s → t σ H Q → wpAny (model X.prog X.w) X.A (spliced (backTo pos (starEach es X.env))) (AP X pins σ Q) X.xe s
def PS (X : Cx) (st : Stmt) (t : TS) : Prop :=
  ∀ (pins : List (Addr × Obj)) (s : Shared) (σ : St) (H : Hp) (D : Ends), Inv X pins σ H s → t D σ H → wpAny (model X.prog X.w) X.A (exec st X.env) (SP X pins D) X.xe s
def PSs (X : Cx) (st : List Stmt) (t : TS) : Prop :=
  ∀ (pins : List (Addr × Obj)) (s : Shared) (σ : St) (H : Hp) (D : Ends), Inv X pins σ H s → t D σ H → wpAny (model X.prog X.w) X.A (execs st X.env) (SP X pins D) X.xe s
/-- weaken the end -/
theorem thn {α : Type} {t : Sem α} {Q Q' : α → Shared → Prop} {M : Model} {A : Around} {E : Value → Shared → Prop} {s : Shared} (h : wpAny M A t Q E s) (hQ : ∀ a s, Q a s → Q' a s) : wpAny M A t Q' E s := wpAny_mono h hQ fun _ _ x => x
end L2

namespace L2
open PySem PySem.Spec PyProof.Rows
section
variable {X : Cx}

/-! ### names and constants -/
def tVar (i : Nat) : TE := fun σ H Q => ∃ v, σ[i]? = some (some v) ∧ Q v H
def tC (v : V) : TE := fun _ H Q => Q v H
theorem pe_var {i : Nat} {x : Str} {pos : Pos} (hN : X.N[i]? = some x) (hv : Vis X.env.scope x) (hd : (x == ("__debug__" : Str)) = false := by decide) (hcd : (x == ("__classdict__" : Str)) = false := by decide) : PE X (.Name x pos) (tVar i) := by
  intro pins s σ H Q I h
  obtain ⟨v, e, h⟩ := h
  obtain ⟨m, hn, hl⟩ := I.loc
  obtain ⟨u, r, l⟩ := hl i x v hN e hv
  have fin : EP X pins σ Q u s := ⟨v, H, I, r, h⟩
  rcases l with ⟨hk, hm⟩ | ⟨hk, c, hc, hcell⟩
  · exact wpAny_Name (wpAny_loadName_local I.ok.kind hk hn hm fin) hd
  · rcases hk with hk | hk
    · exact wpAny_Name (wpAny_loadName_cell I.ok.kind hk hc hcell fin) hd
    · exact wpAny_Name (wpAny_loadName_free I.ok.kind hk hc hcell fin hcd) hd
theorem pe_int {i j pos} : PE X (.Constant (.int i) j pos) (tC (.int i)) := fun _ _ _ H _ I h => wpAny_Constant_int ⟨.int i, H, I.tok _, ⟨_, rfl⟩, h⟩
theorem pe_bl {b j pos} : PE X (.Constant (.bool b) j pos) (tC (.bl b)) := fun _ _ _ H _ I h => Constant_bool ⟨.bl b, H, I, rfl, h⟩
theorem pe_non {j pos} : PE X (.Constant .none j pos) (tC .non) := fun _ _ _ H _ I h => Constant_none ⟨.non, H, I, rfl, h⟩
theorem pe_str {x j pos} : PE X (.Constant (.str x) j pos) (tC (.str x)) := fun _ _ _ H _ I h => Calls.Constant_str ⟨.str x, H, I.tok _, ⟨_, rfl⟩, h⟩

/-- a global name of the def -/
def Gl (X : Cx) (x : Str) : Prop := X.env.kindOf x = some .globalImplicit
theorem ld_glob {E : Value → Shared → Prop} {pins : List (Addr × Obj)} {s : Shared} {σ : St} {H : Hp} {x : Str} {u : Value} {pos : Pos} {Q : Value → Shared → Prop} (I : Inv X pins σ H s) (hg : Gl X x) (hm : X.mg x = some u) (h : Q u s)
    (hd : (x == ("__debug__" : Str)) = false := by decide) : wpAny (model X.prog X.w) X.A (eval (.Name x pos) X.env) Q E s :=
  Calls.Name_function_global I.ok.kind hg (Calls.loadGlobal_global (by rw [I.ok.glob]; exact I.mod.glob.keeps I.bk) hm h) hd
theorem ld_blt {E : Value → Shared → Prop} {pins : List (Addr × Obj)} {s : Shared} {σ : St} {H : Hp} {x : Str} {u : Value} {pos : Pos} {Q : Value → Shared → Prop} (I : Inv X pins σ H s) (hg : Gl X x) (hm : X.mg x = none) (hv : bootBuiltins x = some u) (h : Q u s)
    (hn : x ≠ "__name__" := by decide) (hd : (x == ("__debug__" : Str)) = false := by decide) : wpAny (model X.prog X.w) X.A (eval (.Name x pos) X.env) Q E s := by
  obtain ⟨mb, h1, h2⟩ := I.mod.blt
  exact Calls.Name_function_global I.ok.kind hg (Calls.loadGlobal_builtin (by rw [I.ok.glob]; exact I.mod.glob.keeps I.bk) hm (by rw [I.ok.blt]; exact h1.keeps I.bk) ((h2 x hn).trans hv) h) hd
/-- a module's constant, a class, a function, as a value -/
theorem pe_glob {x : Str} {v : V} {u : Value} {pos : Pos} (hg : Gl X x) (hm : X.mg x = some u) (r : RelV v u) (hd : (x == ("__debug__" : Str)) = false := by decide) : PE X (.Name x pos) (tC v) :=
  fun _ _ _ H _ I h => ld_glob I hg hm ⟨v, H, I, r, h⟩ hd
theorem pe_bltn {x : Str} {v : V} {u : Value} {pos : Pos} (hg : Gl X x) (hm : X.mg x = none) (hv : bootBuiltins x = some u) (r : RelV v u) (hn : x ≠ "__name__" := by decide) (hd : (x == ("__debug__" : Str)) = false := by decide) : PE X (.Name x pos) (tC v) :=
  fun _ _ _ H _ I h => ld_blt I hg hm hv ⟨v, H, I, r, h⟩ hn hd

/-! ### arithmetic -/
variable {a b : Expr} {ta tb : TE} {pos : Pos}
/-! ### comparisons -/
def PC (X : Cx) (op : CmpOp) (a b : Expr) (t : TE) : Prop :=
  ∀ (pins : List (Addr × Obj)) (s : Shared) (σ : St) (H : Hp) (Q : VK), Inv X pins σ H s → t σ H Q →
    wpAny (model X.prog X.w) X.A (eval a X.env) (fun v s₁ => wpAny (model X.prog X.w) X.A (eval b X.env) (fun u s₂ => wpAny (model X.prog X.w) X.A (compareOp op v u) (EP X pins σ Q) X.xe s₂) X.xe s₁) X.xe s
theorem nobehind (b : Expr) {op : CmpOp} (h : op ≠ .In) (h2 : op ≠ .NotIn) : behindInMarks op b = false := by
  have e1 : (op == CmpOp.In) = false := by cases op <;> first | rfl | exact absurd rfl h
  have e2 : (op == CmpOp.NotIn) = false := by cases op <;> first | rfl | exact absurd rfl h2
  cases b <;> simp [behindInMarks, e1, e2]
/-- is None -/
def tIsN (ta : TE) : TE := fun σ H Q => ta σ H fun x H1 => Q (.bl (decide (x = .non))) H1
theorem RelV.none_iff {x : V} {v : Value} (r : RelV x v) : (v == Value.none) = decide (x = .non) := by
  cases x with
  | non => cases r; rfl
  | bl _ => cases r; rfl
  | int _ => obtain ⟨t, rfl⟩ := r; rfl
  | str _ => obtain ⟨t, rfl⟩ := r; rfl
  | byt _ => obtain ⟨t, rfl⟩ := r; rfl
  | flt _ => obtain ⟨t, rfl⟩ := r; rfl
  | ref _ => cases r; rfl
  | ty _ => cases r; rfl
theorem pc_isN {j pos'} (ha : PE X a ta) : PC X .Is a (.Constant .none j pos') (tIsN ta) := by
  intro pins s σ H Q I h
  refine thn (ha pins s σ H _ I h) fun v s1 ⟨x, H1, I1, r1, q1⟩ => ?_
  exact Constant_none (is_none_gen ⟨.bl _, H1, I1, by rw [r1.none_iff]; rfl, q1⟩)
/-- a comparison as a value, as a test -/
def tB (t : TE) : TT := fun σ H Q => t σ H fun x H1 => ∃ c, x = .bl c ∧ Q c H1
theorem pt_cmp {op : CmpOp} {t : TE} (h : PC X op a b t) (h1 : behindInMarks op b = false := by first | exact nobehind _ (by decide) (by decide) | rfl) : PT X (.Compare a [op] [b] pos) (tB t) := by
  intro pins s σ H Q I hw
  refine wpAny_isTrue_Compare1 (thn (h pins s σ H _ I hw) fun v s1 h1 => thn h1 fun u s2 h2 => thn h2 fun c s3 ⟨x, H1, I1, r1, q1⟩ => ?_) h1
  obtain ⟨d, rfl, q⟩ := q1
  cases r1
  exact wpAny_truthy_bool ⟨H1, I1, q⟩
/-- an expression whose value is a bool, as a test -/
theorem pt_val {e : Expr} {t : TE} (h : PE X e t) (he : ∀ whole, isTrue e X.env whole = (do let v ← whole; standAt e.pos; holding [v] (truthy v)) := by intro _; rfl) : PT X e (tB t) := by
  intro pins s σ H Q I hw
  refine isTrue_plain (thn (h pins s σ H _ I hw) fun v s1 ⟨x, H1, I1, r1, q1⟩ => ?_) (he _)
  obtain ⟨d, rfl, q⟩ := q1
  cases r1
  exact wpAny_truthy_bool ⟨H1, I1, q⟩

/-! ### and, or, not -/
variable {tA tB' : TT} {rest : List Expr}
def tAnd (t u : TT) : TT := fun σ H Q => t σ H fun c H1 => if c = true then u σ H1 Q else Q false H1
def tOr (t u : TT) : TT := fun σ H Q => t σ H fun c H1 => if c = true then Q true H1 else u σ H1 Q
def tNot (t : TT) : TT := fun σ H Q => t σ H fun c H1 => Q (!c) H1
theorem pw_and1 (ha : PT X a tA) : PW X (.BoolOp .And [a] pos) tA := by
  intro wh pins s σ H Q I h
  refine isTrue_and (thn (ha pins s σ H Q I h) fun c s1 e => ?_)
  cases c with
  | true => exact isTrue_and_nil e
  | false => exact e
theorem pw_or1 (ha : PT X a tA) : PW X (.BoolOp .Or [a] pos) tA := by
  intro wh pins s σ H Q I h
  refine isTrue_or (thn (ha pins s σ H Q I h) fun c s1 e => ?_)
  cases c with
  | false => exact isTrue_or_nil e
  | true => exact e
theorem pw_and (ha : PT X a tA) (hb : PW X (.BoolOp .And (b :: rest) pos) tB') : PW X (.BoolOp .And (a :: b :: rest) pos) (tAnd tA tB') := by
  intro wh pins s σ H Q I h
  refine isTrue_and (thn (ha pins s σ H _ I h) fun c s1 ⟨H1, I1, q1⟩ => ?_)
  cases c with
  | true => exact hb wh pins s1 σ H1 Q I1 q1
  | false => exact ⟨H1, I1, q1⟩
theorem pw_or (ha : PT X a tA) (hb : PW X (.BoolOp .Or (b :: rest) pos) tB') : PW X (.BoolOp .Or (a :: b :: rest) pos) (tOr tA tB') := by
  intro wh pins s σ H Q I h
  refine isTrue_or (thn (ha pins s σ H _ I h) fun c s1 ⟨H1, I1, q1⟩ => ?_)
  cases c with
  | true => exact ⟨H1, I1, q1⟩
  | false => exact hb wh pins s1 σ H1 Q I1 q1
theorem pt_not (ha : PT X a tA) : PT X (.UnaryOp .Not a pos) (tNot tA) := by
  intro pins s σ H Q I h
  exact isTrue_not (ha pins s σ H (fun c H1 => Q (!c) H1) I h)
/-- .. as values (bools) -/
def tAndV (ta tb : TE) : TE := fun σ H Q => ta σ H fun x H1 => ∃ c, x = .bl c ∧ if c = true then tb σ H1 Q else Q (.bl false) H1
def tOrV (ta tb : TE) : TE := fun σ H Q => ta σ H fun x H1 => ∃ c, x = .bl c ∧ if c = true then Q (.bl true) H1 else tb σ H1 Q
def tNotV (ta : TE) : TE := fun σ H Q => ta σ H fun x H1 => ∃ c, x = .bl c ∧ Q (.bl (!c)) H1
theorem pe_one {op} {t : TE} (h : PE X a t) : PE X (.BoolOp op [a] pos) t := fun pins s σ H Q I hw => BoolOp_one (h pins s σ H Q I hw)
theorem pe_and (ha : PE X a ta) (hb : PE X (.BoolOp .And (b :: rest) pos) tb) : PE X (.BoolOp .And (a :: b :: rest) pos) (tAndV ta tb) := by
  intro pins s σ H Q I h
  refine BoolOp_and (thn (ha pins s σ H _ I h) fun v s1 ⟨x, H1, I1, r1, q1⟩ => ?_)
  obtain ⟨c, rfl, q1⟩ := q1
  cases r1
  refine wpAny_truthy_bool ?_
  cases c with
  | true => exact hb pins s1 σ H1 Q I1 q1
  | false => exact ⟨.bl false, H1, I1, rfl, q1⟩
theorem pe_or (ha : PE X a ta) (hb : PE X (.BoolOp .Or (b :: rest) pos) tb) : PE X (.BoolOp .Or (a :: b :: rest) pos) (tOrV ta tb) := by
  intro pins s σ H Q I h
  refine BoolOp_or (thn (ha pins s σ H _ I h) fun v s1 ⟨x, H1, I1, r1, q1⟩ => ?_)
  obtain ⟨c, rfl, q1⟩ := q1
  cases r1
  refine wpAny_truthy_bool ?_
  cases c with
  | false => exact hb pins s1 σ H1 Q I1 q1
  | true => exact ⟨.bl true, H1, I1, rfl, q1⟩
theorem pe_not (ha : PE X a ta) : PE X (.UnaryOp .Not a pos) (tNotV ta) := by
  intro pins s σ H Q I h
  refine UnaryOp_ (thn (ha pins s σ H _ I h) fun v s1 ⟨x, H1, I1, r1, q1⟩ => ?_)
  obtain ⟨c, rfl, q1⟩ := q1
  cases r1
  exact not_of (wpAny_truthy_bool ⟨.bl (!c), H1, I1, rfl, q1⟩)
/-- a if t else b -/
def tIf (t : TT) (ta tb : TE) : TE := fun σ H Q => t σ H fun c H1 => if c = true then ta σ H1 Q else tb σ H1 Q
theorem pe_ifExp {c : Expr} (hc : PT X c tA) (ha : PE X a ta) (hb : PE X b tb) : PE X (.IfExp c a b pos) (tIf tA ta tb) := by
  intro pins s σ H Q I h
  refine wpAny_IfExp (thn (hc pins s σ H _ I h) fun d s1 ⟨H1, I1, q1⟩ => ?_)
  cases d with
  | true => exact ha pins s1 σ H1 Q I1 q1
  | false => exact hb pins s1 σ H1 Q I1 q1
end
end L2

namespace L2
open PySem PySem.Spec PyProof.Rows

/-! ### a list, a tuple that is read: tracked, frozen, or an object of the module -/
def SqL (K : PySem.W.Frag) (H : Hp) (a : Addr) (xs : List V) : Prop :=
  Rd H a (.lst xs) ∨
    ∃ (o : Obj) (its : Array Value) (n : Nat), K.lookup a = some o ∧ o.cls = .type "list" ∧ o.dict = none ∧ o.data = .seq its n ∧ its.size ≤ sizeLine ∧ Vals xs its.toList
def SqT (K : PySem.W.Frag) (H : Hp) (a : Addr) (xs : List V) : Prop :=
  Rd H a (.tup xs) ∨
    ∃ (o : Obj) (its : Array Value) (n : Nat), K.lookup a = some o ∧ o.cls = .type "tuple" ∧ o.data = .seq its n ∧ its.size ≤ sizeLine ∧ Vals xs its.toList
def absV : Value → Option V
  | .none => some .non
  | .bool b => some (.bl b)
  | .int i _ => some (.int i)
  | .str x _ => some (.str x)
  | .bytes b _ => some (.byt b)
  | .float b _ => some (.flt b)
  | .ref a => some (.ref a)
  | .type n => some (.ty n)
  | _ => none
theorem RelV.abs {x : V} {u : Value} (r : RelV x u) : absV u = some x := by
  cases x with
  | non => cases r; rfl
  | bl _ => cases r; rfl
  | int _ => obtain ⟨t, rfl⟩ := r; rfl
  | str _ => obtain ⟨t, rfl⟩ := r; rfl
  | byt _ => obtain ⟨t, rfl⟩ := r; rfl
  | flt _ => obtain ⟨t, rfl⟩ := r; rfl
  | ref _ => cases r; rfl
  | ty _ => cases r; rfl
theorem RelV.inj {x y : V} {u : Value} (r : RelV x u) (q : RelV y u) : x = y := Option.some.inj (r.abs.symm.trans q.abs)
theorem Vals.inj : ∀ {xs ys : List V} {us : List Value}, Vals xs us → Vals ys us → xs = ys
  | _, _, _, .nil, .nil => rfl
  | _, _, _, .cons r t, .cons r' t' => by rw [r.inj r', Vals.inj t t']
section
variable {X : Cx} {pins : List (Addr × Obj)} {σ : St} {H : Hp} {s : Shared} {a : Addr} {xs ys : List V}
theorem SqL.of {K : PySem.W.Frag} (h : H a = some (.lst xs)) : SqL K H a xs := .inl (.inl h)
theorem SqT.of {K : PySem.W.Frag} (h : H a = some (.tup xs)) : SqT K H a xs := .inl (.inl h)
theorem Inv.list (I : Inv X pins σ H s) (h : SqL X.K H a xs) : ∃ its : List Value, Vals xs its ∧ PlainL s.heap a its.toArray ∧ xs.length ≤ sizeLine := by
  rcases h with h | ⟨o, its, n, hk, hc, hd, hs, hz, r⟩
  · obtain ⟨z, its, n, r, e⟩ := h.ok I.hok
    exact ⟨its, r, ⟨_, n, e, rfl, rfl, rfl⟩, z⟩
  · refine ⟨its.toList, r, ⟨o, n, I.kIn a o hk, hc, hd, by simpa using hs⟩, ?_⟩
    have e := r.length
    simp only [Array.length_toList] at e
    omega
theorem Inv.tuple (I : Inv X pins σ H s) (h : SqT X.K H a xs) : ∃ its : List Value, Vals xs its ∧ IsTup s.heap a its.toArray ∧ xs.length ≤ sizeLine := by
  rcases h with h | ⟨o, its, n, hk, hc, hs, hz, r⟩
  · obtain ⟨z, its, r, p⟩ := h.ok I.hok
    exact ⟨its, r, p, z⟩
  · refine ⟨its.toList, r, ⟨o, I.kIn a o hk, hc, n, by simpa using hs⟩, ?_⟩
    have e := r.length
    simp only [Array.length_toList] at e
    omega
theorem Inv.list_inj (I : Inv X pins σ H s) (h : SqL X.K H a xs) (h' : SqL X.K H a ys) : xs = ys := by
  obtain ⟨its, r, ⟨o, n, e, _, _, d⟩, _⟩ := I.list h
  obtain ⟨its', r', ⟨o', n', e', _, _, d'⟩, _⟩ := I.list h'
  rw [e] at e'; cases e'
  rw [d] at d'
  injection d' with d1 _
  have : its = its' := by simpa using congrArg Array.toList d1
  subst this
  exact r.inj r'
theorem Inv.tuple_inj (I : Inv X pins σ H s) (h : SqT X.K H a xs) (h' : SqT X.K H a ys) : xs = ys := by
  obtain ⟨its, r, ⟨o, e, _, n, d⟩, _⟩ := I.tuple h
  obtain ⟨its', r', ⟨o', e', _, n', d'⟩, _⟩ := I.tuple h'
  rw [e] at e'; cases e'
  rw [d] at d'
  injection d' with d1 _
  have : its = its' := by simpa using congrArg Array.toList d1
  subst this
  exact r.inj r'
end

/-! ### another wish about exceptions -/
abbrev Cx.wish (X : Cx) (E : Value → Shared → Prop) : Cx := { X with xe := E }
/-- no exception leaves -/
abbrev Cx.nox (X : Cx) : Cx := X.wish fun _ _ => False
theorem Cx.Ok.wish {X : Cx} (ok : X.Ok) (E : Value → Shared → Prop) : (X.wish E).Ok :=
  ⟨ok.mod, ok.kind, ok.glob, ok.blt, ok.above, ok.inj, ok.has, ok.cab, ok.hd, ok.frames, ok.stk, ok.exf, ok.bs, ok.bsz, ok.noex, ok.exfs, ok.funs, ok.frf⟩
theorem Cx.Ok.unwish {X : Cx} {E : Value → Shared → Prop} (ok : (X.wish E).Ok) : X.Ok :=
  ⟨ok.mod, ok.kind, ok.glob, ok.blt, ok.above, ok.inj, ok.has, ok.cab, ok.hd, ok.frames, ok.stk, ok.exf, ok.bs, ok.bsz, ok.noex, ok.exfs, ok.funs, ok.frf⟩
section
variable {X : Cx} {pins : List (Addr × Obj)} {σ : St} {H : Hp} {s : Shared} {E : Value → Shared → Prop}
theorem Inv.wish (I : Inv X pins σ H s) (E : Value → Shared → Prop) : Inv (X.wish E) pins σ H s := ⟨I.ok.wish E, I.os, I.bare, I.base, I.loc, I.cell, I.free, I.freeC, I.pin, I.hok, I.len⟩
theorem Inv.unwish (I : Inv (X.wish E) pins σ H s) : Inv X pins σ H s := ⟨I.ok.unwish, I.os, I.bare, I.base, I.loc, I.cell, I.free, I.freeC, I.pin, I.hok, I.len⟩
theorem SP.unwish {D : Ends} {f : Flow} {s' : Shared} (h : SP (X.wish E) pins D f s') : SP X pins D f s' := by
  cases f with
  | next => obtain ⟨σ', H', I, q⟩ := h; exact ⟨σ', H', I.unwish, q⟩
  | brk => obtain ⟨σ', H', I, q⟩ := h; exact ⟨σ', H', I.unwish, q⟩
  | cont => obtain ⟨σ', H', I, q⟩ := h; exact ⟨σ', H', I.unwish, q⟩
  | ret u => obtain ⟨v, σ', H', I, r, q⟩ := h; exact ⟨v, σ', H', I.unwish, r, q⟩
theorem PSs.nox {st : List Stmt} {t : TS} (h : PSs X.nox st t) : PSs X st t := fun pins s σ H D I hw =>
  wpAny_mono (h pins s σ H D (I.wish _) hw) (fun _ _ q => q.unwish) fun _ _ z => False.elim z
end

/-! ### blocks and small statements -/
section
variable {X : Cx} {st : Stmt} {rest : List Stmt} {t u : TS} {e : Expr} {te : TE} {pos : Pos}
def tNext : TS := fun D σ H => D.nx σ H
def tSeq (t u : TS) : TS := fun D σ H => t { D with nx := u D } σ H
theorem pss_nil : PSs X [] tNext := fun _ _ σ H _ I h => wpAny_execs_nil ⟨σ, H, I, h⟩
theorem pss_cons (h1 : PS X st t) (h2 : PSs X rest u) : PSs X (st :: rest) (tSeq t u) := by
  intro pins s σ H D I h
  refine wpAny_execs_cons (thn (h1 pins s σ H { D with nx := u D } I h) fun f s1 q => ?_)
  cases f with
  | next =>
    obtain ⟨σ', H', I', q⟩ := q
    exact h2 pins s1 σ' H' D I' q
  | ret v => exact q
  | brk => exact q
  | cont => exact q
theorem pss_one (h1 : PS X st t) : PSs X [st] t := by
  intro pins s σ H D I h
  refine wpAny_execs_cons (thn (h1 pins s σ H D I h) fun f s1 q => ?_)
  cases f with
  | next => exact wpAny_execs_nil q
  | ret v => exact q
  | brk => exact q
  | cont => exact q
/-- in a def's body nothing is shown -/
theorem Inv.quiet {pins : List (Addr × Obj)} {σ : St} {H : Hp} {s : Shared} (I : Inv X pins σ H s) : interactive X.env = false := by simp [interactive, I.ok.kind]
/-- an expression whose value is dropped -/
def tDrop (te : TE) : TS := fun D σ H => te σ H fun _ H1 => D.nx σ H1
theorem ps_expr (he : PE X e te) (hs : swapsWith e none pos.line X.env = pure false := by rfl) : PS X (.Expr e pos) (tDrop te) := by
  intro pins s σ H D I h
  exact wpAny_Expr_any (thn (he pins s σ H _ I h) fun v s1 ⟨x, H1, I1, r1, q1⟩ => ⟨σ, H1, I1, q1⟩) I.quiet hs
def tRet (te : TE) : TS := fun D σ H => te σ H D.rt
theorem ps_ret (he : PE X e te) : PS X (.Return (some e) pos) (tRet te) := by
  intro pins s σ H D I h
  exact wpAny_Return_some (thn (he pins s σ H _ I h) fun v s1 ⟨x, H1, I1, r1, q1⟩ => ⟨x, σ, H1, I1, r1, q1⟩)
def tIfS (c : TT) (t u : TS) : TS := fun D σ H => c σ H fun b H1 => if b = true then t D σ H1 else u D σ H1
theorem ps_if {c : Expr} {a b : List Stmt} {tc : TT} (hc : PT X c tc) (ha : PSs X a t) (hb : PSs X b u) : PS X (.If c a b pos) (tIfS tc t u) := by
  intro pins s σ H D I h
  refine wpAny_If (thn (hc pins s σ H _ I h) fun d s1 ⟨H1, I1, q1⟩ => ?_)
  cases d with
  | true => exact ha pins s1 σ H1 D I1 q1
  | false => exact hb pins s1 σ H1 D I1 q1
/-- code that the proof never comes to -/
def tNever : TS := fun _ _ _ => False
theorem pss_never {sts : List Stmt} : PSs X sts tNever := fun _ _ _ _ _ _ h => h.elim
end

/-! ### targets -/
abbrev TG := V → St → Hp → (St → Hp → Prop) → Prop
abbrev TGs := List V → St → Hp → (St → Hp → Prop) → Prop
def PG (X : Cx) (target : Expr) (t : TG) : Prop :=
  ∀ (pins : List (Addr × Obj)) (s : Shared) (σ : St) (H : Hp) (v : V) (u : Value) (Q : St → Hp → Prop), Inv X pins σ H s → RelV v u → t v σ H Q →
    wpAny (model X.prog X.w) X.A (assign target X.env u) (fun _ s' => ∃ σ' H', Inv X pins σ' H' s' ∧ Q σ' H') X.xe s
/-- several targets, one after another -/
def PGs (X : Cx) (ts : List Expr) (t : TGs) : Prop :=
  ∀ (pins : List (Addr × Obj)) (s : Shared) (σ : St) (H : Hp) (vs : List V) (us : List Value) (Q : St → Hp → Prop), Inv X pins σ H s → Vals vs us → t vs σ H Q →
    wpAny (model X.prog X.w) X.A (assignInOrder ((assignEach ts X.env).map (·.2)) us) (fun _ s' => ∃ σ' H', Inv X pins σ' H' s' ∧ Q σ' H') X.xe s
section
variable {X : Cx} {pos : Pos}
def gName (i : Nat) : TG := fun v σ H Q => Q (σ.set i (some v)) H
theorem pg_name {i : Nat} {x : Str} (hN : X.N.Nodup) (hi : X.N[i]? = some x) (hx : Loc X.env.scope x) (hf : X.fn x = true ∨ X.env.scope.names.lookup x = some .local := by first | exact .inl rfl | exact .inr rfl | assumption) : PG X (.Name x pos) (gName i) := by
  intro pins s σ H v u Q I r h
  exact wpAny_assign_Name (store_ok I hN hi hx r (fun s' I' => ⟨_, H, I', h⟩) hf)
def gNil : TGs := fun vs σ H Q => vs = [] ∧ Q σ H
def gCons (t : TG) (u : TGs) : TGs := fun vs σ H Q => ∃ v r, vs = v :: r ∧ t v σ H fun σ' H' => u r σ' H' Q
theorem pgs_nil : PGs X [] gNil := by
  intro pins s σ H vs us Q I r h
  obtain ⟨e, h⟩ := h
  subst e
  cases r
  exact assignInOrder_nil ⟨σ, H, I, h⟩
theorem pgs_cons {e : Expr} {es : List Expr} {t : TG} {u : TGs} (h1 : PG X e t) (h2 : PGs X es u)
    (hs : (assignEach (e :: es) X.env).map (·.2) = assign e X.env :: (assignEach es X.env).map (·.2) := by rfl) : PGs X (e :: es) (gCons t u) := by
  intro pins s σ H vs us Q I r h
  obtain ⟨v, vr, e1, h⟩ := h
  subst e1
  cases r with
  | cons r rr =>
    rw [hs]
    refine assignInOrder_cons (thn (h1 pins s σ H _ _ _ I r h) fun _ s1 ⟨σ1, H1, I1, q1⟩ => ?_)
    exact h2 pins s1 σ1 H1 _ _ Q I1 rr q1
/-- (a, b, ..) = a tuple of that length -/
def gTup (K : PySem.W.Frag) (n : Nat) (t : TGs) : TG := fun v σ H Q => ∃ a xs, v = .ref a ∧ SqT K H a xs ∧ xs.length = n ∧ t xs σ H Q
theorem pg_tup {es : List Expr} {k : Nat} {t : TGs} {n : Nat} (hc : X.calm = true) (h : PGs X es t)
    (hn : (assignEach es X.env).length = n := by rfl) (hst : (assignEach es X.env).findIdx? (·.1) = none := by rfl) : PG X (.Tuple es k pos) (gTup X.K n t) := by
  intro pins s σ H v u Q I r hw
  obtain ⟨a, xs, e1, hq, hl, hw⟩ := hw
  subst e1
  cases r
  obtain ⟨its, rv, ht, hz⟩ := I.tuple hq
  refine assign_Tuple_tuple (I.ok.hd hc) ht (by simp [hn, ← hl, rv.length]) hst fun h' hx => ?_
  have I1 : Inv X pins σ H { s with heap := h' } := I.kept (t' := s.toks) fun b o e => hx b o (Nat.ne_of_lt (Heap.lt_size e)) e
  exact h pins _ σ H xs _ Q I1 (by simpa using rv) hw
/-- target = value -/
def tAsg (te : TE) (g : TG) : TS := fun D σ H => te σ H fun x H1 => g x σ H1 D.nx
theorem ps_asg {tg e : Expr} {te : TE} {g : TG} (he : PE X e te) (hg : PG X tg g) (hs : swapsWithSole [tg] e pos.line X.env = pure false := by rfl) (hw : swappedStores [tg] e X.env = pure none := by rfl)
    (h1 : (assignEach [tg] X.env).map (·.2) = [assign tg X.env] := by rfl) : PS X (.Assign [tg] e pos) (tAsg te g) := by
  intro pins s σ H D I h
  refine wpAny_Assign_stores (thn (he pins s σ H _ I h) fun v s1 ⟨x, H1, I1, r1, q1⟩ => ?_) hs hw
  rw [h1]
  exact thn (hg pins s1 σ H1 x v _ I1 r1 q1) fun _ s2 q => q
/-- name = value -/
theorem ps_set {i : Nat} {x : Str} {e : Expr} {te : TE} {pos' : Pos} (hN : X.N.Nodup) (hi : X.N[i]? = some x) (hx : Loc X.env.scope x) (he : PE X e te) (hs : swapsWith e (some (.Name x pos')) pos.line X.env = pure false := by rfl) (hf : X.fn x = true ∨ X.env.scope.names.lookup x = some .local := by first | exact .inl rfl | exact .inr rfl | assumption) :
    PS X (.Assign [.Name x pos'] e pos) (tAsg te (gName i)) := by
  intro pins s σ H D I h
  refine wpAny_Assign_Name (thn (he pins s σ H _ I h) fun v s1 ⟨y, H1, I1, r1, q1⟩ => ?_) hs
  exact store_ok I1 hN hi hx r1 (fun s2 I2 => ⟨_, H1, I2, q1⟩) hf
end

/-! ### while -/
section
variable {X : Cx} {pos : Pos}
end

/-! ### what a loop or a comprehension walks -/
/-- at turn i: it yields x (the heap may grow), or it stops -/
structure It where
  go : Nat → Hp → Prop
  yld : Nat → Hp → V → Hp → Prop
  stop : Nat → Hp → Prop
/-- the iterator's own objects may turn: they are not the frame's, not pinned, younger than the entry (or a comprehension's own) -/
def FpOk (X : Cx) (pins : List (Addr × Obj)) (H : Hp) (b : Addr) : Prop :=
  H b = none ∧ b ≠ X.env.locals ∧ b ∉ X.fs ∧ (b ∈ X.ex ∨ X.s₀.heap.objs.size ≤ b) ∧ (∀ x c, X.env.cells.lookup x = some c → c ≠ b) ∧ ∀ p ∈ X.pn ++ pins, p.1 ≠ b
theorem Inv.fpOk {X : Cx} {pins : List (Addr × Obj)} {σ : St} {H H' : Hp} {s : Shared} {b : Addr} (I : Inv X pins σ H s) (hb : s.heap.objs.size ≤ b) (hn : H' b = none) : FpOk X pins H' b := by
  refine ⟨hn, Nat.ne_of_gt (Nat.lt_of_lt_of_le I.lt hb), I.nofs hb, .inr (Nat.le_trans I.sz hb), fun x c e z => ?_, fun p hp z => ?_⟩
  · obtain ⟨v, q⟩ := I.cell x c e
    exact absurd (Nat.lt_of_lt_of_le q.lt (by rw [z]; exact hb)) (Nat.lt_irrefl _)
  · exact absurd (Nat.lt_of_lt_of_le (Heap.lt_size (I.pin p hp).1) (by rw [z]; exact hb)) (Nat.lt_irrefl _)
structure Turn (P : Program) (w : World) (K : PySem.W.Frag) (tg : Expr) (J : It) (fp : List Addr) (it : Addr) (tn : Nat → Heap → Prop) : Prop where
  mem : it ∈ fp
  obj : ∀ i h, tn i h → ∀ b ∈ fp, ∃ o, h.get? b = some o ∧ ∀ v, o.data ≠ .cell v
  keep : ∀ i h h', tn i h → (∀ b ∈ fp, ∀ o, h.get? b = some o → h'.get? b = some o) → tn i h'
  item : ∀ (X : Cx), X.prog = P → X.w = w → X.K = K → X.calm = true → ∀ (i : Nat) (pins : List (Addr × Obj)) (s : Shared) (σ : St) (H : Hp) (E : Value → Shared → Prop), Inv X pins σ H s → (∀ b ∈ fp, FpOk X pins H b) → tn i s.heap → J.go i H →
    wpAny (model P w) X.A (pyNext (.ref it)) (fun r s1 => ∃ u, r = some u ∧
      wpAny (model P w) X.A (letOwnedTupleGo tg (.ref it) u) (fun _ s2 => ∃ x H', Inv X pins σ H' s2 ∧ RelV x u ∧ J.yld i H x H' ∧ tn (i + 1) s2.heap ∧ ∀ b ∈ fp, H' b = none) E s1) E s
  done : ∀ (X : Cx), X.prog = P → X.w = w → X.K = K → X.calm = true → ∀ (i : Nat) (pins : List (Addr × Obj)) (s : Shared) (σ : St) (H : Hp) (E : Value → Shared → Prop), Inv X pins σ H s → (∀ b ∈ fp, FpOk X pins H b) → tn i s.heap → J.stop i H →
    wpAny (model P w) X.A (pyNext (.ref it)) (fun r s1 => r = none ∧ Inv X pins σ H s1) E s
  self : ∀ (A : Around) (i : Nat) (s : Shared) (Q : Value → Shared → Prop) (E : Value → Shared → Prop), tn i s.heap → Q (.ref it) s → wpAny (model P w) A (pyIter (.ref it)) Q E s
abbrev TI := St → Hp → (It → Hp → Prop) → Prop
/-- an iterator has come -/
def PIE (X : Cx) (pins : List (Addr × Obj)) (σ : St) (tg : Expr) (R : It → Hp → Prop) (itv : Value) (s2 : Shared) : Prop :=
  ∃ (it : Addr) (fp : List Addr) (tn : Nat → Heap → Prop) (J : It) (H' : Hp), itv = .ref it ∧ Inv X pins σ H' s2 ∧ Turn X.prog X.w X.K tg J fp it tn ∧ tn 0 s2.heap ∧ (∀ b ∈ fp, FpOk X pins H' b) ∧ R J H'
def PI (X : Cx) (tg iter : Expr) (wi : TI) : Prop :=
  ∀ (pins : List (Addr × Obj)) (s : Shared) (σ : St) (H : Hp) (R : It → Hp → Prop), Inv X pins σ H s → wi σ H R →
    wpAny (model X.prog X.w) X.A (eval iter X.env) (fun v s1 => wpAny (model X.prog X.w) X.A (pyIter v) (PIE X pins σ tg R) X.xe s1) X.xe s

/-- the step ahead of the store is nothing for an iterator that keeps no tuple -/
theorem go_of {M : Model} {A : Around} {E : Value → Shared → Prop} {s : Shared} {tg : Expr} {it : Addr} {u : Value} {o : Obj} {n : String} {vs : Array Value} {Q : Unit → Shared → Prop} (ho : s.heap.get? it = some o) (hc : o.cls = .type n) (hd : o.data = .fields vs)
    (hn : ["enumerate", "zip", "dict_itemiterator", "dict_reverseitemiterator", "odict_iterator", "itertools.zip_longest", "itertools.pairwise"].contains n = false) (hQ : Q () s) : wpAny M A (letOwnedTupleGo tg (.ref it) u) Q E s := by
  unfold letOwnedTupleGo
  cases tg <;> first
    | exact wpAny_pure hQ
    | (cases u <;> first
        | exact wpAny_pure hQ
        | (refine wpAny_bind (wpAny_load ho ?_)
           rw [hc, hd]
           show wpAny M A (if (["enumerate", "zip", "dict_itemiterator", "dict_reverseitemiterator", "odict_iterator", "itertools.zip_longest", "itertools.pairwise"].contains n && vs[0]? == some (rawInt _)) = true then _ else _) Q E s
           rw [if_neg (by intro h; rw [hn, Bool.false_and] at h; cases h)]
           exact wpAny_pure hQ))

/-- the list at a, as it stands at each turn (a loop may append to it) -/
def Itl (K : PySem.W.Frag) (a : Addr) : It :=
  ⟨fun i H => ∃ xs x, SqL K H a xs ∧ xs[i]? = some x, fun i H x H' => H' = H ∧ ∀ xs, SqL K H a xs → xs[i]? = some x, fun i H => ∃ xs, SqL K H a xs ∧ xs.length ≤ i⟩
def Itt (K : PySem.W.Frag) (a : Addr) : It :=
  ⟨fun i H => ∃ xs x, SqT K H a xs ∧ xs[i]? = some x, fun i H x H' => H' = H ∧ ∀ xs, SqT K H a xs → xs[i]? = some x, fun i H => ∃ xs, SqT K H a xs ∧ xs.length ≤ i⟩
/-- lo, lo + 1, .. (n of them) -/
def Itr (lo : Int) (n : Nat) : It := ⟨fun i _ => i < n, fun i H x H' => H' = H ∧ x = .int (lo + i), fun i _ => n ≤ i⟩
theorem turn_list {P : Program} {w : World} {K : PySem.W.Frag} {tg : Expr} (a it : Addr) : Turn P w K tg (Itl K a) [it] it (fun i h => h.IsListIter it a i) where
  mem := by simp
  obj := fun i h st b hb => by
    have e : b = it := by simpa using hb
    subst e
    obtain ⟨o, e, c, d⟩ := st
    exact ⟨o, e, fun v z => by rw [d] at z; cases z⟩
  keep := fun i h h' st k => st.at fun o e => k it (by simp) o e
  item := by
    intro X hP hw hK hc i pins s σ H E I hf st hg
    subst hP hw hK
    obtain ⟨xs, x, hq, hx⟩ := hg
    obtain ⟨its, rv, p, hz⟩ := I.list hq
    obtain ⟨u, hu, ru⟩ := rv.get hx
    obtain ⟨f0, f1, f2, f3, f4, f5⟩ := hf it (by simp)
    refine wpAny_pyNext_list_item st p.isList (x := u) (by simpa using hu) fun h' st' sb => ?_
    have I1 : Inv X pins σ H { s with heap := h' } := I.turned (t' := s.toks) (fun b o hb e => (sb.2 b hb).trans e) f0 f1 f3 f4 f5
    obtain ⟨o, e, c, d⟩ := id st'
    exact ⟨u, rfl, go_of (s := { s with heap := h' }) e c d (by decide) ⟨x, H, I1, ru, ⟨rfl, fun ys hy => by rw [I.list_inj hy hq]; exact hx⟩, st', fun b hb => (hf b hb).1⟩⟩
  done := by
    intro X hP hw hK hc i pins s σ H E I hf st hg
    subst hP hw hK
    obtain ⟨xs, hq, hx⟩ := hg
    obtain ⟨its, rv, p, hz⟩ := I.list hq
    obtain ⟨f0, f1, f2, f3, f4, f5⟩ := hf it (by simp)
    have hl := rv.length
    exact wpAny_pyNext_list_end (I.ok.hd hc) st p.isList (by simp; omega) fun h' eb => ⟨rfl, I.turned (t' := s.toks) (fun b o hb e => eb b o hb e) f0 f1 f3 f4 f5⟩
  self := fun _ _ _ _ _ st h => wpAny_pyIter_listiter st h
theorem turn_tuple {P : Program} {w : World} {K : PySem.W.Frag} {tg : Expr} (a it : Addr) : Turn P w K tg (Itt K a) [it] it (fun i h => h.IsTupleIter it a i) where
  mem := by simp
  obj := fun i h st b hb => by
    have e : b = it := by simpa using hb
    subst e
    obtain ⟨o, e, c, d⟩ := st
    exact ⟨o, e, fun v z => by rw [d] at z; cases z⟩
  keep := fun i h h' st k => st.at fun o e => k it (by simp) o e
  item := by
    intro X hP hw hK hc i pins s σ H E I hf st hg
    subst hP hw hK
    obtain ⟨xs, x, hq, hx⟩ := hg
    obtain ⟨its, rv, p, hz⟩ := I.tuple hq
    obtain ⟨u, hu, ru⟩ := rv.get hx
    obtain ⟨f0, f1, f2, f3, f4, f5⟩ := hf it (by simp)
    refine wpAny_pyNext_tuple_item st (show s.heap.IsTuple a its.toArray from p) (x := u) (by simpa using hu) fun h' st' sb => ?_
    have I1 : Inv X pins σ H { s with heap := h' } := I.turned (t' := s.toks) (fun b o hb e => (sb.2 b hb).trans e) f0 f1 f3 f4 f5
    obtain ⟨o, e, c, d⟩ := id st'
    exact ⟨u, rfl, go_of (s := { s with heap := h' }) e c d (by decide) ⟨x, H, I1, ru, ⟨rfl, fun ys hy => by rw [I.tuple_inj hy hq]; exact hx⟩, st', fun b hb => (hf b hb).1⟩⟩
  done := by
    intro X hP hw hK hc i pins s σ H E I hf st hg
    subst hP hw hK
    obtain ⟨xs, hq, hx⟩ := hg
    obtain ⟨its, rv, p, hz⟩ := I.tuple hq
    obtain ⟨f0, f1, f2, f3, f4, f5⟩ := hf it (by simp)
    have hl := rv.length
    exact wpAny_pyNext_tuple_end (I.ok.hd hc) st (show s.heap.IsTuple a its.toArray from p) (by simp; omega) fun h' eb => ⟨rfl, I.turned (t' := s.toks) (fun b o hb e => eb b o hb e) f0 f1 f3 f4 f5⟩
  self := fun _ _ _ _ _ st h => wpAny_pyIter_tupleiter st h
theorem turn_range {P : Program} {w : World} {K : PySem.W.Frag} {tg : Expr} (it : Addr) (lo : Int) (n : Nat) : Turn P w K tg (Itr lo n) [it] it (fun i h => IsRangeIter h it (lo + (i : Nat) * 1) ((n : Int) - (i : Nat)) 1) where
  mem := by simp
  obj := fun i h st b hb => by
    have e : b = it := by simpa using hb
    subst e
    exact ⟨_, st, fun v z => by
      have z' : Data.fields _ = Data.cell v := z
      cases z'⟩
  keep := fun i h h' st k => k it (by simp) _ st
  item := by
    intro X hP hw hK hc i pins s σ H E I hf st hg
    subst hP hw hK
    obtain ⟨f0, f1, f2, f3, f4, f5⟩ := hf it (by simp)
    have W := Walks.range (prog := X.prog) (w := X.w) (I.ok.hd hc) it lo 1 n
    refine W.item i s _ _ hg st fun v h' tk hv st' kk => ?_
    obtain ⟨t, rfl⟩ := hv
    have I1 : Inv X pins σ H { s with heap := h', toks := tk } := I.turned (fun b o hb e => kk b o (by simpa using hb) e) f0 f1 f3 f4 f5
    refine ⟨_, rfl, go_of (s := { s with heap := h', toks := tk }) (n := "range_iterator") st' rfl rfl (by decide) ⟨.int (lo + i), H, I1, ⟨t, ?_⟩, ⟨rfl, rfl⟩, st', fun b hb => (hf b hb).1⟩⟩
    rw [Int.mul_one]
  done := by
    intro X hP hw hK hc i pins s σ H E I hf st hg
    subst hP hw hK
    obtain ⟨f0, f1, f2, f3, f4, f5⟩ := hf it (by simp)
    exact wpAny_pyNext_range_end (I.ok.hd hc) st (by have : n ≤ i := hg; omega) fun h' eb => ⟨rfl, I.turned (t' := s.toks) (fun b o hb e => eb b o hb e) f0 f1 f3 f4 f5⟩
  self := fun _ _ _ _ _ st h => wpAny_pyIter_rangeiter st h
end L2

namespace L2
open PySem PySem.Spec PyProof.Rows
section
variable {X : Cx} {tg : Expr}
def iList (K : PySem.W.Frag) (tl : TE) : TI := fun σ H R => tl σ H fun x H1 => ∃ a, x = .ref a ∧ (∃ xs, SqL K H1 a xs) ∧ R (Itl K a) H1
def iTup (K : PySem.W.Frag) (tl : TE) : TI := fun σ H R => tl σ H fun x H1 => ∃ a, x = .ref a ∧ (∃ xs, SqT K H1 a xs) ∧ R (Itt K a) H1
theorem pi_list {l : Expr} {tl : TE} (hl : PE X l tl) : PI X tg l (iList X.K tl) := by
  intro pins s σ H R I h
  refine thn (hl pins s σ H _ I h) fun v s1 ⟨x, H1, I1, r1, q1⟩ => ?_
  obtain ⟨a, e, ⟨xs, hq⟩, q⟩ := q1
  subst e
  cases r1
  obtain ⟨its, rv, p, hz⟩ := I1.list hq
  refine wpAny_pyIter_list p.isList ?_
  refine ⟨s1.heap.objs.size, [s1.heap.objs.size], _, _, H1, rfl, I1.kept (t' := s1.toks) fun b o e => Heap.get?_push_of_some _ e, turn_list a _, ⟨_, Heap.get?_push_size _ rfl, rfl, rfl⟩, fun b hb => ?_, q⟩
  have e : b = s1.heap.objs.size := by simpa using hb
  subst e
  exact I1.fpOk (Nat.le_refl _) (I1.hok.fresh (Nat.le_refl _))
theorem pi_tup {l : Expr} {tl : TE} (hl : PE X l tl) : PI X tg l (iTup X.K tl) := by
  intro pins s σ H R I h
  refine thn (hl pins s σ H _ I h) fun v s1 ⟨x, H1, I1, r1, q1⟩ => ?_
  obtain ⟨a, e, ⟨xs, hq⟩, q⟩ := q1
  subst e
  cases r1
  obtain ⟨its, rv, p, hz⟩ := I1.tuple hq
  refine wpAny_pyIter_tuple (show s1.heap.IsTuple a its.toArray from p) ?_
  refine ⟨s1.heap.objs.size, [s1.heap.objs.size], _, _, H1, rfl, I1.kept (t' := s1.toks) fun b o e => Heap.get?_push_of_some _ e, turn_tuple a _, ⟨_, Heap.get?_push_size _ rfl, rfl, rfl⟩, fun b hb => ?_, q⟩
  have e : b = s1.heap.objs.size := by simpa using hb
  subst e
  exact I1.fpOk (Nat.le_refl _) (I1.hok.fresh (Nat.le_refl _))
/-- a range object just made, walked -/
theorem range_it {pins : List (Addr × Obj)} {σ : St} {H : Hp} {s : Shared} {R : It → Hp → Prop} {E : Value → Shared → Prop} {lo hi : Int} {t u v : Tok} {tk : Nat} (I : Inv X pins σ H s) (h1 : -(2 ^ 62) ≤ lo) (h2 : lo < 2 ^ 62) (h3 : -(2 ^ 62) ≤ hi) (h4 : hi < 2 ^ 62)
    (q : R (Itr lo (hi - lo).toNat) H) : wpAny (model X.prog X.w) X.A (pyIter (.ref s.heap.objs.size)) (PIE X pins σ tg R) E { s with heap := s.heap.push { cls := .type "range", data := .fields #[.int lo t, .int hi u, .int 1 v] }, toks := tk } := by
  refine wpAny_pyIter_range (IsRange.new ..) (small_one h1 h2 h3 h4) ?_
  have I1 : Inv X pins σ H { s with heap := s.heap.push { cls := .type "range", data := .fields #[.int lo t, .int hi u, .int 1 v] }, toks := tk } := I.kept fun b o e => Heap.get?_push_of_some _ e
  refine ⟨(s.heap.push { cls := .type "range", data := .fields #[.int lo t, .int hi u, .int 1 v] }).objs.size, [(s.heap.push { cls := .type "range", data := .fields #[.int lo t, .int hi u, .int 1 v] }).objs.size], _, _, H, rfl,
    I1.kept (t' := tk) fun b o e => Heap.get?_push_of_some _ e, turn_range _ lo (hi - lo).toNat, ?_, fun b hb => ?_, q⟩
  · have e1 : lo + ((0 : Nat) : Int) * 1 = lo := by simp
    have e2 : (((hi - lo).toNat : Nat) : Int) - ((0 : Nat) : Int) = Builtin.Range.rangeSize lo hi 1 := by rw [rangeSize_one]; split <;> omega
    show IsRangeIter _ _ (lo + ((0 : Nat) : Int) * 1) ((((hi - lo).toNat : Nat) : Int) - ((0 : Nat) : Int)) 1
    rw [e1, e2]
    exact Heap.get?_push_size _ rfl
  · have e : b = (s.heap.push { cls := .type "range", data := .fields #[.int lo t, .int hi u, .int 1 v] }).objs.size := by simpa using hb
    subst e
    exact I1.fpOk (Nat.le_refl _) (I1.hok.fresh (Nat.le_refl _))
def iRng1 (ta : TA) : TI := fun σ H R => ta σ H fun vs H1 => ∃ j : Int, vs = [.int j] ∧ -(2 ^ 62) ≤ j ∧ j < 2 ^ 62 ∧ R (Itr 0 j.toNat) H1
theorem pi_range1 {a : Expr} {ta : TA} {p pos : Pos} (hg : Gl X "range") (hm : X.mg "range" = none) (ha : PA X [a] ta) (hs : starEach [a] X.env = [(false, eval a X.env)] := by rfl) : PI X tg (.Call (.Name "range" p) [a] [] pos) (iRng1 ta) := by
  intro pins s σ H R I h
  refine Call_ (ld_blt I hg hm boot_range (PyProof.Rows.callWith_type1 (thn (ha pos pins s σ H _ I h) fun us s1 ⟨vs, H1, I1, r1, q1⟩ => ?_) hs rfl))
  obtain ⟨j, e, q1, q2, q⟩ := q1
  subst e
  cases r1 with
  | cons r rr =>
    cases rr
    obtain ⟨t, rfl⟩ := r
    exact call_range_1 (range_it I1 (by omega) (by omega) q1 q2 (by simpa using q))
/-! ### for -/
/-- W: the invariant by the turn and a measure; N: what the body is to reach -/
def tFor (wi : TI) (g : TG) (tb : TS) : TS := fun D σ H => wi σ H fun J H1 => ∃ W : Nat → Nat → St → Hp → Prop, (∃ m, W 0 m σ H1) ∧ ∀ i m σ H, W i m σ H →
  (J.stop i H ∧ D.nx σ H) ∨ (J.go i H ∧ ∃ N : St → Hp → Prop, (∀ σ' H', N σ' H' → ∃ m', m' < m ∧ W (i + 1) m' σ' H') ∧ ∀ x H', J.yld i H x H' → g x σ H' fun σ2 H2 => tb { D with nx := N, ct := N, bk := D.nx } σ2 H2)
/-- the records at fp as they stand -/
def pinsAt (fp : List Addr) (h : Heap) : List (Addr × Obj) := fp.filterMap fun b => (h.get? b).map fun o => (b, o)
theorem mem_pinsAt {fp : List Addr} {h : Heap} {b : Addr} {o : Obj} (hb : b ∈ fp) (e : h.get? b = some o) : (b, o) ∈ pinsAt fp h := List.mem_filterMap.mpr ⟨b, hb, by rw [e]; rfl⟩
theorem of_pinsAt {fp : List Addr} {h : Heap} {p : Addr × Obj} (hp : p ∈ pinsAt fp h) : p.1 ∈ fp ∧ h.get? p.1 = some p.2 := by
  obtain ⟨b, hb, e⟩ := List.mem_filterMap.mp hp
  cases q : h.get? b with
  | none => rw [q] at e; cases e
  | some o =>
    rw [q] at e
    have e' : (b, o) = p := Option.some.inj e
    subst e'
    exact ⟨hb, q⟩
theorem Inv.pinned {pins : List (Addr × Obj)} {σ : St} {H : Hp} {s : Shared} {fp : List Addr} (I : Inv X pins σ H s) (hf : ∀ b ∈ fp, FpOk X pins H b) (ho : ∀ b ∈ fp, ∃ o, s.heap.get? b = some o ∧ ∀ v, o.data ≠ .cell v) : Inv X (pins ++ pinsAt fp s.heap) σ H s :=
  I.pins_of fun p hp => (List.mem_append.mp hp).elim (fun z => I.pin p (List.mem_append_right _ z)) fun z => by
    obtain ⟨hb, e⟩ := of_pinsAt z
    obtain ⟨f0, f1, f2, _⟩ := hf p.1 hb
    obtain ⟨o, e', d⟩ := ho p.1 hb
    rw [e] at e'; cases e'
    exact ⟨e, f0, f1, f2, d⟩
theorem Inv.unpinned {pins pl : List (Addr × Obj)} {σ : St} {H : Hp} {s : Shared} (I : Inv X (pins ++ pl) σ H s) : Inv X pins σ H s := I.pins_of fun p hp => I.pin p (List.mem_append_right _ (List.mem_append_left _ hp))
theorem ps_for {iter : Expr} {body : List Stmt} {wi : TI} {g : TG} {tb : TS} {pos : Pos} (hp : PassesOwn (model X.prog X.w) X.A X.env X.xe) (hc : X.calm = true) (hi : PI X tg iter wi) (hg : PG X tg g) (hb : PSs X body tb)
    (hs : ∀ x, foldedSetIterable iter X.env x = pure x := by intro _; rfl) : PS X (.For tg iter body [] pos) (tFor wi g tb) := by
  intro pins s σ H D I h
  refine wpAny_For (thn (hi pins s σ H _ I h) fun v s1 h1 => thn h1 fun itv s2 h2 => ?_) hs
  obtain ⟨it, fp, tn, J, H2, e, I2, T, st2, f2, W, ⟨m0, w0⟩, turn⟩ := h2
  subst e
  -- what stays true of the iterator's objects through the loop
  have stat : ∀ {H' : Hp}, (∀ b ∈ fp, H' b = none) → ∀ b ∈ fp, FpOk X pins H' b := fun hn b hb => ⟨hn b hb, (f2 b hb).2⟩
  refine codeAny_forLoop_any (fun n s' => ∃ i σ' H', Inv X pins σ' H' s' ∧ tn i s'.heap ∧ (∀ b ∈ fp, H' b = none) ∧ W i n σ' H') ?_ m0 ⟨0, σ, H2, I2, st2, fun b hb => (f2 b hb).1, w0⟩
  rintro n s3 ⟨i, σ3, H3, I3, st3, fr3, w3⟩
  rcases turn i n σ3 H3 w3 with ⟨stop, qn⟩ | ⟨go, N, hN, step⟩
  · refine wpAny_passesOwn hp (thn (T.done X rfl rfl rfl hc i pins s3 σ3 H3 X.xe I3 (stat fr3) st3 stop) fun r s4 ⟨hr, I4⟩ => ?_)
    subst hr
    exact wpAny_execs_nil ⟨σ3, H3, I4, qn⟩
  · refine wpAny_passesOwn hp (thn (T.item X rfl rfl rfl hc i pins s3 σ3 H3 X.xe I3 (stat fr3) st3 go) fun r s4 ⟨u, hr, h4⟩ => ?_)
    subst hr
    refine wpAny_passesOwn hp (thn h4 fun _ s5 ⟨x, H5, I5, r5, y5, st5, fr5⟩ => ?_)
    have I5' := I5.pinned (stat fr5) (T.obj _ _ st5)
    refine wpAny_passesOwn hp (thn (hg _ s5 σ3 H5 x u _ I5' r5 (step x H5 y5)) fun _ s6 ⟨σ6, H6, I6, q6⟩ => ?_)
    refine wpAny_passesOwn hp (thn (hb _ s6 σ6 H6 _ I6 q6) fun f s7 q7 => ?_)
    have again : ∀ {σ7 : St} {H7 : Hp}, Inv X (pins ++ pinsAt fp s5.heap) σ7 H7 s7 → N σ7 H7 → ∃ m, m < n ∧ ∃ i σ' H', Inv X pins σ' H' s7 ∧ tn i s7.heap ∧ (∀ b ∈ fp, H' b = none) ∧ W i m σ' H' := fun {σ7 H7} I7 n7 => by
      obtain ⟨m', hm, w7⟩ := hN σ7 H7 n7
      refine ⟨m', hm, i + 1, σ7, H7, I7.unpinned, T.keep _ _ _ st5 fun b hb o e => (I7.pin (b, o) (List.mem_append_right _ (List.mem_append_right _ (mem_pinsAt hb e)))).1, fun b hb => ?_, w7⟩
      obtain ⟨o, e, d⟩ := T.obj _ _ st5 b hb
      exact (I7.pin (b, o) (List.mem_append_right _ (List.mem_append_right _ (mem_pinsAt hb e)))).2.1
    cases f with
    | next => obtain ⟨σ7, H7, I7, n7⟩ := q7; exact again I7 n7
    | cont => obtain ⟨σ7, H7, I7, n7⟩ := q7; exact again I7 n7
    | brk => obtain ⟨σ7, H7, I7, q7⟩ := q7; exact ⟨σ7, H7, I7.unpinned, q7⟩
    | ret v => obtain ⟨x7, σ7, H7, I7, r7, q7⟩ := q7; exact ⟨x7, σ7, H7, I7.unpinned, r7, q7⟩
end

/-! ### the forms one uses -/
/-- over a list that the body leaves as it is -/
theorem for_list {K : PySem.W.Frag} {a : Addr} {xs : List V} {g : TG} {tb : TS} {D : Ends} {σ : St} {H : Hp} (Pv : Nat → St → Hp → Prop) (h0 : Pv 0 σ H) (hl : ∀ i σ H, i ≤ xs.length → Pv i σ H → SqL K H a xs)
    (hs : ∀ i x σ H, xs[i]? = some x → Pv i σ H → g x σ H fun σ2 H2 => tb { D with nx := Pv (i + 1), ct := Pv (i + 1), bk := D.nx } σ2 H2) (hd : ∀ σ H, Pv xs.length σ H → D.nx σ H) :
    ∃ W : Nat → Nat → St → Hp → Prop, (∃ m, W 0 m σ H) ∧ ∀ i m σ H, W i m σ H →
      ((Itl K a).stop i H ∧ D.nx σ H) ∨ ((Itl K a).go i H ∧ ∃ N : St → Hp → Prop, (∀ σ' H', N σ' H' → ∃ m', m' < m ∧ W (i + 1) m' σ' H') ∧ ∀ x H', (Itl K a).yld i H x H' → g x σ H' fun σ2 H2 => tb { D with nx := N, ct := N, bk := D.nx } σ2 H2) := by
  refine ⟨fun i m σ H => m = xs.length - i ∧ i ≤ xs.length ∧ Pv i σ H, ⟨xs.length, by simp, Nat.zero_le _, h0⟩, ?_⟩
  rintro i m σ H ⟨rfl, hi, p⟩
  have q := hl i σ H hi p
  by_cases hlt : i < xs.length
  · refine .inr ⟨⟨xs, xs[i], q, by simp [hlt]⟩, Pv (i + 1), fun σ' H' p' => ⟨xs.length - (i + 1), by omega, rfl, hlt, p'⟩, fun x H' y => ?_⟩
    obtain ⟨e, y⟩ := y
    subst e
    exact hs i x σ _ (y xs q) p
  · have e : i = xs.length := by omega
    subst e
    exact .inl ⟨⟨xs, q, Nat.le_refl _⟩, hd σ H p⟩
theorem for_tup {K : PySem.W.Frag} {a : Addr} {xs : List V} {g : TG} {tb : TS} {D : Ends} {σ : St} {H : Hp} (Pv : Nat → St → Hp → Prop) (h0 : Pv 0 σ H) (hl : ∀ i σ H, i ≤ xs.length → Pv i σ H → SqT K H a xs)
    (hs : ∀ i x σ H, xs[i]? = some x → Pv i σ H → g x σ H fun σ2 H2 => tb { D with nx := Pv (i + 1), ct := Pv (i + 1), bk := D.nx } σ2 H2) (hd : ∀ σ H, Pv xs.length σ H → D.nx σ H) :
    ∃ W : Nat → Nat → St → Hp → Prop, (∃ m, W 0 m σ H) ∧ ∀ i m σ H, W i m σ H →
      ((Itt K a).stop i H ∧ D.nx σ H) ∨ ((Itt K a).go i H ∧ ∃ N : St → Hp → Prop, (∀ σ' H', N σ' H' → ∃ m', m' < m ∧ W (i + 1) m' σ' H') ∧ ∀ x H', (Itt K a).yld i H x H' → g x σ H' fun σ2 H2 => tb { D with nx := N, ct := N, bk := D.nx } σ2 H2) := by
  refine ⟨fun i m σ H => m = xs.length - i ∧ i ≤ xs.length ∧ Pv i σ H, ⟨xs.length, by simp, Nat.zero_le _, h0⟩, ?_⟩
  rintro i m σ H ⟨rfl, hi, p⟩
  have q := hl i σ H hi p
  by_cases hlt : i < xs.length
  · refine .inr ⟨⟨xs, xs[i], q, by simp [hlt]⟩, Pv (i + 1), fun σ' H' p' => ⟨xs.length - (i + 1), by omega, rfl, hlt, p'⟩, fun x H' y => ?_⟩
    obtain ⟨e, y⟩ := y
    subst e
    exact hs i x σ _ (y xs q) p
  · have e : i = xs.length := by omega
    subst e
    exact .inl ⟨⟨xs, q, Nat.le_refl _⟩, hd σ H p⟩
theorem for_range {lo : Int} {n : Nat} {g : TG} {tb : TS} {D : Ends} {σ : St} {H : Hp} (Pv : Nat → St → Hp → Prop) (h0 : Pv 0 σ H)
    (hs : ∀ i σ H, i < n → Pv i σ H → g (.int (lo + i)) σ H fun σ2 H2 => tb { D with nx := Pv (i + 1), ct := Pv (i + 1), bk := D.nx } σ2 H2) (hd : ∀ σ H, Pv n σ H → D.nx σ H) :
    ∃ W : Nat → Nat → St → Hp → Prop, (∃ m, W 0 m σ H) ∧ ∀ i m σ H, W i m σ H →
      ((Itr lo n).stop i H ∧ D.nx σ H) ∨ ((Itr lo n).go i H ∧ ∃ N : St → Hp → Prop, (∀ σ' H', N σ' H' → ∃ m', m' < m ∧ W (i + 1) m' σ' H') ∧ ∀ x H', (Itr lo n).yld i H x H' → g x σ H' fun σ2 H2 => tb { D with nx := N, ct := N, bk := D.nx } σ2 H2) := by
  refine ⟨fun i m σ H => m = n - i ∧ i ≤ n ∧ Pv i σ H, ⟨n, by simp, Nat.zero_le _, h0⟩, ?_⟩
  rintro i m σ H ⟨rfl, hi, p⟩
  by_cases hlt : i < n
  · refine .inr ⟨hlt, Pv (i + 1), fun σ' H' p' => ⟨n - (i + 1), by omega, rfl, hlt, p'⟩, fun x H' y => ?_⟩
    obtain ⟨e, y⟩ := y
    subst e y
    exact hs i σ _ hlt p
  · have e : i = n := by omega
    subst e
    exact .inl ⟨Nat.le_refl _, hd σ H p⟩
end L2

namespace L2
open PySem PySem.Spec PyProof.Rows

abbrev R2 := V → V → Hp → VK → Prop
/-- a two-place operation on values: f is binaryOp op, inplaceOp op or compareOp op -/
def OpR (X : Cx) (f : Value → Value → Sem Value) (r : R2) : Prop :=
  ∀ (pins : List (Addr × Obj)) (s : Shared) (σ : St) (H : Hp) (x y : V) (v u : Value) (Q : VK), Inv X pins σ H s → RelV x v → RelV y u → r x y H Q →
    wpAny (model X.prog X.w) X.A (f v u) (EP X pins σ Q) X.xe s
/-- a call of a value that is known (a builtin, a type) with values -/
def CallR (X : Cx) (f : Value) (r : List V → Hp → VK → Prop) : Prop :=
  ∀ (pins : List (Addr × Obj)) (s : Shared) (σ : St) (H : Hp) (xs : List V) (us : List Value) (Q : VK), Inv X pins σ H s → Vals xs us → r xs H Q →
    wpAny (model X.prog X.w) X.A (call f us) (EP X pins σ Q) X.xe s
def tOp (r : R2) (ta tb : TE) : TE := fun σ H Q => ta σ H fun x H1 => tb σ H1 fun y H2 => r x y H2 Q
/-- ints in, under C, and a value out -/
def rI (C : Int → Int → Prop) (g : Int → Int → V) : R2 := fun x y H Q => ∃ i j, x = .int i ∧ y = .int j ∧ C i j ∧ Q (g i j) H
def rI0 (g : Int → Int → V) : R2 := fun x y H Q => ∃ i j, x = .int i ∧ y = .int j ∧ Q (g i j) H
section
variable {X : Cx} {a b c : Expr} {ta tb tc : TE} {pos : Pos}

theorem binT (ha : PE X a ta) (hb : PE X b tb) {pins : List (Addr × Obj)} {s : Shared} {σ : St} {H : Hp} {R : V → V → Hp → Prop} (I : Inv X pins σ H s)
    (h : ta σ H fun x H1 => tb σ H1 fun y H2 => R x y H2) {Q : Value → Shared → Prop} {f : Value → Value → Sem Value}
    (hf : ∀ v u s2 x y H2, Inv X pins σ H2 s2 → RelV x v → RelV y u → R x y H2 → wpAny (model X.prog X.w) X.A (f v u) Q X.xe s2) :
    wpAny (model X.prog X.w) X.A (eval a X.env) (fun v s₁ => wpAny (model X.prog X.w) X.A (eval b X.env) (fun u s₂ => wpAny (model X.prog X.w) X.A (f v u) Q X.xe s₂) X.xe s₁) X.xe s := by
  refine thn (ha pins s σ H _ I h) fun v s1 ⟨x, H1, I1, r1, q1⟩ => ?_
  refine thn (hb pins s1 σ H1 _ I1 q1) fun u s2 ⟨y, H2, I2, r2, q2⟩ => ?_
  exact hf v u s2 x y H2 I2 r1 r2 q2

theorem pe_op {op : Operator} {r : R2} (ho : OpR X (binaryOp op) r) (ha : PE X a ta) (hb : PE X b tb) : PE X (.BinOp a op b pos) (tOp r ta tb) := by
  intro pins s σ H Q I h
  exact wpAny_BinOp (binT ha hb I h fun v u s2 x y H2 I2 rx ry q => ho pins s2 σ H2 x y v u Q I2 rx ry q)
/-! ### ints -/
theorem opI {f : Value → Value → Sem Value} {C : Int → Int → Prop} {g : Int → Int → Int}
    (rule : ∀ (i j : Int) (t u : Tok) (s : Shared) (Q : Value → Shared → Prop) (E : Value → Shared → Prop), C i j → Q (.int (g i j) s.toks) { s with toks := s.toks + 1 } → wpAny (model X.prog X.w) X.A (f (.int i t) (.int j u)) Q E s) :
    OpR X f (rI C fun i j => .int (g i j)) := by
  intro pins s σ H x y v u Q I rx ry h
  obtain ⟨i, j, rfl, rfl, hc, q⟩ := h
  obtain ⟨t, rfl⟩ := rx
  obtain ⟨t', rfl⟩ := ry
  exact rule i j t t' s _ _ hc ⟨.int (g i j), H, I.tok _, ⟨_, rfl⟩, q⟩
theorem opI0 {f : Value → Value → Sem Value} {g : Int → Int → Int}
    (rule : ∀ (i j : Int) (t u : Tok) (s : Shared) (Q : Value → Shared → Prop) (E : Value → Shared → Prop), Q (.int (g i j) s.toks) { s with toks := s.toks + 1 } → wpAny (model X.prog X.w) X.A (f (.int i t) (.int j u)) Q E s) :
    OpR X f (rI0 fun i j => .int (g i j)) := by
  intro pins s σ H x y v u Q I rx ry h
  obtain ⟨i, j, rfl, rfl, q⟩ := h
  obtain ⟨t, rfl⟩ := rx
  obtain ⟨t', rfl⟩ := ry
  exact rule i j t t' s _ _ ⟨.int (g i j), H, I.tok _, ⟨_, rfl⟩, q⟩
theorem opB0 {f : Value → Value → Sem Value} {g : Int → Int → Bool}
    (rule : ∀ (i j : Int) (t u : Tok) (s : Shared) (Q : Value → Shared → Prop) (E : Value → Shared → Prop), Q (.bool (g i j)) s → wpAny (model X.prog X.w) X.A (f (.int i t) (.int j u)) Q E s) :
    OpR X f (rI0 fun i j => .bl (g i j)) := by
  intro pins s σ H x y v u Q I rx ry h
  obtain ⟨i, j, rfl, rfl, q⟩ := h
  obtain ⟨t, rfl⟩ := rx
  obtain ⟨t', rfl⟩ := ry
  exact rule i j t t' s _ _ ⟨.bl (g i j), H, I, rfl, q⟩

def CDiv (i j : Int) : Prop := 0 < j ∧ j < 1073741824
def CMul (i j : Int) : Prop := (-(2 ^ 64) < i ∧ i < 2 ^ 64) ∨ (-(2 ^ 64) < j ∧ j < 2 ^ 64)
theorem CMul.ok {i j : Int} (h : CMul i j) : IntMulOk i j := by
  rcases h with ⟨h1, h2⟩ | ⟨h1, h2⟩
  · exact .of_left (intBits_le_64 h1 h2)
  · exact .of_right (intBits_le_64 h1 h2)
theorem op_add : OpR X (binaryOp .Add) (rI0 fun i j => .int (i + j)) := opI0 fun _ _ _ _ _ _ _ q => add_int q
theorem op_sub : OpR X (binaryOp .Sub) (rI0 fun i j => .int (i - j)) := opI0 fun _ _ _ _ _ _ _ q => sub_int q
theorem op_mul : OpR X (binaryOp .Mult) (rI CMul fun i j => .int (i * j)) := opI fun _ _ _ _ _ _ _ hc q => mul_int q hc.ok
/-- // by a positive divisor -/
theorem op_fdiv : OpR X (binaryOp .FloorDiv) (rI CDiv fun i j => .int (i / j)) := opI fun i j _ _ _ _ _ hc q => by
  have h1 : (0 : Int) < j := hc.1
  have h2 : j < 1073741824 := hc.2
  exact floordiv_int (by omega) (by rw [Int.fdiv_eq_ediv_of_nonneg i (by omega)]; exact q) (.inl (PyProof.noPylong_small (by omega)))
/-- % by a positive divisor of any size -/
theorem op_mod : OpR X (binaryOp .Mod) (rI (fun _ j => 0 < j) fun i j => .int (i % j)) := opI fun i j _ _ _ _ _ hc q => by
  have h1 : (0 : Int) < j := hc
  exact mod_int' (by omega) (by rw [Int.fmod_eq_emod_of_nonneg i (by omega)]; exact q)
/-! ### bools among ints: n += (a < b) -/
end

/-! ### comparisons -/
/-- the scalars that == tells apart as data does -/
def scal : V → V → Bool
  | .non, .non => true | .non, .int _ => true | .int _, .non => true | .non, .bl _ => true | .bl _, .non => true | .non, .str _ => true | .str _, .non => true
  | .int _, .int _ => true | .bl _, .bl _ => true | .str _, .str _ => true | .byt _, .byt _ => true
  | .int _, .str _ => true | .str _, .int _ => true | .bl _, .str _ => true | .str _, .bl _ => true
  | _, _ => false
def rEq : R2 := fun x y H Q => scal x y = true ∧ Q (.bl (decide (x = y))) H
def rNe : R2 := fun x y H Q => scal x y = true ∧ Q (.bl (!decide (x = y))) H

theorem dec_int {i j : Int} : decide (V.int i = V.int j) = (i == j) := by
  rw [Bool.eq_iff_iff]
  simp
theorem dec_bl {i j : Bool} : decide (V.bl i = V.bl j) = (i == j) := by
  rw [Bool.eq_iff_iff]
  simp
theorem dec_str {i j : Str} : decide (V.str i = V.str j) = (i == j) := by
  rw [Bool.eq_iff_iff]
  simp
theorem dec_byt {i j : Array UInt8} : decide (V.byt i = V.byt j) = (i.toList == j.toList) := by
  rw [Bool.eq_iff_iff]
  cases i
  cases j
  simp

section
variable {X : Cx} {a b c : Expr} {ta tb tc : TE} {pos : Pos}
theorem fin_bl {pins : List (Addr × Obj)} {σ : St} {H : Hp} {s : Shared} {Q : VK} {k k' : Bool} (I : Inv X pins σ H s) (q : Q (.bl k) H) (e : k = k') : EP X pins σ Q (.bool k') s := by
  subst e
  exact ⟨.bl k, H, I, rfl, q⟩
theorem op_eq : OpR X (compareOp .Eq) rEq := by
  intro pins s σ H x y v u Q I rx ry h
  obtain ⟨hs, q⟩ := h
  cases x with
  | non =>
    cases rx
    cases y with
    | non => cases ry; exact PySem.EqNone.eq_none_none (fin_bl I q (by simp))
    | bl j => cases ry; exact PySem.EqNone.eq_none_bool (fin_bl I q (by simp))
    | int j => obtain ⟨t', rfl⟩ := ry; exact PySem.EqNone.eq_none_int (fin_bl I q (by simp))
    | str j => obtain ⟨t', rfl⟩ := ry; exact PySem.EqNone.eq_none_str (fin_bl I q (by simp))
    | _ => exact absurd (show false = true from hs) Bool.false_ne_true
  | bl i =>
    cases rx
    cases y with
    | non => cases ry; exact PySem.EqNone.eq_bool_none (fin_bl I q (by simp))
    | bl j => cases ry; exact eq_bool (fin_bl I q dec_bl)
    | str j => obtain ⟨t', rfl⟩ := ry; exact PySem.EqMixed.eq_bool_str (fin_bl I q (by simp))
    | _ => exact absurd (show false = true from hs) Bool.false_ne_true
  | int i =>
    obtain ⟨t, rfl⟩ := rx
    cases y with
    | non => cases ry; exact PySem.EqNone.eq_int_none (fin_bl I q (by simp))
    | int j => obtain ⟨t', rfl⟩ := ry; exact eq_int (fin_bl I q dec_int)
    | str j => obtain ⟨t', rfl⟩ := ry; exact PySem.EqMixed.eq_int_str (fin_bl I q (by simp))
    | _ => exact absurd (show false = true from hs) Bool.false_ne_true
  | str i =>
    obtain ⟨t, rfl⟩ := rx
    cases y with
    | non => cases ry; exact PySem.EqNone.eq_str_none (fin_bl I q (by simp))
    | bl j => cases ry; exact PySem.EqMixed.eq_str_bool (fin_bl I q (by simp))
    | int j => obtain ⟨t', rfl⟩ := ry; exact PySem.EqMixed.eq_str_int (fin_bl I q (by simp))
    | str j => obtain ⟨t', rfl⟩ := ry; exact eq_str (fin_bl I q dec_str)
    | _ => exact absurd (show false = true from hs) Bool.false_ne_true
  | byt i =>
    obtain ⟨t, rfl⟩ := rx
    cases y with
    | byt j => obtain ⟨t', rfl⟩ := ry; exact PySem.W.eq_bytes (fin_bl I q dec_byt)
    | _ => exact absurd (show false = true from hs) Bool.false_ne_true
  | _ => cases y <;> exact absurd (show false = true from hs) Bool.false_ne_true
theorem op_ne : OpR X (compareOp .NotEq) rNe := by
  intro pins s σ H x y v u Q I rx ry h
  obtain ⟨hs, q⟩ := h
  cases x with
  | non =>
    cases rx
    cases y with
    | non => cases ry; exact PySem.EqNone.ne_none_none (fin_bl I q (by simp))
    | bl j => cases ry; exact PySem.EqNone.ne_none_bool (fin_bl I q (by simp))
    | int j => obtain ⟨t', rfl⟩ := ry; exact PySem.EqNone.ne_none_int (fin_bl I q (by simp))
    | str j => obtain ⟨t', rfl⟩ := ry; exact PySem.EqNone.ne_none_str (fin_bl I q (by simp))
    | _ => exact absurd (show false = true from hs) Bool.false_ne_true
  | bl i =>
    cases rx
    cases y with
    | non => cases ry; exact PySem.EqNone.ne_bool_none (fin_bl I q (by simp))
    | bl j => cases ry; exact ne_bool (fin_bl I q (congrArg not dec_bl))
    | str j => obtain ⟨t', rfl⟩ := ry; exact PySem.EqMixed.ne_bool_str (fin_bl I q (by simp))
    | _ => exact absurd (show false = true from hs) Bool.false_ne_true
  | int i =>
    obtain ⟨t, rfl⟩ := rx
    cases y with
    | non => cases ry; exact PySem.EqNone.ne_int_none (fin_bl I q (by simp))
    | int j => obtain ⟨t', rfl⟩ := ry; exact ne_int (fin_bl I q (congrArg not dec_int))
    | str j => obtain ⟨t', rfl⟩ := ry; exact PySem.EqMixed.ne_int_str (fin_bl I q (by simp))
    | _ => exact absurd (show false = true from hs) Bool.false_ne_true
  | str i =>
    obtain ⟨t, rfl⟩ := rx
    cases y with
    | non => cases ry; exact PySem.EqNone.ne_str_none (fin_bl I q (by simp))
    | bl j => cases ry; exact PySem.EqMixed.ne_str_bool (fin_bl I q (by simp))
    | int j => obtain ⟨t', rfl⟩ := ry; exact PySem.EqMixed.ne_str_int (fin_bl I q (by simp))
    | str j => obtain ⟨t', rfl⟩ := ry; exact ne_str (fin_bl I q (congrArg not dec_str))
    | _ => exact absurd (show false = true from hs) Bool.false_ne_true
  | byt i =>
    obtain ⟨t, rfl⟩ := rx
    cases y with
    | byt j => obtain ⟨t', rfl⟩ := ry; exact PySem.W.ne_bytes (fin_bl I q (congrArg not dec_byt))
    | _ => exact absurd (show false = true from hs) Bool.false_ne_true
  | _ => cases y <;> exact absurd (show false = true from hs) Bool.false_ne_true

theorem op_lt : OpR X (compareOp .Lt) (rI0 fun i j => .bl (decide (i < j))) := opB0 fun _ _ _ _ _ _ _ q => lt_int q
theorem op_le : OpR X (compareOp .LtE) (rI0 fun i j => .bl (decide (i ≤ j))) := opB0 fun _ _ _ _ _ _ _ q => le_int q
theorem op_gt : OpR X (compareOp .Gt) (rI0 fun i j => .bl (decide (j < i))) := opB0 fun _ _ _ _ _ _ _ q => gt_int q
/-- the one string within the other -/
theorem op_in_str : OpR X (compareOp .In) (fun x y H Q => ∃ i j, x = .str i ∧ y = .str j ∧ Q (.bl (!(Builtin.Str.occurrences j i 0 j.length 1).isEmpty)) H) := by
  intro pins s σ H x y v u Q I rx ry h
  obtain ⟨i, j, rfl, rfl, q⟩ := h
  obtain ⟨t, rfl⟩ := rx
  obtain ⟨t', rfl⟩ := ry
  exact in_str (fin_bl I q rfl)

theorem nomark (b : Expr) {op : CmpOp} (h : op ≠ .In := by decide) (h2 : op ≠ .NotIn := by decide) : behindInMarks op b = false := by
  have e1 : (op == CmpOp.In) = false := by cases op <;> first | rfl | exact absurd rfl h
  have e2 : (op == CmpOp.NotIn) = false := by cases op <;> first | rfl | exact absurd rfl h2
  cases b <;> simp [behindInMarks, e1, e2]
/-- a comparison as a value; hm: nomark b, or (for in, not in) by with_unfolding_all rfl -/
theorem pe_cmpR {op : CmpOp} {r : R2} (ho : OpR X (compareOp op) r) (ha : PE X a ta) (hb : PE X b tb) (hm : behindInMarks op b = false) : PE X (.Compare a [op] [b] pos) (tOp r ta tb) := by
  intro pins s σ H Q I h
  exact wpAny_Compare1 (binT ha hb I h fun v u s2 x y H2 I2 rx ry q => ho pins s2 σ H2 x y v u Q I2 rx ry q) hm
/-- a reading of a value as a test -/
def tTest (t : TE) : TT := fun σ H Q => t σ H fun x H' => ∃ k, x = .bl k ∧ Q k H'
theorem pt_cmpR {op : CmpOp} {r : R2} (ho : OpR X (compareOp op) r) (ha : PE X a ta) (hb : PE X b tb) (hm : behindInMarks op b = false) : PT X (.Compare a [op] [b] pos) (tTest (tOp r ta tb)) := by
  intro pins s σ H Q I h
  refine wpAny_isTrue_Compare1 (thn (ha pins s σ H _ I h) fun v s1 ⟨x, H1, I1, r1, q1⟩ => thn (hb pins s1 σ H1 _ I1 q1) fun u s2 ⟨y, H2, I2, r2, q2⟩ =>
    thn (ho pins s2 σ H2 x y v u _ I2 r1 r2 q2) fun c s3 ⟨z, H3, I3, r3, k, e, q3⟩ => ?_) hm
  subst e
  cases r3
  exact wpAny_truthy_bool ⟨H3, I3, q3⟩
/-- a op1 b op2 c -/
def tChain (r r' : R2) (ta tb tc : TE) : TE := fun σ H Q => ta σ H fun x H1 => tb σ H1 fun y H2 => r x y H2 fun z H3 => ∃ k, z = .bl k ∧
  (if k = true then tc σ H3 fun w' H4 => r' y w' H4 Q else Q (.bl false) H3)
theorem pe_chain {op op' : CmpOp} {r r' : R2} (ho : OpR X (compareOp op) r) (ho' : OpR X (compareOp op') r') (ha : PE X a ta) (hb : PE X b tb) (hc : PE X c tc)
    (hm : lastMarks [op, op'] [b, c] = false := by with_unfolding_all rfl) : PE X (.Compare a [op, op'] [b, c] pos) (tChain r r' ta tb tc) := by
  intro pins s σ H Q I h
  refine Compare_chain (thn (ha pins s σ H _ I h) fun v s1 ⟨x, H1, I1, r1, q1⟩ => chain_link (thn (hb pins s1 σ H1 _ I1 q1) fun u s2 ⟨y, H2, I2, r2, q2⟩ =>
    thn (ho pins s2 σ H2 x y v u _ I2 r1 r2 q2) fun d s3 ⟨z, H3, I3, r3, k, e, q3⟩ => ?_)) hm
  subst e
  cases r3
  refine wpAny_truthy_bool ?_
  cases k with
  | false => exact ite_ff ⟨.bl false, H3, I3, rfl, q3⟩
  | true => exact ite_tt (chain_last (thn (hc pins s3 σ H3 _ I3 q3) fun w' s4 ⟨z', H4, I4, r4, q4⟩ => ho' pins s4 σ H4 y z' u w' Q I4 r2 r4 q4))
/-! ### truth -/
theorem line63 : (sizeLine : Nat) < 2 ^ 63 := by rw [sizeLine_eq]; decide
/-! ### strs and bytes -/
theorem op_add_str : OpR X (binaryOp .Add) (fun x y H Q => ∃ i j, x = .str i ∧ y = .str j ∧ i.length + j.length ≤ sizeLine ∧ Q (.str (i ++ j)) H) := by
  intro pins s σ H x y v u Q I rx ry h
  obtain ⟨i, j, rfl, rfl, hz, q⟩ := h
  obtain ⟨t, rfl⟩ := rx
  obtain ⟨t', rfl⟩ := ry
  exact add_str (fun t' tk => ⟨.str (i ++ j), H, I.tok _, ⟨_, rfl⟩, q⟩) hz
/-! ### scalar builtins, by CallR -/
theorem vals1 {x : V} {us : List Value} (r : Vals [x] us) : ∃ u, us = [u] ∧ RelV x u := by
  cases r with
  | cons r1 r2 => cases r2; exact ⟨_, rfl, r1⟩
theorem vals2 {x y : V} {us : List Value} (r : Vals [x, y] us) : ∃ u w', us = [u, w'] ∧ RelV x u ∧ RelV y w' := by
  cases r with
  | cons r1 r2 =>
    cases r2 with
    | cons r3 r4 => cases r4; exact ⟨_, _, rfl, r1, r3⟩
theorem call_max2 (hc : X.calm = true) : CallR X (.builtin "max") (fun xs H Q => ∃ i j, xs = [.int i, .int j] ∧ Q (.int (if j > i then j else i)) H) := by
  intro pins s σ H xs us Q I r h
  obtain ⟨i, j, rfl, q⟩ := h
  obtain ⟨u, w', rfl, ⟨t, rfl⟩, ⟨t', rfl⟩⟩ := vals2 r
  refine max_two_ints (I.ok.hd hc) fun h' tk k => ⟨_, H, I.kept k, ?_, q⟩
  by_cases hj : j > i
  · rw [if_pos hj, if_pos hj]; exact ⟨_, rfl⟩
  · rw [if_neg hj, if_neg hj]; exact ⟨_, rfl⟩
end
end L2

namespace L2
open PySem PySem.Spec PyProof.Rows

/-! ### an instance, its attributes a map -/
structure ObjM (h : Heap) (x dx C : Addr) (mA : Str → Option Value) : Prop where
  obj : h.get? x = some (PySem.W.instObj C dx)
  ns : h.Ns1 dx mA
  ne : dx ≠ x

theorem lookIn_ns {h : Heap} {dx : Addr} {mA : Str → Option Value} (n : h.Ns1 dx mA) : ∃ od, h.get? dx = some od ∧ ∀ name, PySem.W.lookIn name od = some (mA name) := by
  obtain ⟨o, es, ep, ho, hd, hk, _, hm⟩ := n
  refine ⟨o, ho, fun name => ?_⟩
  have e := hm name
  unfold nsFind findBy at e
  rw [← Array.find?_toList] at e
  unfold PySem.W.lookIn
  rw [hd]
  dsimp only
  split
  · rename_i y q
    rw [q] at e
    exact congrArg some e
  · rename_i q
    rw [q] at e
    have a : es.toList.any (·.refKey) = false := by
      rw [List.any_eq_false]
      intro y hy
      obtain ⟨z, t, hkey⟩ := hk y (Array.mem_toList_iff.mp hy)
      simp [DictEntry.refKey, hkey]
    have a' : ¬ es.toList.any (·.refKey) = true := by rw [a]; exact Bool.false_ne_true
    rw [if_neg a']
    exact congrArg some e

theorem ObjM.look {h : Heap} {x dx C : Addr} {mA : Str → Option Value} (I : ObjM h x dx C mA) : ∃ od, PySem.W.InstAt h x (PySem.W.instObj C dx) C (some od) ∧ ∀ name, PySem.W.lookIn name od = some (mA name) :=
  let ⟨od, ho, hl⟩ := lookIn_ns I.ns
  ⟨od, ⟨I.obj, rfl, rfl, ho⟩, hl⟩

section
variable {prog : Program} {w : World} {A : Around} {E : Value → Shared → Prop} {s : Shared} {K : PySem.W.Frag} {x dx C f : Addr} {mA : Str → Option Value} {name : Str} {v : Value}

theorem get_map {expr : Bool} {Q : Value → Shared → Prop} (X : K.In s.heap) (I : ObjM s.heap x dx C mA) (hg : PySem.W.plainGet K C name = true) (hh : PySem.W.hasDictIn K C = true)
    (ha : PySem.W.findIn K (.ref C) name = some none) (hv : mA name = some v) (hv' : PySem.W.handedIn v = true) (h : Q v { s with toks := s.toks + 1 }) :
    wpAny (model prog w) A (getAttr (.ref x) name expr) Q E s := by
  obtain ⟨od, J, hl⟩ := I.look
  exact PySem.W.get_value X J (PySem.W.plainGet_of hg).1 (PySem.W.findObj_own hh ha rfl (by rw [hl, hv])) hv' h

theorem get_meth {pl : Sem Bool} {Q : Value × List Value → Shared → Prop} (X : K.In s.heap) (I : ObjM s.heap x dx C mA) (hg : PySem.W.plainGet K C name = true)
    (hf : PySem.W.findIn K (.ref C) name = some (some (.ref f))) (ht : PySem.W.isFn K (.ref f) = true) (hv : mA name = none) (h : Q (.ref f, [.ref x]) s) :
    wpAny (model prog w) A (getMethod (.ref x) name pl) Q E s := by
  obtain ⟨od, J, hl⟩ := I.look
  exact PySem.W.method_fn X J (PySem.W.plainGet_of hg).1 (PySem.W.plainGet_of hg).2 hf (beq_iff_eq.mp ht) (by show (PySem.W.lookIn name od).map (·.isSome) = some false; rw [hl, hv]; rfl) h

theorem set_map {ns : List Str} {Q : Unit → Shared → Prop} (X : K.In s.heap) (I : ObjM s.heap x dx C mA)
    (hs : PySem.W.findIn K (.ref C) "__setattr__" = some (some (.builtin "object.__setattr__"))) (hp : PySem.W.plainOver K C = true) (ht : PySem.W.takerIn K C name = some none) (hh : PySem.W.hasDictIn K C = true)
    (hw : PySem.Within mA ns) (hsz : ns.length ≤ sizeLine)
    (h : ∀ h', ObjM h' x dx C (fun y => if y = name then some v else mA y) → Heap.SameBut dx s.heap h' → Q () { s with heap := h', toks := s.toks + 2 }) :
    wpAny (model prog w) A (setAttr (.ref x) name v) Q E s := by
  obtain ⟨od, J, hl⟩ := I.look
  refine PySem.W.set_plain X J hs (PySem.W.osa_open (s := { s with toks := s.toks + 1 }) (r := none) X J hp ht fun b => ?_)
  obtain ⟨cd, hc, hd'⟩ := PySem.W.any_some hh
  have hx : s.heap.get? x = some ⟨.ref C, some dx, .plain, #[]⟩ := I.obj
  refine wpAny_bind (wpAny_pure (wpAny_bind (wpAny_bind (wpAny_loadPart hx (wpAny_bind (PySem.W.Looks.here (s := { s with toks := s.toks + 1 }) (PySem.W.looks_clsIn X hc) ?_))))))
  rw [hd']
  refine wpAny_pure (a := some dx) (wpAny_bind (wpAny_pure (wpAny_bind ?_)))
  refine wpAny_nsSet1 (s := { s with toks := s.toks + 1 }) I.ns fun h' hn2 hs2 => ?_
  obtain ⟨oD, esD, epD, hoD, hdD, hcD⟩ := hn2.count (PySem.Within.cons name v hw)
  refine wpAny_bind (wpAny_lookBehind hoD (by rw [hdD]; exact pastItsLine_dict (Nat.le_trans hcD (by rw [List.length_cons]; omega))) ?_)
  exact wpAny_pure (h _ ⟨(hs2.2 _ (Ne.symm I.ne)).trans I.obj, hn2, I.ne⟩ hs2)

/-- C(..): the dict at the heap's end, the instance behind it; then its __init__ -/
theorem make_map {R : Result → Shared → Prop} {vs : List Value} {kw : List (Str × Value)} (X : K.In s.heap) (hm : PySem.W.makesIn K C = true)
    (hi : PySem.W.findIn K (.ref C) "__init__" = some (some (.ref f))) (hf : PySem.W.typeIn K (.ref f) = some (.type "function"))
    (h : codeAny (model prog w) (A.under (.builtin "type.__call__" ⟨.ref C :: vs, kw⟩)) (.call (.ref f) ⟨.ref (s.heap.objs.size + 1) :: vs, kw⟩) (PySem.W.InitBack (s.heap.objs.size + 1) R)
      { s with heap := (s.heap.push PySem.W.emptyDict).push (PySem.W.instObj C s.heap.objs.size) }) :
    codeAny (model prog w) A (.call (.ref C) ⟨vs, kw⟩) R s := by
  obtain ⟨hh, g, d, t, os⟩ := s
  exact PySem.W.make_core (PySem.W.makes_of X hm) (PySem.W.looks_findIn X hi) (fun self => PySem.W.bind_fn X self hf) (.inl rfl) h
end

/-! ### the attributes as a list of pairs -/
def putF (f : Str) (v : V) : List (Str × V) → List (Str × V)
  | [] => [(f, v)]
  | (g, x) :: r => if g = f then (g, v) :: r else (g, x) :: putF f v r
theorem lookup_putF (f g : Str) (v : V) : ∀ fs : List (Str × V), (putF f v fs).lookup g = if g = f then some v else fs.lookup g
  | [] => by
    show List.lookup g [(f, v)] = _
    by_cases h : g = f
    · have hb : (g == f) = true := beq_iff_eq.mpr h
      simp only [List.lookup, hb, if_pos h]
    · have hb : (g == f) = false := beq_eq_false_iff_ne.mpr h
      simp only [List.lookup, hb, if_neg h]
  | (k, x) :: r => by
    have ih := lookup_putF f g v r
    rw [show putF f v ((k, x) :: r) = (if k = f then (k, v) :: r else (k, x) :: putF f v r) from rfl]
    by_cases hk : k = f
    · rw [if_pos hk]
      by_cases h : g = k
      · have hb : (g == k) = true := beq_iff_eq.mpr h
        simp only [List.lookup, hb, if_pos (h.trans hk)]
      · have hb : (g == k) = false := beq_eq_false_iff_ne.mpr h
        simp only [List.lookup, hb, if_neg (fun e : g = f => h (e.trans hk.symm))]
    · rw [if_neg hk]
      by_cases h : g = k
      · have hb : (g == k) = true := beq_iff_eq.mpr h
        simp only [List.lookup, hb, if_neg (fun e : g = f => hk (h.symm.trans e))]
      · have hb : (g == k) = false := beq_eq_false_iff_ne.mpr h
        simp only [List.lookup, hb]
        exact ih
theorem keys_putF (f : Str) (v : V) : ∀ fs : List (Str × V), f ∈ (putF f v fs).map (·.1) ∧ ∀ g, g ∈ fs.map (·.1) → g ∈ (putF f v fs).map (·.1)
  | [] => ⟨by simp [putF], fun g h => by simp at h⟩
  | (k, x) :: r => by
    obtain ⟨i1, i2⟩ := keys_putF f v r
    rw [show putF f v ((k, x) :: r) = (if k = f then (k, v) :: r else (k, x) :: putF f v r) from rfl]
    by_cases hk : k = f
    · rw [if_pos hk]
      subst hk
      exact ⟨by simp, fun g h => by simpa using h⟩
    · rw [if_neg hk]
      refine ⟨?_, fun g h => ?_⟩
      · rw [List.map_cons]
        exact List.mem_cons_of_mem _ i1
      · rw [List.map_cons] at h ⊢
        rcases List.mem_cons.mp h with e | e
        · exact List.mem_cons.mpr (.inl e)
        · exact List.mem_cons_of_mem _ (i2 g e)
theorem length_putF (f : Str) (v : V) : ∀ fs : List (Str × V), (putF f v fs).length ≤ fs.length + 1
  | [] => by simp [putF]
  | (k, x) :: r => by
    have ih := length_putF f v r
    rw [show putF f v ((k, x) :: r) = (if k = f then (k, v) :: r else (k, x) :: putF f v r) from rfl]
    by_cases hk : k = f
    · rw [if_pos hk, List.length_cons, List.length_cons]; omega
    · rw [if_neg hk, List.length_cons, List.length_cons]; omega

theorem RelO.some_of {v : V} {o : Option Value} (r : RelO (some v) o) : ∃ u, o = some u ∧ RelV v u := by
  cases o with
  | none => exact (show False from r).elim
  | some u => exact ⟨u, rfl, r⟩
theorem RelO.none_of {o : Option Value} (r : RelO none o) : o = none := by
  cases o with
  | none => rfl
  | some u => exact (show False from r).elim
theorem handed_of {v : V} {u : Value} (r : RelV v u) : PySem.W.handedIn u = true := by
  cases v with
  | non => cases (show u = Value.none from r); rfl
  | bl b => cases (show u = Value.bool b from r); rfl
  | int i => obtain ⟨t, e⟩ := (show ∃ t, u = Value.int i t from r); cases e; rfl
  | str x => obtain ⟨t, e⟩ := (show ∃ t, u = Value.str x t from r); cases e; rfl
  | byt b => obtain ⟨t, e⟩ := (show ∃ t, u = Value.bytes b t from r); cases e; rfl
  | flt b => obtain ⟨t, e⟩ := (show ∃ t, u = Value.float b t from r); cases e; rfl
  | ref a => cases (show u = Value.ref a from r); rfl
  | ty n => cases (show u = Value.type n from r); rfl

section
variable {P : Program} {w : World} {H H' : Hp} {h h' : Heap} {a C dx : Addr} {fs fs' : List (Str × V)}
theorem ins_get (hok : HOk P w H h) (e : H a = some (.ins C dx fs)) : ∃ mA, ObjM h a dx C mA ∧ (∀ f, RelO (fs.lookup f) (mA f)) ∧ PySem.Within mA (fs.map (·.1)) ∧ fs.length ≤ 1000 ∧ H dx = some (.own a) := by
  obtain ⟨d, z, ne, ob, mA, n, r, q⟩ := (show ObjOk P w H h a (.ins C dx fs) from hok a _ e)
  exact ⟨mA, ⟨ob, n, ne⟩, r, q, z, d⟩
end

/-! ### what of the text a class must have -/
structure Cls (K : PySem.W.Frag) (C : Addr) : Prop where
  pg : PySem.W.plainGet K C Str.empty = true
  hd : PySem.W.hasDictIn K C = true
  po : PySem.W.plainOver K C = true
  sa : PySem.W.findIn K (.ref C) "__setattr__" = some (some (.builtin "object.__setattr__"))
theorem Cls.get {K : PySem.W.Frag} {C : Addr} (c : Cls K C) (f : Str) : PySem.W.plainGet K C f = true := c.pg
/-- no class of it has the name -/
def NoAttr (K : PySem.W.Frag) (C : Addr) (f : Str) : Prop := PySem.W.findIn K (.ref C) f = some none
theorem NoAttr.taker {K : PySem.W.Frag} {C : Addr} {f : Str} (n : NoAttr K C f) : PySem.W.takerIn K C f = some none := by
  unfold PySem.W.takerIn
  rw [show PySem.W.findIn K (.ref C) f = some none from n]
  rfl
/-- a method: a plain def of the class or of one above it -/
structure Meth (K : PySem.W.Frag) (C : Addr) (m : Str) (f : Addr) : Prop where
  at_ : PySem.W.findIn K (.ref C) m = some (some (.ref f))
  fn : PySem.W.isFn K (.ref f) = true
  kp : PySem.W.keepIn K (.ref f) = true

section
variable {X : Cx} {pins : List (Addr × Obj)} {σ : St} {H : Hp} {s : Shared} {a C dx : Addr} {fs : List (Str × V)} {f : Str} {v : V} {A : Around} {E : Value → Shared → Prop}

theorem getattr_ok {b : Bool} {Q : Value → Shared → Prop} (I : Inv X pins σ H s) (e : H a = some (.ins C dx fs)) (c : Cls X.K C) (n : NoAttr X.K C f) (l : fs.lookup f = some v)
    (h : ∀ u s', Inv X pins σ H s' → RelV v u → Q u s') : wpAny (model X.prog X.w) A (getAttr (.ref a) f b) Q E s := by
  obtain ⟨mA, O, r, _, _, _⟩ := ins_get I.hok e
  obtain ⟨u, hu, ru⟩ := RelO.some_of (v := v) (o := mA f) (by rw [← l]; exact r f)
  exact get_map I.kIn O (c.get f) c.hd n hu (handed_of ru) (h u _ (I.tok _) ru)

theorem getmeth_ok {m : Str} {g : Addr} {pl : Sem Bool} {Q : Value × List Value → Shared → Prop} (I : Inv X pins σ H s) (e : H a = some (.ins C dx fs)) (c : Cls X.K C) (k : Meth X.K C m g) (l : fs.lookup m = none)
    (h : Q (.ref g, [.ref a]) s) : wpAny (model X.prog X.w) A (getMethod (.ref a) m pl) Q E s := by
  obtain ⟨mA, O, r, _, _, _⟩ := ins_get I.hok e
  have hn : mA m = none := RelO.none_of (by rw [← l]; exact r m)
  exact get_meth I.kIn O (c.get m) k.at_ k.fn hn h

theorem setattr_ok {y : V} {u : Value} {Q : Unit → Shared → Prop} (I : Inv X pins σ H s) (e : H a = some (.ins C dx fs)) (c : Cls X.K C) (n : NoAttr X.K C f) (hl : fs.length < 1000) (ry : RelV y u)
    (h : ∀ s', Inv X pins σ (upd H a (.ins C dx (putF f y fs))) s' → Q () s') : wpAny (model X.prog X.w) A (setAttr (.ref a) f u) Q E s := by
  obtain ⟨mA, O, r, wi, _, ho⟩ := ins_get I.hok e
  have hz : (fs.map (·.1)).length ≤ sizeLine := by rw [List.length_map, sizeLine_eq]; omega
  refine set_map I.kIn O c.sa c.po n.taker c.hd wi hz fun h' O' sb => h _ ?_
  have hd : ∃ o, h'.get? dx = some o := let ⟨o, _, _, e', _⟩ := O'.ns; ⟨o, e'⟩
  refine I.write (x := a) (e := dx) (by rw [e]; exact True.intro) (.inr ho) (fun b q hb z => (sb.2 b hb).trans z) hd ?_
  refine ⟨by rw [upd_ne O.ne]; exact ho, ?_, O.ne, O'.obj, _, O'.ns, fun g => ?_, fun g hg => ?_⟩
  · have := length_putF f y fs; omega
  · show RelO ((putF f y fs).lookup g) (if g = f then some u else mA g)
    rw [lookup_putF]
    by_cases q : g = f
    · rw [if_pos q, if_pos q]; exact ry
    · rw [if_neg q, if_neg q]; exact r g
  · by_cases q : g = f
    · rw [q]; exact (keys_putF f y fs).1
    · refine (keys_putF f y fs).2 g (wi g fun z => hg ?_)
      show (if g = f then some u else mA g) = none
      rw [if_neg q]; exact z

/-- a new instance, tracked, without attributes -/
theorem Inv.made (I : Inv X pins σ H s) : Inv X pins σ (upd (upd H s.heap.objs.size (.own (s.heap.objs.size + 1))) (s.heap.objs.size + 1) (.ins C s.heap.objs.size []))
    { s with heap := (s.heap.push PySem.W.emptyDict).push (PySem.W.instObj C s.heap.objs.size) } := by
  have e1 : (s.heap.push PySem.W.emptyDict).get? s.heap.objs.size = some PySem.W.emptyDict := Heap.get?_push_size s.heap rfl
  have e2 : ((s.heap.push PySem.W.emptyDict).push (PySem.W.instObj C s.heap.objs.size)).get? (s.heap.objs.size + 1) = some (PySem.W.instObj C s.heap.objs.size) := by
    have := Heap.get?_push_size (s.heap.push PySem.W.emptyDict) (o := PySem.W.instObj C s.heap.objs.size) rfl
    rwa [Heap.size_push] at this
  have e3 : (s.heap.push PySem.W.emptyDict).Ns s.heap.objs.size (fun _ => none) := ⟨PySem.W.emptyDict, #[], _, e1, rfl, (fun e he => absurd he (by simp)), fun _ => rfl⟩
  have I1 := I.laid (a := s.heap.objs.size) (o := .own (s.heap.objs.size + 1)) (h' := s.heap.push PySem.W.emptyDict) (t' := s.toks) (fun b u q => Heap.get?_push_of_some _ q) (Nat.le_refl _) ⟨_, e1⟩
  refine I1.laid (a := s.heap.objs.size + 1) (o := .ins C s.heap.objs.size []) (t' := s.toks) (fun b u q => Heap.get?_push_of_some _ q) (Nat.le_of_eq (Heap.size_push _ _)) ?_
  have ne : s.heap.objs.size ≠ s.heap.objs.size + 1 := Nat.ne_of_lt (Nat.lt_succ_self _)
  refine ⟨by rw [upd_ne ne, upd_same], Nat.zero_le _, ne, e2, fun _ => none, (Heap.Ns1.of_empty e3).at fun o q => Heap.get?_push_of_some _ q, fun _ => True.intro, fun y hy => absurd rfl hy⟩

/-- e.f where nothing but the object is asked: through attributeBase (super) and the last hold -/
theorem attr_of {prog : Program} {w : World} {env : Env} {e : Expr} {f : Str} {pos : Pos} {s : Shared} {Q : Value → Shared → Prop} (hb : attributeBase e f env (eval e env) = eval e env)
    (h : wpAny (model prog w) A (eval e env) (fun o s₁ => wpAny (model prog w) A (getAttr o f true) Q E s₁) E s) : wpAny (model prog w) A (eval (.Attribute e f pos) env) Q E s :=
  Attribute_any_ h (by rw [arm_eval_Attribute, hb])
end

/-! ### readings and rules -/
/-- e.f, an attribute of the instance -/
def tFld (K : PySem.W.Frag) (ta : TE) (f : Str) : TE := fun σ H Q => ta σ H fun x H1 => ∃ a C dx fs v, x = .ref a ∧ H1 a = some (.ins C dx fs) ∧ Cls K C ∧ NoAttr K C f ∧ fs.lookup f = some v ∧ Q v H1
/-- e.f = value -/
def sFld (K : PySem.W.Frag) (ta tv : TE) (f : Str) : TS := fun D σ H => tv σ H fun y H1 => ta σ H1 fun x H2 => ∃ a C dx fs, x = .ref a ∧ H2 a = some (.ins C dx fs) ∧ Cls K C ∧ NoAttr K C f ∧ fs.length < 1000 ∧
  D.nx σ (upd H2 a (.ins C dx (putF f y fs)))
section
variable {X : Cx} {o e value : Expr} {f : Str} {pos pos' tpos : Pos} {ta tv : TE}
theorem pe_fld (he : PE X e ta) (hb : attributeBase e f X.env (eval e X.env) = eval e X.env) : PE X (.Attribute e f pos) (tFld X.K ta f) := by
  intro pins s σ H Q I h
  refine attr_of hb (thn (he pins s σ H _ I h) fun u s1 ⟨x, H1, I1, rx, a, C, dx, fs, v, ex, ea, c, n, l, q⟩ => ?_)
  subst ex
  obtain rfl : u = Value.ref a := rx
  exact getattr_ok I1 ea c n l fun u' s2 I2 ru => ⟨v, H1, I2, ru, q⟩
theorem ps_fld (ha : PE X o ta) (hv : PE X value tv) (hs : swapsWith value (some (.Attribute o f pos')) pos.line X.env = pure false) : PS X (.Assign [.Attribute o f pos'] value pos) (sFld X.K ta tv f) := by
  intro pins s σ H D I h
  refine plainObj_wpAny_Assign_Attribute (thn (hv pins s σ H _ I h) fun u s1 ⟨y, H1, I1, ry, q⟩ => thn (ha pins s1 σ H1 _ I1 q) fun ov s2 ⟨x, H2, I2, rx, a, C, dx, fs, ex, ea, c, n, l, q2⟩ => ?_) hs
  subst ex
  obtain rfl : ov = Value.ref a := rx
  exact setattr_ok I2 ea c n l ry fun s3 I3 => ⟨σ, _, I3, q2⟩
end

/-! ### isinstance -/
section
variable {X : Cx} {pins : List (Addr × Obj)} {σ : St} {H : Hp} {s : Shared} {A : Around} {E : Value → Shared → Prop} {Q : Value → Shared → Prop} {c : Value} {b : Bool}
/-- the type of a value, as the fragment's deciders take it; for an instance its class -/
inductive TyOf (K : PySem.W.Frag) (H : Hp) : V → Value → Prop where
  | non : TyOf K H .non (.type "NoneType")
  | bl (x : Bool) : TyOf K H (.bl x) (.type "bool")
  | int (i : Int) : TyOf K H (.int i) (.type "int")
  | str (x : Str) : TyOf K H (.str x) (.type "str")
  | flt (x : UInt64) : TyOf K H (.flt x) (.type "float")
  | lst {a : Addr} {xs : List V} (e : H a = some (.lst xs)) : TyOf K H (.ref a) (.type "list")
  | frz {a : Addr} {o : Obj} {xs : List V} (e : H a = some (.frz o (.lst xs))) : TyOf K H (.ref a) (.type "list")
  | tup {a : Addr} {xs : List V} (e : H a = some (.tup xs)) : TyOf K H (.ref a) (.type "tuple")
  | dK {a : Addr} {kvs : List (Key × V)} (e : H a = some (.dK kvs)) : TyOf K H (.ref a) (.type "dict")
  | dT {a : Addr} {kvs : List (List Key × V)} (e : H a = some (.dT kvs)) : TyOf K H (.ref a) (.type "dict")
  | ins {a C dx : Addr} {fs : List (Str × V)} (e : H a = some (.ins C dx fs)) (cl : Cls K C) (ha : PySem.W.findIn K (.ref C) "__class__" = some (some (.builtin "object.__class__")))
      (hn : PySem.W.specialIn K (.builtin "object.__class__") "__get__" = some (some (.builtin "getset_descriptor.__get__"))) (htk : PySem.W.takesIn K (.builtin "object.__class__") = some true)
      (hm : PySem.W.mroIn K C (.type "object") = some true) : TyOf K H (.ref a) (.ref C)
/-- isinstance(x, c) for one class c, a built-in or an own one: kitOne's answer -/
theorem isinst_ok {x : V} {u t : Value} (I : Inv X pins σ H s) (rx : RelV x u) (ty : TyOf X.K H x t) (e : PySem.W.kitOne X.K t c = some b) (h : ∀ tk, Q (.bool b) { s with toks := tk }) :
    wpAny (model X.prog X.w) A (call (.builtin "isinstance") [u, c]) Q E s := by
  cases ty with
  | non => cases (show u = Value.none from rx); exact PySem.W.kia_one PySem.W.kitx_none I.kIn True.intro e (fun z => nomatch z) h
  | bl y => cases (show u = Value.bool y from rx); exact PySem.W.kia_one PySem.W.kitx_bool I.kIn True.intro e (fun z => nomatch z) h
  | int i => obtain ⟨t, q⟩ := (show ∃ t, u = Value.int i t from rx); cases q; exact PySem.W.kia_one PySem.W.kitx_int I.kIn True.intro e (fun z => nomatch z) h
  | str y => obtain ⟨t, q⟩ := (show ∃ t, u = Value.str y t from rx); cases q; exact PySem.W.kia_one PySem.W.kitx_str I.kIn True.intro e (fun z => nomatch z) h
  | flt y => obtain ⟨t, q⟩ := (show ∃ t, u = Value.float y t from rx); cases q; exact PySem.W.kia_one PySem.W.kitx_float I.kIn True.intro e (fun z => nomatch z) h
  | @lst a xs ea =>
    cases (show u = Value.ref a from rx)
    obtain ⟨_, _, n, _, h1⟩ := (show ObjOk X.prog X.w H s.heap a (.lst xs) from I.hok a _ ea)
    exact PySem.W.kia_one PySem.W.kitx_list I.kIn ⟨_, h1, rfl⟩ e (fun z => nomatch z) h
  | @frz a ob xs ea =>
    cases (show u = Value.ref a from rx)
    obtain ⟨_, _, _, n, _, h1⟩ := (show ObjOk X.prog X.w H s.heap a (.frz ob (.lst xs)) from I.hok a _ ea)
    exact PySem.W.kia_one PySem.W.kitx_list I.kIn ⟨_, h1, rfl⟩ e (fun z => nomatch z) h
  | @tup a xs ea =>
    cases (show u = Value.ref a from rx)
    obtain ⟨_, _, _, p⟩ := (show ObjOk X.prog X.w H s.heap a (.tup xs) from I.hok a _ ea)
    obtain ⟨o, h1, h2, _⟩ := p
    exact PySem.W.kia_one PySem.W.kitx_tuple I.kIn ⟨o, h1, h2⟩ e (fun z => nomatch z) h
  | @dK a kvs ea =>
    cases (show u = Value.ref a from rx)
    obtain ⟨_, _, vs, _, p⟩ := (show ObjOk X.prog X.w H s.heap a (.dK kvs) from I.hok a _ ea)
    obtain ⟨o, es, ep, h1, h2, _⟩ := p
    exact PySem.W.kia_one PySem.W.kitx_dict I.kIn ⟨o, h1, h2.1⟩ e (fun z => nomatch z) h
  | @dT a kvs ea =>
    cases (show u = Value.ref a from rx)
    obtain ⟨_, _, xs, _, o, es, ep, h1, h2, _⟩ := (show ObjOk X.prog X.w H s.heap a (.dT kvs) from I.hok a _ ea)
    exact PySem.W.kia_one PySem.W.kitx_dict I.kIn ⟨o, h1, h2.1⟩ e (fun z => nomatch z) h
  | @ins a C dx fs ea cl ha hn htk hm =>
    cases (show u = Value.ref a from rx)
    obtain ⟨mA, O, _⟩ := ins_get I.hok ea
    obtain ⟨od, J, _⟩ := O.look
    exact PySem.W.kia_one (PySem.W.kitx_own (cl.get _) cl.hd ha hn htk hm) I.kIn J e (fun z => nomatch z) h
end
end L2

namespace L2
open PySem PySem.Spec PyProof.Rows

/-! ### room -/
structure Room (k : Nat) (A : Around) : Prop where
  hd : A.handled = none
  dp : A.depth + 3 * k + 5 < recursionLimit
  un : A.units + 16 * k + 200 < cLine
  gd : A.guards = some []
theorem Room.mono {j k : Nat} {A : Around} (r : Room k A) (h : j ≤ k) : Room j A := ⟨r.hd, by have := r.dp; omega, by have := r.un; omega, r.gd⟩
theorem Room.deeper {k : Nat} {A : Around} (r : Room (k + 1) A) (env : Env) : Room k (A.deeper env) :=
  ⟨r.hd, by have := r.dp; show A.depth + 1 + 3 * k + 5 < _; omega, by have := r.un; show A.units + 3 + 16 * k + 200 < _; omega, r.gd⟩
theorem make_depth {A : Around} {C : Addr} {us : List Value} {kw : List (Str × Value)} : (A.under (.builtin "type.__call__" ⟨.ref C :: us, kw⟩)).depth = A.depth + 1 := by
  first | rfl | simp [Around.under, Code.weight, Code.isCreation, Code.isGuard, Code.isCaller, Code.frames, Code.isFrame, guardIds]
theorem make_units {A : Around} {C : Addr} {us : List Value} {kw : List (Str × Value)} : (A.under (.builtin "type.__call__" ⟨.ref C :: us, kw⟩)).units = A.units + 1 := by
  first | rfl | simp [Around.under, Code.cUnits, Code.frames, Code.isFrame]
theorem Room.make {k : Nat} {A : Around} (r : Room (k + 1) A) (C : Addr) (us : List Value) (kw : List (Str × Value)) : Room k (A.under (.builtin "type.__call__" ⟨.ref C :: us, kw⟩)) :=
  ⟨r.hd, by have := r.dp; rw [make_depth]; omega, by have := r.un; rw [make_units]; omega, by first | exact r.gd | (simpa [Around.under, Code.isGuard, guardIds] using r.gd)⟩
theorem Room.depth {k : Nat} {A : Around} (r : Room k A) : A.depth < recursionLimit := by have := r.dp; omega
theorem Room.units {k : Nat} {A : Around} (r : Room k A) : A.units + 64 < cLine := by have := r.un; omega
/-! ### argument lists and displays -/
def tNil : TA := fun _ H Q => Q [] H
def tCons (ta : TE) (tr : TA) : TA := fun σ H Q => ta σ H fun x H1 => tr σ H1 fun xs H2 => Q (x :: xs) H2
section
variable {X : Cx} {e : Expr} {es : List Expr} {te : TE} {t : TA} {pos : Pos}
theorem pa_nil : PA X [] tNil := fun _ _ _ _ H Q I h => Calls.spliced_nil ⟨[], H, I, .nil, h⟩
theorem pa_cons (ha : PE X e te) (hr : PA X es t) (hs : starEach (e :: es) X.env = (false, eval e X.env) :: starEach es X.env := by rfl) : PA X (e :: es) (tCons te t) := by
  intro pos pins s σ H Q I h
  rw [hs]
  show wpAny _ _ (spliced ((false, eval e X.env) :: backTo pos (starEach es X.env))) _ _ s
  refine Calls.spliced_cons (thn (ha pins s σ H _ I h) fun u s1 ⟨x, H1, I1, r1, q1⟩ => ?_)
  exact thn (hr pos pins s1 σ H1 _ I1 q1) fun us s2 ⟨xs, H2, I2, r2, q2⟩ => ⟨x :: xs, H2, I2, .cons r1 r2, q2⟩

/-- a tuple, a list of written items -/
def tTup (t : TA) : TE := fun σ H Q => t σ H fun xs H1 => xs.length ≤ sizeLine ∧ ∀ p, H1 p = none → Q (.ref p) (upd H1 p (.tup xs))
def tLst (t : TA) : TE := fun σ H Q => t σ H fun xs H1 => xs.length ≤ sizeLine ∧ ∀ p, H1 p = none → Q (.ref p) (upd H1 p (.lst xs))
theorem pe_tup {x1} (h : PA X es t) : PE X (.Tuple es x1 pos) (tTup t) := by
  intro pins s σ H Q I hq
  refine wpAny_Tuple_spliced (thn (h pos pins s σ H _ I hq) fun us s1 ⟨xs, H1, I1, r, z, q⟩ => ⟨by rw [← r.length]; exact z, ?_⟩)
  have hf : H1 s1.heap.objs.size = none := I1.hok.fresh (Nat.le_refl _)
  refine ⟨.ref s1.heap.objs.size, upd H1 s1.heap.objs.size (.tup xs), I1.laid (t' := s1.toks) (fun b u e => Heap.get?_push_of_some _ e) (Nat.le_refl _) ?_, rfl, q _ hf⟩
  exact ⟨z, us, r, ⟨_, Heap.get?_push_size _ rfl, rfl, _, rfl⟩⟩
theorem pe_lst (h : PA X es t) : PE X (.List es pos) (tLst t) := by
  intro pins s σ H Q I hq
  refine wpAny_List_spliced (thn (h pos pins s σ H _ I hq) fun us s1 ⟨xs, H1, I1, r, z, q⟩ => ⟨by rw [← r.length]; exact z, ?_⟩)
  have hf : H1 s1.heap.objs.size = none := I1.hok.fresh (Nat.le_refl _)
  refine ⟨.ref s1.heap.objs.size, upd H1 s1.heap.objs.size (.lst xs), I1.laid (t' := s1.toks) (fun b u e => Heap.get?_push_of_some _ e) (Nat.le_refl _) ?_, rfl, q _ hf⟩
  exact ⟨z, us, 0, r, Heap.get?_push_size _ rfl⟩
end

/-! ### what a def promises -/
/-- a def's promise: the bound arguments in the parameters' order, the heap, the wanted end, the wanted exception -/
abbrev Sp := List V → Hp → VK → XK → Prop
/-- how an exception lies behind a call (file 08 gives it): the callers' frames, abstract heap and state ahead of the call, the wish, the exception, the state -/
abbrev CXT := List Env → Hp → Shared → XK → Value → Shared → Prop

/-- the state at a call -/
structure Env0 (P : Program) (w : World) (K : PySem.W.Frag) (mg : Str → Option Value) (base : Heap) (A : Around) (outer : List Env) (s : Shared) (H : Hp) : Prop where
  frames : A.frames = some outer
  mod : Mod K mg base
  bs : ∀ b o, base.get? b = some o → s.heap.get? b = some o ∧ H b = none
  bsz : base.objs.size ≤ s.heap.objs.size
  funs : s.heap.FunFrames base outer
  frf : ∀ b ∈ frs outer, H b = none
  hok : HOk P w H s.heap
  bare : AllBare s.gens
/-- a call's end -/
def CE (outer : List Env) (P : Program) (w : World) (H : Hp) (s : Shared) (Q : VK) (u : Value) (s' : Shared) : Prop :=
  ∃ v H', s'.os = s.os ∧ AllBare s'.gens ∧ Un (frs outer) [] H H' s.heap s'.heap ∧ HOk P w H' s'.heap ∧ RelV v u ∧ Q v H'
def CR (CX : CXT) (outer : List Env) (P : Program) (w : World) (H : Hp) (s : Shared) (Q : VK) (E : XK) (r : Result) (s' : Shared) : Prop :=
  match r with
  | .ok (.ret u) => CE outer P w H s Q u s'
  | .ok _ => False
  | .error e => CX outer H s E e s'
structure FnOk (P : Program) (w : World) (K : PySem.W.Frag) (mg : Str → Option Value) (base : Heap) (CX : CXT) (k : Nat) (f : Addr) (fd : FuncData) (ps : List Str) (sp : Sp) : Prop where
  len : ∀ vs H Q E, sp vs H Q E → vs.length = ps.length
  run : ∀ (A : Around) (outer : List Env) (s : Shared) (H : Hp) (args : Args) (us : List Value) (vs : List V) (Q : VK) (E : XK), Room k A → Env0 P w K mg base A outer s H → BindsTo s fd args (ps.zip us) → Vals vs us → sp vs H Q E →
    codeAny (model P w) A (.call (.ref f) args) (CR CX outer P w H s Q E) s
theorem FnOk.mono {P : Program} {w : World} {K : PySem.W.Frag} {mg : Str → Option Value} {base : Heap} {CX : CXT} {j k : Nat} {f : Addr} {fd : FuncData} {ps : List Str} {sp : Sp} (F : FnOk P w K mg base CX j f fd ps sp) (h : j ≤ k) :
    FnOk P w K mg base CX k f fd ps sp := ⟨F.len, fun A outer s H args us vs Q E hr => F.run A outer s H args us vs Q E (hr.mono h)⟩
theorem Env0.make {P : Program} {w : World} {K : PySem.W.Frag} {mg : Str → Option Value} {base : Heap} {A : Around} {outer : List Env} {s : Shared} {H : Hp} (e : Env0 P w K mg base A outer s H) (C : Addr) (us : List Value) (kw : List (Str × Value)) :
    Env0 P w K mg base (A.under (.builtin "type.__call__" ⟨.ref C :: us, kw⟩)) outer s H := ⟨by first | exact e.frames | (simpa [Around.under, Code.envs, Code.isFrame, pushEnvs] using e.frames), e.mod, e.bs, e.bsz, e.funs, e.frf, e.hok, e.bare⟩
section
variable {X : Cx} {pins : List (Addr × Obj)} {σ : St} {H : Hp} {s s' : Shared}
/-- from a body: what a callee wants -/
theorem Inv.env0 (I : Inv X pins σ H s) : Env0 X.prog X.w X.K X.mg X.base X.A X.stack s H :=
  ⟨I.ok.frames, I.ok.mod, I.bs, Nat.le_trans I.ok.bsz I.sz, I.stack, I.stkFree, I.hok, I.bare⟩
/-- behind a call -/
theorem Inv.after {Q : VK} {u : Value} (I : Inv X pins σ H s) (h : CE X.stack X.prog X.w H s Q u s') : EP X pins σ Q u s' := by
  obtain ⟨v, H', os, bare, un, hok, r, q⟩ := h
  obtain ⟨hh, g, d, t, os'⟩ := s'
  obtain rfl : os' = s.os := os
  exact ⟨v, H', I.call (h' := hh) (g' := g) (d' := d) (t' := t) (ch := []) un hok bare (fun b z => absurd z (by simp)), r, q⟩
end

/-! ### calls -/
/-- f(..): the written arguments, then the defaults dvs; E: what is wanted of an exception -/
def tCall (sp : Sp) (dvs : List V) (E : XK) (t : TA) : TE := fun σ H Q => t σ H fun vs H1 => sp (vs ++ dvs) H1 Q E
/-- o.m(..) of an instance of the class at C -/
def tMeth (C : Addr) (m : Str) (sp : Sp) (dvs : List V) (E : XK) (ta : TE) (t : TA) : TE := fun σ H Q => ta σ H fun x H1 => ∃ a dx fs, x = .ref a ∧ H1 a = some (.ins C dx fs) ∧ fs.lookup m = none ∧
  t σ H1 fun vs H2 => sp (x :: (vs ++ dvs)) H2 Q E
/-- C(..): a new instance and its dict, then __init__ -/
def tMake (C : Addr) (sp : Sp) (dvs : List V) (E : XK) (t : TA) : TE := fun σ H Q => t σ H fun vs H1 => ∀ x dx, H1 x = none → H1 dx = none → dx ≠ x →
  sp (.ref x :: (vs ++ dvs)) (upd (upd H1 dx (.own x)) x (.ins C dx [])) (fun v H2 => v = .non ∧ Q (.ref x) H2) E

/-- how the parameters are bound: us the positional arguments, kw the keywords' values by name, ds the defaults that fill up -/
def Binds (K : PySem.W.Frag) (fd : FuncData) (ps : List Str) (ds : List Value) : Prop :=
  ∀ (s : Shared) (us : List Value), K.In s.heap → (us ++ ds).length = ps.length → BindsTo s fd ⟨us, []⟩ (ps.zip (us ++ ds))
/-- every parameter is given -/
theorem Binds.all {K : PySem.W.Frag} {fd : FuncData} {ps : List Str} (h : ∀ us : List Value, us.length = ps.length → bindArgs fd ⟨us, []⟩ = pure (ps.zip us)) : Binds K fd ps [] := fun s us _ hl => by
  rw [List.append_nil] at hl ⊢
  exact .of_eq (h us hl)

/-- an exception of a callee reaches what this body wants of exceptions -/
def Passes (CX : CXT) (X : Cx) (E : XK) : Prop := ∀ (pins : List (Addr × Obj)) (σ : St) (H : Hp) (s : Shared) (e : Value) (s' : Shared), Inv X pins σ H s → CX X.stack H s E e s' → X.xe e s'

section
variable {X : Cx} {CX : CXT} {k : Nat} {f C : Addr} {fd : FuncData} {ps : List Str} {sp : Sp} {dvs : List V} {ds : List Value} {E : XK} {x m : Str} {p pos apos : Pos} {e o : Expr} {es : List Expr} {ta : TE} {t : TA}

/-- the callee runs -/
theorem run_fn {pins : List (Addr × Obj)} {σ : St} {H : Hp} {s : Shared} {Q : VK} {us : List Value} {vs : List V} (F : FnOk X.prog X.w X.K X.mg X.base CX k f fd ps sp) (hr : Room k X.A) (hb : Binds X.K fd ps ds) (hd : Vals dvs ds) (hx : Passes CX X E)
    (I : Inv X pins σ H s) (r : Vals vs us) (h : sp (vs ++ dvs) H Q E) : wpAny (model X.prog X.w) X.A (call (.ref f) us) (EP X pins σ Q) X.xe s := by
  have r2 : Vals (vs ++ dvs) (us ++ ds) := r.append hd
  have hl : (us ++ ds).length = ps.length := by rw [← r2.length]; exact F.len _ _ _ _ h
  refine wpAny_call (codeAny_mono (F.run X.A X.stack s H ⟨us, []⟩ (us ++ ds) (vs ++ dvs) Q E hr I.env0 (hb s us I.kIn hl) r2 h) fun r s' hq => ?_)
  cases r with
  | error e => exact hx pins σ H s e s' I hq
  | ok fl =>
    cases fl with
    | ret u => exact I.after hq
    | next => exact False.elim hq
    | brk => exact False.elim hq
    | cont => exact False.elim hq

theorem pe_call (F : FnOk X.prog X.w X.K X.mg X.base CX k f fd ps sp) (hr : Room k X.A) (hg : Gl X x) (hm : X.mg x = some (.ref f)) (hk : PySem.W.keepIn X.K (.ref f) = true) (hb : Binds X.K fd ps ds) (hd : Vals dvs ds) (hx : Passes CX X E)
    (ha : PA X (e :: es) t) (hdb : (x == ("__debug__" : Str)) = false := by decide) (he : starEach (e :: es) X.env = (false, eval e X.env) :: starEach es X.env := by rfl) (hpl : (backTo pos (starEach es X.env)).any (·.1) = false := by rfl) :
    PE X (.Call (.Name x p) (e :: es) [] pos) (tCall sp dvs E t) := by
  intro pins s σ H Q I h
  refine wpAny_Call_Name_kw (ld_glob I hg hm ?_ hdb)
  refine PySem.W.callWith_K (h₀ := X.base) I.ok.mod.kin hk (thn (ha pos pins s σ H _ I h) fun us s1 ⟨vs, H1, I1, r, q⟩ => ⟨I1.kIn, ?_⟩) he hpl
  exact run_fn F hr hb hd hx I1 r q
/-- o.m(e, ..) -/
theorem pe_meth {pl : Sem Bool} (he : PE X o ta) (c : Cls X.K C) (hm : Meth X.K C m f) (F : FnOk X.prog X.w X.K X.mg X.base CX k f fd ps sp) (hr : Room k X.A) (hb : Binds X.K fd ps ds) (hd : Vals dvs ds) (hx : Passes CX X E) (ha : PA X (e :: es) t)
    (hst : starEach (e :: es) X.env = (false, eval e X.env) :: starEach es X.env := by rfl) (hpl : (backTo pos (starEach es X.env)).any (·.1) = false := by rfl)
    (ht : eval (.Call (.Attribute o m apos) (e :: es) [] pos) X.env = (do
      let ov ← eval o X.env
      standAt apos.atName
      let (f, first) ← holding [ov] (getMethod ov m pl)
      callWith pos f first (backTo pos (starEach (e :: es) X.env)) (backToKw pos (keywordEach [] X.env))) := by rfl) :
    PE X (.Call (.Attribute o m apos) (e :: es) [] pos) (tMeth C m sp dvs E ta t) := by
  intro pins s σ H Q I h
  refine PySem.W.methodCall_KW (pl := pl) (thn (he pins s σ H _ I h) fun u s1 ⟨x, H1, I1, rx, a, dx, fs, ex, ea, l, q⟩ => ?_) ht
  subst ex
  obtain rfl : u = Value.ref a := rx
  refine getmeth_ok I1 ea c hm l ?_
  refine PySem.W.callWith_K (first := [.ref a]) (h₀ := X.base) I.ok.mod.kin hm.kp (thn (ha pos pins s1 σ H1 _ I1 q) fun us s2 ⟨vs, H2, I2, r, q2⟩ => ⟨I2.kIn, ?_⟩) hst hpl
  exact run_fn (us := .ref a :: us) (vs := .ref a :: vs) F hr hb hd hx I2 (.cons rfl r) q2
/-- o.m() -/
theorem pe_meth0 {pl : Sem Bool} (he : PE X o ta) (c : Cls X.K C) (hm : Meth X.K C m f) (F : FnOk X.prog X.w X.K X.mg X.base CX k f fd ps sp) (hr : Room k X.A) (hb : Binds X.K fd ps ds) (hd : Vals dvs ds) (hx : Passes CX X E)
    (ht : eval (.Call (.Attribute o m apos) [] [] pos) X.env = (do
      let ov ← eval o X.env
      standAt apos.atName
      let (f, first) ← holding [ov] (getMethod ov m pl)
      callWith pos f first (backTo pos (starEach [] X.env)) (backToKw pos (keywordEach [] X.env))) := by rfl) :
    PE X (.Call (.Attribute o m apos) [] [] pos) (tMeth C m sp dvs E ta tNil) := by
  intro pins s σ H Q I h
  refine PySem.W.methodCall_KW (pl := pl) (thn (he pins s σ H _ I h) fun u s1 ⟨x, H1, I1, rx, a, dx, fs, ex, ea, l, q⟩ => ?_) ht
  subst ex
  obtain rfl : u = Value.ref a := rx
  refine getmeth_ok I1 ea c hm l ?_
  exact PySem.W.callWith_K0 (first := [.ref a]) I1.kIn hm.kp (run_fn (us := [.ref a]) (vs := [.ref a]) F hr hb hd hx I1 (.cons rfl .nil) q)

/-- what a class must have to be made -/
structure Mk (K : PySem.W.Frag) (C f : Addr) : Prop where
  makes : PySem.W.makesIn K C = true
  init : PySem.W.findIn K (.ref C) "__init__" = some (some (.ref f))
  fn : PySem.W.isFn K (.ref f) = true
  kp : PySem.W.keepIn K (.ref C) = true

theorem run_make {pins : List (Addr × Obj)} {σ : St} {H : Hp} {s : Shared} {Q : VK} {us : List Value} {vs : List V} (M : Mk X.K C f) (F : FnOk X.prog X.w X.K X.mg X.base CX k f fd ps sp) (hr : Room (k + 1) X.A) (hb : Binds X.K fd ps ds) (hd : Vals dvs ds)
    (hx : Passes CX X E) (I : Inv X pins σ H s) (r : Vals vs us)
    (h : ∀ x dx, H x = none → H dx = none → dx ≠ x → sp (.ref x :: (vs ++ dvs)) (upd (upd H dx (.own x)) x (.ins C dx [])) (fun v H2 => v = .non ∧ Q (.ref x) H2) E) :
    wpAny (model X.prog X.w) X.A (call (.ref C) us) (EP X pins σ Q) X.xe s := by
  have hq := h (s.heap.objs.size + 1) s.heap.objs.size (I.hok.fresh (Nat.le_succ _)) (I.hok.fresh (Nat.le_refl _)) (Nat.ne_of_lt (Nat.lt_succ_self _))
  have I2 := Inv.made (C := C) I
  have r2 : Vals (V.ref (s.heap.objs.size + 1) :: (vs ++ dvs)) (Value.ref (s.heap.objs.size + 1) :: (us ++ ds)) := .cons rfl (r.append hd)
  have hl : (Value.ref (s.heap.objs.size + 1) :: us ++ ds).length = ps.length := by
    have e := r2.length
    rw [F.len _ _ _ _ hq] at e
    exact e.symm
  refine wpAny_call (make_map (f := f) I.kIn M.makes M.init (beq_iff_eq.mp M.fn) (codeAny_mono (F.run _ X.stack _ _ ⟨Value.ref (s.heap.objs.size + 1) :: us, []⟩ (Value.ref (s.heap.objs.size + 1) :: (us ++ ds)) _ _ E (hr.make C us [])
    (I2.env0.make C us []) (hb _ (Value.ref (s.heap.objs.size + 1) :: us) I2.kIn hl) r2 hq) fun r s' hq' => ?_))
  cases r with
  | error e => exact hx pins σ _ _ e s' I2 hq'
  | ok fl =>
    cases fl with
    | ret u =>
      obtain ⟨v, H', I3, rv, ev, q3⟩ := I2.after hq'
      subst ev
      exact ⟨rv, ⟨V.ref (s.heap.objs.size + 1), H', I3, rfl, q3⟩⟩
    | next => exact False.elim hq'
    | brk => exact False.elim hq'
    | cont => exact False.elim hq'
theorem pe_make0 (M : Mk X.K C f) (F : FnOk X.prog X.w X.K X.mg X.base CX k f fd ps sp) (hr : Room (k + 1) X.A) (hg : Gl X x) (hm : X.mg x = some (.ref C)) (hb : Binds X.K fd ps ds) (hd : Vals dvs ds) (hx : Passes CX X E)
    (hdb : (x == ("__debug__" : Str)) = false := by decide) : PE X (.Call (.Name x p) [] [] pos) (tMake C sp dvs E tNil) := by
  intro pins s σ H Q I h
  refine wpAny_Call_Name_kw (ld_glob I hg hm ?_ hdb)
  exact PySem.W.callWith_K0 I.kIn M.kp (run_make (us := []) M F hr hb hd hx I .nil h)
end

/-! ### keywords -/
section
variable {X : Cx} {CX : CXT} {k : Nat} {f C : Addr} {fd : FuncData} {ps ks : List Str} {sp : Sp} {E : XK} {x m : Str} {p pos apos kpos : Pos} {e o : Expr} {es : List Expr} {kws : List Keyword} {te ta : TE} {t tk : TA} {nm : Option Str}
variable {g : List Value → List Value → List Value} {gV : List V → List V → List V}
end

/-! ### a def's body keeps its promise -/
/-- names: the parameters first -/
structure FnScope (N P : List Str) (sc : Scope) : Prop where
  kind : sc.kind = .function
  co : sc.isCoroutine = false
  gen : sc.isGenerator = false
  nd : N.Nodup
  pre : N.take P.length = P
  par : ∀ x ∈ P, sc.names.lookup x = some .local ∨ sc.names.lookup x = some .cell
  nofree : ∀ y ∈ sc.names, y.2 ≠ .free

theorem bindL_out {kindOf : Str → Option NameKind} {x : Str} : ∀ {binds : List (Str × Value)} {m : Str → Option Value}, (∀ v, (x, v) ∉ binds) → bindL kindOf binds m x = m x
  | [], _, _ => rfl
  | (n, v) :: r, m, h => by
    unfold bindL
    rw [bindL_out fun w hw => h w (List.mem_cons_of_mem _ hw)]
    split
    · have : x ≠ n := by rintro rfl; exact h v List.mem_cons_self
      simp [this]
    · rfl
theorem bindC_out {kindOf : Str → Option NameKind} {x : Str} : ∀ {binds : List (Str × Value)} {m : Str → Option Value}, (∀ v, (x, v) ∉ binds) → bindC kindOf binds m x = m x
  | [], _, _ => rfl
  | (n, v) :: r, m, h => by
    unfold bindC
    rw [bindC_out fun w hw => h w (List.mem_cons_of_mem _ hw)]
    split
    · rfl
    · have : x ≠ n := by rintro rfl; exact h v List.mem_cons_self
      simp [this]
theorem bindL_get {kindOf : Str → Option NameKind} {x : Str} {v : Value} : ∀ {P : List Str} {vs : List Value} {i : Nat} {m : Str → Option Value}, P.Nodup → P[i]? = some x → vs[i]? = some v → kindOf x = some .local →
    bindL kindOf (P.zip vs) m x = some v
  | [], _, _, _, _, h, _, _ => by simp at h
  | _ :: _, [], _, _, _, _, h, _ => by simp at h
  | p :: P, w :: vs, 0, m, nd, h1, h2, hk => by
    simp at h1 h2; subst h1; subst h2
    show bindL kindOf ((p, w) :: P.zip vs) m p = _
    unfold bindL
    rw [bindL_out fun v hv => (List.nodup_cons.mp nd).1 (List.of_mem_zip hv).1, if_pos hk]
    simp
  | p :: P, w :: vs, i + 1, m, nd, h1, h2, hk => by
    show bindL kindOf ((p, w) :: P.zip vs) m x = _
    unfold bindL
    exact bindL_get (i := i) (List.nodup_cons.mp nd).2 (by simpa using h1) (by simpa using h2) hk
theorem bindC_get {kindOf : Str → Option NameKind} {x : Str} {v : Value} : ∀ {P : List Str} {vs : List Value} {i : Nat} {m : Str → Option Value}, P.Nodup → P[i]? = some x → vs[i]? = some v → kindOf x ≠ some .local →
    bindC kindOf (P.zip vs) m x = some v
  | [], _, _, _, _, h, _, _ => by simp at h
  | _ :: _, [], _, _, _, _, h, _ => by simp at h
  | p :: P, w :: vs, 0, m, nd, h1, h2, hk => by
    simp at h1 h2; subst h1; subst h2
    show bindC kindOf ((p, w) :: P.zip vs) m p = _
    unfold bindC
    rw [bindC_out fun v hv => (List.nodup_cons.mp nd).1 (List.of_mem_zip hv).1, if_neg hk]
    simp
  | p :: P, w :: vs, i + 1, m, nd, h1, h2, hk => by
    show bindC kindOf ((p, w) :: P.zip vs) m x = _
    unfold bindC
    exact bindC_get (i := i) (List.nodup_cons.mp nd).2 (by simpa using h1) (by simpa using h2) hk

/-- the names' values at the entry -/
def start (N : List Str) (vs : List V) : St := vs.map some ++ List.replicate (N.length - vs.length) none

/-- the context of a def's body, at its entry; an exception leaves the frame, then lies as CX says -/
def cxOf (CX : CXT) (P : Program) (w : World) (K : PySem.W.Frag) (mg : Str → Option Value) (base : Heap) (N : List Str) (qual : Str) (scope : Scope) (f : Addr) (cd : Value) (A : Around) (outer : List Env) (s : Shared) (H : Hp) (E : XK) : Cx where
  prog := P
  w := w
  K := K
  mg := mg
  base := base
  A := A.deeper (envOfC qual scope s.heap.objs.size f cd)
  N := N
  s₀ := s
  H₀ := H
  env := envOfC qual scope s.heap.objs.size f cd
  outer := outer
  stack := envOfC qual scope s.heap.objs.size f cd :: outer
  ex := []
  calm := true
  fn := fun _ => true
  pn := []
  xe := fun e s' => wpAny (model P w) (A.deeper (envOfC qual scope s.heap.objs.size f cd)) (leaving (envOfC qual scope s.heap.objs.size f cd) e) (fun _ s'' => CX outer H s E e s'') (fun e' s'' => CX outer H s E e' s'') s'

theorem cell_has {sc : Scope} {n : Nat} {x : Str} (h : sc.names.lookup x = some .cell) : ∃ c, (cellsFrom n sc.names []).lookup x = some c := by
  have q := PySem.W.cellsFrom_some sc.names n [] (.inl h)
  exact Option.isSome_iff_exists.mp q

theorem inv_start {CX : CXT} {P : Program} {w : World} {K : PySem.W.Frag} {mg : Str → Option Value} {base : Heap} {N ps : List Str} {qual : Str} {scope : Scope} {f : Addr} {cd : Value} {A : Around} {outer : List Env} {s s1 : Shared} {H : Hp} {E : XK} {us : List Value} {vs : List V}
    (S : FnScope N ps scope) (hd : A.handled = none) (e0 : Env0 P w K mg base A outer s H) (hl : vs.length = ps.length) (r : Vals vs us)
    (x : InCallC s s.heap.objs.size (bindL (envOfC qual scope s.heap.objs.size f cd).kindOf (ps.zip us) fun _ => none) (cellsFrom (s.heap.objs.size + 1) scope.names []) (bindC (envOfC qual scope s.heap.objs.size f cd).kindOf (ps.zip us) fun _ => none) s1) :
    Inv (cxOf CX P w K mg base N qual scope f cd A outer s H E) [] (start N vs) H s1 := by
  have hpl : ps.length ≤ N.length := by have := congrArg List.length S.pre; rw [List.length_take] at this; omega
  obtain ⟨h1, tk, rfl, hk⟩ := x.done
  have noA : ∀ b : Addr, b ∉ (cxOf CX P w K mg base N qual scope f cd A outer s H E).ex := fun b z => absurd (show b ∈ ([] : List Addr) from z) (by simp)
  refine ⟨⟨e0.mod, S.kind, rfl, rfl, Nat.le_refl _, fun y z c h1 h2 => ?_, fun y hy => ?_, fun y c _ h => ?_, fun _ => hd, Around.frames_deeper e0.frames, .inr ⟨rfl, rfl⟩, fun b z => absurd z (noA b), e0.bs, e0.bsz, fun b _ _ => noA b, fun b z => absurd z (noA b), e0.funs, e0.frf⟩,
    rfl, e0.bare, Un.kept hk, ⟨_, x.toInCall.ns, fun i y v h1 h2 h3 => ?_⟩, fun y c h => ⟨_, x.cell y c h⟩, e0.hok.fresh (Nat.le_refl _), fun y c h => ?_, fun p hp => absurd (show p ∈ ([] : List (Addr × Obj)) from hp) (by simp), e0.hok.kept hk, ?_⟩
  · exact name_of_addr x.apart (PySem.mem_of_lookup h1) (PySem.mem_of_lookup h2)
  · have hy : scope.names.lookup y = some .cell ∨ scope.names.lookup y = some .free := hy
    rcases hy with hy | hy
    · exact cell_has hy
    · exact absurd rfl (S.nofree _ (PySem.mem_of_lookup hy))
  · exact Nat.le_of_lt (x.above y c (PySem.mem_of_lookup h))
  · have hi : i < vs.length := by
      unfold start at h2
      by_cases hi : i < vs.length
      · exact hi
      · rw [List.getElem?_append_right (by simpa using hi)] at h2
        rw [List.getElem?_replicate] at h2
        split at h2 <;> cases h2
    have ha : vs[i]? = some v := by
      unfold start at h2
      rw [List.getElem?_append_left (by simpa using hi), List.getElem?_map] at h2
      cases e : vs[i]? with
      | none => rw [e] at h2; cases h2
      | some a => rw [e] at h2; cases h2; rfl
    obtain ⟨u, hu, rv⟩ := r.get ha
    have hp : ps[i]? = some y := by
      rw [← S.pre, List.getElem?_take_of_lt (by omega)]; exact h1
    have ndP : ps.Nodup := by rw [← S.pre]; exact S.nd.sublist (List.take_sublist _ _)
    refine ⟨u, rv, ?_⟩
    rcases S.par y (List.mem_of_getElem? hp) with k | k
    · exact .inl ⟨k, bindL_get ndP hp hu k⟩
    · obtain ⟨c, e⟩ := cell_has (n := s.heap.objs.size + 1) k
      refine .inr ⟨.inl k, c, e, ?_⟩
      have q := x.cell y c e
      rw [bindC_get ndP hp hu (by show scope.names.lookup y ≠ _; rw [k]; decide)] at q
      exact q
  · exact e0.hok.fresh (Nat.le_of_lt (x.above y c (PySem.mem_of_lookup h)))
  · unfold start
    show _ = N.length
    rw [List.length_append, List.length_map, List.length_replicate]
    omega

/-- THE RULE: a def (or a method) of the text, by its body. The body's reading t is chosen for each entry; it is run at the parameters' values -/
theorem fn_of {CX : CXT} {P : Program} {w : World} {K : PySem.W.Frag} {mg : Str → Option Value} {base : Heap} {k : Nat} {f : Addr} {name qual : Str} {params : Arguments} {body : List Stmt} {scope : Scope} {dV kV doc pm cdv ct oc : Value} {an od : Option Addr}
    {osl : Array (Option Value)} {N ps : List Str} {sp : Sp} (lk : K.lookup f = some ⟨oc, od, .func (PySem.W.fnOf name qual params body scope dV kV doc pm an cdv ct), osl⟩) (hcd : PySem.W.codeIn K cdv qual = true) (S : FnScope N ps scope)
    (len : ∀ vs H Q E, sp vs H Q E → vs.length = ps.length)
    (hbody : ∀ (A : Around) (outer : List Env) (s : Shared) (H : Hp) (vs : List V) (Q : VK) (E : XK), Room k (A.deeper (envOfC qual scope s.heap.objs.size f cdv)) → sp vs H Q E →
      ∃ t, PSs (cxOf CX P w K mg base N qual scope f cdv A outer s H E) body t ∧ t { nx := fun _ H' => Q .non H', rt := Q } (start N vs) H) :
    FnOk P w K mg base CX (k + 1) f (PySem.W.fnOf name qual params body scope dV kV doc pm an cdv ct) ps sp := by
  refine ⟨len, fun A outer s H args us vs Q E hr e0 hb r hsp => ?_⟩
  have hl := len _ _ _ _ hsp
  have KX : K.In s.heap := e0.mod.kin.keeps fun b o e => (e0.bs b o e).1
  have lim : s.heap.NoLimit := e0.mod.nolimit.keeps fun b o e => (e0.bs b o e).1
  have hkind : ∀ y ∈ ps.zip us, scope.names.lookup y.1 = some .local ∨ (scope.names.lookup y.1 = some .cell ∧ ((cellsFrom (s.heap.objs.size + 1) scope.names []).lookup y.1).isSome = true) := fun ⟨n, v⟩ hy => by
    rcases S.par n (List.of_mem_zip hy).1 with q | q
    · exact .inl q
    · exact .inr ⟨q, PySem.W.cellsFrom_some _ _ _ (.inl q)⟩
  refine codeAny_call_function hr.depth (KX _ _ lk) rfl S.co S.gen rfl (PySem.W.codeRec_of KX hcd) (hb _ _ _ _ ?_)
  refine wpAny_newFunctionEnv_cells S.kind hkind fun env he s1 x => ?_
  subst he
  refine ⟨lim.keeps x.toInCall.keep, codeAny_func ?_⟩
  obtain ⟨t, ht, hq⟩ := hbody A outer s H vs Q E (hr.deeper _) hsp
  have I : Inv (cxOf CX P w K mg base N qual scope f cdv A outer s H E) [] (start N vs) H s1 := inv_start S hr.hd e0 hl r x
  refine wpAny_mono (ht [] s1 (start N vs) H _ I hq) (fun fl s' hs => ?_) fun e s' hs => hs
  have fin : ∀ {σ' : St} {H' : Hp} {v : V} {u : Value}, Inv (cxOf CX P w K mg base N qual scope f cdv A outer s H E) [] σ' H' s' → RelV v u → Q v H' → CE outer P w H s Q u s' :=
    fun {σ' H' v u} J rv q => ⟨v, H', J.os, J.bare, J.base, J.hok, rv, q⟩
  cases fl with
  | ret u =>
    obtain ⟨v, σ', H', J, rv, q⟩ := hs
    exact fin J rv q
  | next =>
    obtain ⟨σ', H', J, q⟩ := hs
    exact fin (v := V.non) (u := Value.none) J rfl q
  | brk =>
    obtain ⟨_, _, _, q⟩ := hs
    exact False.elim q
  | cont =>
    obtain ⟨_, _, _, q⟩ := hs
    exact False.elim q
end L2

namespace L2
open PySem PySem.Spec PyProof.Rows
section
variable {X : Cx} {x : Str} {p pos : Pos} {e : Expr} {es : List Expr} {t : TA} {id T : String} {r : List V → Hp → VK → Prop}

def tCB (r : List V → Hp → VK → Prop) (t : TA) : TE := fun σ H Q => t σ H fun vs H1 => r vs H1 Q
/-- f(e, ..), f a built-in function -/
theorem pe_callB (hc : CallR X (.builtin id) r) (hg : Gl X x) (hm : X.mg x = none) (hv : bootBuiltins x = some (.builtin id)) (ha : PA X (e :: es) t) (hn : x ≠ "__name__" := by decide) (hdb : (x == ("__debug__" : Str)) = false := by decide)
    (he : starEach (e :: es) X.env = (false, eval e X.env) :: starEach es X.env := by rfl) (hpl : (backTo pos (starEach es X.env)).any (·.1) = false := by rfl) : PE X (.Call (.Name x p) (e :: es) [] pos) (tCB r t) := by
  intro pins s σ H Q I h
  refine wpAny_Call_Name_kw (ld_blt I hg hm hv ?_ hn hdb)
  exact PyProof.Rows.callWith_builtin1 (thn (ha pos pins s σ H _ I h) fun us s1 ⟨vs, H1, I1, r1, q1⟩ => hc pins s1 σ H1 vs us Q I1 r1 q1) he hpl
/-- T(e, ..), T a built-in type -/
theorem pe_callTy (hc : CallR X (.type T) r) (hg : Gl X x) (hm : X.mg x = none) (hv : bootBuiltins x = some (.type T)) (ha : PA X (e :: es) t) (hn : x ≠ "__name__" := by decide) (hdb : (x == ("__debug__" : Str)) = false := by decide)
    (he : starEach (e :: es) X.env = (false, eval e X.env) :: starEach es X.env := by rfl) (hpl : (backTo pos (starEach es X.env)).any (·.1) = false := by rfl) : PE X (.Call (.Name x p) (e :: es) [] pos) (tCB r t) := by
  intro pins s σ H Q I h
  refine wpAny_Call_Name_kw (ld_blt I hg hm hv ?_ hn hdb)
  exact PyProof.Rows.callWith_type1 (thn (ha pos pins s σ H _ I h) fun us s1 ⟨vs, H1, I1, r1, q1⟩ => hc pins s1 σ H1 vs us Q I1 r1 q1) he hpl
end
end L2

namespace L2
open PySem PySem.Spec PyProof.Rows

/-! ### lists of pairs as tables -/
section
variable {κ : Type} [DecidableEq κ]
def valV (kvs : List (κ × V)) (k : κ) : Option V := (kvs.find? fun kv => decide (kv.1 = k)).map (·.2)
/-- in its place, or at the end -/
def putK (kvs : List (κ × V)) (k : κ) (v : V) : List (κ × V) :=
  if (kvs.any fun kv => decide (kv.1 = k)) = true then kvs.map (fun kv => if kv.1 = k then (kv.1, v) else kv) else kvs ++ [(k, v)]
theorem valV_pos {p : κ × V} {r : List (κ × V)} {k : κ} (e : p.1 = k) : valV (p :: r) k = some p.2 := by simp [valV, List.find?_cons, e]
theorem valV_neg {p : κ × V} {r : List (κ × V)} {k : κ} (e : ¬ p.1 = k) : valV (p :: r) k = valV r k := by simp [valV, List.find?_cons, e]
theorem valV_any (k : κ) : ∀ kvs : List (κ × V), (kvs.any fun kv => decide (kv.1 = k)) = (valV kvs k).isSome
  | [] => rfl
  | p :: r => by
    rw [List.any_cons]
    by_cases e : p.1 = k
    · simp only [valV_pos e, decide_eq_true e, Bool.true_or, Option.isSome_some]
    · rw [valV_neg e, decide_eq_false e, Bool.false_or]; exact valV_any k r
theorem length_putK (kvs : List (κ × V)) (k : κ) (v : V) : (putK kvs k v).length ≤ kvs.length + 1 := by
  unfold putK
  split
  · rw [List.length_map]; omega
  · rw [List.length_append, List.length_cons, List.length_nil]; omega
theorem putK_new {kvs : List (κ × V)} {k : κ} (v : V) (h : valV kvs k = none) : putK kvs k v = kvs ++ [(k, v)] := by
  unfold putK
  rw [valV_any, h]
  exact if_neg (by decide)

theorem RelO.isSome_eq {o : Option V} {u : Option Value} (r : RelO o u) : o.isSome = u.isSome := by
  cases o with
  | none => cases u with
    | none => rfl
    | some _ => exact (show False from r).elim
  | some _ => cases u with
    | none => exact (show False from r).elim
    | some _ => rfl
/-- raw tables of the same keys -/
theorem KV.val {kvs : List (κ × V)} {vs : List (κ × Value)} (r : KV kvs vs) (k : κ) : RelO (valV kvs k) (valueAt vs k) := by
  unfold KV at r
  induction r with
  | nil => exact True.intro
  | @cons p q ps qs h t ih =>
    obtain ⟨h1, h2⟩ := h
    by_cases e : p.1 = k
    · have e' : q.1 = k := h1.symm.trans e
      have b : valueAt (q :: qs) k = some q.2 := by simp [valueAt, List.find?_cons, e']
      rw [valV_pos e, b]; exact h2
    · have e' : ¬ q.1 = k := fun z => e (h1.trans z)
      have b : valueAt (q :: qs) k = valueAt qs k := by simp [valueAt, List.find?_cons, e']
      rw [valV_neg e, b]; exact ih
theorem KV.any {kvs : List (κ × V)} {vs : List (κ × Value)} (r : KV kvs vs) (k : κ) : (kvs.any fun kv => decide (kv.1 = k)) = vs.any fun kv => decide (kv.1 = k) := by
  unfold KV at r
  induction r with
  | nil => rfl
  | cons h t ih => rw [List.any_cons, List.any_cons, ih, h.1]
theorem KV.repl {kvs : List (κ × V)} {vs : List (κ × Value)} (r : KV kvs vs) (k : κ) {y : V} {u : Value} (ry : RelV y u) :
    KV (kvs.map fun kv => if kv.1 = k then (kv.1, y) else kv) (vs.map fun kv => if kv.1 = k then (kv.1, u) else kv) := by
  unfold KV at r ⊢
  induction r with
  | nil => exact .nil
  | @cons p q ps qs h t ih =>
    rw [List.map_cons, List.map_cons]
    refine .cons ?_ ih
    obtain ⟨h1, h2⟩ := h
    by_cases e : p.1 = k
    · rw [if_pos e, if_pos (h1.symm.trans e)]; exact ⟨h1, ry⟩
    · rw [if_neg e, if_neg (fun z => e (h1.trans z))]; exact ⟨h1, h2⟩
theorem KV.put {kvs : List (κ × V)} {vs : List (κ × Value)} (r : KV kvs vs) (k : κ) {y : V} {u : Value} (ry : RelV y u) : KV (putK kvs k y) (stored vs k u) := by
  unfold putK stored
  rw [r.any k]
  by_cases e : (vs.any fun kv => decide (kv.1 = k)) = true
  · rw [if_pos e, if_pos e]; exact r.repl k ry
  · rw [if_neg e, if_neg e]; exact Paired.snoc r ⟨rfl, ry⟩
theorem KV.length {kvs : List (κ × V)} {vs : List (κ × Value)} (r : KV kvs vs) : kvs.length = vs.length := Paired.length r
end


/-! ### a tracked dict, its keys ints and texts or tuples of these -/
theorem kV_is {P : Program} {w : World} {k : Key} {u : Value} (r : RelV (kV k) u) : (mixKind P w).is k u = true := by
  cases k with
  | inl i => obtain ⟨t, e⟩ := (show ∃ t, u = Value.int i t from r); subst e; exact mixKind_int P w i t
  | inr x => obtain ⟨t, e⟩ := (show ∃ t, u = Value.str x t from r); subst e; exact mixKind_str P w x t
theorem items_are {P : Program} {w : World} : ∀ {ks : List Key} {us : List Value}, Vals (ks.map kV) us → ItemsAre (mixKind P w) ks us
  | [], _, r => by rw [List.map_nil] at r; cases r; exact .nil
  | k :: ks, _, r => by
    rw [List.map_cons] at r
    cases r with
    | cons h t => exact .cons (kV_is h) (items_are t)

/-- raw entries of a dict with tuple keys -/
abbrev KT (H : Hp) : List (List Key × V) → List (List Key × Addr × Value) → Prop := Paired fun p q => p.1 = q.1 ∧ H q.2.1 = some (.tup (p.1.map kV)) ∧ RelV p.2 q.2.2
theorem KT.val {H : Hp} {kvs : List (List Key × V)} {xs : List (List Key × Addr × Value)} (r : KT H kvs xs) (k : List Key) : RelO (valV kvs k) ((atKey xs k).map (·.2)) := by
  induction r with
  | nil => exact True.intro
  | @cons p q ps qs h t ih =>
    obtain ⟨h1, _, h2⟩ := h
    by_cases e : p.1 = k
    · have e' : q.1 = k := h1.symm.trans e
      have b : atKey (q :: qs) k = some q.2 := by simp [atKey, List.find?_cons, e']
      rw [valV_pos e, b]; exact h2
    · have e' : ¬ q.1 = k := fun z => e (h1.trans z)
      have b : atKey (q :: qs) k = atKey qs k := by simp [atKey, List.find?_cons, e']
      rw [valV_neg e, b]; exact ih
theorem KT.repl {H : Hp} {kvs : List (List Key × V)} {xs : List (List Key × Addr × Value)} (r : KT H kvs xs) (k : List Key) {y : V} {u : Value} (ry : RelV y u) :
    KT H (kvs.map fun kv => if kv.1 = k then (kv.1, y) else kv) (xs.map (putAt k u)) := by
  induction r with
  | nil => exact .nil
  | @cons p q ps qs h t ih =>
    rw [List.map_cons, List.map_cons]
    refine .cons ?_ ih
    obtain ⟨h1, h2, h3⟩ := h
    unfold putAt
    by_cases e : p.1 = k
    · rw [if_pos e, if_pos (h1.symm.trans e)]; exact ⟨h1, h2, ry⟩
    · rw [if_neg e, if_neg (fun z => e (h1.trans z))]; exact ⟨h1, h2, h3⟩
theorem KT.put {H : Hp} {kvs : List (List Key × V)} {xs : List (List Key × Addr × Value)} (r : KT H kvs xs) (k : List Key) {b : Addr} {y : V} {u : Value} (hb : H b = some (.tup (k.map kV))) (ry : RelV y u) :
    KT H (putK kvs k y) (storedH xs k b u) := by
  have e : (kvs.any fun kv => decide (kv.1 = k)) = (atKey xs k).isSome := by
    rw [valV_any, (r.val k).isSome_eq, Option.isSome_map]
  unfold putK storedH
  rw [e]
  by_cases q : (atKey xs k).isSome = true
  · rw [if_pos q, if_pos q]; exact r.repl k ry
  · rw [if_neg q, if_neg q]; exact Paired.snoc r ⟨rfl, hb, ry⟩
theorem KT.keeps {H H' : Hp} {kvs : List (List Key × V)} {xs : List (List Key × Addr × Value)} (r : KT H kvs xs) (ht : ∀ b ys, H b = some (.tup ys) → H' b = some (.tup ys)) : KT H' kvs xs :=
  Paired.mapP r fun _ _ z => ⟨z.1, ht _ _ z.2.1, z.2.2⟩

section
variable {P : Program} {w : World} {H : Hp} {h : Heap} {a : Addr}
theorem rd_of {u : HO} (ok : HOk P w H h) (e : Rd H a u) : ObjOk P w H h a u := e.ok ok
theorem dk_rd {kvs : List (Key × V)} (ok : HOk P w H h) (e : Rd H a (.dK kvs)) : kvs.length ≤ sizeLine ∧ (a == sysModules) = false ∧ ∃ vs, KV kvs vs ∧ h.DictOf (mixKind P w) a vs :=
  show ObjOk P w H h a (.dK kvs) from rd_of ok e
theorem dk_of {kvs : List (Key × V)} (ok : HOk P w H h) (e : H a = some (.dK kvs)) : kvs.length ≤ sizeLine ∧ (a == sysModules) = false ∧ ∃ vs, KV kvs vs ∧ h.DictOf (mixKind P w) a vs := dk_rd ok (.inl e)
/-- a tracked tuple of ints and texts is a key -/
theorem key_of {ks : List Key} (ok : HOk P w H h) (e : H a = some (.tup (ks.map kV))) : (tupleKind (mixKind P w)).is h ks a := by
  obtain ⟨_, its, r, o, h1, h2, n, h3⟩ := (show ObjOk P w H h a (.tup (ks.map kV)) from ok a _ e)
  exact ⟨o, its.toArray, n, h1, h2, h3, by simpa using items_are r⟩
theorem dt_rd {kvs : List (List Key × V)} (ok : HOk P w H h) (e : Rd H a (.dT kvs)) : kvs.length ≤ sizeLine ∧ (a == sysModules) = false ∧
    ∃ xs, KT H kvs xs ∧ h.DictOfH (tupleKind (mixKind P w)) a xs := by
  obtain ⟨z, y, xs, r, o, es, ep, h1, h2, h3, h4, h5⟩ := (show ObjOk P w H h a (.dT kvs) from rd_of ok e)
  refine ⟨z, y, xs, r, o, es, ep, h1, h2, h3, h4, fun x hx => ?_, h5⟩
  have all : ∀ {l : List (List Key × V)} {m : List (List Key × Addr × Value)}, KT H l m → ∀ x ∈ m, (tupleKind (mixKind P w)).is h x.1 x.2.1 := by
    intro l m q
    induction q with
    | nil => intro x hx; exact nomatch hx
    | @cons p q ps qs hq t ih =>
      intro x hx
      rcases List.mem_cons.mp hx with e | hx
      · subst e
        exact key_of ok (by rw [← hq.1]; exact hq.2.1)
      · exact ih x hx
  exact all r x hx
theorem dt_of {kvs : List (List Key × V)} (ok : HOk P w H h) (e : H a = some (.dT kvs)) : kvs.length ≤ sizeLine ∧ (a == sysModules) = false ∧
    ∃ xs, KT H kvs xs ∧ h.DictOfH (tupleKind (mixKind P w)) a xs := dt_rd ok (.inl e)
end

/-- what the dict at a holds at the key y -/
def DGet (H : Hp) (a : Addr) (y : V) (r : Option V) : Prop :=
  (∃ kvs k, Rd H a (.dK kvs) ∧ y = kV k ∧ r = valV kvs k) ∨ ∃ kvs k b, Rd H a (.dT kvs) ∧ y = .ref b ∧ H b = some (.tup (k.map kV)) ∧ r = valV kvs k
/-- the heap behind a[y] = v -/
def DPut (H : Hp) (a : Addr) (y v : V) (H' : Hp) : Prop :=
  (∃ kvs k, H a = some (.dK kvs) ∧ y = kV k ∧ kvs.length < sizeLine ∧ H' = upd H a (.dK (putK kvs k v))) ∨
  ∃ kvs k b, H a = some (.dT kvs) ∧ y = .ref b ∧ H b = some (.tup (k.map kV)) ∧ kvs.length < sizeLine ∧ H' = upd H a (.dT (putK kvs k v))
theorem DGet.k {H : Hp} {a : Addr} {kvs : List (Key × V)} {k : Key} (e : H a = some (.dK kvs)) : DGet H a (kV k) (valV kvs k) := .inl ⟨kvs, k, .inl e, rfl, rfl⟩
theorem DPut.k {H : Hp} {a : Addr} {kvs : List (Key × V)} {k : Key} {v : V} (e : H a = some (.dK kvs)) (hl : kvs.length < sizeLine) : DPut H a (kV k) v (upd H a (.dK (putK kvs k v))) := .inl ⟨kvs, k, e, rfl, hl, rfl⟩
section
variable {X : Cx} {pins : List (Addr × Obj)} {σ : St} {H : Hp} {s : Shared} {a : Addr} {y v : V} {u r : Value} {o : Option V} {A : Around} {E : Value → Shared → Prop}

theorem Inv.big (I : Inv X pins σ H s) : sysModules < s.heap.objs.size := by
  have h : mainGlobals < s.heap.objs.size := (I.mod.glob.keeps I.bk).lt
  exact Nat.lt_trans (by decide) h

/-- y in d -/
theorem d_in {Q : Value → Shared → Prop} (hu : A.units + 1 < cLine) (I : Inv X pins σ H s) (g : DGet H a y o) (ry : RelV y u) (h : ∀ s', Inv X pins σ H s' → Q (.bool o.isSome) s') :
    wpAny (model X.prog X.w) A (compareOp .In u (.ref a)) Q E s := by
  rcases g with ⟨kvs, k, e, ey, l⟩ | ⟨kvs, k, b, e, ey, eb, l⟩
  · subst ey
    obtain ⟨z, hd, vs, rel, dd⟩ := dk_rd I.hok e
    refine wpAny_in_of (kV_is ry) hd dd.mapOf ?_
    rw [← (rel.val k).isSome_eq, ← l]
    exact h _ (I.tok _)
  · subst ey
    cases (show u = Value.ref b from ry)
    obtain ⟨z, hd, xs, rel, dd⟩ := dt_rd I.hok e
    refine wpAny_in_heap (tupleKind_room_in1 hu) (key_of I.hok eb) hd dd ?_
    have q := (rel.val k).isSome_eq
    rw [Option.isSome_map] at q
    rw [← q, ← l]
    exact h _ (I.tok _)
theorem d_notIn {Q : Value → Shared → Prop} (hu : A.units + 1 < cLine) (I : Inv X pins σ H s) (g : DGet H a y o) (ry : RelV y u) (h : ∀ s', Inv X pins σ H s' → Q (.bool (!o.isSome)) s') :
    wpAny (model X.prog X.w) A (compareOp .NotIn u (.ref a)) Q E s := by
  rcases g with ⟨kvs, k, e, ey, l⟩ | ⟨kvs, k, b, e, ey, eb, l⟩
  · subst ey
    obtain ⟨z, hd, vs, rel, dd⟩ := dk_rd I.hok e
    refine wpAny_notIn_of (kV_is ry) hd dd.mapOf ?_
    rw [← (rel.val k).isSome_eq, ← l]
    exact h _ (I.tok _)
  · subst ey
    cases (show u = Value.ref b from ry)
    obtain ⟨z, hd, xs, rel, dd⟩ := dt_rd I.hok e
    refine wpAny_notIn_heap (tupleKind_room_in1 hu) (key_of I.hok eb) hd dd ?_
    have q := (rel.val k).isSome_eq
    rw [Option.isSome_map] at q
    rw [← q, ← l]
    exact h _ (I.tok _)
/-- a dict's object is replaced -/
theorem d_write {h' : Heap} {t' : Nat} {ob : HO} (I : Inv X pins σ H s) (mu : Mut (H a)) (hs : Heap.SameBut a s.heap h') (he : ∃ q, h'.get? a = some q) (new : ObjOk X.prog X.w (upd H a ob) h' a ob) :
    Inv X pins σ (upd H a ob) { s with heap := h', toks := t' } :=
  I.write (x := a) (e := a) mu (.inl rfl) (fun b q hb z => (hs.2 b hb).trans z) he new
theorem dk_new {P : Program} {w : World} {H' : Hp} {h' : Heap} {kvs : List (Key × V)} {vs : List (Key × Value)} (z : kvs.length ≤ sizeLine) (hd : (a == sysModules) = false) (rel : KV kvs vs) (dd : h'.DictOf (mixKind P w) a vs) :
    ObjOk P w H' h' a (.dK kvs) := ⟨z, hd, vs, rel, dd⟩
/-- d[y] = v -/
theorem d_setItem {H' : Hp} {Q : Unit → Shared → Prop} (hu : A.units + 1 < cLine) (I : Inv X pins σ H s) (g : DPut H a y v H') (ry : RelV y u) (rv : RelV v r) (h : ∀ s', Inv X pins σ H' s' → Q () s') :
    wpAny (model X.prog X.w) A (setItem (.ref a) u r) Q E s := by
  rcases g with ⟨kvs, k, e, ey, l, eH⟩ | ⟨kvs, k, b, e, ey, eb, l, eH⟩
  · subst ey eH
    obtain ⟨z, hd, vs, rel, dd⟩ := dk_of I.hok e
    have hz : vs.length ≤ sizeLine := by rw [← rel.length]; exact z
    have hl : (putK kvs k v).length ≤ sizeLine := by have := length_putK kvs k v; omega
    refine wpAny_setItem_pairs (hsz := hz) (kV_is ry) dd fun h' dd' hs => h _ ?_
    have he : ∃ q, h'.get? a = some q := let ⟨q, _, _, hq, _⟩ := dd'; ⟨q, hq⟩
    exact d_write I (by rw [e]; exact True.intro) hs he (dk_new hl hd (rel.put k rv) dd')
  · subst ey eH
    cases (show u = Value.ref b from ry)
    obtain ⟨z, hd, xs, rel, dd⟩ := dt_of I.hok e
    have hz : xs.length ≤ sizeLine := by rw [← Paired.length rel]; exact z
    have hl : (putK kvs k v).length ≤ sizeLine := by have := length_putK kvs k v; omega
    refine wpAny_setItem_heap (hsz := hz) (tupleKind_room_in1 hu) (key_of I.hok eb) dd fun h' dd' hs => h _ ?_
    obtain ⟨q, es, ep, hq, h2, h3, h4, _, h5⟩ := dd'
    refine d_write I (by rw [e]; exact True.intro) hs ⟨q, hq⟩ ⟨hl, hd, _, (rel.put k eb rv).keeps fun c ys ec => ?_, q, es, ep, hq, h2, h3, h4, h5⟩
    rw [upd_ne (ne_of ec e (fun z => nomatch z))]
    exact ec
end

section
variable {X : Cx} {pins : List (Addr × Obj)} {σ : St} {H : Hp} {s : Shared} {a : Addr} {kvs : List (Key × V)} {k : Key} {u : Value} {A : Around} {E : Value → Shared → Prop}
/-- len(d) -/
theorem d_len {Q : Value → Shared → Prop} (I : Inv X pins σ H s) (e : Rd H a (.dK kvs)) (h : ∀ t s', Inv X pins σ H s' → Q (.int kvs.length t) s') : wpAny (model X.prog X.w) A (call (.builtin "len") [.ref a]) Q E s := by
  obtain ⟨z, hd, vs, rel, dd⟩ := dk_rd I.hok e
  refine call_len_dict hd dd (by rw [← rel.length]; rw [sizeLine_eq] at z; omega) ?_
  rw [← rel.length]
  exact h _ _ (I.tok _)
end


/-! ### readings and rules -/
/-- y in d, y not in d -/
def tDIn (ty td : TE) : TE := fun σ H Q => ty σ H fun y H1 => td σ H1 fun x H2 => ∃ a o, x = .ref a ∧ DGet H2 a y o ∧ Q (.bl o.isSome) H2
def tDNotIn (ty td : TE) : TE := fun σ H Q => ty σ H fun y H1 => td σ H1 fun x H2 => ∃ a o, x = .ref a ∧ DGet H2 a y o ∧ Q (.bl (!o.isSome)) H2
/-- d[y] = v -/
def sDPut (td ty tv : TE) : TS := fun D σ H => tv σ H fun v H1 => td σ H1 fun x H2 => ty σ H2 fun y H3 => ∃ a H4, x = .ref a ∧ DPut H3 a y v H4 ∧ D.nx σ H4
section
variable {X : Cx} {o i e value : Expr} {pos pos' tpos : Pos} {td ty tv : TE}
theorem pc_din (hu : X.A.units + 1 < cLine) (hi : PE X i ty) (ho : PE X o td) : PC X .In i o (tDIn ty td) := by
  intro pins s σ H Q I h
  refine thn (hi pins s σ H _ I h) fun iv s1 ⟨y, H1, I1, ry, q1⟩ => thn (ho pins s1 σ H1 _ I1 q1) fun u s2 ⟨x, H2, I2, rx, a, ov, ex, g, q2⟩ => ?_
  subst ex
  obtain rfl : u = Value.ref a := rx
  exact d_in hu I2 g ry fun s3 I3 => ⟨.bl ov.isSome, H2, I3, rfl, q2⟩
theorem pc_dnotin (hu : X.A.units + 1 < cLine) (hi : PE X i ty) (ho : PE X o td) : PC X .NotIn i o (tDNotIn ty td) := by
  intro pins s σ H Q I h
  refine thn (hi pins s σ H _ I h) fun iv s1 ⟨y, H1, I1, ry, q1⟩ => thn (ho pins s1 σ H1 _ I1 q1) fun u s2 ⟨x, H2, I2, rx, a, ov, ex, g, q2⟩ => ?_
  subst ex
  obtain rfl : u = Value.ref a := rx
  exact d_notIn hu I2 g ry fun s3 I3 => ⟨.bl (!ov.isSome), H2, I3, rfl, q2⟩
theorem ps_dput (hu : X.A.units + 1 < cLine) (ho : PE X o td) (hi : PE X i ty) (hv : PE X value tv) (hs : swapsWith value (some (.Subscript o i pos')) pos.line X.env = pure false) :
    PS X (.Assign [.Subscript o i pos'] value pos) (sDPut td ty tv) := by
  intro pins s σ H D I h
  refine wpAny_Assign_Subscript (thn (hv pins s σ H _ I h) fun r s1 ⟨v, H1, I1, rv, q1⟩ => thn (ho pins s1 σ H1 _ I1 q1) fun u s2 ⟨x, H2, I2, rx, q2⟩ => thn (hi pins s2 σ H2 _ I2 q2) fun iv s3 ⟨y, H3, I3, ry, a, H4, ex, g, q3⟩ => ?_) hs
  subst ex
  obtain rfl : u = Value.ref a := rx
  exact d_setItem hu I3 g ry rv fun s4 I4 => ⟨σ, H4, I4, q3⟩
end


/-! ### displays -/
theorem dk_empty {P : Program} {w : World} {H : Hp} (h : Heap) (hb : sysModules < h.objs.size) : ObjOk P w H (h.push { cls := .type "dict", data := .dict #[] }) h.objs.size (.dK []) :=
  ⟨Nat.zero_le _, beq_eq_false_iff_ne.mpr (Ne.symm (Nat.ne_of_lt hb)), [], .nil, Heap.DictOf.new h⟩
/-- {}, to be a dict of the kind that is wanted -/
def tDNewK : TE := fun _ H Q => ∀ p, H p = none → Q (.ref p) (upd H p (.dK []))
section
variable {X : Cx} {pos : Pos}
theorem pe_dnewK : PE X (.Dict [] [] pos) tDNewK := fun pins s σ H Q I h =>
  wpAny_Dict_empty ⟨.ref s.heap.objs.size, _, I.laid (a := s.heap.objs.size) (o := .dK []) (t' := s.toks) (fun _ _ q => Heap.get?_push_of_some _ q) (Nat.le_refl _) (dk_empty s.heap I.big), rfl, h _ (I.hok.fresh (Nat.le_refl _))⟩
end

/-! ### methods -/
section
variable {X : Cx} {pins : List (Addr × Obj)} {σ : St} {H : Hp} {s : Shared} {a : Addr} {y d : V} {u r : Value} {o : Option V} {A : Around} {E : Value → Shared → Prop}
end

section
variable {X : Cx} {o e f : Expr} {apos cpos : Pos} {td ty tx : TE}
end

/-! ### dict(d): a copy -/
section
variable {X : Cx} {pins : List (Addr × Obj)} {σ : St} {H : Hp} {s : Shared} {a : Addr} {kvs : List (Key × V)} {A : Around} {E : Value → Shared → Prop}
end


section
variable {X : Cx} {pins : List (Addr × Obj)} {σ : St} {H : Hp} {s : Shared} {a : Addr} {y : V} {u : Value} {A : Around} {E : Value → Shared → Prop}
end
end L2

namespace HT
open PySem PyProof.Rows

section
open PySem.SeqAt
open PySem.AutoSeq1 (wpAny_loadPart')
open PySem.MeetsSeq PySem.MeetsSeq2 PySem.MeetsSeq3

end

section
variable {prog : Program} {w : World} {A : Around} {E : Value → Shared → Prop} {s : Shared}

/-- t + u, t not empty -/
theorem cat_tup {t b : Addr} {vs ws : List Value} {Q : Value → Shared → Prop} (ht : IsTup s.heap t vs.toArray) (hb : IsTup s.heap b ws.toArray) (hv : vs ≠ [])
    (h1 : ws = [] → Q (.ref t) s) (h2 : ws ≠ [] → Q (.ref s.heap.objs.size) { s with heap := s.heap.push { cls := .type "tuple", data := .seq (vs ++ ws).toArray } })
    (hsz : vs.length + ws.length ≤ sizeLine) : wpAny (model prog w) A (binaryOp .Add (.ref t) (.ref b)) Q E s := by
  obtain ⟨⟨cls, dd, data, sl⟩, ho, hc, n, hd⟩ := id ht
  obtain ⟨⟨cls2, dd2, data2, sl2⟩, ho2, hc2, n2, hd2⟩ := id hb
  simp only at hc hd hc2 hd2
  subst hc hd hc2 hd2
  have e : vs.toArray ++ ws.toArray = (vs ++ ws).toArray := by simp
  by_cases hw : ws = []
  · exact concat_meets ⟨_, ho, rfl⟩ ⟨_, ho2, rfl⟩ noFill_tuple_add seq_tuple_add PySem.F.slot_tuple_add PySem.F.entry_tuple_add (PySem.F.args_tuple_add_2 _ _)
      (tuple_addW1 t b vs.toArray ws.toArray n n2 dd dd2 sl sl2 (by simpa using hv) (by simp [hw])) ⟨ho, ho2, h1 hw⟩
  · refine concat_meets ⟨_, ho, rfl⟩ ⟨_, ho2, rfl⟩ noFill_tuple_add seq_tuple_add PySem.F.slot_tuple_add PySem.F.entry_tuple_add (PySem.F.args_tuple_add_2 _ _)
      (tuple_addW2 t b vs.toArray ws.toArray n n2 dd dd2 sl sl2 (by simpa using hv) (by simpa using hw) (by rw [List.size_toArray, List.size_toArray]; exact hsz)) ⟨ho, ho2, ?_⟩
    rw [e]
    exact h2 hw

/-! ### t[a:b], not the whole -/
/-- a slice's bound as a place among n (d where it is left out) -/
def sIx (n d : Nat) : Option Int → Nat
  | none => d
  | some v => if v < 0 then (v + (n : Int)).toNat else min v.toNat n
theorem sIx_none (n d : Nat) : sIx n d none = d := rfl
theorem sIx_nat (n d k : Nat) : sIx n d (some (k : Int)) = min k n := by
  show (if (k : Int) < 0 then ((k : Int) + (n : Int)).toNat else min (k : Int).toNat n) = min k n
  rw [if_neg (by omega), Int.toNat_natCast]
theorem sIx_le (n d : Nat) (hd : d ≤ n) (o : Option Int) : sIx n d o ≤ n := by
  cases o with
  | none => exact hd
  | some v =>
    show (if v < 0 then (v + (n : Int)).toNat else min v.toNat n) ≤ n
    by_cases hv : v < 0
    · rw [if_pos hv]; omega
    · rw [if_neg hv]; exact Nat.min_le_right _ _
theorem clip_eq (v : Int) (n d : Nat) : (if v < 0 then max (v + (n : Int)) 0 else min v (n : Int)) = ((sIx n d (some v) : Nat) : Int) := by
  show (if v < 0 then max (v + (n : Int)) 0 else min v (n : Int)) = (((if v < 0 then (v + (n : Int)).toNat else min v.toNat n) : Nat) : Int)
  by_cases hv : v < 0
  · simp only [if_pos hv]; omega
  · simp only [if_neg hv]; omega
theorem adjust_gen (lo hi : Option Int) (n : Nat) : Builtin.Slice.sliceAdjust lo hi 1 (n : Int) = (((sIx n 0 lo : Nat) : Int), ((sIx n n hi : Nat) : Int)) := by
  have h1 : ¬ ((1 : Int) < 0) := by omega
  unfold Builtin.Slice.sliceAdjust
  simp only [h1, if_false]
  refine Prod.ext ?_ ?_
  · cases lo with
    | none => rfl
    | some v => exact clip_eq v n 0
  · cases hi with
    | none => rfl
    | some v => exact clip_eq v n n
theorem places_gen (i j : Nat) : Builtin.Slice.slicePlaces (i : Int) (j : Int) 1 = j - i := by
  unfold Builtin.Slice.slicePlaces
  have h1 : (1 : Int) > 0 := by omega
  simp only [h1, if_true, Int.ediv_one]
  split <;> omega
theorem slicePart_ {v : Value} {o : Option Int} {Q : Option Int → Shared → Prop} (p : IsPart v o) (h : Q o s) : wpAny (model prog w) A (Builtin.Slice.slicePartIndex v) Q E s := by
  cases p with
  | none => exact slicePart_none h
  | int i t => exact slicePart_int h
theorem sliceApplied_gen {sl : Addr} {vl vu : Value} {lo hi : Option Int} {n : Nat} {Q : Int × Int × Nat → Shared → Prop} (hs : s.heap.IsSliceOf sl vl vu .none) (pl : IsPart vl lo) (pu : IsPart vu hi)
    (h : Q (((sIx n 0 lo : Nat) : Int), 1, sIx n n hi - sIx n 0 lo) s) : wpAny (model prog w) A (Builtin.Slice.sliceApplied (.ref sl) (pure (n : Int))) Q E s := by
  obtain ⟨os, hos, hcs, hds⟩ := id hs
  unfold Builtin.Slice.sliceApplied Builtin.Slice.sliceFields
  refine wpAny_bind (wpAny_bind (wpAny_field hos hds (x := vl) rfl (wpAny_bind (wpAny_field hos hds (x := vu) rfl (wpAny_bind (wpAny_field hos hds (x := .none) rfl (wpAny_pure ?_)))))))
  refine wpAny_bind (slicePart_none ?_)
  show wpAny _ _ (if ((1 : Int) == 0) = true then _ else _) _ _ s
  rw [if_neg (by decide)]
  refine wpAny_bind (slicePart_ pl (wpAny_bind (slicePart_ pu (wpAny_bind (wpAny_pure ?_)))))
  show wpAny _ _ (match Builtin.Slice.sliceAdjust lo hi 1 (n : Int) with | (lo, hi) => pure (lo, (1 : Int), Builtin.Slice.slicePlaces lo hi 1)) _ _ s
  rw [adjust_gen lo hi n]
  show wpAny _ _ (pure (((sIx n 0 lo : Nat) : Int), (1 : Int), Builtin.Slice.slicePlaces ((sIx n 0 lo : Nat) : Int) ((sIx n n hi : Nat) : Int) 1)) _ _ s
  rw [places_gen]
  exact wpAny_pure h
theorem pick_gen (xs : Array Value) (i k : Nat) : ((List.range k).filterMap fun (m : Nat) => xs[((i : Int) + (m : Int) * 1).toNat]?).toArray = ((xs.toList.drop i).take k).toArray := by
  have e : (fun (m : Nat) => xs[((i : Int) + (m : Int) * 1).toNat]?) = fun m => xs[i + m]? := by
    funext m
    have : ((i : Int) + (m : Int) * 1).toNat = i + m := by omega
    rw [this]
  rw [e]
  have := pick_run xs i k
  rw [List.filterMap_map] at this
  have e2 : ((fun x => xs[x]?) ∘ fun x => i + x) = fun m => xs[i + m]? := rfl
  rw [e2] at this
  rw [this]

theorem getItem_tuple_cut {t sl : Addr} {items : Array Value} {vl vu : Value} {lo hi : Option Int} {Q : Value → Shared → Prop} (ht : IsTup s.heap t items) (hs : s.heap.IsSliceOf sl vl vu .none) (pl : IsPart vl lo) (pu : IsPart vu hi)
    (hw : ¬ (sIx items.size 0 lo = 0 ∧ sIx items.size items.size hi = items.size))
    (h : Q (.ref s.heap.objs.size) { s with heap := s.heap.push { cls := .type "tuple", data := .seq ((items.toList.drop (sIx items.size 0 lo)).take (sIx items.size items.size hi - sIx items.size 0 lo)).toArray } })
    (hsz : items.size ≤ sizeLine) : wpAny (model prog w) A (getItem (.ref t) (.ref sl)) Q E s := by
  have htake : sizeOk (.seq ((items.toList.drop (sIx items.size 0 lo)).take (sIx items.size items.size hi - sIx items.size 0 lo)).toArray) := by
    show ((items.toList.drop (sIx items.size 0 lo)).take (sIx items.size items.size hi - sIx items.size 0 lo)).toArray.size ≤ sizeLine
    rw [List.size_toArray, List.length_take, List.length_drop, Array.length_toList]
    omega
  have hj : sIx items.size items.size hi ≤ items.size := sIx_le _ _ (Nat.le_refl _) hi
  obtain ⟨os, hos, hcs, hds⟩ := id hs
  have hTs : s.TypeIs (.ref sl) "slice" := ⟨os, hos, hcs⟩
  unfold getItem
  try with_reducible refine wpAny_holding ?_
  first | refine wpAny_bind (wpAny_pure ?_) | skip
  refine wpAny_bind (wpAny_sequenceKey ht.typeIs (by decide) ?_)
  refine wpAny_bind (wpAny_callSpecial?_slot (name := Str.ofString "__getitem__") ht.typeIs PyProof.Rows.slot_tuple_getitem
    (wpAny_call_entry PyProof.Rows.slot_tuple_getitem ht.typeIs entry_tuple_getitem ?_ (args_tuple_getitem _ _)))
  show wpAny _ _ (Builtin.Tuple.tupleItemsOf (.ref t) >>= _) _ _ s
  refine wpAny_bind (tupleItemsOf_ ht ?_)
  refine wpAny_bind (wpAny_typeOf hTs ?_)
  rw [if_pos (by decide)]
  refine wpAny_bind (sliceApplied_gen hs pl pu ?_)
  have hno : ¬ ((((sIx items.size 0 lo : Nat) : Int) == 0 && (1 : Int) == 1 && (sIx items.size items.size hi - sIx items.size 0 lo) == items.size) = true) := by
    intro q
    rw [Bool.and_eq_true, Bool.and_eq_true] at q
    have q1 : ((sIx items.size 0 lo : Nat) : Int) = 0 := eq_of_beq q.1.1
    have q2 : sIx items.size items.size hi - sIx items.size 0 lo = items.size := eq_of_beq q.2
    exact hw ⟨by omega, by omega⟩
  show wpAny _ _ (if (((sIx items.size 0 lo : Nat) : Int) == 0 && (1 : Int) == 1 && (sIx items.size items.size hi - sIx items.size 0 lo) == items.size) = true then _ else _) _ _ s
  rw [if_neg hno, pick_gen]
  first
    | exact wpAny_bind (m := Builtin.Tuple.tupleExact _) (wpAny_newObj_type (wpAny_pure ⟨_, rfl, wpAny_pure h⟩) htake)
    | exact wpAny_bind (m := Builtin.Tuple.tupleExact _) (wpAny_newObj_type (wpAny_bind (wpAny_pure (wpAny_pure ⟨_, rfl, wpAny_pure h⟩))) htake)
    | exact wpAny_bind (wpAny_bind (m := Builtin.Tuple.tupleExact _) (wpAny_newObj_type (wpAny_pure (wpAny_pure ⟨_, rfl, wpAny_pure h⟩)) htake))
    | exact wpAny_bind (wpAny_bind (m := Builtin.Tuple.tupleExact _) (wpAny_newObj_type (wpAny_pure ⟨_, rfl, wpAny_pure h⟩) htake))
end
end HT

namespace L2
open PySem PySem.Spec PyProof.Rows

/-! ### the parts of a slice -/
abbrev TO := St → Hp → (Option Int → Hp → Prop) → Prop
/-- a slice's part (left out, or an int) -/
def PO (X : Cx) (e : Option Expr) (t : TO) : Prop :=
  ∀ (pins : List (Addr × Obj)) (s : Shared) (σ : St) (H : Hp) (Q : Option Int → Hp → Prop), Inv X pins σ H s → t σ H Q →
    wpAny (model X.prog X.w) X.A (evalPart e X.env) (fun u s' => ∃ o H', Inv X pins σ H' s' ∧ IsPart u o ∧ Q o H') X.xe s
def tNoPart : TO := fun _ H Q => Q none H
def tPart (t : TE) : TO := fun σ H Q => t σ H fun x H1 => ∃ i, x = .int i ∧ Q (some i) H1

section
variable {X : Cx} {e : Expr} {te : TE} {lo hi : Option Expr} {tl th : TO} {pos p2 : Pos}

theorem po_none : PO X none tNoPart := by
  intro pins s σ H Q I h
  rw [evalPart_none]
  exact wpAny_pure ⟨none, H, I, .none, h⟩
theorem po_some (h : PE X e te) : PO X (some e) (tPart te) := by
  intro pins s σ H Q I hw
  rw [evalPart_some]
  refine thn (h pins s σ H _ I hw) fun u s1 ⟨x, H1, I1, r1, q1⟩ => ?_
  obtain ⟨i, rfl, q⟩ := q1
  obtain ⟨t, rfl⟩ := r1
  exact ⟨some i, H1, I1, .int i t, q⟩

/-- what a slice of a value is, by values: the slice object stands at sl -/
def SlR (X : Cx) (r : V → Option Int → Option Int → Hp → VK → Prop) : Prop :=
  ∀ (pins : List (Addr × Obj)) (s : Shared) (σ : St) (H : Hp) (x : V) (v vl vu : Value) (lo hi : Option Int) (sl : Addr) (Q : VK), Inv X pins σ H s → RelV x v → s.heap.IsSliceOf sl vl vu .none → IsPart vl lo → IsPart vu hi → r x lo hi H Q →
    ∃ T id, typeLookup (.type T) "__getitem__" = pure (some (.builtin id)) ∧ s.TypeIs v T ∧ wpAny (model X.prog X.w) X.A (getItem v (.ref sl)) (EP X pins σ Q) X.xe s
def tSl (r : V → Option Int → Option Int → Hp → VK → Prop) (te : TE) (tl th : TO) : TE := fun σ H Q => te σ H fun x H1 => tl σ H1 fun l H2 => th σ H2 fun u H3 => r x l u H3 Q
/-- a[lo:hi], any a -/
theorem pe_slice {r : V → Option Int → Option Int → Hp → VK → Prop} (hr : SlR X r) (he : PE X e te) (hl : PO X lo tl) (hu : PO X hi th) : PE X (.Subscript e (.Slice lo hi none p2) pos) (tSl r te tl th) := by
  intro pins s σ H Q I h
  refine Subscript_ (thn (he pins s σ H _ I h) fun v s1 ⟨x, H1, I1, r1, q1⟩ => ?_)
  refine wpAny_Slice (thn (hl pins s1 σ H1 _ I1 q1) fun vl s2 ⟨l, H2, I2, pl, q2⟩ => thn (hu pins s2 σ H2 _ I2 q2) fun vu s3 ⟨u, H3, I3, pu, q3⟩ => ?_)
  rw [evalPart_none]
  refine wpAny_pure ?_
  have I4 : Inv X pins σ H3 { s3 with heap := s3.heap.push { cls := .type "slice", data := .fields #[vl, vu, .none] } } := I3.kept (t' := s3.toks) fun b ob q => Heap.get?_push_of_some _ q
  obtain ⟨T, id, hT, ht, hg⟩ := hr pins { s3 with heap := s3.heap.push { cls := .type "slice", data := .fields #[vl, vu, .none] } } σ H3 x v vl vu l u s3.heap.objs.size Q I4 r1 (Heap.IsSliceOf.new ..) pl pu q3
  show wpAny (model X.prog X.w) X.A (subscriptTail e (.Slice lo hi none p2) v (.ref s3.heap.objs.size)) (EP X pins σ Q) X.xe { s3 with heap := s3.heap.push { cls := .type "slice", data := .fields #[vl, vu, .none] } }
  exact tail_any (ops := [.ref s3.heap.objs.size, v]) ht hT hg (by with_unfolding_all rfl)

/-- the items of xs[lo:hi] -/
def cutV (xs : List V) (lo hi : Option Int) : List V := (xs.drop (HT.sIx xs.length 0 lo)).take (HT.sIx xs.length xs.length hi - HT.sIx xs.length 0 lo)
theorem cutV_length (xs : List V) (lo hi : Option Int) : (cutV xs lo hi).length ≤ xs.length := by
  unfold cutV
  rw [List.length_take, List.length_drop]
  omega
/-- t[lo:hi], not the whole of it (the whole would be t itself) -/
def rSlT (K : PySem.W.Frag) : V → Option Int → Option Int → Hp → VK → Prop := fun x lo hi H Q => ∃ a xs, x = .ref a ∧ SqT K H a xs ∧
  ¬ (HT.sIx xs.length 0 lo = 0 ∧ HT.sIx xs.length xs.length hi = xs.length) ∧ ∀ p, H p = none → Q (.ref p) (upd H p (.tup (cutV xs lo hi)))
theorem sl_tup : SlR X (rSlT X.K) := by
  intro pins s σ H x v vl vu lo hi sl Q I rx hs pl pu h
  obtain ⟨a, xs, rfl, hx, hw, q⟩ := h
  cases rx
  obtain ⟨its, r, ht, hz⟩ := I.tuple hx
  have hlen : its.toArray.size = xs.length := by rw [List.size_toArray]; exact r.length.symm
  refine ⟨"tuple", _, PyProof.Rows.slot_tuple_getitem.lookup, ht.typeIs, ?_⟩
  refine HT.getItem_tuple_cut ht hs pl pu (by rw [hlen]; exact hw) ?_ (by rw [hlen]; exact hz)
  rw [hlen]
  refine ⟨.ref s.heap.objs.size, _, I.laid (t' := s.toks) (o := .tup (cutV xs lo hi)) (fun b ob q => Heap.get?_push_of_some _ q) (Nat.le_refl _) ?_, rfl, q _ (I.hok.fresh (Nat.le_refl _))⟩
  exact ⟨Nat.le_trans (cutV_length xs lo hi) hz, _, (r.drop (HT.sIx xs.length 0 lo)).take (HT.sIx xs.length xs.length hi - HT.sIx xs.length 0 lo), IsTup.new _ _⟩

/-! ### t < u, t + u -/
/-- t + u, t not empty: u empty gives t itself -/
def rCatT (K : PySem.W.Frag) : R2 := fun x y H Q => ∃ a b xs ys, x = .ref a ∧ y = .ref b ∧ SqT K H a xs ∧ SqT K H b ys ∧ xs ≠ [] ∧ xs.length + ys.length ≤ sizeLine ∧
  (ys = [] → Q (.ref a) H) ∧ (ys ≠ [] → ∀ p, H p = none → Q (.ref p) (upd H p (.tup (xs ++ ys))))
theorem Vals.nil_iff {xs : List V} {us : List Value} (r : Vals xs us) : us = [] ↔ xs = [] := by
  cases r with
  | nil => simp
  | cons _ _ => simp
theorem op_catT : OpR X (binaryOp .Add) (rCatT X.K) := by
  intro pins s σ H x y v u Q I rx ry h
  obtain ⟨a, b, xs, ys, rfl, rfl, ha, hb, hx, hz, q1, q2⟩ := h
  cases rx
  cases ry
  obtain ⟨its, r1, p1, _⟩ := I.tuple ha
  obtain ⟨its2, r2, p2, _⟩ := I.tuple hb
  refine HT.cat_tup p1 p2 (fun z => hx (r1.nil_iff.mp z)) (fun z => ⟨.ref a, H, I, rfl, q1 (r2.nil_iff.mp z)⟩) (fun z => ?_) (by rw [← r1.length, ← r2.length]; exact hz)
  refine ⟨.ref s.heap.objs.size, _, I.laid (t' := s.toks) (o := .tup (xs ++ ys)) (fun b ob q => Heap.get?_push_of_some _ q) (Nat.le_refl _) ?_, rfl, q2 (fun w => z (r2.nil_iff.mpr w)) _ (I.hok.fresh (Nat.le_refl _))⟩
  exact ⟨by rw [List.length_append]; exact hz, _, r1.append r2, IsTup.new _ _⟩
end
end L2

namespace L2
open PySem PySem.Spec PyProof.Rows

/-! ### places -/
/-- the place that an index of any sign means -/
def ixN (n : Nat) (i : Int) : Option Nat := if 0 ≤ i then (if i < n then some i.toNat else none) else if -(n : Int) ≤ i then some (i + n).toNat else none
def atI {α : Type} (xs : List α) (i : Int) : Option α := (ixN xs.length i).bind fun j => xs[j]?
theorem ixN_seq {n : Nat} {i : Int} {j : Nat} (h : ixN n i = some j) : seqIndex? i n = some j ∧ j < n ∧ -(n : Int) ≤ i ∧ i < n := by
  unfold ixN at h
  by_cases h0 : 0 ≤ i
  · rw [if_pos h0] at h
    by_cases h1 : i < n
    · rw [if_pos h1] at h
      have e : i.toNat = j := Option.some.inj h
      exact ⟨by rw [seqIndex_of h0 h1, e], by omega, by omega, h1⟩
    · rw [if_neg h1] at h; cases h
  · rw [if_neg h0] at h
    by_cases h1 : -(n : Int) ≤ i
    · rw [if_pos h1] at h
      have e : (i + n).toNat = j := Option.some.inj h
      exact ⟨by rw [seqIndex_neg (by omega) h1, e], by omega, h1, by omega⟩
    · rw [if_neg h1] at h; cases h
theorem atI_get {α : Type} {xs : List α} {i : Int} {v : α} (h : atI xs i = some v) : ∃ j, seqIndex? i xs.length = some j ∧ xs[j]? = some v ∧ j < xs.length ∧ -(xs.length : Int) ≤ i ∧ i < xs.length := by
  unfold atI at h
  cases e : ixN xs.length i with
  | none => rw [e] at h; cases h
  | some j =>
    rw [e] at h
    obtain ⟨h1, h2, h3, h4⟩ := ixN_seq e
    exact ⟨j, h1, h, h2, h3, h4⟩
theorem atI_nat {α : Type} {xs : List α} {j : Nat} {v : α} (h : xs[j]? = some v) : atI xs (j : Int) = some v := by
  have hj : j < xs.length := (List.getElem?_eq_some_iff.mp h).1
  have e : ixN xs.length (j : Int) = some j := by
    unfold ixN
    rw [if_pos (by omega), if_pos (by omega)]; simp
  unfold atI; rw [e]; exact h
/-! ### what may be subscripted -/
/-- what stands as an index of a plain subscript -/
def PlainIx (b : Expr) : Prop := ∀ o i, subscripted b false o i = operate [o, i] (getItem o i)
/-- a subscript by values -/
def IxR (X : Cx) (r : R2) : Prop :=
  ∀ (value slice : Expr) (pins : List (Addr × Obj)) (s : Shared) (σ : St) (H : Hp) (x y : V) (v u : Value) (Q : VK), Inv X pins σ H s → RelV x v → RelV y u → r x y H Q →
    subscripted slice false v u = operate [v, u] (getItem v u) → wpAny (model X.prog X.w) X.A (subscriptTail value slice v u) (EP X pins σ Q) X.xe s
/-- a call of a builtin's method by values: the receiver, the arguments -/
def MtR (X : Cx) (id : String) (r : V → List V → Hp → VK → Prop) : Prop :=
  ∀ (pins : List (Addr × Obj)) (s : Shared) (σ : St) (H : Hp) (x : V) (xs : List V) (v : Value) (us : List Value) (Q : VK), Inv X pins σ H s → RelV x v → Vals xs us → r x xs H Q →
    wpAny (model X.prog X.w) X.A (call (.builtin id) (v :: us)) (EP X pins σ Q) X.xe s
section
variable {X : Cx} {a b : Expr} {ta tb : TE} {pos : Pos}
/-- a[b] -/
theorem pe_ix {r : R2} (hr : IxR X r) (ha : PE X a ta) (hb : PE X b tb) (hs : PlainIx b) : PE X (.Subscript a b pos) (tOp r ta tb) := by
  intro pins s σ H Q I h
  exact Subscript_ (binT ha hb I h fun v u s2 x y H2 I2 rx ry q => hr a b pins s2 σ H2 x y v u Q I2 rx ry q (hs _ _))

def rIxL (K : PySem.W.Frag) : R2 := fun x y H Q => ∃ p xs i v, x = .ref p ∧ y = .int i ∧ SqL K H p xs ∧ atI xs i = some v ∧ Q v H
def rIxT (K : PySem.W.Frag) : R2 := fun x y H Q => ∃ p xs i v, x = .ref p ∧ y = .int i ∧ SqT K H p xs ∧ atI xs i = some v ∧ Q v H
def rIxS : R2 := fun x y H Q => ∃ z i c, x = .str z ∧ y = .int i ∧ z.length ≤ sizeLine ∧ atI z.cps.toList i = some c ∧ Q (.str ⟨#[c]⟩) H
theorem ix_list : IxR X (rIxL X.K) := by
  intro value slice pins s σ H x y v u Q I rx ry h hs
  obtain ⟨p, xs, i, z, rfl, rfl, hq, he, q⟩ := h
  cases rx
  obtain ⟨t, rfl⟩ := ry
  obtain ⟨its, r, pl, hz⟩ := I.list hq
  obtain ⟨j, h1, h2, h3, h4, h5⟩ := atI_get he
  obtain ⟨w, ew, rw'⟩ := r.get h2
  have hl := r.length
  have hn := line63
  have fin : EP X pins σ Q w s := ⟨z, H, I, rw', q⟩
  by_cases h0 : 0 ≤ i
  · have hj : i.toNat = j := by
      rw [seqIndex_of h0 h5] at h1
      exact Option.some.inj h1
    exact item_listR pl.isList h0 (by omega) (by rw [hj]; simpa using ew) fin hs
  · have hj : (i + (its.toArray.size : Int)).toNat = j := by
      rw [seqIndex_neg (by omega) h4] at h1
      rw [List.size_toArray, ← hl]
      exact Option.some.inj h1
    exact subscriptTail_builtinR (x := w) pl.isList.typeIs slot_list_getitem.lookup
      (wpAny_getItem_list_neg (Q := fun r s' => r = w ∧ EP X pins σ Q r s') pl.isList (by omega) (by rw [List.size_toArray] <;> omega) (by omega) (by rw [hj]; simpa using ew) ⟨rfl, fin⟩) hs
theorem ix_tup : IxR X (rIxT X.K) := by
  intro value slice pins s σ H x y v u Q I rx ry h hs
  obtain ⟨p, xs, i, z, rfl, rfl, hq, he, q⟩ := h
  cases rx
  obtain ⟨t, rfl⟩ := ry
  obtain ⟨its, r, pl, hz⟩ := I.tuple hq
  obtain ⟨j, h1, h2, h3, h4, h5⟩ := atI_get he
  obtain ⟨w, ew, rw'⟩ := r.get h2
  have hl := r.length
  have hn := line63
  have fin : EP X pins σ Q w s := ⟨z, H, I, rw', q⟩
  exact subscriptTail_builtinR (x := w) pl.typeIs slot_tuple_getitem.lookup
    (getItem_tuple (j := j) (Q := fun r s' => r = w ∧ EP X pins σ Q r s') pl (by omega) (by omega) (by rw [List.size_toArray, ← hl]; exact h1) (by simpa using ew) ⟨rfl, fin⟩) hs
theorem ix_str : IxR X rIxS := by
  intro value slice pins s σ H x y v u Q I rx ry h hs
  obtain ⟨z, i, c, rfl, rfl, hz, he, q⟩ := h
  obtain ⟨t, rfl⟩ := rx
  obtain ⟨t', rfl⟩ := ry
  obtain ⟨j, h1, h2, h3, h4, h5⟩ := atI_get he
  have hl : z.cps.toList.length = z.length := by simp [Str.length]
  rw [hl] at h1 h4 h5
  have hn := line63
  exact tail_any (typeIs_str s z t) slot_str_getitem.lookup (getItem_str (c := c) (by
    have e1 : decide (i < -(2 ^ 63 : Int)) = false := decide_eq_false (by omega)
    have e2 : decide (i ≥ 2 ^ 63) = false := decide_eq_false (by omega)
    rw [e1, e2, Bool.or_false]) (by rw [h1]; simpa using h2) ⟨.str ⟨#[c]⟩, H, I.tok _, ⟨_, rfl⟩, q⟩) hs
/-! ### xs[i] = v, any sign -/
/-! ### slices -/
theorem slice_bounds (lo hi : Option Int) (n : Nat) : (sliceBounds lo hi none n).1 = ((HT.sIx n 0 lo : Nat) : Int) ∧ (sliceBounds lo hi none n).2.1 = ((HT.sIx n n hi : Nat) : Int) ∧ (sliceBounds lo hi none n).2.2 = 1 := by
  refine ⟨?_, ?_, rfl⟩
  · cases lo with
    | none => simp [sliceBounds, HT.sIx]
    | some i =>
      simp only [sliceBounds, HT.sIx, Option.getD_none, show (1 : Int) > 0 by decide, if_true]
      by_cases h : i < 0
      · simp only [h, if_true] <;> omega
      · simp only [h, if_false] <;> omega
  · cases hi with
    | none => simp [sliceBounds, HT.sIx]
    | some i =>
      simp only [sliceBounds, HT.sIx, Option.getD_none, show (1 : Int) > 0 by decide, if_true]
      by_cases h : i < 0
      · simp only [h, if_true] <;> omega
      · simp only [h, if_false] <;> omega
theorem slicePick_cut (its : List Value) (lo hi : Option Int) : slicePick its.toArray lo hi none = ((its.drop (HT.sIx its.length 0 lo)).take (HT.sIx its.length its.length hi - HT.sIx its.length 0 lo)).toArray := by
  obtain ⟨h1, h2, h3⟩ := slice_bounds lo hi its.toArray.size
  unfold slicePick
  rw [h1, h2, h3]
  simp only [sliceRange_one, pick_run, List.size_toArray] <;> rfl
/-- xs[lo:hi] of a list: a new list -/
def rSlL (K : PySem.W.Frag) : V → Option Int → Option Int → Hp → VK → Prop := fun x lo hi H Q => ∃ a xs, x = .ref a ∧ SqL K H a xs ∧ ∀ p, H p = none → Q (.ref p) (upd H p (.lst (cutV xs lo hi)))
theorem sl_list : SlR X (rSlL X.K) := by
  intro pins s σ H x v vl vu lo hi sl Q I rx hs pl pu h
  obtain ⟨a, xs, rfl, hx, q⟩ := h
  cases rx
  obtain ⟨its, r, ht, hz⟩ := I.list hx
  have hlen := r.length
  refine ⟨"list", _, slot_list_getitem.lookup, ht.isList.typeIs, ?_⟩
  refine wpAny_getItem_list_slice ht.isList hs pl pu .none (by simp) ?_ (by rw [List.size_toArray] <;> omega)
  rw [slicePick_cut, ← hlen]
  refine ⟨.ref s.heap.objs.size, _, I.laid (t' := s.toks) (o := .lst (cutV xs lo hi)) (fun b ob q => Heap.get?_push_of_some _ q) (Nat.le_refl _) ?_, rfl, q _ (I.hok.fresh (Nat.le_refl _))⟩
  exact ⟨Nat.le_trans (cutV_length xs lo hi) hz, _, 0, (r.drop (HT.sIx xs.length 0 lo)).take (HT.sIx xs.length xs.length hi - HT.sIx xs.length 0 lo), Heap.get?_push_size _ rfl⟩

/-! ### in, not in: flat items -/
def flatV : V → Bool
  | .non => true
  | .bl _ => true
  | .int _ => true
  | .str _ => true
  | _ => false
/-- == of flat values -/
def eqV : V → V → Bool
  | .non, .non => true
  | .bl a, .bl b => a == b
  | .bl a, .int b => (if a then 1 else 0) == b
  | .int a, .bl b => a == (if b then 1 else 0)
  | .int a, .int b => a == b
  | .str a, .str b => a == b
  | _, _ => false
theorem eqAt_V {A : Around} {s : Shared} {y x : V} {u v : Value} (ry : RelV y u) (rx : RelV x v) (fy : flatV y = true) (fx : flatV x = true) : SeqAt.EqAt A s u v (eqV y x) := by
  cases y with
  | non =>
    cases ry
    cases x with
    | non => cases rx; exact SeqAt.EqAt.same _
    | bl b => cases rx; exact SeqAt.EqAt.none_bool b
    | int b => obtain ⟨t, rfl⟩ := rx; exact SeqAt.EqAt.none_int b t
    | str b => obtain ⟨t, rfl⟩ := rx; exact SeqAt.EqAt.none_str b t
    | _ => exact absurd (show false = true from fx) Bool.false_ne_true
  | bl a =>
    cases ry
    cases x with
    | non => cases rx; exact SeqAt.EqAt.bool_none a
    | bl b => cases rx; exact SeqAt.EqAt.bool_bool a b
    | int b => obtain ⟨t, rfl⟩ := rx; exact SeqAt.EqAt.bool_int a b t
    | str b => obtain ⟨t, rfl⟩ := rx; exact SeqAt.EqAt.bool_str a b t
    | _ => exact absurd (show false = true from fx) Bool.false_ne_true
  | int a =>
    obtain ⟨t', rfl⟩ := ry
    cases x with
    | non => cases rx; exact SeqAt.EqAt.int_none a t'
    | bl b => cases rx; exact SeqAt.EqAt.int_bool a t' b
    | int b => obtain ⟨t, rfl⟩ := rx; exact SeqAt.EqAt.int_int a t' b t
    | str b => obtain ⟨t, rfl⟩ := rx; exact SeqAt.EqAt.int_str a t' b t
    | _ => exact absurd (show false = true from fx) Bool.false_ne_true
  | str a =>
    obtain ⟨t', rfl⟩ := ry
    cases x with
    | non => cases rx; exact SeqAt.EqAt.str_none a t'
    | bl b => cases rx; exact SeqAt.EqAt.str_bool a t' b
    | int b => obtain ⟨t, rfl⟩ := rx; exact SeqAt.EqAt.str_int a t' b t
    | str b => obtain ⟨t, rfl⟩ := rx; exact SeqAt.EqAt.str_str a t' b t
    | _ => exact absurd (show false = true from fx) Bool.false_ne_true
  | _ => exact absurd (show false = true from fy) Bool.false_ne_true
/-- the items' answers, read off the values (a value's own answer does not lean on its token) -/
def eqU (x : V) (u : Value) : Bool := match u with
  | .none => eqV .non x
  | .bool b => eqV (.bl b) x
  | .int i _ => eqV (.int i) x
  | .str z _ => eqV (.str z) x
  | _ => false
theorem eqU_of {x y : V} {u : Value} (r : RelV y u) (f : flatV y = true) : eqU x u = eqV y x := by
  cases y with
  | non => cases r; rfl
  | bl b => cases r; rfl
  | int i => obtain ⟨t, rfl⟩ := r; rfl
  | str z => obtain ⟨t, rfl⟩ := r; rfl
  | _ => exact absurd (show false = true from f) Bool.false_ne_true
theorem any_eqU {x : V} : ∀ {xs : List V} {us : List Value}, Vals xs us → xs.all flatV = true → us.any (eqU x) = xs.any fun y => eqV y x
  | _, _, .nil, _ => rfl
  | y :: xs, u :: us, .cons r t, f => by
    rw [List.all_cons, Bool.and_eq_true] at f
    rw [List.any_cons, List.any_cons, eqU_of r f.1, any_eqU t f.2]
theorem mem_eqAt {A : Around} {s : Shared} {x : V} {v : Value} (rx : RelV x v) (fx : flatV x = true) : ∀ {xs : List V} {us : List Value}, Vals xs us → xs.all flatV = true → ∀ u ∈ us, SeqAt.EqAt A s u v (eqU x u)
  | _, _, .nil, _ => fun u hu => by cases hu
  | y :: xs, u :: us, .cons r t, f => fun u' hu => by
    rw [List.all_cons, Bool.and_eq_true] at f
    rcases List.mem_cons.mp hu with rfl | hu
    · rw [eqU_of r f.1]; exact eqAt_V r rx f.1 fx
    · exact mem_eqAt rx fx t f.2 u' hu
def inV (x : V) (xs : List V) : Bool := xs.any fun y => eqV y x
/-- x in a list or tuple of flat items -/
def rIn (K : PySem.W.Frag) (neg : Bool) : R2 := fun x y H Q => ∃ p xs, y = .ref p ∧ (SqL K H p xs ∨ SqT K H p xs) ∧ flatV x = true ∧ xs.all flatV = true ∧ Q (.bl (if neg then !inV x xs else inV x xs)) H
theorem op_in_seq : OpR X (compareOp .In) (rIn X.K false) := by
  intro pins s σ H x y v u Q I rx ry h
  obtain ⟨p, xs, rfl, hq, fx, fs, q⟩ := h
  cases ry
  rcases hq with hq | hq
  · obtain ⟨its, r, pl, hz⟩ := I.list hq
    refine SeqAt.in_listAt (eqU x) pl.isList (fun w hw => mem_eqAt rx fx r fs w (by simpa using hw)) ⟨.bl _, H, I, rfl, ?_⟩
    rw [show its.toArray.any (eqU x) = its.any (eqU x) by simp, any_eqU r fs]
    exact q
  · obtain ⟨its, r, pl, hz⟩ := I.tuple hq
    refine SeqAt.in_tupleAt (eqU x) pl (fun w hw => mem_eqAt rx fx r fs w (by simpa using hw)) ⟨.bl _, H, I, rfl, ?_⟩
    rw [show its.toArray.any (eqU x) = its.any (eqU x) by simp, any_eqU r fs]
    exact q
theorem op_notIn_seq : OpR X (compareOp .NotIn) (rIn X.K true) := by
  intro pins s σ H x y v u Q I rx ry h
  obtain ⟨p, xs, rfl, hq, fx, fs, q⟩ := h
  cases ry
  rcases hq with hq | hq
  · obtain ⟨its, r, pl, hz⟩ := I.list hq
    refine SeqAt.notIn_listAt (eqU x) pl.isList (fun w hw => mem_eqAt rx fx r fs w (by simpa using hw)) ⟨.bl _, H, I, rfl, ?_⟩
    rw [show its.toArray.any (eqU x) = its.any (eqU x) by simp, any_eqU r fs]
    exact q
  · obtain ⟨its, r, pl, hz⟩ := I.tuple hq
    refine SeqAt.notIn_tupleAt (eqU x) pl (fun w hw => mem_eqAt rx fx r fs w (by simpa using hw)) ⟨.bl _, H, I, rfl, ?_⟩
    rw [show its.toArray.any (eqU x) = its.any (eqU x) by simp, any_eqU r fs]
    exact q
/-! ### len, list(x), tuple(x) of any list or tuple that is read -/
theorem call_len_seq : CallR X (.builtin "len") (fun xs H Q => ∃ p ys, xs = [.ref p] ∧ (SqL X.K H p ys ∨ SqT X.K H p ys) ∧ Q (.int ys.length) H) := by
  intro pins s σ H xs us Q I r h
  obtain ⟨p, ys, rfl, hq, q⟩ := h
  obtain ⟨u, rfl, rx⟩ := vals1 r
  cases rx
  have hn := line63
  rcases hq with hq | hq
  · obtain ⟨its, r', pl, hz⟩ := I.list hq
    have hlen := r'.length
    exact Calls.call_len_list pl.isList (by simp only [List.size_toArray] <;> omega) ⟨.int ys.length, H, I.tok _, ⟨s.toks + 1, by rw [List.size_toArray, hlen]⟩, q⟩
  · obtain ⟨its, r', pl, hz⟩ := I.tuple hq
    have hlen := r'.length
    exact len_tuple pl (by simp only [List.size_toArray] <;> omega) ⟨.int ys.length, H, I.tok _, ⟨s.toks + 1, by rw [List.size_toArray, hlen]⟩, q⟩
theorem call_len_str : CallR X (.builtin "len") (fun xs H Q => ∃ z, xs = [.str z] ∧ z.length ≤ sizeLine ∧ Q (.int z.length) H) := by
  intro pins s σ H xs us Q I r h
  obtain ⟨z, rfl, hz, q⟩ := h
  obtain ⟨u, rfl, t, rfl⟩ := vals1 r
  have hn := line63
  exact len_str (by omega) ⟨.int z.length, H, I.tok _, ⟨_, rfl⟩, q⟩
theorem call_list_of : CallR X (.type "list") (fun xs H Q => ∃ p ys, xs = [.ref p] ∧ (SqL X.K H p ys ∨ SqT X.K H p ys) ∧ ∀ l, H l = none → Q (.ref l) (upd H l (.lst ys))) := by
  intro pins s σ H xs us Q I r h
  obtain ⟨p, ys, rfl, hq, q⟩ := h
  obtain ⟨u, rfl, rx⟩ := vals1 r
  cases rx
  have fin : ∀ (its : List Value), Vals ys its → ys.length ≤ sizeLine → ∀ (h' : Heap) (c' : Nat), (∀ b o', s.heap.get? b = some o' → h'.get? b = some o') →
      h'.get? s.heap.objs.size = some { cls := .type "list", dict := none, data := .seq its.toArray c', slots := #[] } → EP X pins σ Q (.ref s.heap.objs.size) { s with heap := h' } := fun its r' hz h' c' kp e =>
    ⟨.ref s.heap.objs.size, _, I.laid (t' := s.toks) kp (Nat.le_refl _) (show ObjOk X.prog X.w _ h' _ (.lst ys) from ⟨hz, its, c', r', e⟩), rfl, q _ (I.hok.fresh (Nat.le_refl _))⟩
  rcases hq with hq | hq
  · obtain ⟨its, r', pl, hz⟩ := I.list hq
    have hlen := r'.length
    obtain ⟨o, ho, hc, n, hd⟩ := pl.isList
    exact call_list_seq p (.inl rfl) ho hc hd (fun h' c' kp e => fin its r' hz h' c' kp e) (by simp only [List.size_toArray] <;> omega)
  · obtain ⟨its, r', pl, hz⟩ := I.tuple hq
    have hlen := r'.length
    obtain ⟨o, ho, hc, n, hd⟩ := pl
    exact call_list_seq p (.inr rfl) ho hc hd (fun h' c' kp e => fin its r' hz h' c' kp e) (by simp only [List.size_toArray] <;> omega)
theorem call_tuple_of : CallR X (.type "tuple") (fun xs H Q => ∃ p ys, xs = [.ref p] ∧ ((SqL X.K H p ys ∧ ∀ l, H l = none → Q (.ref l) (upd H l (.tup ys))) ∨ (SqT X.K H p ys ∧ Q (.ref p) H))) := by
  intro pins s σ H xs us Q I r h
  obtain ⟨p, ys, rfl, h⟩ := h
  obtain ⟨u, rfl, rx⟩ := vals1 r
  cases rx
  rcases h with ⟨hq, q⟩ | ⟨hq, q⟩
  · obtain ⟨its, r', pl, hz⟩ := I.list hq
    have hlen := r'.length
    refine call_tuple_list pl.isList (fun h' kp => ?_) (by simp only [List.size_toArray] <;> omega)
    have I1 : Inv X pins σ H { s with heap := h' } := I.kept (t' := s.toks) kp
    have I2 : Inv X pins σ (upd H h'.objs.size (.tup ys)) { s with heap := h'.push { cls := .type "tuple", data := .seq its.toArray } } :=
      I1.laid (t' := s.toks) (fun b o e => Heap.get?_push_of_some _ e) (Nat.le_refl _) (show ObjOk X.prog X.w _ _ _ (.tup ys) from ⟨hz, its, r', IsTup.new _ _⟩)
    exact ⟨.ref h'.objs.size, _, I2, rfl, q _ (I1.hok.fresh (Nat.le_refl _))⟩
  · obtain ⟨its, r', pl, hz⟩ := I.tuple hq
    exact call_tuple_same pl ⟨.ref p, H, I, rfl, q⟩

/-! ### the call of a builtin's method: o.m(..) -/
/-- the value is of that builtin type -/
def tyV (K : PySem.W.Frag) (T : String) (x : V) (H : Hp) : Prop := match x with
  | .str _ => T = "str"
  | .int _ => T = "int"
  | .ref p => (T = "list" ∧ ∃ xs, SqL K H p xs) ∨ (T = "tuple" ∧ ∃ o, K.lookup p = some o ∧ o.cls = .type "tuple" ∧ o.dict = none) ∨
      (T = "dict" ∧ ((∃ kvs, H p = some (.dK kvs)) ∨ ∃ kvs, H p = some (.dT kvs))) ∨ (T = "set" ∧ ∃ S n, H p = some (.set S n))
  | _ => False
theorem tyV_is {pins : List (Addr × Obj)} {σ : St} {H : Hp} {s : Shared} {T : String} {x : V} {v : Value} (I : Inv X pins σ H s) (r : RelV x v) (ty : tyV X.K T x H) :
    s.TypeIs v T ∧ ∀ a, v = .ref a → ∃ ob, s.heap.get? a = some ob ∧ ob.dict = none := by
  cases x with
  | str z =>
    obtain ⟨t, rfl⟩ := r
    cases (show T = "str" from ty)
    exact ⟨typeIs_str s z t, fun _ e => nomatch e⟩
  | int i =>
    obtain ⟨t, rfl⟩ := r
    cases (show T = "int" from ty)
    exact ⟨typeIs_int s i t, fun _ e => nomatch e⟩
  | ref p =>
    cases r
    rcases ty with ⟨rfl, xs, hq⟩ | ⟨rfl, o, hk, hc, hd⟩ | ⟨rfl, hk⟩ | ⟨rfl, S, n, hk⟩
    · obtain ⟨its, _, pl, _⟩ := I.list hq
      refine ⟨pl.isList.typeIs, fun a e => ?_⟩
      cases e
      obtain ⟨o, n, e, c, hd, _⟩ := pl
      exact ⟨o, e, hd⟩
    · refine ⟨⟨o, I.kIn p o hk, hc⟩, fun a e => ?_⟩
      cases e
      exact ⟨o, I.kIn _ o hk, hd⟩
    · have z : ∃ o, s.heap.get? p = some o ∧ o.ExactDict := by
        rcases hk with ⟨kvs, hk⟩ | ⟨kvs, hk⟩
        · obtain ⟨_, _, _, _, o, _, _, e, ex, _⟩ := I.hok p _ hk
          exact ⟨o, e, ex⟩
        · obtain ⟨_, _, _, _, o, _, _, e, ex, _⟩ := I.hok p _ hk
          exact ⟨o, e, ex⟩
      obtain ⟨o, e, ex⟩ := z
      refine ⟨⟨o, e, ex.1⟩, fun a e2 => ?_⟩
      cases e2
      exact ⟨o, e, ex.2.1⟩
    · obtain ⟨o, _, _, _, e, ex, _⟩ := I.hok p _ hk
      refine ⟨⟨o, e, ex.1⟩, fun a e2 => ?_⟩
      cases e2
      exact ⟨o, e, ex.2.1⟩
  | _ => exact False.elim ty
def tBM0 (K : PySem.W.Frag) (T : String) (r : V → List V → Hp → VK → Prop) (to : TE) : TE := fun σ H Q => to σ H fun x H1 => tyV K T x H1 ∧ r x [] H1 Q
def tBM (K : PySem.W.Frag) (T : String) (r : V → List V → Hp → VK → Prop) (to : TE) (t : TA) : TE := fun σ H Q => to σ H fun x H1 => tyV K T x H1 ∧ t σ H1 fun xs H2 => r x xs H2 Q
variable {o e : Expr} {es : List Expr} {to : TE} {t : TA} {name : Str} {apos cpos : Pos} {T id : String} {r : V → List V → Hp → VK → Prop}
theorem pe_bm0 (pa : PlainAttrs T) (slot : Slot T name id) (hty : typeOf (.builtin id) = pure (.type "method_descriptor")) (hm : MtR X id r) (ho : PE X o to)
    (hbase : attributeBase o name X.env (eval o X.env) = eval o X.env := by rfl) (hline : (apos.endLine == cpos.line) = true := by rfl) : PE X (.Call (.Attribute o name apos) [] [] cpos) (tBM0 X.K T r to) := by
  intro pins s σ H Q I h
  refine wpAny_Call_method0_late hbase hline (thn (ho pins s σ H _ I h) fun v s1 ⟨x, H1, I1, r1, ty, q1⟩ => ?_)
  obtain ⟨h1, h2⟩ := tyV_is I1 r1 ty
  exact ⟨T, id, pa, slot, hty, h1, h2, Calls.callWith_builtin rfl (PySem.evalArgs_none (hm pins s1 σ H1 x [] v [] Q I1 r1 .nil q1))⟩
theorem pe_bm (pa : PlainAttrs T) (slot : Slot T name id) (hty : typeOf (.builtin id) = pure (.type "method_descriptor")) (hm : MtR X id r) (ho : PE X o to) (ha : PA X (e :: es) t)
    (hbase : attributeBase o name X.env (eval o X.env) = eval o X.env := by rfl)
    (hfew : ((backTo cpos (starEach (e :: es) X.env)).all (fun x => !x.1) && (backToKw cpos (keywordEach [] X.env)).all (fun x => x.1.isSome)
      && decide ((e :: es).length + ([] : List Keyword).length + (if ([] : List Keyword).isEmpty then 0 else 1) < 30)) = true := by rfl)
    (hline : (apos.endLine == cpos.line) = true := by rfl) (hs : starEach (e :: es) X.env = (false, eval e X.env) :: starEach es X.env := by rfl) (hplain : (backTo cpos (starEach es X.env)).any (·.1) = false := by rfl) :
    PE X (.Call (.Attribute o name apos) (e :: es) [] cpos) (tBM X.K T r to t) := by
  intro pins s σ H Q I h
  refine wpAny_Call_method_late hbase hfew hline rfl (thn (ho pins s σ H _ I h) fun v s1 ⟨x, H1, I1, r1, ty, q1⟩ => ?_)
  obtain ⟨h1, h2⟩ := tyV_is I1 r1 ty
  refine ⟨T, id, pa, slot, hty, h1, h2, ?_⟩
  have hA := ha cpos pins s1 σ H1 _ I1 q1
  rw [hs] at hA ⊢
  refine Calls.callWith_builtin (by show (false || (backTo cpos (starEach es X.env)).any (·.1)) = false; rw [hplain] <;> rfl) (Calls.evalArgs_plain ?_)
  exact thn hA fun us s2 ⟨vs, H2, I2, r2, q2⟩ => hm pins s2 σ H2 x vs v us Q I2 r1 r2 q2
end
end L2

namespace L2
open PySem PySem.Spec PyProof.Rows

def MtM (X : Cx) (id : String) (r : V → List V → Hp → VK → Prop) : Prop :=
  ∀ (pins : List (Addr × Obj)) (s : Shared) (σ : St) (H : Hp) (x : V) (xs : List V) (v : Value) (us : List Value) (Q : VK), Inv X pins σ H s → RelV x v → Vals xs us → r x xs H Q →
    wpAny (model X.prog X.w) X.A (call (.builtin id) (v :: us)) (EP X pins σ Q) X.xe s

/-! ### lists of values -/
theorem Vals.one : ∀ {x : V} {us : List Value}, Vals [x] us → ∃ u, us = [u] ∧ RelV x u
  | _, _, .cons r .nil => ⟨_, rfl, r⟩
section
variable {X : Cx} {pins : List (Addr × Obj)} {σ : St} {H : Hp} {s : Shared} {l b : Addr} {xs ys zs : List V}

/-! ### the two steps: a tracked list is rewritten, a new list is laid -/
theorem Inv.lset {its its' : List Value} {n : Nat} {f : Array Value → Array Value} {t' : Nat} (I : Inv X pins σ H s) (hH : H l = some (.lst xs))
    (e : s.heap.get? l = some { cls := .type "list", data := .seq its.toArray n }) (hf : f its.toArray = its'.toArray) (hv : Vals ys its') (hz : ys.length ≤ sizeLine) :
    Inv X pins σ (upd H l (.lst ys)) { s with heap := s.heap.update l (Obj.mapSeq f), toks := t' } := by
  have q := PySem.IsL.update e f
  rw [hf] at q
  refine I.write (x := l) (e := l) (by rw [hH]; exact trivial) (.inl rfl) (fun b' u hb hu => (Heap.get?_update_other s.heap (Obj.mapSeq f) (Ne.symm hb)).trans hu) ⟨_, q⟩ ?_
  exact ⟨hz, its', _, hv, q⟩
theorem Inv.lnew {its : List Value} {t' : Nat} (I : Inv X pins σ H s) (hv : Vals ys its) (hz : ys.length ≤ sizeLine) :
    Inv X pins σ (upd H s.heap.objs.size (.lst ys)) { s with heap := s.heap.push { cls := .type "list", data := .seq its.toArray }, toks := t' } :=
  I.laid (fun _ _ q => Heap.get?_push_of_some _ q) (Nat.le_refl _) ⟨hz, its, 0, hv, Heap.get?_push_size _ rfl⟩
theorem Inv.fresh (I : Inv X pins σ H s) : H s.heap.objs.size = none := I.hok.fresh (Nat.le_refl _)
theorem Inv.lstM (I : Inv X pins σ H s) (hH : H l = some (.lst xs)) : xs.length ≤ sizeLine ∧ ∃ (its : List Value) (n : Nat), Vals xs its ∧ xs.length = its.length ∧ s.heap.get? l = some { cls := .type "list", data := .seq its.toArray n } := by
  obtain ⟨z, its, n, r, e⟩ := I.hok l _ hH
  exact ⟨z, its, n, r, r.length, e⟩

theorem notLongL {n : Nat} (h : n ≤ sizeLine) : Builtin.List.listTooLong n = false := by
  unfold Builtin.List.listTooLong
  exact decide_eq_false (by omega)
end

section
variable {X : Cx}

/-! ### methods -/
def rAppend : V → List V → Hp → VK → Prop := fun x vs H Q => ∃ l xs y, x = .ref l ∧ vs = [y] ∧ H l = some (.lst xs) ∧ xs.length < sizeLine ∧ Q .non (upd H l (.lst (xs ++ [y])))
theorem mt_append : MtM X "list.append" rAppend := by
  intro pins s σ H x vs v us Q I rx rv h
  obtain ⟨l, xs, y, rfl, rfl, hH, hz, q⟩ := h
  cases rx
  obtain ⟨u, rfl, ru⟩ := rv.one
  obtain ⟨z, its, n, r, hl, e⟩ := I.lstM hH
  refine call_meets F.slot_list_append ⟨_, e, rfl⟩ F.entry_list_append (F.args_list_append_2 _ _) (PySem.list_append l its.toArray n u (by rw [List.size_toArray]; omega)) ⟨e, ?_⟩
  refine ⟨.non, _, I.lset (its' := its ++ [u]) hH e (by simp) (r.append (.cons ru .nil)) ?_, rfl, q⟩
  rw [List.length_append, List.length_singleton]
  omega

def rExtend : V → List V → Hp → VK → Prop := fun x vs H Q => ∃ l b xs zs, x = .ref l ∧ vs = [.ref b] ∧ H l = some (.lst xs) ∧ H b = some (.lst zs) ∧ xs.length + zs.length ≤ sizeLine ∧ Q .non (upd H l (.lst (xs ++ zs)))
theorem mt_extend : MtM X "list.extend" rExtend := by
  intro pins s σ H x vs v us Q I rx rv h
  obtain ⟨l, b, xs, zs, rfl, rfl, hH, hB, hz, q⟩ := h
  cases rx
  obtain ⟨u, rfl, ru⟩ := rv.one
  cases ru
  obtain ⟨z, its, n, r, hl, e⟩ := I.lstM hH
  obtain ⟨z2, its2, n2, r2, hl2, e2⟩ := I.lstM hB
  have hsz : its.toArray.size + its2.toArray.size ≤ sizeLine := by rw [List.size_toArray, List.size_toArray]; omega
  have hlong : ¬ (!its.toArray.isEmpty && Builtin.List.listTooLong (its.toArray.size + its2.toArray.size)) = true := by
    rw [notLongL hsz, Bool.and_false]
    exact Bool.false_ne_true
  refine call_meets F.slot_list_extend ⟨_, e, rfl⟩ F.entry_list_extend (F.args_list_extend_2 _ _)
    (AutoSeq1.list_extend_list_list_0 l its.toArray n b its2.toArray n2 hlong (by rw [List.size_toArray]; omega) (by omega)) ⟨e, e2, ?_⟩
  refine ⟨.non, _, I.lset (its' := its ++ its2) hH e (by simp) (r.append r2) ?_, rfl, q⟩
  rw [List.length_append]
  omega

/-! ### list + list, list += list, list * int -/
def rCat : R2 := fun x y H Q => ∃ l b xs zs, x = .ref l ∧ y = .ref b ∧ H l = some (.lst xs) ∧ H b = some (.lst zs) ∧ xs.length + zs.length ≤ sizeLine ∧ ∀ p, H p = none → Q (.ref p) (upd H p (.lst (xs ++ zs)))
theorem op_cat : OpR X (binaryOp .Add) rCat := by
  intro pins s σ H x y v u Q I rx ry h
  obtain ⟨l, b, xs, zs, rfl, rfl, hH, hB, hz, q⟩ := h
  cases rx
  cases ry
  obtain ⟨z, its, n, r, hl, e⟩ := I.lstM hH
  obtain ⟨z2, its2, n2, r2, hl2, e2⟩ := I.lstM hB
  refine PySem.P.add_list e e2 ?_ (by rw [List.size_toArray, List.size_toArray]; omega)
  have ea : its.toArray ++ its2.toArray = (its ++ its2).toArray := by simp
  rw [ea]
  exact ⟨.ref _, _, I.lnew (t' := s.toks) (r.append r2) (by rw [List.length_append]; omega), rfl, q _ I.fresh⟩
/-! ### del xs[i] -/
end

/-! ### xs[a:b] = ys -/
section
variable {prog : Program} {w : World} {A : Around} {E : Value → Shared → Prop} {s : Shared}
set_option maxRecDepth 100000 in
end

section
variable {X : Cx}
end
end L2

namespace Att
open PySem PySem.W PySem.Calls PyProof.Rows

/-! ### the script -/
theorem ints_of_wellAll {P : Params} {h : Heap} : ∀ (ns : List Int) (vs : List Value), WellAll P h vs (ns.map WData.int) → IntsAre vs ns := by
  intro ns
  induction ns with
  | nil =>
    intro vs w
    rw [List.map_nil] at w
    cases w
    exact .nil
  | cons n ns ih =>
    intro vs w
    rw [List.map_cons] at w
    cases w with
    | cons a b =>
      cases a
      exact .cons _ _ (ih _ b)

theorem script_of {l : OpenLaw} {n : Nat} (hn : l.most = some n) {P : Params} {h : Heap} {args : List WData} {vals : List Value}
    (hpre : l.row.toRowW.claim.pre args = true) (hwl : WellAll P h vals args) :
    ∃ a vs ns, vals = [Value.ref a] ∧ args = [WData.list (ns.map WData.int)] ∧ h.get? a = some { cls := .type "list", data := .seq vs.toArray } ∧ IntsAre vs ns ∧ ns.length ≤ n := by
  have hsh : WShape.hasAll [] args [.list .int] = true := (pre_splitW hpre).1
  have hc : l.pre.holds [] { args := args } = true := (pre_splitW hpre).2
  obtain ⟨d, r, rfl, h1, h2⟩ := hasAllW_cons hsh
  obtain rfl := hasAllW_nil h2
  obtain ⟨xs, rfl, h3⟩ := hasW_list h1
  obtain ⟨ns, rfl⟩ := items_int h3
  have hlen : ns.length ≤ n := by
    unfold OpenLaw.pre at hc
    have h4 : (WTm.not (.lt (.lit (.int (n : Int))) (.len (.arg 0)))).holds [] { args := [.list (ns.map .int)] } = true := by
      have h4 := (holds_andW hc).1
      rw [hn] at h4
      exact h4
    have h5 := condW_of h4 (w_not (w_lt w_lit (w_len_list (w_arg rfl))))
    rw [List.length_map] at h5
    refine Nat.le_of_not_lt fun q => ?_
    have q' : (n : Int) < ((ns.length : Nat) : Int) := by omega
    first
      | (rw [decide_eq_true q'] at h5; exact absurd h5 (by decide))
      | (simp at h5; omega)
  cases hwl with
  | cons w1 w2 =>
    cases w2
    cases w1 with
    | list ho hall => exact ⟨_, _, ns, rfl, rfl, ho, ints_of_wellAll ns _ hall, hlen⟩

theorem post_true (l : OpenLaw) (args : List WData) : l.row.toRowW.claim.post args (.bool true) args = true :=
  postW_of (r := l.row.toRowW) (X := (true == true))
    (show WShape.has [] (.bool true) .bool = true by first | rfl | decide | simp [WShape.has, WShape.arms, WShape.armsAll])
    (show (WTm.eq .res (.lit (.bool true))).value [] { args := args, res := some (.bool true), after := args } = some (.bool (true == true)) from w_eq_bool (w_res rfl) w_lit) rfl

/-! ### the attachment: holds_open's last premise (the goal 'hc' behind k_head) from a wpAny of the law's body -/
/-- the same from a codeAny of the CALL (for a layer whose function contracts speak of calls) -/
theorem attach_call {l : OpenLaw} {n : Nat} {q : Program} {loose : List Str} {XP : (Str → Option Value) → Heap → Prop} {YP : World → Heap → Prop} {d : DefRec}
    (hn : l.most = some n) (hdf : d.params.defaults = [])
    (call : ∀ (w : World) (s₀ s₁ : Shared) (mg mb : Str → Option Value) (fa : Addr) (o : Obj) (pm cd doc : Value) (a : Addr) (vs : List Value) (ns : List Int),
      Ground q loose [] XP w s₀ mg mb s₁.heap → YP w s₁.heap →
      s₁.heap.get? fa = some o → o.data = .func (docDef d.name d.params d.body d.scope pm cd doc) → s₁.heap.CodeRec cd d.name → mg d.name = some (.ref fa) →
      s₁.heap.get? a = some { cls := .type "list", data := .seq vs.toArray } → IntsAre vs ns → ns.length ≤ n → s₁.gens = #[] →
      codeAny (model l.prog w) callerA (.call (.ref fa) ⟨[.ref a], []⟩) (fun r s' => r = .ok (.ret (.bool true)) ∧ OldK s₁.heap s'.heap ∧ s'.os = s₁.os ∧ AllBare s'.gens) s₁) :
    WalkO q loose XP YP l.row.toRowW d [] (fun f vs => PySem.call f vs) := by
  intro w s₀ s₁ mg mb G Y fa o pm cd doc dV kV ho hd hcd hD hmg hg args vals as hpre hlay hrd hwl hlo
  obtain rfl : dV = .none := Dflts.none hD hdf
  obtain rfl : kV = .none := Dflts.noKw hD
  obtain ⟨a, vs, ns, rfl, rfl, hobj, hints, hlen⟩ := script_of hn hpre hwl
  refine enter_call (codeAny_mono (call w s₀ s₁ mg mb fa o pm cd doc a vs ns G Y ho (fd_plain hd) hcd hmg hobj hints hlen hg) fun r s' hq => ?_)
  obtain ⟨rfl, h2, h3, h4⟩ := hq
  exact ⟨.inl ⟨.bool true, .bool true, [], rfl, fun _ => rfl, .bool true, post_true l _, fun _ => ⟨List.Pairwise.nil, fun _ hm => (nomatch hm)⟩⟩, h2, h3, h4⟩

/-! ### rules over ANY heap (no ledger) from facts about the written part K: the library's own take a ledger (News) for what they write -/
section
variable {prog : Program} {w : World} {A : Around} {E : Value → Shared → Prop} {s : Shared} {K : Frag}

/-! the whole heap as the ledger: makes every rule that writes through a ledger a rule over any heap -/
end
end Att

namespace L2
open PySem PySem.Spec PyProof.Rows

theorem vals_ints : ∀ {vs : List Value} {ns : List Int}, IntsAre vs ns → Vals (ns.map V.int) vs
  | _, _, .nil => .nil
  | _, _, .cons n t h => .cons ⟨t, rfl⟩ (vals_ints h)

/-- nothing is tracked but the script, known to the object (or it is an object of the module) -/
def Only (H : Hp) : Prop := ∀ b, H b = none ∨ ∃ o xs, H b = some (.frz o (.lst xs))

/-- THE HEAD: the law's promise, at the heap behind the top. F, the promise of the law's def, may use that base is part of the heap (so K.In base, base.Ns mainGlobals mg stand in Mod) -/
theorem law_call {P : Program} {w : World} {K : PySem.W.Frag} {mg mb : Str → Option Value} {CX : CXT} {k : Nat} {fa a : Addr} {fd : FuncData} {x : Str} {sp : Sp} {s₁ : Shared} {vs : List Value} {ns : List Int}
    (KX : K.In s₁.heap) (hns : s₁.heap.Ns mainGlobals mg) (hb : s₁.heap.Ns builtinsNs mb) (hbb : ∀ x : Str, x ≠ "__name__" → mb x = bootBuiltins x) (hlim : s₁.heap.NoLimit) (hg : s₁.gens = #[])
    (ha : s₁.heap.get? a = some { cls := .type "list", data := .seq vs.toArray }) (hi : IntsAre vs ns) (hl : ns.length ≤ sizeLine) (hr : Room k callerA)
    (F : ∀ base : Heap, K.In base → base.Ns mainGlobals mg → FnOk P w K mg base CX k fa fd [x] sp) (hbind : ∀ (s : Shared) (u : Value), BindsTo s fd ⟨[u], []⟩ [(x, u)])
    (hsp : ∀ H : Hp, Only H → SqL K H a (ns.map V.int) → sp [.ref a] H (fun v _ => v = .bl true) fun _ _ _ => False)
    (hCX : ∀ H e s', CX [] H s₁ (fun _ _ _ => False) e s' → False) :
    codeAny (model P w) callerA (.call (.ref fa) ⟨[.ref a], []⟩) (fun r s' => r = .ok (.ret (.bool true)) ∧ OldK s₁.heap s'.heap ∧ s'.os = s₁.os ∧ AllBare s'.gens) s₁ := by
  have rv := vals_ints hi
  have lenV := hi.length
  -- from an abstract heap in which nothing but the script may be tracked
  have core : ∀ H : Hp, Only H → SqL K H a (ns.map V.int) → HOk P w H s₁.heap → (∀ b, H b ≠ none → b = a) → (H a ≠ none → K.lookup a = none) →
      codeAny (model P w) callerA (.call (.ref fa) ⟨[.ref a], []⟩) (fun r s' => r = .ok (.ret (.bool true)) ∧ OldK s₁.heap s'.heap ∧ s'.os = s₁.os ∧ AllBare s'.gens) s₁ := by
    intro H hO hS hok hA hK
    have base_of : ∀ {b : Addr} {o : Obj}, s₁.heap.get? b = some o → H b = none → (hidT s₁.heap H).get? b = some o := fun e n => hidT_get e n
    have noA : ∀ {b : Addr} {o : Obj} {es : Array DictEntry} {ep : Nat}, s₁.heap.get? b = some o → o.data = .dict es ep → H b = none := fun {b o es ep} e d => by
      cases q : H b with
      | none => rfl
      | some u =>
        have e' : b = a := hA b (by rw [q]; simp)
        subst e'
        rw [ha] at e; cases e
        have d' : Data.seq vs.toArray _ = Data.dict es ep := d
        cases d'
    have nsK : ∀ {b : Addr} {m : Str → Option Value}, s₁.heap.Ns b m → (hidT s₁.heap H).Ns b m := fun {b m} ⟨o, es, ep, e, d, r⟩ => ⟨o, es, ep, base_of e (noA e d), d, r⟩
    have hKb : K.In (hidT s₁.heap H) := fun b o e => base_of (KX b o e) (by
      cases q : H b with
      | none => rfl
      | some u =>
        have e' : b = a := hA b (by rw [q]; simp)
        subst e'
        rw [hK (by rw [q]; simp)] at e; cases e)
    have hM : Mod K mg (hidT s₁.heap H) := ⟨hKb, nsK hns, ⟨mb, nsK hb, hbb⟩, let ⟨mc, h1, h2⟩ := hlim; ⟨mc, nsK h1, h2⟩⟩
    have e0 : Env0 P w K mg (hidT s₁.heap H) callerA [] s₁ H := ⟨rfl, hM, fun b o e => of_hidT e, Nat.le_of_eq (hidT_size _ _), trivial, fun b hb => absurd (show b ∈ ([] : List Addr) from hb) (by simp), hok, .of_eq hg⟩
    refine codeAny_mono ((F _ hKb (nsK hns)).run callerA [] s₁ H ⟨[.ref a], []⟩ [.ref a] [.ref a] _ _ hr e0 (hbind s₁ (.ref a)) (.cons rfl .nil) (hsp H hO hS)) fun r s' h => ?_
    cases r with
    | error e => exact (hCX H e s' h).elim
    | ok fl =>
      cases fl with
      | next => exact False.elim h
      | brk => exact False.elim h
      | cont => exact False.elim h
      | ret u =>
        obtain ⟨v, H', os, bare, un, hok', r', q⟩ := h
        have q' : v = .bl true := q
        subst q'
        obtain rfl : u = Value.bool true := r'
        refine ⟨rfl, OldK.of_keep fun b o e => ?_, os, bare⟩
        cases q : H b with
        | none => exact un.keep b o e q (by intro z; exact absurd (show b ∈ ([] : List Addr) from z) (by simp)) (by simp)
        | some u =>
          rcases hO b with z | ⟨ob, xs, z⟩
          · rw [q] at z; cases z
          · have z2 := un.frzs b ob _ z
            obtain ⟨e1, _⟩ := hok b _ z
            obtain ⟨e2, _⟩ := hok' b _ z2
            rw [e] at e1; cases e1
            exact e2
  cases hk : K.lookup a with
  | some o =>
    -- the script is one of the module's own objects
    have e := KX a o hk
    rw [ha] at e
    cases e
    refine core (fun _ => none) (fun _ => .inl rfl) (.inr ⟨_, vs.toArray, _, hk, rfl, rfl, rfl, by rw [List.size_toArray, lenV]; exact hl, by simpa using rv⟩) (fun b u z => by have z' : (none : Option HO) = some u := z; cases z') (fun b z => absurd rfl z) fun z => absurd rfl z
  | none =>
    refine core (fun b => if b = a then some (.frz { cls := .type "list", data := .seq vs.toArray } (.lst (ns.map V.int))) else none) (fun b => ?_) (.inl (.inr ⟨{ cls := .type "list", data := .seq vs.toArray }, if_pos rfl⟩)) (fun b u z => ?_) (fun b z => ?_) fun _ => hk
    · by_cases hb : b = a
      · exact .inr ⟨_, _, if_pos hb⟩
      · exact .inl (if_neg hb)
    · by_cases hb : b = a
      · have z' := (if_pos hb).symm.trans z
        cases z'
        subst hb
        exact ⟨ha, by rw [List.length_map]; exact hl, vs, _, rv, ha⟩
      · have z' := (if_neg hb).symm.trans z
        cases z'
    · by_cases hb : b = a
      · exact hb
      · exact absurd (if_neg hb) z
end L2

namespace L2
open PySem PySem.Spec PyProof.Rows

/-- the goal that k_head leaves (case hc), from the law's promise. F gives the function object fd (K's own) once, then the promise over every base -/
theorem walk_of {l : PySem.W.OpenLaw} {n k : Nat} {q : Program} {loose : List Str} {XP : (Str → Option Value) → Heap → Prop} {YP : World → Heap → Prop} {d : DefRec} {K : Params → PySem.W.Frag} {CX : World → CXT} {sp : World → Sp} {x : Str}
    (hn : l.most = some n) (hn2 : n ≤ sizeLine) (hdf : d.params.defaults = []) (hr : Room k callerA)
    (hY : ∀ (w : World) (h : Heap), YP w h → (K w.params).In h)
    (F : ∀ (w : World) (mg : Str → Option Value) (fa : Addr) (h : Heap), (K w.params).In h → h.Ns mainGlobals mg → mg d.name = some (.ref fa) →
      ∃ fd : FuncData, (∀ (s : Shared) (u : Value), BindsTo s fd ⟨[u], []⟩ [(x, u)]) ∧
        ∀ base : Heap, (K w.params).In base → base.Ns mainGlobals mg → FnOk l.prog w (K w.params) mg base (CX w) k fa fd [x] (sp w))
    (hsp : ∀ (w : World) (H : Hp) (a : Addr) (ns : List Int), ns.length ≤ n → Only H → SqL (K w.params) H a (ns.map V.int) → sp w [.ref a] H (fun v _ => v = .bl true) fun _ _ _ => False)
    (hCX : ∀ (w : World) (H : Hp) (s : Shared) (e : Value) (s' : Shared), CX w [] H s (fun _ _ _ => False) e s' → False) :
    PySem.W.WalkO q loose XP YP l.row.toRowW d [] (fun f vs => PySem.call f vs) := by
  refine Att.attach_call hn hdf fun w s₀ s₁ mg mb fa o pm cd doc a vs ns G Y ho hd hcd hmg hobj hints hlen hg => ?_
  have KX := hY w _ Y
  obtain ⟨fd, hb, hF⟩ := F w mg fa _ KX G.T.g hmg
  exact law_call KX G.T.g G.T.b G.T.builtins G.T.nolimit hg hobj hints (Nat.le_trans hlen hn2) hr hF hb (fun H hO hS => hsp w H a ns hlen hO hS) fun H e s' => hCX w H s₁ e s'
end L2


/-! SHORT WORDS over the layer: a def of the text, its body, what a loop and a test want. -/
namespace L2
open PySem PySem.Spec PyProof.Rows

/-! ### the text by places -/
/-- the j-th statement of a class's body -/
def inClass (s : Stmt) (j : Nat) : Stmt := match s with
  | .ClassDef _ _ _ body _ _ _ _ _ _ _ => body.getD j (.Pass ⟨0, 0, 0, 0⟩)
  | _ => .Pass ⟨0, 0, 0, 0⟩
def defArgs (s : Stmt) : Arguments := match s with
  | .FunctionDef _ a _ _ _ _ _ _ _ _ => a
  | _ => { posonlyargs := [], args := [], vararg := none, kwonlyargs := [], kw_defaults := [], kwarg := none, defaults := [] }
def defBody (s : Stmt) : List Stmt := match s with
  | .FunctionDef _ _ b _ _ _ _ _ _ _ => b
  | _ => []
def defScope (s : Stmt) : Scope := match s with
  | .FunctionDef _ _ _ _ _ _ sc _ _ _ => sc
  | _ => { kind := .function, names := [], isGenerator := false, isCoroutine := false }

/-! ### no exception leaves a def -/
abbrev CX0 : CXT := fun _ _ _ _ _ _ => False
abbrev E0 : XK := fun _ _ _ => False
theorem pass0 {X : Cx} : Passes CX0 X E0 := fun _ _ _ _ _ _ _ h => h.elim

/-! ### a def (or method) of the text as it stands behind the top -/
structure Fun (K : PySem.W.Frag) (x qual : Str) (st : Stmt) (f : Addr) (fd : FuncData) : Prop where
  ex : ∃ (oc : Value) (od : Option Addr) (kV doc pm : Value) (an : Option Addr) (cdv ct : Value) (osl : Array (Option Value)),
    fd = PySem.W.fnOf x qual (defArgs st) (defBody st) (defScope st) .none kV doc pm an cdv ct ∧ K.lookup f = some ⟨oc, od, .func fd, osl⟩ ∧ PySem.W.codeIn K cdv qual = true
  kp : PySem.W.keepIn K (.ref f) = true
section
variable {P : Program} {w : World} {K : PySem.W.Frag} {mg : Str → Option Value} {base : Heap}
/-- THE RULE for a def: its body as a term of rules, and the reading of that term -/
theorem Fun.ok {x qual : Str} {st : Stmt} {f : Addr} {fd : FuncData} {N ps : List Str} {k : Nat} {sp : Sp} (F : Fun K x qual st f fd) (S : FnScope N ps (defScope st)) (len : ∀ vs H Q E, sp vs H Q E → vs.length = ps.length)
    (hbody : ∀ (cdv : Value) (A : Around) (outer : List Env) (s : Shared) (H : Hp) (vs : List V) (Q : VK) (E : XK), Room k (A.deeper (envOfC qual (defScope st) s.heap.objs.size f cdv)) → sp vs H Q E →
      ∃ t, PSs (cxOf CX0 P w K mg base N qual (defScope st) f cdv A outer s H E).nox (defBody st) t ∧ t { nx := fun _ H' => Q .non H', rt := Q } (start N vs) H) : FnOk P w K mg base CX0 (k + 1) f fd ps sp := by
  obtain ⟨oc, od, kV, doc, pm, an, cdv, ct, osl, rfl, lk, hcd⟩ := F.ex
  refine fn_of lk hcd S len fun A outer s H vs Q E hr hsp => ?_
  obtain ⟨t, h, q⟩ := hbody cdv A outer s H vs Q E hr hsp
  exact ⟨t, h.nox, q⟩
/-- how its arguments bind (no defaults): h is «fun _ _ _ _ _ _ us hl => match us, hl with | [_, _], _ => rfl», one _ a parameter -/
theorem Fun.binds {x qual : Str} {st : Stmt} {f : Addr} {fd : FuncData} {ps : List Str} (F : Fun K x qual st f fd)
    (h : ∀ (kV doc pm : Value) (an : Option Addr) (cdv ct : Value) (us : List Value), us.length = ps.length → bindArgs (PySem.W.fnOf x qual (defArgs st) (defBody st) (defScope st) .none kV doc pm an cdv ct) ⟨us, []⟩ = pure (ps.zip us)) : Binds K fd ps [] := by
  obtain ⟨oc, od, kV, doc, pm, an, cdv, ct, osl, rfl, lk, hcd⟩ := F.ex
  exact .all (h kV doc pm an cdv ct)
theorem fun_mk {x qual : Str} {st : Stmt} {f : Addr} {oc : Value} {od an : Option Addr} {osl : Array (Option Value)} {kV doc pm cdv ct : Value} (l : K.lookup f = some ⟨oc, od, .func (PySem.W.fnOf x qual (defArgs st) (defBody st) (defScope st) .none kV doc pm an cdv ct), osl⟩)
    (c : PySem.W.codeIn K cdv qual = true) (k : PySem.W.keepIn K (.ref f) = true) : Fun K x qual st f (PySem.W.fnOf x qual (defArgs st) (defBody st) (defScope st) .none kV doc pm an cdv ct) := ⟨⟨oc, od, kV, doc, pm, an, cdv, ct, osl, rfl, l, c⟩, k⟩
end
theorem hu_of {A : Around} {k : Nat} (hr : Room k A) : A.units + 1 < cLine := Nat.lt_of_le_of_lt (Nat.add_le_add_left (by decide : 1 ≤ 64) _) hr.units
theorem small1000 {n : Nat} (h : n ≤ 1000) : n < sizeLine := Nat.lt_of_le_of_lt h (by decide)

/-! ### expressions in short: the name that stands in the i-th slot -/
section
variable {X : Cx}
theorem pv (i : Nat) {x : Str} {pos : Pos} (hN : X.N[i]? = some x := by rfl) (hv : Vis X.env.scope x := by first | exact Or.inl rfl | exact Or.inr (Or.inl rfl) | exact Or.inr (Or.inr rfl)) (hd : (x == ("__debug__" : Str)) = false := by decide)
    (hcd : (x == ("__classdict__" : Str)) = false := by decide) : PE X (.Name x pos) (tVar i) := pe_var hN hv hd hcd
/-- len of a dict -/
theorem call_lenD : CallR X (.builtin "len") (fun xs H Q => ∃ a kvs, xs = [V.ref a] ∧ H a = some (.dK kvs) ∧ Q (.int kvs.length) H) := by
  intro pins s σ H xs us Q I r h
  obtain ⟨a, kvs, rfl, ha, q⟩ := h
  obtain ⟨u, rfl, ru⟩ := vals1 r
  cases ru
  exact d_len I (.inl ha) fun t s' I' => ⟨.int kvs.length, H, I', ⟨t, rfl⟩, q⟩
end

/-! ### tests -/
theorem iteF {A B : Prop} (h : B) : if false = true then A else B := by
  rw [if_neg Bool.false_ne_true]
  exact h
theorem iteT {A B : Prop} (h : A) : if true = true then A else B := by
  rw [if_pos rfl]
  exact h
theorem ite2 {c A B : Prop} [Decidable c] (h1 : c → A) (h2 : ¬ c → B) : if c then A else B := by
  by_cases h : c
  · rw [if_pos h]
    exact h1 h
  · rw [if_neg h]
    exact h2 h
/-! ### heaps -/
/-- all that was tracked is as it was -/
def Same (H H' : Hp) : Prop := ∀ b o, H b = some o → H' b = some o
theorem Same.refl (H : Hp) : Same H H := fun _ _ h => h
theorem Same.trans {H H1 H2 : Hp} (a : Same H H1) (b : Same H1 H2) : Same H H2 := fun c o h => b c o (a c o h)
theorem Same.free {H H' : Hp} (e : Same H H') {l : Addr} (h : H' l = Option.none) : H l = Option.none := by
  cases q : H l with
  | none => rfl
  | some o =>
    rw [e l o q] at h
    cases h
theorem Same.seq {K : PySem.W.Frag} {H H' : Hp} {a : Addr} {xs : List V} (e : Same H H') (h : SqL K H a xs) : SqL K H' a xs := by
  rcases h with (h | ⟨o, h⟩) | h
  · exact .inl (.inl (e _ _ h))
  · exact .inl (.inr ⟨o, e _ _ h⟩)
  · exact .inr h

/-! ### a dict's pairs: keys that differ -/
section
variable {κ : Type} [DecidableEq κ]
theorem valV_not {kvs : List (κ × V)} {k : κ} (h : valV kvs k = none) : ¬ k ∈ kvs.map (·.1) := by
  intro m
  obtain ⟨p, hp, e⟩ := List.mem_map.mp m
  have q : (kvs.any fun kv => decide (kv.1 = k)) = true := List.any_eq_true.mpr ⟨p, hp, decide_eq_true e⟩
  rw [valV_any, h] at q
  exact absurd q (by simp)
theorem valV_in {kvs : List (κ × V)} {k : κ} {v : V} (h : valV kvs k = some v) : k ∈ kvs.map (·.1) := by
  have q : (kvs.any fun kv => decide (kv.1 = k)) = true := by
    rw [valV_any, h]
    all_goals rfl
  obtain ⟨p, hp, e⟩ := List.any_eq_true.mp q
  exact List.mem_map.mpr ⟨p, hp, of_decide_eq_true e⟩
theorem nd_snoc : ∀ {l : List κ} {k : κ}, l.Nodup → ¬ k ∈ l → (l ++ [k]).Nodup
  | [], k, _, _ => by simp
  | a :: r, k, h, hk => by
    obtain ⟨h1, h2⟩ := List.nodup_cons.mp h
    show (a :: (r ++ [k])).Nodup
    refine List.nodup_cons.mpr ⟨fun m => ?_, nd_snoc h2 fun m => hk (List.mem_cons.mpr (Or.inr m))⟩
    rcases List.mem_append.mp m with q | q
    · exact h1 q
    · exact hk (List.mem_cons.mpr (Or.inl (List.mem_singleton.mp q).symm))
end
end L2

set_option maxHeartbeats 4000000

/-! OWN RULES over the hand layer: comprehensions, texts, dicts as lists, data compared, isinstance. -/
namespace L2
open PySem PySem.Spec PyProof.Rows

/-! ### a comprehension: the turn with the step ahead of the store kept -/
section
variable {prog : Program} {w : World} {A : Around} {R : Result → Shared → Prop} {s : Shared}
theorem compLoop_go {elt target iter : Expr} {ifs : List Expr} {scope : Scope} {pos : Pos} {it acc : Value} {env : Env} (I : Nat → Shared → Prop)
    (turn : ∀ n s, I n s → wpAny (model prog w) A (pyNext it) (fun r s₁ => match r with
      | none => R (.ok .next) s₁
      | some v => wpAny (model prog w) A (letOwnedTupleGo target it v) (fun _ s₀ => wpAny (model prog w) A (assign target env v) (fun _ s₂ =>
          wpAny (model prog w) A (forIn ifs true fun c r => if r = true then do let ok ← isTrue c env (eval c env); pure (ForInStep.yield ok) else pure (ForInStep.yield r)) (fun ok s₃ =>
            if ok = true then wpAny (model prog w) A (eval elt env) (fun x s₄ =>
              wpAny (model prog w) A (call (.builtin "list.append") [acc, x]) (fun _ s₅ => ∃ m, m < n ∧ I m s₅) (fun _ _ => False) s₄) (fun _ _ => False) s₃
            else ∃ m, m < n ∧ I m s₃) (fun _ _ => False) s₂) (fun _ _ => False) s₀) (fun _ _ => False) s₁) (fun _ _ => False) s)
    (n : Nat) (h : I n s) :
    codeAny (model prog w) A (.compLoop (.ListComp elt [⟨target, iter, ifs, 0⟩] scope pos) 0 it acc env) R s := by
  refine codeAny_loop rfl I (fun n s hI => ?_) n h
  show wpAny _ A ((compTurn (.ListComp elt [⟨target, iter, ifs, 0⟩] scope pos) 0 it acc env).onRaise (fun x => do noteFrame x env; theTreesLotGoes x)) _ _ s
  refine wpAny_noted ?_
  rw [compTurn_list]
  refine wpAny_bind (wpAny_standAt (wpAny_bind (wpAny_mono (turn n s hI) (fun r s₁ h₁ => ?_) fun _ _ h' => h'.elim)))
  cases r with
  | none => exact wpAny_pure h₁
  | some v =>
    refine wpAny_bind (wpAny_mono h₁ (fun _ s₀ h₀ => ?_) fun _ _ h' => h'.elim)
    refine wpAny_bind (wpAny_mono h₀ (fun _ s₂ h₂ => wpAny_bind (wpAny_mono h₂ (fun ok s₃ h₃ => ?_) fun _ _ h' => h'.elim)) fun _ _ h' => h'.elim)
    cases ok with
    | false => exact wpAny_pure ⟨rfl, h₃⟩
    | true =>
      exact wpAny_bind (wpAny_bind (wpAny_mono h₃ (fun x s₄ h₄ => wpAny_bind (wpAny_mono h₄ (fun _ s₅ h₅ => wpAny_pure (wpAny_pure ⟨rfl, h₅⟩)) fun _ _ h' => h'.elim)) fun _ _ h' => h'.elim))
end

/-! ### the cells that a comprehension's block takes along -/
theorem closure_ok {scope : Scope} {env : Env} (hf : ∀ y ∈ scope.names, y.2 = .free → ∃ c, env.cells.lookup y.1 = some c) :
    ∃ cl, closureFor scope env = pure cl ∧ (∀ x c, cl.lookup x = some c → env.cells.lookup x = some c) ∧ (∀ y ∈ scope.names, y.2 = .free → ∃ c, cl.lookup y.1 = some c) := by
  have key : ∀ (l : List (Str × NameKind)) (acc : List (Str × Addr)), (∀ y ∈ l, y.2 = .free → ∃ c, env.cells.lookup y.1 = some c) → (∀ x c, acc.lookup x = some c → env.cells.lookup x = some c) →
      ∃ cl, (forIn (m := Sem) l acc (fun (y : Str × NameKind) cs => if (y.2 == .free) = true then do let c ← cellOf env y.1; pure (ForInStep.yield ((y.1, c) :: cs)) else pure (ForInStep.yield cs))) = pure cl ∧
        (∀ x c, cl.lookup x = some c → env.cells.lookup x = some c) ∧ (∀ x, (∃ c, acc.lookup x = some c) → ∃ c, cl.lookup x = some c) ∧ (∀ y ∈ l, y.2 = .free → ∃ c, cl.lookup y.1 = some c) := by
    intro l
    induction l with
    | nil => intro acc _ ha; exact ⟨acc, rfl, ha, fun _ h => h, fun _ h => nomatch h⟩
    | cons p r ih =>
      intro acc hl ha
      obtain ⟨n, k⟩ := p
      by_cases hk : k = .free
      · subst hk
        obtain ⟨c, hc⟩ := hl (n, .free) List.mem_cons_self rfl
        have ha' : ∀ x d, ((n, c) :: acc).lookup x = some d → env.cells.lookup x = some d := fun x d e => by
          rw [List.lookup_cons] at e
          cases hx : x == n with
          | true =>
            rw [hx] at e
            rw [eq_of_beq hx, hc]
            exact e
          | false =>
            rw [hx] at e
            exact ha x d e
        obtain ⟨cl, e1, e2, e3, e4⟩ := ih ((n, c) :: acc) (fun y hy => hl y (List.mem_cons_of_mem _ hy)) ha'
        refine ⟨cl, ?_, e2, fun x ⟨d, e⟩ => e3 x ?_, fun y hy hf => ?_⟩
        · rw [List.forIn_cons]
          simp only [beq_self_eq_true, if_true, cellOf, hc, pure_bind]
          exact e1
        · rw [List.lookup_cons]
          cases hx : x == n with
          | true => exact ⟨c, rfl⟩
          | false => exact ⟨d, e⟩
        · rcases List.mem_cons.mp hy with rfl | hy
          · exact e3 _ ⟨c, by simp⟩
          · exact e4 y hy hf
      · have hb : (k == NameKind.free) = false := by simpa using hk
        obtain ⟨cl, e1, e2, e3, e4⟩ := ih acc (fun y hy => hl y (List.mem_cons_of_mem _ hy)) ha
        refine ⟨cl, ?_, e2, e3, fun y hy hf => ?_⟩
        · rw [List.forIn_cons]
          simp only [hb, Bool.false_eq_true, if_false, pure_bind]
          exact e1
        · rcases List.mem_cons.mp hy with rfl | hy
          · exact absurd hf hk
          · exact e4 y hy hf
  obtain ⟨cl, e1, e2, _, e4⟩ := key scope.names [] hf (fun _ _ h => by simp at h)
  refine ⟨cl, ?_, e2, e4⟩
  unfold closureFor
  show (forIn scope.names [] _ >>= fun r => pure r) = pure cl
  rw [bind_pure]
  exact e1

/-- the kinds behind relabel -/
theorem relabel_kind {scope : Scope} {env : Env} {x : Str} : ∀ {names : List (Str × NameKind)},
    ((names.map fun (n, k) => if (k == NameKind.free && env.scope.kind == .function && env.kindOf n == some .cell) then (n, NameKind.cell) else (n, k)).lookup x = some .cell ∨
     (names.map fun (n, k) => if (k == NameKind.free && env.scope.kind == .function && env.kindOf n == some .cell) then (n, NameKind.cell) else (n, k)).lookup x = some .free) →
    (∃ y ∈ names, y.1 = x ∧ (y.2 = .free ∨ y.2 = .cell))
  | [], h => by rcases h with h | h <;> simp at h
  | (n, k) :: r, h => by
    by_cases hx : x = n
    · subst hx
      refine ⟨(x, k), List.mem_cons_self, rfl, ?_⟩
      by_cases hc : (k == NameKind.free && env.scope.kind == .function && env.kindOf x == some .cell) = true
      · have := (Bool.and_eq_true_iff.mp (Bool.and_eq_true_iff.mp hc).1).1
        exact .inl (by simpa using this)
      · simp only [List.map_cons, hc, Bool.false_eq_true, if_false, List.lookup_cons, beq_self_eq_true] at h
        rcases h with h | h
        · exact .inr (Option.some.inj h)
        · exact .inl (Option.some.inj h)
    · have hb : (x == n) = false := by simpa using hx
      have h' : ((r.map fun (n, k) => if (k == NameKind.free && env.scope.kind == .function && env.kindOf n == some .cell) then (n, NameKind.cell) else (n, k)).lookup x = some .cell ∨
        (r.map fun (n, k) => if (k == NameKind.free && env.scope.kind == .function && env.kindOf n == some .cell) then (n, NameKind.cell) else (n, k)).lookup x = some .free) := by
        rw [List.map_cons] at h
        by_cases hc : (k == NameKind.free && env.scope.kind == .function && env.kindOf n == some .cell) = true
        · simp only [hc, if_true, List.lookup_cons, hb] at h; exact h
        · simp only [hc, Bool.false_eq_true, if_false, List.lookup_cons, hb] at h; exact h
      obtain ⟨y, hy, e⟩ := relabel_kind (scope := scope) h'
      exact ⟨y, List.mem_cons_of_mem _ hy, e⟩

/-! ### the block -/
def capOf (σ : St) (js : List Nat) : St := js.map fun j => (σ[j]?).getD none
/-- the context of a comprehension's block: s the state when its frame is made -/
def cxComp (X : Cx) (N : List Str) (scope : Scope) (cl : List (Str × Addr)) (s : Shared) (H : Hp) (ex : List Addr) : Cx :=
  { X with N := N, s₀ := s, H₀ := H, env := compEnvC scope cl s.heap.objs.size X.env, outer := X.stack, stack := X.stack, ex := ex, fn := fun _ => false, pn := [], xe := fun _ _ => False }

/-- tests of a comprehension -/
def PTs (X : Cx) (ifs : List Expr) (t : TT) : Prop :=
  ∀ (pins : List (Addr × Obj)) (s : Shared) (σ : St) (H : Hp) (Q : Bool → Hp → Prop), Inv X pins σ H s → t σ H Q →
    wpAny (model X.prog X.w) X.A (forIn ifs true fun c r => if r = true then do let ok ← isTrue c X.env (eval c X.env); pure (ForInStep.yield ok) else pure (ForInStep.yield r)) (TP X pins σ Q) X.xe s
def tNoTest : TT := fun _ H Q => Q true H
theorem pts_nil {X : Cx} : PTs X [] tNoTest := fun _ _ _ H _ I h => wpAny_pure ⟨H, I, h⟩
theorem pts_one {X : Cx} {c : Expr} {t : TT} (h : PT X c t) : PTs X [c] t := fun pins s σ H Q I q => wpAny_tests_one (h pins s σ H Q I q)

/-- what is asked of a comprehension's scope (N: its names by place, xs of them the targets', the rest taken along from the places js) -/
def compOk (N₀ : List Str) (sc₀ scope : Scope) (N : List Str) (xs : Nat) (js : List Nat) : Bool :=
  scope.kind == .function && (scope.names.all fun y => y.2 != .cell) && (scope.names.all fun y => y.2 != .local || scope.names.lookup y.1 == some .local) &&
  (scope.names.all fun y => y.2 != .free || (sc₀.names.lookup y.1 == some .cell || sc₀.names.lookup y.1 == some .free)) && N.length == xs + js.length &&
  (List.range js.length).all fun i => match js[i]?, N[xs + i]? with
    | some j, some x => N₀[j]? == some x && scope.names.lookup x == some .free
    | _, _ => false
structure CompScope (X : Cx) (scope : Scope) (N : List Str) (xs : Nat) (js : List Nat) : Prop where
  kind : scope.kind = .function
  nocell : ∀ y ∈ scope.names, y.2 ≠ .cell
  once : ∀ y ∈ scope.names, y.2 = .local → scope.names.lookup y.1 = some .local
  caught : ∀ y ∈ scope.names, y.2 = .free → X.env.kindOf y.1 = some .cell ∨ X.env.kindOf y.1 = some .free
  len : N.length = xs + js.length
  at_ : ∀ (i j : Nat) (x : Str), js[i]? = some j → N[xs + i]? = some x → X.N[j]? = some x ∧ scope.names.lookup x = some .free
theorem compScope_of {X : Cx} {scope : Scope} {N : List Str} {xs : Nat} {js : List Nat} (h : compOk X.N X.env.scope scope N xs js = true) : CompScope X scope N xs js := by
  unfold compOk at h
  simp only [Bool.and_eq_true] at h
  obtain ⟨⟨⟨⟨⟨h1, h2⟩, h3⟩, h4⟩, h5⟩, h6⟩ := h
  refine ⟨by simpa using h1, fun y hy => ?_, fun y hy e => ?_, fun y hy e => ?_, by simpa using h5, fun i j x e1 e2 => ?_⟩
  · have := List.all_eq_true.mp h2 y hy
    simpa using this
  · have := List.all_eq_true.mp h3 y hy
    rw [e] at this
    simpa using this
  · have := List.all_eq_true.mp h4 y hy
    rw [e] at this
    simpa [Env.kindOf] using this
  · have hi : i < js.length := (List.getElem?_eq_some_iff.mp e1).1
    have := List.all_eq_true.mp h6 i (List.mem_range.mpr hi)
    rw [e1, e2] at this
    simpa using this

theorem lookup_mem {α : Type} {x : Str} {k : α} : ∀ {l : List (Str × α)}, l.lookup x = some k → (x, k) ∈ l
  | [], h => by simp at h
  | (n, j) :: r, h => by
    rw [List.lookup_cons] at h
    cases hx : x == n with
    | true =>
      rw [hx] at h
      cases h
      rw [eq_of_beq hx]
      exact List.mem_cons_self
    | false =>
      rw [hx] at h
      exact List.mem_cons_of_mem _ (lookup_mem h)
theorem relabel_free {env : Env} {x : Str} : ∀ {names : List (Str × NameKind)}, names.lookup x = some .free →
    ((names.map fun (n, k) => if (k == NameKind.free && env.scope.kind == .function && env.kindOf n == some .cell) then (n, NameKind.cell) else (n, k)).lookup x = some .cell ∨
     (names.map fun (n, k) => if (k == NameKind.free && env.scope.kind == .function && env.kindOf n == some .cell) then (n, NameKind.cell) else (n, k)).lookup x = some .free)
  | [], h => by simp at h
  | (n, k) :: r, h => by
    rw [List.map_cons]
    cases hx : x == n with
    | true =>
      rw [List.lookup_cons, hx] at h
      cases h
      by_cases hc : (NameKind.free == NameKind.free && env.scope.kind == .function && env.kindOf n == some .cell) = true
      · left; simp only [hc, if_true, List.lookup_cons, hx]
      · right; simp only [hc, Bool.false_eq_true, if_false, List.lookup_cons, hx]
    | false =>
      rw [List.lookup_cons, hx] at h
      have ih := relabel_free (env := env) h
      by_cases hc : (k == NameKind.free && env.scope.kind == .function && env.kindOf n == some .cell) = true
      · simp only [hc, if_true, List.lookup_cons, hx]; exact ih
      · simp only [hc, Bool.false_eq_true, if_false, List.lookup_cons, hx]; exact ih

section
variable {X : Cx} {pins : List (Addr × Obj)} {σ : St} {H : Hp} {s : Shared} {scope : Scope} {N : List Str} {xs : Nat} {js : List Nat} {cl : List (Str × Addr)} {fp : List Addr} {o : Obj}
theorem Inv.nostk (I : Inv X pins σ H s) {a : Addr} (h : s.heap.objs.size ≤ a) : a ∉ frs X.stack := fun hb => by
  rcases List.mem_cons.mp (I.stkSub a hb) with e | hb
  · exact absurd (Nat.lt_of_lt_of_le I.lt h) (by rw [e]; exact Nat.lt_irrefl _)
  · exact I.nofs h hb

theorem comp_ok (I : Inv X pins σ H s) (S : CompScope X scope N xs js) (h2 : ∀ x c, cl.lookup x = some c → X.env.cells.lookup x = some c) (h4 : ∀ y ∈ scope.names, y.2 = .free → ∃ c, cl.lookup y.1 = some c)
    (hf : ∀ b ∈ fp, FpOk X pins H b) (hfo : ∀ b ∈ fp, ∃ u, s.heap.get? b = some u) :
    (cxComp X N scope cl { s with heap := s.heap.push o } H (s.heap.objs.size :: fp)).Ok := by
  have I3 : Inv X pins σ H { s with heap := s.heap.push o } := I.kept (t' := s.toks) fun b u e => Heap.get?_push_of_some _ e
  have hsz : (s.heap.push o).objs.size = s.heap.objs.size + 1 := Heap.size_push ..
  have hcl : ∀ x c, cl.lookup x = some c → c < s.heap.objs.size := fun x c e => by
    obtain ⟨v, u, hu, _⟩ := I.cell x c (h2 x c e)
    exact Heap.lt_size hu
  refine ⟨I.ok.mod, S.kind, I.ok.glob, I.ok.blt, Nat.le_refl _, fun x y c e1 e2 => I.ok.inj x y c (h2 x c e1) (h2 y c e2), fun x hx => ?_, fun x c e _ => absurd e (by simp [cxComp]), I.ok.hd, I.ok.frames, .inl rfl, fun b hb => ?_, I3.bs, Nat.le_trans I3.ok.bsz I3.sz,
    fun b u e hb => ?_, fun b hb => ?_, I3.stack, I3.stkFree⟩
  · obtain ⟨y, hy, rfl, hk⟩ := relabel_kind (scope := scope) (env := X.env) (x := x) (names := scope.names) hx
    rcases hk with hk | hk
    · exact h4 y hy hk
    · exact absurd hk (S.nocell y hy)
  · show b ≠ (s.heap.push o).objs.size ∧ _
    rcases List.mem_cons.mp hb with rfl | hb
    · exact ⟨by rw [hsz]; exact Nat.ne_of_lt (Nat.lt_succ_self _), fun x c e => Nat.ne_of_lt (hcl x c e)⟩
    · obtain ⟨u, hu⟩ := hfo b hb
      have := Heap.lt_size hu
      exact ⟨by rw [hsz]; exact Nat.ne_of_lt (Nat.lt_succ_of_lt this), fun x c e => (hf b hb).2.2.2.2.1 x c (h2 x c e)⟩
  · rcases List.mem_cons.mp hb with rfl | hb
    · exact absurd (Heap.lt_size (I.bk _ u e)) (Nat.lt_irrefl _)
    · rcases (hf b hb).2.2.2.1 with z | z
      · exact I.ok.noex b u e z
      · exact absurd (Nat.lt_of_lt_of_le (Heap.lt_size e) (Nat.le_trans I.ok.bsz z)) (Nat.lt_irrefl _)
  · rcases List.mem_cons.mp hb with rfl | hb
    · exact I.nostk (Nat.le_refl _)
    · intro z
      rcases List.mem_cons.mp (I.stkSub b z) with e | e
      · exact (hf b hb).2.1 e
      · exact (hf b hb).2.2.1 e

theorem getElem_capOf {i : Nat} {v : V} (h : (List.replicate xs none ++ capOf σ js)[i]? = some (some v)) : ∃ k j, i = xs + k ∧ js[k]? = some j ∧ σ[j]? = some (some v) := by
  by_cases hi : i < xs
  · rw [List.getElem?_append_left (by simpa using hi)] at h
    rw [List.getElem?_replicate] at h
    split at h <;> cases h
  · rw [List.getElem?_append_right (by simpa using Nat.le_of_not_lt hi)] at h
    rw [List.length_replicate] at h
    unfold capOf at h
    rw [List.getElem?_map] at h
    cases e : js[i - xs]? with
    | none => rw [e] at h; cases h
    | some j =>
      rw [e] at h
      refine ⟨i - xs, j, by omega, e, ?_⟩
      have h' : (σ[j]?).getD none = some v := Option.some.inj h
      cases q : σ[j]? with
      | none => rw [q] at h'; cases h'
      | some w =>
        rw [q] at h'
        exact congrArg some h'

theorem comp_inv {h₁ : Heap} {tk : Nat} (I : Inv X pins σ H s) (S : CompScope X scope N xs js) (h2 : ∀ x c, cl.lookup x = some c → X.env.cells.lookup x = some c) (h4 : ∀ y ∈ scope.names, y.2 = .free → ∃ c, cl.lookup y.1 = some c)
    (hf : ∀ b ∈ fp, FpOk X pins H b) (hfo : ∀ b ∈ fp, ∃ u, s.heap.get? b = some u) (hd : ∀ v, o.data ≠ .cell v) (ho : o.isFreed = false) {m : Str → Option Value}
    (hns : h₁.Ns (s.heap.push o).objs.size m) (k3 : ∀ b u, (s.heap.push o).get? b = some u → h₁.get? b = some u) :
    Inv (cxComp X N scope cl { s with heap := s.heap.push o } H (s.heap.objs.size :: fp)) [(s.heap.objs.size, o)] (List.replicate xs none ++ capOf σ js) H { s with heap := h₁, toks := tk } := by
  have hsz : (s.heap.push o).objs.size = s.heap.objs.size + 1 := Heap.size_push ..
  have k2 : ∀ b u, s.heap.get? b = some u → h₁.get? b = some u := fun b u e => k3 b u (Heap.get?_push_of_some _ e)
  refine ⟨comp_ok I S h2 h4 hf hfo, rfl, I.bare, Un.kept k3, ⟨m, hns, fun i x v e1 e2 e3 => ?_⟩, fun x c e => ?_, I.hok.fresh (show s.heap.objs.size ≤ (s.heap.push o).objs.size by rw [hsz]; exact Nat.le_succ _), fun x c e => I.freeC x c (h2 x c e), fun p hp => ?_, I.hok.kept k2, ?_⟩
  · obtain ⟨k, j, rfl, hj, hσ⟩ := getElem_capOf e2
    obtain ⟨hN, hl⟩ := S.at_ k j x hj e1
    have hmem := lookup_mem hl
    have hk := S.caught _ hmem rfl
    obtain ⟨m', _, hloc⟩ := I.loc
    obtain ⟨u, r, l⟩ := hloc j x v hN hσ (by rcases hk with z | z; exact .inr (.inl z); exact .inr (.inr z))
    refine ⟨u, r, ?_⟩
    rcases l with ⟨z, _⟩ | ⟨_, c, ec, oc, hoc, hdc⟩
    · rcases hk with q | q <;> rw [q] at z <;> cases z
    · obtain ⟨c', ec'⟩ := h4 _ hmem rfl
      have := h2 _ _ ec'
      have e : c = c' := Option.some.inj (ec.symm.trans this)
      subst e
      exact .inr ⟨relabel_free (env := X.env) hl, c, ec', oc, k2 _ _ hoc, hdc⟩
  · obtain ⟨v, oc, hoc, hdc⟩ := I.cell x c (h2 x c e)
    exact ⟨v, oc, k2 _ _ hoc, hdc⟩
  · have e : p = (s.heap.objs.size, o) := by simpa [cxComp] using hp
    subst e
    exact ⟨k3 _ _ (Heap.get?_push_size _ ho), I.hok.fresh (Nat.le_refl _), (show s.heap.objs.size ≠ (s.heap.push o).objs.size by rw [hsz]; exact Nat.ne_of_lt (Nat.lt_succ_self _)), I.nostk (Nat.le_refl _), hd⟩
  · rw [List.length_append, List.length_replicate]
    unfold capOf
    rw [List.length_map]
    exact S.len.symm

/-- back in the frame around: the new list is tracked, the block's frame is not -/
theorem comp_back {s' : Shared} {H' : Hp} {σ' : St} {its : List Value} {n : Nat} {acc : List V} (I : Inv X pins σ H s) (hf : ∀ b ∈ fp, FpOk X pins H b)
    (J : Inv (cxComp X N scope cl { s with heap := s.heap.push o } H (s.heap.objs.size :: fp)) [(s.heap.objs.size, ({ cls := .type "list", data := .seq its.toArray n } : Obj))] σ' H' s')
    (rv : Vals acc its) (hz : acc.length ≤ sizeLine) :
    Inv X pins σ (upd H' s.heap.objs.size (.lst acc)) s' ∧ FpOk X pins (upd H' s.heap.objs.size (.lst acc)) (s.heap.push o).objs.size ∧ H' s.heap.objs.size = none := by
  have hsz : (s.heap.push o).objs.size = s.heap.objs.size + 1 := Heap.size_push ..
  obtain ⟨hD, hn, _, _, _⟩ := J.pin (s.heap.objs.size, ({ cls := .type "list", data := .seq its.toArray n } : Obj)) (by simp [cxComp])
  have nd : ∀ b u, H' b = some u → b ≠ s.heap.objs.size := fun b u e => ne_of_none e hn
  have lt : ∀ b u, s.heap.get? b = some u → b ∉ fp → b ∉ s.heap.objs.size :: fp := fun b u e hb z => by
    rcases List.mem_cons.mp z with z | z
    · exact absurd (Heap.lt_size e) (by rw [z]; exact Nat.lt_irrefl _)
    · exact hb z
  have ps : ∀ b u, s.heap.get? b = some u → (s.heap.push o).get? b = some u := fun b u e => Heap.get?_push_of_some _ e
  refine ⟨I.call' (ch := fp) J.os ⟨fun b u e q hb hx => J.base.keep b u (ps b u e) q hb (lt b u e hx), fun b u e q hb hx => J.base.slot b u (ps b u e) q hb (lt b u e hx), fun b u e q hx => ?_, fun b u e hx => J.base.there b u (ps b u e) (lt b u e hx),
    fun b ys e => ?_, fun b u ys e => ?_, fun b ys e => ?_⟩ (fun b u e => ?_) J.bare (fun b hb => ?_), ?_, hn⟩
  · rw [upd_ne (Nat.ne_of_lt (Heap.lt_size e))]
    exact J.base.free b u (ps b u e) q (lt b u e hx)
  · have z := J.base.tups b ys e
    rw [upd_ne (nd _ _ z)]; exact z
  · have z := J.base.frzs b u ys e
    rw [upd_ne (nd _ _ z)]; exact z
  · obtain ⟨more, z⟩ := J.base.tbls b ys e
    exact ⟨more, by rw [upd_ne (nd _ _ z)]; exact z⟩
  · by_cases hb : b = s.heap.objs.size
    · subst hb
      rw [upd_same] at e
      cases e
      exact ⟨hz, its, n, rv, hD⟩
    · rw [upd_ne hb] at e
      exact (J.hok b u e).stay (fun c v _ q => q) (fun c q => by rw [upd_ne (nd _ _ q)]; exact q) fun c ys q => by rw [upd_ne (nd _ _ q)]; exact q
  · obtain ⟨_, f1, _, f3, f4, f5⟩ := hf b hb
    exact ⟨f3, f1, f4, f5⟩
  · have I3 : Inv X pins σ H { s with heap := s.heap.push o } := I.kept (t' := s.toks) fun b u e => Heap.get?_push_of_some _ e
    refine I3.fpOk (Nat.le_refl _) ?_
    rw [upd_ne (show (s.heap.push o).objs.size ≠ s.heap.objs.size by rw [hsz]; exact Nat.succ_ne_self _)]
    exact J.free
end

/-- what a walk J asks: W by turn, measure, items so far, the block's names -/
def CompGoal (xs : Nat) (js : List Nat) (g : TG) (tt : TT) (te : TE) (σ : St) (Q : VK) (J : It) (H1 : Hp) : Prop :=
  ∃ W : Nat → Nat → List V → St → Hp → Prop, (∃ m, W 0 m [] (List.replicate xs none ++ capOf σ js) H1) ∧ ∀ i m acc σ' H, W i m acc σ' H →
    (J.stop i H ∧ ∀ p, H p = none → Q (.ref p) (upd H p (.lst acc))) ∨
    (J.go i H ∧ acc.length < sizeLine ∧ ∃ N : List V → St → Hp → Prop, (∀ acc' σ' H', N acc' σ' H' → ∃ m', m' < m ∧ W (i + 1) m' acc' σ' H') ∧ ∀ x H', J.yld i H x H' → g x σ' H' fun σ2 H2 => tt σ2 H2 fun b H3 =>
      if b = true then te σ2 H3 fun y H4 => N (acc ++ [y]) σ2 H4 else N acc σ2 H3)
/-- the reading -/
def tComp (xs : Nat) (js : List Nat) (ti : TI) (g : TG) (tt : TT) (te : TE) : TE := fun σ H Q => ti σ H fun J H1 => CompGoal xs js g tt te σ Q J H1

section
variable {X : Cx} {scope : Scope} {N : List Str} {xs : Nat} {js : List Nat} {tg iter elt : Expr} {ifs : List Expr} {pos : Pos} {ti : TI} {g : TG} {tt : TT} {te : TE}
/-- the block from the iterator on -/
theorem comp_block {pins : List (Addr × Obj)} {s : Shared} {σ : St} {H : Hp} {Q : VK} {RR : Value → Addr → Result → Shared → Prop} {E : Value → Shared → Prop} {it : Addr} {fp : List Addr} {tn : Nat → Heap → Prop} {J : It} {cl : List (Str × Addr)}
    (hc : X.calm = true) (S : CompScope X scope N xs js) (hg : ∀ cl s H ex, PG (cxComp X N scope cl s H ex) tg g) (ht : ∀ cl s H ex, PTs (cxComp X N scope cl s H ex) ifs tt) (he : ∀ cl s H ex, PE (cxComp X N scope cl s H ex) elt te)
    (h2 : ∀ x c, cl.lookup x = some c → X.env.cells.lookup x = some c) (h4 : ∀ y ∈ scope.names, y.2 = .free → ∃ c, cl.lookup y.1 = some c)
    (I : Inv X pins σ H s) (T : Turn X.prog X.w X.K tg J fp it tn) (st : tn 0 s.heap) (hf : ∀ b ∈ fp, FpOk X pins H b)
    (hW : CompGoal xs js g tt te σ Q J H)
    (hR : ∀ (D C : Addr) (H' : Hp) (s' : Shared) (m : Str → Option Value), Inv X pins σ H' s' → s'.heap.Ns C m → FpOk X pins H' C → Q (.ref D) H' → RR (.ref D) C (.ok .next) s') :
    wpAny (model X.prog X.w) X.A (newList []) (fun acc s₃ => wpAny (model X.prog X.w) X.A (newFunctionEnv scope X.env.globals cl [] X.env.qual none .none (some X.env)) (fun cenv s₄ =>
      codeAny (model X.prog X.w) X.A (.compStart (.ListComp elt [⟨tg, iter, ifs, 0⟩] scope pos) 0 (.ref it) acc { cenv with scope := relabel scope X.env }) (RR acc cenv.locals) s₄) E s₃) E s := by
  refine wpAny_newObj_type (wpAny_newFunctionEnv S.nocell (by intro y hy; simp at hy) (fun h₁ hns₁ hsb₁ => ?_) S.kind)
  dsimp only at hns₁ hsb₁ ⊢
  obtain ⟨W, ⟨m0, w0⟩, turn⟩ := hW
  have hfo : ∀ b ∈ fp, ∃ u, s.heap.get? b = some u := fun b hb => let ⟨u, hu, _⟩ := T.obj _ _ st b hb; ⟨u, hu⟩
  have hsz : (s.heap.push ({ cls := .type "list", dict := none, data := .seq ([] : List Value).toArray } : Obj)).objs.size = s.heap.objs.size + 1 := Heap.size_push ..
  have k3 : ∀ b u, (s.heap.push ({ cls := .type "list", dict := none, data := .seq ([] : List Value).toArray } : Obj)).get? b = some u → h₁.get? b = some u := fun b u e =>
    (hsb₁.2 b (Nat.ne_of_lt (Heap.lt_size e))).trans (Heap.get?_push_of_some _ e)
  have B0 := comp_inv (X := X) (N := N) (xs := xs) (js := js) (tk := s.toks + ([] : List (Str × Value)).length) I S h2 h4 hf hfo (fun v z => by cases z) rfl hns₁ k3
  generalize hXc : cxComp X N scope cl { s with heap := s.heap.push ({ cls := .type "list", dict := none, data := .seq ([] : List Value).toArray } : Obj) } H (s.heap.objs.size :: fp) = Xc at B0
  have eP : Xc.prog = X.prog := by rw [← hXc]; rfl
  have eW : Xc.w = X.w := by rw [← hXc]; rfl
  have eK : Xc.K = X.K := by rw [← hXc]; rfl
  have eA : Xc.A = X.A := by rw [← hXc]; rfl
  have eC : Xc.calm = true := by rw [← hXc]; exact hc
  have eX : Xc.xe = fun _ _ => False := by rw [← hXc]; rfl
  have eE : Xc.env = compEnvC scope cl (s.heap.push ({ cls := .type "list", dict := none, data := .seq ([] : List Value).toArray } : Obj)).objs.size X.env := by rw [← hXc]; rfl
  have eF : Xc.fs = frs X.stack := by rw [← hXc]; rfl
  have eex : Xc.ex = s.heap.objs.size :: fp := by rw [← hXc]; rfl
  have hg' : PG Xc tg g := by rw [← hXc]; exact hg _ _ _ _
  have ht' : PTs Xc ifs tt := by rw [← hXc]; exact ht _ _ _ _
  have he' : PE Xc elt te := by rw [← hXc]; exact he _ _ _ _
  have ecl : ∀ x c, Xc.env.cells.lookup x = some c → X.env.cells.lookup x = some c := by rw [eE]; exact h2
  -- what stays true of the iterator's objects
  have fpk : ∀ {H' : Hp} {ob : Obj}, (∀ b ∈ fp, H' b = none) → ∀ b ∈ fp, FpOk Xc [(s.heap.objs.size, ob)] H' b := fun {H' ob} hn b hb => by
    obtain ⟨u, hu⟩ := hfo b hb
    have hlt := Heap.lt_size hu
    obtain ⟨_, f1, f2, f3, f4, f5⟩ := hf b hb
    refine ⟨hn b hb, ?_, ?_, .inl ?_, fun x c e => f4 x c (ecl x c e), fun p hp => ?_⟩
    · rw [eE]
      show b ≠ (s.heap.push _).objs.size
      rw [hsz]; exact Nat.ne_of_lt (Nat.lt_succ_of_lt hlt)
    · rw [eF]
      intro z
      rcases List.mem_cons.mp (I.stkSub b z) with e | e
      · exact f1 e
      · exact f2 e
    · rw [eex]; exact List.mem_cons_of_mem _ hb
    · have e : p = (s.heap.objs.size, ob) := by
        rw [← hXc] at hp
        simpa [cxComp] using hp
      subst e
      show s.heap.objs.size ≠ b
      exact Nat.ne_of_gt hlt
  have loop : ∀ s₃ : Shared, s₃ = { s with heap := h₁, toks := s.toks + ([] : List (Str × Value)).length } →
      codeAny (model X.prog X.w) X.A (.compLoop (.ListComp elt [⟨tg, iter, ifs, 0⟩] scope pos) 0 (.ref it) (.ref s.heap.objs.size) (compEnvC scope cl (s.heap.push ({ cls := .type "list", dict := none, data := .seq ([] : List Value).toArray } : Obj)).objs.size X.env))
        (RR (.ref s.heap.objs.size) (s.heap.push ({ cls := .type "list", dict := none, data := .seq ([] : List Value).toArray } : Obj)).objs.size) s₃ := by
    rintro s₃ rfl
    refine compLoop_go (fun n s' => ∃ (i : Nat) (acc : List V) (its : List Value) (c : Nat) (σ' : St) (H' : Hp), Inv Xc [(s.heap.objs.size, ({ cls := .type "list", data := .seq its.toArray c } : Obj))] σ' H' s' ∧ Vals acc its ∧ tn i s'.heap ∧
      (∀ b ∈ fp, H' b = none) ∧ acc.length ≤ sizeLine ∧ W i n acc σ' H') ?_ m0 ⟨0, [], [], 0, _, H, B0, .nil, T.keep _ _ _ st fun b _ u e => k3 b u (Heap.get?_push_of_some _ e), fun b hb => (hf b hb).1, Nat.zero_le _, w0⟩
    rintro n s3 ⟨i, acc, its, c, σ3, H3, I3, rv, st3, fr3, hz, w3⟩
    rcases turn i n acc σ3 H3 w3 with ⟨stop, qn⟩ | ⟨go, hlen, NN, hNN, step⟩
    · have h := T.done Xc eP eW eK eC i _ s3 σ3 H3 (fun _ _ => False) I3 (fpk fr3) st3 stop
      rw [eA] at h
      refine thn h fun r s4 ⟨hr, I4⟩ => ?_
      subst hr
      rw [← hXc] at I4
      obtain ⟨a1, a2, a3⟩ := comp_back I hf I4 rv hz
      obtain ⟨mC, hmC, _⟩ := I4.loc
      exact hR _ _ _ _ mC a1 hmC a2 (qn _ a3)
    · have h := T.item Xc eP eW eK eC i _ s3 σ3 H3 (fun _ _ => False) I3 (fpk fr3) st3 go
      rw [eA] at h
      refine thn h fun r s4 ⟨u, hr, h4⟩ => ?_
      subst hr
      refine thn h4 fun _ s5 ⟨x, H5, I5, r5, y5, st5, fr5⟩ => ?_
      have I5' := I5.pinned (fpk fr5) (T.obj _ _ st5)
      have ha := hg' _ s5 σ3 H5 x u _ I5' r5 (step x H5 y5)
      rw [eP, eW, eA, eE, eX] at ha
      refine thn ha fun _ s6 ⟨σ6, H6, I6, q6⟩ => ?_
      have hb := ht' _ s6 σ6 H6 _ I6 q6
      rw [eP, eW, eA, eE, eX] at hb
      refine thn hb fun ok s7 ⟨H7, I7, q7⟩ => ?_
      have tn' : ∀ {σ8 : St} {H8 : Hp} {s8 : Shared}, Inv Xc ([(s.heap.objs.size, ({ cls := .type "list", data := .seq its.toArray c } : Obj))] ++ pinsAt fp s5.heap) σ8 H8 s8 → tn (i + 1) s8.heap ∧ ∀ b ∈ fp, H8 b = none := fun {σ8 H8 s8} I8 => by
        refine ⟨T.keep _ _ _ st5 fun b hb o e => (I8.pin (b, o) (List.mem_append_right _ (List.mem_append_right _ (mem_pinsAt hb e)))).1, fun b hb => ?_⟩
        obtain ⟨o, e, d⟩ := T.obj _ _ st5 b hb
        exact (I8.pin (b, o) (List.mem_append_right _ (List.mem_append_right _ (mem_pinsAt hb e)))).2.1
      cases ok with
      | false =>
        obtain ⟨m', hm, w7⟩ := hNN _ _ _ q7
        obtain ⟨t1, t2⟩ := tn' I7
        exact ⟨m', hm, i + 1, acc, its, c, σ6, H7, I7.unpinned, rv, t1, t2, hz, w7⟩
      | true =>
        have hd := he' _ s7 σ6 H7 _ I7 q7
        rw [eP, eW, eA, eE, eX] at hd
        refine thn hd fun v s8 ⟨y, H8, I8, r8, q8⟩ => ?_
        obtain ⟨m', hm, w8⟩ := hNN _ _ _ q8
        obtain ⟨t1, t2⟩ := tn' I8
        have I9 := I8.unpinned
        obtain ⟨eD, nD, nC, nF, _⟩ := I9.pin (s.heap.objs.size, ({ cls := .type "list", data := .seq its.toArray c } : Obj)) (by simp)
        have hln := rv.length
        refine call_meets F.slot_list_append ⟨_, eD, rfl⟩ F.entry_list_append (F.args_list_append_2 _ _) (PySem.list_append s.heap.objs.size its.toArray c v (by rw [List.size_toArray]; omega)) ⟨eD, ?_⟩
        obtain ⟨n9, q⟩ : ∃ n9, (s8.heap.update s.heap.objs.size (Obj.mapSeq fun a => a.push v)).get? s.heap.objs.size = some ({ cls := .type "list", data := .seq (its ++ [v]).toArray n9 } : Obj) := by
          have q := PySem.IsL.update eD (fun a => a.push v)
          have ea : its.toArray.push v = (its ++ [v]).toArray := by simp
          rw [ea] at q
          exact ⟨_, q⟩
        have I10 : Inv Xc [] σ6 H8 { s8 with heap := s8.heap.update s.heap.objs.size (Obj.mapSeq fun a => a.push v) } := by
          refine (I9.pins_of (pins' := []) fun p hp => nomatch hp).turned (it := s.heap.objs.size) (t' := s8.toks) (fun b u hb e => (Heap.get?_update_other s8.heap _ (Ne.symm hb)).trans e) nD nC (.inl (by rw [eex]; exact List.mem_cons_self)) (fun x cc e => ?_) (fun p hp => ?_)
          · obtain ⟨w0, oc, hoc, _⟩ := I.cell x cc (ecl x cc e)
            exact Nat.ne_of_lt (Heap.lt_size hoc)
          · rw [← hXc] at hp
            exact absurd hp (by simp [cxComp])
        refine ⟨m', hm, i + 1, acc ++ [y], its ++ [v], n9, σ6, H8, I10.pins_of fun p hp => ?_, rv.append (.cons r8 .nil), T.keep _ _ _ t1 fun b hb u e => ?_, t2, by rw [List.length_append, List.length_singleton]; omega, w8⟩
        · have e : p = (s.heap.objs.size, ({ cls := .type "list", data := .seq (its ++ [v]).toArray n9 } : Obj)) := by simpa using hp
          subst e
          exact ⟨q, nD, nC, nF, fun w z => by cases z⟩
        · have hb' : b ≠ s.heap.objs.size := by
            obtain ⟨z, hz'⟩ := hfo b hb
            exact Nat.ne_of_lt (Heap.lt_size hz')
          exact (Heap.get?_update_other s8.heap _ (Ne.symm hb')).trans e
  exact codeAny_compStart_list (loop _ rfl) (T.self _ 0 _ _ _ (T.keep _ _ _ st fun b _ u e => k3 b u (Heap.get?_push_of_some _ e)) (loop _ rfl))

/-- a comprehension as a value -/
theorem pe_comp (hc : X.calm = true) (S : CompScope X scope N xs js) (hi : PI X tg iter ti) (hg : ∀ cl s H ex, PG (cxComp X N scope cl s H ex) tg g) (ht : ∀ cl s H ex, PTs (cxComp X N scope cl s H ex) ifs tt)
    (he : ∀ cl s H ex, PE (cxComp X N scope cl s H ex) elt te) (hs : ∀ x, foldedSetIterable iter X.env x = pure x := by intro _; rfl) :
    PE X (.ListComp elt [⟨tg, iter, ifs, 0⟩] scope pos) (tComp xs js ti g tt te) := by
  intro pins s σ H Q I h
  obtain ⟨cl, e1, h2, h4⟩ := closure_ok (scope := scope) (env := X.env) fun y hy e => I.ok.has y.1 (S.caught y hy e)
  rw [eval_ListComp]
  refine wpAny_comprehension_free (use := none) rfl hs e1 S.kind S.once (thn (hi pins s σ H _ I h) fun v s1 h1 => thn h1 fun itv s2 h2' => ?_)
  obtain ⟨it, fp, tn, J, H2, e, I2, T, st2, f2, hW⟩ := h2'
  subst e
  refine comp_block (RR := fun acc C => compPost (model X.prog X.w) X.A X.xe none (EP X pins σ Q) acc C) hc S hg ht he h2 h4 I2 T st2 f2 hW fun D C H' s' m I' hn hC q => ?_
  obtain ⟨f0, f1, _, f3, f4, f5⟩ := hC
  exact ⟨m, hn, fun h' hs' => ⟨.ref D, H', I'.turned (it := C) (t' := s'.toks) (fun b u hb e => (hs'.2 b hb).trans e) f0 f1 f3 f4 f5, rfl, q⟩⟩

/-- name = [..], the comprehension stored ahead of its names' going -/
theorem ps_comp {j : Nat} {y : Str} {py spos : Pos} (hc : X.calm = true) (hN : X.N.Nodup) (hj : X.N[j]? = some y) (hy : X.env.scope.names.lookup y = some .local) (S : CompScope X scope N xs js) (hi : PI X tg iter ti) (hg : ∀ cl s H ex, PG (cxComp X N scope cl s H ex) tg g) (ht : ∀ cl s H ex, PTs (cxComp X N scope cl s H ex) ifs tt)
    (he : ∀ cl s H ex, PE (cxComp X N scope cl s H ex) elt te)
    (hsw : swapsWith (.ListComp elt [⟨tg, iter, ifs, 0⟩] scope pos) (some (.Name y py)) spos.line X.env = pure true)
    (hs : ∀ x, foldedSetIterable iter X.env x = pure x := by intro _; rfl) :
    PS X (.Assign [.Name y py] (.ListComp elt [⟨tg, iter, ifs, 0⟩] scope pos) spos) (tAsg (tComp xs js ti g tt te) (gName j)) := by
  intro pins s σ H D I h
  obtain ⟨cl, e1, h2, h4⟩ := closure_ok (scope := scope) (env := X.env) fun y hy e => I.ok.has y.1 (S.caught y hy e)
  rw [exec_Assign_Name_used _ _ _ _ hsw]
  refine wpAny_bind (wpAny_standAt (wpAny_bind ?_))
  show wpAny _ X.A (do let _ ← comprehension (.ListComp elt [⟨tg, iter, ifs, 0⟩] scope pos) scope X.env _ (newList []) false (eval iter X.env) (some (assign (.Name y py) X.env))) _ _ s
  refine wpAny_bind (wpAny_mono (wpAny_comprehension_free (use := some (assign (.Name y py) X.env)) (Q := fun _ s' => SP X pins D .next s') rfl hs e1 S.kind S.once
    (thn (hi pins s σ H _ I h) fun v s1 h1 => thn h1 fun itv s2 h2' => ?_)) (fun _ s' hq => wpAny_pure (wpAny_pure hq)) fun _ _ e => e)
  obtain ⟨it, fp, tn, J, H2, e, I2, T, st2, f2, hW⟩ := h2'
  subst e
  refine comp_block (Q := fun x H1 => gName j x σ H1 D.nx) (RR := fun acc C => compPost (model X.prog X.w) X.A X.xe (some (assign (.Name y py) X.env)) (fun _ s' => SP X pins D .next s') acc C) hc S hg ht he h2 h4 I2 T st2 f2 hW fun A C H' s' m I' hn hC q => ?_
  obtain ⟨f0, f1, f2', f3, f4, f5⟩ := hC
  show wpAny _ X.A (assign (.Name y py) X.env (.ref A)) _ _ _
  refine wpAny_assign_Name (store_ok2 I' hN hj (.inl hy) (show RelV (.ref A) (.ref A) from rfl) (fun s'' I'' ⟨a, sb, ha⟩ => ?_) (.inr hy))
  have hCa : C ≠ a := by
    rcases ha with e | e
    · rw [e]; exact f1
    · exact fun z => f4 y a e z.symm
  refine ⟨m, hn.sameBut sb hCa, fun h' hs' => ?_⟩
  exact ⟨_, H', I''.turned (it := C) (t' := s''.toks) (fun b u hb e => (hs'.2 b hb).trans e) f0 f1 f3 f4 f5, q⟩
end

/-! ### the forms one uses: over a list, a tuple, a range -/
section
variable {K : PySem.W.Frag} {xs : Nat} {js : List Nat} {g : TG} {tt : TT} {te : TE} {σ : St} {Q : VK} {H : Hp}
/-- any walk of n turns: Pv by turn, items so far, names -/
theorem comp_walk {J : It} {n : Nat} (Pv : Nat → List V → St → Hp → Prop) (h0 : Pv 0 [] (List.replicate xs none ++ capOf σ js) H) (hl : ∀ i acc σ' H', Pv i acc σ' H' → acc.length ≤ i) (hz : n ≤ sizeLine)
    (hgo : ∀ i acc σ' H', i < n → Pv i acc σ' H' → J.go i H') (hst : ∀ acc σ' H', Pv n acc σ' H' → J.stop n H')
    (hs : ∀ i x acc σ' H' H2, i < n → Pv i acc σ' H' → J.yld i H' x H2 → g x σ' H2 fun σ2 H2 => tt σ2 H2 fun b H3 => if b = true then te σ2 H3 fun y H4 => Pv (i + 1) (acc ++ [y]) σ2 H4 else Pv (i + 1) acc σ2 H3)
    (hd : ∀ acc σ' H', Pv n acc σ' H' → ∀ p, H' p = none → Q (.ref p) (upd H' p (.lst acc))) : CompGoal xs js g tt te σ Q J H := by
  refine ⟨fun i m acc σ' H' => m = n - i ∧ i ≤ n ∧ Pv i acc σ' H', ⟨n, by simp, Nat.zero_le _, h0⟩, ?_⟩
  rintro i m acc σ' H' ⟨rfl, hi, p⟩
  by_cases hlt : i < n
  · have := hl _ _ _ _ p
    exact .inr ⟨hgo i acc σ' H' hlt p, by omega, fun a s h => Pv (i + 1) a s h, fun a s h q => ⟨n - (i + 1), by omega, rfl, hlt, q⟩, fun x H2 y => hs i x acc σ' H' H2 hlt p y⟩
  · have e : i = n := by omega
    subst e
    exact .inl ⟨hst _ _ _ p, hd _ _ _ p⟩
/-- over a list or tuple that the block leaves as it is -/
theorem comp_list {a : Addr} {ys : List V} (Pv : Nat → List V → St → Hp → Prop) (h0 : Pv 0 [] (List.replicate xs none ++ capOf σ js) H) (hl : ∀ i acc σ' H', Pv i acc σ' H' → acc.length ≤ i) (hz : ys.length ≤ sizeLine)
    (hq : ∀ i acc σ' H', i ≤ ys.length → Pv i acc σ' H' → SqL K H' a ys)
    (hs : ∀ i x acc σ' H', ys[i]? = some x → Pv i acc σ' H' → g x σ' H' fun σ2 H2 => tt σ2 H2 fun b H3 => if b = true then te σ2 H3 fun y H4 => Pv (i + 1) (acc ++ [y]) σ2 H4 else Pv (i + 1) acc σ2 H3)
    (hd : ∀ acc σ' H', Pv ys.length acc σ' H' → ∀ p, H' p = none → Q (.ref p) (upd H' p (.lst acc))) : CompGoal xs js g tt te σ Q (Itl K a) H :=
  comp_walk Pv h0 hl hz (fun i acc σ' H' h p => ⟨ys, ys[i], hq _ _ _ _ (Nat.le_of_lt h) p, by simp [h]⟩) (fun acc σ' H' p => ⟨ys, hq _ _ _ _ (Nat.le_refl _) p, Nat.le_refl _⟩)
    (fun i x acc σ' H' H2 h p y => by
      obtain ⟨e, y⟩ := y
      subst e
      exact hs i x acc σ' _ (y ys (hq _ _ _ _ (Nat.le_of_lt h) p)) p) hd
theorem comp_tup {a : Addr} {ys : List V} (Pv : Nat → List V → St → Hp → Prop) (h0 : Pv 0 [] (List.replicate xs none ++ capOf σ js) H) (hl : ∀ i acc σ' H', Pv i acc σ' H' → acc.length ≤ i) (hz : ys.length ≤ sizeLine)
    (hq : ∀ i acc σ' H', i ≤ ys.length → Pv i acc σ' H' → SqT K H' a ys)
    (hs : ∀ i x acc σ' H', ys[i]? = some x → Pv i acc σ' H' → g x σ' H' fun σ2 H2 => tt σ2 H2 fun b H3 => if b = true then te σ2 H3 fun y H4 => Pv (i + 1) (acc ++ [y]) σ2 H4 else Pv (i + 1) acc σ2 H3)
    (hd : ∀ acc σ' H', Pv ys.length acc σ' H' → ∀ p, H' p = none → Q (.ref p) (upd H' p (.lst acc))) : CompGoal xs js g tt te σ Q (Itt K a) H :=
  comp_walk Pv h0 hl hz (fun i acc σ' H' h p => ⟨ys, ys[i], hq _ _ _ _ (Nat.le_of_lt h) p, by simp [h]⟩) (fun acc σ' H' p => ⟨ys, hq _ _ _ _ (Nat.le_refl _) p, Nat.le_refl _⟩)
    (fun i x acc σ' H' H2 h p y => by
      obtain ⟨e, y⟩ := y
      subst e
      exact hs i x acc σ' _ (y ys (hq _ _ _ _ (Nat.le_of_lt h) p)) p) hd
theorem comp_range {lo : Int} {n : Nat} (Pv : Nat → List V → St → Hp → Prop) (h0 : Pv 0 [] (List.replicate xs none ++ capOf σ js) H) (hl : ∀ i acc σ' H', Pv i acc σ' H' → acc.length ≤ i) (hz : n ≤ sizeLine)
    (hs : ∀ i acc σ' H', i < n → Pv i acc σ' H' → g (.int (lo + i)) σ' H' fun σ2 H2 => tt σ2 H2 fun b H3 => if b = true then te σ2 H3 fun y H4 => Pv (i + 1) (acc ++ [y]) σ2 H4 else Pv (i + 1) acc σ2 H3)
    (hd : ∀ acc σ' H', Pv n acc σ' H' → ∀ p, H' p = none → Q (.ref p) (upd H' p (.lst acc))) : CompGoal xs js g tt te σ Q (Itr lo n) H :=
  comp_walk Pv h0 hl hz (fun i acc σ' H' h p => h) (fun acc σ' H' p => Nat.le_refl _)
    (fun i x acc σ' H' H2 h p y => by
      obtain ⟨e, y⟩ := y
      subst e y
      exact hs i acc σ' _ h p) hd
end

/-! ### the signs of a text -/
def Its (x : Str) : It := ⟨fun i _ => i < x.cps.size, fun i H v H' => H' = H ∧ ∃ c, x.cps[i]? = some c ∧ v = .str ⟨#[c]⟩, fun i _ => i = x.cps.size⟩
def iStr (tl : TE) : TI := fun σ H R => tl σ H fun v H1 => ∃ x, v = .str x ∧ R (Its x) H1
theorem comp_str {xs : Nat} {js : List Nat} {g : TG} {tt : TT} {te : TE} {σ : St} {Q : VK} {H : Hp} {x : Str} (Pv : Nat → List V → St → Hp → Prop) (h0 : Pv 0 [] (List.replicate xs none ++ capOf σ js) H) (hl : ∀ i acc σ' H', Pv i acc σ' H' → acc.length ≤ i) (hz : x.cps.size ≤ sizeLine)
    (hs : ∀ i c acc σ' H', x.cps[i]? = some c → Pv i acc σ' H' → g (.str ⟨#[c]⟩) σ' H' fun σ2 H2 => tt σ2 H2 fun b H3 => if b = true then te σ2 H3 fun y H4 => Pv (i + 1) (acc ++ [y]) σ2 H4 else Pv (i + 1) acc σ2 H3)
    (hd : ∀ acc σ' H', Pv x.cps.size acc σ' H' → ∀ p, H' p = none → Q (.ref p) (upd H' p (.lst acc))) : CompGoal xs js g tt te σ Q (Its x) H :=
  comp_walk Pv h0 hl hz (fun i acc σ' H' h p => h) (fun acc σ' H' p => rfl)
    (fun i v acc σ' H' H2 h p y => by
      obtain ⟨e, c, y1, y2⟩ := y
      subst e y2
      exact hs i c acc σ' _ y1 p) hd
/-- at the sign i of x -/
def StrAt (it : Addr) (x : Str) (t : Tok) (i : Nat) (h : Heap) : Prop := h.IsStrIter it "str_ascii_iterator" x t i ∨ h.IsStrIter it "str_iterator" x t i
theorem StrAt.obj {it : Addr} {x : Str} {t : Tok} {i : Nat} {h : Heap} (st : StrAt it x t i h) : ∃ o n vs, h.get? it = some o ∧ o.cls = .type n ∧ o.data = .fields vs ∧ (n = "str_ascii_iterator" ∨ n = "str_iterator") := by
  rcases st with ⟨o, e, c, d⟩ | ⟨o, e, c, d⟩
  · exact ⟨o, _, _, e, c, d, .inl rfl⟩
  · exact ⟨o, _, _, e, c, d, .inr rfl⟩
theorem StrAt.go {M : Model} {A : Around} {E : Value → Shared → Prop} {s : Shared} {tg : Expr} {it : Addr} {u : Value} {x : Str} {t : Tok} {i : Nat} {Q : Unit → Shared → Prop} (st : StrAt it x t i s.heap) (hQ : Q () s) : wpAny M A (letOwnedTupleGo tg (.ref it) u) Q E s := by
  obtain ⟨o, n, vs, e, c, d, hn⟩ := st.obj
  rcases hn with rfl | rfl
  · exact go_of e c d (by decide) hQ
  · exact go_of e c d (by decide) hQ
theorem turn_str {P : Program} {w : World} {K : PySem.W.Frag} {tg : Expr} (it : Addr) (x : Str) (t : Tok) : Turn P w K tg (Its x) [it] it (StrAt it x t) where
  mem := by simp
  obj := fun i h st b hb => by
    have e : b = it := by simpa using hb
    subst e
    obtain ⟨o, n, vs, e, c, d, hn⟩ := st.obj
    exact ⟨o, e, fun v z => by rw [d] at z; cases z⟩
  keep := fun i h h' st k => by
    rcases st with ⟨o, e, r⟩ | ⟨o, e, r⟩
    · exact .inl ⟨o, k it (by simp) o e, r⟩
    · exact .inr ⟨o, k it (by simp) o e, r⟩
  item := by
    intro X hP hw hK hc i pins s σ H E I hf st hg
    subst hP hw hK
    obtain ⟨f0, f1, f2, f3, f4, f5⟩ := hf it (by simp)
    have fin : ∀ (v : Value) (h' : Heap) (tk : Nat), SignAt x i v → StrAt it x t (i + 1) h' → (∀ b o, b ∉ [it] → s.heap.get? b = some o → h'.get? b = some o) →
        ∃ u, some v = some u ∧ wpAny (model X.prog X.w) X.A (letOwnedTupleGo tg (.ref it) u) (fun _ s2 => ∃ y H', Inv X pins σ H' s2 ∧ RelV y u ∧ (Its x).yld i H y H' ∧ StrAt it x t (i + 1) s2.heap ∧ ∀ b ∈ [it], H' b = none) E { s with heap := h', toks := tk } := by
      rintro v h' tk ⟨c, u, hc', rfl⟩ st' k
      exact ⟨_, rfl, st'.go (s := { s with heap := h', toks := tk }) ⟨.str ⟨#[c]⟩, H, I.turned (t' := tk) (fun b o hb e => k b o (by simpa using hb) e) f0 f1 f3 f4 f5, ⟨_, rfl⟩, ⟨rfl, c, hc', rfl⟩, st', fun b hb => (hf b hb).1⟩⟩
    rcases st with st | st
    · exact (Walks.strAscii (I.ok.hd hc) it x t).item i s _ _ hg st fun v h' tk hv st' k => fin v h' tk hv (.inl st') k
    · exact (Walks.strWide (I.ok.hd hc) it x t).item i s _ _ hg st fun v h' tk hv st' k => fin v h' tk hv (.inr st') k
  done := by
    intro X hP hw hK hc i pins s σ H E I hf st hg
    subst hP hw hK
    obtain ⟨f0, f1, f2, f3, f4, f5⟩ := hf it (by simp)
    have hg' : i = x.cps.size := hg
    subst hg'
    rcases st with st | st
    · exact (Walks.strAscii (I.ok.hd hc) it x t).done s _ _ st fun h' tk k => ⟨rfl, I.turned (t' := tk) (fun b o hb e => k b o (by simpa using hb) e) f0 f1 f3 f4 f5⟩
    · exact (Walks.strWide (I.ok.hd hc) it x t).done s _ _ st fun h' tk k => ⟨rfl, I.turned (t' := tk) (fun b o hb e => k b o (by simpa using hb) e) f0 f1 f3 f4 f5⟩
  self := fun A i s Q E st h => by
    rcases st with st | st
    · exact wpAny_pyIter_striter_ascii st h
    · exact wpAny_pyIter_striter_wide st h
theorem pi_str {X : Cx} {tg l : Expr} {tl : TE} (hl : PE X l tl) : PI X tg l (iStr tl) := by
  intro pins s σ H R I h
  refine thn (hl pins s σ H _ I h) fun v s1 ⟨y, H1, I1, r1, q1⟩ => ?_
  obtain ⟨x, rfl, q⟩ := q1
  obtain ⟨t, rfl⟩ := r1
  have fin : ∀ o, StrAt s1.heap.objs.size x t 0 (s1.heap.push o) → PIE X pins σ tg R (.ref s1.heap.objs.size) { s1 with heap := s1.heap.push o } := fun o st => by
    refine ⟨s1.heap.objs.size, [s1.heap.objs.size], _, _, H1, rfl, I1.kept (t' := s1.toks) fun b o e => Heap.get?_push_of_some _ e, turn_str _ x t, st, fun b hb => ?_, q⟩
    have e : b = s1.heap.objs.size := by simpa using hb
    subst e
    exact I1.fpOk (Nat.le_refl _) (I1.hok.fresh (Nat.le_refl _))
  cases ha : x.cps.all (· < 128)
  · exact wpAny_pyIter_wide ha (fin _ (.inr ⟨_, Heap.get?_push_size _ rfl, rfl, rfl⟩))
  · exact wpAny_pyIter_ascii ha (fin _ (.inl ⟨_, Heap.get?_push_size _ rfl, rfl, rfl⟩))

/-! ### all(..) of a list of bools -/
theorem all_range (bs : List Bool) : (List.range bs.length).all (fun i => (bs[i]?).getD true) = bs.all id := by
  rw [Bool.eq_iff_iff]
  simp only [List.all_eq_true, List.mem_range, id]
  constructor
  · intro h b hb
    obtain ⟨i, hi, e⟩ := List.mem_iff_getElem.mp hb
    have := h i hi
    rw [List.getElem?_eq_getElem hi] at this
    rw [← e]
    exact this
  · intro h i hi
    rw [List.getElem?_eq_getElem hi]
    exact h _ (List.getElem_mem hi)
section
variable {X : Cx}
theorem call_all (hc : X.calm = true) : CallR X (.builtin "all") (fun xs H Q => ∃ (p : Addr) (bs : List Bool), xs = [.ref p] ∧ SqL X.K H p (bs.map V.bl) ∧ Q (.bl (bs.all id)) H) := by
  intro pins s σ H xs us Q I r h
  obtain ⟨p, bs, rfl, hp, q⟩ := h
  obtain ⟨u, rfl, ru⟩ := vals1 r
  cases ru
  obtain ⟨its, rv, ht, hz⟩ := I.list hp
  have hlen := rv.length
  rw [List.length_map] at hlen
  refine call_all_walk (wpAny_pyIter_list ht.isList ?_)
  have hpn : p < s.heap.objs.size := let ⟨o, n, e, _⟩ := ht; Heap.lt_size e
  refine ⟨s.heap.objs.size, [s.heap.objs.size, p], [s.heap.objs.size], its.toArray.size, (fun i v => its.toArray[i]? = some v), (fun i h => h.IsListIter s.heap.objs.size p i ∧ h.IsList p its.toArray), fun i => (bs[i]?).getD true, rfl, Walks.list (A := X.A.in1) (show X.A.in1.handled = none from I.ok.hd hc) s.heap.objs.size p (Nat.ne_of_lt hpn) its.toArray, ⟨⟨_, Heap.get?_push_size _ rfl, rfl, rfl⟩, ht.isList.at fun o e => Heap.get?_push_of_some _ e⟩, ?_, fun h' tk k => ?_⟩
  · intro i v s' Q' E' hv hq
    have hv' : its[i]? = some v := by simpa using hv
    have hi : i < bs.length := by rw [hlen]; exact (List.getElem?_eq_some_iff.mp hv').1
    obtain ⟨u', hu', ru'⟩ := rv.get (i := i) (x := .bl bs[i]) (by simp [hi])
    rw [hv'] at hu'
    cases hu'
    cases ru'
    refine wpAny_truthy_bool ?_
    have hq' : Q' ((bs[i]?).getD true) s' := hq
    rw [List.getElem?_eq_getElem hi] at hq'
    exact hq'
  · have e : (List.range its.toArray.size).all (fun i => (bs[i]?).getD true) = bs.all id := by
      rw [List.size_toArray, ← hlen]
      exact all_range bs
    refine ⟨.bl (bs.all id), H, I.kept (t' := tk) fun b o e => k b o ?_ (Heap.get?_push_of_some _ e), by rw [e]; rfl, q⟩
    have := Heap.lt_size e
    intro z
    rw [List.mem_singleton.mp z] at this
    exact Nat.lt_irrefl _ this

/-! ### isinstance of a value and a built-in class -/
theorem call_isinst : CallR X (.builtin "isinstance") (fun xs H Q => ∃ x T t b, xs = [x, .ty T] ∧ TyOf X.K H x t ∧ PySem.W.kitOne X.K t (.type T) = some b ∧ Q (.bl b) H) := by
  intro pins s σ H xs us Q I r h
  obtain ⟨x, T, t, b, rfl, ty, e, q⟩ := h
  obtain ⟨u, v, rfl, ru, rv⟩ := vals2 r
  cases rv
  exact isinst_ok I ru ty e fun tk => ⟨.bl b, H, I.tok tk, rfl, q⟩

/-! ### slices of a text -/
def rSlS : V → Option Int → Option Int → Hp → VK → Prop := fun x lo hi H Q => ∃ z, x = .str z ∧ z.length ≤ sizeLine ∧ Q (.str (Txt.slice z lo hi)) H
theorem sl_str : SlR X rSlS := by
  intro pins s σ H x v vl vu lo hi sl Q I rx hs pl pu h
  obtain ⟨z, rfl, hz, q⟩ := h
  obtain ⟨t, rfl⟩ := rx
  refine ⟨"str", _, F.slot_str_getitem.lookup, typeIs_str _ _ _, ?_⟩
  have fin : ∀ t' k, EP X pins σ Q (.str (Txt.slice z lo hi) t') { s with toks := k } := fun t' k => ⟨.str _, H, I.tok k, ⟨t', rfl⟩, q⟩
  obtain ⟨o, ho, hc, hd⟩ := hs
  cases pl with
  | none =>
    cases pu with
    | none => exact wpAny_getItem_str_slice (l := none) (u := none) (st := none) ⟨o, ho, hc, hd⟩ rfl (post_val_or_str ⟨Nat.le_trans (Txt.slice_le z _ _) hz, fin⟩)
    | int j uj => exact wpAny_getItem_str_slice (l := none) (u := some (j, uj)) (st := none) ⟨o, ho, hc, hd⟩ rfl (post_val_or_str ⟨Nat.le_trans (Txt.slice_le z _ _) hz, fin⟩)
  | int i ui =>
    cases pu with
    | none => exact wpAny_getItem_str_slice (l := some (i, ui)) (u := none) (st := none) ⟨o, ho, hc, hd⟩ rfl (post_val_or_str ⟨Nat.le_trans (Txt.slice_le z _ _) hz, fin⟩)
    | int j uj => exact wpAny_getItem_str_slice (l := some (i, ui)) (u := some (j, uj)) (st := none) ⟨o, ho, hc, hd⟩ rfl (post_val_or_str ⟨Nat.le_trans (Txt.slice_le z _ _) hz, fin⟩)

/-! ### // by any positive divisor of up to 9000 bits -/
/-! ### list(d), d.values(), list(d.values()) -/
def valView (a d : Addr) : HO := .ext fun h => h.IsValuesView a d
theorem mt_values : MtR X "dict.values" (fun x vs H Q => ∃ d kvs, x = .ref d ∧ vs = [] ∧ Rd H d (.dK kvs) ∧ ∀ p, H p = none → Q (.ref p) (upd H p (valView p d))) := by
  intro pins s σ H x xs v us Q I rx rv h
  obtain ⟨d, kvs, rfl, rfl, hd, q⟩ := h
  cases rx
  cases rv
  obtain ⟨z, hs, vs, rel, dd⟩ := dk_rd I.hok hd
  refine call_meetsIn PySem.F.slot_dict_values dd.typeIs PySem.F.entry_dict_values (PySem.F.args_dict_values_1 _) (meets_dict_values (mixKind X.prog X.w) d hs) ⟨⟨vs, dd⟩, ?_⟩
  have hv : (s.heap.push ({ cls := .type "dict_values", data := .fields #[.ref d] } : Obj)).IsValuesView s.heap.objs.size d := ⟨_, Heap.get?_push_size _ rfl, rfl, rfl⟩
  refine ⟨.ref s.heap.objs.size, _, I.laid (t' := s.toks) (o := valView s.heap.objs.size d) (fun b ob e => Heap.get?_push_of_some _ e) (Nat.le_refl _) ⟨hv, ⟨_, Heap.get?_push_size _ rfl⟩, fun h1 h2 ⟨o, e, r⟩ k => ⟨o, k o e, r⟩⟩, rfl, q _ (I.hok.fresh (Nat.le_refl _))⟩
theorem vals_of_items {P : Nat → Value → Prop} {n : Nat} : ∀ {acc : List Value} (ys : List V), ItemsOf P acc.toArray n → ys.length = n → (∀ i v y, P i v → ys[i]? = some y → RelV y v) → Vals ys acc := by
  intro acc ys h hl hP
  obtain ⟨h1, h2⟩ := h
  have e1 : acc.length = ys.length := by rw [hl, ← h1]; simp
  have key : ∀ (ys : List V) (acc : List Value), acc.length = ys.length → (∀ (i : Nat) v y, acc[i]? = some v → ys[i]? = some y → RelV y v) → Vals ys acc := by
    intro ys
    induction ys with
    | nil =>
      intro acc e _
      have : acc = [] := List.eq_nil_of_length_eq_zero (by simpa using e)
      subst this
      exact .nil
    | cons y r ih =>
      intro acc e h
      cases acc with
      | nil => simp at e
      | cons v a =>
        refine .cons (h 0 v y rfl rfl) (ih a (by simpa using e) fun i v' y' e1 e2 => h (i + 1) v' y' (by simpa using e1) (by simpa using e2))
  exact key ys acc e1 fun i v y e1 e2 => hP i v y (h2 i v (by simpa using e1)) e2
theorem KV.getVal {κ : Type} {kvs : List (κ × V)} {vs : List (κ × Value)} (r : KV kvs vs) : ∀ {i : Nat} {k : κ} {x : Value} {y : κ × V}, vs[i]? = some (k, x) → kvs[i]? = some y → y.1 = k ∧ RelV y.2 x := by
  unfold KV at r
  induction r with
  | nil => intro i k x y e; simp at e
  | cons h t ih =>
    intro i k x y e1 e2
    cases i with
    | zero =>
      simp at e1 e2
      subst e2
      rw [e1] at h
      exact h
    | succ i => exact ih (by simpa using e1) (by simpa using e2)
theorem list_kdl {T : String} {r d : Addr} {P : Nat → Value → Prop} {OK : Heap → Prop} {ys : List V} {pins : List (Addr × Obj)} {s : Shared} {σ : St} {H : Hp} {Q : VK} (hc : X.calm = true) (I : Inv X pins σ H s) (Kd : PySem.W.KdlSrc X.prog X.w T r d ys.length P OK) (hok : OK s.heap) (hz : ys.length ≤ sizeLine)
    (hP : ∀ i v y, P i v → ys[i]? = some y → RelV y v) (q : ∀ l, H l = none → Q (.ref l) (upd H l (.lst ys))) : wpAny (model X.prog X.w) X.A (call (.type "list") [.ref r]) (EP X pins σ Q) X.xe s := by
  refine PySem.W.kdl_call Kd (I.ok.hd hc) hok hz fun h' tk acc' c' kp e hacc => ?_
  refine ⟨.ref s.heap.objs.size, _, I.laid (t' := tk) (o := .lst ys) kp (Nat.le_refl _) ⟨hz, acc'.toList, c', vals_of_items (acc := acc'.toList) ys (by simpa using hacc) rfl hP, by simpa using e⟩, rfl, q _ (I.hok.fresh (Nat.le_refl _))⟩
theorem call_listD (hc : X.calm = true) : CallR X (.type "list") (fun xs H Q => ∃ d kvs, xs = [.ref d] ∧ Rd H d (.dK kvs) ∧ ∀ l, H l = none → Q (.ref l) (upd H l (.lst (kvs.map fun kv => kV kv.1)))) := by
  intro pins s σ H xs us Q I r h
  obtain ⟨d, kvs, rfl, hd, q⟩ := h
  obtain ⟨u, rfl, ru⟩ := vals1 r
  cases ru
  obtain ⟨z, hs, vs, rel, dd⟩ := dk_rd I.hok hd
  obtain ⟨ep, hat⟩ := dd.dictAt
  have e := rel.length
  have Kd := PySem.W.kdl_dict (prog := X.prog) (w := X.w) (knd := mixKind X.prog X.w) (kvs := vs) (ep := ep) hs
  have el : (kvs.map fun kv => kV kv.1).length = vs.length := by rw [List.length_map, e]
  rw [← el] at Kd
  refine list_kdl (ys := kvs.map fun kv => kV kv.1) hc I Kd hat (by rw [List.length_map]; exact z) (fun i v y hv hy => ?_) q
  obtain ⟨k, x, hx, hk⟩ := hv
  rw [List.getElem?_map] at hy
  cases q2 : kvs[i]? with
  | none => rw [q2] at hy; cases hy
  | some kv =>
    rw [q2] at hy
    cases hy
    obtain ⟨e1, _⟩ := rel.getVal hx q2
    rcases keyIs_shape (show keyIs k v = true from hk) with ⟨i', t', rfl, rfl⟩ | ⟨x', t', rfl, rfl⟩
    · show RelV (kV kv.1) _
      rw [e1]; exact ⟨t', rfl⟩
    · show RelV (kV kv.1) _
      rw [e1]; exact ⟨t', rfl⟩
theorem call_listV (hc : X.calm = true) : CallR X (.type "list") (fun xs H Q => ∃ p d kvs, xs = [.ref p] ∧ H p = some (valView p d) ∧ Rd H d (.dK kvs) ∧ ∀ l, H l = none → Q (.ref l) (upd H l (.lst (kvs.map fun kv => kv.2)))) := by
  intro pins s σ H xs us Q I r h
  obtain ⟨p, d, kvs, rfl, hp, hd, q⟩ := h
  obtain ⟨u, rfl, ru⟩ := vals1 r
  cases ru
  obtain ⟨z, hs, vs, rel, dd⟩ := dk_rd I.hok hd
  obtain ⟨ep, hat⟩ := dd.dictAt
  have e := rel.length
  obtain ⟨hv, _, _⟩ : s.heap.IsValuesView p d ∧ _ ∧ _ := I.hok p _ hp
  have Kd := PySem.W.kdl_values (prog := X.prog) (w := X.w) (knd := mixKind X.prog X.w) (r := p) (d := d) (kvs := vs) (ep := ep)
  have el : (kvs.map fun kv => kv.2).length = vs.length := by rw [List.length_map, e]
  rw [← el] at Kd
  refine list_kdl (ys := kvs.map fun kv => kv.2) hc I Kd ⟨hv, hat⟩ (by rw [List.length_map]; exact z) (fun i v y hv hy => ?_) q
  obtain ⟨k, hx⟩ := hv
  rw [List.getElem?_map] at hy
  cases q2 : kvs[i]? with
  | none => rw [q2] at hy; cases hy
  | some kv =>
    rw [q2] at hy
    cases hy
    exact (rel.getVal hx q2).2
end

/-! ### data compared -/
/-- the data that a value bears, n lists deep at most -/
def RdD (K : PySem.W.Frag) (H : Hp) : Nat → V → PyData → Prop
  | _, .non, d => d = .none
  | _, .bl b, d => d = .bool b
  | _, .int i, d => d = .int i
  | _, .str x, d => PyData.strOk x = true ∧ d = .str x
  | n + 1, .ref a, d => (∃ xs ds, SqL K H a xs ∧ d = .list ds ∧ Paired (RdD K H n) xs ds) ∨ ∃ xs ds, SqT K H a xs ∧ d = .tuple ds ∧ Paired (RdD K H n) xs ds
  | _, _, _ => False
section
variable {X : Cx} {pins : List (Addr × Obj)} {σ : St} {H : Hp} {s : Shared}
theorem RdD.reads (I : Inv X pins σ H s) : ∀ (n : Nat) (v : V) (d : PyData) (u : Value), RdD X.K H n v d → RelV v u → (∃ as, Reads s.heap u d as) ∧ d.canLay0 = true ∧ d.depth ≤ n := by
  intro n
  induction n with
  | zero =>
    intro v d u h r
    cases v <;> simp only [RdD] at h
    · subst h; cases r; exact ⟨⟨_, .none⟩, rfl, Nat.le_refl _⟩
    · subst h; cases r; exact ⟨⟨_, .bool _⟩, rfl, Nat.le_refl _⟩
    · subst h; obtain ⟨t, rfl⟩ := r; exact ⟨⟨_, .int _ _⟩, rfl, Nat.le_refl _⟩
    · obtain ⟨h1, rfl⟩ := h; obtain ⟨t, rfl⟩ := r; exact ⟨⟨_, .str _ _⟩, h1, Nat.le_refl _⟩
  | succ n ih =>
    have all : ∀ (xs : List V) (ds : List PyData) (us : List Value), Paired (RdD X.K H n) xs ds → Vals xs us → (∃ as, ReadsAll s.heap us ds as) ∧ PyData.canLayAll0 ds = true ∧ PyData.depthAll ds ≤ n := by
      intro xs ds us p
      induction p generalizing us with
      | nil => intro r; cases r; exact ⟨⟨_, .nil⟩, rfl, Nat.zero_le _⟩
      | cons h t ih2 =>
        intro r
        cases r with
        | cons r1 r2 =>
          obtain ⟨⟨as, a1⟩, a2, a3⟩ := ih _ _ _ h r1
          obtain ⟨⟨bs, b1⟩, b2, b3⟩ := ih2 _ r2
          exact ⟨⟨_, .cons a1 b1⟩, by simp [PyData.canLayAll0, a2, b2], by simp only [PyData.depthAll]; omega⟩
    intro v d u h r
    cases v <;> simp only [RdD] at h
    · subst h; cases r; exact ⟨⟨_, .none⟩, rfl, Nat.zero_le _⟩
    · subst h; cases r; exact ⟨⟨_, .bool _⟩, rfl, Nat.zero_le _⟩
    · subst h; obtain ⟨t, rfl⟩ := r; exact ⟨⟨_, .int _ _⟩, rfl, Nat.zero_le _⟩
    · obtain ⟨h1, rfl⟩ := h; obtain ⟨t, rfl⟩ := r; exact ⟨⟨_, .str _ _⟩, h1, Nat.zero_le _⟩
    · cases r
      rcases h with ⟨xs, ds, hq, rfl, p⟩ | ⟨xs, ds, hq, rfl, p⟩
      · obtain ⟨its, rv, ⟨o, m, e, c, _, dd⟩, _⟩ := I.list hq
        obtain ⟨⟨as, a1⟩, a2, a3⟩ := all xs ds its p rv
        exact ⟨⟨_, .list e c dd (by simpa using a1)⟩, by simpa [PyData.canLay0] using a2, by simp only [PyData.depth]; omega⟩
      · obtain ⟨its, rv, ⟨o, e, c, m, dd⟩, _⟩ := I.tuple hq
        obtain ⟨⟨as, a1⟩, a2, a3⟩ := all xs ds its p rv
        exact ⟨⟨_, .tuple e c dd (by simpa using a1)⟩, by simpa [PyData.canLay0] using a2, by simp only [PyData.depth]; omega⟩
def rEqD (K : PySem.W.Frag) (neg : Bool) : R2 := fun x y H Q => ∃ n dx dy, n ≤ 64 ∧ RdD K H n x dx ∧ RdD K H n y dy ∧ Q (.bl (if neg then !PyData.eqv dx dy else PyData.eqv dx dy)) H
theorem op_eqD (hu : X.A.units + 64 < cLine) : OpR X (compareOp .Eq) (rEqD X.K false) := by
  intro pins s σ H x y v u Q I rx ry h
  obtain ⟨n, dx, dy, hn, h1, h2, q⟩ := h
  obtain ⟨⟨as, a1⟩, a2, a3⟩ := RdD.reads I n x dx v h1 rx
  obtain ⟨⟨bs, b1⟩, b2, b3⟩ := RdD.reads I n y dy u h2 ry
  have sx : SeqAt.shaped dx = true := by unfold SeqAt.shaped; rw [a2, decide_eq_true (by omega)]; rfl
  have sy : SeqAt.shaped dy = true := by unfold SeqAt.shaped; rw [b2, decide_eq_true (by omega)]; rfl
  exact SeqAt.compareEq_shaped a1 b1 sx sy hu ⟨.bl _, H, I, rfl, q⟩
theorem op_neD (hu : X.A.units + 64 < cLine) : OpR X (compareOp .NotEq) (rEqD X.K true) := by
  intro pins s σ H x y v u Q I rx ry h
  obtain ⟨n, dx, dy, hn, h1, h2, q⟩ := h
  obtain ⟨⟨as, a1⟩, a2, a3⟩ := RdD.reads I n x dx v h1 rx
  obtain ⟨⟨bs, b1⟩, b2, b3⟩ := RdD.reads I n y dy u h2 ry
  have sx : SeqAt.shaped dx = true := by unfold SeqAt.shaped; rw [a2, decide_eq_true (by omega)]; rfl
  have sy : SeqAt.shaped dy = true := by unfold SeqAt.shaped; rw [b2, decide_eq_true (by omega)]; rfl
  exact SeqAt.compareNe_shaped a1 b1 sx sy hu ⟨.bl _, H, I, rfl, q⟩
end
end L2

namespace L2
open PySem PySem.Spec PyProof.Rows
/-! ### a def of the text that keeps a promise, by its name; a method -/
structure Can (P : Program) (w : World) (K : PySem.W.Frag) (mg : Str → Option Value) (base : Heap) (k : Nat) (x : Str) (ps : List Str) (sp : Sp) : Prop where
  ex : ∃ (f : Addr) (fd : FuncData), FnOk P w K mg base CX0 k f fd ps sp ∧ mg x = some (.ref f) ∧ PySem.W.keepIn K (.ref f) = true ∧ Binds K fd ps []
structure CanM (P : Program) (w : World) (K : PySem.W.Frag) (mg : Str → Option Value) (base : Heap) (k : Nat) (C : Addr) (m : Str) (ps : List Str) (sp : Sp) : Prop where
  ex : ∃ (f : Addr) (fd : FuncData), FnOk P w K mg base CX0 k f fd ps sp ∧ Meth K C m f ∧ Binds K fd ps []
structure CanI (P : Program) (w : World) (K : PySem.W.Frag) (mg : Str → Option Value) (base : Heap) (k : Nat) (C : Addr) (ps : List Str) (sp : Sp) : Prop where
  ex : ∃ (f : Addr) (fd : FuncData), FnOk P w K mg base CX0 k f fd ps sp ∧ Mk K C f ∧ Binds K fd ps []
section
variable {P : Program} {w : World} {K : PySem.W.Frag} {mg : Str → Option Value} {base : Heap} {j k : Nat} {x m : Str} {ps : List Str} {sp sp' : Sp} {C : Addr}
theorem Can.mono (c : Can P w K mg base j x ps sp) (h : j ≤ k) : Can P w K mg base k x ps sp := let ⟨f, fd, F, r⟩ := c.ex; ⟨f, fd, F.mono h, r⟩
end
section
variable {X : Cx} {k : Nat} {x m : Str} {ps : List Str} {sp : Sp} {C : Addr} {p pos apos : Pos} {e o : Expr} {es : List Expr} {ta : TE} {t : TA}
theorem pe_callC (c : Can X.prog X.w X.K X.mg X.base k x ps sp) (hr : Room k X.A) (hg : Gl X x) (ha : PA X (e :: es) t) (hdb : (x == ("__debug__" : Str)) = false := by decide)
    (he : starEach (e :: es) X.env = (false, eval e X.env) :: starEach es X.env := by rfl) (hpl : (backTo pos (starEach es X.env)).any (·.1) = false := by rfl) :
    PE X (.Call (.Name x p) (e :: es) [] pos) (tCall sp [] E0 t) := by
  obtain ⟨f, fd, F, hm, hk, hb⟩ := c.ex
  exact pe_call F hr hg hm hk hb .nil pass0 ha hdb he hpl
theorem pe_methC {pl : Sem Bool} (ho : PE X o ta) (c : Cls X.K C) (h : CanM X.prog X.w X.K X.mg X.base k C m ps sp) (hr : Room k X.A) (ha : PA X (e :: es) t)
    (hst : starEach (e :: es) X.env = (false, eval e X.env) :: starEach es X.env := by rfl) (hpl : (backTo pos (starEach es X.env)).any (·.1) = false := by rfl)
    (ht : eval (.Call (.Attribute o m apos) (e :: es) [] pos) X.env = (do
      let ov ← eval o X.env
      standAt apos.atName
      let (f, first) ← holding [ov] (getMethod ov m pl)
      callWith pos f first (backTo pos (starEach (e :: es) X.env)) (backToKw pos (keywordEach [] X.env))) := by rfl) :
    PE X (.Call (.Attribute o m apos) (e :: es) [] pos) (tMeth C m sp [] E0 ta t) := by
  obtain ⟨f, fd, F, hm, hb⟩ := h.ex
  exact pe_meth ho c hm F hr hb .nil pass0 ha hst hpl ht
theorem pe_methC0 {pl : Sem Bool} (ho : PE X o ta) (c : Cls X.K C) (h : CanM X.prog X.w X.K X.mg X.base k C m ps sp) (hr : Room k X.A)
    (ht : eval (.Call (.Attribute o m apos) [] [] pos) X.env = (do
      let ov ← eval o X.env
      standAt apos.atName
      let (f, first) ← holding [ov] (getMethod ov m pl)
      callWith pos f first (backTo pos (starEach [] X.env)) (backToKw pos (keywordEach [] X.env))) := by rfl) :
    PE X (.Call (.Attribute o m apos) [] [] pos) (tMeth C m sp [] E0 ta tNil) := by
  obtain ⟨f, fd, F, hm, hb⟩ := h.ex
  exact pe_meth0 ho c hm F hr hb .nil pass0 ht
theorem pe_makeC0 (h : CanI X.prog X.w X.K X.mg X.base k C ps sp) (hr : Room (k + 1) X.A) (hg : Gl X x) (hm : X.mg x = some (.ref C)) (hdb : (x == ("__debug__" : Str)) = false := by decide) :
    PE X (.Call (.Name x p) [] [] pos) (tMake C sp [] E0 tNil) := by
  obtain ⟨f, fd, F, M, hb⟩ := h.ex
  exact pe_make0 M F hr hg hm hb .nil pass0 hdb
end
/-- a module's constant by its value -/
def GlobIs (mg : Str → Option Value) (x : Str) (v : V) : Prop := ∃ u, mg x = some u ∧ RelV v u
theorem pe_globC {X : Cx} {x : Str} {v : V} {pos : Pos} (h : GlobIs X.mg x v) (hg : Gl X x) (hd : (x == ("__debug__" : Str)) = false := by decide) : PE X (.Name x pos) (tC v) := by
  obtain ⟨u, hm, r⟩ := h
  exact pe_glob hg hm r hd
/-- a built-in type as a value -/
theorem pe_ty {X : Cx} {x : Str} {T : String} {pos : Pos} (hm : X.mg x = none) (hg : Gl X x) (hv : bootBuiltins x = some (.type T)) (hn : x ≠ "__name__" := by decide) (hd : (x == ("__debug__" : Str)) = false := by decide) : PE X (.Name x pos) (tC (.ty T)) :=
  pe_bltn hg hm hv (show RelV (.ty T) (.type T) from rfl) hn hd
end L2
namespace L2
open PySem
theorem b_all : bootBuiltins "all" = some (.builtin "all") := by decide +kernel
theorem b_isi : bootBuiltins "isinstance" = some (.builtin "isinstance") := by decide +kernel
theorem b_len : bootBuiltins "len" = some (.builtin "len") := by decide +kernel
theorem b_str : bootBuiltins "str" = some (.type "str") := by decide +kernel
theorem b_int : bootBuiltins "int" = some (.type "int") := by decide +kernel
theorem b_bool : bootBuiltins "bool" = some (.type "bool") := by decide +kernel
theorem b_list : bootBuiltins "list" = some (.type "list") := by decide +kernel
theorem b_tuple : bootBuiltins "tuple" = some (.type "tuple") := by decide +kernel
/-! ### the heap, small facts -/
theorem Same.upd {H H' : Hp} {p : Addr} {o : HO} (e : Same H H') (h : H' p = none) : Same H (L2.upd H' p o) := fun b ob z => by
  rw [upd_ne (ne_of_none (e b ob z) h)]
  exact e b ob z
theorem Same.new {H : Hp} {p : Addr} {o : HO} (h : H p = none) : Same H (L2.upd H p o) := (Same.refl H).upd h
end L2
namespace L2
open PySem
theorem slice_same (x : Str) (l u : Option Int) : Txt.slice x l u = StrLaws.sliceText x l u := rfl
theorem idx_clip (a b n : Nat) (h : n ≤ b) : Builtin.Str.strSliceIndices (some (a : Int)) (some (b : Int)) 1 n = Builtin.Str.strSliceIndices (some (a : Int)) (some (n : Int)) 1 n := by
  unfold Builtin.Str.strSliceIndices
  have e1 : ¬ ((b : Int) < 0) := by omega
  have e2 : ¬ ((n : Int) < 0) := by omega
  have e3 : min (b : Int) (n : Int) = n := by omega
  simp [e1, e2, e3]
theorem slice_list (z : Str) {a b : Nat} (ha : a ≤ z.length) (hab : a ≤ b) : (Txt.slice z (some (a : Int)) (some (b : Int))).cps.toList = (z.cps.toList.drop a).take (b - a) := by
  rw [slice_same]
  by_cases hb : b ≤ z.length
  · rw [StrLaws.sliceText_nat z hab hb]
  · have hb' : z.length ≤ b := by omega
    have e : StrLaws.sliceText z (some (a : Int)) (some (b : Int)) = StrLaws.sliceText z (some (a : Int)) (some (z.length : Int)) := by
      unfold StrLaws.sliceText
      rw [idx_clip a b z.length hb']
    rw [e, StrLaws.sliceText_nat z ha (Nat.le_refl _)]
    show (z.cps.toList.drop a).take (z.length - a) = _
    have hl : (z.cps.toList.drop a).length = z.length - a := by rw [List.length_drop]; rfl
    rw [List.take_of_length_le (by omega), List.take_of_length_le (by omega)]
theorem slice_to (z : Str) (b : Nat) : (Txt.slice z none (some (b : Int))).cps.toList = z.cps.toList.take b := by
  have e : Txt.slice z none (some (b : Int)) = Txt.slice z (some ((0 : Nat) : Int)) (some (b : Int)) := by
    rw [slice_same, slice_same]
    unfold StrLaws.sliceText
    rw [StrLaws.sliceIdx_none_lo]
    rfl
  rw [e, slice_list z (Nat.zero_le _) (Nat.zero_le _)]
  simp
theorem slice_from (z : Str) {a : Nat} (ha : a ≤ z.length) : (Txt.slice z (some (a : Int)) none).cps.toList = z.cps.toList.drop a := by
  have e : Txt.slice z (some (a : Int)) none = Txt.slice z (some (a : Int)) (some ((z.length : Nat) : Int)) := by
    rw [slice_same, slice_same]
    unfold StrLaws.sliceText
    rw [StrLaws.sliceIdx_none_hi]
  rw [e, slice_list z ha ha]
  have hl : (z.cps.toList.drop a).length = z.length - a := by rw [List.length_drop]; rfl
  rw [List.take_of_length_le (by omega)]
end L2

namespace L2
open PySem
/-! ### a cut: what holds between two statements -/
def tCut (R : St → Hp → Prop) (t u : TS) : TS := fun D σ H => t { D with nx := R } σ H ∧ ∀ σ' H', R σ' H' → u D σ' H'
theorem pss_cut {X : Cx} {st : Stmt} {rest : List Stmt} {t u : TS} (R : St → Hp → Prop) (h1 : PS X st t) (h2 : PSs X rest u) : PSs X (st :: rest) (tCut R t u) := by
  intro pins s σ H D I h
  refine wpAny_execs_cons (thn (h1 pins s σ H { D with nx := R } I h.1) fun f s1 q => ?_)
  cases f with
  | next =>
    obtain ⟨σ', H', I', q⟩ := q
    exact h2 pins s1 σ' H' D I' (h.2 σ' H' q)
  | ret v => exact q
  | brk => exact q
  | cont => exact q
end L2

namespace L2
open PySem
/-! ### a test by what holds behind it -/
end L2

namespace L2
open PySem
/-! ### the rules by a fragment that is named (inside a comprehension's block) -/
section
variable {X : Cx}
theorem pe_fldK {e : Expr} {f : Str} {pos : Pos} {ta : TE} (K : PySem.W.Frag) (hK : X.K = K) (he : PE X e ta) (hb : attributeBase e f X.env (eval e X.env) = eval e X.env) : PE X (.Attribute e f pos) (tFld K ta f) := by
  subst hK
  exact pe_fld he hb
theorem ix_tupK (K : PySem.W.Frag) (hK : X.K = K) : IxR X (rIxT K) := by
  subst hK
  exact ix_tup
theorem op_notInK (K : PySem.W.Frag) (hK : X.K = K) : OpR X (compareOp .NotIn) (rIn K true) := by
  subst hK
  exact op_notIn_seq
end
end L2

namespace L2
theorem iteFb {b : Bool} {A B : Prop} (h : b = false) (hB : B) : if b = true then A else B := by rw [h]; exact iteF hB
theorem iteTb {b : Bool} {A B : Prop} (h : b = true) (hA : A) : if b = true then A else B := by rw [h]; exact iteT hA
end L2

namespace L2
open PySem
/-! ### a cut that is chosen when it is read -/
def tCutE (t u : TS) : TS := fun D σ H => ∃ R : St → Hp → Prop, t { D with nx := R } σ H ∧ ∀ σ' H', R σ' H' → u D σ' H'
theorem pss_cutE {X : Cx} {st : Stmt} {rest : List Stmt} {t u : TS} (h1 : PS X st t) (h2 : PSs X rest u) : PSs X (st :: rest) (tCutE t u) := by
  intro pins s σ H D I h
  obtain ⟨R, ha, hb⟩ := h
  exact pss_cut R h1 h2 pins s σ H D I ⟨ha, hb⟩
end L2

namespace L2
open PySem
/-! ### for x in a text; slices of a list by numbers -/
end L2

/-! OWN RULES: an exception in flight of whose object more is known: anything that a write to its traceback leaves alone. -/
namespace L2
open PySem PySem.Spec PyProof.Rows
/-- it outlives a write to the traceback -/
def Stab (φ : Obj → Prop) : Prop := ∀ o v, φ o → φ (Obj.mapFields (·.setIfInBounds 1 v) o)
/-- φ of the object at e, whose traceback's first entry lies at a new place with the mark fl -/
def TrZ (φ : Obj → Prop) (h base : Heap) (e : Addr) (fl : Value) : Prop :=
  ∃ (oe oT : Obj) (vs ts : Array Value) (T : Addr), h.get? e = some oe ∧ φ oe ∧ oe.data = .fields vs ∧ vs[1]? = some (.ref T) ∧ base.get? T = none ∧ T ≠ e ∧ h.get? T = some oT ∧ oT.data = .fields ts ∧ ts[3]? = some fl
structure StZ (φ : Obj → Prop) (base : Heap) (l : List Env) (e : Addr) (fl : Value) (h h' : Heap) : Prop where
  stay : base.StaysIn h'
  frs : h'.FunFrames base l
  tr : TrZ φ h' base e fl
  up : h.UpToSlots h'
structure FlyZ (φ : Obj → Prop) (base : Heap) (l : List Env) (e : Addr) (fl : Value) (h : Heap) : Prop where
  stay : base.StaysIn h
  new : base.get? e = none
  frs : h.FunFrames base l
  tr : TrZ φ h base e fl
section
variable {M : Model} {A : Around} {E : Value → Shared → Prop} {s : Shared} {φ : Obj → Prop} {base : Heap} {env : Env} {l : List Env} {L e : Addr} {Q : Unit → Shared → Prop}
/-- what is no record of fields is not at a place where one is -/
theorem not_at {h : Heap} {a b : Addr} {o u : Obj} {ws : Array Value} (ha : h.get? a = some u) (hd : u.data = .fields ws) (hb : h.get? b = some o) (hn : ∀ vs, o.data ≠ .fields vs) : b ≠ a := fun z => by
  subst z
  rw [ha] at hb
  cases hb
  exact hn ws hd
/-- the mark of the first entry is taken away -/
theorem mark_off {fl : Value} (hkb : base.StaysIn s.heap) (hl : s.heap.FunFrames base l) (ht : TrZ φ s.heap base e fl) (k : ∀ h', StZ φ base l e .none s.heap h' → Q () { s with heap := h' }) : wpAny M A (setFlight (.ref e) none) Q E s := by
  obtain ⟨oe, oT, vs, ts, T, g1, p, g2, g3, g4, g5, g6, g7, g8⟩ := ht
  have z3 := (Array.getElem?_eq_some_iff.mp g8).1
  unfold setFlight
  refine wpAny_bind (wpAny_field g1 g2 g3 ?_)
  rw [if_pos (by simp : (Value.ref T != Value.none) = true)]
  refine wpAny_setField g6 g7 z3 (k _ ?_)
  have oth : ∀ {b : Addr}, b ≠ T → ∀ f, (s.heap.update T f).get? b = s.heap.get? b := fun hb f => Heap.get?_update_other _ _ (Ne.symm hb)
  have d2 := Obj.data_mapFields g7 fun a => a.setIfInBounds 3 ((none : Option Addr).elim Value.none fun f => rawInt f)
  exact ⟨fun b o q => (oth (fun z => by rw [z, g4] at q; cases q) _).trans (hkb b o q), hl.of_keeps fun b o q hn => ⟨o, (oth (not_at g6 g7 q hn) _).trans q, rfl⟩,
    ⟨oe, _, vs, _, T, (oth (Ne.symm g5) _).trans g1, p, g2, g3, g4, g5, Heap.get?_update_self _ g6 (Obj.isFreed_of_fields d2), d2, by simp [z3]⟩, fun b o q hn => ⟨o.slots, (oth (not_at g6 g7 q hn) _).trans q⟩⟩
/-- a new first entry, with the frame's mark -/
theorem entry_on {outer : List Env} {oe : Obj} {vs : Array Value} {head : Value} {hadNext : Bool} (hfr : A.frames = some (env :: outer)) (hl : s.heap.FunFrames base (env :: outer)) (hf : env.frame = some L)
    (g1 : s.heap.get? e = some oe) (st : Stab φ) (p : φ oe) (hkb : base.StaysIn s.heap) (hen : base.get? e = none) (g2 : oe.data = .fields vs) (z1 : 1 < vs.size) (k : ∀ h', StZ φ base (env :: outer) e (rawInt L) s.heap h' → Q () { s with heap := h' }) :
    wpAny M A (do let a ← frameOf env; let pl ← entryPlaceOf L hadNext; let b ← EntryCells.newEntry head a .none (rawInt L) .none pl; setField (.ref e) 1 b) Q E s := by
  have nfr : e ∉ (env :: outer).filterMap (·.frame) := fun z => by
    obtain ⟨_, o, q, hn⟩ := hl.mem z
    exact not_at g1 g2 q hn rfl
  refine wpAny_bind (wpAny_frameOf_fun hfr hl hf fun h₁ c => ?_)
  refine wpAny_bind (wpAny_entryPlaceOf fun pl hpl => ?_)
  unfold EntryCells.newEntry newFields
  refine wpAny_bind (wpAny_newObj_type ?_ (hpl.sizeOk5 _ _ _ _ _))
  have e₁ : h₁.get? e = some oe := (c.2.1 e nfr).trans g1
  have b₁ : base.StaysIn h₁ := fun b o q => (c.2.1 b fun z => by rw [(hl.mem z).1] at q; cases q).trans (hkb b o q)
  generalize hN : ({ cls := .type "traceback", dict := none, data := .fields ([head, .ref L, .none, rawInt L, .none] ++ (if pl.isEmpty then List.replicate 6 Value.none else pl)).toArray } : Obj) = ob
  have hob : ∃ ts, ob.data = .fields ts ∧ ts[3]? = some (rawInt L) := by
    rw [← hN]
    refine ⟨_, rfl, ?_⟩
    rcases hpl with rfl | ⟨_, _, _, _, _, _, _, rfl⟩ <;> simp
  have hfree : ob.isFreed = false := by rw [← hN]; rfl
  clear hN
  obtain ⟨ts, t1, t3⟩ := hob
  have e₂ := Heap.get?_push_of_some (h := h₁) ob e₁
  refine wpAny_setField e₂ g2 z1 (k _ ?_)
  have nT : h₁.objs.size ≠ e := Nat.ne_of_gt (Heap.lt_size e₁)
  have d3 := Obj.data_mapFields g2 (·.setIfInBounds 1 (Value.ref h₁.objs.size))
  have kp : ∀ b o, b ≠ e → h₁.get? b = some o → ((h₁.push ob).update e (Obj.mapFields (·.setIfInBounds 1 (Value.ref h₁.objs.size)))).get? b = some o := fun b o hb q => (Heap.get?_update_other _ _ (Ne.symm hb)).trans (Heap.get?_push_of_some _ q)
  refine ⟨fun b o q => kp b o (fun z => by rw [z, hen] at q; cases q) (b₁ b o q), hl.of_keeps fun b o q hn => ?_, ⟨_, ob, _, ts, h₁.objs.size, Heap.get?_update_self _ e₂ (Obj.isFreed_of_fields d3), st _ _ p, d3, by simp [z1], b₁.fresh, nT, (Heap.get?_update_other _ _ (Ne.symm nT)).trans (Heap.get?_push_size h₁ hfree), t1, t3⟩, fun b o q hn => ?_⟩
  · obtain ⟨sl, w⟩ := c.2.2 b o q
    exact ⟨_, kp b _ (not_at g1 g2 q hn) w, rfl⟩
  · obtain ⟨sl, w⟩ := c.2.2 b o q
    exact ⟨sl, kp b _ (not_at g1 g2 q hn) w⟩
/-- the traceback has an entry already, its mark is off: another goes ahead of it -/
theorem note_on {outer : List Env} (hfr : A.frames = some (env :: outer)) (hf : env.frame = some L) (st : Stab φ) (f : FlyZ φ base (env :: outer) e .none s.heap) (k : ∀ h', FlyZ φ base (env :: outer) e (rawInt L) h' → s.heap.UpToSlots h' → Q () { s with heap := h' }) :
    wpAny M A (noteFrame (.ref e) env) Q E s := by
  obtain ⟨hkb, hen, hl, oe, oT, vs, ts, T, g1, p, g2, g3, g4, g5, g6, g7, g8⟩ := f
  unfold noteFrame
  simp only [hf]
  refine wpAny_bind (wpAny_field g1 g2 g3 ?_)
  rw [if_pos (by simp : (Value.ref T != Value.none) = true)]
  refine wpAny_bind (wpAny_field g6 g7 g8 ?_)
  rw [if_neg (by simp [rawInt] : ¬ ((Value.none == rawInt L) = true))]
  refine wpAny_bind (wpAny_setField g6 g7 (Array.getElem?_eq_some_iff.mp g8).1 ?_)
  have oth : ∀ {b : Addr}, b ≠ T → ∀ f, (s.heap.update T f).get? b = s.heap.get? b := fun hb f => Heap.get?_update_other _ _ (Ne.symm hb)
  refine entry_on (φ := φ) (base := base) hfr (hl.of_keeps fun b o q hn => ⟨o, (oth (not_at g6 g7 q hn) _).trans q, rfl⟩) hf ((oth (Ne.symm g5) _).trans g1) st p (fun b o q => (oth (fun z => by rw [z, g4] at q; cases q) _).trans (hkb b o q)) hen g2
    (Array.getElem?_eq_some_iff.mp g3).1 fun h' x => k h' ⟨x.stay, hen, x.frs, x.tr⟩ fun b o q hn => x.up b o ((oth (not_at g6 g7 q hn) _).trans q) hn
theorem lands_Z {fl : Value} (f : FlyZ φ base l e fl s.heap) (k : ∀ h', FlyZ φ base l e .none h' → s.heap.UpToSlots h' → Q () { s with heap := h' }) : wpAny M A (setFlight (.ref e) none) Q E s :=
  mark_off f.stay f.frs f.tr fun h' x => k h' ⟨x.stay, f.new, x.frs, x.tr⟩ x.up
theorem leaves_Z {outer : List Env} (hfr : A.frames = some (env :: outer)) (hf : env.frame = some L) (st : Stab φ) (f : FlyZ φ base (env :: outer) e .none s.heap) (k : ∀ h', FlyZ φ base outer e .none h' → s.heap.UpToSlots h' → Q () { s with heap := h' }) : wpAny M A (leaving env (.ref e)) Q E s := by
  unfold leaving
  refine wpAny_bind (note_on hfr hf st f fun h1 f1 u1 => ?_)
  refine lands_Z (s := { s with heap := h1 }) f1 fun h2 f2 u2 => k h2 ?_ (u1.trans u2)
  obtain ⟨a, b, ⟨_, _, c⟩, d⟩ := f2
  exact ⟨a, b, c, d⟩
/-- an exception just made -/
theorem leaves_newZ {outer : List Env} {oe : Obj} {vs : Array Value} (hfr : A.frames = some (env :: outer)) (hf : env.frame = some L) (st : Stab φ) (hkb : base.StaysIn s.heap) (hen : base.get? e = none) (hl : s.heap.FunFrames base (env :: outer)) (g1 : s.heap.get? e = some oe) (p : φ oe) (g2 : oe.data = .fields vs) (g3 : vs[1]? = some .none)
    (k : ∀ h', FlyZ φ base outer e .none h' → s.heap.UpToSlots h' → Q () { s with heap := h' }) : wpAny M A (leaving env (.ref e)) Q E s := by
  unfold leaving noteFrame
  simp only [hf]
  refine wpAny_bind (wpAny_bind (wpAny_field g1 g2 g3 ?_))
  rw [if_neg (by decide)]
  refine entry_on (φ := φ) (base := base) hfr hl hf g1 st p hkb hen g2 (Array.getElem?_eq_some_iff.mp g3).1 fun h1 x1 => ?_
  refine mark_off (s := { s with heap := h1 }) x1.stay x1.frs x1.tr fun h2 x2 => k h2 ⟨x2.stay, hen, x2.frs.2.2, x2.tr⟩ (x1.up.trans x2.up)
end
end L2

/-! OWN RULES: exceptions that fly through defs, raised and caught. -/
namespace L2
open PySem PySem.Spec PyProof.Rows
theorem ObjOk.there {P : Program} {w : World} {H : Hp} {h : Heap} {a : Addr} {o : HO} (x : ObjOk P w H h a o) : ∃ u, h.get? a = some u := by
  cases o with
  | lst xs => obtain ⟨_, _, _, _, e⟩ := x; exact ⟨_, e⟩
  | tup xs => obtain ⟨_, _, _, ob, e, _⟩ := x; exact ⟨_, e⟩
  | dK kvs => obtain ⟨_, _, _, _, o, _, _, e, _⟩ := x; exact ⟨_, e⟩
  | dT kvs => obtain ⟨_, _, _, _, o, _, _, e, _⟩ := x; exact ⟨_, e⟩
  | set S n => obtain ⟨o, _, _, _, e, _⟩ := x; exact ⟨_, e⟩
  | ins C dx fs => obtain ⟨_, _, _, e, _⟩ := x; exact ⟨_, e⟩
  | own y => exact x
  | xd fs => obtain ⟨_, ⟨_, _, _, e, _⟩, _⟩ := x; exact ⟨_, e⟩
  | rng lo hi => obtain ⟨_, _, _, e⟩ := x; exact ⟨_, e⟩
  | frz ob u => obtain ⟨e, _⟩ := x; exact ⟨_, e⟩
  | tbl ps => exact ⟨_, (show h.get? a = some _ from x)⟩
  | met f y => exact ⟨_, (show h.get? a = some _ from x)⟩
  | ext φ => obtain ⟨_, e, _⟩ := x; exact e

/-! ### in flight -/
/-- the exception at a flies over the frames l: B holds all that stood ahead of it but the frames -/
def exF (cls : Value) : Option Addr → Obj → Prop
  | none, o => o.cls = cls ∧ ∃ vs, o.data = .fields vs ∧ vs[2]? = some .none
  | some d, o => o.cls = cls ∧ (∃ vs, o.data = .fields vs) ∧ (d = 0 ∨ o.dict = some d)
theorem exF.cl {cls : Value} {dct : Option Addr} {o : Obj} (h : exF cls dct o) : o.cls = cls ∧ ∃ vs, o.data = .fields vs := by
  cases dct with
  | none => exact ⟨h.1, h.2.choose, h.2.choose_spec.1⟩
  | some d => exact ⟨h.1, h.2.1⟩
theorem dict_mapF (f : Array Value → Array Value) (o : Obj) : (Obj.mapFields f o).dict = o.dict := by
  unfold Obj.mapFields
  split <;> rfl
theorem exF.stab (cls : Value) (dct : Option Addr) : Stab (exF cls dct) := fun o v h => by
  cases dct with
  | none =>
    obtain ⟨h1, vs, h2, h3⟩ := h
    exact ⟨(Obj.cls_mapFields _ _).trans h1, _, Obj.data_mapFields h2 _, by rw [Array.getElem?_setIfInBounds_ne (by decide)]; exact h3⟩
  | some d =>
    obtain ⟨h1, ⟨vs, h2⟩, h3⟩ := h
    exact ⟨(Obj.cls_mapFields _ _).trans h1, ⟨_, Obj.data_mapFields h2 _⟩, by rw [dict_mapF]; exact h3⟩
structure Fly (l : List Env) (H' : Hp) (h₀ h' : Heap) (a : Addr) (cls : Value) (dct : Option Addr) : Prop where
  ex : ∃ (B : Heap), FlyZ (exF cls dct) B l a .none h' ∧ (∀ b o, H' b = some o → ∃ u, B.get? b = some u) ∧ ∀ b u, h₀.get? b = some u → b ∉ frs l → ∃ u', B.get? b = some u'
/-- how an exception lies behind a call -/
def CXF (P : Program) (w : World) : CXT := fun outer H s E e s' => ∃ (a : Addr) (cls : Value) (H' : Hp), e = .ref a ∧ s'.os = s.os ∧ AllBare s'.gens ∧ Un (frs outer) [] H H' s.heap s'.heap ∧ HOk P w H' s'.heap ∧
  ∃ dct, Fly outer H' s.heap s'.heap a cls dct ∧ E cls dct H'

section
variable {P : Program} {w : World} {l : List Env} {H H' : Hp} {h0 h1 h2 B : Heap}
theorem fly_un (un : Un (frs l) [] H H' h0 h1) (hok : HOk P w H' h1) (b1 : B.StaysIn h1) (b2 : B.StaysIn h2) (ff : h1.FunFrames B l) (k1 : ∀ b o, H' b = some o → ∃ u, B.get? b = some u)
    (k2 : ∀ b u, h0.get? b = some u → b ∉ frs l → ∃ u', B.get? b = some u') (up : h1.UpToSlots h2) : Un (frs l) [] H H' h0 h2 ∧ HOk P w H' h2 := by
  have inB : ∀ b u, h1.get? b = some u → (∃ u', B.get? b = some u') → h2.get? b = some u := fun b u e ⟨u', e'⟩ => by
    have := b1 b u' e'
    rw [e] at this
    rw [Option.some.inj this]
    exact b2 b u' e'
  have fr : ∀ b u, b ∈ frs l → h1.get? b = some u → ∃ sl, h2.get? b = some { u with slots := sl } := fun b u hb e => by
    obtain ⟨_, o', ho', hd⟩ := ff.mem hb
    rw [e] at ho'
    cases ho'
    exact up b u e hd
  have nx : ∀ b : Addr, b ∉ ([] : List Addr) := fun b z => nomatch z
  refine ⟨⟨fun b o e n hb hx => inB b o (un.keep b o e n hb hx) (k2 b o e hb), fun b o e n hb hx => ?_, un.free, fun b o e hx => ?_, un.tups, un.frzs, un.tbls⟩, fun b o e => ?_⟩
  · obtain ⟨sl, e1⟩ := un.slot b o e n hb hx
    obtain ⟨sl', e2⟩ := fr b _ hb e1
    exact ⟨sl', e2⟩
  · obtain ⟨o', e1⟩ := un.there b o e hx
    by_cases hb : b ∈ frs l
    · obtain ⟨sl, e2⟩ := fr b o' hb e1
      exact ⟨_, e2⟩
    · exact ⟨o', inB b o' e1 (k2 b o e hb)⟩
  · refine (hok b o e).stay (fun c u hc q => inB c u q ?_) (fun _ q => q) fun _ _ q => q
    rcases hc with z | z
    · rw [z]; exact k1 b o e
    · exact k1 c _ z
end

section
variable {X : Cx} {pins : List (Addr × Obj)} {σ : St} {H : Hp} {s s' : Shared} {E : XK} {M : Model} {E2 : Value → Shared → Prop}
/-- out of a def's frame -/
theorem fly_out {a : Addr} {cls : Value} {dct : Option Addr} {B : Heap} (hex : X.ex = []) (f : FlyZ (exF cls dct) B X.outer a .none s.heap) (k1 : ∀ b o, H b = some o → ∃ u, B.get? b = some u)
    (k2 : ∀ b u, X.s₀.heap.get? b = some u → b ∉ frs X.stack → ∃ u', B.get? b = some u') (J : Inv X pins σ H s) (hE : E cls dct H) : CXF X.prog X.w X.outer X.H₀ X.s₀ E (.ref a) s := by
  have un : Un (frs X.outer) [] X.H₀ H X.s₀.heap s.heap := by
    have := J.base
    rw [hex] at this
    exact this
  refine ⟨a, cls, H, rfl, J.os, J.bare, un, J.hok, dct, ⟨B, f, k1, fun b u e hb => k2 b u e fun hm => ?_⟩, hE⟩
  rcases List.mem_cons.mp (J.stkSub b hm) with z | z
  · exact absurd (Nat.lt_of_lt_of_le (Heap.lt_size e) J.ok.above) (by rw [z]; exact Nat.lt_irrefl _)
  · exact hb z
/-- an exception just made leaves the frame -/
theorem leave_Z {h1 : Heap} {a : Addr} {cls : Value} {dct : Option Addr} {oe : Obj} {vs : Array Value} (I : Inv X pins σ H s) (hs : X.stack = X.env :: X.outer) (hf : X.env.frame = some X.env.locals) (hex : X.ex = []) (kp : ∀ b o, s.heap.get? b = some o → h1.get? b = some o) (na : s.heap.get? a = none) (g1 : h1.get? a = some oe) (p : exF cls dct oe) (g2 : oe.data = .fields vs) (g3 : vs[1]? = some .none) (hE : E cls dct H) :
    wpAny M X.A (leaving X.env (.ref a)) (fun _ s'' => CXF X.prog X.w X.outer X.H₀ X.s₀ E (.ref a) s'') E2 { s with heap := h1 } := by
  have st := I.stack
  have hin : ∀ env ∈ X.stack, ∀ b, env.frame = some b → b ∈ frs X.stack := fun env he b hb => List.mem_filterMap.mpr ⟨env, he, hb⟩
  have ff : s.heap.FunFrames (PySem.W.hideAll s.heap (frs X.stack)) X.stack := PySem.W.funFrames_hide st hin
  have k1 : ∀ b o, H b = some o → ∃ u, (PySem.W.hideAll s.heap (frs X.stack)).get? b = some u := fun b o e => by
    obtain ⟨u, hu⟩ := (I.hok b o e).there
    exact ⟨u, PySem.W.hideAll_get _ hu fun z => by rw [I.stkFree b z] at e; cases e⟩
  have k0 : ∀ b u, s.heap.get? b = some u → b ∉ frs X.stack → ∃ u', (PySem.W.hideAll s.heap (frs X.stack)).get? b = some u' := fun b u e hb => ⟨u, PySem.W.hideAll_get _ e hb⟩
  have b1 : (PySem.W.hideAll s.heap (frs X.stack)).StaysIn s.heap := fun b o q => PySem.W.of_hideAll _ q
  have fresh : ∀ b, s.heap.get? b = none → (PySem.W.hideAll s.heap (frs X.stack)).get? b = none := fun b hb => by
    cases hq : (PySem.W.hideAll s.heap (frs X.stack)).get? b with
    | none => rfl
    | some o' => have := b1 b o' hq; rw [hb] at this; cases this
  have ff' : s.heap.FunFrames (PySem.W.hideAll s.heap (frs X.stack)) (X.env :: X.outer) := by rw [← hs]; exact ff
  refine leaves_newZ (s := { s with heap := h1 }) (φ := exF cls dct) (base := PySem.W.hideAll s.heap (frs X.stack)) (L := X.env.locals) (outer := X.outer) (by rw [← hs]; exact I.ok.frames) hf (exF.stab _ _) (fun b o q => kp b o (b1 b o q)) (fresh a na)
    (ff'.of_keeps fun b o q _ => ⟨o, kp b o q, rfl⟩) g1 p g2 g3 fun h' x1 x4 => ?_
  obtain ⟨un, ok⟩ := fly_un (l := X.stack) (H := H) (h0 := s.heap) Un.refl I.hok b1 x1.stay ff k1 k0 ((Heap.UpToSlots.of_keeps kp).trans x4)
  have J : Inv X pins σ H { s with heap := h' } := I.call' (s' := { s with heap := h' }) (ch := []) rfl un ok I.bare fun _ z => nomatch z
  refine fly_out hex x1 k1 (fun b u e hb => ?_) J hE
  obtain ⟨u', e'⟩ := I.base.there b u e (by rw [hex]; simp)
  exact k0 b u' e' hb
/-- an exception just made leaves the frame -/
theorem leave_made {h1 : Heap} {a : Addr} {cls : Value} {vs : List Value} (I : Inv X pins σ H s) (hs : X.stack = X.env :: X.outer) (hf : X.env.frame = some X.env.locals) (hex : X.ex = []) (hx : Heap.MadeExcOf s.heap h1 a cls vs) (hE : E cls none H) :
    wpAny M X.A (leaving X.env (.ref a)) (fun _ s'' => CXF X.prog X.w X.outer X.H₀ X.s₀ E (.ref a) s'') E2 { s with heap := h1 } := by
  have st := I.stack
  have hin : ∀ env ∈ X.stack, ∀ b, env.frame = some b → b ∈ frs X.stack := fun env he b hb => List.mem_filterMap.mpr ⟨env, he, hb⟩
  have ff : s.heap.FunFrames (PySem.W.hideAll s.heap (frs X.stack)) X.stack := PySem.W.funFrames_hide st hin
  have k1 : ∀ b o, H b = some o → ∃ u, (PySem.W.hideAll s.heap (frs X.stack)).get? b = some u := fun b o e => by
    obtain ⟨u, hu⟩ := (I.hok b o e).there
    exact ⟨u, PySem.W.hideAll_get _ hu fun z => by rw [I.stkFree b z] at e; cases e⟩
  have k0 : ∀ b u, s.heap.get? b = some u → b ∉ frs X.stack → ∃ u', (PySem.W.hideAll s.heap (frs X.stack)).get? b = some u' := fun b u e hb => ⟨u, PySem.W.hideAll_get _ e hb⟩
  have b1 : (PySem.W.hideAll s.heap (frs X.stack)).StaysIn s.heap := fun b o q => PySem.W.of_hideAll _ q
  obtain ⟨t, he, htn, ht⟩ := hx.there
  have fresh : ∀ b, s.heap.get? b = none → (PySem.W.hideAll s.heap (frs X.stack)).get? b = none := fun b hb => by
    cases hq : (PySem.W.hideAll s.heap (frs X.stack)).get? b with
    | none => rfl
    | some o' => have := b1 b o' hq; rw [hb] at this; cases this
  have ff' : s.heap.FunFrames (PySem.W.hideAll s.heap (frs X.stack)) (X.env :: X.outer) := by rw [← hs]; exact ff
  refine leaves_newZ (s := { s with heap := h1 }) (φ := exF cls none) (base := PySem.W.hideAll s.heap (frs X.stack)) (L := X.env.locals) (outer := X.outer) (by rw [← hs]; exact I.ok.frames) hf (exF.stab _ _) (fun b o q => hx.keeps b o (b1 b o q)) (fresh a hx.new)
    (ff'.of_keeps fun b o q _ => ⟨o, hx.keeps b o q, rfl⟩) he ⟨rfl, _, rfl, rfl⟩ rfl rfl fun h' x1 x4 => ?_
  obtain ⟨un, ok⟩ := fly_un (l := X.stack) (H := H) (h0 := s.heap) Un.refl I.hok b1 x1.stay ff k1 k0 ((Heap.UpToSlots.of_keeps hx.keeps).trans x4)
  have J : Inv X pins σ H { s with heap := h' } := I.call' (s' := { s with heap := h' }) (ch := []) rfl un ok I.bare fun _ z => nomatch z
  refine fly_out hex x1 k1 (fun b u e hb => ?_) J hE
  obtain ⟨u', e'⟩ := I.base.there b u e (by rw [hex]; simp)
  exact k0 b u' e' hb
/-- an exception that stands in the heap already, untracked, leaves the frame -/
theorem leave_N {a : Addr} {cls : Value} {dct : Option Addr} {oe : Obj} {vs : Array Value} (I : Inv X pins σ H s) (hs : X.stack = X.env :: X.outer) (hf : X.env.frame = some X.env.locals) (hex : X.ex = []) (nH : H a = none) (n0 : X.s₀.heap.get? a = none) (g1 : s.heap.get? a = some oe) (p : exF cls dct oe) (g2 : oe.data = .fields vs) (g3 : vs[1]? = some .none) (hE : E cls dct H) :
    wpAny M X.A (leaving X.env (.ref a)) (fun _ s'' => CXF X.prog X.w X.outer X.H₀ X.s₀ E (.ref a) s'') E2 s := by
  have st := I.stack
  have hin : ∀ env ∈ X.stack, ∀ b, env.frame = some b → b ∈ a :: frs X.stack := fun env he b hb => List.mem_cons_of_mem _ (List.mem_filterMap.mpr ⟨env, he, hb⟩)
  have ff : s.heap.FunFrames (PySem.W.hideAll s.heap (a :: frs X.stack)) X.stack := PySem.W.funFrames_hide st hin
  have k1 : ∀ b o, H b = some o → ∃ u, (PySem.W.hideAll s.heap (a :: frs X.stack)).get? b = some u := fun b o e => by
    obtain ⟨u, hu⟩ := (I.hok b o e).there
    refine ⟨u, PySem.W.hideAll_get _ hu fun z => ?_⟩
    rcases List.mem_cons.mp z with z | z
    · rw [z, nH] at e; cases e
    · rw [I.stkFree b z] at e; cases e
  have k0 : ∀ b u, s.heap.get? b = some u → b ≠ a → b ∉ frs X.stack → ∃ u', (PySem.W.hideAll s.heap (a :: frs X.stack)).get? b = some u' := fun b u e hb hc => ⟨u, PySem.W.hideAll_get _ e fun z => (List.mem_cons.mp z).elim hb hc⟩
  have b1 : (PySem.W.hideAll s.heap (a :: frs X.stack)).StaysIn s.heap := fun b o q => PySem.W.of_hideAll _ q
  have ff' : s.heap.FunFrames (PySem.W.hideAll s.heap (a :: frs X.stack)) (X.env :: X.outer) := by rw [← hs]; exact ff
  have na : (PySem.W.hideAll s.heap (a :: frs X.stack)).get? a = none := PySem.W.hideAll_none _ List.mem_cons_self
  refine leaves_newZ (φ := exF cls dct) (base := PySem.W.hideAll s.heap (a :: frs X.stack)) (L := X.env.locals) (outer := X.outer) (by rw [← hs]; exact I.ok.frames) hf (exF.stab _ _) b1 na ff' g1 p g2 g3 fun h' x1 x4 => ?_
  have n1 : ∀ b u, X.s₀.heap.get? b = some u → b ≠ a := fun b u e z => by rw [z, n0] at e; cases e
  have inB : ∀ b u, s.heap.get? b = some u → b ≠ a → b ∉ frs X.stack → h'.get? b = some u := fun b u e hb hc => x1.stay b u (PySem.W.hideAll_get _ e fun z => (List.mem_cons.mp z).elim hb hc)
  have fr : ∀ b u, b ∈ frs X.stack → s.heap.get? b = some u → ∃ sl, h'.get? b = some { u with slots := sl } := fun b u hb e => by
    obtain ⟨_, o', ho', hd⟩ := ff.mem hb
    rw [e] at ho'
    cases ho'
    exact x4 b u e hd
  have B0 := I.base
  rw [hex] at B0
  have nfr : ∀ b u, X.s₀.heap.get? b = some u → b ∉ frs X.outer → b ∉ frs X.stack := fun b u e hb hm => by
    rcases List.mem_cons.mp (I.stkSub b hm) with z | z
    · exact absurd (Nat.lt_of_lt_of_le (Heap.lt_size e) I.ok.above) (by rw [z]; exact Nat.lt_irrefl _)
    · exact hb z
  have frO : ∀ b, b ∈ frs X.outer → b ∈ frs X.stack := fun b hb => by rw [hs]; unfold frs at hb ⊢; rw [List.filterMap_cons, hf]; exact List.mem_cons_of_mem _ hb
  have ok' : HOk X.prog X.w H h' := fun b o e => by
    refine (I.hok b o e).stay (fun c u hc q => ?_) (fun _ q => q) fun _ _ q => q
    have tr : ∀ c o, H c = some o → c ≠ a ∧ c ∉ frs X.stack := fun c o e => ⟨fun z => (by rw [z, nH] at e; cases e), fun z => (by rw [I.stkFree c z] at e; cases e)⟩
    rcases hc with z | z
    · rw [z] at q ⊢
      exact inB b u q (tr b o e).1 (tr b o e).2
    · exact inB c u q (tr c _ z).1 (tr c _ z).2
  have un : Un (frs X.outer) [] X.H₀ H X.s₀.heap h' := by
    refine ⟨fun b o e n hb hx => inB b o (B0.keep b o e n hb hx) (n1 b o e) (nfr b o e hb), fun b o e n hb hx => ?_, B0.free, fun b o e hx => ?_, B0.tups, B0.frzs, B0.tbls⟩
    · obtain ⟨sl, e1⟩ := B0.slot b o e n hb hx
      obtain ⟨sl', e2⟩ := fr b _ (frO b hb) e1
      exact ⟨sl', e2⟩
    · obtain ⟨o', e1⟩ := B0.there b o e hx
      by_cases hb : b ∈ frs X.stack
      · obtain ⟨sl, e2⟩ := fr b o' hb e1
        exact ⟨_, e2⟩
      · exact ⟨o', inB b o' e1 (n1 b o e) hb⟩
  refine ⟨a, cls, H, rfl, I.os, I.bare, un, ok', dct, ⟨_, x1, k1, fun b u e hb => ?_⟩, hE⟩
  obtain ⟨u', e'⟩ := B0.there b u e (by simp)
  exact k0 b u' e' (n1 b u e) (nfr b u e hb)
/-- an exception of a callee leaves the frame -/
theorem leave_on {e : Value} (I : Inv X pins σ H s) (hs : X.stack = X.env :: X.outer) (hf : X.env.frame = some X.env.locals) (hex : X.ex = []) (q : CXF X.prog X.w X.stack H s E e s') :
    wpAny M X.A (leaving X.env e) (fun _ s'' => CXF X.prog X.w X.outer X.H₀ X.s₀ E e s'') E2 s' := by
  obtain ⟨a, cls, H', rfl, os, bare, un, hok, dct, ⟨B, f, k1, k2⟩, hE⟩ := q
  refine leaves_Z (φ := exF cls dct) (base := B) (L := X.env.locals) (outer := X.outer) (by rw [← hs]; exact I.ok.frames) hf (exF.stab _ _) (by rw [← hs]; exact f) fun h' x1 x2 => ?_
  obtain ⟨un2, ok2⟩ := fly_un (h2 := h') un hok f.stay x1.stay f.frs k1 k2 x2
  have I' : Inv X pins σ H' s' := I.call' (ch := []) os un hok bare fun _ z => nomatch z
  have J : Inv X pins σ H' { s' with heap := h' } := I.call' (s' := { s' with heap := h' }) (ch := []) os un2 ok2 bare fun _ z => nomatch z
  refine fly_out hex x1 k1 (fun b u e hb => ?_) J hE
  obtain ⟨u', e'⟩ := I.base.there b u e (by rw [hex]; simp)
  exact k2 b u' e' hb
end

/-! ### defs that may raise -/
/-- what a body wants of exceptions: those of callees, those that it makes -/
structure Wants (X : Cx) (E : XK) : Prop where
  on : Passes (CXF X.prog X.w) X E
  made : ∀ (pins : List (Addr × Obj)) (σ : St) (H : Hp) (s : Shared) (h1 : Heap) (a : Addr) (cls : Value) (vs : List Value), Inv X pins σ H s → Heap.MadeExcOf s.heap h1 a cls vs → E cls none H → X.xe (.ref a) { s with heap := h1 }
  own : PassesOwn (model X.prog X.w) X.A X.env X.xe
  ownAt : ∀ v, PassesOwnAt (model X.prog X.w) (X.A.mark v) X.A X.env X.xe
  madeZ : ∀ (pins : List (Addr × Obj)) (σ : St) (H : Hp) (s : Shared) (h1 : Heap) (a : Addr) (cls : Value) (dct : Option Addr) (oe : Obj) (vs : Array Value), Inv X pins σ H s → (∀ b o, s.heap.get? b = some o → h1.get? b = some o) → s.heap.get? a = none → h1.get? a = some oe → exF cls dct oe → oe.data = .fields vs → vs[1]? = some .none → E cls dct H → X.xe (.ref a) { s with heap := h1 }
  madeN : ∀ (pins : List (Addr × Obj)) (σ : St) (H : Hp) (s : Shared) (a : Addr) (cls : Value) (dct : Option Addr) (oe : Obj) (vs : Array Value), Inv X pins σ H s → H a = none → X.s₀.heap.get? a = none → s.heap.get? a = some oe → exF cls dct oe → oe.data = .fields vs → vs[1]? = some .none → E cls dct H → X.xe (.ref a) s
section
variable {P : Program} {w : World} {K : PySem.W.Frag} {mg : Str → Option Value} {base : Heap}
theorem wants_def {N : List Str} {qual : Str} {scope : Scope} {f : Addr} {cd : Value} {A : Around} {outer : List Env} {s : Shared} {H : Hp} {E : XK} : Wants (cxOf (CXF P w) P w K mg base N qual scope f cd A outer s H E) E where
  on := fun pins σ H' s' e s'' I q => leave_on I rfl rfl rfl q
  made := fun pins σ H' s' h1 a cls vs I hx hE => leave_made I rfl rfl rfl hx hE
  own := PassesOwn.leaving
  ownAt := fun _ => PassesOwnAt.leaving
  madeZ := fun pins σ H' s' h1 a cls dct oe vs I kp na g1 p g2 g3 hE => leave_Z I rfl rfl rfl kp na g1 p g2 g3 hE
  madeN := fun pins σ H' s' a cls dct oe vs I nH n0 g1 p g2 g3 hE => leave_N I rfl rfl rfl nH n0 g1 p g2 g3 hE
/-- THE RULE for a def that may raise -/
theorem Fun.okX {x qual : Str} {st : Stmt} {f : Addr} {fd : FuncData} {N ps : List Str} {k : Nat} {sp : Sp} (F : Fun K x qual st f fd) (S : FnScope N ps (defScope st)) (len : ∀ vs H Q E, sp vs H Q E → vs.length = ps.length)
    (hbody : ∀ (cdv : Value) (A : Around) (outer : List Env) (s : Shared) (H : Hp) (vs : List V) (Q : VK) (E : XK), Room k (A.deeper (envOfC qual (defScope st) s.heap.objs.size f cdv)) → Wants (cxOf (CXF P w) P w K mg base N qual (defScope st) f cdv A outer s H E) E → sp vs H Q E →
      ∃ t, PSs (cxOf (CXF P w) P w K mg base N qual (defScope st) f cdv A outer s H E) (defBody st) t ∧ t { nx := fun _ H' => Q .non H', rt := Q } (start N vs) H) : FnOk P w K mg base (CXF P w) (k + 1) f fd ps sp := by
  obtain ⟨oc, od, kV, doc, pm, an, cdv, ct, osl, rfl, lk, hcd⟩ := F.ex
  exact fn_of lk hcd S len fun A outer s H vs Q E hr hsp => hbody cdv A outer s H vs Q E hr wants_def hsp
end
structure CanX (P : Program) (w : World) (K : PySem.W.Frag) (mg : Str → Option Value) (base : Heap) (k : Nat) (x : Str) (ps : List Str) (sp : Sp) : Prop where
  ex : ∃ (f : Addr) (fd : FuncData), FnOk P w K mg base (CXF P w) k f fd ps sp ∧ mg x = some (.ref f) ∧ PySem.W.keepIn K (.ref f) = true ∧ Binds K fd ps []
section
variable {P : Program} {w : World} {K : PySem.W.Frag} {mg : Str → Option Value} {base : Heap} {j k : Nat} {x m : Str} {ps : List Str} {sp sp' : Sp} {C : Addr}
end
section
variable {X : Cx} {k : Nat} {x m : Str} {ps : List Str} {sp : Sp} {C : Addr} {p pos apos : Pos} {e o : Expr} {es : List Expr} {ta : TE} {t : TA} {E : XK}
theorem pe_callX (c : CanX X.prog X.w X.K X.mg X.base k x ps sp) (W : Wants X E) (hr : Room k X.A) (hg : Gl X x) (ha : PA X (e :: es) t) (hdb : (x == ("__debug__" : Str)) = false := by decide)
    (he : starEach (e :: es) X.env = (false, eval e X.env) :: starEach es X.env := by rfl) (hpl : (backTo pos (starEach es X.env)).any (·.1) = false := by rfl) :
    PE X (.Call (.Name x p) (e :: es) [] pos) (tCall sp [] E t) := by
  obtain ⟨f, fd, F, hm, hk, hb⟩ := c.ex
  exact pe_call F hr hg hm hk hb .nil W.on ha hdb he hpl
end

/-! ### texts put together: f'..' -/
section
variable {X : Cx}
def PJ (X : Cx) (es : List Expr) (t : St → Hp → (Str → Hp → Prop) → Prop) : Prop :=
  ∀ (out : Str) (pins : List (Addr × Obj)) (s : Shared) (σ : St) (H : Hp) (Q : VK), out.length + 100000 * es.length ≤ sizeLine → Inv X pins σ H s → t σ H (fun y H1 => Q (.str (out ++ y)) H1) →
    wpAny (model X.prog X.w) X.A (joinParts out (evalEach es X.env)) (EP X pins σ Q) X.xe s
def tJNil : St → Hp → (Str → Hp → Prop) → Prop := fun _ H R => R Str.empty H
def tJCons (te : TE) (t : St → Hp → (Str → Hp → Prop) → Prop) : St → Hp → (Str → Hp → Prop) → Prop := fun σ H R => te σ H fun v H1 => ∃ y, v = .str y ∧ y.length ≤ 100000 ∧ t σ H1 fun z H2 => R (y ++ z) H2
theorem str_ext {x y : Str} (h : x.cps.toList = y.cps.toList) : x = y := by
  obtain ⟨a⟩ := x
  obtain ⟨b⟩ := y
  exact congrArg Str.mk (Array.toList_inj.mp h)
theorem cps_app (x y : Str) : (x ++ y).cps.toList = x.cps.toList ++ y.cps.toList := Array.toList_append
theorem str_app_assoc (x y z : Str) : x ++ y ++ z = x ++ (y ++ z) := str_ext (by rw [cps_app, cps_app, cps_app, cps_app, List.append_assoc])
theorem str_app_nil (x : Str) : x ++ Str.empty = x := str_ext (by rw [cps_app]; exact List.append_nil _)
theorem str_nil_app (x : Str) : Str.empty ++ x = x := str_ext (by rw [cps_app]; exact List.nil_append _)
theorem str_len_app (x y : Str) : (x ++ y).length = x.length + y.length := Array.size_append
theorem pj_nil : PJ X [] tJNil := fun out pins s σ H Q hz I h => by
  have h' : Q (.str out) H := by have z : Q (.str (out ++ Str.empty)) H := h; rw [str_app_nil] at z; exact z
  exact joinParts_nil ⟨.str out, H, I.tok _, ⟨_, rfl⟩, h'⟩ (by simp only [List.length_nil] at hz; omega)
theorem pj_cons {e : Expr} {es : List Expr} {te : TE} {t : St → Hp → (Str → Hp → Prop) → Prop} (he : PE X e te) (hr : PJ X es t) : PJ X (e :: es) (tJCons te t) := fun out pins s σ H Q hz I h => by
  have ee : evalEach (e :: es) X.env = eval e X.env :: evalEach es X.env := rfl
  rw [ee]
  refine joinParts_cons (thn (he pins s σ H _ I h) fun v s1 ⟨x, H1, I1, r1, y, ey, hy, q⟩ => ?_)
  subst ey
  obtain ⟨t0, rfl⟩ := r1
  rw [List.length_cons] at hz
  have hl := str_len_app out y
  refine ⟨by omega, hr (out ++ y) pins s1 σ H1 Q (by omega) I1 ?_⟩
  simp only [str_app_assoc]
  exact q
def tJ (t : St → Hp → (Str → Hp → Prop) → Prop) : TE := fun σ H Q => t σ H fun y H1 => Q (.str y) H1
theorem pe_join {e1 e2 : Expr} {es : List Expr} {t : St → Hp → (Str → Hp → Prop) → Prop} {pos : Pos} (h : PJ X (e1 :: e2 :: es) t) (hn : es.length ≤ 100) : PE X (.JoinedStr (e1 :: e2 :: es) pos) (tJ t) := fun pins s σ H Q I q => by
  refine JoinedStr_many (h Str.empty pins s σ H Q ?_ I ?_)
  · show 0 + 100000 * (es.length + 1 + 1) ≤ 2 ^ 24
    omega
  · simp only [str_nil_app]
    exact q
/-- {x!r} of a text or a number: some text -/
def tRep (tv : TE) : TE := fun σ H Q => tv σ H fun v H1 => (∃ y, v = .str y ∧ (reprText y).length ≤ sizeLine ∧ Q (.str (reprText y)) H1) ∨ ∃ i : Int, v = .int i ∧ i.natAbs.log2 < 1920 ∧ (Str.ofString (toString i)).length ≤ sizeLine ∧ Q (.str (toString i : String)) H1
theorem pe_rep {e : Expr} {tv : TE} {pos : Pos} (he : PE X e tv) : PE X (.FormattedValue e 114 none pos) (tRep tv) := fun pins s σ H Q I h => by
  refine wpAny_FormattedValue_repr (thn (he pins s σ H _ I h) fun v s1 ⟨x, H1, I1, r1, q⟩ => ?_)
  rcases q with ⟨y, rfl, hy, q⟩ | ⟨i, rfl, hi, hz, q⟩
  · obtain ⟨t0, rfl⟩ := r1
    refine pyReprObj_str ?_ hy
    exact formatField_str (s := { s1 with toks := s1.toks + 1 }) (fun t' tk => ⟨.str _, H1, I1.tok tk, ⟨_, rfl⟩, q⟩) hy
  · obtain ⟨t0, rfl⟩ := r1
    refine pyReprObj_int hi ?_
    exact formatField_str (s := { s1 with toks := s1.toks + 1 }) (fun t' tk => ⟨.str _, H1, I1.tok tk, ⟨_, rfl⟩, q⟩) hz
end
end L2

namespace L2
open PySem
/-! ### a callee that may raise, where it does not -/
section
variable {X : Cx} {k : Nat} {x m : Str} {ps : List Str} {sp : Sp} {C : Addr} {p pos apos : Pos} {e o : Expr} {es : List Expr} {ta : TE} {t : TA}
end
end L2

namespace L2
open PySem PySem.Spec PyProof.Rows
/-! ### raise C(..) of an own class -/
/-! ### a call whose exception is caught here -/
/-- a callee's exception, arrived in X -/
def XA (X : Cx) (pins : List (Addr × Obj)) (σ : St) (E : XK) (ex : Value) (s' : Shared) : Prop := ∃ H1 s1, Inv X pins σ H1 s1 ∧ CXF X.prog X.w X.stack H1 s1 E ex s'
def PEX (X : Cx) (e : Expr) (t : XK → TE) : Prop :=
  ∀ (pins : List (Addr × Obj)) (s : Shared) (σ : St) (H : Hp) (Q : VK) (E : XK), Inv X pins σ H s → t E σ H Q → wpAny (model X.prog X.w) X.A (eval e X.env) (EP X pins σ Q) (XA X pins σ E) s
def PSX (X : Cx) (st : Stmt) (t : XK → TS) : Prop :=
  ∀ (pins : List (Addr × Obj)) (s : Shared) (σ : St) (H : Hp) (D : Ends) (E : XK), Inv X pins σ H s → t E D σ H → wpAny (model X.prog X.w) X.A (exec st X.env) (SP X pins D) (XA X pins σ E) s
section
variable {X : Cx} {k : Nat} {x : Str} {ps : List Str} {sp : Sp} {p pos : Pos} {e : Expr} {es : List Expr} {t : TA}
theorem pex_call (c : CanX X.prog X.w X.K X.mg X.base k x ps sp) (hr : Room k X.A) (hg : Gl X x) (ha : PA X.nox (e :: es) t) (hdb : (x == ("__debug__" : Str)) = false := by decide)
    (he : starEach (e :: es) X.env = (false, eval e X.env) :: starEach es X.env := by rfl) (hpl : (backTo pos (starEach es X.env)).any (·.1) = false := by rfl) :
    PEX X (.Call (.Name x p) (e :: es) [] pos) (fun E => tCall sp [] E t) := by
  obtain ⟨f, fd, F, hm, hk, hb⟩ := c.ex
  intro pins s σ H Q E I h
  refine wpAny_Call_Name_kw (ld_glob I hg hm ?_ hdb)
  refine PySem.W.callWith_K (h₀ := X.base) I.ok.mod.kin hk (wpAny_mono (ha pos pins s σ H _ (I.wish _) h) (fun us s1 ⟨vs, H1, I1', r, q⟩ => ⟨I1'.unwish.kIn, ?_⟩) fun _ _ z => False.elim z) he hpl
  have I1 := I1'.unwish
  have r2 : Vals (vs ++ []) (us ++ []) := r.append .nil
  have hl : (us ++ []).length = ps.length := by rw [← r2.length]; exact F.len _ _ _ _ q
  refine wpAny_call (codeAny_mono (F.run X.A X.stack s1 H1 ⟨us, []⟩ (us ++ []) (vs ++ []) Q E hr I1.env0 (hb s1 us I1.kIn hl) r2 q) fun r s' hq => ?_)
  cases r with
  | error ex => exact ⟨H1, s1, I1, hq⟩
  | ok fl =>
    cases fl with
    | ret u => exact I1.after hq
    | next => exact False.elim hq
    | brk => exact False.elim hq
    | cont => exact False.elim hq
theorem psx_set {i : Nat} {te : XK → TE} {pos' : Pos} (hN : X.N.Nodup) (hi : X.N[i]? = some x) (hx : Loc X.env.scope x) (he : PEX X e te) (hs : swapsWith e (some (.Name x pos')) pos.line X.env = pure false := by rfl) (hf : X.fn x = true ∨ X.env.scope.names.lookup x = some .local := by first | exact .inl rfl | exact .inr rfl | assumption) :
    PSX X (.Assign [.Name x pos'] e pos) (fun E => tAsg (te E) (gName i)) := by
  intro pins s σ H D E I h
  refine wpAny_Assign_Name (thn (he pins s σ H _ E I h) fun v s1 ⟨y, H1, I1, r1, q1⟩ => ?_) hs
  exact store_ok I1 hN hi hx r1 (fun s2 I2 => ⟨_, H1, I2, q1⟩) hf
end

/-! ### an exception that is held -/
def excO (a : Addr) (cls : Value) (dct : Option Addr) : HO := .ext fun h => ∃ ob vs, h.get? a = some ob ∧ ob.cls = cls ∧ ob.data = .fields vs ∧ ∀ d, dct = some d → d = 0 ∨ ob.dict = some d
/-- within an except suite -/
def Cx.mark (X : Cx) (v : Value) : Cx := { X with A := X.A.mark (some v), calm := false, xe := fun _ _ => False }
theorem Cx.Ok.mark {X : Cx} (ok : X.Ok) (v : Value) : (X.mark v).Ok :=
  ⟨ok.mod, ok.kind, ok.glob, ok.blt, ok.above, ok.inj, ok.has, ok.cab, (fun h => nomatch h), ok.frames, ok.stk, ok.exf, ok.bs, ok.bsz, ok.noex, ok.exfs, ok.funs, ok.frf⟩
theorem Cx.Ok.unmark {X : Cx} {v : Value} (ok : (X.mark v).Ok) (hd : X.calm = true → X.A.handled = none) : X.Ok :=
  ⟨ok.mod, ok.kind, ok.glob, ok.blt, ok.above, ok.inj, ok.has, ok.cab, hd, ok.frames, ok.stk, ok.exf, ok.bs, ok.bsz, ok.noex, ok.exfs, ok.funs, ok.frf⟩
section
variable {X : Cx} {pins : List (Addr × Obj)} {σ : St} {H : Hp} {s : Shared} {v : Value}
theorem Inv.mark (I : Inv X pins σ H s) (v : Value) : Inv (X.mark v) pins σ H s := ⟨I.ok.mark v, I.os, I.bare, I.base, I.loc, I.cell, I.free, I.freeC, I.pin, I.hok, I.len⟩
theorem Inv.unmark (I : Inv (X.mark v) pins σ H s) (hd : X.calm = true → X.A.handled = none) : Inv X pins σ H s := ⟨I.ok.unmark hd, I.os, I.bare, I.base, I.loc, I.cell, I.free, I.freeC, I.pin, I.hok, I.len⟩
/-- a local name goes -/
theorem goes_ok {M : Model} {A : Around} {E : Value → Shared → Prop} {i : Nat} {x : Str} {pos : Pos} {Q : Unit → Shared → Prop} (I : Inv X pins σ H s) (hN : X.N.Nodup) (hi : X.N[i]? = some x) (hk : X.env.scope.names.lookup x = some .local)
    (h : ∀ s', Inv X pins (σ.set i none) H s' → Q () s') : wpAny M A (do bindName X.env x .none; unbindBehindTheSuite X.env x pos) Q E s := by
  obtain ⟨m, hn, hl⟩ := id I.loc
  have hp : (X.env.scope.kind == .class || (X.env.scope.kind == .module && X.env.locals != X.env.globals)) = false := by rw [I.ok.kind]; rfl
  refine wpAny_nameGoes_keeps hk hn hp fun h' v' hn' hs => h _ ?_
  obtain ⟨oL, _, _, hoL, _⟩ := id hn
  have lo : ∀ b o, X.s₀.heap.get? b = some o → b ≠ X.env.locals := fun b o e => Nat.ne_of_lt (Nat.lt_of_lt_of_le (Heap.lt_size e) I.ok.above)
  have kp : ∀ b o, b ≠ X.env.locals → s.heap.get? b = some o → h'.get? b = some o := fun b o hb e => (hs.2 b hb).trans e
  refine ⟨I.ok, I.os, I.bare, ⟨fun b o e n hb hx => kp b o (lo b o e) (I.base.keep b o e n hb hx), fun b o e n hb hx => ?_, I.base.free, fun b o e hx => ?_, I.base.tups, I.base.frzs, I.base.tbls⟩, ⟨_, hn', fun j y w' e1 e2 e3 => ?_⟩, fun y c e => ?_, I.free, I.freeC, fun p hp' => ?_, fun b ob e => ?_, by simpa using I.len⟩
  · obtain ⟨sl, e1⟩ := I.base.slot b o e n hb hx
    exact ⟨sl, kp b _ (lo b o e) e1⟩
  · obtain ⟨o', e1⟩ := I.base.there b o e hx
    exact ⟨o', kp b _ (lo b o e) e1⟩
  · by_cases hj : j = i
    · subst hj
      rw [List.getElem?_set_self (by rw [I.len]; exact (List.getElem?_eq_some_iff.mp hi).1)] at e2
      cases e2
    · rw [List.getElem?_set_ne (Ne.symm hj)] at e2
      obtain ⟨u', r', q⟩ := hl j y w' e1 e2 e3
      have ny : y ≠ x := fun z => hj (nodup_ix hN e1 (z ▸ hi))
      refine ⟨u', r', ?_⟩
      rcases q with ⟨k, e⟩ | ⟨k, c, e, z⟩
      · exact .inl ⟨k, by simp [ny, e]⟩
      · exact .inr ⟨k, c, e, z.sameBut hs (I.cne y c e)⟩
  · obtain ⟨w', z⟩ := I.cell y c e
    exact ⟨w', z.sameBut hs (I.cne y c e)⟩
  · obtain ⟨e, n, ne, nf, d⟩ := I.pin p hp'
    exact ⟨kp _ _ ne e, n, ne, nf, d⟩
  · refine (I.hok b ob e).stay (fun c u hc z => kp c u ?_ z) (fun _ z => z) fun _ _ z => z
    intro hL
    rcases hc with hc | hc
    · have z2 := I.free
      rw [← hL, hc, e] at z2
      cases z2
    · rw [hL, I.free] at hc
      cases hc
end

/-- the exception's object is tracked from now on -/
theorem held_un {P : Program} {w : World} {fs : List Addr} {H H' : Hp} {h0 h2 : Heap} {a : Addr} {o : HO} (un : Un fs [] H H' h0 h2) (hok : HOk P w H' h2) (na : h0.get? a = none) (nH : H' a = none) (new : ObjOk P w (upd H' a o) h2 a o) :
    Un fs [] H (upd H' a o) h0 h2 ∧ HOk P w (upd H' a o) h2 := by
  refine ⟨⟨un.keep, un.slot, fun b ob e n hx => ?_, un.there, fun b xs e => ?_, fun b ob u e => ?_, fun b qs e => ?_⟩, fun b u e => ?_⟩
  · rw [upd_ne (fun z => by rw [z, na] at e; cases e)]
    exact un.free b ob e n hx
  · have z := un.tups b xs e
    rw [upd_ne (ne_of_none z nH)]
    exact z
  · have z := un.frzs b ob u e
    rw [upd_ne (ne_of_none z nH)]
    exact z
  · obtain ⟨more, z⟩ := un.tbls b qs e
    exact ⟨more, by rw [upd_ne (ne_of_none z nH)]; exact z⟩
  · by_cases hb : b = a
    · rw [hb, upd_same] at e
      rw [hb, ← Option.some.inj e]
      exact new
    · rw [upd_ne hb] at e
      exact (hok b u e).stay (fun c v _ q => q) (fun c q => by rw [upd_ne (ne_of_none q nH)]; exact q) fun c xs q => by rw [upd_ne (ne_of_none q nH)]; exact q

def tTryAs (K : PySem.W.Frag) (Dc : Value) (i : Nat) (tb : XK → TS) (ts : TS) : TS := fun D σ H =>
  tb (fun cls dct H' => PySem.W.exmOne K cls Dc = some true ∧ ∀ a, H' a = none → ts { nx := fun σ' H2 => D.nx (σ'.set i none) H2, rt := D.rt, bk := fun σ' H2 => D.bk (σ'.set i none) H2, ct := fun σ' H2 => D.ct (σ'.set i none) H2 } (σ.set i (some (.ref a))) (upd H' a (excO a cls dct))) D σ H
/-- try: st; except cx as n: suite -/
theorem ps_tryAs {X : Cx} {st b₀ : Stmt} {suite : List Stmt} {n cx : Str} {np hpos pos : Pos} {tb : XK → TS} {ts : TS} {i : Nat} {Dc : Addr} (hs : X.stack = X.env :: X.outer) (hf : X.env.frame = some X.env.locals)
    (hN : X.N.Nodup) (hi : X.N[i]? = some n) (hk : X.env.scope.names.lookup n = some .local) (hg : Gl X cx) (hm : X.mg cx = some (.ref Dc)) (hb : PSX X st tb) (hsu : ∀ v, PSs (X.mark v) (b₀ :: suite) ts) (hdb : (cx == ("__debug__" : Str)) = false := by decide) :
    PS X (.Try [st] [.ExceptHandler (some (.Name cx np)) (some n) (b₀ :: suite) hpos] [] [] pos) (tTryAs X.K (.ref Dc) i tb ts) := by
  intro pins s σ H D I h
  refine wpAny_Try_except (wpAny_execs_cons (wpAny_mono (hb pins s σ H D _ I h) (fun f s1 q => ?_) (fun ex s1 q => ?_)))
  · cases f with
    | next => exact wpAny_execs_nil (wpAny_execs_nil q)
    | ret v => exact q
    | brk => exact q
    | cont => exact q
  · obtain ⟨H1, s0, I1, a, cls, H', rfl, os, bare, un, hok, dct, ⟨B, f, k1, k2⟩, hE⟩ := q
    have f' : FlyZ (exF cls dct) B (X.env :: X.outer) a .none s1.heap := by rw [← hs]; exact f
    have fr : ∀ {h2 : Heap}, B.StaysIn h2 → s1.heap.UpToSlots h2 → Un (frs X.stack) [] H1 H' s0.heap h2 ∧ HOk X.prog X.w H' h2 := fun b2 up => fly_un un hok f.stay b2 f.frs k1 k2 up
    refine note_on (L := X.env.locals) (outer := X.outer) (by rw [← hs]; exact I.ok.frames) hf (exF.stab _ _) f' fun h4 x4 u4 => ?_
    refine lands_Z (s := { s1 with heap := h4 }) x4 fun h5 x5 u5 => ?_
    have J5 : Inv X pins σ H' { s1 with heap := h5 } := I1.call' (s' := { s1 with heap := h5 }) (ch := []) os (fr x5.stay (u4.trans u5)).1 (fr x5.stay (u4.trans u5)).2 bare fun _ z => nomatch z
    refine wpAny_handleBy_cons (codeAny_handlers_test ?_) (by intro q; cases q)
    refine ld_glob (X := X.mark (.ref a)) (J5.mark (.ref a)) hg hm ?_ hdb
    have LT : PySem.W.Looks (model X.prog X.w) h5 (typeOf (.ref a)) cls := by
      obtain ⟨ob, _, _, _, _, hob, pz, _⟩ := x5.tr
      have hc := pz.cl.1
      subst hc
      exact (PySem.W.Looks.ld hob).andThen .now
    refine PySem.W.Looks.here (s := { s1 with heap := h5 }) (PySem.W.exm_one J5.kIn LT hE.1) ?_
    show codeAny _ _ _ _ _
    refine codeAny_handlers_suite_as (lands_Z (s := { s1 with heap := h5 }) x5 fun h6 x6 u6 => ?_)
    obtain ⟨un6, ok6⟩ := fr x6.stay ((u4.trans u5).trans u6)
    obtain ⟨oe, _, ws, _, _, hoe, _, hoed, _⟩ := f.tr
    have na : s0.heap.get? a = none := by
      cases q : s0.heap.get? a with
      | none => rfl
      | some o =>
        exfalso
        by_cases hb' : a ∈ frs X.stack
        · obtain ⟨_, o', ho', hd'⟩ := f.frs.mem hb'
          rw [hoe] at ho'
          exact hd' _ ((congrArg Obj.data (Option.some.inj ho')).symm.trans hoed)
        · obtain ⟨u', e'⟩ := k2 a o q hb'
          rw [f.new] at e'
          cases e'
    have nH : H' a = none := by
      cases q : H' a with
      | none => rfl
      | some o =>
        obtain ⟨u, e⟩ := k1 a o q
        rw [f.new] at e
        cases e
    have new : ObjOk X.prog X.w (upd H' a (excO a cls dct)) h6 a (excO a cls dct) := by
      obtain ⟨oe6, _, ws6, _, _, h61, pz, h63, _⟩ := x6.tr
      exact ⟨⟨oe6, ws6, h61, pz.cl.1, h63, fun d hd => by subst hd; exact pz.2.2⟩, ⟨oe6, h61⟩, fun h1 h2 ⟨ob, vs, e, r⟩ k => ⟨ob, vs, k ob e, r⟩⟩
    obtain ⟨un7, ok7⟩ := held_un un6 ok6 na nH new
    have J7 : Inv X pins σ (upd H' a (excO a cls dct)) { s1 with heap := h6 } := I1.call' (s' := { s1 with heap := h6 }) (ch := []) os un7 ok7 bare fun _ z => nomatch z
    refine store_ok (X := X.mark (.ref a)) (v := .ref a) (J7.mark (.ref a)) hN hi (.inl hk) rfl (fun s8 J8 => ?_) (.inr hk)
    refine wpAny_mono (hsu (.ref a) pins s8 _ _ _ J8 (hE.2 a nH)) (fun fl s9 q9 => ?_) fun _ _ z => False.elim z
    cases fl with
    | next => obtain ⟨σ', H2, J9, q9⟩ := q9; exact goes_ok (J9.unmark I.ok.hd) hN hi hk fun s10 J10 => ⟨_, H2, J10, q9⟩
    | brk => obtain ⟨σ', H2, J9, q9⟩ := q9; exact goes_ok (J9.unmark I.ok.hd) hN hi hk fun s10 J10 => ⟨_, H2, J10, q9⟩
    | cont => obtain ⟨σ', H2, J9, q9⟩ := q9; exact goes_ok (J9.unmark I.ok.hd) hN hi hk fun s10 J10 => ⟨_, H2, J10, q9⟩
    | ret u => obtain ⟨v, σ', H2, J9, rv, q9⟩ := q9; exact goes_ok (J9.unmark I.ok.hd) hN hi hk fun s10 J10 => ⟨v, _, H2, J10, rv, q9⟩
end L2

/-! OWN RULES: isinstance of an exception that is held. -/
namespace L2
open PySem PySem.W PySem.Spec PyProof.Rows Builtin Builtin.ObjectAttr Builtin.Getset_descriptor
/-- what an own class of exceptions bears -/
structure ExcKit (K : Frag) (D : Addr) : Prop where
  ga : findIn K (.ref D) "__getattribute__" = some (some (.builtin "BaseException.__getattribute__"))
  gt : findIn K (.ref D) "__getattr__" = some none
  cl : findIn K (.ref D) "__class__" = some (some (.builtin "object.__class__"))
  hn : specialIn K (.builtin "object.__class__") "__get__" = some (some (.builtin "getset_descriptor.__get__"))
  tk : takesIn K (.builtin "object.__class__") = some true
  mo : mroIn K D (.type "object") = some true
  mb : mroIn K D (.type "BaseException") = some true
def ExcAt (a D : Addr) (h : Heap) : Prop := ∃ ob vs, h.get? a = some ob ∧ ob.cls = .ref D ∧ ob.data = .fields vs
section
variable {prog : Program} {w : World} {A : Around} {E : Value → Shared → Prop} {s : Shared} {K : Frag} {a D : Addr}
theorem exc_ty {M : Model} {h : Heap} (x : ExcAt a D h) : Looks M h (typeOf (.ref a)) (.ref D) := by
  obtain ⟨ob, vs, e, c, _⟩ := x
  rw [← c]
  exact (Looks.ld e).andThen .now
theorem exc_find {M : Model} {h : Heap} (X : K.In h) (k : ExcKit K D) : Looks M h (Builtin.ObjectAttr.find (.ref a) (.ref D) "__class__") (.bind (.builtin "getset_descriptor.__get__") (.builtin "object.__class__")) := by
  have l1 := looks_findIn (M := M) X k.cl
  have l2 : Looks M h (Builtin.ObjectAttr.getOf (some (.builtin "object.__class__"))) (some (.builtin "getset_descriptor.__get__")) := looks_specialIn X k.hn
  have l3 := looks_takesIn (M := M) X k.tk
  refine l1.andThen (Looks.andThen (a := some (.builtin "getset_descriptor.__get__")) l2 ?_)
  refine Looks.andThen (a := some (.builtin "getset_descriptor.__get__", .builtin "object.__class__")) (l3.andThen ?_) (Looks.tag .now)
  exact .now
theorem exc_gs {R : Result → Shared → Prop} {tp : Value} (X : K.In s.heap) (x : ExcAt a D s.heap) (k : ExcKit K D) (h : R (.ok (.ret (.ref D))) s) :
    codeAny (model prog w) A (.call (.builtin "getset_descriptor.__get__") ⟨[.builtin "object.__class__", .ref a, tp], []⟩) R s := by
  obtain ⟨hh, g, d, t, os⟩ := s
  have l0 := exc_ty (M := model prog w) x
  have l1 := looks_mroIn (M := model prog w) X k.mo
  refine codeAny_call_builtin KF.slot_gs.plain KF.entry_gs
    (KF.slot_gs.check _ _ _ _ _ _ _ _ KF.type_class (KF.args_gs _ _ _) ?_)
  unfold Builtin.«getset_descriptor.__get__» descrGet
  rw [PySem.W.dga_obj]
  refine wpAny_bind (wpAny_pure ?_)
  unfold descrGetter descrCheckInstance descrNameAndClass isInstance
  simp only [KF.owner_class]
  repeat lk
  refine ⟨Code.quiet_builtin _ (by decide +kernel), codeAny_builtin KF.entry_class ?_⟩
  unfold Builtin.«object.__class__» shownTypeOf
  repeat lk
  exact h
theorem exc_check {M : Model} {nameV : Value} {Q : Unit → Shared → Prop} (X : K.In s.heap) (x : ExcAt a D s.heap) (k : ExcKit K D) (h : Q () s) : wpAny M A (checkBuiltinCall "BaseException.__getattribute__" ⟨[.ref a, nameV], []⟩) Q E s := by
  obtain ⟨hh, g, d, t, os⟩ := s
  have l0 := exc_ty (M := M) x
  have l3 := looks_mroIn (M := M) X k.mb
  have kd : builtinKind "BaseException.__getattribute__" = some .slot := by decide +kernel
  have sp : splitId "BaseException.__getattribute__" = some ("BaseException", "__getattribute__") := by decide +kernel
  have ar := F.args_bexc_ga (.ref a) nameV
  simp only [checkBuiltinCall, kd, sp]
  unfold isInstance
  repeat lk
  exact h
theorem exc_class {Q : Option Value → Shared → Prop} (X : K.In s.heap) (x : ExcAt a D s.heap) (k : ExcKit K D) (h : Q (some (.ref D)) { s with toks := s.toks + 1 }) :
    wpAny (model prog w) A (getAttr? (.ref a) "__class__") Q E s := by
  obtain ⟨hh, g, d, t, os⟩ := s
  have l0 := exc_ty (M := model prog w) x
  have l1 := looks_findIn (M := model prog w) X k.ga
  have l2 := looks_findIn (M := model prog w) X k.gt
  have l3 := looks_mroIn (M := model prog w) X k.mb
  have l4 := exc_find (a := a) (M := model prog w) X k
  unfold getAttr? getAttrBy?
  refine wpAny_bind (wpAny_mkText (wpAny_bind (wpAny_attempt ?_)))
  unfold getAttrBy
  refine wpAny_holding (wpAny_bind (Looks.at l0 (wpAny_bind (Looks.at l1 ?_))))
  show wpAny _ _ (getAttrByItsOwn _ _ _ _ _ _) _ _ _
  unfold getAttrByItsOwn hookBefore
  refine wpAny_bind (Looks.at (t := typeLookup (.ref D) "__getattr__") l2 ?_)
  refine wpAny_bind (wpAny_attempt (wpAny_holding ?_))
  unfold callGetattribute boundAndCalled
  rw [if_neg (by decide)]
  refine wpAny_bind (wpAny_of_eq (F.excAttr_ValueError.ga.bind (.ref a)) ?_)
  refine wpAny_call (codeAny_call_builtin F.excAttr_ValueError.ga.plain F.entry_bexc_ga (exc_check X x k ?_))
  unfold Builtin.«object.__getattribute__»
  refine wpAny_bind (wpAny_of_eq (a := (Value.ref a, [Value.str "__class__" t])) rfl ?_)
  refine wpAny_bind (wpAny_of_eq (a := ("__class__" : Str)) rfl (wpAny_bind (Looks.at l0 (wpAny_bind (Looks.at l4 ?_)))))
  show wpAny _ _ (bindTo _ _ _ _) _ _ _
  unfold bindTo
  refine wpAny_bind (wpAny_holding (wpAny_call (exc_gs X x k ?_)))
  refine wpAny_pure ?_
  refine handed_on rfl ?_
  exact wpAny_pure h
theorem exc_cls (k : ExcKit K D) : ∃ ob, K.lookup D = some ob ∧ ∃ cd, ob.data = .cls cd := by
  obtain ⟨cd, hc, _⟩ := Option.bind_eq_some_iff.mp k.mo
  unfold clsIn at hc
  split at hc
  case h_1 ho => exact ⟨_, ho, _, rfl⟩
  case h_2 => cases hc
/-- isinstance of a held exception -/
theorem kitx_exc (k : ExcKit K D) : KitX K (.ref a) (.ref D) (ExcAt a D) where
  ty := fun _ _ _ x => exc_ty x
  it := fun M h X _ => by
    obtain ⟨ob, e, _⟩ := exc_cls k
    intro A2 Q2 E2 s2 kp q
    unfold isType loadHead
    refine wpAny_bind (wpAny_loadPart (kp _ _ (X _ _ e)) ?_)
    rename_i hd
    obtain ⟨cd, hcd⟩ := hd
    rw [hcd]
    exact wpAny_pure q
  ne := fun h tp dd its n sl X htp => by
    obtain ⟨ob, e, cd, hcd⟩ := exc_cls k
    refine Bool.eq_false_iff.mpr fun q => ?_
    have z : D = tp := Value.ref.inj (beq_iff_eq.mp q)
    subst z
    have y := (X _ _ e).symm.trans htp
    cases y
    cases hcd
  ca := fun X x h => exc_class X x k h
theorem call_isinstX {X : Cx} : CallR X (.builtin "isinstance") (fun xs H Q => ∃ a D C b dct, xs = [.ref a, .ref C] ∧ H a = some (excO a (.ref D) dct) ∧ ExcKit X.K D ∧ kitOne X.K (.ref D) (.ref C) = some b ∧ Q (.bl b) H) := by
  intro pins s σ H xs us Q I r h
  obtain ⟨a, D, C, b, dct, rfl, hH, k, e, q⟩ := h
  obtain ⟨u1, u2, rfl, r1, r2⟩ := vals2 r
  cases r1
  cases r2
  have x : ExcAt a D s.heap := let ⟨ob, vs, h1, h2, h3, _⟩ := (I.hok a _ hH).1; ⟨ob, vs, h1, h2, h3⟩
  exact kia_one (kitx_exc k) I.kIn x e (fun z => nomatch z) fun tk => ⟨.bl b, H, I.tok tk, rfl, q⟩
theorem call_isinstXT {X : Cx} : CallR X (.builtin "isinstance") (fun xs H Q => ∃ a D T b dct, xs = [.ref a, .ty T] ∧ H a = some (excO a (.ref D) dct) ∧ ExcKit X.K D ∧ kitOne X.K (.ref D) (.type T) = some b ∧ Q (.bl b) H) := by
  intro pins s σ H xs us Q I r h
  obtain ⟨a, D, T, b, dct, rfl, hH, k, e, q⟩ := h
  obtain ⟨u1, u2, rfl, r1, r2⟩ := vals2 r
  cases r1
  cases r2
  have x : ExcAt a D s.heap := let ⟨ob, vs, h1, h2, h3, _⟩ := (I.hok a _ hH).1; ⟨ob, vs, h1, h2, h3⟩
  exact kia_one (kitx_exc k) I.kIn x e (fun z => nomatch z) fun tk => ⟨.bl b, H, I.tok tk, rfl, q⟩
end
end L2

namespace L2
open PySem PySem.Spec PyProof.Rows
/-! ### texts that are joined, and cut again -/
namespace Tx
open Builtin Builtin.Str PySem.StrLaws
end Tx
end L2

namespace L2
open PySem PySem.Spec PyProof.Rows
/-! ### numbers as texts -/
namespace Tx
open PySem.NumText PySem.W
end Tx

/-! ### methods of texts, int of a text -/
section
variable {X : Cx}
end

/-! ### enumerate -/
theorem Inv.turnedL {X : Cx} {pins : List (Addr × Obj)} {σ : St} {H : Hp} {s : Shared} {h' : Heap} {t' : Nat} {fp : List Addr} (I : Inv X pins σ H s) (k : ∀ b o, b ∉ fp → s.heap.get? b = some o → h'.get? b = some o) (hf : ∀ b ∈ fp, FpOk X pins H b) :
    Inv X pins σ H { s with heap := h', toks := t' } := by
  have nf : ∀ b u, H b = some u → b ∉ fp := fun b u e z => by rw [(hf b z).1] at e; cases e
  have nL : X.env.locals ∉ fp := fun z => (hf _ z).2.1 rfl
  refine I.step (g' := s.gens) (d' := s.drawn) (ch := fp) (fun b hb => ?_) (fun b o _ _ hc e _ => k b o hc e) (fun b o _ _ hc e _ => ⟨o.slots, k b o hc e⟩) (fun _ _ _ _ n => n)
    (fun b o hc e => ⟨o, k b o hc e⟩) (fun _ _ e => e) (fun _ _ _ e => e) (fun b ps e => ⟨#[], by rw [e]; simp⟩) (fun m hm => ?_) (fun b u e => ?_) I.bare
  · obtain ⟨_, g1, _, g3, g4, g5⟩ := hf b hb
    exact ⟨g3, g1, g4, g5⟩
  · obtain ⟨o, es, ep, ho, r⟩ := hm
    exact ⟨o, es, ep, k _ o nL ho, r⟩
  · refine (I.hok b u e).stay (fun c v hc q => k c v ?_ q) (fun _ q => q) fun _ _ q => q
    rcases hc with z | z
    · rw [z]; exact nf b u e
    · exact nf c _ z
/-- the list at a, numbered -/
def Ite (K : PySem.W.Frag) (a : Addr) : It :=
  ⟨fun i H => ∃ xs x, SqL K H a xs ∧ xs[i]? = some x, fun i H v H' => ∃ t, H t = none ∧ v = .ref t ∧ ∀ xs, SqL K H a xs → ∃ x, xs[i]? = some x ∧ H' = upd H t (.tup [.int i, x]), fun i H => ∃ xs, SqL K H a xs ∧ xs.length ≤ i⟩
theorem turn_enum {P : Program} {w : World} {K : PySem.W.Frag} {elts : List Expr} {k : Nat} {pos : Pos} (a e it : Addr) (ne : e ≠ it) : Turn P w K (.Tuple elts k pos) (Ite K a) [e, it] e (fun i h => (∃ old, IsEnum h e it i old) ∧ h.IsListIter it a i) where
  mem := by simp
  obj := fun i h st b hb => by
    obtain ⟨⟨old, he⟩, o, hi, hc, hd⟩ := st
    simp at hb
    rcases hb with rfl | rfl
    · exact ⟨_, he, fun v z => by cases z⟩
    · exact ⟨o, hi, fun v z => by rw [hd] at z; cases z⟩
  keep := fun i h h' st kp => by
    obtain ⟨⟨old, he⟩, hi⟩ := st
    exact ⟨⟨old, kp e (by simp) _ he⟩, hi.at fun o x => kp it (by simp) o x⟩
  item := by
    intro X hP hw hK hc i pins s σ H E I hf st hg
    subst hP hw hK
    obtain ⟨⟨old, he⟩, hit⟩ := st
    obtain ⟨xs, x, hq, hx⟩ := hg
    obtain ⟨its, rv, p, hz⟩ := I.list hq
    obtain ⟨u, hu, ru⟩ := rv.get hx
    have le : e < s.heap.objs.size := Heap.lt_size he
    have li : it < s.heap.objs.size := by obtain ⟨_, y, _⟩ := hit; exact Heap.lt_size y
    refine wpAny_pyNext_enum_item he hit p.isList (x := u) (by simpa using hu) ne fun h' ho hit' hT hsz hk => ⟨_, rfl, ?_⟩
    refine wpAny_letOwnedTupleGo_enum ho fun h2 he2 hs2 => ?_
    have I1 : Inv X pins σ (upd H s.heap.objs.size (.tup [.int i, x])) { s with heap := s.heap.push { cls := .type "tuple", data := .seq #[.int i s.toks, u] }, toks := s.toks + 1 } :=
      I.laid (fun b o q => Heap.get?_push_of_some _ q) (Nat.le_refl _) ⟨by show 2 ≤ sizeLine; decide, [.int i s.toks, u], .cons ⟨_, rfl⟩ (.cons ru .nil), ⟨_, Heap.get?_push_size _ rfl, rfl, _, rfl⟩⟩
    have nn : ∀ b ∈ [e, it], b ≠ s.heap.objs.size := fun b hb => by
      simp at hb
      rcases hb with rfl | rfl
      · exact Nat.ne_of_lt le
      · exact Nat.ne_of_lt li
    have I2 : Inv X pins σ (upd H s.heap.objs.size (.tup [.int i, x])) { s with heap := h2, toks := s.toks + 1 } := by
      refine Inv.turnedL (s := { s with heap := s.heap.push { cls := .type "tuple", data := .seq #[.int i s.toks, u] }, toks := s.toks + 1 }) I1 (h' := h2) (t' := s.toks + 1) (fp := [e, it]) (fun b o hb q => ?_) fun b hb => ?_
      · have b1 : b ≠ e := fun z => hb (by simp [z])
        have b2 : b ≠ it := fun z => hb (by simp [z])
        refine (hs2.2 b b1).trans ?_
        rcases Heap.get?_push_cases q with ⟨z1, z2⟩ | z
        · rw [z1, z2]; exact hT
        · exact hk b o b1 b2 z
      · obtain ⟨f0, f1, f2, f3, f4, f5⟩ := hf b hb
        exact ⟨by rw [upd_ne (nn b hb)]; exact f0, f1, f2, f3, f4, f5⟩
    refine ⟨.ref s.heap.objs.size, _, I2, rfl, ⟨_, I.fresh, rfl, fun ys hy => ⟨x, by rw [I.list_inj hy hq]; exact hx, rfl⟩⟩, ⟨⟨_, he2⟩, hit'.at fun o y => (hs2.2 it ne.symm).trans y⟩, fun b hb => ?_⟩
    rw [upd_ne (nn b hb)]
    exact (hf b hb).1
  done := by
    intro X hP hw hK hc i pins s σ H E I hf st hg
    subst hP hw hK
    obtain ⟨⟨old, he⟩, hit⟩ := st
    obtain ⟨xs, hq, hx⟩ := hg
    obtain ⟨its, rv, p, hz⟩ := I.list hq
    have hl := rv.length
    exact wpAny_pyNext_enum_end (I.ok.hd hc) he hit p.isList (by simp; omega) fun h' eb => ⟨rfl, I.turnedL (t' := s.toks) (fp := [e, it]) (fun b o hb y => eb b o (fun z => hb (by simp [z])) y) hf⟩
  self := fun _ _ _ _ _ st h => wpAny_pyIter_enum st.1.choose_spec h
def iEnum (K : PySem.W.Frag) (ta : TA) : TI := fun σ H R => ta σ H fun vs H1 => ∃ a, vs = [.ref a] ∧ (∃ xs, SqL K H1 a xs) ∧ R (Ite K a) H1
theorem pi_enum {X : Cx} {elts : List Expr} {k : Nat} {tpos : Pos} {l : Expr} {ta : TA} {p pos : Pos} (hg : Gl X "enumerate") (hm : X.mg "enumerate" = none) (ha : PA X [l] ta) (hs : starEach [l] X.env = [(false, eval l X.env)] := by rfl) : PI X (.Tuple elts k tpos) (.Call (.Name "enumerate" p) [l] [] pos) (iEnum X.K ta) := by
  intro pins s σ H R I h
  refine Call_ (ld_blt (u := .type "enumerate") I hg hm (by kernel_rfl) (PyProof.Rows.callWith_type1 (thn (ha pos pins s σ H _ I h) fun us s1 ⟨vs, H1, I1, r1, q1⟩ => ?_) hs rfl))
  obtain ⟨a, rfl, ⟨xs, hq⟩, q⟩ := q1
  obtain ⟨u, rfl, ru⟩ := vals1 r1
  cases ru
  obtain ⟨its, rv, pl, hz⟩ := I1.list hq
  refine call_enumerate_list pl.isList fun h' hE hI hsz hk => wpAny_pyIter_enum hE ?_
  refine ⟨s1.heap.objs.size + 1, [s1.heap.objs.size + 1, s1.heap.objs.size], _, _, H1, rfl, I1.kept (t' := s1.toks) hk, turn_enum a _ _ (Nat.succ_ne_self _), ⟨⟨_, hE⟩, hI⟩, fun b hb => ?_, q⟩
  have hb' : s1.heap.objs.size ≤ b := by
    simp at hb
    rcases hb with rfl | rfl <;> omega
  exact I1.fpOk hb' (I1.hok.fresh hb')
theorem for_enum {K : PySem.W.Frag} {a : Addr} {xs : List V} {g : TG} {tb : TS} {D : Ends} {σ : St} {H : Hp} (Pv : Nat → St → Hp → Prop) (h0 : Pv 0 σ H) (hl : ∀ i σ H, i ≤ xs.length → Pv i σ H → SqL K H a xs)
    (hs : ∀ i x σ H t, xs[i]? = some x → Pv i σ H → H t = none → g (.ref t) σ (upd H t (.tup [.int i, x])) fun σ2 H2 => tb { D with nx := Pv (i + 1), ct := Pv (i + 1), bk := D.nx } σ2 H2) (hd : ∀ σ H, Pv xs.length σ H → D.nx σ H) :
    ∃ W : Nat → Nat → St → Hp → Prop, (∃ m, W 0 m σ H) ∧ ∀ i m σ H, W i m σ H →
      ((Ite K a).stop i H ∧ D.nx σ H) ∨ ((Ite K a).go i H ∧ ∃ N : St → Hp → Prop, (∀ σ' H', N σ' H' → ∃ m', m' < m ∧ W (i + 1) m' σ' H') ∧ ∀ x H', (Ite K a).yld i H x H' → g x σ H' fun σ2 H2 => tb { D with nx := N, ct := N, bk := D.nx } σ2 H2) := by
  refine ⟨fun i m σ H => m = xs.length - i ∧ i ≤ xs.length ∧ Pv i σ H, ⟨xs.length, by simp, Nat.zero_le _, h0⟩, ?_⟩
  rintro i m σ H ⟨rfl, hi, p⟩
  have q := hl i σ H hi p
  by_cases hlt : i < xs.length
  · refine .inr ⟨⟨xs, xs[i], q, by simp [hlt]⟩, Pv (i + 1), fun σ' H' p' => ⟨xs.length - (i + 1), by omega, rfl, hlt, p'⟩, fun x H' y => ?_⟩
    obtain ⟨t, ht, rfl, y⟩ := y
    obtain ⟨x, hx, rfl⟩ := y xs q
    exact hs i x σ H t hx p ht
  · have e : i = xs.length := by omega
    subst e
    exact .inl ⟨⟨xs, q, Nat.le_refl _⟩, hd σ H p⟩
end L2

/-! OWN RULES: try .. except C: .. without a name; an if within a try. -/
namespace L2
open PySem PySem.Spec PyProof.Rows
def tIfX (tc : TT) (ta tb : XK → TS) : XK → TS := fun E D σ H => tc σ H fun d H1 => if d = true then ta E D σ H1 else tb E D σ H1
theorem psx_if {X : Cx} {c : Expr} {a b : Stmt} {pos : Pos} {tc : TT} {ta tb : XK → TS} (hc : PT X.nox c tc) (ha : PSX X a ta) (hb : PSX X b tb) : PSX X (.If c [a] [b] pos) (tIfX tc ta tb) := by
  intro pins s σ H D E I h
  refine wpAny_If (wpAny_mono (hc pins s σ H _ (I.wish _) h) (fun d s1 ⟨H1, I1', q1⟩ => ?_) fun _ _ z => False.elim z)
  have I1 := I1'.unwish
  have one : ∀ {st : Stmt} {t : XK → TS}, PSX X st t → t E D σ H1 → wpAny (model X.prog X.w) X.A (execs [st] X.env) (SP X pins D) (XA X pins σ E) s1 := fun {st t} hst q => by
    refine wpAny_execs_cons (thn (hst pins s1 σ H1 D E I1 q) fun f s2 q2 => ?_)
    cases f with
    | next => exact wpAny_execs_nil q2
    | ret v => exact q2
    | brk => exact q2
    | cont => exact q2
  cases d with
  | true => exact one ha q1
  | false => exact one hb q1
end L2

/-! OWN RULES: raise C(..) from None within an except suite. -/
namespace L2
open PySem PySem.Spec PyProof.Rows
section
variable {prog : Program} {w : World} {A : Around} {E : Value → Shared → Prop} {s : Shared}
variable {env : Env} {nm q : Str} {C N : Addr} {bs bm : List Value} {hdct : Bool} {sn : List Str} {sub : List Value} {ab : Bool} {col : Option Bool} {dd : Option Addr} {k0 k1 k2 k3 k5 : Option Value} {newId : String}
end
end L2

/-! OWN RULES: an exception class of one's own that has an __init__ and gives its exceptions attributes (over a layer with zpatch.py and npatch.py). -/
namespace L2
open PySem PySem.Spec PyProof.Rows
section
variable {prog : Program} {w : World} {A : Around} {E : Value → Shared → Prop} {h : Heap} {g : Array GenState} {d : Drawn} {t : Nat} {os : OsState}
variable {nm q : Str} {C N : Addr} {bs bm bmB : List Value} {hdct : Bool} {sn : List Str} {sub : List Value} {ab : Bool} {col : Option Bool} {dd : Option Addr} {k0 k1 k2 k3 k5 : Option Value} {B newId initId : String}
theorem type_call_initT (F : ExcBaseFacts B newId initId bmB) (T : OwnTail h bmB bm) {mN : Str → Option Value} {rest : List Value} {fI : Addr} {oI : Obj} {Q : Fin → Shared → Prop}
    (hC : h.get? C = some (excClassObj nm q C N bs bm hdct sn sub ab col dd k0 k1 k2 k3 k5 newId)) (hn : h.Ns N mN) (hi : mN "__init__" = some (.ref fI))
    (hfI : h.get? fI = some oI) (hfc : oI.cls = .type "function")
    (hq : ∀ h' e, Heap.MadeExcOf h h' e (.ref C) rest → wpAny (model prog w) A (call (.ref fI) (.ref e :: rest)) (fun r s' => r = .none ∧ Q (.done (.ret (.ref e))) s') E ⟨h', g, d, t, os⟩) (hrest : rest.length ≤ sizeLine := by size_fits) :
    wpAny (model prog w) A (Builtin.«type.__call__» ⟨.ref C :: rest, []⟩) Q E ⟨h, g, d, t, os⟩ := by
  repeat (first | with_reducible refine wpAny_loadPart_at hC ?_ | with_reducible refine wpAny_madeBy_exc hC ?_ | wp_step)
  refine codeAny_call_builtin_code (Code.quiet_builtin _ F.quiet) (wpAny_check_new_subT F T hC ?_)
  refine codeAny_exc_new_subT F T hC ?_ hrest
  show wpAny _ _ _ _ _ _
  have hC₁ := Heap.get?_push_of_some { cls := .ref C, data := .fields #[.ref h.objs.size, .none, .none, .none, .bool false, .none] }
    (Heap.get?_push_of_some { cls := .type "tuple", data := .seq rest.toArray } hC)
  have hfI₁ := Heap.get?_push_of_some { cls := .ref C, data := .fields #[.ref h.objs.size, .none, .none, .none, .bool false, .none] }
    (Heap.get?_push_of_some { cls := .type "tuple", data := .seq rest.toArray } hfI)
  have hn₁ : ((h.push { cls := .type "tuple", data := .seq rest.toArray }).push { cls := .ref C, data := .fields #[.ref h.objs.size, .none, .none, .none, .bool false, .none] }).Ns N mN :=
    let ⟨o, es, ep, e, r⟩ := hn; ⟨o, es, ep, Heap.get?_push_of_some _ (Heap.get?_push_of_some _ e), r⟩
  have hget : ((h.push { cls := .type "tuple", data := .seq rest.toArray }).push
      { cls := .ref C, data := .fields #[.ref h.objs.size, .none, .none, .none, .bool false, .none] }).get? (h.objs.size + 1) = some
      { cls := .ref C, data := .fields #[.ref h.objs.size, .none, .none, .none, .bool false, .none] } := by heap_get
  have hcC : (Value.ref C :: bm).contains (.ref C) = true := by simp
  have T₁ := T.keeps (h' := (h.push { cls := .type "tuple", data := .seq rest.toArray }).push { cls := .ref C, data := .fields #[.ref h.objs.size, .none, .none, .none, .bool false, .none] })
    fun b o e => Heap.get?_push_of_some _ (Heap.get?_push_of_some _ e)
  unfold isInstance
  repeat (first | with_reducible refine wpAny_loadPart_at hget ?_ | (with_reducible refine wpAny_isSubtype_exc hC₁ ?_; rw [hcC]) | wp_step)
  show wpAny _ _ (typeLookup (.ref C) _) _ _ _
  refine wpAny_typeLookup_tail hC₁ hn₁ T₁ F.mroIs F.init.lookup ?_
  rw [hi]
  refine wpAny_holding (wpAny_bind ?_)
  unfold bindSpecial
  refine wpAny_bind (wpAny_typeOf (T := "function") ⟨_, hfI₁, hfc⟩ ?_)
  rw [if_pos (by decide)]
  refine wpAny_pure (wpAny_bind (wpAny_mono (hq _ (h.objs.size + 1) ⟨fun b o hb => Heap.get?_push_of_some _ (Heap.get?_push_of_some _ hb), Heap.get?_none_of_le (Nat.le_succ _), h.objs.size, hget, Heap.get?_none_of_le (Nat.le_refl _), ?_⟩) (fun r s' hr => ?_) fun _ _ x => x))
  · exact Heap.get?_push_of_some _ (Heap.get?_push_at rfl rfl)
  · obtain ⟨rfl, hQ⟩ := hr
    wp_walk
    exact hQ
theorem call_exc_initT (F : ExcBaseFacts B newId initId bmB) (T : OwnTail h bmB bm) {mN : Str → Option Value} {rest : List Value} {fI : Addr} {oI : Obj} {Q : Value → Shared → Prop}
    (hC : h.get? C = some (excClassObj nm q C N bs bm hdct sn sub ab col dd k0 k1 k2 k3 k5 newId)) (hn : h.Ns N mN) (hi : mN "__init__" = some (.ref fI))
    (hfI : h.get? fI = some oI) (hfc : oI.cls = .type "function")
    (hq : ∀ h' e, Heap.MadeExcOf h h' e (.ref C) rest →
      wpAny (model prog w) (A.under (.builtin "type.__call__" ⟨.ref C :: rest, []⟩)) (call (.ref fI) (.ref e :: rest)) (fun r s' => r = .none ∧ Q (.ref e) s') E ⟨h', g, d, t, os⟩) (hrest : rest.length ≤ sizeLine := by size_fits) :
    wpAny (model prog w) A (call (.ref C) rest) Q E ⟨h, g, d, t, os⟩ := by
  have f1 := tc_lookup
  have f2 := tc_bind (.ref C)
  have hT : (⟨h, g, d, t, os⟩ : Shared).TypeIs (.ref C) "type" := ⟨_, hC, rfl⟩
  refine wpAny_call (codeAny_of_tree ?_)
  show wpAny _ _ (callAny (.ref C) _) _ _ _
  repeat (any_goals (first | assumption | with_reducible refine wpAny_loadPart_at hC ?_ | wp_step))
  refine ⟨rfl, ?_⟩
  refine codeAny_call_builtin_at (Code.quiet_builtin _ (by decide +kernel)) entry_typeCall (wpAny_check_type_call_sub hC (type_call_initT (hrest := hrest) F T hC hn hi hfI hfc fun h' e hm => ?_))
  exact hq h' e hm
end
end L2
namespace L2
open PySem PySem.Spec PyProof.Rows
open PySem.W in
def excII (K : Frag) (C : Addr) (bmB : List Value) (newId : String) (fI : Addr) : Bool := match K.lookup C with
  | some ⟨.type "type", _, .cls cd, sl⟩ => (match cd.mro, sl.toList with
    | .ref C' :: bm, [_, _, _, _, some (.builtin n), _] => C' == C && n == newId && !cd.hasDel && tailIn K bmB bm && nsOkIn K cd.ns && nsIn K cd.ns "__init__" == some (some (.ref fI))
    | _, _ => false)
  | _ => false
theorem ns_some_of {K : PySem.W.Frag} {h : Heap} {N : Addr} {mg : Str → Option Value} {n : Str} {v : Value} (X : K.In h) (G : h.Ns N mg) (e : PySem.W.nsIn K N n = some (some v)) : mg n = some v := by
  obtain ⟨o, es, ep, ho, hd, _, hf⟩ := G
  unfold PySem.W.nsIn at e
  split at e
  · rename_i c d es' n' sl q
    have := X _ _ q
    rw [ho] at this
    cases this
    cases hd
    split at e
    · rename_i y he
      cases e
      rw [← hf]
      unfold nsFind findBy
      rw [← Array.find?_toList, he]
      rfl
    · split at e <;> cases e
  · cases e
theorem excII_of {K : PySem.W.Frag} {h : Heap} {C fI : Addr} {bmB : List Value} {newId : String} (X : K.In h) (q : excII K C bmB newId fI = true) :
    ∃ (bm : List Value) (N : Addr) (nm qn : Str) (bs : List Value) (hd : Bool) (sn : List Str) (sub : List Value) (ab : Bool) (col : Option Bool) (dd : Option Addr) (k0 k1 k2 k3 k5 : Option Value) (mN : Str → Option Value),
      h.get? C = some (excClassObj nm qn C N bs bm hd sn sub ab col dd k0 k1 k2 k3 k5 newId) ∧ h.Ns N mN ∧ mN "__init__" = some (.ref fI) ∧ OwnTail h bmB bm := by
  unfold excII at q
  split at q
  · rename_i dd cd sl ho
    split at q
    · rename_i C' bm k0 k1 k2 k3 n k5 hm hs
      simp only [Bool.and_eq_true, beq_iff_eq, Bool.not_eq_true'] at q
      obtain ⟨⟨⟨⟨⟨rfl, rfl⟩, hdel⟩, ht⟩, hok⟩, hni⟩ := q
      obtain ⟨nm, bs, mro, ns, qn, hd, sn, sub, ab, col, del⟩ := cd
      dsimp only at hm hdel hok hni
      subst hm hdel
      have hsl : sl = #[k0, k1, k2, k3, some (.builtin n), k5] := by
        obtain ⟨l⟩ := sl
        simp only at hs
        rw [hs]
      subst hsl
      exact ⟨bm, ns, nm, qn, bs, hd, sn, sub, ab, col, dd, k0, k1, k2, k3, k5, _, X _ _ ho, .of_isNs (PySem.W.isNs_of_in X hok), ns_some_of X (.of_isNs (PySem.W.isNs_of_in X hok)) hni, PySem.W.tail_of_in X ht⟩
    · cases q
  · cases q
section
variable {prog : Program} {w : World} {A : Around} {E : Value → Shared → Prop} {h : Heap} {g : Array GenState} {d : Drawn} {t : Nat} {os : OsState}
variable {nm q : Str} {C N : Addr} {bs bm bmB : List Value} {hdct : Bool} {sn : List Str} {sub : List Value} {ab : Bool} {col : Option Bool} {dd : Option Addr} {k0 k1 k2 k3 k5 : Option Value} {B newId initId : String}
theorem call_base_init (F : ExcBaseFacts B newId initId bmB) (T : OwnTail h bmB bm) {rest : List Value} {e t0 : Addr} {Q : Value → Shared → Prop}
    (hC : h.get? C = some (excClassObj nm q C N bs bm hdct sn sub ab col dd k0 k1 k2 k3 k5 newId)) (he : h.get? e = some { cls := .ref C, data := .fields #[.ref t0, .none, .none, .none, .bool false, .none] })
    (hq : ∀ h' t1, (∀ b o, b ≠ e → h.get? b = some o → h'.get? b = some o) → h'.get? e = some { cls := .ref C, data := .fields #[.ref t1, .none, .none, .none, .bool false, .none] } → Q .none ⟨h', g, d, t, os⟩) (hrest : rest.length ≤ sizeLine := by size_fits) :
    wpAny (model prog w) A (call (.builtin initId) (.ref e :: rest)) Q E ⟨h, g, d, t, os⟩ := by
  refine wpAny_call (codeAny_call_builtin F.init.plain F.initEntry (wpAny_check_init_subT F T hC he rfl ?_))
  wp_walk
  refine hq _ h.objs.size (fun b o hb q => ?_) ?_
  · rw [Heap.get?_update_other _ _ (Ne.symm hb)]
    exact Heap.get?_push_of_some _ q
  · rw [Heap.get?_update_self _ (Heap.get?_push_of_some _ he) rfl]
    rfl
end
/-- an exception of the class C just made, without attributes -/
def newX (a C : Addr) : HO := .ext fun h => ∃ t0 : Addr, h.get? a = some { cls := .ref C, data := .fields #[.ref t0, .none, .none, .none, .bool false, .none] }
theorem newX_ok {P : Program} {w : World} {H : Hp} {h : Heap} {a C t0 : Addr} (e : h.get? a = some { cls := .ref C, data := .fields #[.ref t0, .none, .none, .none, .bool false, .none] }) : ObjOk P w H h a (newX a C) :=
  ⟨⟨t0, e⟩, ⟨_, e⟩, fun h1 h2 ⟨t1, e1⟩ k => ⟨t1, k _ e1⟩⟩
structure BaseInit (K : PySem.W.Frag) (cc : Addr) (initId : String) : Prop where
  ga : PySem.W.specialIn K (.ref cc) "__getattribute__" = some (some (.builtin "type.__getattribute__"))
  rd : PySem.W.readsIn K cc (.type "type") = true
  fc : PySem.W.findCls K (.ref cc) (.type "type") "__init__" = some (.val (.builtin initId))
  hi : PySem.W.handedIn (.builtin initId) = true
def tBaseInit (C : Addr) (t : TA) : TE := fun σ H Q => t σ H fun vs H1 => ∃ a rest, vs = .ref a :: rest ∧ rest.length ≤ sizeLine ∧ H1 a = some (newX a C) ∧ Q .non (upd H1 a (newX a C))
/-- cx.__init__(self, ..) where self is new -/
theorem pe_baseInit {X : Cx} {cx : Str} {cc C fI : Addr} {bmB : List Value} {B newId initId : String} {e : Expr} {es : List Expr} {t : TA} {p ap pos : Pos} {pl : Sem Bool} (hg : Gl X cx) (hm : X.mg cx = some (.ref cc)) (BI : BaseInit X.K cc initId) (q : excII X.K C bmB newId fI = true) (FB : ExcBaseFacts B newId initId bmB)
    (ha : PA X (e :: es) t) (hdb : (cx == ("__debug__" : Str)) = false := by decide)
    (hst : starEach (e :: es) X.env = (false, eval e X.env) :: starEach es X.env := by rfl) (hpl : (backTo pos (starEach es X.env)).any (·.1) = false := by rfl)
    (ht : eval (.Call (.Attribute (.Name cx p) "__init__" ap) (e :: es) [] pos) X.env = (do
      let ov ← eval (.Name cx p) X.env
      standAt ap.atName
      let (f, first) ← holding [ov] (getMethod ov "__init__" pl)
      callWith pos f first (backTo pos (starEach (e :: es) X.env)) (backToKw pos (keywordEach [] X.env))) := by rfl) : PE X (.Call (.Attribute (.Name cx p) "__init__" ap) (e :: es) [] pos) (tBaseInit C t) := by
  intro pins s σ H Q I h
  refine PySem.W.methodCall_KW (pl := pl) (thn (pe_glob (v := .ref cc) (u := .ref cc) hg hm rfl hdb pins s σ H (fun v H1 => v = V.ref cc ∧ H1 = H) I ⟨rfl, rfl⟩) fun u s1 ⟨x, H1, I1, rx, ex, eH⟩ => ?_) ht
  subst ex eH
  obtain rfl : u = Value.ref cc := rx
  refine PySem.W.method_cls I1.kIn BI.ga (PySem.W.cls_value I1.kIn BI.rd BI.fc BI.hi ?_)
  have I1' := I1.tok (s1.toks + 1)
  have hA := ha pos pins _ σ H1 _ I1' h
  rw [hst] at hA ⊢
  refine Calls.callWith_builtin (by show (false || (backTo pos (starEach es X.env)).any (·.1)) = false; rw [hpl] <;> rfl) (Calls.evalArgs_plain ?_)
  refine thn hA fun us s2 ⟨vs, H2, I2, r2, a, rest, ev, hz, ea, q2⟩ => ?_
  subst ev
  obtain ⟨u1, us1, rfl, r1, r3⟩ : ∃ u1 us1, us = u1 :: us1 ∧ RelV (.ref a) u1 ∧ Vals rest us1 := by
    cases r2 with
    | cons r1 r2 => exact ⟨_, _, rfl, r1, r2⟩
  obtain rfl : u1 = Value.ref a := r1
  obtain ⟨bm, N, nm, qn, bs, hd, sn, sub, ab, col, dd, k0, k1, k2, k3, k5, mN, hC, hN, hi, TL⟩ := excII_of I2.kIn q
  obtain ⟨⟨t0, e0⟩, _⟩ := I2.hok a _ ea
  obtain ⟨hp, g, d, tk, os⟩ := s2
  refine call_base_init FB TL hC e0 (fun h' t1 kp e1 => ?_) (by rw [show us1.length = rest.length from r3.length.symm]; exact hz)
  refine ⟨.non, _, I2.write (x := a) (e := a) (o := newX a C) (h' := h') (t' := tk) (by rw [ea]; exact True.intro) (.inl rfl) kp ⟨_, e1⟩ (newX_ok e1), rfl, q2⟩
end L2
namespace L2
open PySem PySem.Spec PyProof.Rows
def overTail (bmB : List Value) : List Value → Bool
  | [] => bmB == []
  | v :: r => (v :: r) == bmB || match v with
    | .ref _ => overTail bmB r
    | _ => false
theorem refuse_over {bmB : List Value} {self : Value} {what : Str} (h : refuseLoop self what bmB = pure ()) : ∀ {l : List Value}, overTail bmB l = true → refuseLoop self what l = pure ()
  | [], e => by
    have e : (bmB == []) = true := e
    rw [beq_iff_eq.mp e] at h
    exact h
  | v :: r, e => by
    unfold overTail at e
    rcases Bool.or_eq_true_iff.mp e with q | q
    · rw [beq_iff_eq.mp q]
      exact h
    · split at q
      · rw [refuseLoop_ref]
        exact refuse_over h q
      · cases q
/-- a class of exceptions of one's own, as attributes ask it -/
structure ExcAttr (K : PySem.W.Frag) (C : Addr) (bmB : List Value) (f : Str) : Prop where
  over : (PySem.W.clsIn K C).any (fun cd => overTail bmB cd.mro && cd.hasDict) = true
  mo : PySem.W.mroIn K C (.type "object") = some true
  sa : PySem.W.findIn K (.ref C) "__setattr__" = some (some (.builtin "object.__setattr__"))
  no : PySem.W.findIn K (.ref C) f = some none
section
variable {prog : Program} {w : World} {A : Around} {E : Value → Shared → Prop} {s : Shared} {K : PySem.W.Frag} {x C : Addr} {ox : Obj} {od : Option Obj} {name : Str} {v : Value} {bmB : List Value} {R : Result → Shared → Prop}
theorem osa_exc {tk : Tok} (X : K.In s.heap) (I : PySem.W.InstAt s.heap x ox C od) (hp : ∀ self, refuseLoop self "__setattr__" bmB = pure ()) (q : ExcAttr K C bmB name)
    (h : wpAny (model prog w) A.in1 (Builtin.ObjectAttr.storeInOwnDict (.ref x) (.ref C) (.str name tk) name v false)
      (fun fin s' => match fin with | .done f => R (.ok f) s' | .again c' => c'.quiet = true ∧ codeAny (model prog w) A c' R s') (fun e s' => R (.error e) s') s) :
    codeAny (model prog w) A (.call (.builtin "object.__setattr__") ⟨[.ref x, .str name tk, v], []⟩) R s := by
  have SF := PySem.F.store_object
  obtain ⟨cd, hc, ho⟩ := PySem.W.any_some q.over
  have ho := (Bool.and_eq_true_iff.mp ho).1
  have sub : PySem.W.Looks (model prog w) s.heap (isInstance (.ref x) (.type "object")) true := I.type.andThen (PySem.W.looks_mroIn X q.mo)
  refine codeAny_call_builtin SF.slot.plain SF.entry (@PySem.W.check_slot (model prog w) _ _ s "object.__setattr__" "object" "__setattr__" (.ref x) [.str name tk, v] [] _ SF.kind SF.split sub (SF.args (.ref x) (.str name tk) v) ?_)
  have hm : PySem.W.Looks (model prog w) s.heap (mroOf (.ref C)) cd.mro := (PySem.W.looks_clsIn X hc).andThen .now
  have L3 : PySem.W.Looks (model prog w) s.heap (Builtin.ObjectAttr.storeTaker? none) none := .now
  rw [PySem.W.osa_eq, refuse_eq]
  refine wpAny_bind (wpAny_bind (I.type.here (wpAny_bind (hm.here ?_))))
  rw [refuse_over (hp _) ho]
  refine wpAny_pure (wpAny_bind (I.type.here (wpAny_bind ((PySem.W.looks_findIn X q.no).here (wpAny_bind (L3.here ?_))))))
  exact h
/-- the first attribute of an exception: its dict is made -/
theorem set_exc {vs : Array Value} {Q : Unit → Shared → Prop} (X : K.In s.heap) (he : s.heap.get? x = some { cls := .ref C, data := .fields vs }) (hp : ∀ self, refuseLoop self "__setattr__" bmB = pure ()) (q : ExcAttr K C bmB name)
    (h : ∀ h' dx t', s.heap.objs.size ≤ dx → dx ≠ x → h'.get? x = some { cls := .ref C, dict := some dx, data := .fields vs } → h'.Ns1 dx (fun y => if y = name then some v else none) → (∀ b o, b ≠ x → s.heap.get? b = some o → h'.get? b = some o) → Q () { s with heap := h', toks := t' }) :
    wpAny (model prog w) A (setAttr (.ref x) name v) Q E s := by
  have I : PySem.W.InstAt s.heap x { cls := .ref C, data := .fields vs } C none := ⟨he, rfl, rfl, trivial⟩
  refine PySem.W.set_plain X I q.sa (osa_exc (s := { s with toks := s.toks + 1 }) X I hp q ?_)
  obtain ⟨cd, hc, ho⟩ := PySem.W.any_some q.over
  have hd := (Bool.and_eq_true_iff.mp ho).2
  unfold Builtin.ObjectAttr.storeInOwnDict
  refine wpAny_bind (wpAny_pure (wpAny_bind (wpAny_bind (wpAny_loadPart he (wpAny_bind (PySem.W.Looks.here (s := { s with toks := s.toks + 1 }) (PySem.W.looks_clsIn X hc) ?_))))))
  rw [hd]
  have hxs : x ≠ s.heap.objs.size := Nat.ne_of_lt (Heap.lt_size he)
  have hx1 : (s.heap.push { cls := .type "dict", data := .dict #[] }).get? x = some { cls := .ref C, data := .fields vs } := Heap.get?_push_of_some _ he
  simp only [Bool.not_true, Bool.false_eq_true, if_false]
  rw [if_neg (by simp [typeHasDict])]
  refine wpAny_bind (wpAny_alloc' ?_)
  refine wpAny_bind (wpAny_update' hx1 ?_)
  refine wpAny_pure ?_
  have hgd : ((s.heap.push { cls := .type "dict", data := .dict #[] }).update x fun o => { cls := o.cls, dict := some s.heap.objs.size, data := o.data, slots := o.slots }).get? s.heap.objs.size
      = some { cls := .type "dict", data := .dict #[] } := (Heap.get?_update_ne _ _ _ _ hxs.symm).trans (Heap.get?_push_at rfl rfl)
  have hnd : ((s.heap.push { cls := .type "dict", data := .dict #[] }).update x fun o => { cls := o.cls, dict := some s.heap.objs.size, data := o.data, slots := o.slots }).Ns s.heap.objs.size (fun _ => none) :=
    ⟨_, #[], _, hgd, rfl, fun e he => absurd he (by simp), fun _ => rfl⟩
  show wpAny _ _ (Builtin.ObjectAttr.storeInDict s.heap.objs.size (.str name s.toks) name v) _ _ _
  unfold Builtin.ObjectAttr.storeInDict Builtin.ObjectAttr.newKeyGuard
  refine wpAny_bind (wpAny_pure (wpAny_bind (wpAny_nsSet1 (Heap.Ns1.of_empty hnd) fun h' hn' hs => ?_)))
  obtain ⟨oD, esD, epD, hoD, hdD, hcD⟩ := hn'.count (Within.cons name v Within.nil)
  refine wpAny_bind (wpAny_lookBehind hoD (by rw [hdD]; exact pastItsLine_dict (Nat.le_trans hcD (by rw [List.length_cons, List.length_nil, sizeLine_eq]; omega))) ?_)
  refine wpAny_pure ?_
  refine h h' s.heap.objs.size _ (Nat.le_refl _) hxs.symm ?_ hn' (fun b o hb q => ?_)
  · refine (hs.2 x hxs).trans (Heap.get?_update_self _ hx1 rfl)
  · exact (hs.2 b (Nat.ne_of_lt (Heap.lt_size q))).trans ((Heap.get?_update_ne _ _ _ _ hb).trans (Heap.get?_push_of_some _ q))
end
/-- an exception of the class C with its dict at dx -/
def hadX (a C dx : Addr) : HO := .ext fun h => ∃ t0 : Addr, h.get? a = some { cls := .ref C, dict := some dx, data := .fields #[.ref t0, .none, .none, .none, .bool false, .none] }
def sSetX (C : Addr) (f : Str) (ta tv : TE) : TS := fun D σ H => tv σ H fun y H1 => ta σ H1 fun x H2 => ∃ a, x = .ref a ∧ H2 a = some (newX a C) ∧ ∀ dx, H2 dx = none → dx ≠ a → dx ≠ 0 → D.nx σ (upd (upd H2 dx (.xd [(f, y)])) a (hadX a C dx))
theorem setx_inv {X : Cx} {pins : List (Addr × Obj)} {σ : St} {H : Hp} {s : Shared} {a C dx : Addr} {f : Str} {y : V} {u : Value} {h' : Heap} {t' : Nat} {t0 : Addr} (I : Inv X pins σ H s) (e : H a = some (newX a C)) (n : s.heap.objs.size ≤ dx) (ne : dx ≠ a) (ry : RelV y u)
    (h1 : h'.get? a = some { cls := .ref C, dict := some dx, data := .fields #[.ref t0, .none, .none, .none, .bool false, .none] }) (h2 : h'.Ns1 dx (fun g => if g = f then some u else none)) (kp : ∀ b o, b ≠ a → s.heap.get? b = some o → h'.get? b = some o) :
    Inv X pins σ (upd (upd H dx (.xd [(f, y)])) a (hadX a C dx)) { s with heap := h', toks := t' } := by
  have nd : H dx = none := I.hok.fresh n
  have nin : s.heap.get? dx = none := Heap.get?_none_of_le n
  have at_ : ∀ b, b ≠ a → b ≠ dx → (upd (upd H dx (.xd [(f, y)])) a (hadX a C dx)) b = H b := fun b h1 h2 => by rw [upd_ne h1, upd_ne h2]
  have ina : ∀ (b : Addr) (o : Obj), H b = none → b ≠ a := fun b _ z q => by rw [q, e] at z; cases z
  have un : Un X.fs [] H (upd (upd H dx (.xd [(f, y)])) a (hadX a C dx)) s.heap h' := by
    refine ⟨fun b o q m _ _ => kp b o (ina b o m) q, fun b o q m _ _ => ⟨o.slots, kp b o (ina b o m) q⟩, fun b o q m _ => ?_, fun b o q _ => ?_, fun b xs q => ?_, fun b o z q => ?_, fun b ps q => ?_⟩
    · rw [at_ b (ina b o m) (fun z => by rw [z, nin] at q; cases q)]
      exact m
    · by_cases z : b = a
      · rw [z]; exact ⟨_, h1⟩
      · exact ⟨o, kp b o z q⟩
    · rw [at_ b (fun z => by rw [z, e] at q; cases q) (fun z => by rw [z, nd] at q; cases q)]
      exact q
    · rw [at_ b (fun z => by rw [z, e] at q; cases q) (fun z => by rw [z, nd] at q; cases q)]
      exact q
    · refine ⟨#[], ?_⟩
      rw [at_ b (fun z => by rw [z, e] at q; cases q) (fun z => by rw [z, nd] at q; cases q), q]
      simp
  refine I.un un fun b o q => ?_
  by_cases za : b = a
  · subst za
    rw [upd_same] at q
    cases q
    exact ⟨⟨t0, h1⟩, ⟨_, h1⟩, fun g1 g2 ⟨t1, e1⟩ k => ⟨t1, k _ e1⟩⟩
  · by_cases zd : b = dx
    · subst zd
      rw [upd_ne za, upd_same] at q
      cases q
      refine ⟨_, h2, fun g => ?_⟩
      by_cases zg : g = f
      · subst zg
        rw [if_pos rfl]
        show RelO (([(g, y)] : List (Str × V)).lookup g) (some u)
        rw [List.lookup_cons_self]
        exact ry
      · rw [if_neg zg]
        show RelO (([(f, y)] : List (Str × V)).lookup g) none
        rw [List.lookup_cons, show (g == f) = false from by simp [zg]]
        exact True.intro
    · rw [at_ b za zd] at q
      refine (I.hok b o q).stay (fun c v hc r => kp c v (fun z => ?_) r) (fun c r => ?_) fun c xs r => ?_
      · rcases hc with z2 | z2
        · exact za (z2.symm.trans z)
        · rw [z, e] at z2; cases z2
      · rw [at_ c (fun z => by rw [z, e] at r; cases r) (fun z => by rw [z, nd] at r; cases r)]
        exact r
      · rw [at_ c (fun z => by rw [z, e] at r; cases r) (fun z => by rw [z, nd] at r; cases r)]
        exact r
theorem ps_setX {X : Cx} {o value : Expr} {f : Str} {pos pos' : Pos} {ta tv : TE} {C : Addr} {bmB : List Value} (ha : PE X o ta) (hv : PE X value tv) (hp : ∀ self, refuseLoop self "__setattr__" bmB = pure ()) (q : ExcAttr X.K C bmB f) (hs : swapsWith value (some (.Attribute o f pos')) pos.line X.env = pure false) :
    PS X (.Assign [.Attribute o f pos'] value pos) (sSetX C f ta tv) := by
  intro pins s σ H D I h
  refine plainObj_wpAny_Assign_Attribute (thn (hv pins s σ H _ I h) fun u s1 ⟨y, H1, I1, ry, q1⟩ => thn (ha pins s1 σ H1 _ I1 q1) fun ov s2 ⟨x, H2, I2, rx, a, ex, ea, q2⟩ => ?_) hs
  subst ex
  obtain rfl : ov = Value.ref a := rx
  obtain ⟨⟨t0, e0⟩, _⟩ := I2.hok a _ ea
  exact set_exc I2.kIn e0 hp q fun h' dx t' n ne h1 h2 kp => ⟨σ, _, setx_inv I2 ea n ne ry h1 h2 kp, q2 dx (I2.hok.fresh n) ne (fun z => by have := Nat.lt_of_lt_of_le (Heap.lt_size e0) n; rw [z] at this; exact absurd this (Nat.not_lt_zero _))⟩
end L2
namespace L2
open PySem PySem.Spec PyProof.Rows
section
variable {prog : Program} {w : World} {A : Around} {E : Value → Shared → Prop} {s : Shared} {env : Env}
variable {nm q : Str} {C N : Addr} {bs bm bmB : List Value} {hdct : Bool} {sn : List Str} {sub : List Value} {ab : Bool} {col : Option Bool} {dd : Option Addr} {k0 k1 k2 k3 k5 : Option Value} {B newId initId : String}
theorem raise_madeN {M : Model} {x : Sem Value} {Q : Flow → Shared → Prop} (hbase : bm.contains (.type "BaseException") = true) (hh : A.handled = none)
    (h : wpAny M A x (fun v s₁ => ∃ e od t, v = .ref e ∧ s₁.heap.get? C = some (excClassObj nm q C N bs bm hdct sn sub ab col dd k0 k1 k2 k3 k5 newId) ∧ s₁.heap.get? e = some { cls := .ref C, dict := od, data := .fields #[.ref t, .none, .none, .none, .bool false, .none] } ∧ E (.ref e) s₁) E s) :
    wpAny M A (raiseStmt env (some x) none) Q E s := by
  have hcB : (Value.ref C :: bm).contains (.type "BaseException") = true := by rw [List.contains_cons, hbase, Bool.or_true]
  unfold raiseStmt
  refine wpAny_bind (wpAny_mono h (fun v s₁ h₁ => ?_) fun _ _ x => x)
  obtain ⟨e, od, t, rfl, hC, he, hE⟩ := h₁
  obtain ⟨hp, g, d, tk, os⟩ := s₁
  repeat (first | with_reducible refine wpAny_loadPart_at he ?_ | with_reducible refine wpAny_loadPart_at hC ?_ | (with_reducible refine wpAny_isSubtype_exc hC ?_; rw [hcB]) | wp_step)
  exact wpAny_raiseNew_none hh hE
theorem Raise_call_initT (F : ExcBaseFacts B newId initId bmB) {mN : Str → Option Value} {x : Str} {np cpos pos : Pos} {args : List Expr} {Q : Flow → Shared → Prop} {fI : Addr}
    (hbase : bm.contains (.type "BaseException") = true) (hh : A.handled = none) (hplain : (backTo cpos (starEach args env)).any (·.1) = false) (hi : mN "__init__" = some (.ref fI))
    (h : wpAny (model prog w) A (eval (.Name x np) env) (fun f s₁ => f = .ref C ∧ wpAny (model prog w) A (evalArgs (.ref C) true (backTo cpos (starEach args env)) [])
      (fun a s₂ => a.kw = [] ∧ a.pos.length ≤ sizeLine ∧ s₂.heap.get? C = some (excClassObj nm q C N bs bm hdct sn sub ab col dd k0 k1 k2 k3 k5 newId) ∧ s₂.heap.Ns N mN ∧ OwnTail s₂.heap bmB bm ∧ (∃ oI, s₂.heap.get? fI = some oI ∧ oI.cls = .type "function") ∧
        ∀ h' e, Heap.MadeExcOf s₂.heap h' e (.ref C) a.pos → wpAny (model prog w) (A.under (.builtin "type.__call__" ⟨.ref C :: a.pos, []⟩)) (call (.ref fI) (.ref e :: a.pos))
          (fun r s' => r = .none ∧ ∃ od t, s'.heap.get? C = some (excClassObj nm q C N bs bm hdct sn sub ab col dd k0 k1 k2 k3 k5 newId) ∧ s'.heap.get? e = some { cls := .ref C, dict := od, data := .fields #[.ref t, .none, .none, .none, .bool false, .none] } ∧ E (.ref e) s') E { s₂ with heap := h' }) E s₁) E s) :
    wpAny (model prog w) A (exec (.Raise (some (.Call (.Name x np) args [] cpos)) none pos) env) Q E s := by
  rw [arm_exec_Raise]
  first
    | refine wpAny_bind (wpAny_standAt (raise_madeN (C := C) (nm := nm) (q := q) (N := N) (bs := bs) (bm := bm) (hdct := hdct) (sn := sn) (sub := sub) (ab := ab) (col := col) (dd := dd) (k0 := k0) (k1 := k1) (k2 := k2) (k3 := k3) (k5 := k5) (newId := newId) hbase hh (wpAny_bind (wpAny_mono (wpAny_Call_ofName (wpAny_mono h (fun f s₁ h₁ => ?_) fun _ _ x => x)) (fun v s₃ h₃ => wpAny_bind (wpAny_standAt (wpAny_pure h₃))) fun _ _ x => x))))
    | (simp only [evalOpt, Option.map]; refine wpAny_bind (wpAny_standAt (raise_madeN (C := C) (nm := nm) (q := q) (N := N) (bs := bs) (bm := bm) (hdct := hdct) (sn := sn) (sub := sub) (ab := ab) (col := col) (dd := dd) (k0 := k0) (k1 := k1) (k2 := k2) (k3 := k3) (k5 := k5) (newId := newId) hbase hh (wpAny_bind (wpAny_mono (wpAny_Call_ofName (wpAny_mono h (fun f s₁ h₁ => ?_) fun _ _ x => x)) (fun v s₃ h₃ => wpAny_bind (wpAny_standAt (wpAny_pure h₃))) fun _ _ x => x)))))
  obtain ⟨rfl, h₁⟩ := h₁
  unfold callWith
  refine wpAny_bind (wpAny_holding (wpAny_mono h₁ (fun a s₂ h₂ => wpAny_bind (wpAny_standAt ?_)) fun _ _ x => x))
  obtain ⟨apos, akw⟩ := a
  obtain ⟨hkw, hlen, hC, hn, T, ⟨oI, hfI, hfc⟩, h₂⟩ := h₂
  obtain rfl : akw = [] := hkw
  obtain ⟨hp, g, d, tk, os⟩ := s₂
  simp only [hplain]
  refine wpAny_bind (wpAny_keeperOf_exc hC ?_)
  refine wpAny_bind (call_exc_initT (hrest := hlen) F T hC hn hi hfI hfc fun h' e hm => wpAny_mono (h₂ h' e hm) (fun r s' hr => ?_) fun _ _ z => z)
  obtain ⟨rfl, od, t, g1, g2, g4⟩ := hr
  refine ⟨rfl, wpAny_bind (wpAny_holding (wpAny_point (wpAny_pure ?_)))⟩
  exact ⟨e, od, t, rfl, g1, g2, g4⟩
end
/-- a thing no longer told of -/
def forget (a : Addr) (H : Hp) : Hp := fun b => if b = a then none else H b
theorem forget_at {a : Addr} {H : Hp} : forget a H a = none := if_pos rfl
theorem forget_ne {a b : Addr} {H : Hp} (h : b ≠ a) : forget a H b = H b := if_neg h
section
variable {X : Cx} {pins : List (Addr × Obj)} {σ : St} {H : Hp} {s : Shared} {a C : Addr}
theorem Inv.forget {φ : Heap → Prop} (I : Inv X pins σ H s) (e : H a = some (.ext φ)) : Inv X pins σ (forget a H) s := by
  have keep : ∀ b o, H b = some o → (∀ ψ, o ≠ .ext ψ) → L2.forget a H b = some o := fun b o q n => by
    rw [forget_ne (fun z => by rw [z, e] at q; cases q; exact n φ rfl)]
    exact q
  have no : ∀ b, H b = none → L2.forget a H b = none := fun b q => by
    unfold L2.forget
    split
    · rfl
    · exact q
  refine ⟨I.ok, I.os, I.bare, ⟨I.base.keep, I.base.slot, fun b o q n hx => no b (I.base.free b o q n hx), I.base.there, fun b xs q => keep b _ (I.base.tups b xs q) (fun _ z => by cases z), fun b o u q => keep b _ (I.base.frzs b o u q) (fun _ z => by cases z), fun b ps q => ?_⟩, I.loc, I.cell, no _ I.free, fun x c q => no _ (I.freeC x c q), fun p hp => ?_, fun b o q => ?_, I.len⟩
  · obtain ⟨m, e1⟩ := I.base.tbls b ps q
    exact ⟨m, keep b _ e1 (fun _ z => by cases z)⟩
  · obtain ⟨h1, h2, h3⟩ := I.pin p hp
    exact ⟨h1, no _ h2, h3⟩
  · have ne : b ≠ a := fun z => by rw [z, forget_at] at q; cases q
    rw [forget_ne ne] at q
    exact (I.hok b o q).stay (fun c v _ r => r) (fun c r => keep c _ r (fun _ z => by cases z)) fun c xs r => keep c _ r (fun _ z => by cases z)
theorem madeX_inv {h' : Heap} {vs : List Value} (I : Inv X pins σ H s) (hm : Heap.MadeExcOf s.heap h' a (.ref C) vs) : Inv X pins σ (upd H a (newX a C)) { s with heap := h' } := by
  have nd : H a = none := by
    cases q : H a with
    | none => rfl
    | some o =>
      obtain ⟨u, hu⟩ := (I.hok a o q).there
      rw [hm.new] at hu
      cases hu
  obtain ⟨t, e0, _, _⟩ := hm.there
  have ne : ∀ b o, s.heap.get? b = some o → b ≠ a := fun b o q z => by rw [z, hm.new] at q; cases q
  have un : Un X.fs [] H (upd H a (newX a C)) s.heap h' := by
    refine ⟨fun b o q m _ _ => hm.keeps b o q, fun b o q m _ _ => ⟨o.slots, hm.keeps b o q⟩, fun b o q m _ => ?_, fun b o q _ => ⟨o, hm.keeps b o q⟩, fun b xs q => ?_, fun b o z q => ?_, fun b ps q => ⟨#[], ?_⟩⟩
    · rw [upd_ne (ne b o q)]; exact m
    · rw [upd_ne (ne_of_none q nd)]; exact q
    · rw [upd_ne (ne_of_none q nd)]; exact q
    · rw [upd_ne (ne_of_none q nd), q]; simp
  refine I.un (t' := s.toks) un fun b o q => ?_
  by_cases za : b = a
  · subst za
    rw [upd_same] at q
    cases q
    exact newX_ok e0
  · rw [upd_ne za] at q
    exact (I.hok b o q).stay (fun c v _ r => hm.keeps c v r) (fun c r => by rw [upd_ne (ne_of_none r nd)]; exact r) fun c xs r => by rw [upd_ne (ne_of_none r nd)]; exact r
end
theorem fn_there {K : PySem.W.Frag} {h : Heap} {f : Addr} (X : K.In h) (e : PySem.W.isFn K (.ref f) = true) : ∃ o, h.get? f = some o ∧ o.cls = .type "function" := by
  unfold PySem.W.isFn at e
  have e := beq_iff_eq.mp e
  unfold PySem.W.typeIn at e
  obtain ⟨o, ho, hc⟩ := Option.map_eq_some_iff.mp e
  exact ⟨o, X _ _ ho, hc⟩
def tRaiseI (C : Addr) (sp : Sp) (E : XK) (t : TA) : TS := fun _ σ H => t σ H fun vs H1 => vs.length ≤ sizeLine ∧ ∀ a, H1 a = none → sp (.ref a :: vs) (upd H1 a (newX a C)) (fun v H2 => v = .non ∧ ∃ dx, dx ≠ 0 ∧ H2 a = some (hadX a C dx) ∧ E (.ref C) (some dx) (forget a H2)) E0
/-- raise x(..) where the class has an __init__ that gives attributes -/
theorem ps_raiseI {X : Cx} {E : XK} {x : Str} {C fI : Addr} {fd : FuncData} {k : Nat} {ps : List Str} {sp : Sp} {bmB : List Value} {B newId initId : String} {e₀ : Expr} {rest : List Expr} {np cpos pos : Pos} {t : TA} (W : Wants X E) (hc : X.calm = true) (hg : Gl X x) (hm : X.mg x = some (.ref C))
    (q : excII X.K C bmB newId fI = true) (FB : ExcBaseFacts B newId initId bmB) (hfn : PySem.W.isFn X.K (.ref fI) = true) (F : FnOk X.prog X.w X.K X.mg X.base CX0 k fI fd ps sp) (hb : Binds X.K fd ps []) (hr : Room (k + 1) X.A) (ha : PA X (e₀ :: rest) t) (hex : X.ex = [] := by rfl) (hdb : (x == ("__debug__" : Str)) = false := by decide)
    (he : starEach (e₀ :: rest) X.env = (false, eval e₀ X.env) :: starEach rest X.env := by rfl) (hpl : (backTo cpos (starEach rest X.env)).any (·.1) = false := by rfl) :
    PS X (.Raise (some (.Call (.Name x np) (e₀ :: rest) [] cpos)) none pos) (tRaiseI C sp E t) := by
  intro pins s σ H D I h
  obtain ⟨bm, N, nm, qn, bs, hdct, sn, sub, ab, col, dd, k0, k1, k2, k3, k5, mN, hC, hN, hi, T⟩ := excII_of I.mod.kin q
  have hany : (backTo cpos (starEach (e₀ :: rest) X.env)).any (·.1) = false := by
    rw [he]
    exact hpl
  have hargs := ha cpos pins s σ H _ I h
  refine Raise_call_initT (C := C) (nm := nm) (q := qn) (N := N) (bs := bs) (bm := bm) (hdct := hdct) (sn := sn) (sub := sub) (ab := ab) (col := col) (dd := dd) (k0 := k0) (k1 := k1) (k2 := k2) (k3 := k3) (k5 := k5) FB (mN := mN) (T.hasType FB.hasBase) (I.ok.hd hc) hany hi
    (ld_glob I hg hm ⟨rfl, ?_⟩ hdb)
  rw [he] at hargs ⊢
  refine Calls.evalArgs_plain (thn hargs fun us s2 ⟨vs, H1, I1, r, hz, hq⟩ => ⟨rfl, by show us.length ≤ sizeLine; rw [← r.length]; exact hz, I1.bk _ _ hC, hN.keeps I1.bk, T.keeps I1.bk, ?_, fun h' a hx => ?_⟩)
  · exact fn_there I1.kIn hfn
  · have I2 := madeX_inv I1 hx
    have nd : H1 a = none := by
      cases q : H1 a with
      | none => rfl
      | some o =>
        obtain ⟨u, hu⟩ := (I1.hok a o q).there
        rw [hx.new] at hu
        cases hu
    have hs := hq a nd
    have r2 : Vals (V.ref a :: vs) (Value.ref a :: us) := .cons rfl r
    have hl : (Value.ref a :: us ++ []).length = ps.length := by
      have e := r2.length
      rw [F.len _ _ _ _ hs] at e
      rw [List.append_nil]
      exact e.symm
    refine wpAny_call (codeAny_mono (F.run _ X.stack _ _ ⟨Value.ref a :: us, []⟩ (Value.ref a :: us) _ _ E0 (hr.make C us []) (I2.env0.make C us []) (by have := hb _ (Value.ref a :: us) I2.kIn hl; rw [List.append_nil] at this; exact this) r2 hs) fun r s' hq' => ?_)
    cases r with
    | error e => exact False.elim hq'
    | ok fl =>
      cases fl with
      | ret u =>
        obtain ⟨v, H', I3, rv, ev, dx, d0, ea, hE⟩ := I2.after hq'
        subst ev
        obtain ⟨⟨t0, g1⟩, _⟩ := I3.hok a _ ea
        refine ⟨rv, some dx, t0, I3.bk _ _ hC, g1, W.madeN pins σ _ s' a _ (some dx) _ _ (I3.forget ea) forget_at ?_ g1 ⟨rfl, ⟨_, rfl⟩, .inr rfl⟩ rfl rfl hE⟩
        cases q0 : X.s₀.heap.get? a with
        | none => rfl
        | some o =>
          obtain ⟨o', z⟩ := I1.base.there a o q0 (by rw [hex]; simp)
          rw [hx.new] at z
          cases z
      | next => exact False.elim hq'
      | brk => exact False.elim hq'
      | cont => exact False.elim hq'
end L2
namespace L2
open PySem PySem.Spec PyProof.Rows PySem.W
section
variable {prog : Program} {w : World} {A : Around} {E : Value → Shared → Prop} {s : Shared} {K : Frag} {a D : Addr}
theorem exc_attr {expr : Bool} {name : Str} {v : Value} {ob od : Obj} {Q : Value → Shared → Prop} (X : K.In s.heap) (x : ExcAt a D s.heap) (k : ExcKit K D) (I : InstAt s.heap a ob D (some od)) (hf : findObj K D (some od) name = some (.value v)) (hh : handedIn v = true) (h : Q v { s with toks := s.toks + 1 }) :
    wpAny (model prog w) A (getAttr (.ref a) name expr) Q E s := by
  obtain ⟨hh', g, d, t, os⟩ := s
  have l0 := exc_ty (M := model prog w) x
  have l1 := looks_findIn (M := model prog w) X k.ga
  have l2 := looks_findIn (M := model prog w) X k.gt
  have l4 := looks_find (M := model prog w) X I hf
  unfold getAttr
  refine wpAny_bind (wpAny_mkText ?_)
  unfold getAttrBy
  refine wpAny_holding (wpAny_bind (Looks.at l0 (wpAny_bind (Looks.at l1 ?_))))
  show wpAny _ _ (getAttrByItsOwn _ _ _ _ _ _) _ _ _
  unfold getAttrByItsOwn hookBefore
  refine wpAny_bind (Looks.at (t := typeLookup (.ref D) "__getattr__") l2 ?_)
  refine wpAny_bind (wpAny_attempt (wpAny_holding ?_))
  unfold callGetattribute boundAndCalled
  rw [if_neg (by cases expr <;> decide)]
  refine wpAny_bind (wpAny_of_eq (F.excAttr_ValueError.ga.bind (.ref a)) ?_)
  refine wpAny_call (codeAny_call_builtin F.excAttr_ValueError.ga.plain F.entry_bexc_ga (exc_check X x k ?_))
  unfold Builtin.«object.__getattribute__»
  refine wpAny_bind (wpAny_of_eq (a := (Value.ref a, [Value.str name t])) rfl ?_)
  refine wpAny_bind (wpAny_of_eq (a := name) rfl (wpAny_bind (Looks.at l0 (wpAny_bind (Looks.at l4 ?_)))))
  refine wpAny_pure ?_
  exact handed_on hh h
end
def tFldX (K : Frag) (ta : TE) (f : Str) : TE := fun σ H Q => ta σ H fun x H1 => ∃ a D dx fs v, x = .ref a ∧ H1 a = some (excO a (.ref D) (some dx)) ∧ dx ≠ 0 ∧ ExcKit K D ∧ hasDictIn K D = true ∧ findIn K (.ref D) f = some none ∧ H1 dx = some (.xd fs) ∧ fs.lookup f = some v ∧ Q v H1
/-- e.f of a held exception -/
theorem pe_fldX {X : Cx} {e : Expr} {f : Str} {pos : Pos} {ta : TE} (he : PE X e ta) (hb : attributeBase e f X.env (eval e X.env) = eval e X.env := by rfl) : PE X (.Attribute e f pos) (tFldX X.K ta f) := by
  intro pins s σ H Q I h
  refine attr_of hb (thn (he pins s σ H _ I h) fun u s1 ⟨x, H1, I1, rx, a, D, dx, fs, v, ex, ea, d0, k, hd, hn, ed, l, q⟩ => ?_)
  subst ex
  obtain rfl : u = Value.ref a := rx
  obtain ⟨⟨ob, vs, e1, e2, e3, e4⟩, _⟩ := I1.hok a _ ea
  obtain ⟨mA, ns, r⟩ := I1.hok dx _ ed
  have e5 := (e4 dx rfl).resolve_left d0
  obtain ⟨od, ho, hl⟩ := lookIn_ns ns
  obtain ⟨u, hu, ru⟩ := RelO.some_of (v := v) (o := mA f) (by rw [← l]; exact r f)
  have I0 : InstAt s1.heap a ob D (some od) := ⟨e1, e2, by unfold notCls; rw [e3], by rw [e5]; exact ho⟩
  exact exc_attr I1.kIn ⟨ob, vs, e1, e2, e3⟩ k I0 (findObj_own hd hn rfl (by rw [hl, hu])) (handed_of ru) ⟨v, H1, I1.tok _, ru, q⟩
end L2

/-! OWN RULES: dict(a list of pairs), sum(a list of ints), the types of data. -/
namespace L2
open PySem PySem.Spec PyProof.Rows
section
variable {prog : Program} {w : World} {A : Around} {E : Value → Shared → Prop} {s : Shared}
end

section
variable {prog : Program} {w : World} {A : Around} {R : Result → Shared → Prop} {I : Addr} {fp wr : List Addr} {n : Nat} {P : Nat → Value → Prop} {St : Nat → Heap → Prop}
end
section
variable {X : Cx}
end
/-! ### the types of data -/
theorem k_s_l (K : PySem.W.Frag) : PySem.W.kitOne K (.type "str") (.type "list") = some false := by first | rfl | kernel_rfl
theorem k_i_l (K : PySem.W.Frag) : PySem.W.kitOne K (.type "int") (.type "list") = some false := by first | rfl | kernel_rfl
theorem k_b_l (K : PySem.W.Frag) : PySem.W.kitOne K (.type "bool") (.type "list") = some false := by first | rfl | kernel_rfl
theorem k_n_l (K : PySem.W.Frag) : PySem.W.kitOne K (.type "NoneType") (.type "list") = some false := by first | rfl | kernel_rfl
theorem k_t_l (K : PySem.W.Frag) : PySem.W.kitOne K (.type "tuple") (.type "list") = some false := by first | rfl | kernel_rfl
theorem k_i_s (K : PySem.W.Frag) : PySem.W.kitOne K (.type "int") (.type "str") = some false := by first | rfl | kernel_rfl
theorem k_b_s (K : PySem.W.Frag) : PySem.W.kitOne K (.type "bool") (.type "str") = some false := by first | rfl | kernel_rfl
theorem k_n_s (K : PySem.W.Frag) : PySem.W.kitOne K (.type "NoneType") (.type "str") = some false := by first | rfl | kernel_rfl
theorem k_t_s (K : PySem.W.Frag) : PySem.W.kitOne K (.type "tuple") (.type "str") = some false := by first | rfl | kernel_rfl
theorem k_l_s (K : PySem.W.Frag) : PySem.W.kitOne K (.type "list") (.type "str") = some false := by first | rfl | kernel_rfl
end L2

/-! OWN RULES: set(a list of texts), its len; list(reversed(a list)). -/
namespace L2
open PySem PySem.Spec PyProof.Rows
/-! ### unlike ones -/
section
variable {prog : Program} {w : World} {A : Around} {R : Result → Shared → Prop} {I : Addr} {fp wr : List Addr} {n : Nat} {P : Nat → Value → Prop} {St : Nat → Heap → Prop}
end
section
variable {X : Cx}
end
end L2

namespace L2
open PySem PySem.Spec PyProof.Rows
/-! ### list(reversed(l)) -/
section
variable {prog : Program} {w : World} {A : Around} {E : Value → Shared → Prop} {s : Shared} {r : Addr}
end
section
variable {X : Cx}
theorem b_reversed : bootBuiltins "reversed" = some (.type "reversed") := by decide +kernel
end
end L2

/-! OWN RULES: a range with a step, a list unpacked, a text told 0 or 1 times, in / not in by data. -/
namespace L2
open PySem PySem.Spec PyProof.Rows
/-! ### range with a step -/
/-! ### a, b = a list -/
section
variable {prog : Program} {w : World} {A : Around} {E : Value → Shared → Prop}
end
/-! ### a text, 0 or 1 times -/
/-! ### in, by data -/
end L2

/-! OWN RULES: a walk over reversed(list). -/
namespace L2
open PySem PySem.Spec PyProof.Rows
def Itv (K : PySem.W.Frag) (a : Addr) (n : Nat) : It :=
  ⟨fun i H => i < n ∧ ∃ xs, SqL K H a xs ∧ xs.length = n, fun i H v H' => H' = H ∧ ∀ xs, SqL K H a xs → xs.length = n → xs[n - 1 - i]? = some v, fun i _ => n ≤ i⟩
theorem turn_rev {P : Program} {w : World} {K : PySem.W.Frag} {tg : Expr} (a it : Addr) (n : Nat) : Turn P w K tg (Itv K a n) [it] it (fun i h => i ≤ n ∧ h.IsRevIter it a ((n : Int) - 1 - (i : Int))) where
  mem := by simp
  obj := fun i h st b hb => by
    have e : b = it := by simpa using hb
    subst e
    obtain ⟨_, o, e, c, d⟩ := st
    exact ⟨o, e, fun v z => by rw [d] at z; cases z⟩
  keep := fun i h h' st k => ⟨st.1, st.2.at fun o e => k it (by simp) o e⟩
  item := by
    intro X hP hw hK hc i pins s σ H E I hf st hg
    subst hP hw hK
    obtain ⟨hi, xs, hq, hn⟩ := hg
    obtain ⟨its, rv, p, hz⟩ := I.list hq
    have hlt : n - 1 - i < xs.length := by omega
    obtain ⟨u, hu, ru⟩ := rv.get (List.getElem?_eq_getElem hlt)
    obtain ⟨f0, f1, f2, f3, f4, f5⟩ := hf it (by simp)
    have e0 : ((n : Int) - 1 - (i : Int)) = ((n - 1 - i : Nat) : Int) := by omega
    obtain ⟨_, st⟩ := st
    rw [e0] at st
    refine wpAny_pyNext_rev_item st p.isList (x := u) (by simpa using hu) fun h' st' sb => ?_
    have I1 : Inv X pins σ H { s with heap := h' } := I.turned (t' := s.toks) (fun b o hb e => (sb.2 b hb).trans e) f0 f1 f3 f4 f5
    obtain ⟨o, e, c, d⟩ := id st'
    refine ⟨u, rfl, go_of (s := { s with heap := h' }) e c d (by decide) ⟨xs[n - 1 - i], H, I1, ru, ⟨rfl, fun ys hy _ => by rw [I.list_inj hy hq]; exact List.getElem?_eq_getElem hlt⟩, ⟨by omega, ?_⟩, fun b hb => (hf b hb).1⟩⟩
    have e1 : ((n - 1 - i : Nat) : Int) - 1 = (n : Int) - 1 - ((i + 1 : Nat) : Int) := by omega
    rw [e1] at st'
    exact st'
  done := by
    intro X hP hw hK hc i pins s σ H E I hf st hg
    subst hP hw hK
    obtain ⟨f0, f1, f2, f3, f4, f5⟩ := hf it (by simp)
    obtain ⟨h1, st⟩ := st
    have hg' : n ≤ i := hg
    have e0 : ((n : Int) - 1 - (i : Int)) = -1 := by omega
    rw [e0] at st
    exact wpAny_pyNext_rev_end (I.ok.hd hc) st fun h' eb => ⟨rfl, I.turned (t' := s.toks) (fun b o hb e => eb b o hb e) f0 f1 f3 f4 f5⟩
  self := fun _ _ _ _ _ st h => wpAny_pyIter_revIter st.2 h
def iRev (K : PySem.W.Frag) (ta : TA) : TI := fun σ H R => ta σ H fun vs H1 => ∃ a xs, vs = [.ref a] ∧ SqL K H1 a xs ∧ R (Itv K a xs.length) H1
theorem pi_rev {X : Cx} {tg l : Expr} {ta : TA} {p pos : Pos} (hg : Gl X "reversed") (hm : X.mg "reversed" = none) (ha : PA X [l] ta) (hs : starEach [l] X.env = [(false, eval l X.env)] := by rfl) : PI X tg (.Call (.Name "reversed" p) [l] [] pos) (iRev X.K ta) := by
  intro pins s σ H R I h
  refine Call_ (ld_blt (u := .type "reversed") I hg hm b_reversed (PyProof.Rows.callWith_type1 (thn (ha pos pins s σ H _ I h) fun us s1 ⟨vs, H1, I1, r1, q1⟩ => ?_) hs rfl))
  obtain ⟨a, xs, rfl, hq, q⟩ := q1
  obtain ⟨u, rfl, ru⟩ := vals1 r1
  cases ru
  obtain ⟨its, rv, pl, hz⟩ := I1.list hq
  have hlen := rv.length
  have la : a < s1.heap.objs.size := let ⟨o, n, e, _⟩ := pl; Heap.lt_size e
  refine call_reversed_list pl.isList (wpAny_pyIter_revIter (l := a) (i := ((its.toArray.size : Int) - 1)) ⟨_, Heap.get?_push_size _ rfl, rfl, rfl⟩ ?_)
  refine ⟨s1.heap.objs.size, [s1.heap.objs.size], _, _, H1, rfl, I1.kept (t' := s1.toks) fun b o e => Heap.get?_push_of_some _ e, turn_rev a _ xs.length, ⟨Nat.zero_le _, ?_⟩, fun b hb => ?_, q⟩
  · have e : ((xs.length : Int) - 1 - ((0 : Nat) : Int)) = ((its.toArray.size : Int) - 1) := by simp; omega
    rw [e]
    exact ⟨_, Heap.get?_push_size _ rfl, rfl, rfl⟩
  · have e : b = s1.heap.objs.size := by simpa using hb
    subst e
    exact I1.fpOk (Nat.le_refl _) (I1.hok.fresh (Nat.le_refl _))
theorem comp_rev {K : PySem.W.Frag} {xs : Nat} {js : List Nat} {g : TG} {tt : TT} {te : TE} {σ : St} {Q : VK} {H : Hp} {a : Addr} {ys : List V} (Pv : Nat → List V → St → Hp → Prop) (h0 : Pv 0 [] (List.replicate xs none ++ capOf σ js) H) (hl : ∀ i acc σ' H', Pv i acc σ' H' → acc.length ≤ i) (hz : ys.length ≤ sizeLine)
    (hq : ∀ i acc σ' H', i ≤ ys.length → Pv i acc σ' H' → SqL K H' a ys)
    (hs : ∀ i x acc σ' H', ys[ys.length - 1 - i]? = some x → Pv i acc σ' H' → g x σ' H' fun σ2 H2 => tt σ2 H2 fun b H3 => if b = true then te σ2 H3 fun y H4 => Pv (i + 1) (acc ++ [y]) σ2 H4 else Pv (i + 1) acc σ2 H3)
    (hd : ∀ acc σ' H', Pv ys.length acc σ' H' → ∀ p, H' p = none → Q (.ref p) (upd H' p (.lst acc))) : CompGoal xs js g tt te σ Q (Itv K a ys.length) H :=
  comp_walk Pv h0 hl hz (fun i acc σ' H' h p => ⟨h, ys, hq _ _ _ _ (Nat.le_of_lt h) p, rfl⟩) (fun acc σ' H' p => Nat.le_refl _)
    (fun i x acc σ' H' H2 h p y => by
      obtain ⟨e, y⟩ := y
      subst e
      exact hs i x acc σ' _ (y ys (hq _ _ _ _ (Nat.le_of_lt h) p) rfl) p) hd
theorem comp_enum {K : PySem.W.Frag} {xs : Nat} {js : List Nat} {g : TG} {tt : TT} {te : TE} {σ : St} {Q : VK} {H : Hp} {a : Addr} {ys : List V} (Pv : Nat → List V → St → Hp → Prop) (h0 : Pv 0 [] (List.replicate xs none ++ capOf σ js) H) (hl : ∀ i acc σ' H', Pv i acc σ' H' → acc.length ≤ i) (hz : ys.length ≤ sizeLine)
    (hq : ∀ i acc σ' H', i ≤ ys.length → Pv i acc σ' H' → SqL K H' a ys)
    (hs : ∀ i x acc σ' H' t, ys[i]? = some x → Pv i acc σ' H' → H' t = none → g (.ref t) σ' (upd H' t (.tup [.int i, x])) fun σ2 H2 => tt σ2 H2 fun b H3 => if b = true then te σ2 H3 fun y H4 => Pv (i + 1) (acc ++ [y]) σ2 H4 else Pv (i + 1) acc σ2 H3)
    (hd : ∀ acc σ' H', Pv ys.length acc σ' H' → ∀ p, H' p = none → Q (.ref p) (upd H' p (.lst acc))) : CompGoal xs js g tt te σ Q (Ite K a) H :=
  comp_walk Pv h0 hl hz (fun i acc σ' H' h p => ⟨ys, ys[i], hq _ _ _ _ (Nat.le_of_lt h) p, by simp [h]⟩) (fun acc σ' H' p => ⟨ys, hq _ _ _ _ (Nat.le_refl _) p, Nat.le_refl _⟩)
    (fun i x acc σ' H' H2 h p y => by
      obtain ⟨t, ht, rfl, y⟩ := y
      obtain ⟨x, hx, rfl⟩ := y ys (hq _ _ _ _ (Nat.le_of_lt h) p)
      exact hs i x acc σ' H' t hx p ht) hd
end L2

/-! OWN RULES: enumerate of a tuple. -/
namespace L2
open PySem PySem.Spec PyProof.Rows
open AutoSeq1 (wpAny_loadPart')
theorem IsTuple_at {h h' : Heap} {a : Addr} {items : Array Value} (x : h.IsTuple a items) (k : ∀ o, h.get? a = some o → h'.get? a = some o) : h'.IsTuple a items := let ⟨o, e, r⟩ := x; ⟨o, k o e, r⟩
theorem IsTupleIter_at {h h' : Heap} {a t : Addr} {i : Nat} (x : h.IsTupleIter a t i) (k : ∀ o, h.get? a = some o → h'.get? a = some o) : h'.IsTupleIter a t i := let ⟨o, e, r⟩ := x; ⟨o, k o e, r⟩
section
variable {prog : Program} {w : World} {A : Around} {E : Value → Shared → Prop} {s : Shared}
theorem nextOf_tuple_item {it t : Addr} {i : Nat} {items} {x : Value} {Q : Value → Shared → Prop} (hit : s.heap.IsTupleIter it t i) (ht : s.heap.IsTuple t items) (hx : items[i]? = some x)
    (hQ : ∀ h', h'.IsTupleIter it t (i + 1) → Heap.SameBut it s.heap h' → Q x { s with heap := h' }) : wpAny (model prog w) A (Builtin.SmallTypes.nextOf (.ref it)) Q E s := by
  obtain ⟨o, ho, hc, hd⟩ := id hit
  obtain ⟨ol, hol, _, nl, hdl⟩ := ht
  unfold Builtin.SmallTypes.nextOf
  refine wpAny_bind (wpAny_callSpecial?_slot (name := Str.ofString "__next__") hit.typeIs F.slot_tuple_iterator_next
    (wpAny_call_entry F.slot_tuple_iterator_next hit.typeIs F.entry_tuple_iterator_next ?_ (F.args_tuple_iterator_next_1 _)))
  show wpAny _ _ (field (.ref it) 0 >>= _) _ _ s
  refine wpAny_bind (wpAny_field ho hd (x := .ref t) rfl ?_)
  show wpAny _ _ (if (Value.ref t == Value.none) = true then _ else _) _ _ s
  rw [if_neg (show ¬ ((Value.ref t == Value.none) = true) from Bool.false_ne_true)]
  show wpAny _ _ (field (.ref it) 1 >>= _) _ _ s
  refine wpAny_bind (wpAny_field ho hd (x := .int i 0) rfl ?_)
  show wpAny _ _ (seqItems? (.ref t) >>= _) _ _ s
  refine wpAny_bind (wpAny_seqItems hol hdl ?_)
  simp only [Int.toNat_natCast, hx]
  refine wpAny_bind (wpAny_setField ho hd (by simp) (wpAny_pure ⟨x, rfl, wpAny_pure (hQ _ ?_ (Heap.SameBut.update ..))⟩))
  exact ⟨_, Heap.get?_update_self _ ho (Obj.isFreed_of_fields (Obj.data_mapFields hd _)), (Obj.cls_mapFields ..).trans hc, by
    rw [Obj.data_mapFields hd]; simp [rawInt]⟩
theorem nextOf_tuple_end {it t : Addr} {i : Nat} {items} {Q : Value → Shared → Prop} (hh : A.handled = none) (hit : s.heap.IsTupleIter it t i) (ht : s.heap.IsTuple t items) (hx : items[i]? = none)
    (hE : ∀ h' e, Heap.ExtBut it s.heap h' → (∃ o, h'.get? e = some o ∧ o.cls = .type "StopIteration") → E (.ref e) { s with heap := h' }) : wpAny (model prog w) A (Builtin.SmallTypes.nextOf (.ref it)) Q E s := by
  obtain ⟨o, ho, hc, hd⟩ := id hit
  obtain ⟨ol, hol, _, nl, hdl⟩ := ht
  unfold Builtin.SmallTypes.nextOf
  refine wpAny_bind (wpAny_callSpecial?_slot (name := Str.ofString "__next__") hit.typeIs F.slot_tuple_iterator_next
    (wpAny_call_entry F.slot_tuple_iterator_next hit.typeIs F.entry_tuple_iterator_next ?_ (F.args_tuple_iterator_next_1 _)))
  show wpAny _ _ (field (.ref it) 0 >>= _) _ _ s
  refine wpAny_bind (wpAny_field ho hd (x := .ref t) rfl ?_)
  show wpAny _ _ (if (Value.ref t == Value.none) = true then _ else _) _ _ s
  rw [if_neg (show ¬ ((Value.ref t == Value.none) = true) from Bool.false_ne_true)]
  show wpAny _ _ (field (.ref it) 1 >>= _) _ _ s
  refine wpAny_bind (wpAny_field ho hd (x := .int i 0) rfl ?_)
  show wpAny _ _ (seqItems? (.ref t) >>= _) _ _ s
  refine wpAny_bind (wpAny_seqItems hol hdl ?_)
  simp only [Int.toNat_natCast, hx]
  refine wpAny_bind (wpAny_rule (wpAny_bind (wpAny_setField ho hd (by simp) ?_)))
  show wpAny _ _ (newExc (.type "StopIteration") [] >>= _) _ _ _
  refine wpAny_bind ?_
  simp only [newExc, newTuple]
  refine wpAny_bind (wpAny_newObj_type ?_ (by size_fits))
  refine wpAny_bind (m := firstArgMember _ _) (wpAny_of_eq (a := Value.none) (by first | rfl | (simp only [firstArgMember]; rfl)) ?_)
  refine wpAny_newObj_type ?_ (by size_fits)
  simp only [raiseNew]
  refine wpAny_bind (wpAny_handled ?_)
  first | rw [show A.in1.handled = none from hh] | rw [hh]
  refine wpAny_bind (wpAny_pure (wpAny_throw ?_))
  exact hE _ _ (((Heap.SameBut.update ..).extBut.push _).push _) ⟨_, Heap.get?_push_size _ rfl, rfl⟩
end
theorem pyNext_enum_endT {prog : Program} {w : World} {A : Around} {E : Value → Shared → Prop} {s : Shared} {e it l : Addr} {i : Nat} {items : Array Value} {old : Value} {Q : Option Value → Shared → Prop} (hh : A.handled = none)
    (he : IsEnum s.heap e it i old) (hit : s.heap.IsTupleIter it l i) (hl : s.heap.IsTuple l items) (hx : items[i]? = none)
    (hQ : ∀ h', Heap.ExtBut it s.heap h' → Q none { s with heap := h' }) : wpAny (model prog w) A (pyNext (.ref e)) Q E s := by
  have hT : s.TypeIs (.ref e) "enumerate" := ⟨_, he, rfl⟩
  unfold pyNext
  refine wpAny_bind (wpAny_attempt (wpAny_callSpecial?_slot (name := Str.ofString "__next__") hT F.slot_enumerate_next
    (wpAny_call_entry F.slot_enumerate_next hT F.entry_enumerate_next ?_ (F.args_enumerate_next_1 _))))
  show wpAny _ _ (field (.ref e) 2 >>= _) _ _ _
  refine wpAny_bind (wpAny_field he rfl (x := .ref it) rfl ?_)
  refine wpAny_bind (nextOf_tuple_end hh hit hl hx fun h' x he' hx' => ?_)
  obtain ⟨o, ho, hc⟩ := hx'
  refine wpAny_bind (wpAny_isInstance (T := "StopIteration") (b := true) ⟨o, ho, hc⟩ isSubtype_stop ?_)
  exact wpAny_pure (hQ _ he')
theorem draws_tuple {prog : Program} {w : World} {A : Around} (hh : A.handled = none) (it l : Addr) (hne : l ≠ it) (items : Array Value) :
    Draws prog w A it [it, l] items.size (fun i v => items[i]? = some v) (fun i h => h.IsTupleIter it l i ∧ h.IsTuple l items) where
  live := fun _ _ st => let ⟨o, ho, _⟩ := st.1; ⟨o, ho⟩
  frame := fun _ _ _ st hk => ⟨IsTupleIter_at st.1 fun o e => hk it (by simp) o e, IsTuple_at st.2 fun o e => hk l (by simp) o e⟩
  item := fun i s Q E hi st hQ => by
    refine nextOf_tuple_item st.1 st.2 (x := items[i]) (by simp [hi]) fun h' hit' hs' => ?_
    exact hQ _ h' s.toks (by simp [hi]) ⟨hit', st.2.extBut hs'.extBut hne⟩ hs'
  done := fun s Q E st hE => nextOf_tuple_end hh st.1 st.2 (by simp) hE
theorem meets_enumerate_newT (l : Addr) (items : Array Value) (n : Nat) (dct : Option Addr) (sl : Array (Option Value)) :
    Meets (Builtin.«enumerate.__new__» ⟨[.type "enumerate", .ref l], []⟩) (fun _ R s => s.heap.get? l = some { cls := .type "tuple", dict := dct, data := .seq items n, slots := sl } ∧
      R (.ok (.ret (.ref (s.heap.push { cls := .type "tuple_iterator", data := .fields #[.ref l, .int 0 0] }).objs.size)))
        { s with heap := (s.heap.push { cls := .type "tuple_iterator", data := .fields #[.ref l, .int 0 0] }).push { cls := .type "enumerate", data := .fields #[.none, .bool false, .ref s.heap.objs.size, rawInt 0, .none, .none] } }) :=
  .of_wp fun prog w A R s h => by
    obtain ⟨hp, g, d, tk, os⟩ := s; obtain ⟨hl, h⟩ := h
    have hsub := sub_enumerate
    have hL : Heap.IsTuple (Shared.heap ⟨hp, g, d, tk, os⟩) l items := ⟨_, hl, rfl, n, rfl⟩
    wp_walk using wpAny_loadPart' hl
    refine wpAny_stack_any fun st => wpAny_pure ?_
    split
    · rename_i c _ _ _ _ _
      cases (c == Value.type "enumerate")
      · wp_walk using wpAny_loadPart' hl, wpAny_pyIter_tuple hL
        exact ⟨_, rfl, h⟩
      · wp_walk using wpAny_loadPart' hl, wpAny_pyIter_tuple hL
        exact ⟨_, rfl, h⟩
    · wp_walk using wpAny_loadPart' hl, wpAny_pyIter_tuple hL
      exact ⟨_, rfl, h⟩
section
variable {prog : Program} {w : World} {A : Around} {E : Value → Shared → Prop} {s : Shared}
theorem call_enumerate_tuple {l : Addr} {items : Array Value} {Q : Value → Shared → Prop} (hL : s.heap.IsTuple l items)
    (h : ∀ h', IsEnum h' (s.heap.objs.size + 1) s.heap.objs.size 0 .none → h'.IsTupleIter s.heap.objs.size l 0 → h'.objs.size = s.heap.objs.size + 2 →
      (∀ b o, s.heap.get? b = some o → h'.get? b = some o) → Q (.ref (s.heap.objs.size + 1)) { s with heap := h' }) :
    wpAny (model prog w) A (call (.type "enumerate") [.ref l]) Q E s := by
  obtain ⟨⟨c, dct, dt, sl⟩, hl, hc, n, hd⟩ := hL
  replace hc : c = .type "tuple" := hc
  replace hd : dt = .seq items n := hd
  subst hc hd
  refine callType_new F.called_enumerate (by decide) (F.typeCall_enumerate_1 _) (F.newCall_enumerate_1 _) (fun obj => F.args_object_init_2 obj _) F.entry_enumerate_new
    (meets_enumerate_newT l items n dct sl) ⟨hl, ?_⟩
  have hz : (s.heap.push { cls := .type "tuple_iterator", data := .fields #[.ref l, .int 0 0] }).objs.size = s.heap.objs.size + 1 := Heap.size_push ..
  show _ ∧ _
  rw [hz]
  have he : IsEnum ((s.heap.push { cls := .type "tuple_iterator", data := .fields #[.ref l, .int 0 0] }).push
      { cls := .type "enumerate", data := .fields #[.none, .bool false, .ref s.heap.objs.size, rawInt 0, .none, .none] }) (s.heap.objs.size + 1) s.heap.objs.size 0 .none := by
    have := Heap.get?_push_size (s.heap.push { cls := .type "tuple_iterator", data := .fields #[.ref l, .int 0 0] })
      (o := { cls := .type "enumerate", data := .fields #[.none, .bool false, .ref s.heap.objs.size, rawInt 0, .none, .none] }) rfl
    rw [hz] at this; exact this
  refine ⟨⟨_, he, rfl⟩, h _ he ⟨_, Heap.get?_push_of_some _ (Heap.get?_push_size _ rfl), rfl, rfl⟩ (by rw [Heap.size_push, hz]) fun b o x => Heap.get?_push_of_some _ (Heap.get?_push_of_some _ x)⟩
end
/-- the tuple at a, numbered -/
def IteT (K : PySem.W.Frag) (a : Addr) : It :=
  ⟨fun i H => ∃ xs x, SqT K H a xs ∧ xs[i]? = some x, fun i H v H' => ∃ t, H t = none ∧ v = .ref t ∧ ∀ xs, SqT K H a xs → ∃ x, xs[i]? = some x ∧ H' = upd H t (.tup [.int i, x]), fun i H => ∃ xs, SqT K H a xs ∧ xs.length ≤ i⟩
theorem turn_enumT {P : Program} {w : World} {K : PySem.W.Frag} {elts : List Expr} {k : Nat} {pos : Pos} (a e it : Addr) (ne : e ≠ it) (na : a ≠ it) (nb : a ≠ e) : Turn P w K (.Tuple elts k pos) (IteT K a) [e, it] e (fun i h => (∃ old, IsEnum h e it i old) ∧ h.IsTupleIter it a i) where
  mem := by simp
  obj := fun i h st b hb => by
    obtain ⟨⟨old, he⟩, o, hi, hc, hd⟩ := st
    simp at hb
    rcases hb with rfl | rfl
    · exact ⟨_, he, fun v z => by cases z⟩
    · exact ⟨o, hi, fun v z => by rw [hd] at z; cases z⟩
  keep := fun i h h' st kp => by
    obtain ⟨⟨old, he⟩, hi⟩ := st
    exact ⟨⟨old, kp e (by simp) _ he⟩, IsTupleIter_at hi fun o x => kp it (by simp) o x⟩
  item := by
    intro X hP hw hK hc i pins s σ H E I hf st hg
    subst hP hw hK
    obtain ⟨⟨old, he⟩, hit⟩ := st
    obtain ⟨xs, x, hq, hx⟩ := hg
    obtain ⟨its, rv, p, hz⟩ := I.tuple hq
    obtain ⟨u, hu, ru⟩ := rv.get hx
    have le : e < s.heap.objs.size := Heap.lt_size he
    have li : it < s.heap.objs.size := by obtain ⟨_, y, _⟩ := hit; exact Heap.lt_size y
    have hlt : i < its.toArray.size := by
      have := (List.getElem?_eq_some_iff.mp hu).1
      simpa using this
    refine wpAny_pyNext_enum_itemD (draws_tuple (A := X.A.in1) (I.ok.hd hc) it a na its.toArray) he ⟨hit, p⟩ hlt ne (by simp [ne, nb.symm]) fun u' h' tk hu' ho hit' hT hsz hk => ⟨_, rfl, ?_⟩
    have hu'' : u' = u := by
      have h1 : its[i]? = some u' := by simpa using hu'
      rw [hu] at h1
      exact (Option.some.inj h1).symm
    subst hu''
    refine wpAny_letOwnedTupleGo_enum ho fun h2 he2 hs2 => ?_
    have I1 : Inv X pins σ (upd H s.heap.objs.size (.tup [.int i, x])) { s with heap := s.heap.push { cls := .type "tuple", data := .seq #[.int i tk, u'] }, toks := tk + 1 } :=
      I.laid (fun b o q => Heap.get?_push_of_some _ q) (Nat.le_refl _) ⟨by show 2 ≤ sizeLine; decide, [.int i tk, u'], .cons ⟨_, rfl⟩ (.cons ru .nil), ⟨_, Heap.get?_push_size _ rfl, rfl, _, rfl⟩⟩
    have nn : ∀ b ∈ [e, it], b ≠ s.heap.objs.size := fun b hb => by
      simp at hb
      rcases hb with rfl | rfl
      · exact Nat.ne_of_lt le
      · exact Nat.ne_of_lt li
    have I2 : Inv X pins σ (upd H s.heap.objs.size (.tup [.int i, x])) { s with heap := h2, toks := tk + 1 } := by
      refine Inv.turnedL (s := { s with heap := s.heap.push { cls := .type "tuple", data := .seq #[.int i tk, u'] }, toks := tk + 1 }) I1 (h' := h2) (t' := tk + 1) (fp := [e, it]) (fun b o hb q => ?_) fun b hb => ?_
      · have b1 : b ≠ e := fun z => hb (by simp [z])
        have b2 : b ≠ it := fun z => hb (by simp [z])
        refine (hs2.2 b b1).trans ?_
        rcases Heap.get?_push_cases q with ⟨z1, z2⟩ | z
        · rw [z1, z2]; exact hT
        · exact hk b o b1 b2 z
      · obtain ⟨f0, f1, f2, f3, f4, f5⟩ := hf b hb
        exact ⟨by rw [upd_ne (nn b hb)]; exact f0, f1, f2, f3, f4, f5⟩
    refine ⟨.ref s.heap.objs.size, _, I2, rfl, ⟨_, I.fresh, rfl, fun ys hy => ⟨x, by rw [I.tuple_inj hy hq]; exact hx, rfl⟩⟩, ⟨⟨_, he2⟩, IsTupleIter_at hit'.1 fun o y => (hs2.2 it ne.symm).trans y⟩, fun b hb => ?_⟩
    rw [upd_ne (nn b hb)]
    exact (hf b hb).1
  done := by
    intro X hP hw hK hc i pins s σ H E I hf st hg
    subst hP hw hK
    obtain ⟨⟨old, he⟩, hit⟩ := st
    obtain ⟨xs, hq, hx⟩ := hg
    obtain ⟨its, rv, p, hz⟩ := I.tuple hq
    have hl := rv.length
    exact pyNext_enum_endT (I.ok.hd hc) he hit p (by simp; omega) fun h' eb => ⟨rfl, I.turnedL (t' := s.toks) (fp := [e, it]) (fun b o hb y => eb b o (fun z => hb (by simp [z])) y) hf⟩
  self := fun _ _ _ _ _ st h => wpAny_pyIter_enum st.1.choose_spec h
def iEnumT (K : PySem.W.Frag) (ta : TA) : TI := fun σ H R => ta σ H fun vs H1 => ∃ a, vs = [.ref a] ∧ (∃ xs, SqT K H1 a xs) ∧ R (IteT K a) H1
theorem pi_enumT {X : Cx} {elts : List Expr} {k : Nat} {tpos : Pos} {l : Expr} {ta : TA} {p pos : Pos} (hg : Gl X "enumerate") (hm : X.mg "enumerate" = none) (ha : PA X [l] ta) (hs : starEach [l] X.env = [(false, eval l X.env)] := by rfl) : PI X (.Tuple elts k tpos) (.Call (.Name "enumerate" p) [l] [] pos) (iEnumT X.K ta) := by
  intro pins s σ H R I h
  refine Call_ (ld_blt (u := .type "enumerate") I hg hm (by kernel_rfl) (PyProof.Rows.callWith_type1 (thn (ha pos pins s σ H _ I h) fun us s1 ⟨vs, H1, I1, r1, q1⟩ => ?_) hs rfl))
  obtain ⟨a, rfl, ⟨xs, hq⟩, q⟩ := q1
  obtain ⟨u, rfl, ru⟩ := vals1 r1
  cases ru
  obtain ⟨its, rv, pl, hz⟩ := I1.tuple hq
  have la : a < s1.heap.objs.size := let ⟨_, e, _⟩ := pl; Heap.lt_size e
  refine call_enumerate_tuple pl fun h' hE hI hsz hk => wpAny_pyIter_enum hE ?_
  refine ⟨s1.heap.objs.size + 1, [s1.heap.objs.size + 1, s1.heap.objs.size], _, _, H1, rfl, I1.kept (t' := s1.toks) hk, turn_enumT a _ _ (Nat.succ_ne_self _) (Nat.ne_of_lt la) (Nat.ne_of_lt (Nat.lt_succ_of_lt la)), ⟨⟨_, hE⟩, hI⟩, fun b hb => ?_, q⟩
  have hb' : s1.heap.objs.size ≤ b := by
    simp at hb
    rcases hb with rfl | rfl <;> omega
  exact I1.fpOk hb' (I1.hok.fresh hb')
theorem for_enumT {K : PySem.W.Frag} {a : Addr} {xs : List V} {g : TG} {tb : TS} {D : Ends} {σ : St} {H : Hp} (Pv : Nat → St → Hp → Prop) (h0 : Pv 0 σ H) (hl : ∀ i σ H, i ≤ xs.length → Pv i σ H → SqT K H a xs)
    (hs : ∀ i x σ H t, xs[i]? = some x → Pv i σ H → H t = none → g (.ref t) σ (upd H t (.tup [.int i, x])) fun σ2 H2 => tb { D with nx := Pv (i + 1), ct := Pv (i + 1), bk := D.nx } σ2 H2) (hd : ∀ σ H, Pv xs.length σ H → D.nx σ H) :
    ∃ W : Nat → Nat → St → Hp → Prop, (∃ m, W 0 m σ H) ∧ ∀ i m σ H, W i m σ H →
      ((IteT K a).stop i H ∧ D.nx σ H) ∨ ((IteT K a).go i H ∧ ∃ N : St → Hp → Prop, (∀ σ' H', N σ' H' → ∃ m', m' < m ∧ W (i + 1) m' σ' H') ∧ ∀ x H', (IteT K a).yld i H x H' → g x σ H' fun σ2 H2 => tb { D with nx := N, ct := N, bk := D.nx } σ2 H2) := by
  refine ⟨fun i m σ H => m = xs.length - i ∧ i ≤ xs.length ∧ Pv i σ H, ⟨xs.length, by simp, Nat.zero_le _, h0⟩, ?_⟩
  rintro i m σ H ⟨rfl, hi, p⟩
  have q := hl i σ H hi p
  by_cases hlt : i < xs.length
  · refine .inr ⟨⟨xs, xs[i], q, by simp [hlt]⟩, Pv (i + 1), fun σ' H' p' => ⟨xs.length - (i + 1), by omega, rfl, hlt, p'⟩, fun x H' y => ?_⟩
    obtain ⟨t, ht, rfl, y⟩ := y
    obtain ⟨x, hx, rfl⟩ := y xs q
    exact hs i x σ H t hx p ht
  · have e : i = xs.length := by omega
    subst e
    exact .inl ⟨⟨xs, q, Nat.le_refl _⟩, hd σ H p⟩
end L2

namespace L2
open PySem PySem.Spec PyProof.Rows
/-! ### index and remove on lists of texts; the text of a list -/
section
variable {X : Cx}
end
end L2

/-! OWN RULES: a comprehension with names of its own that a comprehension within it takes along. -/
namespace L2
open PySem PySem.Spec PyProof.Rows
/-! ### its own cells -/
section
variable {X : Cx} {pins : List (Addr × Obj)} {σ : St} {H : Hp} {s : Shared} {scope : Scope} {N : List Str} {xs : Nat} {js : List Nat} {cl : List (Str × Addr)} {fp : List Addr} {o : Obj}
end
section
variable {X : Cx} {scope : Scope} {N : List Str} {xs : Nat} {js : List Nat} {tg iter elt : Expr} {ifs : List Expr} {pos : Pos} {ti : TI} {g : TG} {tt : TT} {te : TE}
end
end L2

/-! OWN RULE over the hand layer: two dicts of whole numbers compared. -/
namespace L2
open PySem PySem.Spec PyProof.Rows
end L2

/-! OWN RULES: tuple(..) of a list or of a text. -/
namespace L2
open PySem PySem.Spec PyProof.Rows
end L2

/-! OWN RULES: zip of two lists in a for. -/
namespace L2
open PySem PySem.Spec PyProof.Rows
end L2

/-! OWN RULES: sorted(.., key=lambda .., reverse=True). -/
namespace L2
open PySem PySem.Spec PyProof.Rows PySem.W
section
variable {X : Cx} {pins : List (Addr × Obj)} {σ : St} {H : Hp} {s : Shared} {scope : Scope} {N : List Str} {js : List Nat} {cl : List (Str × Addr)} {qual : Str} {f : Addr} {cd : Value} {A : Around}
end
section
variable {X : Cx} {pins : List (Addr × Obj)} {σ : St} {H : Hp} {s : Shared} {scope : Scope} {cl : List (Str × Addr)} {qual name : Str} {params : Arguments} {body : Expr} {P c : Addr} {ps : Array Value} {lpos : Pos}
end
end L2

namespace L2
open PySem PySem.Spec PyProof.Rows PySem.W
section
variable {X : Cx} {pins : List (Addr × Obj)} {σ : St} {H : Hp} {s : Shared}
end
section
variable {X : Cx} {e body : Expr} {tl te : TE} {params : Arguments} {scope : Scope} {lpos pos p cp kp1 kp2 : Pos} {j : Nat} {P c : Addr} {qual p0 : Str} {N : List Str} {js : List Nat} {k : Nat}
end
end L2

/-! OWN RULES: a comprehension over a dict (it stays as it is from there on). -/
namespace L2
open PySem PySem.Spec PyProof.Rows PySem.W
section
variable {X : Cx} {pins : List (Addr × Obj)} {σ : St} {H : Hp} {s : Shared}
end
end L2

/-! OWN RULES: l.count(text), d.keys() gone through. -/
namespace L2
open PySem PySem.Spec PyProof.Rows
section
variable {X : Cx}
end
end L2

/-! OWN RULES: l.insert(number from nought on, anything). -/
namespace L2
open PySem PySem.Spec PyProof.Rows
section
variable {X : Cx}
end
end L2

namespace Net
open PySem L2
def top (i : Nat) : Stmt := PySem.Challenge.pw_netcourt_k71_strangers_and_variables.main.body.getD i (.Pass ⟨0, 0, 0, 0⟩)
abbrev s_NoPlace_init : Stmt := inClass (top 10) 0
abbrev s_is_made_of : Stmt := top 16
abbrev s_is_name : Stmt := top 17
abbrev s_is_whole : Stmt := top 18
abbrev s_look_at_claim : Stmt := top 20
abbrev s_look_at_term : Stmt := top 21
abbrev s_refuse_strangers : Stmt := top 22
abbrev s_untold_names : Stmt := top 23
abbrev s_names_of_all : Stmt := top 24
abbrev s_tells_variable : Stmt := top 25
abbrev s_put_in : Stmt := top 26
abbrev s_copied : Stmt := top 27
abbrev s_refuse_no_name : Stmt := top 31
abbrev s_refuse_no_width : Stmt := top 32
abbrev s_refuse_more : Stmt := top 33
abbrev s_Net_init : Stmt := inClass (top 34) 0
abbrev s_Net_place : Stmt := inClass (top 34) 1
abbrev s_Net_tie : Stmt := inClass (top 34) 2
abbrev s_Net_places : Stmt := inClass (top 34) 6
abbrev s_Net_ties : Stmt := inClass (top 34) 7
abbrev s_l_cell_at : Stmt := top 36
abbrev s_l_name : Stmt := top 37
abbrev s_l_parts : Stmt := top 38
abbrev s_l_net : Stmt := top 39
abbrev s_l_kind : Stmt := top 40
abbrev s_l_term : Stmt := top 41
abbrev s_l_claim : Stmt := top 42
abbrev s_l_copy : Stmt := top 43
abbrev s_l_spoil : Stmt := top 44
abbrev s_l_names : Stmt := top 45
abbrev s_l_put : Stmt := top 46
abbrev s_l_caught : Stmt := top 47
abbrev s_l_due : Stmt := top 48
abbrev s_l_one : Stmt := top 49
abbrev s_law : Stmt := top 50
end Net

namespace Net
open PySem L2
/-! ### a block's rest, under a name of its own (smaller proofs) -/
section
variable {D : Ends} {σ : St} {H : Hp}
theorem hide2 {t1 t2 : TS} (h : ∀ u2, t2 = u2 → (tSeq t1 u2) D σ H) : (tSeq t1 t2) D σ H := h _ rfl
theorem hide3 {t1 t2 t3 : TS} (h : ∀ u2 u3, t2 = u2 → t3 = u3 → (tSeq t1 (tSeq u2 u3)) D σ H) : (tSeq t1 (tSeq t2 t3)) D σ H := h _ _ rfl rfl
theorem hide4 {t1 t2 t3 t4 : TS} (h : ∀ u2 u3 u4, t2 = u2 → t3 = u3 → t4 = u4 → (tSeq t1 (tSeq u2 (tSeq u3 u4))) D σ H) : (tSeq t1 (tSeq t2 (tSeq t3 t4))) D σ H := h _ _ _ rfl rfl rfl
theorem hide5 {t1 t2 t3 t4 t5 : TS} (h : ∀ u2 u3 u4 u5, t2 = u2 → t3 = u3 → t4 = u4 → t5 = u5 → (tSeq t1 (tSeq u2 (tSeq u3 (tSeq u4 u5)))) D σ H) : (tSeq t1 (tSeq t2 (tSeq t3 (tSeq t4 t5)))) D σ H := h _ _ _ _ rfl rfl rfl rfl
theorem hide6 {t1 t2 t3 t4 t5 t6 : TS} (h : ∀ u2 u3 u4 u5 u6, t2 = u2 → t3 = u3 → t4 = u4 → t5 = u5 → t6 = u6 → (tSeq t1 (tSeq u2 (tSeq u3 (tSeq u4 (tSeq u5 u6))))) D σ H) : (tSeq t1 (tSeq t2 (tSeq t3 (tSeq t4 (tSeq t5 t6))))) D σ H := h _ _ _ _ _ rfl rfl rfl rfl rfl
theorem hide7 {t1 t2 t3 t4 t5 t6 t7 : TS} (h : ∀ u2 u3 u4 u5 u6 u7, t2 = u2 → t3 = u3 → t4 = u4 → t5 = u5 → t6 = u6 → t7 = u7 → (tSeq t1 (tSeq u2 (tSeq u3 (tSeq u4 (tSeq u5 (tSeq u6 u7)))))) D σ H) : (tSeq t1 (tSeq t2 (tSeq t3 (tSeq t4 (tSeq t5 (tSeq t6 t7)))))) D σ H := h _ _ _ _ _ _ rfl rfl rfl rfl rfl rfl
theorem hide8 {t1 t2 t3 t4 t5 t6 t7 t8 : TS} (h : ∀ u2 u3 u4 u5 u6 u7 u8, t2 = u2 → t3 = u3 → t4 = u4 → t5 = u5 → t6 = u6 → t7 = u7 → t8 = u8 → (tSeq t1 (tSeq u2 (tSeq u3 (tSeq u4 (tSeq u5 (tSeq u6 (tSeq u7 u8))))))) D σ H) : (tSeq t1 (tSeq t2 (tSeq t3 (tSeq t4 (tSeq t5 (tSeq t6 (tSeq t7 t8))))))) D σ H := h _ _ _ _ _ _ _ rfl rfl rfl rfl rfl rfl rfl
theorem hide9 {t1 t2 t3 t4 t5 t6 t7 t8 t9 : TS} (h : ∀ u2 u3 u4 u5 u6 u7 u8 u9, t2 = u2 → t3 = u3 → t4 = u4 → t5 = u5 → t6 = u6 → t7 = u7 → t8 = u8 → t9 = u9 → (tSeq t1 (tSeq u2 (tSeq u3 (tSeq u4 (tSeq u5 (tSeq u6 (tSeq u7 (tSeq u8 u9)))))))) D σ H) : (tSeq t1 (tSeq t2 (tSeq t3 (tSeq t4 (tSeq t5 (tSeq t6 (tSeq t7 (tSeq t8 t9)))))))) D σ H := h _ _ _ _ _ _ _ _ rfl rfl rfl rfl rfl rfl rfl rfl
end
/-! ### the data -/
def abc : Str := "abcdefghijklmnopqrstuvwxyz"
def smallB (c : Nat) : Bool := decide (97 ≤ c) && decide (c ≤ 122)
def nameB (x : Str) : Bool := decide (1 ≤ x.length) && decide (x.length ≤ 12) && x.cps.toList.all smallB
structure Row where
  nm : Str
  a : Str
  b : Str
  w : Int
  c : Int
def Row.tup (r : Row) : List V := [.str r.nm, .str r.a, .str r.b, .int r.w, .int r.c]
structure NS where
  pl : List Str
  ti : List Row
def NS.nil : NS := ⟨[], []⟩
def NS.nms (S : NS) : List Str := S.ti.map (·.nm)
/-- a net's attributes, in the order in which they are stored -/
def flds (ds dl : Addr) : List (Str × V) := putF "laid" (.ref dl) (putF "standing" (.ref ds) [])
theorem sl_ne : ¬ (("standing" : Str) = "laid") := by decide +kernel
theorem flds_st (ds dl : Addr) : (flds ds dl).lookup ("standing" : Str) = some (.ref ds) := by
  unfold flds
  rw [lookup_putF, if_neg sl_ne, lookup_putF, if_pos rfl]
theorem flds_ld (ds dl : Addr) : (flds ds dl).lookup ("laid" : Str) = some (.ref dl) := by
  unfold flds
  rw [lookup_putF, if_pos rfl]
theorem flds_no (ds dl : Addr) {m : Str} (h1 : ¬ m = "laid") (h2 : ¬ m = "standing") : (flds ds dl).lookup m = none := by
  unfold flds
  rw [lookup_putF, if_neg h1, lookup_putF, if_neg h2]
  all_goals rfl
def stKV (S : NS) : List (Key × V) := S.pl.map fun x => (Sum.inr x, V.bl true)
def ldKV (L : List (Row × Addr)) : List (Key × V) := L.map fun q => (Sum.inr q.1.nm, V.ref q.2)
/-- rows stand as tuples -/
def Rows (H : Hp) (L : List (Row × Addr)) (rs : List Row) : Prop := L.map (·.1) = rs ∧ ∀ q ∈ L, H q.2 = some (.tup q.1.tup)
/-- a net stands at p, its two dicts at ds, dl -/
structure NetAt (C : Addr) (H : Hp) (p ds dl : Addr) (S : NS) : Prop where
  ob : ∃ dx, H p = some (.ins C dx (flds ds dl))
  st : H ds = some (.dK (stKV S))
  ld : ∃ L, Rows H L S.ti ∧ H dl = some (.dK (ldKV L))
  ne : ds ≠ dl
/-- all but what stands at ds, dl is kept -/
def But2 (H H' : Hp) (ds dl : Addr) : Prop := ∀ b o, H b = some o → b ≠ ds → b ≠ dl → H' b = some o

/-! ### promises -/
def spMade : Sp := fun vs H Q _ => ∃ (x y : Str), vs = [.str x, .str y] ∧ x.length ≤ sizeLine ∧ ∀ H', Same H H' → Q (.bl (x.cps.toList.all fun c => decide (c ∈ y.cps.toList))) H'
def spName : Sp := fun vs H Q _ => ∃ (x : Str), vs = [.str x] ∧ x.length ≤ sizeLine ∧ ∀ H', Same H H' → Q (.bl (nameB x)) H'
def spWhole : Sp := fun vs H Q _ => ∃ (i : Int), vs = [.int i] ∧ Q (.bl true) H
def spRefName : Sp := fun vs H Q _ => ∃ (x : Str), vs = [.str x] ∧ nameB x = true ∧ ∀ H', Same H H' → Q .non H'
def spRefWidth : Sp := fun vs H Q _ => ∃ (i : Int), vs = [.int i] ∧ 1 ≤ i ∧ Q .non H
def spRefMore : Sp := fun vs H Q _ => ∃ (i j : Int), vs = [.int i, .int j] ∧ i ≤ j ∧ Q .non H
def spInit (C : Addr) : Sp := fun vs H Q _ => ∃ (p dx : Addr), vs = [.ref p] ∧ H p = some (.ins C dx []) ∧ ∀ (ds dl : Addr) (H' : Hp), H ds = none → H dl = none → NetAt C H' p ds dl .nil → (∀ b o, H b = some o → b ≠ p → H' b = some o) → Q .non H'
def spPlace (C : Addr) : Sp := fun vs H Q _ => ∃ (p ds dl : Addr) (S : NS) (x : Str), vs = [.ref p, .str x] ∧ NetAt C H p ds dl S ∧ nameB x = true ∧ x ∉ S.pl ∧ S.pl.length < 20 ∧
  ∀ H', NetAt C H' p ds dl ⟨S.pl ++ [x], S.ti⟩ → But2 H H' ds dl → Q .non H'
/-- the places behind a tie from a to b -/
def withEnds (pl : List Str) (a b : Str) : List Str := pl ++ [a, b].filter fun x => !decide (x ∈ pl)
def spTie (C : Addr) : Sp := fun vs H Q _ => ∃ (p ds dl : Addr) (S : NS) (r : Row), vs = [.ref p, .str r.nm, .str r.a, .str r.b, .int r.w, .int r.c] ∧ NetAt C H p ds dl S ∧ nameB r.nm = true ∧ nameB r.a = true ∧ nameB r.b = true ∧ r.nm ∉ S.nms ∧ ¬ r.a = r.b ∧ 1 ≤ r.w ∧
  S.ti.length < 40 ∧ (withEnds S.pl r.a r.b).length ≤ 20 ∧ ∀ H', NetAt C H' p ds dl ⟨withEnds S.pl r.a r.b, S.ti ++ [r]⟩ → But2 H H' ds dl → Q .non H'
def spPlaces (C : Addr) : Sp := fun vs H Q _ => ∃ (p ds dl : Addr) (S : NS), vs = [.ref p] ∧ NetAt C H p ds dl S ∧ ∀ l, H l = none → Q (.ref l) (upd H l (.lst (S.pl.map V.str)))
def spTies (C : Addr) : Sp := fun vs H Q _ => ∃ (p ds dl : Addr) (S : NS), vs = [.ref p] ∧ NetAt C H p ds dl S ∧ ∀ (l : Addr) (H' : Hp) (L : List (Row × Addr)), H l = none → Same H H' → Rows H L S.ti → H' l = some (.lst (L.map fun q => V.ref q.2)) → Q (.ref l) H'

/-- what is asked of the text as the top has made it -/
structure Txt (K : PySem.W.Frag) (mg : Str → Option Value) (C : Addr) : Prop where
  cl : Cls K C
  nS : NoAttr K C "standing"
  nL : NoAttr K C "laid"
  mgC : mg "Net" = some (.ref C)
  all : mg "all" = none
  isi : mg "isinstance" = none
  str : mg "str" = none
  int : mg "int" = none
  bool : mg "bool" = none
  list : mg "list" = none
  tuple : mg "tuple" = none
  len : mg "len" = none
  range : mg "range" = none
  abs : mg "abs" = none
  small : GlobIs mg "SMALL_LETTERS" (.str abc)
  longest : GlobIs mg "LONGEST_NAME" (.int 12)
  mostP : GlobIs mg "MOST_PLACES" (.int 20)
  mostT : GlobIs mg "MOST_TIES" (.int 40)
  kIB : PySem.W.kitOne K (.type "int") (.type "bool") = some false

section
variable {P : Program} {w : World} {K : PySem.W.Frag} {mg : Str → Option Value} {base : Heap} {C : Addr}
/-! ### is_made_of -/
theorem sc_made : FnScope ["text", "signs"] ["text", "signs"] (defScope s_is_made_of) := ⟨rfl, rfl, rfl, by decide +kernel, rfl, by decide +kernel, by decide +kernel⟩
theorem ok_made {f : Addr} {fd : FuncData} (F : Fun K "is_made_of" "is_made_of" s_is_made_of f fd) (T : Txt K mg C) : FnOk P w K mg base CX0 1 f fd ["text", "signs"] spMade := by
  refine F.ok sc_made (fun vs H Q E h => ?_) (fun cdv A outer s H vs Q E hr h => ?_)
  · obtain ⟨x, y, rfl, _⟩ := h
    rfl
  · obtain ⟨x, y, rfl, hx, k⟩ := h
    refine ⟨_, pss_one (ps_ret (pe_callB (call_all rfl) (by rfl) T.all b_all (pa_cons (pe_comp (N := ["sign", "signs"]) (xs := 1) (js := [1]) rfl (compScope_of rfl) (pi_str (pv 0))
      (fun _ _ _ _ => pg_name (i := 0) (show List.Nodup (["sign", "signs"] : List Str) by decide +kernel) rfl (Or.inl rfl)) (fun _ _ _ _ => pts_nil) (fun _ _ _ _ => pe_cmpR op_in_str (pv 0) (pv 1) (by with_unfolding_all rfl))) pa_nil))), ?_⟩
    refine ⟨_, rfl, x, rfl, comp_str (fun i acc σ' H' => H' = H ∧ acc = (x.cps.toList.take i).map (fun c => V.bl (decide (c ∈ y.cps.toList))) ∧ ∃ o, σ' = [o, some (.str y)])
      ⟨rfl, rfl, none, rfl⟩ (fun i acc σ' H' h => ?_) hx (fun i c acc σ' H' hc h => ?_) (fun acc σ' H' h p hp => ?_)⟩
    · rw [h.2.1, List.length_map, List.length_take]
      omega
    · obtain ⟨rfl, rfl, o, rfl⟩ := h
      refine ⟨_, rfl, _, rfl, _, _, rfl, rfl, rfl, ?_, _, rfl⟩
      have hc' : x.cps.toList[i]? = some c := by simpa using hc
      rw [StrLaws.found_one, List.take_add_one, hc', List.map_append]
      rfl
    · obtain ⟨rfl, rfl, o, rfl⟩ := h
      refine ⟨p, x.cps.toList.map (fun c => decide (c ∈ y.cps.toList)), rfl, SqL.of ?_, ?_⟩
      · rw [upd_same, List.map_map, List.take_of_length_le (by simp)]
        rfl
      · rw [List.all_map]
        exact k _ fun b ob e => by rw [upd_ne (ne_of_none e hp)]; exact e

/-! ### is_name, is_whole -/
theorem mem_abc (c : Nat) : decide (c ∈ abc.cps.toList) = smallB c := by
  have e : abc.cps.toList = (List.range 26).map (97 + ·) := by decide +kernel
  rw [e]
  unfold smallB
  rw [Bool.eq_iff_iff]
  simp only [decide_eq_true_eq, Bool.and_eq_true, List.mem_map, List.mem_range]
  constructor
  · rintro ⟨k, h1, h2⟩
    omega
  · intro h
    exact ⟨c - 97, by omega, by omega⟩
theorem sc_name : FnScope ["word"] ["word"] (defScope s_is_name) := ⟨rfl, rfl, rfl, by decide +kernel, rfl, by decide +kernel, by decide +kernel⟩
theorem ok_name {f : Addr} {fd : FuncData} (F : Fun K "is_name" "is_name" s_is_name f fd) (T : Txt K mg C) (c1 : Can P w K mg base 1 "is_made_of" ["text", "signs"] spMade) : FnOk P w K mg base CX0 2 f fd ["word"] spName := by
  refine F.ok sc_name (fun vs H Q E h => ?_) (fun cdv A outer s H vs Q E hr h => ?_)
  · obtain ⟨x, rfl, _⟩ := h
    rfl
  · obtain ⟨x, rfl, hx, k⟩ := h
    refine ⟨_, pss_cons (ps_if (pt_not (pt_val (pe_callB call_isinst (by rfl) T.isi b_isi (pa_cons (pv 0) (pa_cons (pe_ty T.str (by rfl) b_str) pa_nil))))) (pss_one (ps_ret pe_bl)) pss_nil)
      (pss_one (ps_ret (pe_and (pe_chain op_le op_le pe_int (pe_callB call_len_str (by rfl) T.len b_len (pa_cons (pv 0) pa_nil)) (pe_globC T.longest (by rfl)))
        (pe_one (pe_callC c1 hr (by rfl) (pa_cons (pv 0) (pa_cons (pe_globC T.small (by rfl)) pa_nil))))))), ?_⟩
    refine ⟨_, rfl, _, "str", _, true, rfl, .str x, rfl, true, rfl, iteF ?_⟩
    refine ⟨_, rfl, x, rfl, hx, _, _, rfl, rfl, _, rfl, ?_⟩
    refine ite2 (fun h1 => ⟨_, _, rfl, rfl, _, rfl, ite2 (fun h2 => ⟨_, rfl, x, abc, rfl, hx, fun H' s' => ?_⟩) (fun h2 => ?_)⟩) (fun h1 => ⟨_, rfl, iteF ?_⟩)
    · have e : nameB x = (x.cps.toList.all fun c => decide (c ∈ abc.cps.toList)) := by
        unfold nameB
        rw [decide_eq_true (p := 1 ≤ x.length) (by have := of_decide_eq_true h1; omega), decide_eq_true (p := x.length ≤ 12) (by have := of_decide_eq_true h2; omega)]
        simp only [mem_abc, Bool.true_and]
      rw [← e]
      exact k H' s'
    · have e : nameB x = false := by
        unfold nameB
        rw [decide_eq_false (p := x.length ≤ 12) (fun z => h2 (decide_eq_true (by omega)))]
        simp
      have := k H (Same.refl H)
      rw [e] at this
      exact this
    · have e : nameB x = false := by
        unfold nameB
        rw [decide_eq_false (p := 1 ≤ x.length) (fun z => h1 (decide_eq_true (by omega)))]
        simp
      have := k H (Same.refl H)
      rw [e] at this
      exact this
theorem sc_whole : FnScope ["thing"] ["thing"] (defScope s_is_whole) := ⟨rfl, rfl, rfl, by decide +kernel, rfl, by decide +kernel, by decide +kernel⟩
theorem ok_whole {f : Addr} {fd : FuncData} (F : Fun K "is_whole" "is_whole" s_is_whole f fd) (T : Txt K mg C) : FnOk P w K mg base CX0 1 f fd ["thing"] spWhole := by
  refine F.ok sc_whole (fun vs H Q E h => ?_) (fun cdv A outer s H vs Q E hr h => ?_)
  · obtain ⟨x, rfl, _⟩ := h
    rfl
  · obtain ⟨x, rfl, k⟩ := h
    refine ⟨_, pss_one (ps_ret (pe_and (pe_callB call_isinst (by rfl) T.isi b_isi (pa_cons (pv 0) (pa_cons (pe_ty T.int (by rfl) b_int) pa_nil)))
      (pe_one (pe_not (pe_callB call_isinst (by rfl) T.isi b_isi (pa_cons (pv 0) (pa_cons (pe_ty T.bool (by rfl) b_bool) pa_nil))))))), ?_⟩
    exact ⟨_, rfl, _, "int", _, true, rfl, .int x, rfl, true, rfl, iteT ⟨_, rfl, _, "bool", _, false, rfl, .int x, T.kIB, false, rfl, k⟩⟩

/-! ### the refusals that don't come -/
theorem sc_refName : FnScope ["word"] ["word"] (defScope s_refuse_no_name) := ⟨rfl, rfl, rfl, by decide +kernel, rfl, by decide +kernel, by decide +kernel⟩
theorem ok_refName {f : Addr} {fd : FuncData} (F : Fun K "refuse_no_name" "refuse_no_name" s_refuse_no_name f fd) (T : Txt K mg C) (c1 : Can P w K mg base 2 "is_name" ["word"] spName) : FnOk P w K mg base CX0 3 f fd ["word"] spRefName := by
  refine F.ok sc_refName (fun vs H Q E h => ?_) (fun cdv A outer s H vs Q E hr h => ?_)
  · obtain ⟨x, rfl, _⟩ := h
    rfl
  · obtain ⟨x, rfl, hx, k⟩ := h
    refine ⟨_, pss_one (ps_if (pt_not (pt_val (pe_callC c1 hr (by rfl) (pa_cons (pv 0) pa_nil)))) pss_never pss_nil), ?_⟩
    refine ⟨_, rfl, x, rfl, ?_, fun H' s' => ⟨_, rfl, ?_⟩⟩
    · have h1 : x.length ≤ 12 := by
        unfold nameB at hx
        simp at hx
        exact hx.1.2
      exact Nat.le_trans h1 (by decide)
    · rw [hx]
      exact iteF (k H' s')
theorem sc_refWidth : FnScope ["width"] ["width"] (defScope s_refuse_no_width) := ⟨rfl, rfl, rfl, by decide +kernel, rfl, by decide +kernel, by decide +kernel⟩
theorem ok_refWidth {f : Addr} {fd : FuncData} (F : Fun K "refuse_no_width" "refuse_no_width" s_refuse_no_width f fd) (T : Txt K mg C) (c1 : Can P w K mg base 1 "is_whole" ["thing"] spWhole) : FnOk P w K mg base CX0 2 f fd ["width"] spRefWidth := by
  refine F.ok sc_refWidth (fun vs H Q E h => ?_) (fun cdv A outer s H vs Q E hr h => ?_)
  · obtain ⟨x, rfl, _⟩ := h
    rfl
  · obtain ⟨x, rfl, hx, k⟩ := h
    refine ⟨_, pss_one (ps_if (PW.pt (pw_or (pt_not (pt_val (pe_callC c1 hr (by rfl) (pa_cons (pv 0) pa_nil)))) (pw_or1 (pt_cmpR op_lt (pv 0) pe_int (nomark _))))) pss_never pss_nil), ?_⟩
    refine ⟨_, rfl, x, rfl, true, rfl, iteF ⟨_, rfl, _, _, rfl, rfl, _, rfl, ?_⟩⟩
    rw [decide_eq_false (by omega)]
    exact iteF k
theorem sc_refMore : FnScope ["many", "most"] ["many", "most"] (defScope s_refuse_more) := ⟨rfl, rfl, rfl, by decide +kernel, rfl, by decide +kernel, by decide +kernel⟩
theorem ok_refMore {f : Addr} {fd : FuncData} (F : Fun K "refuse_more" "refuse_more" s_refuse_more f fd) (T : Txt K mg C) : FnOk P w K mg base CX0 1 f fd ["many", "most"] spRefMore := by
  refine F.ok sc_refMore (fun vs H Q E h => ?_) (fun cdv A outer s H vs Q E hr h => ?_)
  · obtain ⟨x, y, rfl, _⟩ := h
    rfl
  · obtain ⟨x, y, rfl, hx, k⟩ := h
    refine ⟨_, pss_one (ps_if (pt_cmpR op_gt (pv 0) (pv 1) (nomark _)) pss_never pss_nil), ?_⟩
    refine ⟨_, rfl, _, rfl, _, _, rfl, rfl, _, rfl, ?_⟩
    rw [decide_eq_false (by omega)]
    exact iteF k

/-! ### Net -/
theorem sc_init : FnScope ["self"] ["self"] (defScope s_Net_init) := ⟨rfl, rfl, rfl, by decide +kernel, rfl, by decide +kernel, by decide +kernel⟩
theorem ok_init {f : Addr} {fd : FuncData} (F : Fun K "__init__" "Net.__init__" s_Net_init f fd) (T : Txt K mg C) : FnOk P w K mg base CX0 1 f fd ["self"] (spInit C) := by
  refine F.ok sc_init (fun vs H Q E h => ?_) (fun cdv A outer s H vs Q E hr h => ?_)
  · obtain ⟨p, dx, rfl, _⟩ := h
    rfl
  · obtain ⟨p, dx, rfl, hp, k⟩ := h
    refine ⟨_, pss_cons (ps_fld (pv 0) pe_dnewK rfl) (pss_one (ps_fld (pv 0) pe_dnewK rfl)), ?_⟩
    intro ds hds
    have n1 : p ≠ ds := ne_of_none hp hds
    refine ⟨_, rfl, p, C, dx, [], rfl, (by rw [upd_ne n1]; exact hp), T.cl, T.nS, (by show 0 < 1000; decide), ?_⟩
    intro dl hdl
    have n2 : p ≠ dl := by
      intro e
      subst e
      rw [upd_same] at hdl
      cases hdl
    have n3 : ds ≠ dl := by
      intro e
      subst e
      rw [upd_ne n1.symm, upd_same] at hdl
      cases hdl
    have hdl' : H dl = none := by
      rw [upd_ne n2.symm, upd_ne n3.symm] at hdl
      exact hdl
    refine ⟨_, rfl, p, C, dx, _, rfl, (by rw [upd_ne n2, upd_same]), T.cl, T.nL, (by show 1 < 1000; decide), ?_⟩
    refine k ds dl _ hds hdl' ⟨⟨dx, upd_same⟩, ?_, ⟨[], ⟨rfl, fun q h => nomatch h⟩, ?_⟩, n3⟩ fun b o e hb => ?_
    · rw [upd_ne n1.symm, upd_ne n3, upd_ne n1.symm, upd_same]
      rfl
    · rw [upd_ne n2.symm, upd_same]
      rfl
    · rw [upd_ne hb, upd_ne (ne_of_none e hdl'), upd_ne hb, upd_ne (ne_of_none e hds)]
      exact e

/-! tables -/
theorem st_none {S : NS} {x : Str} (h : x ∉ S.pl) : valV (stKV S) (Sum.inr x : Key) = none := by
  cases e : valV (stKV S) (Sum.inr x : Key) with
  | none => rfl
  | some v =>
    have := valV_in e
    unfold stKV at this
    rw [List.map_map] at this
    obtain ⟨y, hy, e2⟩ := List.mem_map.mp this
    exact absurd (Sum.inr.inj e2 ▸ hy) h
theorem st_some {S : NS} {x : Str} (h : x ∈ S.pl) : (valV (stKV S) (Sum.inr x : Key)).isSome = true := by
  cases e : valV (stKV S) (Sum.inr x : Key) with
  | some v => rfl
  | none =>
    refine absurd ?_ (valV_not e)
    unfold stKV
    rw [List.map_map]
    exact List.mem_map.mpr ⟨x, h, rfl⟩
theorem st_in (S : NS) (x : Str) : (valV (stKV S) (Sum.inr x : Key)).isSome = decide (x ∈ S.pl) := by
  by_cases h : x ∈ S.pl
  · rw [st_some h, decide_eq_true h]
  · rw [st_none h, decide_eq_false h]
    rfl
theorem ld_keys {L : List (Row × Addr)} {rs : List Row} (h : L.map (·.1) = rs) : (ldKV L).map (·.1) = rs.map fun r => (Sum.inr r.nm : Key) := by
  rw [← h]
  unfold ldKV
  rw [List.map_map, List.map_map]
  rfl
theorem ld_none {L : List (Row × Addr)} {S : NS} {x : Str} (hL : L.map (·.1) = S.ti) (h : x ∉ S.nms) : valV (ldKV L) (Sum.inr x : Key) = none := by
  cases e : valV (ldKV L) (Sum.inr x : Key) with
  | none => rfl
  | some v =>
    have := valV_in e
    rw [ld_keys hL] at this
    obtain ⟨y, hy, e2⟩ := List.mem_map.mp this
    exact absurd (List.mem_map.mpr ⟨y, hy, Sum.inr.inj e2⟩) h
theorem sc_place : FnScope ["self", "name"] ["self", "name"] (defScope s_Net_place) := ⟨rfl, rfl, rfl, by decide +kernel, rfl, by decide +kernel, by decide +kernel⟩
theorem ok_place {f : Addr} {fd : FuncData} (F : Fun K "place" "Net.place" s_Net_place f fd) (T : Txt K mg C) (c1 : Can P w K mg base 3 "refuse_no_name" ["word"] spRefName) (c2 : Can P w K mg base 1 "refuse_more" ["many", "most"] spRefMore) :
    FnOk P w K mg base CX0 4 f fd ["self", "name"] (spPlace C) := by
  refine F.ok sc_place (fun vs H Q E h => ?_) (fun cdv A outer s H vs Q E hr h => ?_)
  · obtain ⟨p, ds, dl, S, x, rfl, _⟩ := h
    rfl
  · obtain ⟨p, ds, dl, S, x, rfl, N, hx, hn, hl, k⟩ := h
    have hu := hu_of hr
    refine ⟨_, pss_cons (ps_expr (pe_callC c1 hr (by rfl) (pa_cons (pv 1) pa_nil)))
      (pss_cons (ps_if (pt_cmp (pc_din hu (pv 1) (pe_fld (pv 0) rfl))) pss_never pss_nil)
      (pss_cons (ps_expr (pe_callC c2 (hr.mono (by decide)) (by rfl) (pa_cons (pe_op op_add (pe_callB call_lenD (by rfl) T.len b_len (pa_cons (pe_fld (pv 0) rfl) pa_nil)) pe_int) (pa_cons (pe_globC T.mostP (by rfl)) pa_nil))))
      (pss_one (ps_dput hu (pe_fld (pv 0) rfl) (pv 1) pe_bl rfl)))), ?_⟩
    refine ⟨_, rfl, x, rfl, hx, fun H1 s1 => ?_⟩
    obtain ⟨⟨dx, h1⟩, h2, ⟨L, ⟨r1, r2⟩, h3⟩, ne⟩ := N
    have g1 := s1 _ _ h1
    have g2 := s1 _ _ h2
    refine ⟨_, rfl, _, rfl, p, C, dx, _, _, rfl, g1, T.cl, T.nS, flds_st _ _, ds, _, rfl, DGet.k (k := Sum.inr x) g2, _, rfl, ?_⟩
    rw [st_none hn]
    refine iteF ?_
    refine ⟨_, rfl, p, C, dx, _, _, rfl, g1, T.cl, T.nS, flds_st _ _, ds, _, rfl, g2, _, _, rfl, rfl, _, _, rfl, ?_, ?_⟩
    · unfold stKV
      rw [List.length_map]
      omega
    refine ⟨_, rfl, p, C, dx, _, _, rfl, g1, T.cl, T.nS, flds_st _ _, _, rfl, ds, _, rfl, DPut.k (k := Sum.inr x) g2 (small1000 (by unfold stKV; rw [List.length_map]; omega)), ?_⟩
    have npd : p ≠ ds := ne_of g1 g2 (by intro z; cases z)
    have e : putK (stKV S) (Sum.inr x : Key) (V.bl true) = stKV ⟨S.pl ++ [x], S.ti⟩ := by
      rw [putK_new _ (st_none hn)]
      unfold stKV
      rw [List.map_append]
      rfl
    refine k _ ⟨⟨dx, by rw [upd_ne npd]; exact g1⟩, by rw [upd_same, e], ⟨L, ⟨r1, fun q hq => ?_⟩, by rw [upd_ne ne.symm]; exact s1 _ _ h3⟩, ne⟩ fun b o z z1 z2 => by rw [upd_ne z1]; exact s1 _ _ z
    have z := s1 _ _ (r2 q hq)
    rw [upd_ne (ne_of z g2 (by intro y; cases y))]
    exact z

theorem sc_places : FnScope ["self"] ["self"] (defScope s_Net_places) := ⟨rfl, rfl, rfl, by decide +kernel, rfl, by decide +kernel, by decide +kernel⟩
theorem ok_places {f : Addr} {fd : FuncData} (F : Fun K "places" "Net.places" s_Net_places f fd) (T : Txt K mg C) : FnOk P w K mg base CX0 1 f fd ["self"] (spPlaces C) := by
  refine F.ok sc_places (fun vs H Q E h => ?_) (fun cdv A outer s H vs Q E hr h => ?_)
  · obtain ⟨p, ds, dl, S, rfl, _⟩ := h
    rfl
  · obtain ⟨p, ds, dl, S, rfl, ⟨⟨dx, h1⟩, h2, _, _⟩, k⟩ := h
    refine ⟨_, pss_one (ps_ret (pe_callTy (call_listD rfl) (by rfl) T.list b_list (pa_cons (pe_fld (pv 0) rfl) pa_nil))), ?_⟩
    refine ⟨_, rfl, p, C, dx, _, _, rfl, h1, T.cl, T.nS, flds_st _ _, ds, stKV S, rfl, .inl h2, fun l hl => ?_⟩
    have e : (stKV S).map (fun kv => kV kv.1) = S.pl.map V.str := by
      unfold stKV
      rw [List.map_map]
      rfl
    rw [e]
    exact k l hl
theorem sc_ties : FnScope ["self"] ["self"] (defScope s_Net_ties) := ⟨rfl, rfl, rfl, by decide +kernel, rfl, by decide +kernel, by decide +kernel⟩
theorem ok_ties {f : Addr} {fd : FuncData} (F : Fun K "ties" "Net.ties" s_Net_ties f fd) (T : Txt K mg C) : FnOk P w K mg base CX0 1 f fd ["self"] (spTies C) := by
  refine F.ok sc_ties (fun vs H Q E h => ?_) (fun cdv A outer s H vs Q E hr h => ?_)
  · obtain ⟨p, ds, dl, S, rfl, _⟩ := h
    rfl
  · obtain ⟨p, ds, dl, S, rfl, ⟨⟨dx, h1⟩, h2, ⟨L, R, h3⟩, _⟩, k⟩ := h
    refine ⟨_, pss_one (ps_ret (pe_callTy (call_listV rfl) (by rfl) T.list b_list (pa_cons (pe_bm0 PySem.F.plainAttrs_dict PySem.F.slot_dict_values PySem.F.type_dict_values mt_values (pe_fld (pv 0) rfl)) pa_nil))), ?_⟩
    refine ⟨_, rfl, p, C, dx, _, _, rfl, h1, T.cl, T.nL, flds_ld _ _, .inr (.inr (.inl ⟨rfl, .inl ⟨_, h3⟩⟩)), dl, ldKV L, rfl, rfl, .inl h3, fun v hv => ?_⟩
    have nv : dl ≠ v := ne_of_none h3 hv
    refine ⟨v, dl, ldKV L, rfl, upd_same, .inl (by rw [upd_ne nv]; exact h3), fun l hl => ?_⟩
    have hlv : l ≠ v := by
      intro e
      subst e
      rw [upd_same] at hl
      cases hl
    have hl' : H l = none := by rw [upd_ne hlv] at hl; exact hl
    refine k l _ L hl' ((Same.new hv).upd hl) R ?_
    rw [upd_same]
    unfold ldKV
    rw [List.map_map]
    rfl
end
end Net

namespace Net
open PySem L2
/-! ### the law's own small defs -/
section
variable {P : Program} {w : World} {K : PySem.W.Frag} {mg : Str → Option Value} {base : Heap} {C : Addr}
theorem sc_cell : FnScope ["_law_script", "_law_k"] ["_law_script", "_law_k"] (defScope s_l_cell_at) := ⟨rfl, rfl, rfl, by decide +kernel, rfl, by decide +kernel, by decide +kernel⟩
/-! ### names -/
theorem abc_get {j : Nat} (h : j < 26) : abc.cps.toList[j]? = some (97 + j) := by
  have e : abc.cps.toList = (List.range 26).map (97 + ·) := by decide +kernel
  rw [e, List.getElem?_map, List.getElem?_range h]
  rfl
end
end Net

namespace Net
open PySem L2
/-! ### deeds -/
theorem nodup_snoc {l : List Str} {x : Str} (h : l.Nodup) (hx : x ∉ l) : (l ++ [x]).Nodup := L2.nd_snoc h hx
theorem withEnds_eq (pl : List Str) (a b : Str) : withEnds pl a b = pl ++ ((if a ∈ pl then [] else [a]) ++ (if b ∈ pl then [] else [b])) := by
  unfold withEnds
  by_cases ha : a ∈ pl <;> by_cases hb : b ∈ pl <;> simp [ha, hb]
/-! ### the note beside -/
theorem Rows.same {H H' : Hp} {L : List (Row × Addr)} {rs : List Row} (s : Same H H') (h : Rows H L rs) : Rows H' L rs := ⟨h.1, fun q hq => s _ _ (h.2 q hq)⟩
theorem NetAt.same {C : Addr} {H H' : Hp} {p ds dl : Addr} {S : NS} (s : Same H H') (h : NetAt C H p ds dl S) : NetAt C H' p ds dl S :=
  ⟨let ⟨dx, e⟩ := h.ob; ⟨dx, s _ _ e⟩, s _ _ h.st, let ⟨L, r, e⟩ := h.ld; ⟨L, r.same s, s _ _ e⟩, h.ne⟩

/-! ### data -/
theorem strOk_of {x : Str} (h : nameB x = true) : PyData.strOk x = true := by
  unfold nameB at h
  simp only [Bool.and_eq_true, List.all_eq_true] at h
  unfold PyData.strOk
  rw [Array.all_eq_true']
  intro c hc
  have := h.2 c (by simpa using hc)
  unfold smallB at this
  simp at this
  simp
  omega
def rowD (r : Row) : PyData := .tuple [.str r.nm, .str r.a, .str r.b, .int r.w, .int r.c]
theorem rd_strs {K : PySem.W.Frag} {H : Hp} {l : Addr} {ws : List Str} (h : H l = some (.lst (ws.map V.str))) (ok : ∀ x ∈ ws, nameB x = true) : RdD K H 2 (.ref l) (.list (ws.map PyData.str)) := by
  refine .inl ⟨_, _, SqL.of h, rfl, ?_⟩
  clear h
  induction ws with
  | nil => exact .nil
  | cons x r ih => exact .cons ⟨strOk_of (ok x List.mem_cons_self), rfl⟩ (ih fun y hy => ok y (List.mem_cons_of_mem _ hy))
theorem rd_rows {K : PySem.W.Frag} {H : Hp} {l : Addr} {L : List (Row × Addr)} {rs : List Row} (R : Rows H L rs) (h : H l = some (.lst (L.map fun q => V.ref q.2)))
    (ok : ∀ r ∈ rs, nameB r.nm = true ∧ nameB r.a = true ∧ nameB r.b = true) : RdD K H 2 (.ref l) (.list (rs.map rowD)) := by
  refine .inl ⟨_, _, SqL.of h, rfl, ?_⟩
  clear h
  obtain ⟨rfl, h2⟩ := R
  induction L with
  | nil => exact .nil
  | cons q r ih =>
    refine .cons (.inr ⟨_, _, SqT.of (h2 q List.mem_cons_self), rfl, ?_⟩) (ih (fun y hy => h2 y (List.mem_cons_of_mem _ hy)) fun y hy => ok y (List.mem_cons_of_mem _ hy))
    obtain ⟨a1, a2, a3⟩ := ok q.1 List.mem_cons_self
    exact .cons ⟨strOk_of a1, rfl⟩ (.cons ⟨strOk_of a2, rfl⟩ (.cons ⟨strOk_of a3, rfl⟩ (.cons rfl (.cons rfl .nil))))
theorem lay_strs {ws : List Str} (ok : ∀ x ∈ ws, nameB x = true) : PyData.eqv (.list (ws.map PyData.str)) (.list (ws.map PyData.str)) = true := by
  rw [PyData.eqv]
  induction ws with
  | nil => rfl
  | cons x r ih =>
    show (PyData.eqv (.str x) (.str x) && PyData.eqvAll (r.map PyData.str) (r.map PyData.str)) = true
    rw [ih fun y hy => ok y (List.mem_cons_of_mem _ hy)]
    simp [PyData.eqv]
theorem lay_rows (rs : List Row) : PyData.eqv (.list (rs.map rowD)) (.list (rs.map rowD)) = true := by
  rw [PyData.eqv]
  induction rs with
  | nil => rfl
  | cons x r ih =>
    show (PyData.eqv (rowD x) (rowD x) && PyData.eqvAll (r.map rowD) (r.map rowD)) = true
    rw [ih]
    simp [rowD, PyData.eqv, PyData.eqvAll]
theorem inV_str (x : Str) (ns : List Str) : inV (.str x) (ns.map V.str) = decide (x ∈ ns) := by
  unfold inV
  rw [List.any_map, Bool.eq_iff_iff]
  simp only [List.any_eq_true, Function.comp, decide_eq_true_eq, eqV]
  constructor
  · rintro ⟨y, h1, h2⟩
    have := eq_of_beq h2
    exact this ▸ h1
  · intro h
    exact ⟨x, h, by simp⟩
theorem flat_strs (ns : List Str) : (ns.map V.str).all flatV = true := by
  rw [List.all_map]
  exact List.all_eq_true.mpr fun _ _ => rfl
end Net

namespace Net
open PySem L2
section
variable {P : Program} {w : World} {K : PySem.W.Frag} {mg : Str → Option Value} {base : Heap} {C : Addr}
abbrev Ntie : List Str := ["self", "name", "a", "b", "width", "cost", "word", "new_places", "end"]
theorem sc_tie : FnScope Ntie ["self", "name", "a", "b", "width", "cost"] (defScope s_Net_tie) := ⟨rfl, rfl, rfl, by decide +kernel, rfl, by decide +kernel, by decide +kernel⟩
theorem ok_tie {f : Addr} {fd : FuncData} (F : Fun K "tie" "Net.tie" s_Net_tie f fd) (T : Txt K mg C) (c1 : Can P w K mg base 3 "refuse_no_name" ["word"] spRefName) (c2 : Can P w K mg base 2 "refuse_no_width" ["width"] spRefWidth) (c3 : Can P w K mg base 1 "refuse_more" ["many", "most"] spRefMore) :
    FnOk P w K mg base CX0 4 f fd ["self", "name", "a", "b", "width", "cost"] (spTie C) := by
  refine F.ok sc_tie (fun vs H Q E h => ?_) (fun cdv A outer s H vs Q E hr h => ?_)
  · obtain ⟨p, ds, dl, S, r, rfl, _⟩ := h
    rfl
  · obtain ⟨p, ds, dl, S, r, rfl, N, n1, n2, n3, hn, hab, hw, hl40, hl20, k⟩ := h
    have hu := hu_of hr
    refine ⟨_, pss_cons (ps_for PassesOwn.never rfl (pi_tup (pe_tup (pa_cons (pv 1) (pa_cons (pv 2) (pa_cons (pv 3) pa_nil))))) (pg_name (i := 6) sc_tie.nd rfl (Or.inl rfl)) (pss_one (ps_expr (pe_callC c1 hr (by rfl) (pa_cons (pv 6) pa_nil)))))
      (pss_cons (ps_if (pt_cmp (pc_din hu (pv 1) (pe_fld (pv 0) rfl))) pss_never pss_nil)
      (pss_cons (ps_if (pt_cmpR op_eq (pv 2) (pv 3) (nomark _)) pss_never pss_nil)
      (pss_cons (ps_expr (pe_callC c2 (hr.mono (by decide)) (by rfl) (pa_cons (pv 4) pa_nil)))
      (pss_cons (ps_comp (j := 7) (N := ["end", "self"]) (xs := 1) (js := [0]) rfl sc_tie.nd rfl rfl (compScope_of rfl) (pi_tup (pe_tup (pa_cons (pv 2) (pa_cons (pv 3) pa_nil)))) (fun _ _ _ _ => pg_name (i := 0) (show List.Nodup (["end", "self"] : List Str) by decide +kernel) rfl (Or.inl rfl))
        (fun _ _ _ _ => pts_one (pt_cmp (pc_dnotin hu (pv 0) (pe_fldK K (by rfl) (pv 1) (by rfl))))) (fun _ _ _ _ => pv 0) rfl)
      (pss_cons (ps_expr (pe_callC c3 (hr.mono (by decide)) (by rfl) (pa_cons (pe_op op_add (pe_callB call_lenD (by rfl) T.len b_len (pa_cons (pe_fld (pv 0) rfl) pa_nil)) pe_int) (pa_cons (pe_globC T.mostT (by rfl)) pa_nil))))
      (pss_cons (ps_expr (pe_callC c3 (hr.mono (by decide)) (by rfl) (pa_cons (pe_op op_add (pe_callB call_lenD (by rfl) T.len b_len (pa_cons (pe_fld (pv 0) rfl) pa_nil)) (pe_callB call_len_seq (by rfl) T.len b_len (pa_cons (pv 7) pa_nil))) (pa_cons (pe_globC T.mostP (by rfl)) pa_nil))))
      (pss_cons (ps_for PassesOwn.never rfl (pi_list (pv 7)) (pg_name (i := 8) sc_tie.nd rfl (Or.inl rfl)) (pss_one (ps_dput hu (pe_fld (pv 0) rfl) (pv 8) pe_bl rfl)))
      (pss_one (ps_dput hu (pe_fld (pv 0) rfl) (pv 1) (pe_tup (pa_cons (pv 1) (pa_cons (pv 2) (pa_cons (pv 3) (pa_cons (pv 4) (pa_cons (pv 5) pa_nil)))))) rfl))))))))), ?_⟩
    -- for word in (name, a, b)
    refine ⟨_, rfl, _, rfl, _, rfl, (by show 3 ≤ sizeLine; decide), fun t ht => ⟨t, rfl, ⟨_, SqT.of upd_same⟩, ?_⟩⟩
    have st : Same H (upd H t (.tup [V.str r.nm, V.str r.a, V.str r.b])) := Same.new ht
    have et : (upd H t (.tup [V.str r.nm, V.str r.a, V.str r.b])) t = some (.tup [V.str r.nm, V.str r.a, V.str r.b]) := upd_same
    generalize upd H t (.tup [V.str r.nm, V.str r.a, V.str r.b]) = H1 at st et
    refine for_tup (K := K) (a := t) (xs := [V.str r.nm, V.str r.a, V.str r.b]) (fun i σ' H' => (∃ v, σ' = [some (.ref p), some (.str r.nm), some (.str r.a), some (.str r.b), some (.int r.w), some (.int r.c), v, none, none]) ∧ Same H1 H')
      ⟨⟨_, rfl⟩, Same.refl H1⟩ (fun i σ' H' _ h => SqT.of (h.2 _ _ et)) (fun i x σ' H' hx h => ?_) (fun σ' H' h => ?_)
    · obtain ⟨⟨v, rfl⟩, s1⟩ := h
      obtain ⟨y, rfl, hy⟩ : ∃ y, x = V.str y ∧ nameB y = true := by
        match i, hx with
        | 0, hx => exact ⟨_, (Option.some.inj hx).symm, n1⟩
        | 1, hx => exact ⟨_, (Option.some.inj hx).symm, n2⟩
        | 2, hx => exact ⟨_, (Option.some.inj hx).symm, n3⟩
        | n + 3, hx => simp at hx
      exact ⟨_, rfl, y, rfl, hy, fun H2 s2 => ⟨⟨_, rfl⟩, s1.trans s2⟩⟩
    obtain ⟨⟨v, rfl⟩, s1⟩ := h
    have sA := st.trans s1
    obtain ⟨⟨dx, h1⟩, h2, ⟨L, R, h3⟩, ne⟩ := N.same sA
    -- if name in self.laid
    refine ⟨_, rfl, _, rfl, p, C, dx, _, _, rfl, h1, T.cl, T.nL, flds_ld _ _, dl, _, rfl, DGet.k (k := Sum.inr r.nm) h3, _, rfl, ?_⟩
    rw [ld_none R.1 hn]
    refine iteF ?_
    -- if a == b
    refine ⟨_, rfl, _, rfl, rfl, _, rfl, ?_⟩
    rw [decide_eq_false (fun z => hab (by injection z))]
    refine iteF ⟨_, rfl, r.w, rfl, hw, ?_⟩
    -- new_places
    refine ⟨_, rfl, _, rfl, (by show 2 ≤ sizeLine; decide), fun t2 ht2 => ⟨t2, rfl, ⟨_, SqT.of upd_same⟩, ?_⟩⟩
    have sB : Same H' (upd H' t2 (.tup [V.str r.a, V.str r.b])) := Same.new ht2
    have et2 : (upd H' t2 (.tup [V.str r.a, V.str r.b])) t2 = some (.tup [V.str r.a, V.str r.b]) := upd_same
    generalize upd H' t2 (.tup [V.str r.a, V.str r.b]) = H2 at sB et2
    have g1 := sB _ _ h1
    have g2 := sB _ _ h2
    have g3 := sB _ _ h3
    refine comp_tup (K := K) (a := t2) (ys := [r.a, r.b].map V.str) (fun i acc σ' H' => H' = H2 ∧ acc = (([r.a, r.b].take i).filter fun x => !decide (x ∈ S.pl)).map V.str ∧ ∃ o, σ' = [o, some (.ref p)]) ⟨rfl, rfl, none, rfl⟩ (fun i acc σ' H' h => ?_) (by show 2 ≤ sizeLine; decide)
      (fun i acc σ' H' _ h => by rw [h.1]; exact SqT.of et2) (fun i x acc σ' H' hx h => ?_) (fun acc σ' H' h np hnp => ?_)
    · obtain ⟨_, rfl, _⟩ := h
      rw [List.length_map]
      exact Nat.le_trans (List.length_filter_le _ _) (by rw [List.length_take]; omega)
    · obtain ⟨rfl, rfl, o, rfl⟩ := h
      rw [List.getElem?_map] at hx
      cases ex : [r.a, r.b][i]? with
      | none => rw [ex] at hx; cases hx
      | some y =>
        rw [ex] at hx
        cases hx
        refine ⟨_, rfl, _, rfl, p, C, dx, _, _, rfl, g1, T.cl, T.nS, flds_st _ _, ds, _, rfl, DGet.k (k := Sum.inr y) g2, _, rfl, ?_⟩
        rw [st_in]
        by_cases hy : y ∈ S.pl
        · rw [decide_eq_true hy]
          refine iteF ⟨rfl, ?_, _, rfl⟩
          rw [List.take_add_one, ex, List.filter_append]
          simp [hy]
        · rw [decide_eq_false hy]
          refine iteT ⟨_, rfl, rfl, ?_, _, rfl⟩
          rw [List.take_add_one, ex, List.filter_append, List.map_append]
          simp [hy]
    obtain ⟨rfl, rfl, o, rfl⟩ := h
    have etk : ([r.a, r.b].take ([r.a, r.b].map V.str).length) = [r.a, r.b] := rfl
    rw [etk]
    generalize hnew : ([r.a, r.b].filter fun x => !decide (x ∈ S.pl)) = new
    have hwe : withEnds S.pl r.a r.b = S.pl ++ new := by rw [← hnew]; rfl
    have hnn : new.Nodup ∧ ∀ x ∈ new, x ∉ S.pl := by
      rw [← hnew]
      refine ⟨?_, fun x hx => by simpa using (List.mem_filter.mp hx).2⟩
      refine List.Pairwise.filter _ ?_
      simp [hab]
    have sC : Same H' (upd H' np (.lst (new.map V.str))) := Same.new hnp
    have enp : (upd H' np (.lst (new.map V.str))) np = some (.lst (new.map V.str)) := upd_same
    generalize upd H' np (.lst (new.map V.str)) = H3 at sC enp
    have k1 := sC _ _ g1
    have k2 := sC _ _ g2
    have k3 := sC _ _ g3
    -- the two TooMany
    refine ⟨_, rfl, p, C, dx, _, _, rfl, k1, T.cl, T.nL, flds_ld _ _, dl, _, rfl, k3, _, _, rfl, rfl, _, _, rfl, ?_, ?_⟩
    · have : (ldKV L).length = S.ti.length := by unfold ldKV; rw [List.length_map, ← R.1, List.length_map]
      omega
    refine ⟨_, rfl, p, C, dx, _, _, rfl, k1, T.cl, T.nS, flds_st _ _, ds, _, rfl, k2, _, rfl, np, _, rfl, .inl (SqL.of enp), _, _, rfl, rfl, _, _, rfl, ?_, ?_⟩
    · rw [hwe, List.length_append] at hl20
      have : (stKV S).length = S.pl.length := by unfold stKV; rw [List.length_map]
      rw [List.length_map]
      omega
    -- for end in new_places
    have nnd : np ≠ ds := ne_of enp k2 (by intro z; cases z)
    refine ⟨_, rfl, np, rfl, ⟨_, SqL.of enp⟩, for_list (K := K) (a := np) (xs := new.map V.str) (fun i σ' H' => i ≤ new.length ∧ (∃ e, σ' = [some (.ref p), some (.str r.nm), some (.str r.a), some (.str r.b), some (.int r.w), some (.int r.c), v, some (.ref np), e]) ∧ H' ds = some (.dK (stKV ⟨S.pl ++ new.take i, S.ti⟩)) ∧ ∀ b ob, H3 b = some ob → b ≠ ds → H' b = some ob)
      ⟨Nat.zero_le _, ⟨_, rfl⟩, by rw [List.take_zero, List.append_nil]; exact k2, fun b ob e _ => e⟩ (fun i σ' H' _ h => SqL.of (h.2.2.2 _ _ enp nnd)) (fun i x σ' H' hx h => ?_) (fun σ' H' h => ?_)⟩
    · obtain ⟨hi, ⟨e0, rfl⟩, hds, kp⟩ := h
      rw [List.getElem?_map] at hx
      cases ex : new[i]? with
      | none => rw [ex] at hx; cases hx
      | some y =>
        rw [ex] at hx
        cases hx
        have hil : i < new.length := (List.getElem?_eq_some_iff.mp ex).1
        have hyn : y ∉ S.pl ++ new.take i := by
          intro m
          rcases List.mem_append.mp m with z | z
          · exact hnn.2 y (List.mem_of_getElem? ex) z
          · obtain ⟨j, hj, ej⟩ := List.mem_iff_getElem.mp z
            rw [List.length_take] at hj
            rw [List.getElem_take] at ej
            have e2 := List.getElem?_eq_getElem hil
            rw [ex] at e2
            have : j = i := (List.getElem_inj hnn.1).mp (ej.trans (Option.some.inj e2))
            omega
        refine ⟨_, rfl, p, C, dx, _, _, rfl, kp _ _ k1 (ne_of k1 k2 (by intro z; cases z)), T.cl, T.nS, flds_st _ _, _, rfl, ds, _, rfl, DPut.k (k := Sum.inr y) hds (small1000 ?_), by omega, ⟨_, rfl⟩, ?_, fun b ob e h1 => by rw [upd_ne h1]; exact kp b ob e h1⟩
        · unfold stKV
          rw [List.length_map, List.length_append, List.length_take]
          rw [hwe, List.length_append] at hl20
          omega
        · rw [upd_same, putK_new _ (st_none (S := ⟨S.pl ++ new.take i, S.ti⟩) hyn), List.take_add_one, ex]
          unfold stKV
          show _ = some (HO.dK ((S.pl ++ (new.take i ++ [y])).map _))
          rw [← List.append_assoc, List.map_append (l₂ := [y])]
          rfl
    obtain ⟨_, ⟨e0, rfl⟩, hds, kp⟩ := h
    rw [List.length_map, List.take_length, ← hwe] at hds
    have q1 := kp _ _ k1 (ne_of k1 k2 (by intro z; cases z))
    have q3 := kp _ _ k3 ne.symm
    -- self.laid[name] = (name, a, b, width, cost)
    refine ⟨_, rfl, _, rfl, _, rfl, _, rfl, _, rfl, (by show 5 ≤ sizeLine; decide), fun u hu' => ?_⟩
    have sD : Same H' (upd H' u (.tup [V.str r.nm, V.str r.a, V.str r.b, V.int r.w, V.int r.c])) := Same.new hu'
    have eu : (upd H' u (.tup [V.str r.nm, V.str r.a, V.str r.b, V.int r.w, V.int r.c])) u = some (.tup r.tup) := upd_same
    generalize upd H' u (.tup [V.str r.nm, V.str r.a, V.str r.b, V.int r.w, V.int r.c]) = H5 at sD eu
    refine ⟨_, rfl, p, C, dx, _, _, rfl, sD _ _ q1, T.cl, T.nL, flds_ld _ _, _, rfl, dl, _, rfl, DPut.k (k := Sum.inr r.nm) (sD _ _ q3) (small1000 ?_), ?_⟩
    · have : (ldKV L).length = S.ti.length := by unfold ldKV; rw [List.length_map, ← R.1, List.length_map]
      omega
    have npd : p ≠ dl := ne_of q1 q3 (by intro z; cases z)
    have udl : u ≠ dl := by intro z; rw [z] at hu'; rw [q3] at hu'; cases hu'
    refine k _ ⟨⟨dx, by rw [upd_ne npd]; exact sD _ _ q1⟩, by rw [upd_ne ne]; exact sD _ _ hds, ⟨L ++ [(r, u)], ⟨?_, fun q hq => ?_⟩, ?_⟩, ne⟩ fun b ob e z1 z2 => ?_
    · rw [List.map_append, R.1]; rfl
    · rcases List.mem_append.mp hq with hq | hq
      · have y := R.2 q hq
        have y3 := kp _ _ (sC _ _ (sB _ _ y)) (ne_of (sC _ _ (sB _ _ y)) k2 (by intro z; cases z))
        rw [upd_ne (ne_of y3 q3 (by intro z; cases z))]
        exact sD _ _ y3
      · rw [List.mem_singleton.mp hq, upd_ne udl]
        exact eu
    · rw [upd_same, putK_new _ (ld_none R.1 hn)]
      unfold ldKV
      rw [List.map_append]
      rfl
    · rw [upd_ne z2]
      exact sD _ _ (kp _ _ (sC _ _ (sB _ _ (sA _ _ e))) z1)
end
end Net

namespace Net
open PySem L2
/-! ### papers as data -/
/-- the data that a value bears (n deep at most), all of it laid in the heap -/
def PD (H : Hp) : Nat → V → PyData → Prop
  | _, .non, d => d = .none
  | _, .bl b, d => d = .bool b
  | _, .int i, d => d = .int i
  | _, .str x, d => PyData.strOk x = true ∧ d = .str x
  | n + 1, .ref a, d => (∃ xs ds, H a = some (.lst xs) ∧ d = .list ds ∧ Paired (PD H n) xs ds) ∨ ∃ xs ds, H a = some (.tup xs) ∧ d = .tuple ds ∧ Paired (PD H n) xs ds
  | _, _, _ => False
theorem pair_get {α β : Type} {F : α → β → Prop} {a : α} : ∀ {xs : List α} {ys : List β} {i : Nat}, Paired F xs ys → xs[i]? = some a → ∃ b, ys[i]? = some b ∧ F a b
  | _, _, i, .nil, h => by simp at h
  | _, _, 0, .cons (a := c) (b := b) h _, e => by
    have e' : c = a := by simpa using e
    subst e'
    exact ⟨b, rfl, h⟩
  | _, _, i + 1, .cons _ t, e => by
    obtain ⟨b, h1, h2⟩ := pair_get (i := i) t (by simpa using e)
    exact ⟨b, by simpa using h1, h2⟩
theorem PD.same {H H' : Hp} (s : Same H H') : ∀ {n : Nat} {v : V} {d : PyData}, PD H n v d → PD H' n v d
  | 0, v, d, h => by cases v <;> first | exact h | exact h.elim
  | n + 1, v, d, h => by
    cases v <;> first | exact h | exact h.elim | skip
    rcases h with ⟨xs, ds, e, e2, p⟩ | ⟨xs, ds, e, e2, p⟩
    · exact .inl ⟨xs, ds, s _ _ e, e2, L2.Paired.mapP p fun _ _ h => PD.same s h⟩
    · exact .inr ⟨xs, ds, s _ _ e, e2, L2.Paired.mapP p fun _ _ h => PD.same s h⟩
theorem PD.rd {K : PySem.W.Frag} {H : Hp} : ∀ {n : Nat} {v : V} {d : PyData}, PD H n v d → RdD K H n v d
  | 0, v, d, h => by cases v <;> first | exact h | exact h.elim
  | n + 1, v, d, h => by
    cases v <;> first | exact h | exact h.elim | skip
    rcases h with ⟨xs, ds, e, e2, p⟩ | ⟨xs, ds, e, e2, p⟩
    · exact .inl ⟨xs, ds, SqL.of e, e2, L2.Paired.mapP p fun _ _ h => PD.rd h⟩
    · exact .inr ⟨xs, ds, SqT.of e, e2, L2.Paired.mapP p fun _ _ h => PD.rd h⟩
theorem PD.up {H : Hp} : ∀ {n : Nat} {v : V} {d : PyData}, PD H n v d → PD H (n + 1) v d
  | 0, v, d, h => by cases v <;> first | exact h | exact h.elim
  | n + 1, v, d, h => by
    cases v <;> first | exact h | exact h.elim | skip
    rcases h with ⟨xs, ds, e, e2, p⟩ | ⟨xs, ds, e, e2, p⟩
    · exact .inl ⟨xs, ds, e, e2, L2.Paired.mapP p fun _ _ h => PD.up h⟩
    · exact .inr ⟨xs, ds, e, e2, L2.Paired.mapP p fun _ _ h => PD.up h⟩
theorem PD.mono {H : Hp} {n : Nat} {v : V} {d : PyData} (h : PD H n v d) : ∀ k, PD H (n + k) v d
  | 0 => h
  | k + 1 => (PD.mono h k).up
def isL : PyData → Bool
  | .list _ => true
  | _ => false
def isS : PyData → Bool
  | .str _ => true
  | _ => false
theorem PD.str_of {H : Hp} {n : Nat} {v : V} {d : PyData} (h : PD H n v d) (e : isS d = true) : ∃ x, v = .str x ∧ d = .str x := by
  cases n with
  | zero => cases v <;> first | exact h.elim | (cases (show d = _ from h); cases e) | exact ⟨_, rfl, h.2⟩
  | succ n =>
    cases v <;> first | exact h.elim | (cases (show d = _ from h); cases e) | exact ⟨_, rfl, h.2⟩ | skip
    rcases h with ⟨xs, ds, e1, rfl, p⟩ | ⟨xs, ds, e1, rfl, p⟩ <;> cases e
theorem PD.list_of {H : Hp} {n : Nat} {v : V} {ds : List PyData} (h : PD H n v (.list ds)) : ∃ m a xs, n = m + 1 ∧ v = .ref a ∧ H a = some (.lst xs) ∧ Paired (PD H m) xs ds := by
  cases n with
  | zero => cases v <;> first | exact h.elim | cases (show PyData.list ds = _ from h) | cases h.2
  | succ n =>
    cases v <;> first | exact h.elim | cases (show PyData.list ds = _ from h) | cases h.2 | skip
    rcases h with ⟨xs, ds', e1, e2, p⟩ | ⟨xs, ds', e1, e2, p⟩
    · cases e2; exact ⟨n, _, xs, rfl, rfl, e1, p⟩
    · cases e2
/-! ### walks -/
/-! ### promises -/
section
variable {P : Program} {w : World} {K : PySem.W.Frag} {mg : Str → Option Value} {base : Heap} {C : Addr}
end
end Net

namespace Net
open PySem L2
def cellD (ns : List Int) (k : Int) : Int := (ns[k.toNat]?).getD 0
def spCellD (K : PySem.W.Frag) : Sp := fun vs H Q _ => ∃ (a : Addr) (ns : List Int) (k : Int), vs = [.ref a, .int k] ∧ SqL K H a (ns.map V.int) ∧ 0 ≤ k ∧ Q (.int (cellD ns k)) H
/-! ### names: texts alike but for one letter -/
def bL (c : Int) : List Nat := (List.range (1 + c % 5).toNat).map fun (j : Nat) => 97 + ((c / 5 + (j : Int) * (j : Int)) % 26).toNat
def lat (c : Int) : Nat := (c / 130 % ((bL c).length : Int)).toNat
def lnmL (c k : Int) : List Nat := (bL c).take (lat c) ++ [97 + ((c / 650 + k) % 26).toNat] ++ (bL c).drop (lat c + 1)
def lnm (c k : Int) : Str := ⟨(lnmL c k).toArray⟩
def spLName : Sp := fun vs H Q _ => ∃ (c k : Int), vs = [.int c, .int k] ∧ 0 ≤ k ∧ Q (.str (lnm c k)) H
theorem bL_len (c : Int) : 1 ≤ (bL c).length ∧ (bL c).length ≤ 7 := by
  unfold bL
  rw [List.length_map, List.length_range]
  have h1 := Int.emod_nonneg c (by decide : (5 : Int) ≠ 0)
  have h2 := Int.emod_lt_of_pos c (by decide : (0 : Int) < 5)
  omega
theorem lat_lt (c : Int) : lat c < (bL c).length := by
  unfold lat
  have h := (bL_len c).1
  have h1 := Int.emod_nonneg (c / 130) (by omega : ((bL c).length : Int) ≠ 0)
  have h2 := Int.emod_lt_of_pos (c / 130) (by omega : (0 : Int) < ((bL c).length : Int))
  omega
theorem m26 (z : Int) : (z % 26).toNat < 26 ∧ (((z % 26).toNat : Nat) : Int) = z % 26 := by
  have h1 := Int.emod_nonneg z (by decide : (26 : Int) ≠ 0)
  have h2 := Int.emod_lt_of_pos z (by decide : (0 : Int) < 26)
  omega
theorem bL_small (c : Int) : ∀ x ∈ bL c, 97 ≤ x ∧ x ≤ 122 := fun x hx => by
  obtain ⟨j, _, rfl⟩ := List.mem_map.mp hx
  have := (m26 (c / 5 + (j : Int) * j)).1
  omega
theorem lnmL_len (c k : Int) : (lnmL c k).length = (bL c).length := by
  have := lat_lt c
  unfold lnmL
  simp only [List.length_append, List.length_take, List.length_drop, List.length_singleton]
  omega
theorem lnm_name (c k : Int) : nameB (lnm c k) = true := by
  have h1 : (lnm c k).length = (bL c).length := by
    show (lnmL c k).toArray.size = _
    rw [List.size_toArray, lnmL_len]
  obtain ⟨a, b⟩ := bL_len c
  unfold nameB
  rw [h1, decide_eq_true (by omega), decide_eq_true (by omega)]
  simp only [Bool.true_and, List.all_eq_true]
  intro x hx
  have hs : 97 ≤ x ∧ x ≤ 122 := by
    have hx' : x ∈ lnmL c k := hx
    unfold lnmL at hx'
    rcases List.mem_append.mp hx' with h | h
    · rcases List.mem_append.mp h with h | h
      · exact bL_small c x (List.mem_of_mem_take h)
      · have e : x = 97 + ((c / 650 + k) % 26).toNat := by simpa using h
        have := (m26 (c / 650 + k)).1
        omega
    · exact bL_small c x (List.mem_of_mem_drop h)
  unfold smallB
  rw [decide_eq_true hs.1, decide_eq_true hs.2]
  rfl
theorem lnm_inj {c i j : Int} (hi : 0 ≤ i) (hi' : i < 26) (hj : 0 ≤ j) (hj' : j < 26) (e : lnm c i = lnm c j) : i = j := by
  have e' : lnmL c i = lnmL c j := by
    have := congrArg (fun s : Str => s.cps.toList) e
    simpa [lnm] using this
  have h : ∀ n, (lnmL c n)[lat c]? = some (97 + ((c / 650 + n) % 26).toNat) := by
    intro n
    have := lat_lt c
    unfold lnmL
    rw [List.append_assoc, List.getElem?_append_right (by rw [List.length_take]; omega)]
    simp [List.length_take, Nat.min_eq_left (Nat.le_of_lt this)]
  have h1 := h i
  rw [e', h j] at h1
  have := Option.some.inj h1
  have a1 := (m26 (c / 650 + i)).2
  have a2 := (m26 (c / 650 + j)).2
  omega
theorem abc_at (z : Int) : atI abc.cps.toList (z % 26) = some (97 + (z % 26).toNat) := by
  obtain ⟨h1, h2⟩ := m26 z
  have := atI_nat (abc_get h1)
  rw [h2] at this
  exact this
theorem str_ext {x y : Str} (h : x.cps.toList = y.cps.toList) : x = y := by
  obtain ⟨a⟩ := x
  obtain ⟨b⟩ := y
  exact congrArg Str.mk (Array.toList_inj.mp h)
section
variable {P : Program} {w : World} {K : PySem.W.Frag} {mg : Str → Option Value} {base : Heap} {C : Addr}
theorem ok_cellD {f : Addr} {fd : FuncData} (F : Fun K "_law_cell_at" "_law_cell_at" s_l_cell_at f fd) (T : Txt K mg C) : FnOk P w K mg base CX0 1 f fd ["_law_script", "_law_k"] (spCellD K) := by
  refine F.ok sc_cell (fun vs H Q E h => ?_) (fun cdv A outer s H vs Q E hr h => ?_)
  · obtain ⟨a, ns, k, rfl, _⟩ := h
    rfl
  · obtain ⟨a, ns, k, rfl, hS, hk, q⟩ := h
    refine ⟨_, pss_cons (ps_if (pt_cmpR op_lt (pv 1) (pe_callB call_len_seq (by rfl) T.len b_len (pa_cons (pv 0) pa_nil)) (nomark _)) (pss_one (ps_ret (pe_ix ix_list (pv 0) (pv 1) (fun _ _ => rfl)))) pss_nil) (pss_one (ps_ret pe_int)), ?_⟩
    obtain ⟨n, rfl⟩ := Int.eq_ofNat_of_zero_le hk
    have ec : cellD ns n = (ns[n]?).getD 0 := rfl
    refine ⟨_, rfl, _, rfl, a, _, rfl, .inl hS, _, _, rfl, rfl, _, rfl, ite2 (fun h => ?_) (fun h => ?_)⟩
    · have hn : n < ns.length := by
        have := of_decide_eq_true h
        rw [List.length_map] at this
        omega
      have e : cellD ns n = ns[n] := by rw [ec, List.getElem?_eq_getElem hn]; rfl
      rw [e] at q
      exact ⟨_, rfl, _, rfl, a, _, _, _, rfl, rfl, hS, atI_nat (v := V.int ns[n]) (by simp [hn]), q⟩
    · have hn : ¬ n < ns.length := fun z => h (decide_eq_true (by rw [List.length_map]; omega))
      have e : cellD ns n = 0 := by rw [ec, List.getElem?_eq_none (by omega)]; rfl
      rw [e] at q
      exact q
abbrev Nlname : List Str := ["_law_cell", "_law_k", "_law_letters", "_law_found", "_law_j", "_law_at"]
theorem sc_lname : FnScope Nlname ["_law_cell", "_law_k"] (defScope s_l_name) := ⟨rfl, rfl, rfl, by decide +kernel, rfl, by decide +kernel, by decide +kernel⟩
theorem ok_lname {f : Addr} {fd : FuncData} (F : Fun K "_law_name" "_law_name" s_l_name f fd) (T : Txt K mg C) : FnOk P w K mg base CX0 1 f fd ["_law_cell", "_law_k"] spLName := by
  refine F.ok sc_lname (fun vs H Q E h => ?_) (fun cdv A outer s H vs Q E hr h => ?_)
  · obtain ⟨c, k, rfl, _⟩ := h
    rfl
  · obtain ⟨c, k, rfl, hk, q⟩ := h
    refine ⟨_, (pss_cons (ps_set (i := 2) sc_lname.nd rfl (Or.inl rfl) pe_str)
      (pss_cons (ps_set (i := 3) sc_lname.nd rfl (Or.inl rfl) pe_str)
      (pss_cons (ps_for PassesOwn.never rfl (pi_range1 rfl T.range (pa_cons (pe_op op_add pe_int (pe_op op_mod (pv 0) pe_int)) pa_nil)) (pg_name (i := 4) sc_lname.nd rfl (Or.inl rfl))
        (pss_one (ps_set (i := 3) sc_lname.nd rfl (Or.inl rfl) (pe_op op_add_str (pv 3) (pe_ix ix_str (pv 2) (pe_op op_mod (pe_op op_add (pe_op op_fdiv (pv 0) pe_int) (pe_op op_mul (pv 4) (pv 4))) pe_int) (fun _ _ => rfl))))))
      (pss_cons (ps_set (i := 5) sc_lname.nd rfl (Or.inl rfl) (pe_op op_mod (pe_op op_fdiv (pv 0) pe_int) (pe_callB call_len_str (by rfl) T.len b_len (pa_cons (pv 3) pa_nil))))
      (pss_one (ps_ret (pe_op op_add_str (pe_op op_add_str (pe_slice sl_str (pv 3) po_none (po_some (pv 5))) (pe_ix ix_str (pv 2) (pe_op op_mod (pe_op op_add (pe_op op_fdiv (pv 0) pe_int) (pv 1)) pe_int) (fun _ _ => rfl))) (pe_slice sl_str (pv 3) (po_some (pe_op op_add (pv 5) pe_int)) po_none)))))))), ?_⟩
    have hl : abc.length = 26 := by decide +kernel
    have h71 := Int.emod_nonneg c (by decide : (5 : Int) ≠ 0)
    have h72 := Int.emod_lt_of_pos c (by decide : (0 : Int) < 5)
    have bl : (bL c).length = (1 + c % 5).toNat := by unfold bL; rw [List.length_map, List.length_range]
    obtain ⟨b1, b2⟩ := bL_len c
    have l4 : ∀ x y : Str, (x ++ y).length = x.length + y.length := fun x y => Array.size_append
    refine ⟨_, rfl, _, _, rfl, rfl, (by show (0 : Int) < 5; decide), _, _, rfl, rfl, _, rfl, by omega, by omega, for_range (fun i σ' H' => i ≤ (bL c).length ∧ H' = H ∧ ∃ o, σ' = [some (.int c), some (.int k), some (.str abc), some (.str ⟨((bL c).take i).toArray⟩), o, none])
      ⟨Nat.zero_le _, rfl, none, rfl⟩ (fun i σ' H' hi h => ?_) (fun σ' H' h => ?_)⟩
    · obtain ⟨h0, rfl, o, rfl⟩ := h
      rw [← bl] at hi
      have ei : (bL c)[i]? = some (97 + ((c / 5 + (i : Int) * i) % 26).toNat) := by
        have : i < (1 + c % 5).toNat := by omega
        unfold bL
        rw [List.getElem?_map, List.getElem?_range this]
        rfl
      have s1 : (⟨((bL c).take i).toArray⟩ : Str).length = i := by
        show ((bL c).take i).toArray.size = i
        rw [List.size_toArray, List.length_take]
        omega
      have s26 : (26 : Nat) ≤ sizeLine := by decide
      refine ⟨_, rfl, _, rfl, _, rfl, _, _, rfl, rfl, ⟨by decide, by decide⟩, _, rfl, _, rfl, _, _, rfl, rfl, .inl ⟨by omega, by omega⟩, _, _, rfl, rfl, _, _, rfl, rfl, (by show (0 : Int) < 26; decide), abc, _, _, rfl, rfl, (by rw [hl]; decide), abc_at _, _, _, rfl, rfl, ?_, ?_⟩
      · rw [s1]
        show i + 1 ≤ sizeLine
        omega
      · refine ⟨by omega, rfl, some (.int ((0 : Int) + i)), ?_⟩
        have e : (⟨((bL c).take i).toArray⟩ : Str) ++ (⟨#[97 + ((c / 5 + ((0 : Int) + i) * ((0 : Int) + i)) % 26).toNat]⟩ : Str) = ⟨((bL c).take (i + 1)).toArray⟩ := by
          refine str_ext ?_
          show (((bL c).take i).toArray ++ #[97 + ((c / 5 + ((0 : Int) + i) * ((0 : Int) + i)) % 26).toNat]).toList = ((bL c).take (i + 1)).toArray.toList
          rw [Array.toList_append, List.take_add_one, ei, Int.zero_add]
          rfl
        rw [← e]
        rfl
    · obtain ⟨h0, rfl, o, rfl⟩ := h
      rw [← bl, List.take_length]
      have hf : (⟨(bL c).toArray⟩ : Str).length = (bL c).length := List.size_toArray
      have s26 : (26 : Nat) ≤ sizeLine := by decide
      have l1 : ∀ a b, (Txt.slice ⟨(bL c).toArray⟩ a b).length ≤ 7 := fun a b => Nat.le_trans (Txt.slice_le _ _ _) (by rw [hf]; exact b2)
      refine ⟨_, rfl, _, _, rfl, rfl, ⟨by decide, by decide⟩, _, rfl, _, rfl, (by rw [hf]; omega), _, _, rfl, rfl, (by rw [hf]; omega), ?_⟩
      have la : c / 130 % ((⟨(bL c).toArray⟩ : Str).length : Int) = ((lat c : Nat) : Int) := by
        have h1 := Int.emod_nonneg (c / 130) (by omega : ((bL c).length : Int) ≠ 0)
        unfold lat
        rw [hf, Int.toNat_of_nonneg h1]
      refine ⟨_, rfl, _, rfl, _, rfl, _, rfl, (by rw [hf]; omega), _, rfl, _, rfl, _, _, rfl, rfl, ⟨by decide, by decide⟩, _, rfl, _, _, rfl, rfl, _, _, rfl, rfl, (by show (0 : Int) < 26; decide), abc, _, _, rfl, rfl, (by rw [hl]; decide), abc_at _, _, _, rfl, rfl, ?_, _, rfl, _, rfl, _, _, rfl, rfl, _, rfl, _, rfl, (by rw [hf]; omega), _, _, rfl, rfl, ?_, ?_⟩
      · have := l1 none (some (c / 130 % ((⟨(bL c).toArray⟩ : Str).length : Int)))
        show _ + 1 ≤ sizeLine
        omega
      · rw [l4]
        have x1 := l1 none (some (c / 130 % ((⟨(bL c).toArray⟩ : Str).length : Int)))
        have x2 := l1 (some (c / 130 % ((⟨(bL c).toArray⟩ : Str).length : Int) + 1)) none
        show _ + 1 + _ ≤ sizeLine
        omega
      · have e : Txt.slice ⟨(bL c).toArray⟩ none (some (c / 130 % ((⟨(bL c).toArray⟩ : Str).length : Int))) ++ (⟨#[97 + ((c / 650 + k) % 26).toNat]⟩ : Str) ++ Txt.slice ⟨(bL c).toArray⟩ (some (c / 130 % ((⟨(bL c).toArray⟩ : Str).length : Int) + 1)) none = lnm c k := by
          refine str_ext ?_
          show ((Txt.slice ⟨(bL c).toArray⟩ none (some (c / 130 % ((⟨(bL c).toArray⟩ : Str).length : Int)))).cps ++ #[97 + ((c / 650 + k) % 26).toNat] ++ (Txt.slice ⟨(bL c).toArray⟩ (some (c / 130 % ((⟨(bL c).toArray⟩ : Str).length : Int) + 1)) none).cps).toList = _
          rw [Array.toList_append, Array.toList_append, la, slice_to]
          have := slice_from (⟨(bL c).toArray⟩ : Str) (a := lat c + 1) (by rw [hf]; exact lat_lt c)
          rw [show ((lat c : Nat) : Int) + 1 = ((lat c + 1 : Nat) : Int) from rfl, this]
          rfl
        rw [← e] at q
        exact q
end
end Net

namespace Net
open PySem L2
structure GoodS (S : NS) : Prop where
  ndP : S.pl.Nodup
  lenP : S.pl.length ≤ 4
  neP : 1 ≤ S.pl.length
  okP : ∀ x ∈ S.pl, nameB x = true
  ndT : S.nms.Nodup
  lenT : S.ti.length ≤ 10
  okT : ∀ r ∈ S.ti, nameB r.nm = true ∧ r.a ∈ S.pl ∧ r.b ∈ S.pl
  neT : ∀ r ∈ S.ti, ¬ r.a = r.b ∧ 1 ≤ r.w
  okC : ∀ r ∈ S.ti, -4 ≤ r.c ∧ r.c ≤ 4
structure PartsAt (H : Hp) (pa ta : Addr) (S : NS) : Prop where
  pl : H pa = some (.lst (S.pl.map V.str))
  ti : ∃ L, Rows H L S.ti ∧ H ta = some (.lst (L.map fun q => V.ref q.2))
theorem PartsAt.same {H H' : Hp} {pa ta : Addr} {S : NS} (s : Same H H') (h : PartsAt H pa ta S) : PartsAt H' pa ta S := ⟨s _ _ h.pl, let ⟨L, a, b⟩ := h.ti; ⟨L, a.same s, s _ _ b⟩⟩
def spParts (K : PySem.W.Frag) : Sp := fun vs H Q _ => ∃ (a : Addr) (ns : List Int), vs = [.ref a] ∧ SqL K H a (ns.map V.int) ∧
  ∀ (t pa ta : Addr) (S : NS) (H' : Hp), Same H H' → H' t = some (.tup [.ref pa, .ref ta]) → PartsAt H' pa ta S → GoodS S → Q (.ref t) H'
structure TxtM (mg : Str → Option Value) : Prop where
  max : mg "max" = none
  enum : mg "enumerate" = none
theorem b_max : bootBuiltins "max" = some (.builtin "max") := by decide +kernel
def lpl (c : Int) (n : Nat) : List Str := (List.range n).map fun (j : Nat) => lnm c (j : Int)
theorem lpl_nodup (c : Int) {n : Nat} (h : n ≤ 26) : (lpl c n).Nodup := by
  unfold lpl List.Nodup
  rw [List.pairwise_map]
  refine List.Pairwise.imp_of_mem (fun {a b} ha hb hne e => hne ?_) List.nodup_range
  have h1 := List.mem_range.mp ha
  have h2 := List.mem_range.mp hb
  have := lnm_inj (c := c) (i := (a : Int)) (j := (b : Int)) (by omega) (by omega) (by omega) (by omega) e
  omega
theorem lpl_get (c : Int) {n j : Nat} (h : j < n) : (lpl c n)[j]? = some (lnm c (j : Int)) := by
  unfold lpl
  rw [List.getElem?_map, List.getElem?_range h]
  rfl
theorem lpl_at (c : Int) {n j : Nat} (h : j < n) : atI ((lpl c n).map V.str) (j : Int) = some (V.str (lnm c (j : Int))) := atI_nat (by rw [List.getElem?_map, lpl_get c h]; rfl)
theorem emod_nat (z : Int) {n : Nat} (h : 1 ≤ n) : ∃ j : Nat, j < n ∧ z % (n : Int) = (j : Int) := by
  have h1 := Int.emod_nonneg z (by omega : (n : Int) ≠ 0)
  have h2 := Int.emod_lt_of_pos z (by omega : (0 : Int) < (n : Int))
  exact ⟨(z % (n : Int)).toNat, by omega, by omega⟩
theorem cut_len (xs : List V) {a b : Nat} (h : a ≤ b) : (cutV xs (some (a : Int)) (some (b : Int))).length ≤ b - a := by
  unfold cutV
  rw [HT.sIx_nat, HT.sIx_nat, List.length_take]
  omega
theorem cut_ints {ns : List Int} {a b : Option Int} : ∀ v ∈ cutV (ns.map V.int) a b, ∃ i, v = V.int i := fun v hv => by
  unfold cutV at hv
  have := List.mem_of_mem_drop (List.mem_of_mem_take hv)
  obtain ⟨i, _, rfl⟩ := List.mem_map.mp this
  exact ⟨i, rfl⟩
/-- what the ties are, behind i cells -/
structure TiesI (c1 c2 : Int) (n i : Nat) (ti : List Row) : Prop where
  len : ti.length ≤ i
  nd : (ti.map (·.nm)).Nodup
  nm : ∀ r ∈ ti, ∃ j : Nat, j < i ∧ r.nm = lnm c2 (j : Int)
  ab : ∀ r ∈ ti, r.a ∈ lpl c1 n ∧ r.b ∈ lpl c1 n ∧ ¬ r.a = r.b ∧ 1 ≤ r.w ∧ -4 ≤ r.c ∧ r.c ≤ 4
theorem TiesI.keep {c1 c2 : Int} {n i : Nat} {ti : List Row} (h : TiesI c1 c2 n i ti) : TiesI c1 c2 n (i + 1) ti := ⟨Nat.le_succ_of_le h.len, h.nd, fun r hr => let ⟨j, a, b⟩ := h.nm r hr; ⟨j, by omega, b⟩, h.ab⟩
theorem TiesI.add {c1 c2 : Int} {n i a b : Nat} {w c : Int} {ti : List Row} (h : TiesI c1 c2 n i ti) (hi : i < 26) (hn : n ≤ 26) (ha : a < n) (hb : b < n) (hab : a ≠ b) (hw : 1 ≤ w) (hc : -4 ≤ c ∧ c ≤ 4) :
    TiesI c1 c2 n (i + 1) (ti ++ [⟨lnm c2 (i : Int), lnm c1 (a : Int), lnm c1 (b : Int), w, c⟩]) := by
  refine ⟨by rw [List.length_append]; exact Nat.succ_le_succ h.len, ?_, fun r hr => ?_, fun r hr => ?_⟩
  · rw [List.map_append]
    refine nodup_snoc h.nd fun z => ?_
    obtain ⟨r, hr, e⟩ := List.mem_map.mp z
    obtain ⟨j, hj, e2⟩ := h.nm r hr
    have := lnm_inj (c := c2) (i := (j : Int)) (j := (i : Int)) (by omega) (by omega) (by omega) (by omega) (e2.symm.trans e)
    omega
  · rcases List.mem_append.mp hr with hr | hr
    · obtain ⟨j, a, b⟩ := h.nm r hr
      exact ⟨j, by omega, b⟩
    · cases List.mem_singleton.mp hr
      exact ⟨i, by omega, rfl⟩
  · rcases List.mem_append.mp hr with hr | hr
    · exact h.ab r hr
    · cases List.mem_singleton.mp hr
      refine ⟨List.mem_of_getElem? (lpl_get c1 ha), List.mem_of_getElem? (lpl_get c1 hb), fun z => ?_, hw, hc⟩
      have := lnm_inj (c := c1) (i := (a : Int)) (j := (b : Int)) (by omega) (by omega) (by omega) (by omega) z
      omega
section
variable {P : Program} {w : World} {K : PySem.W.Frag} {mg : Str → Option Value} {base : Heap} {C : Addr}
abbrev Nparts : List Str := ["_law_script", "_law_first", "_law_places", "_law_ties", "_law_k", "_law_cell", "_law_a", "_law_b", "_law_name_here"]
theorem sc_parts : FnScope Nparts ["_law_script"] (defScope s_l_parts) := ⟨rfl, rfl, rfl, by decide +kernel, rfl, by decide +kernel, by decide +kernel⟩
theorem ok_parts {f : Addr} {fd : FuncData} (F : Fun K "_law_parts" "_law_parts" s_l_parts f fd) (T : Txt K mg C) (TM : TxtM mg) (cc : Can P w K mg base 1 "_law_cell_at" ["_law_script", "_law_k"] (spCellD K)) (cn : Can P w K mg base 1 "_law_name" ["_law_cell", "_law_k"] spLName) :
    FnOk P w K mg base CX0 2 f fd ["_law_script"] (spParts K) := by
  refine F.ok sc_parts (fun vs H Q E h => ?_) (fun cdv A outer s H vs Q E hr h => ?_)
  · obtain ⟨a, ns, rfl, _⟩ := h
    rfl
  · obtain ⟨a, ns, rfl, hS, q⟩ := h
    have nd2 : List.Nodup (["_law_k", "_law_script"] : List Str) := by decide +kernel
    refine ⟨_, (pss_cons (ps_set (i := 1) sc_parts.nd rfl (Or.inl rfl) (pe_callC cc hr (by rfl) (pa_cons (pv 0) (pa_cons pe_int pa_nil))))
      (pss_cons (ps_comp (j := 2) (N := ["_law_k", "_law_script"]) (xs := 1) (js := [0]) rfl sc_parts.nd rfl rfl (compScope_of rfl) (pi_range1 rfl T.range (pa_cons (pe_op op_add pe_int (pe_op op_mod (pv 1) pe_int)) pa_nil))
          (fun _ _ _ _ => pg_name (i := 0) nd2 rfl (Or.inl rfl)) (fun _ _ _ _ => pts_nil) (fun _ _ _ _ => pe_callC cn hr (by rfl) (pa_cons (pe_callC cc hr (by rfl) (pa_cons (pv 1) (pa_cons pe_int pa_nil))) (pa_cons (pv 0) pa_nil))) rfl)
      (pss_cons (ps_set (i := 3) sc_parts.nd rfl (Or.inl rfl) (pe_lst pa_nil))
      (pss_cons (ps_for PassesOwn.never rfl (pi_enum rfl TM.enum (pa_cons (pe_slice sl_list (pv 0) (po_some pe_int) (po_some (pe_op op_add pe_int (pe_op op_mod (pe_op op_fdiv (pv 1) pe_int) pe_int)))) pa_nil))
          (pg_tup rfl (pgs_cons (pg_name (i := 4) sc_parts.nd rfl (Or.inl rfl)) (pgs_cons (pg_name (i := 5) sc_parts.nd rfl (Or.inl rfl)) pgs_nil)))
        (pss_cons (ps_set (i := 6) sc_parts.nd rfl (Or.inl rfl) (pe_op op_mod (pv 5) (pe_callB call_len_seq (by rfl) T.len b_len (pa_cons (pv 2) pa_nil))))
      (pss_cons (ps_set (i := 7) sc_parts.nd rfl (Or.inl rfl) (pe_op op_mod (pe_op op_add (pe_op op_add (pv 6) pe_int) (pe_op op_mod (pe_op op_fdiv (pv 5) pe_int) (pe_callB (call_max2 rfl) (by rfl) TM.max b_max (pa_cons pe_int (pa_cons (pe_op op_sub (pe_callB call_len_seq (by rfl) T.len b_len (pa_cons (pv 2) pa_nil)) pe_int) pa_nil)))))
            (pe_callB call_len_seq (by rfl) T.len b_len (pa_cons (pv 2) pa_nil))))
      (pss_cutE (ps_if (pt_cmpR op_eq (pe_op op_mod (pe_op op_fdiv (pv 1) pe_int) pe_int) pe_int (nomark _)) (pss_one (ps_set (i := 7) sc_parts.nd rfl (Or.inl rfl) (pe_op op_mod (pe_op op_add (pv 6) pe_int) (pe_callB call_len_seq (by rfl) T.len b_len (pa_cons (pv 2) pa_nil))))) pss_nil)
      (pss_one (ps_if (pt_cmpR op_ne (pv 6) (pv 7) (nomark _)) (pss_cons (ps_set (i := 8) sc_parts.nd rfl (Or.inl rfl) (pe_callC cn hr (by rfl) (pa_cons (pe_callC cc hr (by rfl) (pa_cons (pv 0) (pa_cons pe_int pa_nil))) (pa_cons (pv 4) pa_nil))))
      (pss_one (ps_expr (pe_bm PySem.F.plainAttrs_list PySem.F.slot_list_append PySem.F.type_list_append mt_append (pv 3) (pa_cons (pe_tup (pa_cons (pv 8) (pa_cons (pe_ix ix_list (pv 2) (pv 6) (fun _ _ => by rfl)) (pa_cons (pe_ix ix_list (pv 2) (pv 7) (fun _ _ => by rfl)) (pa_cons (pe_op op_add pe_int (pe_op op_mod (pe_op op_fdiv (pv 5) pe_int) pe_int)) (pa_cons (pe_op op_sub (pe_op op_mod (pe_op op_fdiv (pv 5) pe_int) pe_int) pe_int) pa_nil)))))) pa_nil))))) pss_nil))))))
      (pss_one (ps_ret (pe_tup (pa_cons (pv 2) (pa_cons (pv 3) pa_nil))))))))), ?_⟩
    refine ⟨_, rfl, a, ns, 0, rfl, hS, by decide, ?_⟩
    generalize cellD ns 0 = first
    have h61 := Int.emod_nonneg first (by decide : (4 : Int) ≠ 0)
    have h62 := Int.emod_lt_of_pos first (by decide : (0 : Int) < 4)
    obtain ⟨n, en⟩ : ∃ n : Nat, (1 + first % 4 : Int) = (n : Int) := ⟨(1 + first % 4).toNat, by omega⟩
    have hn1 : 1 ≤ n := by omega
    have hn6 : n ≤ 4 := by omega
    -- the places
    refine ⟨_, rfl, _, _, rfl, rfl, (by show (0 : Int) < 4; decide), _, _, rfl, rfl, _, rfl, by omega, by omega, ?_⟩
    rw [en, Int.toNat_natCast]
    refine comp_range (n := n) (fun i acc σ' H' => i ≤ n ∧ H' = H ∧ acc = (lpl (cellD ns 1) i).map V.str ∧ ∃ o, σ' = [o, some (.ref a)])
      ⟨Nat.zero_le _, rfl, rfl, none, rfl⟩ (fun i acc σ' H' h => ?_) (Nat.le_trans hn6 (by decide)) (fun i acc σ' H' hi h => ?_) (fun acc σ' H' h pa hpa => ?_)
    · obtain ⟨_, _, rfl, _⟩ := h
      unfold lpl
      simp
    · obtain ⟨h0, rfl, rfl, o, rfl⟩ := h
      refine ⟨_, rfl, a, ns, 1, rfl, hS, by decide, _, rfl, _, _, rfl, by omega, by omega, rfl, ?_, _, rfl⟩
      unfold lpl
      rw [List.range_succ, List.map_append, List.map_append, Int.zero_add]
      rfl
    · obtain ⟨h0, rfl, rfl, o, rfl⟩ := h
      have epa : (upd H' pa (.lst ((lpl (cellD ns 1) n).map V.str))) pa = some (.lst ((lpl (cellD ns 1) n).map V.str)) := upd_same
      have s1 : Same H' (upd H' pa (.lst ((lpl (cellD ns 1) n).map V.str))) := Same.new hpa
      generalize upd H' pa (.lst ((lpl (cellD ns 1) n).map V.str)) = H1 at epa s1
      have hlp : ((lpl (cellD ns 1) n).map V.str).length = n := by unfold lpl; simp
      -- the ties
      refine ⟨by decide, fun ta hta => ?_⟩
      have s2 : Same H1 (upd H1 ta (.lst [])) := Same.new hta
      have eta : (upd H1 ta (.lst [])) ta = some (.lst []) := upd_same
      generalize upd H1 ta (.lst []) = H2 at s2 eta
      obtain ⟨m, hm, em⟩ := emod_nat (first / 4) (n := 8) (by decide)
      refine ⟨_, rfl, _, rfl, _, rfl, _, _, rfl, rfl, ⟨by decide, by decide⟩, _, _, rfl, rfl, (by show (0 : Int) < 8; decide), _, _, rfl, rfl, _, rfl, a, _, rfl, (s1.trans s2).seq hS, fun sc hsc => ⟨sc, rfl, ⟨_, SqL.of upd_same⟩, ?_⟩⟩
      have e4 : (4 + first / 4 % 8 : Int) = ((4 + m : Nat) : Int) := by
        have em' : first / 4 % 8 = (m : Int) := em
        omega
      have clen : (cutV (ns.map V.int) (some 4) (some (4 + first / 4 % 8))).length ≤ 10 := by
        rw [e4]
        exact Nat.le_trans (cut_len (ns.map V.int) (a := 4) (b := 4 + m) (by omega)) (by omega)
      have cint := cut_ints (ns := ns) (a := some 4) (b := some (4 + first / 4 % 8))
      have s3 := s2.upd (o := .lst (cutV (ns.map V.int) (some 4) (some (4 + first / 4 % 8)))) hsc
      have esc : (upd H2 sc (.lst (cutV (ns.map V.int) (some 4) (some (4 + first / 4 % 8))))) sc = some (.lst (cutV (ns.map V.int) (some 4) (some (4 + first / 4 % 8)))) := upd_same
      have eta3 : (upd H2 sc (.lst (cutV (ns.map V.int) (some 4) (some (4 + first / 4 % 8))))) ta = some (.lst []) := (Same.new hsc) _ _ eta
      have nst : sc ≠ ta := (ne_of_none eta hsc).symm
      generalize cutV (ns.map V.int) (some 4) (some (4 + first / 4 % 8)) = cells at clen cint s3 esc eta3
      generalize upd H2 sc (.lst cells) = H3 at s3 esc eta3
      refine for_enum (K := K) (a := sc) (xs := cells) (fun i σ' H'' => ∃ (ti : List Row) (L : List (Row × Addr)) (o1 o2 o3 o4 o5 : Option V), σ' = [some (.ref a), some (.int first), some (.ref pa), some (.ref ta), o1, o2, o3, o4, o5] ∧ Same H1 H'' ∧
          H'' ta = some (.lst (L.map fun q => V.ref q.2)) ∧ Rows H'' L ti ∧ H'' sc = some (.lst cells) ∧ TiesI (cellD ns 1) (cellD ns 2) n i ti)
        ⟨[], [], none, none, none, none, none, rfl, s3, eta3, ⟨rfl, fun _ h => (nomatch h)⟩, esc, ⟨Nat.le_refl _, List.nodup_nil, fun _ h => (nomatch h), fun _ h => (nomatch h)⟩⟩ (fun i σ' H'' _ h => ?_) (fun i x σ' H'' t hx h ht => ?_) (fun σ' H'' h => ?_)
      · obtain ⟨_, _, _, _, _, _, _, _, _, _, _, e, _⟩ := h
        exact SqL.of e
      · obtain ⟨ti, L, o1, o2, o3, o4, o5, rfl, s4, eta4, R4, esc4, TI⟩ := h
        obtain ⟨cell, rfl⟩ := cint x (List.mem_of_getElem? hx)
        have hi : i < cells.length := (List.getElem?_eq_some_iff.mp hx).1
        have s5 := s4.upd (o := .tup [.int i, .int cell]) ht
        have n5 := Same.new (o := .tup [.int i, .int cell]) ht
        have et : (upd H'' t (.tup [.int i, .int cell])) t = some (.tup [.int i, .int cell]) := upd_same
        have eta5 := n5 _ _ eta4
        have esc5 := n5 _ _ esc4
        have R5 := R4.same n5
        generalize upd H'' t (.tup [.int i, .int cell]) = H5 at s5 et eta5 esc5 R5
        have epa5 := s5 _ _ epa
        refine ⟨t, _, rfl, SqT.of et, rfl, _, _, rfl, _, _, rfl, rfl, ?_⟩
        refine ⟨_, rfl, _, rfl, pa, _, rfl, .inl (SqL.of epa5), _, _, rfl, rfl, (by rw [hlp]; omega), ?_⟩
        obtain ⟨aa, haa, ea⟩ := emod_nat cell hn1
        dsimp only
        rw [hlp, ea]
        have hmax : (0 : Int) < (if ((n : Int) - 1) > 1 then ((n : Int) - 1) else 1) := by split <;> omega
        refine ⟨_, rfl, _, _, rfl, rfl, _, rfl, _, _, rfl, rfl, ⟨by decide, by decide⟩, _, rfl, pa, _, rfl, .inl (SqL.of epa5), _, _, rfl, rfl, _, _, rfl, _, _, rfl, rfl, (by rw [hlp]; exact hmax), _, _, rfl, rfl, _, rfl, pa, _, rfl, .inl (SqL.of epa5), _, _, rfl, rfl, (by rw [hlp]; omega), ?_⟩
        rw [hlp]
        obtain ⟨b0, hb0, eb0⟩ := emod_nat ((aa : Int) + 1 + cell / 4 % (if ((n : Int) - 1) > 1 then ((n : Int) - 1) else 1)) hn1
        dsimp only
        rw [eb0]
        refine ⟨fun σ2 H2 => H2 = H5 ∧ ∃ b : Nat, b < n ∧ σ2 = [some (.ref a), some (.int first), some (.ref pa), some (.ref ta), some (.int i), some (.int cell), some (.int aa), some (.int b), o5], ?_, ?_⟩
        · refine ⟨_, rfl, _, _, rfl, rfl, ⟨by decide, by decide⟩, _, _, rfl, rfl, (by show (0 : Int) < 4; decide), rfl, _, rfl, ite2 (fun _ => ?_) (fun _ => ⟨rfl, b0, hb0, rfl⟩)⟩
          refine ⟨_, rfl, _, _, rfl, rfl, _, rfl, pa, _, rfl, .inl (SqL.of epa5), _, _, rfl, rfl, (by rw [hlp]; omega), rfl, ?_⟩
          obtain ⟨b1, hb1, eb1⟩ := emod_nat ((aa : Int) + 1) hn1
          refine ⟨b1, hb1, ?_⟩
          rw [hlp, ← eb1]
          rfl
        · rintro σ2 H2' ⟨rfl, b, hb, rfl⟩
          refine ⟨_, rfl, _, rfl, rfl, _, rfl, ite2 (fun hne => ?_) (fun _ => ⟨ti, L, _, _, _, _, _, rfl, s5, eta5, R5, esc5, TI.keep⟩)⟩
          have hab : aa ≠ b := fun z => by
            rw [z] at hne
            simp at hne
          refine ⟨_, rfl, a, ns, 2, rfl, (s1.trans s5).seq hS, by decide, _, rfl, _, _, rfl, by omega, ?_⟩
          refine ⟨_, rfl, .inl ⟨rfl, _, SqL.of eta5⟩, _, rfl, _, rfl, _, rfl, pa, _, _, _, rfl, rfl, SqL.of epa5, lpl_at _ haa, _, rfl, _, rfl, pa, _, _, _, rfl, rfl, SqL.of epa5, lpl_at _ hb, _, rfl, _, _, rfl, rfl, ⟨by decide, by decide⟩, _, _, rfl, rfl, (by show (0 : Int) < 3; decide), _, _, rfl, rfl,
            _, rfl, _, _, rfl, rfl, ⟨by decide, by decide⟩, _, _, rfl, rfl, (by show (0 : Int) < 7; decide), _, _, rfl, rfl, (by show 5 ≤ sizeLine; decide), fun t2 ht2 => ?_⟩
          have n6 := Same.new (o := .tup [.str (lnm (cellD ns 2) i), .str (lnm (cellD ns 1) aa), .str (lnm (cellD ns 1) b), .int (1 + cell / 16 % 3), .int (cell / 48 % 7 - 3)]) ht2
          have nt2 : t2 ≠ ta := (ne_of_none eta5 ht2).symm
          refine ⟨ta, _, _, rfl, rfl, n6 _ _ eta5, ?_, ?_⟩
          · refine small1000 ?_
            have := congrArg List.length R5.1
            rw [List.length_map] at this
            rw [List.length_map, this]
            have := TI.len
            omega
          · have h4 := Int.emod_nonneg (cell / 16) (by decide : (3 : Int) ≠ 0)
            have h91 := Int.emod_nonneg (cell / 48) (by decide : (7 : Int) ≠ 0)
            have h92 := Int.emod_lt_of_pos (cell / 48) (by decide : (0 : Int) < 7)
            refine ⟨ti ++ [⟨lnm (cellD ns 2) i, lnm (cellD ns 1) aa, lnm (cellD ns 1) b, 1 + cell / 16 % 3, cell / 48 % 7 - 3⟩], L ++ [(⟨lnm (cellD ns 2) i, lnm (cellD ns 1) aa, lnm (cellD ns 1) b, 1 + cell / 16 % 3, cell / 48 % 7 - 3⟩, t2)], _, _, _, _, _, rfl, fun bb ob z => ?_, ?_, ⟨?_, fun z hz => ?_⟩, ?_, TI.add (by omega) (by omega) haa hb hab (by omega) ⟨by omega, by omega⟩⟩
            · rw [upd_ne (ne_of_none z hta)]
              exact n6 _ _ (s5 _ _ z)
            · rw [upd_same, List.map_append]
              rfl
            · rw [List.map_append, R5.1]
              rfl
            · rcases List.mem_append.mp hz with hz | hz
              · rw [upd_ne (ne_of (R5.2 z hz) eta5 (fun q => by cases q))]
                exact n6 _ _ (R5.2 z hz)
              · cases List.mem_singleton.mp hz
                rw [upd_ne nt2]
                exact upd_same
            · rw [upd_ne nst]
              exact n6 _ _ esc5
      · obtain ⟨ti, L, o1, o2, o3, o4, o5, rfl, s4, eta4, R4, esc4, TI⟩ := h
        refine ⟨_, rfl, _, rfl, (by show 2 ≤ sizeLine; decide), fun t ht => ?_⟩
        have n9 := Same.new (o := .tup [.ref pa, .ref ta]) ht
        refine q t pa ta ⟨lpl (cellD ns 1) n, ti⟩ _ ((s1.trans s4).trans n9) upd_same ⟨n9 _ _ (s4 _ _ epa), L, R4.same n9, n9 _ _ eta4⟩ ?_
        have hll : (lpl (cellD ns 1) n).length = n := by unfold lpl; simp
        refine ⟨lpl_nodup _ (by omega), by rw [hll]; exact hn6, by rw [hll]; exact hn1, fun x hx => ?_, TI.nd, Nat.le_trans TI.len clen, fun r hr => ?_, fun r hr => ⟨(TI.ab r hr).2.2.1, (TI.ab r hr).2.2.2.1⟩, fun r hr => (TI.ab r hr).2.2.2.2⟩
        · obtain ⟨j, _, rfl⟩ := List.mem_map.mp hx
          exact lnm_name _ _
        · obtain ⟨j, _, e⟩ := TI.nm r hr
          exact ⟨by rw [e]; exact lnm_name _ _, (TI.ab r hr).1, (TI.ab r hr).2.1⟩
end
end Net

namespace Net
open PySem L2
def spLNet (C : Addr) : Sp := fun vs H Q _ => ∃ (pa ta : Addr) (S : NS), vs = [.ref pa, .ref ta] ∧ PartsAt H pa ta S ∧ GoodS S ∧ ∀ (x ds dl : Addr) (H' : Hp), Same H H' → NetAt C H' x ds dl S → Q (.ref x) H'
theorem take_new {xs : List Str} {i : Nat} {y : Str} (nd : xs.Nodup) (e : xs[i]? = some y) : y ∉ xs.take i := fun h => by
  obtain ⟨j, hj⟩ := List.getElem?_of_mem h
  rw [List.getElem?_take] at hj
  by_cases hji : j < i
  · rw [if_pos hji] at hj
    have := nodup_ix nd hj e
    omega
  · rw [if_neg hji] at hj
    cases hj
theorem ends_in {pl : List Str} {a b : Str} (ha : a ∈ pl) (hb : b ∈ pl) : withEnds pl a b = pl := by
  rw [withEnds_eq, if_pos ha, if_pos hb]
  exact List.append_nil _
section
variable {P : Program} {w : World} {K : PySem.W.Frag} {mg : Str → Option Value} {base : Heap} {C : Addr}
abbrev Nlnet : List Str := ["_law_places", "_law_ties", "_law_net_here", "_law_name_here", "_law_a", "_law_b", "_law_width", "_law_cost"]
theorem sc_lnet : FnScope Nlnet ["_law_places", "_law_ties"] (defScope s_l_net) := ⟨rfl, rfl, rfl, by decide +kernel, rfl, by decide +kernel, by decide +kernel⟩
theorem ok_lnet {f : Addr} {fd : FuncData} (F : Fun K "_law_net" "_law_net" s_l_net f fd) (T : Txt K mg C) (ci : CanI P w K mg base 1 C ["self"] (spInit C)) (m1 : CanM P w K mg base 4 C "place" ["self", "name"] (spPlace C)) (m2 : CanM P w K mg base 4 C "tie" ["self", "name", "a", "b", "width", "cost"] (spTie C)) :
    FnOk P w K mg base CX0 5 f fd ["_law_places", "_law_ties"] (spLNet C) := by
  refine F.ok sc_lnet (fun vs H Q E h => ?_) (fun cdv A outer s H vs Q E hr h => ?_)
  · obtain ⟨pa, ta, S, rfl, _⟩ := h
    rfl
  · obtain ⟨pa, ta, S, rfl, PA, g, q⟩ := h
    have r2 : Room 2 _ := hr.mono (by decide)
    refine ⟨_, (pss_cons (ps_set (i := 2) sc_lnet.nd rfl (Or.inl rfl) (pe_makeC0 ci r2 (by rfl) T.mgC))
      (pss_cons (ps_for PassesOwn.never rfl (pi_list (pv 0)) (pg_name (i := 3) sc_lnet.nd rfl (Or.inl rfl)) (pss_one (ps_expr (pe_methC (pv 2) T.cl m1 hr (pa_cons (pv 3) pa_nil)))))
      (pss_cons (ps_for PassesOwn.never rfl (pi_list (pv 1)) (pg_tup rfl (pgs_cons (pg_name (i := 3) sc_lnet.nd rfl (Or.inl rfl)) (pgs_cons (pg_name (i := 4) sc_lnet.nd rfl (Or.inl rfl)) (pgs_cons (pg_name (i := 5) sc_lnet.nd rfl (Or.inl rfl)) (pgs_cons (pg_name (i := 6) sc_lnet.nd rfl (Or.inl rfl)) (pgs_cons (pg_name (i := 7) sc_lnet.nd rfl (Or.inl rfl)) pgs_nil))))))
        (pss_one (ps_expr (pe_methC (pv 2) T.cl m2 hr (pa_cons (pv 3) (pa_cons (pv 4) (pa_cons (pv 5) (pa_cons (pv 6) (pa_cons (pv 7) pa_nil)))))))))
      (pss_one (ps_ret (pv 2)))))), ?_⟩
    intro x dx nx ndx nex
    refine ⟨x, dx, rfl, upd_same, fun ds dl H1 fds fdl N1 kp1 => ⟨rfl, ?_⟩⟩
    have s0 : Same H (upd (upd H dx (.own x)) x (.ins C dx [])) := fun b ob e => by
      rw [upd_ne (ne_of_none e nx), upd_ne (ne_of_none e ndx)]
      exact e
    have s1 : Same H H1 := fun b ob e => kp1 b ob (s0 b ob e) (ne_of_none e nx)
    have hds : H ds = none := s0.free fds
    have hdl : H dl = none := s0.free fdl
    obtain ⟨L, RL, eta⟩ := PA.ti
    refine ⟨_, rfl, pa, rfl, ⟨_, SqL.of (s1 _ _ PA.pl)⟩, for_list (K := K) (a := pa) (xs := S.pl.map V.str) (fun i σ' H' => (∃ o, σ' = [some (.ref pa), some (.ref ta), some (.ref x), o, none, none, none, none]) ∧ Same H H' ∧ NetAt C H' x ds dl ⟨S.pl.take i, []⟩)
      ⟨⟨none, rfl⟩, s1, N1⟩ (fun i σ' H' _ h => SqL.of (h.2.1 _ _ PA.pl)) (fun i v σ' H' hv h => ?_) (fun σ' H' h => ?_)⟩
    · obtain ⟨⟨o, rfl⟩, s3, N3⟩ := h
      rw [List.getElem?_map] at hv
      cases ey : S.pl[i]? with
      | none => rw [ey] at hv; cases hv
      | some y =>
        rw [ey] at hv
        cases hv
        obtain ⟨dx3, h13⟩ := N3.ob
        refine ⟨_, rfl, x, dx3, _, rfl, h13, flds_no ds dl (by decide +kernel) (by decide +kernel), _, rfl, x, ds, dl, _, y, rfl, N3, g.okP y (List.mem_of_getElem? ey), take_new g.ndP ey, ?_, fun H4 N4 b4 => ⟨⟨_, rfl⟩, fun b ob e => b4 b ob (s3 b ob e) (ne_of_none e hds) (ne_of_none e hdl), ?_⟩⟩
        · show (S.pl.take i).length < 20
          have := g.lenP
          rw [List.length_take]
          omega
        · have e : S.pl.take (i + 1) = S.pl.take i ++ [y] := by rw [List.take_add_one, ey]; rfl
          rw [e]
          exact N4
    · obtain ⟨⟨o, rfl⟩, s3, N3⟩ := h
      rw [List.length_map, List.take_length] at N3
      refine ⟨_, rfl, ta, rfl, ⟨_, SqL.of (s3 _ _ eta)⟩, for_list (K := K) (a := ta) (xs := L.map fun q => V.ref q.2) (fun i σ' H' => (∃ o1 o2 o3 o4 o5, σ' = [some (.ref pa), some (.ref ta), some (.ref x), o1, o2, o3, o4, o5]) ∧ Same H H' ∧ NetAt C H' x ds dl ⟨S.pl, S.ti.take i⟩)
        ⟨⟨_, _, _, _, _, rfl⟩, s3, N3⟩ (fun i σ' H' _ h => SqL.of (h.2.1 _ _ eta)) (fun i v σ' H' hv h => ?_) (fun σ' H' h => ?_)⟩
      · obtain ⟨⟨o1, o2, o3, o4, o5, rfl⟩, s4, N4⟩ := h
        rw [List.getElem?_map] at hv
        cases eq : L[i]? with
        | none => rw [eq] at hv; cases hv
        | some qq =>
          rw [eq] at hv
          cases hv
          have er : S.ti[i]? = some qq.1 := by rw [← RL.1, List.getElem?_map, eq]; rfl
          have hm := List.mem_of_getElem? er
          have ht := s4 _ _ (RL.2 qq (List.mem_of_getElem? eq))
          obtain ⟨dx4, h14⟩ := N4.ob
          refine ⟨qq.2, _, rfl, SqT.of ht, rfl, _, _, rfl, _, _, rfl, _, _, rfl, _, _, rfl, _, _, rfl, rfl, ?_⟩
          obtain ⟨k1, k2, k3⟩ := g.okT _ hm
          obtain ⟨k4, k5⟩ := g.neT _ hm
          have we : withEnds S.pl qq.1.a qq.1.b = S.pl := ends_in k2 k3
          refine ⟨_, rfl, x, dx4, _, rfl, h14, flds_no ds dl (by decide +kernel) (by decide +kernel), _, rfl, _, rfl, _, rfl, _, rfl, _, rfl, x, ds, dl, _, qq.1, rfl, N4, k1, g.okP _ k2, g.okP _ k3, ?_, k4, k5, ?_, ?_, fun H5 N5 b5 => ⟨⟨_, _, _, _, _, rfl⟩, fun b ob e => b5 b ob (s4 b ob e) (ne_of_none e hds) (ne_of_none e hdl), ?_⟩⟩
          · show qq.1.nm ∉ (S.ti.take i).map (·.nm)
            rw [List.map_take]
            exact take_new g.ndT (by show (S.ti.map (·.nm))[i]? = _; rw [List.getElem?_map, er]; rfl)
          · show (S.ti.take i).length < 40
            have := g.lenT
            rw [List.length_take]
            omega
          · show (withEnds S.pl qq.1.a qq.1.b).length ≤ 20
            have := g.lenP
            rw [we]
            omega
          · have e : S.ti.take (i + 1) = S.ti.take i ++ [qq.1] := by rw [List.take_add_one, er]; rfl
            have N5' : NetAt C H5 x ds dl ⟨withEnds S.pl qq.1.a qq.1.b, S.ti.take i ++ [qq.1]⟩ := N5
            rw [we] at N5'
            rw [e]
            exact N5'
      · obtain ⟨⟨o1, o2, o3, o4, o5, rfl⟩, s4, N4⟩ := h
        have el : L.length = S.ti.length := by rw [← RL.1, List.length_map]
        rw [List.length_map, el, List.take_length] at N4
        exact ⟨_, rfl, q x ds dl H' s4 N4⟩
end
end Net

namespace Net
open PySem L2
/-! ### claims as data -/
/-- data whose lists all stand where Z says -/
def PDF (Z : Addr → Prop) (H : Hp) : Nat → V → PyData → Prop
  | _, .non, d => d = .none
  | _, .bl b, d => d = .bool b
  | _, .int i, d => d = .int i
  | _, .str x, d => PyData.strOk x = true ∧ d = .str x
  | n + 1, .ref a, d => (∃ xs ds, H a = some (.lst xs) ∧ Z a ∧ d = .list ds ∧ Paired (PDF Z H n) xs ds) ∨ ∃ xs ds, H a = some (.tup xs) ∧ d = .tuple ds ∧ Paired (PDF Z H n) xs ds
  | _, _, _ => False
theorem PDF.pd {Z : Addr → Prop} {H : Hp} : ∀ {n : Nat} {v : V} {d : PyData}, PDF Z H n v d → PD H n v d
  | 0, v, d, h => by cases v <;> first | exact h | exact h.elim
  | n + 1, v, d, h => by
    cases v <;> first | exact h | exact h.elim | skip
    rcases h with ⟨xs, ds, e, _, e2, p⟩ | ⟨xs, ds, e, e2, p⟩
    · exact .inl ⟨xs, ds, e, e2, L2.Paired.mapP p fun _ _ h => PDF.pd h⟩
    · exact .inr ⟨xs, ds, e, e2, L2.Paired.mapP p fun _ _ h => PDF.pd h⟩
theorem PDF.weak {Z Z' : Addr → Prop} {H : Hp} (hz : ∀ p, Z p → Z' p) : ∀ {n : Nat} {v : V} {d : PyData}, PDF Z H n v d → PDF Z' H n v d
  | 0, v, d, h => by cases v <;> first | exact h | exact h.elim
  | n + 1, v, d, h => by
    cases v <;> first | exact h | exact h.elim | skip
    rcases h with ⟨xs, ds, e, f, e2, p⟩ | ⟨xs, ds, e, e2, p⟩
    · exact .inl ⟨xs, ds, e, hz _ f, e2, L2.Paired.mapP p fun _ _ h => PDF.weak hz h⟩
    · exact .inr ⟨xs, ds, e, e2, L2.Paired.mapP p fun _ _ h => PDF.weak hz h⟩
theorem PDF.same {Z : Addr → Prop} {H H' : Hp} (s : Same H H') : ∀ {n : Nat} {v : V} {d : PyData}, PDF Z H n v d → PDF Z H' n v d
  | 0, v, d, h => by cases v <;> first | exact h | exact h.elim
  | n + 1, v, d, h => by
    cases v <;> first | exact h | exact h.elim | skip
    rcases h with ⟨xs, ds, e, f, e2, p⟩ | ⟨xs, ds, e, e2, p⟩
    · exact .inl ⟨xs, ds, s _ _ e, f, e2, L2.Paired.mapP p fun _ _ h => PDF.same s h⟩
    · exact .inr ⟨xs, ds, s _ _ e, e2, L2.Paired.mapP p fun _ _ h => PDF.same s h⟩
theorem PD.tup_of {H : Hp} {n : Nat} {v : V} {ds : List PyData} (h : PD H n v (.tuple ds)) : ∃ m a xs, n = m + 1 ∧ v = .ref a ∧ H a = some (.tup xs) ∧ Paired (PD H m) xs ds := by
  cases n with
  | zero => cases v <;> first | exact h.elim | cases (show PyData.tuple ds = _ from h) | cases h.2
  | succ n =>
    cases v <;> first | exact h.elim | cases (show PyData.tuple ds = _ from h) | cases h.2 | skip
    rcases h with ⟨xs, ds', e1, e2, p⟩ | ⟨xs, ds', e1, e2, p⟩
    · cases e2
    · cases e2; exact ⟨n, _, xs, rfl, rfl, e1, p⟩
theorem PD.str_is {H : Hp} {n : Nat} {v : V} {x : Str} (h : PD H n v (.str x)) : v = .str x := by
  obtain ⟨y, h1, h2⟩ := h.str_of rfl
  cases h2
  exact h1
def isTu : PyData → Bool
  | .tuple _ => true
  | _ => false
theorem k_b_t7 (K : PySem.W.Frag) : PySem.W.kitOne K (.type "bool") (.type "tuple") = some false := by first | rfl | kernel_rfl
theorem k_n_t7 (K : PySem.W.Frag) : PySem.W.kitOne K (.type "NoneType") (.type "tuple") = some false := by first | rfl | kernel_rfl
theorem k_t_t7 (K : PySem.W.Frag) : PySem.W.kitOne K (.type "tuple") (.type "tuple") = some true := by first | rfl | kernel_rfl
theorem k_l_t7 (K : PySem.W.Frag) : PySem.W.kitOne K (.type "list") (.type "tuple") = some false := by first | rfl | kernel_rfl
theorem k_s_t7 (K : PySem.W.Frag) : PySem.W.kitOne K (.type "str") (.type "tuple") = some false := by first | rfl | kernel_rfl
theorem k_i_t7 (K : PySem.W.Frag) : PySem.W.kitOne K (.type "int") (.type "tuple") = some false := by first | rfl | kernel_rfl
theorem PD.ty3 {K : PySem.W.Frag} {H : Hp} {n : Nat} {v : V} {d : PyData} (h : PD H n v d) : ∃ t, TyOf K H v t ∧ PySem.W.kitOne K t (.type "list") = some (isL d) ∧ PySem.W.kitOne K t (.type "str") = some (isS d) ∧ PySem.W.kitOne K t (.type "tuple") = some (isTu d) := by
  cases n with
  | zero =>
    cases v <;> try exact h.elim
    · cases (show d = _ from h); exact ⟨_, .non, k_n_l K, k_n_s K, k_n_t7 K⟩
    · cases (show d = _ from h); exact ⟨_, .bl _, k_b_l K, k_b_s K, k_b_t7 K⟩
    · cases (show d = _ from h); exact ⟨_, .int _, k_i_l K, k_i_s K, k_i_t7 K⟩
    · cases h.2; exact ⟨_, .str _, k_s_l K, rfl, k_s_t7 K⟩
  | succ n =>
    cases v <;> try exact h.elim
    · cases (show d = _ from h); exact ⟨_, .non, k_n_l K, k_n_s K, k_n_t7 K⟩
    · cases (show d = _ from h); exact ⟨_, .bl _, k_b_l K, k_b_s K, k_b_t7 K⟩
    · cases (show d = _ from h); exact ⟨_, .int _, k_i_l K, k_i_s K, k_i_t7 K⟩
    · cases h.2; exact ⟨_, .str _, k_s_l K, rfl, k_s_t7 K⟩
    · rcases h with ⟨xs, ds, e, rfl, p⟩ | ⟨xs, ds, e, rfl, p⟩
      · exact ⟨_, .lst e, rfl, k_l_s K, k_l_t7 K⟩
      · exact ⟨_, .tup e, k_t_l K, k_t_s K, k_t_t7 K⟩
def evB (w : Str) : Bool := decide (w = "each") || decide (w = "some")
/-- what the program is asked about: names, numbers, lists of names, tuples that begin with a word -/
def okD : Nat → PyData → Prop
  | _, .str _ => True
  | _, .int _ => True
  | _ + 1, .list ds => ds.length ≤ 12 ∧ ∀ d ∈ ds, ∃ x, d = .str x
  | n + 1, .tuple (.str w :: r) => r.length ≤ 3 ∧ (∀ d ∈ r, okD n d) ∧ (evB w = true → ∃ x k c, r = [.str x, k, c])
  | _, _ => False
def untD : Nat → List Str → PyData → List Str
  | _, told, .str x => if x ∈ told then [] else [x]
  | n + 1, told, .list ds => ds.flatMap (untD n told)
  | n + 1, told, .tuple (.str w :: r) => if evB w = true then (match r with | [.str x, k, c] => untD n told k ++ untD n (told ++ [x]) c | _ => []) else r.flatMap (untD n told)
  | _, _, _ => []
def putD (v p : Str) : Nat → PyData → PyData
  | _, .str y => if y = v then .str p else .str y
  | n + 1, .list ds => .list (ds.map (putD v p n))
  | n + 1, .tuple (.str w :: r) => if evB w = true then (match r with | [.str x, k, c] => .tuple [.str w, .str x, putD v p n k, if x = v then c else putD v p n c] | _ => .tuple (.str w :: r)) else .tuple (.str w :: r.map (putD v p n))
  | _, d => d
theorem unt_ev {n : Nat} {told : List Str} {w x : Str} {k c : PyData} (h : evB w = true) : untD (n + 1) told (.tuple [.str w, .str x, k, c]) = untD n told k ++ untD n (told ++ [x]) c := by
  show (if evB w = true then _ else _ : List Str) = _
  rw [if_pos h]
theorem unt_pl {n : Nat} {told : List Str} {w : Str} {r : List PyData} (h : evB w = false) : untD (n + 1) told (.tuple (.str w :: r)) = r.flatMap (untD n told) := by
  show (if evB w = true then _ else _ : List Str) = _
  rw [h, if_neg (by decide)]
theorem put_ev {n : Nat} {v p w x : Str} {k c : PyData} (h : evB w = true) : putD v p (n + 1) (.tuple [.str w, .str x, k, c]) = .tuple [.str w, .str x, putD v p n k, if x = v then c else putD v p n c] := by
  show (if evB w = true then _ else _ : PyData) = _
  rw [if_pos h]
theorem put_pl {n : Nat} {v p w : Str} {r : List PyData} (h : evB w = false) : putD v p (n + 1) (.tuple (.str w :: r)) = .tuple (.str w :: r.map (putD v p n)) := by
  show (if evB w = true then _ else _ : PyData) = _
  rw [h, if_neg (by decide)]
theorem fm_len {α β : Type} {f : α → List β} {m : Nat} : ∀ {l : List α}, (∀ x ∈ l, (f x).length ≤ m) → (l.flatMap f).length ≤ l.length * m
  | [], _ => Nat.zero_le _
  | x :: r, h => by
    rw [List.flatMap_cons, List.length_append, List.length_cons, Nat.add_mul, Nat.one_mul, Nat.add_comm]
    exact Nat.add_le_add (fm_len fun y hy => h y (List.mem_cons_of_mem _ hy)) (h x List.mem_cons_self)
theorem unt_str (n : Nat) (told : List Str) (x : Str) : untD n told (.str x) = if x ∈ told then [] else [x] := by cases n <;> rfl
theorem unt_len : ∀ {n : Nat} {told : List Str} {d : PyData}, okD n d → (untD n told d).length ≤ 12 * 3 ^ n
  | 0, told, d, h => by
    cases d <;> try exact h.elim
    case int => exact Nat.zero_le _
    case str x =>
      rw [unt_str]
      split
      · exact Nat.zero_le _
      · show 1 ≤ 12 * 3 ^ 0
        decide
    case tuple ds =>
      cases ds with
      | nil => exact h.elim
      | cons w r => cases w <;> exact h.elim
  | n + 1, told, d, h => by
    have hp : 3 ^ (n + 1) = 3 ^ n * 3 := Nat.pow_succ _ _
    have h1 : 1 ≤ 3 ^ n := Nat.one_le_pow _ _ (by decide)
    cases d <;> try exact h.elim
    case int => exact Nat.zero_le _
    case str x =>
      rw [unt_str]
      split
      · exact Nat.zero_le _
      · show 1 ≤ _
        omega
    case list ds =>
      obtain ⟨a, b⟩ := h
      have := fm_len (f := untD n told) (m := 1) (l := ds) fun x hx => by
        obtain ⟨y, rfl⟩ := b x hx
        rw [unt_str]
        split
        · exact Nat.zero_le _
        · exact Nat.le_refl 1
      show (ds.flatMap (untD n told)).length ≤ _
      omega
    case tuple ds =>
      cases ds with
      | nil => exact h.elim
      | cons w0 r =>
        cases w0 <;> try exact h.elim
        rename_i w
        obtain ⟨a, b, c⟩ := h
        show (if evB w = true then _ else _ : List Str).length ≤ _
        split
        · rename_i e
          obtain ⟨x, k, c', rfl⟩ := c e
          have h2 := unt_len (told := told) (b k (by simp))
          have h3 := unt_len (told := told ++ [x]) (b c' (by simp))
          show (untD n told k ++ untD n (told ++ [x]) c').length ≤ _
          rw [List.length_append]
          omega
        · have := fm_len (f := untD n told) (m := 12 * 3 ^ n) (l := r) fun x hx => unt_len (b x hx)
          have h4 : r.length * (12 * 3 ^ n) ≤ 3 * (12 * 3 ^ n) := Nat.mul_le_mul_right _ a
          omega
theorem pow3 {n : Nat} (h : n ≤ 10) : 12 * 3 ^ n ≤ 1000000 := Nat.le_trans (Nat.mul_le_mul_left _ (Nat.pow_le_pow_right (by decide) h)) (by decide)
end Net

namespace Net
open PySem L2
/-! ### names that nothing tells -/
def spTells : Sp := fun vs H Q _ => ∃ (a : Addr) (w : Str) (xs : List V), vs = [.ref a] ∧ H a = some (.tup (.str w :: xs)) ∧ Q (.bl (evB w)) H
def spUnt (n : Nat) : Sp := fun vs H Q _ => ∃ (v : V) (d : PyData) (tl : Addr) (told : List Str), vs = [v, .ref tl] ∧ PD H n v d ∧ okD n d ∧ H tl = some (.lst (told.map V.str)) ∧ told.length + n ≤ 60 ∧ n ≤ 10 ∧
  ∀ l H', Same H H' → H l = none → H' l = some (.lst ((untD n told d).map V.str)) → Q (.ref l) H'
def spAllL (n : Nat) : Sp := fun vs H Q _ => ∃ (p tl : Addr) (xs : List V) (ds : List PyData) (told : List Str), vs = [.ref p, .ref tl] ∧ H p = some (.lst xs) ∧ Paired (PD H n) xs ds ∧ (∀ d ∈ ds, okD n d) ∧ ds.length ≤ 12 ∧ H tl = some (.lst (told.map V.str)) ∧ told.length + n ≤ 60 ∧ n ≤ 10 ∧
  ∀ l H', Same H H' → H l = none → H' l = some (.lst ((ds.flatMap (untD n told)).map V.str)) → Q (.ref l) H'
def spAllT (n : Nat) : Sp := fun vs H Q _ => ∃ (p tl : Addr) (xs : List V) (ds : List PyData) (told : List Str), vs = [.ref p, .ref tl] ∧ H p = some (.tup xs) ∧ Paired (PD H n) xs ds ∧ (∀ d ∈ ds, okD n d) ∧ ds.length ≤ 12 ∧ H tl = some (.lst (told.map V.str)) ∧ told.length + n ≤ 60 ∧ n ≤ 10 ∧
  ∀ l H', Same H H' → H l = none → H' l = some (.lst ((ds.flatMap (untD n told)).map V.str)) → Q (.ref l) H'
theorem eq_V (x y : Str) : decide (V.str x = V.str y) = decide (x = y) := by
  by_cases h : x = y
  · rw [h, decide_eq_true rfl, decide_eq_true rfl]
  · rw [decide_eq_false h, decide_eq_false (fun z => h (V.str.inj z))]
def spVoid : Sp := fun _ _ _ _ => False
theorem cut1 {x : V} {xs : List V} : cutV (x :: xs) (some 1) none = xs := by
  unfold cutV
  rw [show (some (1 : Int)) = some ((1 : Nat) : Int) from rfl, HT.sIx_nat, HT.sIx_none, List.length_cons]
  have : min 1 (xs.length + 1) = 1 := by omega
  rw [this]
  show (xs).take (xs.length + 1 - 1) = xs
  simp
theorem cut1_not {x : V} {xs : List V} : ¬ (HT.sIx (x :: xs).length 0 (some 1) = 0 ∧ HT.sIx (x :: xs).length (x :: xs).length none = (x :: xs).length) := fun h => by
  have := h.1
  rw [show (some (1 : Int)) = some ((1 : Nat) : Int) from rfl, HT.sIx_nat, List.length_cons] at this
  omega
section
variable {P : Program} {w : World} {K : PySem.W.Frag} {mg : Str → Option Value} {base : Heap}
theorem can_void7 {nm : Str} {st : Stmt} {ps : List Str} (k : Nat) (hF : ∃ f fd, Fun K nm nm st f fd ∧ mg nm = some (.ref f)) (hb : ∀ f fd, Fun K nm nm st f fd → Binds K fd ps []) : Can P w K mg base k nm ps spVoid := by
  obtain ⟨f, fd, F, m⟩ := hF
  exact ⟨f, fd, ⟨fun vs H Q E z => z.elim, fun A outer s H args us vs Q E _ _ _ _ z => z.elim⟩, m, F.kp, hb f fd F⟩
end
section
variable {P : Program} {w : World} {K : PySem.W.Frag} {mg : Str → Option Value} {base : Heap} {C : Addr} {n : Nat}
theorem sc_tells : FnScope ["claim"] ["claim"] (defScope s_tells_variable) := ⟨rfl, rfl, rfl, by decide +kernel, rfl, by decide +kernel, by decide +kernel⟩
theorem ok_tells {f : Addr} {fd : FuncData} (F : Fun K "tells_variable" "tells_variable" s_tells_variable f fd) : FnOk P w K mg base CX0 1 f fd ["claim"] spTells := by
  refine F.ok sc_tells (fun vs H Q E h => ?_) (fun cdv A outer s H vs Q E hr h => ?_)
  · obtain ⟨a, w, xs, rfl, _⟩ := h
    rfl
  · obtain ⟨a, w, xs, rfl, ha, q⟩ := h
    refine ⟨_, (pss_one (ps_ret (pe_or (pe_cmpR op_eq (pe_ix ix_tup (pv 0) pe_int (fun _ _ => by rfl)) pe_str (nomark _)) (pe_one (pe_cmpR op_eq (pe_ix ix_tup (pv 0) pe_int (fun _ _ => by rfl)) pe_str (nomark _)))))), ?_⟩
    have h0 : atI (V.str w :: xs) 0 = some (.str w) := atI_nat (j := 0) rfl
    refine ⟨_, rfl, a, _, _, .str w, rfl, rfl, SqT.of ha, h0, rfl, _, rfl, ?_⟩
    have qq := q
    unfold evB at qq
    rw [eq_V]
    cases hb : decide (w = "each") with
    | true =>
      rw [hb] at qq
      exact iteT qq
    | false =>
      rw [hb, Bool.false_or] at qq
      refine iteF ⟨_, rfl, a, _, _, .str w, rfl, rfl, SqT.of ha, h0, rfl, ?_⟩
      rw [eq_V]
      exact qq
abbrev Nall : List Str := ["parts", "told", "names", "part"]
theorem sc_all : FnScope Nall ["parts", "told"] (defScope s_names_of_all) := ⟨rfl, rfl, rfl, by decide +kernel, rfl, by decide +kernel, by decide +kernel⟩
theorem ok_allL {f : Addr} {fd : FuncData} {k : Nat} (F : Fun K "names_of_all" "names_of_all" s_names_of_all f fd) (cu : Can P w K mg base k "untold_names" ["part", "told"] (spUnt n)) : FnOk P w K mg base CX0 (k + 1) f fd ["parts", "told"] (spAllL n) := by
  refine F.ok sc_all (fun vs H Q E h => ?_) (fun cdv A outer s H vs Q E hr h => ?_)
  · obtain ⟨p, tl, xs, ds, told, rfl, _⟩ := h
    rfl
  · obtain ⟨p, tl, xs, ds, told, rfl, hp, pr, ok, len, ht, tlen, hn, q⟩ := h
    refine ⟨_, (pss_cons (ps_set (i := 2) sc_all.nd rfl (Or.inl rfl) (pe_lst pa_nil))
      (pss_cons (ps_for PassesOwn.never rfl (pi_list (pv 0)) (pg_name (i := 3) sc_all.nd rfl (Or.inl rfl))
          (pss_one (ps_expr (pe_bm PySem.F.plainAttrs_list PySem.F.slot_list_extend PySem.F.type_list_extend mt_extend (pv 2) (pa_cons (pe_callC cu hr (by rfl) (pa_cons (pv 3) (pa_cons (pv 1) pa_nil))) pa_nil)))))
      (pss_one (ps_ret (pv 2))))), ?_⟩
    have hl := Paired.length pr
    refine ⟨by decide, fun nl hnl => ?_⟩
    have s1 := Same.new (o := .lst []) hnl
    have e1 : (upd H nl (.lst [])) nl = some (.lst []) := upd_same
    refine ⟨_, rfl, p, rfl, ⟨_, SqL.of (s1 _ _ hp)⟩, for_list (K := K) (a := p) (xs := xs) (fun i σ' H' => i ≤ xs.length ∧ (∃ o, σ' = [some (.ref p), some (.ref tl), some (.ref nl), o]) ∧ Same H H' ∧ H' nl = some (.lst (((ds.take i).flatMap (untD n told)).map V.str)))
      ⟨Nat.zero_le _, ⟨none, rfl⟩, s1, e1⟩ (fun i σ' H' _ h => SqL.of (h.2.2.1 _ _ hp)) (fun i v σ' H' hv h => ?_) (fun σ' H' h => ?_)⟩
    · obtain ⟨hi, ⟨o, rfl⟩, s2, e2⟩ := h
      obtain ⟨d, hd, pd⟩ := pair_get pr hv
      have hi' : i < ds.length := (List.getElem?_eq_some_iff.mp hd).1
      have okd := ok d (List.mem_of_getElem? hd)
      have l1 := unt_len (told := told) okd
      have l2 := fm_len (f := untD n told) (m := 12 * 3 ^ n) (l := ds.take i) fun x hx => unt_len (ok x (List.mem_of_mem_take hx))
      have l3 := pow3 hn
      have l4 : (ds.take i).length * (12 * 3 ^ n) ≤ 12 * 1000000 := Nat.mul_le_mul (by rw [List.length_take]; omega) l3
      refine ⟨_, rfl, .inl ⟨rfl, _, SqL.of e2⟩, _, rfl, _, rfl, v, d, tl, told, rfl, pd.same s2, okd, s2 _ _ ht, tlen, hn, fun l H3 s3 nl3 e3 => ?_⟩
      refine ⟨nl, l, _, _, rfl, rfl, s3 _ _ e2, e3, ?_, ?_⟩
      · rw [List.length_map, List.length_map]
        exact Nat.le_trans (Nat.add_le_add (Nat.le_trans l2 l4) (Nat.le_trans l1 l3)) (by decide)
      · refine ⟨by omega, ⟨_, rfl⟩, fun b ob e => ?_, ?_⟩
        · rw [upd_ne (ne_of_none e hnl)]
          exact s3 _ _ (s2 _ _ e)
        · rw [upd_same, ← List.map_append, List.take_add_one, hd, List.flatMap_append]
          simp
    · obtain ⟨_, ⟨o, rfl⟩, s2, e2⟩ := h
      rw [hl, List.take_length] at e2
      exact ⟨_, rfl, q nl _ s2 hnl e2⟩
theorem ok_allT {f : Addr} {fd : FuncData} {k : Nat} (F : Fun K "names_of_all" "names_of_all" s_names_of_all f fd) (cu : Can P w K mg base k "untold_names" ["part", "told"] (spUnt n)) : FnOk P w K mg base CX0 (k + 1) f fd ["parts", "told"] (spAllT n) := by
  refine F.ok sc_all (fun vs H Q E h => ?_) (fun cdv A outer s H vs Q E hr h => ?_)
  · obtain ⟨p, tl, xs, ds, told, rfl, _⟩ := h
    rfl
  · obtain ⟨p, tl, xs, ds, told, rfl, hp, pr, ok, len, ht, tlen, hn, q⟩ := h
    refine ⟨_, (pss_cons (ps_set (i := 2) sc_all.nd rfl (Or.inl rfl) (pe_lst pa_nil))
      (pss_cons (ps_for PassesOwn.never rfl (pi_tup (pv 0)) (pg_name (i := 3) sc_all.nd rfl (Or.inl rfl))
          (pss_one (ps_expr (pe_bm PySem.F.plainAttrs_list PySem.F.slot_list_extend PySem.F.type_list_extend mt_extend (pv 2) (pa_cons (pe_callC cu hr (by rfl) (pa_cons (pv 3) (pa_cons (pv 1) pa_nil))) pa_nil)))))
      (pss_one (ps_ret (pv 2))))), ?_⟩
    have hl := Paired.length pr
    refine ⟨by decide, fun nl hnl => ?_⟩
    have s1 := Same.new (o := .lst []) hnl
    have e1 : (upd H nl (.lst [])) nl = some (.lst []) := upd_same
    refine ⟨_, rfl, p, rfl, ⟨_, SqT.of (s1 _ _ hp)⟩, for_tup (K := K) (a := p) (xs := xs) (fun i σ' H' => i ≤ xs.length ∧ (∃ o, σ' = [some (.ref p), some (.ref tl), some (.ref nl), o]) ∧ Same H H' ∧ H' nl = some (.lst (((ds.take i).flatMap (untD n told)).map V.str)))
      ⟨Nat.zero_le _, ⟨none, rfl⟩, s1, e1⟩ (fun i σ' H' _ h => SqT.of (h.2.2.1 _ _ hp)) (fun i v σ' H' hv h => ?_) (fun σ' H' h => ?_)⟩
    · obtain ⟨hi, ⟨o, rfl⟩, s2, e2⟩ := h
      obtain ⟨d, hd, pd⟩ := pair_get pr hv
      have hi' : i < ds.length := (List.getElem?_eq_some_iff.mp hd).1
      have okd := ok d (List.mem_of_getElem? hd)
      have l1 := unt_len (told := told) okd
      have l2 := fm_len (f := untD n told) (m := 12 * 3 ^ n) (l := ds.take i) fun x hx => unt_len (ok x (List.mem_of_mem_take hx))
      have l3 := pow3 hn
      have l4 : (ds.take i).length * (12 * 3 ^ n) ≤ 12 * 1000000 := Nat.mul_le_mul (by rw [List.length_take]; omega) l3
      refine ⟨_, rfl, .inl ⟨rfl, _, SqL.of e2⟩, _, rfl, _, rfl, v, d, tl, told, rfl, pd.same s2, okd, s2 _ _ ht, tlen, hn, fun l H3 s3 nl3 e3 => ?_⟩
      refine ⟨nl, l, _, _, rfl, rfl, s3 _ _ e2, e3, ?_, ?_⟩
      · rw [List.length_map, List.length_map]
        exact Nat.le_trans (Nat.add_le_add (Nat.le_trans l2 l4) (Nat.le_trans l1 l3)) (by decide)
      · refine ⟨by omega, ⟨_, rfl⟩, fun b ob e => ?_, ?_⟩
        · rw [upd_ne (ne_of_none e hnl)]
          exact s3 _ _ (s2 _ _ e)
        · rw [upd_same, ← List.map_append, List.take_add_one, hd, List.flatMap_append]
          simp
    · obtain ⟨_, ⟨o, rfl⟩, s2, e2⟩ := h
      rw [hl, List.take_length] at e2
      exact ⟨_, rfl, q nl _ s2 hnl e2⟩
abbrev Nunt : List Str := ["part", "told"]
theorem sc_unt : FnScope Nunt ["part", "told"] (defScope s_untold_names) := ⟨rfl, rfl, rfl, by decide +kernel, rfl, by decide +kernel, by decide +kernel⟩
/-- of a name or a number -/
theorem ok_unt0 {f : Addr} {fd : FuncData} (F : Fun K "untold_names" "untold_names" s_untold_names f fd) (T : Txt K mg C) (cl : Can P w K mg base 0 "names_of_all" ["parts", "told"] spVoid) (ct : Can P w K mg base 0 "tells_variable" ["claim"] spVoid) (cu : Can P w K mg base 0 "untold_names" ["part", "told"] spVoid) : FnOk P w K mg base CX0 1 f fd ["part", "told"] (spUnt 0) := by
  refine F.ok sc_unt (fun vs H Q E h => ?_) (fun cdv A outer s H vs Q E hr h => ?_)
  · obtain ⟨v, d, tl, told, rfl, _⟩ := h
    rfl
  · obtain ⟨v, d, tl, told, rfl, pd, ok, ht, tlen, hn, q⟩ := h
    refine ⟨_, (pss_cons (ps_if (pt_val (pe_callB call_isinst (by rfl) T.isi b_isi (pa_cons (pv 0) (pa_cons (pe_ty T.str (by rfl) b_str) pa_nil)))) (pss_one (ps_ret (pe_ifExp (pt_cmpR op_in_seq (pv 0) (pv 1) (by with_unfolding_all rfl)) (pe_lst pa_nil) (pe_lst (pa_cons (pv 0) pa_nil))))) pss_nil)
      (pss_cons (ps_if (pt_val (pe_callB call_isinst (by rfl) T.isi b_isi (pa_cons (pv 0) (pa_cons (pe_ty T.list (by rfl) b_list) pa_nil)))) (pss_one (ps_ret (pe_callC cl hr (by rfl) (pa_cons (pv 0) (pa_cons (pv 1) pa_nil))))) pss_nil)
      (pss_cons (ps_if (pt_not (pt_val (pe_callB call_isinst (by rfl) T.isi b_isi (pa_cons (pv 0) (pa_cons (pe_ty T.tuple (by rfl) b_tuple) pa_nil))))) (pss_one (ps_ret (pe_lst pa_nil))) pss_nil)
      (pss_cons (ps_if (pt_val (pe_callC ct hr (by rfl) (pa_cons (pv 0) pa_nil))) (pss_one (ps_ret (pe_op op_cat (pe_callC cu hr (by rfl) (pa_cons (pe_ix ix_tup (pv 0) pe_int (fun _ _ => by rfl)) (pa_cons (pv 1) pa_nil))) (pe_callC cu hr (by rfl) (pa_cons (pe_ix ix_tup (pv 0) pe_int (fun _ _ => by rfl)) (pa_cons (pe_op op_cat (pv 1) (pe_lst (pa_cons (pe_ix ix_tup (pv 0) pe_int (fun _ _ => by rfl)) pa_nil))) pa_nil)))))) pss_nil)
      (pss_one (ps_ret (pe_callC cl hr (by rfl) (pa_cons (pe_slice sl_tup (pv 0) (po_some pe_int) po_none) (pa_cons (pv 1) pa_nil))))))))), ?_⟩
    obtain ⟨t, ty, kl, ks, kt⟩ := pd.ty3 (K := K)
    refine ⟨_, rfl, v, "str", t, isS d, rfl, ty, ks, _, rfl, ?_⟩
    cases d <;> try exact ok.elim
    case int i =>
      refine iteF ⟨_, rfl, v, "list", t, _, rfl, ty, kl, _, rfl, iteF ⟨_, rfl, v, "tuple", t, _, rfl, ty, kt, _, rfl, iteT ⟨by decide, fun p hp => ?_⟩⟩⟩
      exact q p _ (Same.new hp) hp upd_same
    case str x =>
      have := pd.str_is
      subst this
      refine iteT ⟨_, rfl, _, rfl, tl, _, rfl, .inl (SqL.of ht), rfl, flat_strs _, _, rfl, ?_⟩
      show if (if false = true then !inV (.str x) (told.map V.str) else inV (.str x) (told.map V.str)) = true then _ else _
      have ei : (if false = true then !inV (.str x) (told.map V.str) else inV (.str x) (told.map V.str)) = decide (x ∈ told) := inV_str x told
      rw [ei]
      rw [unt_str] at q
      by_cases hb : x ∈ told
      · rw [if_pos hb] at q
        exact iteTb (decide_eq_true hb) ⟨by decide, fun p hp => q p _ (Same.new hp) hp upd_same⟩
      · rw [if_neg hb] at q
        exact iteFb (decide_eq_false hb) ⟨_, rfl, (by show 1 ≤ sizeLine; decide), fun p hp => q p _ (Same.new hp) hp upd_same⟩
    case tuple ds =>
      cases ds with
      | nil => exact ok.elim
      | cons w r => cases w <;> exact ok.elim
theorem ok_untS {f : Addr} {fd : FuncData} {k : Nat} (F : Fun K "untold_names" "untold_names" s_untold_names f fd) (T : Txt K mg C) (cl : Can P w K mg base (k + 1) "names_of_all" ["parts", "told"] (spAllL n)) (ca : Can P w K mg base (k + 1) "names_of_all" ["parts", "told"] (spAllT n)) (ct : Can P w K mg base 1 "tells_variable" ["claim"] spTells) (cu : Can P w K mg base k "untold_names" ["part", "told"] (spUnt n)) : FnOk P w K mg base CX0 (k + 2) f fd ["part", "told"] (spUnt (n + 1)) := by
  refine F.ok sc_unt (fun vs H Q E h => ?_) (fun cdv A outer s H vs Q E hr h => ?_)
  · obtain ⟨v, d, tl, told, rfl, _⟩ := h
    rfl
  · obtain ⟨v, d, tl, told, rfl, pd, ok, ht, tlen, hn, q⟩ := h
    have r1 : Room 1 _ := hr.mono (by omega)
    have rk : Room k _ := hr.mono (by omega)
    refine ⟨_, (pss_cons (ps_if (pt_val (pe_callB call_isinst (by rfl) T.isi b_isi (pa_cons (pv 0) (pa_cons (pe_ty T.str (by rfl) b_str) pa_nil)))) (pss_one (ps_ret (pe_ifExp (pt_cmpR op_in_seq (pv 0) (pv 1) (by with_unfolding_all rfl)) (pe_lst pa_nil) (pe_lst (pa_cons (pv 0) pa_nil))))) pss_nil)
      (pss_cons (ps_if (pt_val (pe_callB call_isinst (by rfl) T.isi b_isi (pa_cons (pv 0) (pa_cons (pe_ty T.list (by rfl) b_list) pa_nil)))) (pss_one (ps_ret (pe_callC cl hr (by rfl) (pa_cons (pv 0) (pa_cons (pv 1) pa_nil))))) pss_nil)
      (pss_cons (ps_if (pt_not (pt_val (pe_callB call_isinst (by rfl) T.isi b_isi (pa_cons (pv 0) (pa_cons (pe_ty T.tuple (by rfl) b_tuple) pa_nil))))) (pss_one (ps_ret (pe_lst pa_nil))) pss_nil)
      (pss_cons (ps_if (pt_val (pe_callC ct r1 (by rfl) (pa_cons (pv 0) pa_nil))) (pss_one (ps_ret (pe_op op_cat (pe_callC cu rk (by rfl) (pa_cons (pe_ix ix_tup (pv 0) pe_int (fun _ _ => by rfl)) (pa_cons (pv 1) pa_nil))) (pe_callC cu rk (by rfl) (pa_cons (pe_ix ix_tup (pv 0) pe_int (fun _ _ => by rfl)) (pa_cons (pe_op op_cat (pv 1) (pe_lst (pa_cons (pe_ix ix_tup (pv 0) pe_int (fun _ _ => by rfl)) pa_nil))) pa_nil)))))) pss_nil)
      (pss_one (ps_ret (pe_callC ca hr (by rfl) (pa_cons (pe_slice sl_tup (pv 0) (po_some pe_int) po_none) (pa_cons (pv 1) pa_nil))))))))), ?_⟩
    obtain ⟨t, ty, kl, ks, kt⟩ := pd.ty3 (K := K)
    have hn9 : n ≤ 10 := by omega
    refine ⟨_, rfl, v, "str", t, isS d, rfl, ty, ks, _, rfl, ?_⟩
    cases d <;> try exact ok.elim
    case int i =>
      refine iteF ⟨_, rfl, v, "list", t, _, rfl, ty, kl, _, rfl, iteF ⟨_, rfl, v, "tuple", t, _, rfl, ty, kt, _, rfl, iteT ⟨by decide, fun p hp => ?_⟩⟩⟩
      exact q p _ (Same.new hp) hp upd_same
    case str x =>
      have := pd.str_is
      subst this
      refine iteT ⟨_, rfl, _, rfl, tl, _, rfl, .inl (SqL.of ht), rfl, flat_strs _, _, rfl, ?_⟩
      show if (if false = true then !inV (.str x) (told.map V.str) else inV (.str x) (told.map V.str)) = true then _ else _
      have ei : (if false = true then !inV (.str x) (told.map V.str) else inV (.str x) (told.map V.str)) = decide (x ∈ told) := inV_str x told
      rw [ei]
      rw [unt_str] at q
      by_cases hb : x ∈ told
      · rw [if_pos hb] at q
        exact iteTb (decide_eq_true hb) ⟨by decide, fun p hp => q p _ (Same.new hp) hp upd_same⟩
      · rw [if_neg hb] at q
        exact iteFb (decide_eq_false hb) ⟨_, rfl, (by show 1 ≤ sizeLine; decide), fun p hp => q p _ (Same.new hp) hp upd_same⟩
    case list ds =>
      obtain ⟨m, a, xs, hm, rfl, ha, pr⟩ := pd.list_of
      cases hm
      refine iteF ⟨_, rfl, _, "list", t, _, rfl, ty, kl, _, rfl, iteT ⟨_, rfl, _, rfl, a, tl, xs, ds, told, rfl, ha, pr, fun d hd => ?_, ok.1, ht, by omega, hn9, fun l H' s1 nl e1 => q l H' s1 nl e1⟩⟩
      obtain ⟨x, rfl⟩ := ok.2 d hd
      cases n <;> exact True.intro
    case tuple ds =>
      obtain ⟨m, a, xs, hm, rfl, ha, pr⟩ := pd.tup_of
      cases hm
      cases ds with
      | nil => exact ok.elim
      | cons w0 r =>
        cases w0 <;> try exact ok.elim
        rename_i w
        obtain ⟨o1, o2, o3⟩ := ok
        cases pr with
        | cons p1 pr =>
          rename_i v1 xs
          have := p1.str_is
          subst this
          refine iteF ⟨_, rfl, _, "list", t, _, rfl, ty, kl, _, rfl, iteF ⟨_, rfl, _, "tuple", t, _, rfl, ty, kt, _, rfl, iteF ⟨_, rfl, a, w, xs, rfl, ha, _, rfl, ?_⟩⟩⟩
          cases he : evB w with
          | true =>
            obtain ⟨x, kd, c, rfl⟩ := o3 he
            obtain ⟨v2, v3, v4, rfl, p2, p3, p4⟩ : ∃ v2 v3 v4, xs = [v2, v3, v4] ∧ PD H n v2 (.str x) ∧ PD H n v3 kd ∧ PD H n v4 c := by
              cases pr with
              | cons p2 pr => cases pr with
                | cons p3 pr => cases pr with
                  | cons p4 pr => cases pr with
                    | nil => exact ⟨_, _, _, rfl, p2, p3, p4⟩
            have := p2.str_is
            subst this
            have k2 := o2 kd (by simp)
            have k3 := o2 c (by simp)
            have b2 := unt_len (told := told) k2
            have b3 := unt_len (told := told ++ [x]) k3
            have b4 := pow3 hn9
            refine iteT ⟨_, rfl, a, _, _, v3, rfl, rfl, SqT.of ha, rfl, _, rfl, v3, kd, tl, told, rfl, p3, k2, ht, by omega, hn9, fun n1 H1 s1 f1 e1 => ?_⟩
            have ha1 := s1 _ _ ha
            refine ⟨_, rfl, a, _, _, v4, rfl, rfl, SqT.of ha1, rfl, _, rfl, _, rfl, a, _, _, .str x, rfl, rfl, SqT.of ha1, rfl, (by show 1 ≤ sizeLine; decide), fun l1 hl1 => ⟨tl, l1, _, _, rfl, rfl, (Same.new hl1) _ _ (s1 _ _ ht), upd_same, Nat.le_trans (by rw [List.length_map, List.length_singleton]; omega : _ ≤ 101) (by decide), fun l2 hl2 => ?_⟩⟩
            have s3 := (s1.upd (o := .lst [.str x]) hl1).upd (o := .lst (told.map V.str ++ [.str x])) hl2
            have e1' : (upd (upd H1 l1 (.lst [.str x])) l2 (.lst (told.map V.str ++ [.str x]))) n1 = some (.lst ((untD n told kd).map V.str)) := by
              rw [upd_ne (ne_of_none ((Same.new hl1) _ _ e1) hl2)]
              exact (Same.new hl1) _ _ e1
            refine ⟨v4, c, l2, told ++ [x], rfl, p4.same s3, k3, ?_, by rw [List.length_append, List.length_singleton]; omega, hn9, fun n2 H2 s4 f2 e2 => ?_⟩
            · rw [upd_same, List.map_append]
              rfl
            · refine ⟨n1, n2, _, _, rfl, rfl, s4 _ _ e1', e2, Nat.le_trans (by rw [List.length_map, List.length_map]; exact Nat.add_le_add (Nat.le_trans b2 b4) (Nat.le_trans b3 b4)) (by decide), fun p hp => ?_⟩
              refine q p _ ((s3.trans s4).upd hp) ((s3.trans s4).free hp) ?_
              rw [upd_same, unt_ev he, List.map_append]
          | false =>
            rw [unt_pl he] at q
            refine iteF ⟨_, rfl, _, rfl, a, _, rfl, SqT.of ha, ?_, fun p hp => ⟨_, rfl, p, tl, _, r, told, rfl, upd_same, ?_, o2, by omega, (Same.new hp) _ _ ht, by omega, hn9, fun l H' s1 nl e1 => ?_⟩⟩
            · exact cut1_not
            · rw [cut1]
              exact L2.Paired.mapP pr fun _ _ h => h.same (Same.new hp)
            · exact q l H' ((Same.new hp).trans s1) ((Same.new hp).free nl) e1
/-- the defs that untold_names reaches -/
structure UntF (K : PySem.W.Frag) (mg : Str → Option Value) : Prop where
  tells : ∃ f fd, Fun K "tells_variable" "tells_variable" s_tells_variable f fd ∧ mg "tells_variable" = some (.ref f)
  all : ∃ f fd, Fun K "names_of_all" "names_of_all" s_names_of_all f fd ∧ mg "names_of_all" = some (.ref f)
  unt : ∃ f fd, Fun K "untold_names" "untold_names" s_untold_names f fd ∧ mg "untold_names" = some (.ref f)
theorem can_tells (U : UntF K mg) : Can P w K mg base 1 "tells_variable" ["claim"] spTells := by
  obtain ⟨f, fd, F, m⟩ := U.tells
  exact ⟨f, fd, ok_tells F, m, F.kp, F.binds fun _ _ _ _ _ _ us hl => match us, hl with | [_], _ => rfl⟩
theorem can_unt (U : UntF K mg) (T : Txt K mg C) : ∀ n : Nat, Can P w K mg base (2 * n + 1) "untold_names" ["part", "told"] (spUnt n)
  | 0 => by
    obtain ⟨f, fd, F, m⟩ := U.unt
    exact ⟨f, fd, ok_unt0 F T (can_void7 0 U.all fun _ _ F => F.binds fun _ _ _ _ _ _ us hl => match us, hl with | [_, _], _ => rfl) (can_void7 0 U.tells fun _ _ F => F.binds fun _ _ _ _ _ _ us hl => match us, hl with | [_], _ => rfl) (can_void7 0 U.unt fun _ _ F => F.binds fun _ _ _ _ _ _ us hl => match us, hl with | [_, _], _ => rfl), m, F.kp, F.binds fun _ _ _ _ _ _ us hl => match us, hl with | [_, _], _ => rfl⟩
  | n + 1 => by
    have ih := can_unt U T n
    obtain ⟨f, fd, F, m⟩ := U.unt
    obtain ⟨g, gd, G, mG⟩ := U.all
    have bG : Binds K gd ["parts", "told"] [] := G.binds fun _ _ _ _ _ _ us hl => match us, hl with | [_, _], _ => rfl
    exact ⟨f, fd, ok_untS (k := 2 * n + 1) F T ⟨g, gd, ok_allL G ih, mG, G.kp, bG⟩ ⟨g, gd, ok_allT G ih, mG, G.kp, bG⟩ (can_tells U) ih, m, F.kp, F.binds fun _ _ _ _ _ _ us hl => match us, hl with | [_, _], _ => rfl⟩
end
end Net

namespace Net
open PySem L2
/-! ### strangers are refused -/
abbrev bmV : List Value := [.type "ValueError", .type "Exception", .type "BaseException", .type "object"]
structure ExcN (K : PySem.W.Frag) (mg : Str → Option Value) (Cn cc fI : Addr) : Prop where
  mN : mg "NoPlace" = some (.ref Cn)
  mC : mg "CourtError" = some (.ref cc)
  ii : excII K Cn bmV "ValueError.__new__" fI = true
  fn : PySem.W.isFn K (.ref fI) = true
  bi : BaseInit K cc "ValueError.__init__"
  at_ : ExcAttr K Cn bmV "name"
def okN (x : Str) : Prop := x.length ≤ 12 ∧ ∀ c ∈ x.cps.toList, c < 16 ^ 8
theorem okN.rep {x : Str} (h : okN x) : (reprText x).length ≤ 100000 := by
  have := StrLaws.reprText_len x h.2
  have := h.1
  omega
def spInitN (Cn : Addr) : Sp := fun vs H Q _ => ∃ (a : Addr) (x : Str), vs = [.ref a, .str x] ∧ okN x ∧ H a = some (newX a Cn) ∧ ∀ dx, H dx = none → dx ≠ a → dx ≠ 0 → Q .non (upd (upd (upd H a (newX a Cn)) dx (.xd [("name", .str x)])) a (hadX a Cn dx))
def firstNot (pl l : List Str) : Option Str := l.find? fun x => decide (x ∉ pl)
def spRefuse (C Cn : Addr) : Sp := fun vs H Q E => ∃ (p ds dl : Addr) (S : NS) (v : V) (d : PyData), vs = [.ref p, v] ∧ NetAt C H p ds dl S ∧ PD H 10 v d ∧ okD 10 d ∧ (∀ x ∈ untD 10 [] d, okN x) ∧
  (firstNot S.pl (untD 10 [] d) = none → ∀ H', Same H H' → Q .non H') ∧ ∀ x, firstNot S.pl (untD 10 [] d) = some x → ∀ H' dx, Same H H' → dx ≠ 0 → H' dx = some (.xd [("name", .str x)]) → E (.ref Cn) (some dx) H'
section
variable {P : Program} {w : World} {K : PySem.W.Frag} {mg : Str → Option Value} {base : Heap} {C Cn cc fI : Addr}
theorem sc_initN : FnScope ["self", "name"] ["self", "name"] (defScope s_NoPlace_init) := ⟨rfl, rfl, rfl, by decide +kernel, rfl, by decide +kernel, by decide +kernel⟩
theorem ok_initN {f : Addr} {fd : FuncData} (F : Fun K "__init__" "NoPlace.__init__" s_NoPlace_init f fd) (R : ExcN K mg Cn cc fI) : FnOk P w K mg base CX0 1 f fd ["self", "name"] (spInitN Cn) := by
  refine F.ok sc_initN (fun vs H Q E h => ?_) (fun cdv A outer s H vs Q E hr h => ?_)
  · obtain ⟨a, x, rfl, _⟩ := h
    rfl
  · obtain ⟨a, x, rfl, hx, ha, q⟩ := h
    refine ⟨_, (pss_cons (ps_expr (pe_baseInit (by rfl) R.mC R.bi R.ii PySem.F.excBase_ValueError (pa_cons (pv 0) (pa_cons (pe_join (pj_cons pe_str (pj_cons (pe_rep (pv 1)) pj_nil)) (by decide)) pa_nil))))
      (pss_one (ps_setX (pv 0) (pv 1) PySem.F.store_ValueError.passes R.at_ (by rfl)))), ?_⟩
    have rs : (reprText x).length ≤ sizeLine := Nat.le_trans hx.rep (by decide)
    refine ⟨_, rfl, _, rfl, by decide +kernel, _, rfl, .inl ⟨x, rfl, rs, _, rfl, hx.rep, a, _, rfl, by show 1 ≤ sizeLine; decide, ha, ?_⟩⟩
    refine ⟨_, rfl, _, rfl, a, rfl, upd_same, fun dx h1 h2 h3 => ?_⟩
    exact q dx (by rw [upd_ne h2] at h1; exact h1) h2 h3
abbrev Nref : List Str := ["net", "whole", "places", "name"]
theorem sc_ref : FnScope Nref ["net", "whole"] (defScope s_refuse_strangers) := ⟨rfl, rfl, rfl, by decide +kernel, rfl, by decide +kernel, by decide +kernel⟩
theorem ok_ref {f : Addr} {fd gd : FuncData} (F : Fun K "refuse_strangers" "refuse_strangers" s_refuse_strangers f fd) (T : Txt K mg C) (R : ExcN K mg Cn cc fI) (cu : Can P w K mg base 21 "untold_names" ["part", "told"] (spUnt 10)) (m1 : CanM P w K mg base 1 C "places" ["self"] (spPlaces C)) (G : Fun K "__init__" "NoPlace.__init__" s_NoPlace_init fI gd) : FnOk P w K mg base (CXF P w) 22 f fd ["net", "whole"] (spRefuse C Cn) := by
  refine F.okX sc_ref (fun vs H Q E h => ?_) (fun cdv A outer s H vs Q E hr W h => ?_)
  · obtain ⟨p, ds, dl, S, v, d, rfl, _⟩ := h
    rfl
  · obtain ⟨p, ds, dl, S, v, d, rfl, N, pd, ok, on, q, qE⟩ := h
    have r1 : Room 1 _ := hr.mono (by decide)
    have r2 : Room 2 _ := hr.mono (by decide)
    have bG : Binds K gd ["self", "name"] [] := G.binds fun _ _ _ _ _ _ us hl => match us, hl with | [_, _], _ => rfl
    refine ⟨_, (pss_cons (ps_set (i := 2) sc_ref.nd rfl (Or.inl rfl) (pe_methC0 (pv 0) T.cl m1 r1))
      (pss_one (ps_for W.own rfl (pi_list (pe_callC cu hr (by rfl) (pa_cons (pv 1) (pa_cons (pe_lst pa_nil) pa_nil)))) (pg_name (i := 3) sc_ref.nd rfl (Or.inl rfl))
          (pss_one (ps_if (pt_cmpR op_notIn_seq (pv 3) (pv 2) (by with_unfolding_all rfl)) (pss_one (ps_raiseI W rfl (by rfl) R.mN R.ii PySem.F.excBase_ValueError R.fn (ok_initN G R) bG r2 (pa_cons (pv 3) pa_nil))) pss_nil))))), ?_⟩
    obtain ⟨dx0, ob⟩ := N.ob
    refine ⟨_, rfl, p, dx0, _, rfl, ob, flds_no _ _ (by decide +kernel) (by decide +kernel), p, ds, dl, S, rfl, N, fun pl hpl => ?_⟩
    have s1 := Same.new (o := .lst (S.pl.map V.str)) hpl
    have e1 : (upd H pl (.lst (S.pl.map V.str))) pl = some (.lst (S.pl.map V.str)) := upd_same
    generalize upd H pl (.lst (S.pl.map V.str)) = H1 at s1 e1
    refine ⟨_, rfl, by decide, fun tl htl => ⟨v, d, tl, [], rfl, pd.same (s1.upd htl), ok, upd_same, by decide, by decide, fun l H2 s2 _ e2 => ?_⟩⟩
    have s02 : Same H H2 := (s1.upd htl).trans s2
    have e12 : H2 pl = some (.lst (S.pl.map V.str)) := s2 _ _ ((Same.new htl) _ _ e1)
    refine ⟨l, rfl, ⟨_, SqL.of e2⟩, for_list (K := K) (a := l) (xs := (untD 10 [] d).map V.str) (fun i σ' H' => H' = H2 ∧ (∃ o, σ' = [some (.ref p), some v, some (.ref pl), o]) ∧ (∀ x ∈ (untD 10 [] d).take i, x ∈ S.pl)) ⟨rfl, ⟨none, rfl⟩, fun _ h => nomatch h⟩ (fun i σ' H' _ h => by rw [h.1]; exact SqL.of e2) (fun i y σ' H' hy h => ?_) (fun σ' H' h => ?_)⟩
    · obtain ⟨rfl, ⟨o, rfl⟩, hin⟩ := h
      rw [List.getElem?_map] at hy
      cases hx : (untD 10 [] d)[i]? with
      | none => rw [hx] at hy; cases hy
      | some x =>
        rw [hx] at hy
        cases hy
        have mx := List.mem_of_getElem? hx
        refine ⟨_, rfl, _, rfl, pl, _, rfl, .inl (SqL.of e12), rfl, flat_strs _, _, rfl, ?_⟩
        show if (if true = true then !inV (.str x) (S.pl.map V.str) else inV (.str x) (S.pl.map V.str)) = true then _ else _
        have ei : (if true = true then !inV (.str x) (S.pl.map V.str) else inV (.str x) (S.pl.map V.str)) = !decide (x ∈ S.pl) := by rw [if_pos rfl, inV_str]
        rw [ei]
        by_cases hb : x ∈ S.pl
        · refine iteFb (by rw [decide_eq_true hb]; rfl) ⟨rfl, ⟨_, rfl⟩, fun z hz => ?_⟩
          rw [List.take_add_one, hx] at hz
          rcases List.mem_append.mp hz with hz | hz
          · exact hin z hz
          · have hz : z = x := by simpa using hz
            rw [hz]
            exact hb
        · have hf : firstNot S.pl (untD 10 [] d) = some x := by
            obtain ⟨hi, ex⟩ := List.getElem?_eq_some_iff.mp hx
            unfold firstNot
            have sp : untD 10 [] d = (untD 10 [] d).take i ++ x :: (untD 10 [] d).drop (i + 1) := by
              rw [← ex, ← List.drop_eq_getElem_cons hi, List.take_append_drop]
            rw [sp, List.find?_append, List.find?_eq_none.mpr (fun z hz => by simp [hin z hz]), Option.none_or, List.find?_cons_of_pos (by simp [hb])]
          refine iteTb (by rw [decide_eq_false hb]; rfl) ⟨_, rfl, by show 1 ≤ sizeLine; decide, fun a ha => ⟨a, x, rfl, on x mx, upd_same, fun dx h1 h2 h3 => ⟨rfl, dx, h3, upd_same, qE x hf _ dx (fun b ob e => ?_) h3 ?_⟩⟩⟩
          · have na : b ≠ a := ne_of_none (s02 _ _ e) ha
            have nd : b ≠ dx := fun z => by
              rw [← z, upd_ne na, s02 _ _ e] at h1
              cases h1
            rw [forget_ne na, upd_ne na, upd_ne nd, upd_ne na, upd_ne na]
            exact s02 _ _ e
          · rw [forget_ne h2, upd_ne h2, upd_same]
    · obtain ⟨rfl, ⟨o, rfl⟩, hin⟩ := h
      refine q ?_ _ s02
      unfold firstNot
      rw [List.length_map, List.take_length] at hin
      exact List.find?_eq_none.mpr fun z hz => by simp [hin z hz]
def spLook (C Cn : Addr) : Sp := spRefuse C Cn
theorem sc_lookC : FnScope ["net", "claim"] ["net", "claim"] (defScope s_look_at_claim) := ⟨rfl, rfl, rfl, by decide +kernel, rfl, by decide +kernel, by decide +kernel⟩
theorem ok_lookC {f : Addr} {fd : FuncData} (F : Fun K "look_at_claim" "look_at_claim" s_look_at_claim f fd) (cr : CanX P w K mg base 22 "refuse_strangers" ["net", "whole"] (spRefuse C Cn)) : FnOk P w K mg base (CXF P w) 23 f fd ["net", "claim"] (spLook C Cn) := by
  refine F.okX sc_lookC (fun vs H Q E h => ?_) (fun cdv A outer s H vs Q E hr W h => ?_)
  · obtain ⟨p, ds, dl, S, v, d, rfl, _⟩ := h
    rfl
  · obtain ⟨p, ds, dl, S, v, d, rfl, N, pd, ok, on, q, qE⟩ := h
    refine ⟨_, (pss_one (ps_expr (pe_callX cr W hr (by rfl) (pa_cons (pv 0) (pa_cons (pv 1) pa_nil))))), ?_⟩
    exact ⟨_, rfl, _, rfl, p, ds, dl, S, v, d, rfl, N, pd, ok, on, q, qE⟩
theorem sc_lookT : FnScope ["net", "term"] ["net", "term"] (defScope s_look_at_term) := ⟨rfl, rfl, rfl, by decide +kernel, rfl, by decide +kernel, by decide +kernel⟩
theorem ok_lookT {f : Addr} {fd : FuncData} (F : Fun K "look_at_term" "look_at_term" s_look_at_term f fd) (cr : CanX P w K mg base 22 "refuse_strangers" ["net", "whole"] (spRefuse C Cn)) : FnOk P w K mg base (CXF P w) 23 f fd ["net", "term"] (spLook C Cn) := by
  refine F.okX sc_lookT (fun vs H Q E h => ?_) (fun cdv A outer s H vs Q E hr W h => ?_)
  · obtain ⟨p, ds, dl, S, v, d, rfl, _⟩ := h
    rfl
  · obtain ⟨p, ds, dl, S, v, d, rfl, N, pd, ok, on, q, qE⟩ := h
    refine ⟨_, (pss_one (ps_expr (pe_callX cr W hr (by rfl) (pa_cons (pv 0) (pa_cons (pv 1) pa_nil))))), ?_⟩
    exact ⟨_, rfl, _, rfl, p, ds, dl, S, v, d, rfl, N, pd, ok, on, q, qE⟩
end
end Net

namespace Net
open PySem L2
/-! ### a place put in for a variable -/
def spCop (n : Nat) : Sp := fun vs H Q _ => ∃ (v : V) (d : PyData), vs = [v] ∧ PD H n v d ∧ okD n d ∧ ∀ v' H', Same H H' → PDF (fun q => H q = none) H' n v' d → Q v' H'
def spPut (n : Nat) : Sp := fun vs H Q _ => ∃ (v : V) (d : PyData) (x p : Str), vs = [v, .str x, .str p] ∧ PD H n v d ∧ okD n d ∧ PyData.strOk p = true ∧ ∀ v' H', Same H H' → PDF (fun q => H q = none) H' n v' (putD x p n d) → Q v' H'
theorem pf_snoc {Z : Addr → Prop} {H : Hp} {n : Nat} {x : V} {d : PyData} (h : PDF Z H n x d) : ∀ {xs : List V} {ds : List PyData}, Paired (PDF Z H n) xs ds → Paired (PDF Z H n) (xs ++ [x]) (ds ++ [d])
  | _, _, .nil => .cons h .nil
  | _, _, .cons a t => .cons a (pf_snoc h t)
theorem pf_flat {Z : Addr → Prop} {H : Hp} {n : Nat} {v : V} {d : PyData} (h : PD H n v d) (e : isL d = false) (e2 : isTu d = false) : PDF Z H n v d := by
  cases n with
  | zero => cases v <;> first | exact h | exact h.elim
  | succ n =>
    cases v <;> first | exact h | exact h.elim | skip
    rcases h with ⟨xs, ds, _, rfl, _⟩ | ⟨xs, ds, _, rfl, _⟩
    · cases e
    · cases e2
theorem ok_lenL {n : Nat} {ds : List PyData} (h : okD (n + 1) (.list ds)) : ds.length ≤ 12 ∧ ∀ d ∈ ds, okD n d := ⟨h.1, fun d hd => by
  obtain ⟨x, rfl⟩ := h.2 d hd
  cases n <;> exact True.intro⟩
theorem ok_lenT {n : Nat} {ds : List PyData} (h : okD (n + 1) (.tuple ds)) : ∃ w r, ds = .str w :: r ∧ r.length ≤ 3 ∧ (∀ d ∈ r, okD n d) ∧ (evB w = true → ∃ x k c, r = [.str x, k, c]) := by
  cases ds with
  | nil => exact h.elim
  | cons w0 r =>
    cases w0 <;> try exact h.elim
    exact ⟨_, r, rfl, h.1, h.2.1, h.2.2⟩
theorem ok_allT7 {n : Nat} {ds : List PyData} (h : okD (n + 1) (.tuple ds)) : ds.length ≤ 12 ∧ ∀ d ∈ ds, okD n d := by
  obtain ⟨w, r, rfl, h1, h2, _⟩ := ok_lenT h
  refine ⟨by rw [List.length_cons]; omega, fun d hd => ?_⟩
  rcases List.mem_cons.mp hd with rfl | hd
  · cases n <;> exact True.intro
  · exact h2 d hd
theorem ok_no0 {ds : List PyData} (h : okD 0 (.tuple ds)) : False := by
  cases ds with
  | nil => exact h
  | cons w r => cases w <;> exact h
section
variable {P : Program} {w : World} {K : PySem.W.Frag} {mg : Str → Option Value} {base : Heap} {C : Addr} {n : Nat}
theorem sc_cop : FnScope ["thing"] ["thing"] (defScope s_copied) := ⟨rfl, rfl, rfl, by decide +kernel, rfl, by decide +kernel, by decide +kernel⟩
theorem ok_cop0 {f : Addr} {fd : FuncData} (F : Fun K "copied" "copied" s_copied f fd) (T : Txt K mg C) (ih : Can P w K mg base 0 "copied" ["thing"] spVoid) : FnOk P w K mg base CX0 1 f fd ["thing"] (spCop 0) := by
  refine F.ok sc_cop (fun vs H Q E h => ?_) (fun cdv A outer s H vs Q E hr h => ?_)
  · obtain ⟨v, d, rfl, _⟩ := h
    rfl
  · obtain ⟨v, d, rfl, pd, ok, q⟩ := h
    have nd_0 : List.Nodup (["part"] : List Str) := by decide +kernel
    refine ⟨_, (pss_cons (ps_if (pt_val (pe_callB call_isinst (by rfl) T.isi b_isi (pa_cons (pv 0) (pa_cons (pe_ty T.list (by rfl) b_list) pa_nil)))) (pss_one (ps_ret (pe_comp (N := ["part"]) (xs := 1) (js := []) rfl (compScope_of rfl) (pi_list (pv 0)) (fun _ _ _ _ => pg_name (i := 0) nd_0 rfl (Or.inl rfl)) (fun _ _ _ _ => pts_nil) (fun _ _ _ _ => pe_callC ih hr (by rfl) (pa_cons (pv 0) pa_nil))))) pss_nil)
      (pss_cons (ps_if (pt_val (pe_callB call_isinst (by rfl) T.isi b_isi (pa_cons (pv 0) (pa_cons (pe_ty T.tuple (by rfl) b_tuple) pa_nil)))) (pss_one (ps_ret (pe_callTy call_tuple_of (by rfl) T.tuple b_tuple (pa_cons (pe_comp (N := ["part"]) (xs := 1) (js := []) rfl (compScope_of rfl) (pi_tup (pv 0)) (fun _ _ _ _ => pg_name (i := 0) nd_0 rfl (Or.inl rfl)) (fun _ _ _ _ => pts_nil) (fun _ _ _ _ => pe_callC ih hr (by rfl) (pa_cons (pv 0) pa_nil))) pa_nil)))) pss_nil)
      (pss_one (ps_ret (pv 0))))), ?_⟩
    obtain ⟨t, ty, kl, ks, kt⟩ := pd.ty3 (K := K)
    have hL : isL d = false := by cases d <;> first | rfl | exact ok.elim
    have hT : isTu d = false := by cases d <;> first | rfl | exact (ok_no0 ok).elim | exact ok.elim
    rw [hL] at kl
    rw [hT] at kt
    exact ⟨_, rfl, v, "list", t, _, rfl, ty, kl, _, rfl, iteF ⟨_, rfl, v, "tuple", t, _, rfl, ty, kt, _, rfl, iteF ⟨_, rfl, q v H (Same.refl H) (pf_flat pd hL hT)⟩⟩⟩
theorem ok_copS {f : Addr} {fd : FuncData} {k : Nat} (F : Fun K "copied" "copied" s_copied f fd) (T : Txt K mg C) (ih : Can P w K mg base k "copied" ["thing"] (spCop n)) : FnOk P w K mg base CX0 (k + 1) f fd ["thing"] (spCop (n + 1)) := by
  refine F.ok sc_cop (fun vs H Q E h => ?_) (fun cdv A outer s H vs Q E hr h => ?_)
  · obtain ⟨v, d, rfl, _⟩ := h
    rfl
  · obtain ⟨v, d, rfl, pd, ok, q⟩ := h
    have nd_0 : List.Nodup (["part"] : List Str) := by decide +kernel
    refine ⟨_, (pss_cons (ps_if (pt_val (pe_callB call_isinst (by rfl) T.isi b_isi (pa_cons (pv 0) (pa_cons (pe_ty T.list (by rfl) b_list) pa_nil)))) (pss_one (ps_ret (pe_comp (N := ["part"]) (xs := 1) (js := []) rfl (compScope_of rfl) (pi_list (pv 0)) (fun _ _ _ _ => pg_name (i := 0) nd_0 rfl (Or.inl rfl)) (fun _ _ _ _ => pts_nil) (fun _ _ _ _ => pe_callC ih hr (by rfl) (pa_cons (pv 0) pa_nil))))) pss_nil)
      (pss_cons (ps_if (pt_val (pe_callB call_isinst (by rfl) T.isi b_isi (pa_cons (pv 0) (pa_cons (pe_ty T.tuple (by rfl) b_tuple) pa_nil)))) (pss_one (ps_ret (pe_callTy call_tuple_of (by rfl) T.tuple b_tuple (pa_cons (pe_comp (N := ["part"]) (xs := 1) (js := []) rfl (compScope_of rfl) (pi_tup (pv 0)) (fun _ _ _ _ => pg_name (i := 0) nd_0 rfl (Or.inl rfl)) (fun _ _ _ _ => pts_nil) (fun _ _ _ _ => pe_callC ih hr (by rfl) (pa_cons (pv 0) pa_nil))) pa_nil)))) pss_nil)
      (pss_one (ps_ret (pv 0))))), ?_⟩
    obtain ⟨t, ty, kl, ks, kt⟩ := pd.ty3 (K := K)
    refine ⟨_, rfl, v, "list", t, isL d, rfl, ty, kl, _, rfl, ?_⟩
    cases hL : isL d with
    | true =>
      obtain ⟨ds, rfl⟩ : ∃ e, d = .list e := by cases d <;> first | exact ⟨_, rfl⟩ | cases hL
      obtain ⟨m, a, xs, hm, rfl, ha, pr⟩ := pd.list_of
      cases hm
      obtain ⟨o1, o2⟩ := ok_lenL ok
      have hl := Paired.length pr
      refine iteT ⟨_, rfl, a, rfl, ⟨_, SqL.of ha⟩, comp_list (K := K) (ys := xs) (fun i acc σ' H' => Same H H' ∧ acc.length ≤ i ∧ Paired (PDF (fun q => H q = none) H' n) acc (ds.take i) ∧ ∃ o, σ' = [o])
        ⟨Same.refl H, Nat.le_refl _, .nil, none, rfl⟩ (fun i acc σ' H' h => h.2.1) (by rw [hl]; exact Nat.le_trans o1 (by decide)) (fun i acc σ' H' _ h => SqL.of (h.1 _ _ ha)) (fun i x acc σ' H' hx h => ?_) (fun acc σ' H' h p hp => ?_)⟩
      · obtain ⟨s1, hal, hpa, o, rfl⟩ := h
        obtain ⟨di, hd, pdi⟩ := pair_get pr hx
        refine ⟨_, rfl, x, di, rfl, pdi.same s1, o2 di (List.mem_of_getElem? hd), fun v' H2 s2 pd2 => ⟨s1.trans s2, by rw [List.length_append, List.length_singleton]; omega, ?_, _, rfl⟩⟩
        rw [List.take_add_one, hd]
        exact pf_snoc (pd2.weak fun z hz => s1.free hz) (L2.Paired.mapP hpa fun _ _ h => h.same s2)
      · obtain ⟨s1, hal, hpa, o, rfl⟩ := h
        rw [hl, List.take_length] at hpa
        have z := Same.new (o := .lst acc) hp
        exact q (.ref p) _ (s1.trans z) (.inl ⟨acc, ds, upd_same, s1.free hp, rfl, L2.Paired.mapP hpa fun _ _ h => h.same z⟩)
    | false =>
      refine iteF ⟨_, rfl, v, "tuple", t, isTu d, rfl, ty, kt, _, rfl, ?_⟩
      cases hT : isTu d with
      | true =>
        obtain ⟨ds, rfl⟩ : ∃ e, d = .tuple e := by cases d <;> first | exact ⟨_, rfl⟩ | cases hT
        obtain ⟨m, a, xs, hm, rfl, ha, pr⟩ := pd.tup_of
        cases hm
        obtain ⟨o1, o2⟩ := ok_allT7 ok
        have hl := Paired.length pr
        refine iteT ⟨_, rfl, a, rfl, ⟨_, SqT.of ha⟩, comp_tup (K := K) (ys := xs) (fun i acc σ' H' => Same H H' ∧ acc.length ≤ i ∧ Paired (PDF (fun q => H q = none) H' n) acc (ds.take i) ∧ ∃ o, σ' = [o])
          ⟨Same.refl H, Nat.le_refl _, .nil, none, rfl⟩ (fun i acc σ' H' h => h.2.1) (by rw [hl]; exact Nat.le_trans o1 (by decide)) (fun i acc σ' H' _ h => SqT.of (h.1 _ _ ha)) (fun i x acc σ' H' hx h => ?_) (fun acc σ' H' h p hp => ?_)⟩
        · obtain ⟨s1, hal, hpa, o, rfl⟩ := h
          obtain ⟨di, hd, pdi⟩ := pair_get pr hx
          refine ⟨_, rfl, x, di, rfl, pdi.same s1, o2 di (List.mem_of_getElem? hd), fun v' H2 s2 pd2 => ⟨s1.trans s2, by rw [List.length_append, List.length_singleton]; omega, ?_, _, rfl⟩⟩
          rw [List.take_add_one, hd]
          exact pf_snoc (pd2.weak fun z hz => s1.free hz) (L2.Paired.mapP hpa fun _ _ h => h.same s2)
        · obtain ⟨s1, hal, hpa, o, rfl⟩ := h
          rw [hl, List.take_length] at hpa
          have z := Same.new (o := .lst acc) hp
          refine ⟨p, acc, rfl, .inl ⟨SqL.of upd_same, fun t2 ht2 => ?_⟩⟩
          have z2 := Same.new (o := .tup acc) ht2
          exact q (.ref t2) _ ((s1.trans z).trans z2) (.inr ⟨acc, ds, upd_same, rfl, L2.Paired.mapP hpa fun _ _ h => (h.same z).same z2⟩)
      | false => exact iteF ⟨_, rfl, q v H (Same.refl H) (pf_flat pd hL hT)⟩
theorem can_cop (hF : ∃ f fd, Fun K "copied" "copied" s_copied f fd ∧ mg "copied" = some (.ref f)) (T : Txt K mg C) : ∀ n : Nat, Can P w K mg base (n + 1) "copied" ["thing"] (spCop n)
  | 0 => by
    obtain ⟨f, fd, F, m⟩ := id hF
    exact ⟨f, fd, ok_cop0 F T (can_void7 0 hF fun _ _ F => F.binds fun _ _ _ _ _ _ us hl => match us, hl with | [_], _ => rfl), m, F.kp, F.binds fun _ _ _ _ _ _ us hl => match us, hl with | [_], _ => rfl⟩
  | n + 1 => by
    obtain ⟨f, fd, F, m⟩ := id hF
    exact ⟨f, fd, ok_copS F T (can_cop hF T n), m, F.kp, F.binds fun _ _ _ _ _ _ us hl => match us, hl with | [_], _ => rfl⟩
end
end Net

namespace Net
open PySem L2
/-! ### put_in -/
theorem put_str (v p : Str) (n : Nat) (y : Str) : putD v p n (.str y) = if y = v then .str p else .str y := by cases n <;> rfl
theorem pf_str {Z : Addr → Prop} {H : Hp} {n : Nat} {x : Str} (h : PyData.strOk x = true) : PDF Z H n (.str x) (.str x) := by cases n <;> exact ⟨h, rfl⟩
theorem PD.strOk {H : Hp} {n : Nat} {x : Str} (h : PD H n (.str x) (.str x)) : PyData.strOk x = true := by cases n <;> exact h.1
section
variable {P : Program} {w : World} {K : PySem.W.Frag} {mg : Str → Option Value} {base : Heap} {C : Addr} {n : Nat}
abbrev Nput : List Str := ["claim", "variable", "place", "within"]
theorem sc_put : FnScope Nput ["claim", "variable", "place"] (defScope s_put_in) := ⟨rfl, rfl, rfl, by decide +kernel, rfl, by decide +kernel, by decide +kernel⟩
theorem ok_put0 {f : Addr} {fd : FuncData} (F : Fun K "put_in" "put_in" s_put_in f fd) (T : Txt K mg C) (ih : Can P w K mg base 0 "put_in" ["claim", "variable", "place"] spVoid) (cc : Can P w K mg base 0 "copied" ["thing"] spVoid) (ct : Can P w K mg base 0 "tells_variable" ["claim"] spVoid) : FnOk P w K mg base CX0 1 f fd ["claim", "variable", "place"] (spPut 0) := by
  refine F.ok sc_put (fun vs H Q E h => ?_) (fun cdv A outer s H vs Q E hr h => ?_)
  · obtain ⟨v, d, x, p, rfl, _⟩ := h
    rfl
  · obtain ⟨v, d, x, p, rfl, pd, ok, hp, q⟩ := h
    have nd_0 : List.Nodup (["part", "place", "variable"] : List Str) := by decide +kernel
    have rk := hr
    have r1 := hr
    refine ⟨_, (pss_cons (ps_if (pt_val (pe_callB call_isinst (by rfl) T.isi b_isi (pa_cons (pv 0) (pa_cons (pe_ty T.str (by rfl) b_str) pa_nil)))) (pss_one (ps_ret (pe_ifExp (pt_cmpR op_eq (pv 0) (pv 1) (nomark _)) (pv 2) (pv 0)))) pss_nil)
      (pss_cons (ps_if (pt_val (pe_callB call_isinst (by rfl) T.isi b_isi (pa_cons (pv 0) (pa_cons (pe_ty T.list (by rfl) b_list) pa_nil)))) (pss_one (ps_ret (pe_comp (N := ["part", "place", "variable"]) (xs := 1) (js := [2, 1]) rfl (compScope_of rfl) (pi_list (pv 0)) (fun _ _ _ _ => pg_name (i := 0) nd_0 rfl (Or.inl rfl)) (fun _ _ _ _ => pts_nil) (fun _ _ _ _ => pe_callC ih rk (by rfl) (pa_cons (pv 0) (pa_cons (pv 2) (pa_cons (pv 1) pa_nil))))))) pss_nil)
      (pss_cons (ps_if (pt_not (pt_val (pe_callB call_isinst (by rfl) T.isi b_isi (pa_cons (pv 0) (pa_cons (pe_ty T.tuple (by rfl) b_tuple) pa_nil))))) (pss_one (ps_ret (pv 0))) pss_nil)
      (pss_cons (ps_if (pt_val (pe_callC ct r1 (by rfl) (pa_cons (pv 0) pa_nil))) (pss_cutE (ps_set (i := 3) sc_put.nd rfl (Or.inl rfl) (pe_ifExp (pt_cmpR op_eq (pe_ix ix_tup (pv 0) pe_int (fun _ _ => by rfl)) (pv 1) (nomark _)) (pe_callC cc rk (by rfl) (pa_cons (pe_ix ix_tup (pv 0) pe_int (fun _ _ => by rfl)) pa_nil)) (pe_callC ih rk (by rfl) (pa_cons (pe_ix ix_tup (pv 0) pe_int (fun _ _ => by rfl)) (pa_cons (pv 1) (pa_cons (pv 2) pa_nil))))))
      (pss_one (ps_ret (pe_tup (pa_cons (pe_ix ix_tup (pv 0) pe_int (fun _ _ => by rfl)) (pa_cons (pe_ix ix_tup (pv 0) pe_int (fun _ _ => by rfl)) (pa_cons (pe_callC ih rk (by rfl) (pa_cons (pe_ix ix_tup (pv 0) pe_int (fun _ _ => by rfl)) (pa_cons (pv 1) (pa_cons (pv 2) pa_nil)))) (pa_cons (pv 3) pa_nil)))))))) pss_nil)
      (pss_one (ps_ret (pe_op op_catT (pe_tup (pa_cons (pe_ix ix_tup (pv 0) pe_int (fun _ _ => by rfl)) pa_nil)) (pe_callTy call_tuple_of (by rfl) T.tuple b_tuple (pa_cons (pe_comp (N := ["part", "place", "variable"]) (xs := 1) (js := [2, 1]) rfl (compScope_of rfl) (pi_tup (pe_slice sl_tup (pv 0) (po_some pe_int) po_none)) (fun _ _ _ _ => pg_name (i := 0) nd_0 rfl (Or.inl rfl)) (fun _ _ _ _ => pts_nil) (fun _ _ _ _ => pe_callC ih rk (by rfl) (pa_cons (pv 0) (pa_cons (pv 2) (pa_cons (pv 1) pa_nil))))) pa_nil))))))))), ?_⟩
    obtain ⟨t, ty, kl, ks, kt⟩ := pd.ty3 (K := K)
    refine ⟨_, rfl, v, "str", t, isS d, rfl, ty, ks, _, rfl, ?_⟩
    cases d <;> try exact ok.elim
    case int i => exact iteF ⟨_, rfl, v, "list", t, _, rfl, ty, kl, _, rfl, iteF ⟨_, rfl, v, "tuple", t, _, rfl, ty, kt, _, rfl, iteT ⟨_, rfl, q v H (Same.refl H) (pf_flat pd rfl rfl)⟩⟩⟩
    case str y =>
      have := pd.str_is
      subst this
      refine iteT ⟨_, rfl, _, rfl, rfl, _, rfl, ?_⟩
      rw [eq_V]
      rw [put_str] at q
      by_cases hb : y = x
      · rw [if_pos hb] at q
        exact iteTb (decide_eq_true hb) ⟨_, rfl, q _ H (Same.refl H) (pf_str hp)⟩
      · rw [if_neg hb] at q
        exact iteFb (decide_eq_false hb) ⟨_, rfl, q _ H (Same.refl H) (pf_str pd.strOk)⟩
    case tuple ds => exact (ok_no0 ok).elim
theorem ok_putS {f : Addr} {fd : FuncData} {k : Nat} (F : Fun K "put_in" "put_in" s_put_in f fd) (T : Txt K mg C) (hk1 : 1 ≤ k) (ih : Can P w K mg base k "put_in" ["claim", "variable", "place"] (spPut n)) (cc : Can P w K mg base k "copied" ["thing"] (spCop n)) (ct : Can P w K mg base 1 "tells_variable" ["claim"] spTells) : FnOk P w K mg base CX0 (k + 1) f fd ["claim", "variable", "place"] (spPut (n + 1)) := by
  refine F.ok sc_put (fun vs H Q E h => ?_) (fun cdv A outer s H vs Q E hr h => ?_)
  · obtain ⟨v, d, x, p, rfl, _⟩ := h
    rfl
  · obtain ⟨v, d, x, p, rfl, pd, ok, hp, q⟩ := h
    have nd_0 : List.Nodup (["part", "place", "variable"] : List Str) := by decide +kernel
    have rk := hr
    have r1 : Room 1 _ := hr.mono hk1
    refine ⟨_, (pss_cons (ps_if (pt_val (pe_callB call_isinst (by rfl) T.isi b_isi (pa_cons (pv 0) (pa_cons (pe_ty T.str (by rfl) b_str) pa_nil)))) (pss_one (ps_ret (pe_ifExp (pt_cmpR op_eq (pv 0) (pv 1) (nomark _)) (pv 2) (pv 0)))) pss_nil)
      (pss_cons (ps_if (pt_val (pe_callB call_isinst (by rfl) T.isi b_isi (pa_cons (pv 0) (pa_cons (pe_ty T.list (by rfl) b_list) pa_nil)))) (pss_one (ps_ret (pe_comp (N := ["part", "place", "variable"]) (xs := 1) (js := [2, 1]) rfl (compScope_of rfl) (pi_list (pv 0)) (fun _ _ _ _ => pg_name (i := 0) nd_0 rfl (Or.inl rfl)) (fun _ _ _ _ => pts_nil) (fun _ _ _ _ => pe_callC ih rk (by rfl) (pa_cons (pv 0) (pa_cons (pv 2) (pa_cons (pv 1) pa_nil))))))) pss_nil)
      (pss_cons (ps_if (pt_not (pt_val (pe_callB call_isinst (by rfl) T.isi b_isi (pa_cons (pv 0) (pa_cons (pe_ty T.tuple (by rfl) b_tuple) pa_nil))))) (pss_one (ps_ret (pv 0))) pss_nil)
      (pss_cons (ps_if (pt_val (pe_callC ct r1 (by rfl) (pa_cons (pv 0) pa_nil))) (pss_cutE (ps_set (i := 3) sc_put.nd rfl (Or.inl rfl) (pe_ifExp (pt_cmpR op_eq (pe_ix ix_tup (pv 0) pe_int (fun _ _ => by rfl)) (pv 1) (nomark _)) (pe_callC cc rk (by rfl) (pa_cons (pe_ix ix_tup (pv 0) pe_int (fun _ _ => by rfl)) pa_nil)) (pe_callC ih rk (by rfl) (pa_cons (pe_ix ix_tup (pv 0) pe_int (fun _ _ => by rfl)) (pa_cons (pv 1) (pa_cons (pv 2) pa_nil))))))
      (pss_one (ps_ret (pe_tup (pa_cons (pe_ix ix_tup (pv 0) pe_int (fun _ _ => by rfl)) (pa_cons (pe_ix ix_tup (pv 0) pe_int (fun _ _ => by rfl)) (pa_cons (pe_callC ih rk (by rfl) (pa_cons (pe_ix ix_tup (pv 0) pe_int (fun _ _ => by rfl)) (pa_cons (pv 1) (pa_cons (pv 2) pa_nil)))) (pa_cons (pv 3) pa_nil)))))))) pss_nil)
      (pss_one (ps_ret (pe_op op_catT (pe_tup (pa_cons (pe_ix ix_tup (pv 0) pe_int (fun _ _ => by rfl)) pa_nil)) (pe_callTy call_tuple_of (by rfl) T.tuple b_tuple (pa_cons (pe_comp (N := ["part", "place", "variable"]) (xs := 1) (js := [2, 1]) rfl (compScope_of rfl) (pi_tup (pe_slice sl_tup (pv 0) (po_some pe_int) po_none)) (fun _ _ _ _ => pg_name (i := 0) nd_0 rfl (Or.inl rfl)) (fun _ _ _ _ => pts_nil) (fun _ _ _ _ => pe_callC ih rk (by rfl) (pa_cons (pv 0) (pa_cons (pv 2) (pa_cons (pv 1) pa_nil))))) pa_nil))))))))), ?_⟩
    obtain ⟨t, ty, kl, ks, kt⟩ := pd.ty3 (K := K)
    refine ⟨_, rfl, v, "str", t, isS d, rfl, ty, ks, _, rfl, ?_⟩
    cases d <;> try exact ok.elim
    case int i => exact iteF ⟨_, rfl, v, "list", t, _, rfl, ty, kl, _, rfl, iteF ⟨_, rfl, v, "tuple", t, _, rfl, ty, kt, _, rfl, iteT ⟨_, rfl, q v H (Same.refl H) (pf_flat pd rfl rfl)⟩⟩⟩
    case str y =>
      have := pd.str_is
      subst this
      refine iteT ⟨_, rfl, _, rfl, rfl, _, rfl, ?_⟩
      rw [eq_V]
      rw [put_str] at q
      by_cases hb : y = x
      · rw [if_pos hb] at q
        exact iteTb (decide_eq_true hb) ⟨_, rfl, q _ H (Same.refl H) (pf_str hp)⟩
      · rw [if_neg hb] at q
        exact iteFb (decide_eq_false hb) ⟨_, rfl, q _ H (Same.refl H) (pf_str pd.strOk)⟩
    case list ds =>
      obtain ⟨m, a, xs, hm, rfl, ha, pr⟩ := pd.list_of
      cases hm
      obtain ⟨o1, o2⟩ := ok_lenL ok
      have hl := Paired.length pr
      refine iteF ⟨_, rfl, _, "list", t, _, rfl, ty, kl, _, rfl, iteT ⟨_, rfl, a, rfl, ⟨_, SqL.of ha⟩, comp_list (K := K) (ys := xs) (fun i acc σ' H' => Same H H' ∧ acc.length ≤ i ∧ Paired (PDF (fun q => H q = none) H' n) acc ((ds.map (putD x p n)).take i) ∧ ∃ o, σ' = [o, some (.str p), some (.str x)])
        ⟨Same.refl H, Nat.le_refl _, .nil, none, rfl⟩ (fun i acc σ' H' h => h.2.1) (by rw [hl]; exact Nat.le_trans o1 (by decide)) (fun i acc σ' H' _ h => SqL.of (h.1 _ _ ha)) (fun i y acc σ' H' hx h => ?_) (fun acc σ' H' h b hb => ?_)⟩⟩
      · obtain ⟨s1, hal, hpa, o, rfl⟩ := h
        obtain ⟨di, hd, pdi⟩ := pair_get pr hx
        refine ⟨_, rfl, _, rfl, _, rfl, y, di, x, p, rfl, pdi.same s1, o2 di (List.mem_of_getElem? hd), hp, fun v' H2 s2 pd2 => ⟨s1.trans s2, by rw [List.length_append, List.length_singleton]; omega, ?_, _, rfl⟩⟩
        rw [List.take_add_one, List.getElem?_map, hd]
        exact pf_snoc (pd2.weak fun z hz => s1.free hz) (L2.Paired.mapP hpa fun _ _ h => h.same s2)
      · obtain ⟨s1, hal, hpa, o, rfl⟩ := h
        rw [hl, ← List.length_map (f := putD x p n), List.take_length] at hpa
        have z := Same.new (o := .lst acc) hb
        exact q (.ref b) _ (s1.trans z) (.inl ⟨acc, _, upd_same, s1.free hb, rfl, L2.Paired.mapP hpa fun _ _ h => h.same z⟩)
    case tuple ds =>
      obtain ⟨m, a, xs, hm, rfl, ha, pr⟩ := pd.tup_of
      cases hm
      obtain ⟨w, r, rfl, o1, o2, o3⟩ := ok_lenT ok
      cases pr with
      | cons p1 pr =>
        rename_i v1 xs
        have := p1.str_is
        subst this
        have h0 : atI (V.str w :: xs) 0 = some (.str w) := atI_nat (j := 0) rfl
        refine iteF ⟨_, rfl, _, "list", t, _, rfl, ty, kl, _, rfl, iteF ⟨_, rfl, _, "tuple", t, _, rfl, ty, kt, _, rfl, iteF ⟨_, rfl, a, w, xs, rfl, ha, _, rfl, ?_⟩⟩⟩
        cases he : evB w with
        | true =>
          obtain ⟨y, kd, c, rfl⟩ := o3 he
          rw [put_ev he] at q
          obtain ⟨v2, v3, v4, rfl, p2, p3, p4⟩ : ∃ v2 v3 v4, xs = [v2, v3, v4] ∧ PD H n v2 (.str y) ∧ PD H n v3 kd ∧ PD H n v4 c := by
            cases pr with
            | cons p2 pr => cases pr with
              | cons p3 pr => cases pr with
                | cons p4 pr => cases pr with
                  | nil => exact ⟨_, _, _, rfl, p2, p3, p4⟩
          have := p2.str_is
          subst this
          have k2 := o2 kd (by simp)
          have k3 := o2 c (by simp)
          refine iteT ⟨fun σ' H' => Same H H' ∧ ∃ v5, PDF (fun q => H q = none) H' n v5 (if y = x then c else putD x p n c) ∧ σ' = [some (.ref a), some (.str x), some (.str p), some v5], ?_, ?_⟩
          · refine ⟨_, rfl, a, _, _, .str y, rfl, rfl, SqT.of ha, rfl, _, rfl, rfl, _, rfl, ?_⟩
            rw [eq_V]
            by_cases hb : y = x
            · rw [if_pos hb]
              exact iteTb (decide_eq_true hb) ⟨_, rfl, a, _, _, v4, rfl, rfl, SqT.of ha, rfl, v4, c, rfl, p4, k3, fun v5 H1 s1 pf => ⟨s1, v5, pf, rfl⟩⟩
            · rw [if_neg hb]
              exact iteFb (decide_eq_false hb) ⟨_, rfl, a, _, _, v4, rfl, rfl, SqT.of ha, rfl, _, rfl, _, rfl, v4, c, x, p, rfl, p4, k3, hp, fun v5 H1 s1 pf => ⟨s1, v5, pf, rfl⟩⟩
          · rintro _ H1 ⟨s1, v5, pf, rfl⟩
            have ha1 := s1 _ _ ha
            refine ⟨_, rfl, a, _, _, .str w, rfl, rfl, SqT.of ha1, rfl, _, rfl, a, _, _, .str y, rfl, rfl, SqT.of ha1, rfl, _, rfl, a, _, _, v3, rfl, rfl, SqT.of ha1, rfl, _, rfl, _, rfl, v3, kd, x, p, rfl, p3.same s1, k2, hp, fun v6 H2 s2 pf2 => ⟨_, rfl, (by show 4 ≤ sizeLine; decide), fun t2 ht2 => ?_⟩⟩
            have z2 := Same.new (o := .tup [.str w, .str y, v6, v5]) ht2
            exact q (.ref t2) _ ((s1.trans s2).trans z2) (.inr ⟨_, _, upd_same, rfl, .cons (pf_str p1.strOk) (.cons (pf_str p2.strOk) (.cons ((pf2.weak fun z hz => s1.free hz).same z2) (.cons ((pf.same s2).same z2) .nil)))⟩)
        | false =>
          rw [put_pl he] at q
          have hl := Paired.length pr
          refine iteF ⟨_, rfl, a, _, _, .str w, rfl, rfl, SqT.of ha, h0, (by show 1 ≤ sizeLine; decide), fun t1 ht1 => ?_⟩
          have z1 := Same.new (o := .tup [.str w]) ht1
          refine ⟨_, rfl, _, rfl, a, _, rfl, SqT.of (z1 _ _ ha), cut1_not, fun t2 ht2 => ?_⟩
          rw [cut1]
          have z2 := Same.new (o := .tup xs) ht2
          have e1 : (upd (upd H t1 (.tup [.str w])) t2 (.tup xs)) t1 = some (.tup [.str w]) := z2 _ _ upd_same
          have e2 : (upd (upd H t1 (.tup [.str w])) t2 (.tup xs)) t2 = some (.tup xs) := upd_same
          have s0 := z1.trans z2
          generalize upd (upd H t1 (.tup [.str w])) t2 (.tup xs) = H0 at e1 e2 s0
          refine ⟨t2, rfl, ⟨_, SqT.of e2⟩, comp_tup (K := K) (ys := xs) (fun i acc σ' H' => Same H0 H' ∧ acc.length ≤ i ∧ Paired (PDF (fun q => H q = none) H' n) acc ((r.map (putD x p n)).take i) ∧ ∃ o, σ' = [o, some (.str p), some (.str x)])
            ⟨Same.refl H0, Nat.le_refl _, .nil, none, rfl⟩ (fun i acc σ' H' h => h.2.1) (by rw [hl]; exact Nat.le_trans o1 (by decide)) (fun i acc σ' H' _ h => SqT.of (h.1 _ _ e2)) (fun i y acc σ' H' hx h => ?_) (fun acc σ' H' h b hb => ?_)⟩
          · obtain ⟨s1, hal, hpa, o, rfl⟩ := h
            obtain ⟨di, hd, pdi⟩ := pair_get pr hx
            refine ⟨_, rfl, _, rfl, _, rfl, y, di, x, p, rfl, pdi.same (s0.trans s1), o2 di (List.mem_of_getElem? hd), hp, fun v' H2 s2 pd2 => ⟨s1.trans s2, by rw [List.length_append, List.length_singleton]; omega, ?_, _, rfl⟩⟩
            rw [List.take_add_one, List.getElem?_map, hd]
            exact pf_snoc (pd2.weak fun z hz => (s0.trans s1).free hz) (L2.Paired.mapP hpa fun _ _ h => h.same s2)
          · obtain ⟨s1, hal, hpa, o, rfl⟩ := h
            rw [hl, ← List.length_map (f := putD x p n), List.take_length] at hpa
            have al : acc.length ≤ 3 := by omega
            have z := Same.new (o := .lst acc) hb
            refine ⟨b, acc, rfl, .inl ⟨SqL.of upd_same, fun t3 ht3 => ?_⟩⟩
            have z3 := Same.new (o := .tup acc) ht3
            have s03 : Same H0 _ := (s1.trans z).trans z3
            have pa3 := L2.Paired.mapP hpa fun _ _ h => (h.same z).same z3
            refine ⟨t1, t3, _, acc, rfl, rfl, SqT.of (s03 _ _ e1), SqT.of upd_same, by simp, Nat.le_trans (by show 1 + acc.length ≤ 100; omega) (by decide), fun en => ?_, fun _ t4 ht4 => ?_⟩
            · subst en
              have en : r.map (putD x p n) = [] := by
                cases hr' : r.map (putD x p n) with
                | nil => rfl
                | cons d0 l0 => rw [hr'] at hpa; cases hpa
              rw [en] at q
              exact q (.ref t1) _ (s0.trans s03) (.inr ⟨_, _, s03 _ _ e1, rfl, .cons (pf_str p1.strOk) .nil⟩)
            · have z4 := Same.new (o := .tup ([.str w] ++ acc)) ht4
              exact q (.ref t4) _ ((s0.trans s03).trans z4) (.inr ⟨_, _, upd_same, rfl, .cons (pf_str p1.strOk) (L2.Paired.mapP pa3 fun _ _ h => h.same z4)⟩)
theorem can_put (hF : ∃ f fd, Fun K "put_in" "put_in" s_put_in f fd ∧ mg "put_in" = some (.ref f)) (hC : ∃ f fd, Fun K "copied" "copied" s_copied f fd ∧ mg "copied" = some (.ref f)) (U : UntF K mg) (T : Txt K mg C) : ∀ n : Nat, Can P w K mg base (n + 1) "put_in" ["claim", "variable", "place"] (spPut n)
  | 0 => by
    obtain ⟨f, fd, F, m⟩ := id hF
    exact ⟨f, fd, ok_put0 F T (can_void7 0 hF fun _ _ F => F.binds fun _ _ _ _ _ _ us hl => match us, hl with | [_, _, _], _ => rfl) (can_void7 0 hC fun _ _ F => F.binds fun _ _ _ _ _ _ us hl => match us, hl with | [_], _ => rfl) (can_void7 0 U.tells fun _ _ F => F.binds fun _ _ _ _ _ _ us hl => match us, hl with | [_], _ => rfl), m, F.kp, F.binds fun _ _ _ _ _ _ us hl => match us, hl with | [_, _, _], _ => rfl⟩
  | n + 1 => by
    obtain ⟨f, fd, F, m⟩ := id hF
    exact ⟨f, fd, ok_putS F T (by omega) (can_put hF hC U T n) (can_cop hC T n) (can_tells U), m, F.kp, F.binds fun _ _ _ _ _ _ us hl => match us, hl with | [_, _, _], _ => rfl⟩
end
end Net

namespace Net
open PySem L2
/-! ### copies, and lists that are spoiled -/
def spLCopy (n : Nat) : Sp := fun vs H Q _ => ∃ (v : V) (d : PyData), vs = [v] ∧ PD H n v d ∧ okD n d ∧ ∀ v' H', Same H H' → PD H' n v' d → Q v' H'
theorem pd_snoc {H : Hp} {n : Nat} {x : V} {d : PyData} (h : PD H n x d) : ∀ {xs : List V} {ds : List PyData}, Paired (PD H n) xs ds → Paired (PD H n) (xs ++ [x]) (ds ++ [d])
  | _, _, .nil => .cons h .nil
  | _, _, .cons a t => .cons a (pd_snoc h t)
/-- what can be spoiled: lists where Z says, of at most B things -/
def TrS (Z : Addr → Prop) (B : Nat) (H : Hp) : Nat → V → Prop
  | _, .non => True
  | _, .bl _ => True
  | _, .int _ => True
  | _, .str _ => True
  | n + 1, .ref a => (∃ xs, H a = some (.lst xs) ∧ Z a ∧ xs.length ≤ B) ∨ ∃ xs, H a = some (.tup xs) ∧ xs.length ≤ 4 ∧ ∀ x ∈ xs, TrS Z B H n x
  | _, _ => False
structure Spo (Z : Addr → Prop) (k : Nat) (H H' : Hp) : Prop where
  oth : ∀ b o, H b = some o → (∀ xs, o ≠ .lst xs) → H' b = some o
  old : ∀ b xs, H b = some (.lst xs) → ¬ Z b → H' b = some (.lst xs)
  lst : ∀ b xs, H b = some (.lst xs) → ∃ ys, H' b = some (.lst ys) ∧ ys.length ≤ xs.length + k
theorem Spo.refl (Z : Addr → Prop) (H : Hp) : Spo Z 0 H H := ⟨fun _ _ e _ => e, fun _ _ e _ => e, fun _ xs e => ⟨xs, e, Nat.le_refl _⟩⟩
theorem Spo.trans {Z : Addr → Prop} {j k : Nat} {H H1 H2 : Hp} (a : Spo Z j H H1) (b : Spo Z k H1 H2) : Spo Z (j + k) H H2 :=
  ⟨fun x o e n => b.oth x o (a.oth x o e n) n, fun x xs e n => b.old x xs (a.old x xs e n) n, fun x xs e => by
    obtain ⟨ys, h1, h2⟩ := a.lst x xs e
    obtain ⟨zs, h3, h4⟩ := b.lst x ys h1
    exact ⟨zs, h3, by omega⟩⟩
theorem Spo.more {Z : Addr → Prop} {j k : Nat} {H H1 : Hp} (a : Spo Z j H H1) (h : j ≤ k) : Spo Z k H H1 := ⟨a.oth, a.old, fun b xs e => let ⟨ys, h1, h2⟩ := a.lst b xs e; ⟨ys, h1, by omega⟩⟩
theorem Spo.app {Z : Addr → Prop} {H : Hp} {a : Addr} {xs : List V} {v : V} (h : H a = some (.lst xs)) (hz : Z a) : Spo Z 1 H (upd H a (.lst (xs ++ [v]))) :=
  ⟨fun b o e n => by
      rw [upd_ne fun z => by rw [z, h] at e; cases e; exact n xs rfl]
      exact e, fun b ys e n => by
      rw [upd_ne fun z => n (by rw [z]; exact hz)]
      exact e, fun b ys e => by
      by_cases hb : b = a
      · subst hb
        rw [h] at e
        cases e
        exact ⟨_, upd_same, by rw [List.length_append]; exact Nat.le_refl _⟩
      · exact ⟨ys, by rw [upd_ne hb]; exact e, by omega⟩⟩
theorem TrS.spo {Z : Addr → Prop} {k : Nat} {H H' : Hp} (s : Spo Z k H H') : ∀ {n B : Nat} {v : V}, TrS Z B H n v → TrS Z (B + k) H' n v
  | 0, B, v, h => by cases v <;> first | exact h | exact h.elim
  | n + 1, B, v, h => by
    cases v <;> first | exact h | exact h.elim | skip
    rcases h with ⟨xs, e, z, l⟩ | ⟨xs, e, l, p⟩
    · obtain ⟨ys, h1, h2⟩ := s.lst _ _ e
      exact .inl ⟨ys, h1, z, by omega⟩
    · exact .inr ⟨xs, s.oth _ _ e (fun _ z => nomatch z), l, fun x hx => TrS.spo s (p x hx)⟩
theorem TrS.of {Z : Addr → Prop} {H : Hp} : ∀ {n : Nat} {v : V} {d : PyData}, PDF Z H n v d → okD n d → TrS Z 12 H n v
  | 0, v, d, h, ok => by cases v <;> first | exact True.intro | exact h.elim
  | n + 1, v, d, h, ok => by
    cases v <;> first | exact True.intro | exact h.elim | skip
    rcases h with ⟨xs, ds, e, z, rfl, p⟩ | ⟨xs, ds, e, rfl, p⟩
    · exact .inl ⟨xs, e, z, by rw [Paired.length p]; exact ok.1⟩
    · obtain ⟨w, r, rfl, h1, h2, _⟩ := ok_lenT ok
      refine .inr ⟨xs, e, by rw [Paired.length p, List.length_cons]; omega, fun x hx => ?_⟩
      obtain ⟨i, hi, ex⟩ := List.getElem_of_mem hx
      obtain ⟨d', hd, pd⟩ := pair_get p (List.getElem?_eq_some_iff.mpr ⟨hi, ex⟩)
      refine TrS.of pd ?_
      rcases List.mem_cons.mp (List.mem_of_getElem? hd) with rfl | hd
      · cases n <;> exact True.intro
      · exact h2 _ hd
def spSpoil (n : Nat) : Sp := fun vs H Q _ => ∃ (v : V) (Z : Addr → Prop) (B : Nat), vs = [v] ∧ TrS Z B H n v ∧ B + 4 ^ n ≤ 4000000 ∧ ∀ H', Spo Z (4 ^ n) H H' → Q .non H'
section
variable {P : Program} {w : World} {K : PySem.W.Frag} {mg : Str → Option Value} {base : Heap} {C : Addr} {n : Nat}
theorem sc_lcopy : FnScope ["_law_claim_here"] ["_law_claim_here"] (defScope s_l_copy) := ⟨rfl, rfl, rfl, by decide +kernel, rfl, by decide +kernel, by decide +kernel⟩
theorem ok_lcopy0 {f : Addr} {fd : FuncData} (F : Fun K "_law_copy" "_law_copy" s_l_copy f fd) (T : Txt K mg C) (ih : Can P w K mg base 0 "_law_copy" ["_law_claim_here"] spVoid) : FnOk P w K mg base CX0 1 f fd ["_law_claim_here"] (spLCopy 0) := by
  refine F.ok sc_lcopy (fun vs H Q E h => ?_) (fun cdv A outer s H vs Q E hr h => ?_)
  · obtain ⟨v, d, rfl, _⟩ := h
    rfl
  · obtain ⟨v, d, rfl, pd, ok, q⟩ := h
    have nd_0 : List.Nodup (["_law_one_here"] : List Str) := by decide +kernel
    refine ⟨_, (pss_cons (ps_if (pt_val (pe_callB call_isinst (by rfl) T.isi b_isi (pa_cons (pv 0) (pa_cons (pe_ty T.tuple (by rfl) b_tuple) pa_nil)))) (pss_one (ps_ret (pe_callTy call_tuple_of (by rfl) T.tuple b_tuple (pa_cons (pe_comp (N := ["_law_one_here"]) (xs := 1) (js := []) rfl (compScope_of rfl) (pi_tup (pv 0)) (fun _ _ _ _ => pg_name (i := 0) nd_0 rfl (Or.inl rfl)) (fun _ _ _ _ => pts_nil) (fun _ _ _ _ => pe_callC ih hr (by rfl) (pa_cons (pv 0) pa_nil))) pa_nil)))) pss_nil)
      (pss_cons (ps_if (pt_val (pe_callB call_isinst (by rfl) T.isi b_isi (pa_cons (pv 0) (pa_cons (pe_ty T.list (by rfl) b_list) pa_nil)))) (pss_one (ps_ret (pe_callTy call_list_of (by rfl) T.list b_list (pa_cons (pv 0) pa_nil)))) pss_nil)
      (pss_one (ps_ret (pv 0))))), ?_⟩
    obtain ⟨t, ty, kl, ks, kt⟩ := pd.ty3 (K := K)
    have hL : isL d = false := by cases d <;> first | rfl | exact ok.elim
    have hT : isTu d = false := by cases d <;> first | rfl | exact (ok_no0 ok).elim | exact ok.elim
    rw [hL] at kl
    rw [hT] at kt
    exact ⟨_, rfl, v, "tuple", t, _, rfl, ty, kt, _, rfl, iteF ⟨_, rfl, v, "list", t, _, rfl, ty, kl, _, rfl, iteF ⟨_, rfl, q v H (Same.refl H) pd⟩⟩⟩
theorem ok_lcopyS {f : Addr} {fd : FuncData} {k : Nat} (F : Fun K "_law_copy" "_law_copy" s_l_copy f fd) (T : Txt K mg C) (ih : Can P w K mg base k "_law_copy" ["_law_claim_here"] (spLCopy n)) : FnOk P w K mg base CX0 (k + 1) f fd ["_law_claim_here"] (spLCopy (n + 1)) := by
  refine F.ok sc_lcopy (fun vs H Q E h => ?_) (fun cdv A outer s H vs Q E hr h => ?_)
  · obtain ⟨v, d, rfl, _⟩ := h
    rfl
  · obtain ⟨v, d, rfl, pd, ok, q⟩ := h
    have nd_0 : List.Nodup (["_law_one_here"] : List Str) := by decide +kernel
    refine ⟨_, (pss_cons (ps_if (pt_val (pe_callB call_isinst (by rfl) T.isi b_isi (pa_cons (pv 0) (pa_cons (pe_ty T.tuple (by rfl) b_tuple) pa_nil)))) (pss_one (ps_ret (pe_callTy call_tuple_of (by rfl) T.tuple b_tuple (pa_cons (pe_comp (N := ["_law_one_here"]) (xs := 1) (js := []) rfl (compScope_of rfl) (pi_tup (pv 0)) (fun _ _ _ _ => pg_name (i := 0) nd_0 rfl (Or.inl rfl)) (fun _ _ _ _ => pts_nil) (fun _ _ _ _ => pe_callC ih hr (by rfl) (pa_cons (pv 0) pa_nil))) pa_nil)))) pss_nil)
      (pss_cons (ps_if (pt_val (pe_callB call_isinst (by rfl) T.isi b_isi (pa_cons (pv 0) (pa_cons (pe_ty T.list (by rfl) b_list) pa_nil)))) (pss_one (ps_ret (pe_callTy call_list_of (by rfl) T.list b_list (pa_cons (pv 0) pa_nil)))) pss_nil)
      (pss_one (ps_ret (pv 0))))), ?_⟩
    obtain ⟨t, ty, kl, ks, kt⟩ := pd.ty3 (K := K)
    refine ⟨_, rfl, v, "tuple", t, isTu d, rfl, ty, kt, _, rfl, ?_⟩
    cases hT : isTu d with
    | true =>
      obtain ⟨ds, rfl⟩ : ∃ e, d = .tuple e := by cases d <;> first | exact ⟨_, rfl⟩ | cases hT
      obtain ⟨m, a, xs, hm, rfl, ha, pr⟩ := pd.tup_of
      cases hm
      obtain ⟨o1, o2⟩ := ok_allT7 ok
      have hl := Paired.length pr
      refine iteT ⟨_, rfl, a, rfl, ⟨_, SqT.of ha⟩, comp_tup (K := K) (ys := xs) (fun i acc σ' H' => Same H H' ∧ acc.length ≤ i ∧ Paired (PD H' n) acc (ds.take i) ∧ ∃ o, σ' = [o])
        ⟨Same.refl H, Nat.le_refl _, .nil, none, rfl⟩ (fun i acc σ' H' h => h.2.1) (by rw [hl]; exact Nat.le_trans o1 (by decide)) (fun i acc σ' H' _ h => SqT.of (h.1 _ _ ha)) (fun i x acc σ' H' hx h => ?_) (fun acc σ' H' h p hp => ?_)⟩
      · obtain ⟨s1, hal, hpa, o, rfl⟩ := h
        obtain ⟨di, hd, pdi⟩ := pair_get pr hx
        refine ⟨_, rfl, x, di, rfl, pdi.same s1, o2 di (List.mem_of_getElem? hd), fun v' H2 s2 pd2 => ⟨s1.trans s2, by rw [List.length_append, List.length_singleton]; omega, ?_, _, rfl⟩⟩
        rw [List.take_add_one, hd]
        exact pd_snoc pd2 (L2.Paired.mapP hpa fun _ _ h => h.same s2)
      · obtain ⟨s1, hal, hpa, o, rfl⟩ := h
        rw [hl, List.take_length] at hpa
        have z := Same.new (o := .lst acc) hp
        refine ⟨p, acc, rfl, .inl ⟨SqL.of upd_same, fun t2 ht2 => ?_⟩⟩
        have z2 := Same.new (o := .tup acc) ht2
        exact q (.ref t2) _ ((s1.trans z).trans z2) (.inr ⟨acc, ds, upd_same, rfl, L2.Paired.mapP hpa fun _ _ h => (h.same z).same z2⟩)
    | false =>
      refine iteF ⟨_, rfl, v, "list", t, isL d, rfl, ty, kl, _, rfl, ?_⟩
      cases hL : isL d with
      | true =>
        obtain ⟨ds, rfl⟩ : ∃ e, d = .list e := by cases d <;> first | exact ⟨_, rfl⟩ | cases hL
        obtain ⟨m, a, xs, hm, rfl, ha, pr⟩ := pd.list_of
        cases hm
        refine iteT ⟨_, rfl, a, xs, rfl, .inl (SqL.of ha), fun l hl => ?_⟩
        have z := Same.new (o := .lst xs) hl
        exact q (.ref l) _ z (.inl ⟨xs, ds, upd_same, rfl, L2.Paired.mapP pr fun _ _ h => h.same z⟩)
      | false => exact iteF ⟨_, rfl, q v H (Same.refl H) pd⟩
theorem can_lcopy (hF : ∃ f fd, Fun K "_law_copy" "_law_copy" s_l_copy f fd ∧ mg "_law_copy" = some (.ref f)) (T : Txt K mg C) : ∀ n : Nat, Can P w K mg base (n + 1) "_law_copy" ["_law_claim_here"] (spLCopy n)
  | 0 => by
    obtain ⟨f, fd, F, m⟩ := id hF
    exact ⟨f, fd, ok_lcopy0 F T (can_void7 0 hF fun _ _ F => F.binds fun _ _ _ _ _ _ us hl => match us, hl with | [_], _ => rfl), m, F.kp, F.binds fun _ _ _ _ _ _ us hl => match us, hl with | [_], _ => rfl⟩
  | n + 1 => by
    obtain ⟨f, fd, F, m⟩ := id hF
    exact ⟨f, fd, ok_lcopyS F T (can_lcopy hF T n), m, F.kp, F.binds fun _ _ _ _ _ _ us hl => match us, hl with | [_], _ => rfl⟩
theorem sc_spoil : FnScope ["_law_thing", "_law_one_here"] ["_law_thing"] (defScope s_l_spoil) := ⟨rfl, rfl, rfl, by decide +kernel, rfl, by decide +kernel, by decide +kernel⟩
theorem flat_ty {K : PySem.W.Frag} {H : Hp} {v : V} (h : v = .non ∨ (∃ b, v = .bl b) ∨ (∃ i, v = .int i) ∨ ∃ x, v = .str x) : ∃ t, TyOf K H v t ∧ PySem.W.kitOne K t (.type "list") = some false ∧ PySem.W.kitOne K t (.type "tuple") = some false := by
  rcases h with rfl | ⟨b, rfl⟩ | ⟨i, rfl⟩ | ⟨x, rfl⟩
  · exact ⟨_, .non, k_n_l K, k_n_t7 K⟩
  · exact ⟨_, .bl _, k_b_l K, k_b_t7 K⟩
  · exact ⟨_, .int _, k_i_l K, k_i_t7 K⟩
  · exact ⟨_, .str _, k_s_l K, k_s_t7 K⟩
theorem ok_spoil0 {f : Addr} {fd : FuncData} (F : Fun K "_law_spoil" "_law_spoil" s_l_spoil f fd) (T : Txt K mg C) (ih : Can P w K mg base 0 "_law_spoil" ["_law_thing"] spVoid) : FnOk P w K mg base CX0 1 f fd ["_law_thing"] (spSpoil 0) := by
  refine F.ok sc_spoil (fun vs H Q E h => ?_) (fun cdv A outer s H vs Q E hr h => ?_)
  · obtain ⟨v, Z, B, rfl, _⟩ := h
    rfl
  · obtain ⟨v, Z, B, rfl, tr, hB, q⟩ := h
    refine ⟨_, (pss_cutE (ps_if (pt_val (pe_callB call_isinst (by rfl) T.isi b_isi (pa_cons (pv 0) (pa_cons (pe_ty T.tuple (by rfl) b_tuple) pa_nil)))) (pss_one (ps_for PassesOwn.never rfl (pi_tup (pv 0)) (pg_name (i := 1) sc_spoil.nd rfl (Or.inl rfl))
            (pss_one (ps_expr (pe_callC ih hr (by rfl) (pa_cons (pv 1) pa_nil)))))) pss_nil)
      (pss_one (ps_if (pt_val (pe_callB call_isinst (by rfl) T.isi b_isi (pa_cons (pv 0) (pa_cons (pe_ty T.list (by rfl) b_list) pa_nil)))) (pss_one (ps_expr (pe_bm PySem.F.plainAttrs_list PySem.F.slot_list_append PySem.F.type_list_append mt_append (pv 0) (pa_cons pe_str pa_nil)))) pss_nil))), ?_⟩
    obtain ⟨t, ty, kl, kt⟩ := flat_ty (K := K) (H := H) (v := v) (by cases v <;> first | exact tr.elim | simp)
    refine ⟨fun σ' H' => H' = H ∧ ∃ o, σ' = [some v, o], ⟨_, rfl, v, "tuple", t, _, rfl, ty, kt, _, rfl, iteF ⟨rfl, _, rfl⟩⟩, ?_⟩
    rintro _ _ ⟨rfl, o, rfl⟩
    exact ⟨_, rfl, v, "list", t, _, rfl, ty, kl, _, rfl, iteF (q _ ((Spo.refl Z _).more (by decide)))⟩
theorem ok_spoilS {f : Addr} {fd : FuncData} {k : Nat} (F : Fun K "_law_spoil" "_law_spoil" s_l_spoil f fd) (T : Txt K mg C) (ih : Can P w K mg base k "_law_spoil" ["_law_thing"] (spSpoil n)) : FnOk P w K mg base CX0 (k + 1) f fd ["_law_thing"] (spSpoil (n + 1)) := by
  refine F.ok sc_spoil (fun vs H Q E h => ?_) (fun cdv A outer s H vs Q E hr h => ?_)
  · obtain ⟨v, Z, B, rfl, _⟩ := h
    rfl
  · obtain ⟨v, Z, B, rfl, tr, hB, q⟩ := h
    refine ⟨_, (pss_cutE (ps_if (pt_val (pe_callB call_isinst (by rfl) T.isi b_isi (pa_cons (pv 0) (pa_cons (pe_ty T.tuple (by rfl) b_tuple) pa_nil)))) (pss_one (ps_for PassesOwn.never rfl (pi_tup (pv 0)) (pg_name (i := 1) sc_spoil.nd rfl (Or.inl rfl))
            (pss_one (ps_expr (pe_callC ih hr (by rfl) (pa_cons (pv 1) pa_nil)))))) pss_nil)
      (pss_one (ps_if (pt_val (pe_callB call_isinst (by rfl) T.isi b_isi (pa_cons (pv 0) (pa_cons (pe_ty T.list (by rfl) b_list) pa_nil)))) (pss_one (ps_expr (pe_bm PySem.F.plainAttrs_list PySem.F.slot_list_append PySem.F.type_list_append mt_append (pv 0) (pa_cons pe_str pa_nil)))) pss_nil))), ?_⟩
    have hp4 : 4 ^ (n + 1) = 4 ^ n * 4 := Nat.pow_succ _ _
    have h1 : 1 ≤ 4 ^ n := Nat.one_le_pow _ _ (by decide)
    by_cases hv : v = .non ∨ (∃ b, v = .bl b) ∨ (∃ i, v = .int i) ∨ ∃ x, v = .str x
    · obtain ⟨t, ty, kl, kt⟩ := flat_ty (K := K) (H := H) hv
      refine ⟨fun σ' H' => H' = H ∧ ∃ o, σ' = [some v, o], ⟨_, rfl, v, "tuple", t, _, rfl, ty, kt, _, rfl, iteF ⟨rfl, _, rfl⟩⟩, ?_⟩
      rintro _ _ ⟨rfl, o, rfl⟩
      exact ⟨_, rfl, v, "list", t, _, rfl, ty, kl, _, rfl, iteF (q _ ((Spo.refl Z _).more (by omega)))⟩
    · obtain ⟨a, rfl⟩ : ∃ a, v = .ref a := by cases v <;> first | exact ⟨_, rfl⟩ | exact tr.elim | exact absurd (by simp) hv
      rcases tr with ⟨xs, e, z, l⟩ | ⟨xs, e, l, p⟩
      · have ty : TyOf K H (.ref a) (.type "list") := .lst e
        refine ⟨fun σ' H' => H' = H ∧ ∃ o, σ' = [some (.ref a), o], ⟨_, rfl, _, "tuple", _, _, rfl, ty, k_l_t7 K, _, rfl, iteF ⟨rfl, _, rfl⟩⟩, ?_⟩
        rintro _ _ ⟨rfl, o, rfl⟩
        refine ⟨_, rfl, _, "list", _, true, rfl, ty, rfl, _, rfl, iteT ⟨_, rfl, .inl ⟨rfl, _, SqL.of e⟩, a, _, _, rfl, rfl, e, ?_, ?_⟩⟩
        · exact Nat.lt_of_le_of_lt (Nat.le_trans l (by omega : B ≤ 4000000)) (by decide)
        · exact q _ ((Spo.app e z).more (by omega))
      · have ty : TyOf K H (.ref a) (.type "tuple") := .tup e
        refine ⟨fun σ' H' => Spo Z (4 ^ (n + 1)) H H' ∧ ∃ o, σ' = [some (.ref a), o], ?_, ?_⟩
        · refine ⟨_, rfl, _, "tuple", _, _, rfl, ty, k_t_t7 K, _, rfl, iteT ⟨_, rfl, a, rfl, ⟨_, SqT.of e⟩, for_tup (K := K) (a := a) (xs := xs) (fun i σ' H' => i ≤ xs.length ∧ Spo Z (i * 4 ^ n) H H' ∧ ∃ o, σ' = [some (.ref a), o])
            ⟨Nat.zero_le _, by rw [Nat.zero_mul]; exact Spo.refl Z H, none, rfl⟩ (fun i σ' H' _ h => SqT.of (h.2.1.oth _ _ e (fun _ z => nomatch z))) (fun i x σ' H' hx h => ?_) (fun σ' H' h => ?_)⟩⟩
          · obtain ⟨hi, sp, o, rfl⟩ := h
            have hi' : i < xs.length := (List.getElem?_eq_some_iff.mp hx).1
            have mi : i * 4 ^ n ≤ 3 * 4 ^ n := Nat.mul_le_mul_right _ (by omega)
            refine ⟨_, rfl, x, Z, B + i * 4 ^ n, rfl, (p x (List.mem_of_getElem? hx)).spo sp, by omega, fun H2 s2 => ⟨by omega, ?_, _, rfl⟩⟩
            rw [Nat.add_mul, Nat.one_mul]
            exact sp.trans s2
          · obtain ⟨_, sp, o, rfl⟩ := h
            have : xs.length * 4 ^ n ≤ 4 * 4 ^ n := Nat.mul_le_mul_right _ l
            exact ⟨sp.more (by omega), _, rfl⟩
        · rintro _ H1 ⟨sp, o, rfl⟩
          have ty1 : TyOf K H1 (.ref a) (.type "tuple") := .tup (sp.oth _ _ e (fun _ z => nomatch z))
          exact ⟨_, rfl, _, "list", _, _, rfl, ty1, k_t_l K, _, rfl, iteF (q _ sp)⟩
theorem can_spoil (hF : ∃ f fd, Fun K "_law_spoil" "_law_spoil" s_l_spoil f fd ∧ mg "_law_spoil" = some (.ref f)) (T : Txt K mg C) : ∀ n : Nat, Can P w K mg base (n + 1) "_law_spoil" ["_law_thing"] (spSpoil n)
  | 0 => by
    obtain ⟨f, fd, F, m⟩ := id hF
    exact ⟨f, fd, ok_spoil0 F T (can_void7 0 hF fun _ _ F => F.binds fun _ _ _ _ _ _ us hl => match us, hl with | [_], _ => rfl), m, F.kp, F.binds fun _ _ _ _ _ _ us hl => match us, hl with | [_], _ => rfl⟩
  | n + 1 => by
    obtain ⟨f, fd, F, m⟩ := id hF
    exact ⟨f, fd, ok_spoilS F T (can_spoil hF T n), m, F.kp, F.binds fun _ _ _ _ _ _ us hl => match us, hl with | [_], _ => rfl⟩
end
end Net

namespace L2
open PySem PySem.Spec PyProof.Rows
theorem ps_imp {X : Cx} {st : Stmt} {t t' : TS} (h : PS X st t) (k : ∀ D σ H, t' D σ H → t D σ H) : PS X st t' := fun pins s σ H D I q => h pins s σ H D I (k D σ H q)
end L2
namespace Net
open PySem L2
/-! ### the law's own putting in -/
def spLPut (n : Nat) : Sp := fun vs H Q _ => ∃ (Z : Addr → Prop) (v : V) (d : PyData) (p : Str), vs = [v, .str p] ∧ PDF Z H n v d ∧ okD n d ∧ (isL d || isTu d) = true ∧ PyData.strOk p = true ∧ ∀ v' H', Same H H' → PDF (fun q => Z q ∨ H q = none) H' n v' (putD "X" p n d) → Q v' H'
theorem PDF.tup_of {Z : Addr → Prop} {H : Hp} {n : Nat} {v : V} {ds : List PyData} (h : PDF Z H n v (.tuple ds)) : ∃ m a xs, n = m + 1 ∧ v = .ref a ∧ H a = some (.tup xs) ∧ Paired (PDF Z H m) xs ds := by
  cases n with
  | zero => cases v <;> first | exact h.elim | cases (show PyData.tuple ds = _ from h) | cases h.2
  | succ n =>
    cases v <;> first | exact h.elim | cases (show PyData.tuple ds = _ from h) | cases h.2 | skip
    rcases h with ⟨xs, ds', e1, _, e2, p⟩ | ⟨xs, ds', e1, e2, p⟩
    · cases e2
    · cases e2; exact ⟨n, _, xs, rfl, rfl, e1, p⟩
theorem PDF.list_of {Z : Addr → Prop} {H : Hp} {n : Nat} {v : V} {ds : List PyData} (h : PDF Z H n v (.list ds)) : ∃ m a xs, n = m + 1 ∧ v = .ref a ∧ H a = some (.lst xs) ∧ Z a ∧ Paired (PDF Z H m) xs ds := by
  cases n with
  | zero => cases v <;> first | exact h.elim | cases (show PyData.list ds = _ from h) | cases h.2
  | succ n =>
    cases v <;> first | exact h.elim | cases (show PyData.list ds = _ from h) | cases h.2 | skip
    rcases h with ⟨xs, ds', e1, e0, e2, p⟩ | ⟨xs, ds', e1, e2, p⟩
    · cases e2; exact ⟨n, _, xs, rfl, rfl, e1, e0, p⟩
    · cases e2
theorem PDF.put {Z : Addr → Prop} {H : Hp} {fl : Addr} {ys zs : List V} (hz : ¬ Z fl) (hf : H fl = some (.lst ys)) : ∀ {n : Nat} {v : V} {d : PyData}, PDF Z H n v d → PDF Z (upd H fl (.lst zs)) n v d
  | 0, v, d, h => by cases v <;> first | exact h | exact h.elim
  | n + 1, v, d, h => by
    cases v <;> first | exact h | exact h.elim | skip
    rcases h with ⟨xs, ds, e, f, e2, p⟩ | ⟨xs, ds, e, e2, p⟩
    · exact .inl ⟨xs, ds, by rw [upd_ne fun z => hz (by rw [← z]; exact f)]; exact e, f, e2, L2.Paired.mapP p fun _ _ h => PDF.put hz hf h⟩
    · exact .inr ⟨xs, ds, by rw [upd_ne fun z => by rw [z, hf] at e; cases e]; exact e, e2, L2.Paired.mapP p fun _ _ h => PDF.put hz hf h⟩
theorem PDF.here {Z : Addr → Prop} {H : Hp} : ∀ {n : Nat} {v : V} {d : PyData}, PDF Z H n v d → PDF (fun q => Z q ∧ H q ≠ none) H n v d
  | 0, v, d, h => by cases v <;> first | exact h | exact h.elim
  | n + 1, v, d, h => by
    cases v <;> first | exact h | exact h.elim | skip
    rcases h with ⟨xs, ds, e, f, e2, p⟩ | ⟨xs, ds, e, e2, p⟩
    · exact .inl ⟨xs, ds, e, ⟨f, by rw [e]; simp⟩, e2, L2.Paired.mapP p fun _ _ h => PDF.here h⟩
    · exact .inr ⟨xs, ds, e, e2, L2.Paired.mapP p fun _ _ h => PDF.here h⟩
theorem eqv_str7 (x y : Str) : PyData.eqv (.str x) (.str y) = decide (x = y) := by
  by_cases h : x = y
  · subst h; simp [PyData.eqv]
  · simp [PyData.eqv, h]
theorem okD_kind {n : Nat} {d : PyData} (h : okD n d) : (∃ x, d = .str x) ∨ (∃ z, d = .int z) ∨ isL d = true ∨ isTu d = true := by
  cases n <;> cases d <;> first | exact .inl ⟨_, rfl⟩ | exact .inr (.inl ⟨_, rfl⟩) | exact .inr (.inr (.inl rfl)) | exact .inr (.inr (.inr rfl)) | exact h.elim
theorem pd_int {H : Hp} {n : Nat} {v : V} {i : Int} (h : PD H n v (.int i)) : v = .int i := by
  cases n with
  | zero => cases v <;> first | exact h.elim | (have := (show PyData.int i = _ from h); cases this; done) | (have := (show PyData.int i = _ from h); cases this; rfl) | (cases h.2; done)
  | succ n =>
    cases v <;> first | exact h.elim | (have := (show PyData.int i = _ from h); cases this; done) | (have := (show PyData.int i = _ from h); cases this; rfl) | (cases h.2; done) | skip
    rcases h with ⟨xs, ds, e1, e2, p⟩ | ⟨xs, ds, e1, e2, p⟩ <;> cases e2
/-- what becomes of a tuple's part -/
def fstX : List PyData → Bool
  | .str x :: _ => decide (x = "X")
  | _ => false
def gPut (w : Str) (r : List PyData) (p : Str) (n i : Nat) (d : PyData) : PyData := if evB w = true ∧ i = 0 then d else if evB w = true ∧ i = 2 ∧ fstX r = true then d else putD "X" p n d
theorem g_pl {w : Str} {r : List PyData} {p : Str} {n i : Nat} {d : PyData} (h : evB w = false) : gPut w r p n i d = putD "X" p n d := by
  unfold gPut
  rw [if_neg (by rw [h]; simp), if_neg (by rw [h]; simp)]
theorem g_0 {w : Str} {r : List PyData} {p : Str} {n i : Nat} {d : PyData} (h : evB w = true) (hi : i = 0) : gPut w r p n i d = d := by
  unfold gPut
  rw [if_pos ⟨h, hi⟩]
theorem g_2 {w x : Str} {k c : PyData} {p : Str} {n i : Nat} {d : PyData} (h : evB w = true) (hi : i = 2) (hx : x = "X") : gPut w [.str x, k, c] p n i d = d := by
  unfold gPut
  rw [if_neg (by omega), if_pos ⟨h, hi, decide_eq_true hx⟩]
theorem g_n2 {w x : Str} {k c : PyData} {p : Str} {n i : Nat} {d : PyData} (h : evB w = true) (hi : i = 2) (hx : ¬ x = "X") : gPut w [.str x, k, c] p n i d = putD "X" p n d := by
  unfold gPut
  rw [if_neg (by omega), if_neg (fun z => hx (of_decide_eq_true z.2.2))]
theorem g_n {w : Str} {r : List PyData} {p : Str} {n i : Nat} {d : PyData} (h1 : i ≠ 0) (h2 : i ≠ 2) : gPut w r p n i d = putD "X" p n d := by
  unfold gPut
  rw [if_neg (by omega), if_neg (by omega)]
theorem put_idx {w : Str} {r : List PyData} {p : Str} {n : Nat} (o3 : evB w = true → ∃ x k c, r = [.str x, k, c]) : putD "X" p (n + 1) (.tuple (.str w :: r)) = .tuple (.str w :: r.mapIdx (gPut w r p n)) := by
  cases he : evB w with
  | false =>
    rw [put_pl he]
    congr 2
    apply List.ext_getElem?
    intro i
    rw [List.getElem?_map, List.getElem?_mapIdx]
    cases r[i]? with
    | none => rfl
    | some d => exact congrArg some (g_pl he).symm
  | true =>
    obtain ⟨x, k, c, rfl⟩ := o3 he
    rw [put_ev he]
    congr 2
    show _ = [gPut w _ p n 0 (.str x), gPut w _ p n 1 k, gPut w _ p n 2 c]
    rw [g_0 he rfl, g_n (by decide) (by decide)]
    by_cases hx : x = "X"
    · rw [if_pos hx, g_2 he rfl hx]
    · rw [if_neg hx, g_n2 he rfl hx]
theorem int_V (x y : Int) : decide (V.int x = V.int y) = decide (x = y) := by
  by_cases h : x = y
  · rw [h, decide_eq_true rfl, decide_eq_true rfl]
  · rw [decide_eq_false h, decide_eq_false (fun z => h (V.int.inj z))]
theorem in_ev (w : Str) : inV (.str w) [.str "each", .str "some"] = evB w := by
  have h := inV_str w ["each", "some"]
  rw [show ([("each" : Str), "some"].map V.str) = [.str "each", .str "some"] from rfl] at h
  rw [h]
  unfold evB
  rw [Bool.eq_iff_iff]
  simp
section
variable {P : Program} {w : World} {K : PySem.W.Frag} {mg : Str → Option Value} {base : Heap} {C : Addr} {n : Nat}
theorem can_voidG {nm : Str} {st : Stmt} {ps : List Str} {sp : Sp} (k : Nat) (hF : ∃ f fd, Fun K nm nm st f fd ∧ mg nm = some (.ref f)) (hb : ∀ f fd, Fun K nm nm st f fd → Binds K fd ps []) (h : ∀ vs H Q E, sp vs H Q E → False) : Can P w K mg base k nm ps sp := by
  obtain ⟨f, fd, F, m⟩ := hF
  exact ⟨f, fd, ⟨fun vs H Q E z => (h vs H Q E z).elim, fun A outer s H args us vs Q E _ _ _ _ z => (h vs H Q E z).elim⟩, m, F.kp, hb f fd F⟩
abbrev Nlput : List Str := ["_law_thing", "_law_place", "_law_found", "_law_k", "_law_one_here"]
theorem sc_lput : FnScope Nlput ["_law_thing", "_law_place"] (defScope s_l_put) := ⟨rfl, rfl, rfl, by decide +kernel, rfl, by decide +kernel, by decide +kernel⟩
/-- one part -/
def tPut1 (n : Nat) : TS := fun D σ H => ∃ (Z : Addr → Prop) (v : V) (fl : Addr) (acc : List V) (i : Int) (y : V) (di : PyData) (p : Str), σ = [some v, some (.str p), some (.ref fl), some (.int i), some y] ∧ H fl = some (.lst acc) ∧ acc.length ≤ 10 ∧ PDF Z H n y di ∧ ¬ Z fl ∧ okD n di ∧ PyData.strOk p = true ∧
  ∀ y' H2, Same H H2 → PDF (fun q => Z q ∨ H q = none) H2 n y' (putD "X" p n di) → D.nx σ (upd H2 fl (.lst (acc ++ [y'])))
theorem ok_lputS {f : Addr} {fd : FuncData} {k : Nat} (F : Fun K "_law_put" "_law_put" s_l_put f fd) (T : Txt K mg C) (TM : TxtM mg) (ih : Can P w K mg base k "_law_put" ["_law_thing", "_law_place"] (spLPut n)) : FnOk P w K mg base CX0 (k + 1) f fd ["_law_thing", "_law_place"] (spLPut (n + 1)) := by
  refine F.ok sc_lput (fun vs H Q E h => ?_) (fun cdv A outer s H vs Q E hr h => ?_)
  · obtain ⟨Z, v, d, p, rfl, _⟩ := h
    rfl
  · obtain ⟨Z, v, d, p, rfl, pf, ok, hlt, hp, q⟩ := h
    have nd_0 : List.Nodup (["_law_one_here", "_law_place"] : List Str) := by decide +kernel
    refine ⟨_, (pss_cons (ps_if (pt_val (pe_callB call_isinst (by rfl) T.isi b_isi (pa_cons (pv 0) (pa_cons (pe_ty T.list (by rfl) b_list) pa_nil)))) (pss_one (ps_ret (pe_comp (N := ["_law_one_here", "_law_place"]) (xs := 1) (js := [1]) rfl (compScope_of rfl) (pi_list (pv 0)) (fun _ _ _ _ => pg_name (i := 0) nd_0 rfl (Or.inl rfl)) (fun _ _ _ _ => pts_nil) (fun _ _ _ _ => pe_ifExp (pt_cmpR op_eq (pv 0) pe_str (nomark _)) (pv 1) (pv 0))))) pss_nil)
      (pss_cons (ps_set (i := 2) sc_lput.nd rfl (Or.inl rfl) (pe_lst (pa_cons (pe_ix ix_tup (pv 0) pe_int (fun _ _ => by rfl)) pa_nil)))
      (pss_cons (ps_for PassesOwn.never rfl (pi_enumT rfl TM.enum (pa_cons (pe_slice sl_tup (pv 0) (po_some pe_int) po_none) pa_nil)) (pg_tup rfl (pgs_cons (pg_name (i := 3) sc_lput.nd rfl (Or.inl rfl)) (pgs_cons (pg_name (i := 4) sc_lput.nd rfl (Or.inl rfl)) pgs_nil)))
          (pss_one (ps_if (PW.pt (pw_and (pt_cmpR op_in_seq (pe_ix ix_tup (pv 0) pe_int (fun _ _ => by rfl)) (pe_tup (pa_cons pe_str (pa_cons pe_str pa_nil))) (by with_unfolding_all rfl)) (pw_and1 (pt_cmpR op_eq (pv 3) pe_int (nomark _))))) (pss_one (ps_expr (pe_bm PySem.F.plainAttrs_list PySem.F.slot_list_append PySem.F.type_list_append mt_append (pv 2) (pa_cons (pv 4) pa_nil)))) (pss_one (ps_if (PW.pt (pw_and (pt_cmpR op_in_seq (pe_ix ix_tup (pv 0) pe_int (fun _ _ => by rfl)) (pe_tup (pa_cons pe_str (pa_cons pe_str pa_nil))) (by with_unfolding_all rfl)) (pw_and (pt_cmpR op_eq (pv 3) pe_int (nomark _)) (pw_and1 (pt_cmpR op_eq (pe_ix ix_tup (pv 0) pe_int (fun _ _ => by rfl)) pe_str (nomark _)))))) (pss_one (ps_expr (pe_bm PySem.F.plainAttrs_list PySem.F.slot_list_append PySem.F.type_list_append mt_append (pv 2) (pa_cons (pv 4) pa_nil)))) (pss_one (ps_imp (t' := tPut1 n) (ps_if (PW.pt (pw_or (pt_val (pe_callB call_isinst (by rfl) T.isi b_isi (pa_cons (pv 4) (pa_cons (pe_ty T.tuple (by rfl) b_tuple) pa_nil)))) (pw_or1 (pt_val (pe_callB call_isinst (by rfl) T.isi b_isi (pa_cons (pv 4) (pa_cons (pe_ty T.list (by rfl) b_list) pa_nil))))))) (pss_one (ps_expr (pe_bm PySem.F.plainAttrs_list PySem.F.slot_list_append PySem.F.type_list_append mt_append (pv 2) (pa_cons (pe_callC ih hr (by rfl) (pa_cons (pv 4) (pa_cons (pv 1) pa_nil))) pa_nil)))) (pss_one (ps_expr (pe_bm PySem.F.plainAttrs_list PySem.F.slot_list_append PySem.F.type_list_append mt_append (pv 2) (pa_cons (pe_ifExp (pt_cmpR (op_eqD hr.units) (pv 4) pe_str (nomark _)) (pv 1) (pv 4)) pa_nil))))) (fun D σ H h => ?_))))))))
      (pss_one (ps_ret (pe_callTy call_tuple_of (by rfl) T.tuple b_tuple (pa_cons (pv 2) pa_nil))))))), ?_⟩
    · obtain ⟨Z, v, fl, acc, i, y, di, p, rfl, hf, hal, pf, nz, ok, hp, q⟩ := h
      obtain ⟨t, ty, kl, ks, kt⟩ := pf.pd.ty3 (K := K)
      have sz : acc.length < sizeLine := Nat.lt_of_le_of_lt hal (by decide)
      refine ⟨_, rfl, y, "tuple", t, isTu di, rfl, ty, kt, _, rfl, ?_⟩
      cases hT : isTu di with
      | true => exact iteT ⟨_, rfl, .inl ⟨rfl, _, SqL.of hf⟩, _, rfl, _, rfl, Z, y, di, p, rfl, pf, ok, by rw [hT, Bool.or_true], hp, fun y' H2 s2 pf2 => ⟨fl, _, _, rfl, rfl, s2 _ _ hf, sz, q y' H2 s2 pf2⟩⟩
      | false =>
        refine iteF ⟨_, rfl, y, "list", t, isL di, rfl, ty, kl, _, rfl, ?_⟩
        cases hL : isL di with
        | true => exact iteT ⟨_, rfl, .inl ⟨rfl, _, SqL.of hf⟩, _, rfl, _, rfl, Z, y, di, p, rfl, pf, ok, by rw [hL, Bool.true_or], hp, fun y' H2 s2 pf2 => ⟨fl, _, _, rfl, rfl, s2 _ _ hf, sz, q y' H2 s2 pf2⟩⟩
        | false =>
          have pfw : ∀ {y' : V} {d' : PyData}, PDF Z H n y' d' → PDF (fun q => Z q ∨ H q = none) H n y' d' := fun h => h.weak fun _ z => .inl z
          rcases okD_kind ok with ⟨z, rfl⟩ | ⟨z, rfl⟩ | e | e
          · have := pf.pd.str_is
            subst this
            refine iteF ⟨_, rfl, .inl ⟨rfl, _, SqL.of hf⟩, _, rfl, 0, .str z, .str "X", by decide, ⟨pf.pd.strOk, rfl⟩, ⟨by decide +kernel, rfl⟩, _, rfl, ?_⟩
            show if PyData.eqv (.str z) (.str "X") = true then _ else _
            rw [eqv_str7]
            by_cases hb : z = "X"
            · refine iteTb (decide_eq_true hb) ⟨_, rfl, fl, _, _, rfl, rfl, hf, sz, q (.str p) H (Same.refl H) ?_⟩
              rw [put_str, if_pos hb]
              exact pf_str hp
            · refine iteFb (decide_eq_false hb) ⟨_, rfl, fl, _, _, rfl, rfl, hf, sz, q (.str z) H (Same.refl H) ?_⟩
              rw [put_str, if_neg hb]
              exact pfw pf
          · have := pd_int pf.pd
            subst this
            refine iteF ⟨_, rfl, .inl ⟨rfl, _, SqL.of hf⟩, _, rfl, 0, .int z, .str "X", by decide, rfl, ⟨by decide +kernel, rfl⟩, _, rfl, ?_⟩
            show if PyData.eqv (.int z) (.str "X") = true then _ else _
            refine iteFb (by simp [PyData.eqv]) ⟨_, rfl, fl, _, _, rfl, rfl, hf, sz, q (.int z) H (Same.refl H) ?_⟩
            have e : putD "X" p n (.int z) = .int z := by cases n <;> rfl
            rw [e]
            exact pfw pf
          · rw [hL] at e; cases e
          · rw [hT] at e; cases e
    · obtain ⟨t, ty, kl, ks, kt⟩ := pf.pd.ty3 (K := K)
      refine ⟨_, rfl, v, "list", t, isL d, rfl, ty, kl, _, rfl, ?_⟩
      rcases Bool.or_eq_true_iff.mp hlt with el | el
      · obtain ⟨ds, rfl⟩ : ∃ e, d = .list e := by cases d <;> first | exact ⟨_, rfl⟩ | cases el
        obtain ⟨m, a, xs, hm, rfl, ha, hz, pr⟩ := pf.list_of
        cases hm
        obtain ⟨o1, o2⟩ := ok
        have hl := Paired.length pr
        refine iteT ⟨_, rfl, a, rfl, ⟨_, SqL.of ha⟩, comp_list (K := K) (ys := xs) (fun i acc σ' H' => H' = H ∧ acc.length ≤ i ∧ Paired (PDF (fun q => Z q ∨ H q = none) H n) acc ((ds.map (putD "X" p n)).take i) ∧ ∃ o, σ' = [o, some (.str p)])
          ⟨rfl, Nat.le_refl _, .nil, none, rfl⟩ (fun i acc σ' H' h => h.2.1) (by rw [hl]; exact Nat.le_trans o1 (by decide)) (fun i acc σ' H' _ h => by rw [h.1]; exact SqL.of ha) (fun i y acc σ' H' hx h => ?_) (fun acc σ' H' h b hb => ?_)⟩
        · obtain ⟨rfl, hal, hpa, o, rfl⟩ := h
          obtain ⟨di, hd, pdi⟩ := pair_get pr hx
          obtain ⟨z, rfl⟩ := o2 di (List.mem_of_getElem? hd)
          have := pdi.pd.str_is
          subst this
          refine ⟨_, rfl, rfl, _, rfl, ?_⟩
          rw [eq_V, List.take_add_one, List.getElem?_map, hd]
          by_cases hb : z = "X"
          · refine iteTb (decide_eq_true hb) ⟨_, rfl, rfl, by rw [List.length_append, List.length_singleton]; omega, pf_snoc ?_ hpa, _, rfl⟩
            rw [put_str, if_pos hb]
            exact pf_str hp
          · refine iteFb (decide_eq_false hb) ⟨_, rfl, rfl, by rw [List.length_append, List.length_singleton]; omega, pf_snoc ?_ hpa, _, rfl⟩
            rw [put_str, if_neg hb]
            exact pf_str pdi.pd.strOk
        · obtain ⟨rfl, hal, hpa, o, rfl⟩ := h
          rw [hl, ← List.length_map (f := putD "X" p n), List.take_length] at hpa
          have z := Same.new (o := .lst acc) hb
          exact q (.ref b) _ z (.inl ⟨acc, _, upd_same, .inr hb, rfl, L2.Paired.mapP hpa fun _ _ h => h.same z⟩)
      · obtain ⟨ds, rfl⟩ : ∃ e, d = .tuple e := by cases d <;> first | exact ⟨_, rfl⟩ | cases el
        obtain ⟨m, a, xs, hm, rfl, ha, pr⟩ := pf.tup_of
        cases hm
        obtain ⟨w, r, rfl, o1, o2, o3⟩ := ok_lenT ok
        cases pr with
        | cons p1 pr =>
          rename_i v1 xs
          have := p1.pd.str_is
          subst this
          have h0 : atI (V.str w :: xs) 0 = some (.str w) := atI_nat (j := 0) rfl
          have hl := Paired.length pr
          rw [put_idx o3] at q
          refine iteF ⟨_, rfl, a, _, _, .str w, rfl, rfl, SqT.of ha, h0, (by show 1 ≤ sizeLine; decide), fun fl hfl => ?_⟩
          have s1 := Same.new (o := .lst [.str w]) hfl
          refine ⟨_, rfl, _, rfl, a, _, rfl, SqT.of (s1 _ _ ha), cut1_not, fun t2 ht2 => ?_⟩
          rw [cut1]
          have s2 := s1.upd (o := .tup xs) ht2
          have e1 : (upd (upd H fl (.lst [.str w])) t2 (.tup xs)) fl = some (.lst [.str w]) := by
            rw [upd_ne (ne_of_none upd_same ht2)]
            exact upd_same
          have e2 : (upd (upd H fl (.lst [.str w])) t2 (.tup xs)) t2 = some (.tup xs) := upd_same
          have n2 : t2 ≠ fl := fun z => by rw [z, upd_same] at ht2; cases ht2
          generalize upd (upd H fl (.lst [.str w])) t2 (.tup xs) = H2 at s2 e1 e2
          have nz : ¬ ((Z fl ∨ H fl = none) ∧ fl ≠ fl) := fun z => z.2 rfl
          refine ⟨t2, rfl, ⟨_, SqT.of e2⟩, for_enumT (K := K) (a := t2) (xs := xs) (fun i σ' H' => i ≤ xs.length ∧ Same H H' ∧ H' t2 = some (.tup xs) ∧ (∃ acc, H' fl = some (.lst (.str w :: acc)) ∧ acc.length ≤ i ∧ Paired (PDF (fun q => (Z q ∨ H q = none) ∧ q ≠ fl) H' n) acc ((r.mapIdx (gPut w r p n)).take i)) ∧ ∃ o3 o4, σ' = [some (.ref a), some (.str p), some (.ref fl), o3, o4])
            ⟨Nat.zero_le _, s2, e2, ⟨[], e1, Nat.le_refl _, .nil⟩, none, none, rfl⟩ (fun i σ' H' _ h => SqT.of h.2.2.1) (fun i y σ' H' tt hy h htt => ?_) (fun σ' H' h => ?_)⟩
          · obtain ⟨hi, sH, eT, ⟨acc, eF, hal, hpa⟩, o3', o4', rfl⟩ := h
            obtain ⟨di, hd, pdi⟩ := pair_get pr hy
            have hi' : i < xs.length := (List.getElem?_eq_some_iff.mp hy).1
            have okd := o2 di (List.mem_of_getElem? hd)
            have fin : ∀ (H6 : Hp) (y' : V) (o3 o4 : Option V), Same H' H6 → PDF (fun q => (Z q ∨ H q = none) ∧ q ≠ fl) H6 n y' (gPut w r p n i di) →
                (i + 1 ≤ xs.length ∧ Same H (upd H6 fl (.lst ((.str w :: acc) ++ [y']))) ∧ (upd H6 fl (.lst ((.str w :: acc) ++ [y']))) t2 = some (.tup xs) ∧ (∃ acc', (upd H6 fl (.lst ((.str w :: acc) ++ [y']))) fl = some (.lst (.str w :: acc')) ∧ acc'.length ≤ i + 1 ∧ Paired (PDF (fun q => (Z q ∨ H q = none) ∧ q ≠ fl) (upd H6 fl (.lst ((.str w :: acc) ++ [y']))) n) acc' ((r.mapIdx (gPut w r p n)).take (i + 1))) ∧ ∃ o3' o4', [some (V.ref a), some (.str p), some (.ref fl), o3, o4] = [some (.ref a), some (.str p), some (.ref fl), o3', o4']) := fun H6 y' o3 o4 s6 pf' => by
              refine ⟨by omega, fun b ob e => ?_, ?_, ⟨acc ++ [y'], upd_same, by rw [List.length_append, List.length_singleton]; omega, ?_⟩, _, _, rfl⟩
              · rw [upd_ne (ne_of_none e hfl)]
                exact s6 _ _ (sH _ _ e)
              · rw [upd_ne n2]
                exact s6 _ _ eT
              · rw [List.take_add_one, List.getElem?_mapIdx, hd]
                exact pf_snoc (pf'.put nz (s6 _ _ eF)) (L2.Paired.mapP hpa fun _ _ h => (h.same s6).put nz (s6 _ _ eF))
            have y0 : ∀ (H6 : Hp), Same H' H6 → PDF (fun q => Z q ∧ H q ≠ none) H6 n y di := fun H6 s6 => (pdi.here.same sH).same s6
            have toZ : ∀ (q : Addr), (Z q ∧ H q ≠ none) → (Z q ∨ H q = none) ∧ q ≠ fl := fun q z => ⟨.inl z.1, fun e => z.2 (by rw [e]; exact hfl)⟩
            have same_y : ∀ (H6 : Hp), Same H' H6 → PDF (fun q => (Z q ∨ H q = none) ∧ q ≠ fl) H6 n y di := fun H6 s6 => (y0 H6 s6).weak toZ
            have szA : (V.str w :: acc).length < sizeLine := Nat.lt_of_le_of_lt (by rw [List.length_cons]; omega : _ ≤ 10) (by decide)
            have tail : ∀ (H6 : Hp) (o3 : Int) (D : Ends), Same H' H6 → gPut w r p n i di = putD "X" p n di → (∀ (H7 : Hp) (y' : V), Same H' H7 → PDF (fun q => (Z q ∨ H q = none) ∧ q ≠ fl) H7 n y' (gPut w r p n i di) → D.nx [some (.ref a), some (.str p), some (.ref fl), some (.int o3), some y] (upd H7 fl (.lst ((.str w :: acc) ++ [y'])))) → tPut1 n D [some (.ref a), some (.str p), some (.ref fl), some (.int o3), some y] H6 := fun H6 o3 D s6 eg k => by
              refine ⟨fun q => Z q ∧ H q ≠ none, _, fl, _, _, y, di, p, rfl, s6 _ _ eF, by rw [List.length_cons]; omega, y0 H6 s6, fun z => z.2 hfl, okd, hp, fun y' H7 s7 pf7 => k H7 y' (s6.trans s7) ?_⟩
              rw [eg]
              refine pf7.weak fun q z => ?_
              rcases z with z | z
              · exact toZ q z
              · exact ⟨.inr ((sH.trans s6).free z), fun e => by rw [e, s6 _ _ eF] at z; cases z⟩
            have s5 := Same.new (o := .tup [.int i, y]) htt
            refine ⟨tt, _, rfl, SqT.of upd_same, rfl, _, _, rfl, _, _, rfl, rfl, ?_⟩
            have ha5 := s5 _ _ (sH _ _ ha)
            refine ⟨_, rfl, a, _, _, .str w, rfl, rfl, SqT.of ha5, h0, (by show 2 ≤ sizeLine; decide), fun t3 ht3 => ⟨t3, _, rfl, .inr (SqT.of upd_same), rfl, rfl, _, rfl, ?_⟩⟩
            show if (if false = true then !inV (.str w) [.str "each", .str "some"] else inV (.str w) [.str "each", .str "some"]) = true then _ else _
            rw [show (if false = true then !inV (.str w) [.str "each", .str "some"] else inV (.str w) [.str "each", .str "some"]) = evB w from in_ev w]
            have s6 := s5.upd (o := .tup [.str "each", .str "some"]) ht3
            have ha6 := s6 _ _ (sH _ _ ha)
            have eF6 := s6 _ _ eF
            generalize upd (upd H' tt (.tup [.int i, y])) t3 (.tup [.str "each", .str "some"]) = H6 at s6 ha6 eF6
            cases he : evB w with
            | false =>
              refine iteF ⟨_, rfl, a, _, _, .str w, rfl, rfl, SqT.of ha6, h0, (by show 2 ≤ sizeLine; decide), fun t4 ht4 => ⟨t4, _, rfl, .inr (SqT.of upd_same), rfl, rfl, _, rfl, ?_⟩⟩
              show if (if false = true then !inV (.str w) [.str "each", .str "some"] else inV (.str w) [.str "each", .str "some"]) = true then _ else _
              rw [show (if false = true then !inV (.str w) [.str "each", .str "some"] else inV (.str w) [.str "each", .str "some"]) = evB w from in_ev w]
              refine iteFb he (tail _ _ _ (s6.upd ht4) (g_pl he) fun H7 y' s7 pf7 => fin H7 y' _ _ s7 pf7)
            | true =>
              obtain ⟨x, kd, c, rfl⟩ := o3 he
              refine iteT ⟨_, rfl, rfl, _, rfl, ?_⟩
              rw [int_V]
              by_cases hi0 : (i : Int) = 0
              · refine iteTb (decide_eq_true hi0) ⟨_, rfl, .inl ⟨rfl, _, SqL.of eF6⟩, _, rfl, fl, _, _, rfl, rfl, eF6, szA, fin H6 y _ _ s6 ?_⟩
                rw [g_0 he (by omega)]
                exact same_y H6 s6
              · refine iteFb (decide_eq_false hi0) ⟨_, rfl, a, _, _, .str w, rfl, rfl, SqT.of ha6, h0, (by show 2 ≤ sizeLine; decide), fun t4 ht4 => ⟨t4, _, rfl, .inr (SqT.of upd_same), rfl, rfl, _, rfl, ?_⟩⟩
                show if (if false = true then !inV (.str w) [.str "each", .str "some"] else inV (.str w) [.str "each", .str "some"]) = true then _ else _
                rw [show (if false = true then !inV (.str w) [.str "each", .str "some"] else inV (.str w) [.str "each", .str "some"]) = evB w from in_ev w]
                have s7 := s6.upd (o := .tup [.str "each", .str "some"]) ht4
                have ha7 := s7 _ _ (sH _ _ ha)
                have eF7 := s7 _ _ eF
                generalize upd H6 t4 (.tup [.str "each", .str "some"]) = H7 at s7 ha7 eF7
                refine iteTb he ⟨_, rfl, rfl, _, rfl, ?_⟩
                rw [int_V]
                by_cases hi2 : (i : Int) = 2
                · have h1 : atI (V.str w :: xs) 1 = some (.str x) := by
                    cases pr with
                    | cons p2 pr =>
                      have := p2.pd.str_is
                      subst this
                      exact atI_nat (j := 1) rfl
                  refine iteTb (decide_eq_true hi2) ⟨_, rfl, a, _, _, .str x, rfl, rfl, SqT.of ha7, h1, rfl, _, rfl, ?_⟩
                  rw [eq_V]
                  by_cases hx : x = "X"
                  · refine iteTb (decide_eq_true hx) ⟨_, rfl, .inl ⟨rfl, _, SqL.of eF7⟩, _, rfl, fl, _, _, rfl, rfl, eF7, szA, fin H7 y _ _ s7 ?_⟩
                    rw [g_2 he (by omega) hx]
                    exact same_y H7 s7
                  · exact iteFb (decide_eq_false hx) (tail _ _ _ s7 (g_n2 he (by omega) hx) fun H8 y' s8 pf8 => fin H8 y' _ _ s8 pf8)
                · exact iteFb (decide_eq_false hi2) (tail _ _ _ s7 (g_n (by omega) (by omega)) fun H8 y' s8 pf8 => fin H8 y' _ _ s8 pf8)
          · obtain ⟨_, sH, _, ⟨acc, eF, hal, hpa⟩, o3', o4', rfl⟩ := h
            rw [hl, ← List.length_mapIdx (f := gPut w r p n), List.take_length] at hpa
            refine ⟨_, rfl, fl, _, rfl, .inl ⟨SqL.of eF, fun t5 ht5 => ?_⟩⟩
            have z5 := Same.new (o := .tup (.str w :: acc)) ht5
            exact q (.ref t5) _ (sH.trans z5) (.inr ⟨_, _, upd_same, rfl, .cons (pf_str p1.pd.strOk) (L2.Paired.mapP hpa fun _ _ h => (h.weak fun q z => z.1).same z5)⟩)
theorem can_lput (hF : ∃ f fd, Fun K "_law_put" "_law_put" s_l_put f fd ∧ mg "_law_put" = some (.ref f)) (T : Txt K mg C) (TM : TxtM mg) : ∀ n : Nat, Can P w K mg base n "_law_put" ["_law_thing", "_law_place"] (spLPut n)
  | 0 => can_voidG 0 hF (fun _ _ F => F.binds fun _ _ _ _ _ _ us hl => match us, hl with | [_, _], _ => rfl) fun vs H Q E h => by
    obtain ⟨Z, v, d, p, _, _, ok, hlt, _⟩ := h
    cases d <;> first | exact ok | exact ok_no0 ok | cases hlt
  | n + 1 => by
    obtain ⟨f, fd, F, m⟩ := id hF
    exact ⟨f, fd, ok_lputS F T TM (can_lput hF T TM n), m, F.kp, F.binds fun _ _ _ _ _ _ us hl => match us, hl with | [_, _], _ => rfl⟩
end
end Net

namespace Net
open PySem L2
/-! ### claims, terms and sets as a type of their own -/
inductive Th where
  | wd (w : Str)
  | num (z : Int)
  | these (xs : List Str)
  | nm (w : Str) (xs : List Str)
  | cost (a b : Str) (z : Int)
  | ev (w x : Str) (k c : Th)
  | one (w : Str) (a : Th)
  | times (z : Int) (a : Th)
  | two (w : Str) (a b : Th)
def Th.dat : Th → PyData
  | .wd w => .tuple [.str w]
  | .num z => .tuple [.str "number", .int z]
  | .these xs => .tuple [.str "these", .list (xs.map .str)]
  | .nm w xs => .tuple (.str w :: xs.map .str)
  | .cost a b z => .tuple [.str "cost", .str a, .str b, .int z]
  | .ev w x k c => .tuple [.str w, .str x, k.dat, c.dat]
  | .one w a => .tuple [.str w, a.dat]
  | .times z a => .tuple [.str "times", .int z, a.dat]
  | .two w a b => .tuple [.str w, a.dat, b.dat]
abbrev L0 : List Str := ["ring", "round", "all", "number"]
abbrev L2w : List Str := ["way", "must", "flow", "apart", "bare", "from", "to"]
def clW (w : Str) : Nat := if w ∈ L0 then 0 else if w = "these" then 1 else if w ∈ L2w then 2 else if w = "cost" then 3 else if evB w = true then 4 else 5
def Th.wf : Th → Prop
  | .wd w => clW w = 0
  | .num _ => True
  | .these xs => xs.length ≤ 12
  | .nm w xs => clW w = 2 ∧ xs.length ≤ 3
  | .cost _ _ _ => True
  | .ev w _ k c => clW w = 4 ∧ k.wf ∧ c.wf
  | .one w a => clW w = 5 ∧ a.wf
  | .times _ a => a.wf
  | .two w a b => clW w = 5 ∧ a.wf ∧ b.wf
def Th.names : Th → List Str
  | .wd _ => []
  | .num _ => []
  | .these xs => xs
  | .nm _ xs => xs
  | .cost a b _ => [a, b]
  | .ev _ x k c => k.names ++ c.names.filter fun y => !decide (y = x)
  | .one _ a => a.names
  | .times _ a => a.names
  | .two _ a b => a.names ++ b.names
def Th.dep : Th → Nat
  | .these _ => 2
  | .ev _ _ k c => 1 + max k.dep c.dep
  | .one _ a => 1 + a.dep
  | .times _ a => 1 + a.dep
  | .two _ a b => 1 + max a.dep b.dep
  | _ => 1
def subX (p y : Str) : Str := if y = "X" then p else y
def Th.put (p : Str) : Th → Th
  | .these xs => .these (xs.map (subX p))
  | .nm w xs => .nm w (xs.map (subX p))
  | .cost a b z => .cost (subX p a) (subX p b) z
  | .ev w x k c => .ev w x (k.put p) (if x = "X" then c else c.put p)
  | .one w a => .one w (a.put p)
  | .times z a => .times z (a.put p)
  | .two w a b => .two w (a.put p) (b.put p)
  | t => t
theorem cl_ev {w : Str} : clW w = 4 → evB w = true := fun h => by
  unfold clW at h
  by_cases h0 : w ∈ L0
  · rw [if_pos h0] at h; cases h
  · rw [if_neg h0] at h
    by_cases h1 : w = "these"
    · rw [if_pos h1] at h; cases h
    · rw [if_neg h1] at h
      by_cases h2 : w ∈ L2w
      · rw [if_pos h2] at h; cases h
      · rw [if_neg h2] at h
        by_cases h3 : w = "cost"
        · rw [if_pos h3] at h; cases h
        · rw [if_neg h3] at h
          by_cases h4 : evB w = true
          · exact h4
          · rw [if_neg h4] at h; cases h
theorem cl_no {w : Str} (h : clW w ≠ 4) : evB w = false := by
  cases he : evB w with
  | false => rfl
  | true =>
    refine absurd ?_ h
    unfold evB at he
    rcases Bool.or_eq_true_iff.mp he with e | e
    · rw [of_decide_eq_true e]; decide +kernel
    · rw [of_decide_eq_true e]; decide +kernel
theorem cl_in {w : Str} : decide (w ∈ L0) = decide (clW w = 0) := by
  by_cases h0 : w ∈ L0
  · rw [decide_eq_true h0, decide_eq_true]; unfold clW; rw [if_pos h0]
  · rw [decide_eq_false h0, decide_eq_false]
    unfold clW
    rw [if_neg h0]
    repeat' split
    all_goals decide
theorem cl_1 {w : Str} (h : clW w ≠ 0) : decide (w = "these") = decide (clW w = 1) := by
  have h0 : w ∉ L0 := fun z => h (by unfold clW; rw [if_pos z])
  by_cases h1 : w = "these"
  · rw [decide_eq_true h1, decide_eq_true]; unfold clW; rw [if_neg h0, if_pos h1]
  · rw [decide_eq_false h1, decide_eq_false]
    unfold clW
    rw [if_neg h0, if_neg h1]
    repeat' split
    all_goals decide
theorem cl_2 {w : Str} (h : clW w ≠ 0) (h' : clW w ≠ 1) : decide (w ∈ L2w) = decide (clW w = 2) := by
  have h0 : w ∉ L0 := fun z => h (by unfold clW; rw [if_pos z])
  have h1 : ¬ w = "these" := fun z => h' (by unfold clW; rw [if_neg h0, if_pos z])
  by_cases h2 : w ∈ L2w
  · rw [decide_eq_true h2, decide_eq_true]; unfold clW; rw [if_neg h0, if_neg h1, if_pos h2]
  · rw [decide_eq_false h2, decide_eq_false]
    unfold clW
    rw [if_neg h0, if_neg h1, if_neg h2]
    repeat' split
    all_goals decide
theorem cl_3 {w : Str} (h : clW w ≠ 0) (h' : clW w ≠ 1) (h'' : clW w ≠ 2) : decide (w = "cost") = decide (clW w = 3) := by
  have h0 : w ∉ L0 := fun z => h (by unfold clW; rw [if_pos z])
  have h1 : ¬ w = "these" := fun z => h' (by unfold clW; rw [if_neg h0, if_pos z])
  have h2 : w ∉ L2w := fun z => h'' (by unfold clW; rw [if_neg h0, if_neg h1, if_pos z])
  by_cases h3 : w = "cost"
  · rw [decide_eq_true h3, decide_eq_true]; unfold clW; rw [if_neg h0, if_neg h1, if_neg h2, if_pos h3]
  · rw [decide_eq_false h3, decide_eq_false]
    unfold clW
    rw [if_neg h0, if_neg h1, if_neg h2, if_neg h3]
    split <;> decide
theorem ok_s {n : Nat} {x : Str} : okD n (.str x) := by cases n <;> exact True.intro
theorem ok_i {n : Nat} {z : Int} : okD n (.int z) := by cases n <;> exact True.intro
/-- what the program may be asked -/
theorem ok_dat : ∀ {c : Th} {n : Nat}, c.wf → c.dep ≤ n → okD n c.dat
  | .wd w, n + 1, h, _ => ⟨Nat.zero_le _, (fun _ z => nomatch z), fun z => absurd z (by rw [cl_no (by rw [show clW w = 0 from h]; decide)]; decide)⟩
  | .num z, n + 1, _, _ => ⟨by show 1 ≤ 3; decide, fun d hd => by rw [List.mem_singleton.mp hd]; exact ok_i, fun z => absurd z (by decide +kernel)⟩
  | .these xs, n + 2, h, _ => ⟨by show 1 ≤ 3; decide, fun d hd => by
      rw [List.mem_singleton.mp hd]
      exact ⟨by rw [List.length_map]; exact h, fun d hd => let ⟨x, _, e⟩ := List.mem_map.mp hd; ⟨x, e.symm⟩⟩, fun z => absurd z (by decide +kernel)⟩
  | .these xs, 1, _, h => absurd h (by show ¬ (2 ≤ 1); decide)
  | .nm w xs, n + 1, h, _ => ⟨by rw [List.length_map]; exact h.2, fun d hd => let ⟨x, _, e⟩ := List.mem_map.mp hd; by rw [← e]; exact ok_s, fun z => absurd z (by rw [cl_no (by rw [h.1]; decide)]; decide)⟩
  | .cost a b z, n + 1, _, _ => ⟨by show 3 ≤ 3; decide, fun d hd => by
      simp only [List.mem_cons, List.not_mem_nil, or_false] at hd
      rcases hd with rfl | rfl | rfl <;> first | exact ok_s | exact ok_i, fun z => absurd z (by decide +kernel)⟩
  | .ev w x k c, n + 1, h, hd => ⟨by show 3 ≤ 3; decide, fun d hm => by
      have hd : 1 + max k.dep c.dep ≤ n + 1 := hd
      simp only [List.mem_cons, List.not_mem_nil, or_false] at hm
      rcases hm with rfl | rfl | rfl
      · exact ok_s
      · exact ok_dat h.2.1 (by omega)
      · exact ok_dat h.2.2 (by omega), fun _ => ⟨x, _, _, rfl⟩⟩
  | .one w a, n + 1, h, hd => ⟨by show 1 ≤ 3; decide, fun d hm => by
      have hd : 1 + a.dep ≤ n + 1 := hd
      rw [List.mem_singleton.mp hm]
      exact ok_dat h.2 (by omega), fun z => absurd z (by rw [cl_no (by rw [h.1]; decide)]; decide)⟩
  | .times z a, n + 1, h, hd => ⟨by show 2 ≤ 3; decide, fun d hm => by
      have hd : 1 + a.dep ≤ n + 1 := hd
      simp only [List.mem_cons, List.not_mem_nil, or_false] at hm
      rcases hm with rfl | rfl
      · exact ok_i
      · exact ok_dat (c := a) h (by omega), fun z => absurd z (by decide +kernel)⟩
  | .two w a b, n + 1, h, hd => ⟨by show 2 ≤ 3; decide, fun d hm => by
      have hd : 1 + max a.dep b.dep ≤ n + 1 := hd
      simp only [List.mem_cons, List.not_mem_nil, or_false] at hm
      rcases hm with rfl | rfl
      · exact ok_dat h.2.1 (by omega)
      · exact ok_dat h.2.2 (by omega), fun z => absurd z (by rw [cl_no (by rw [h.1]; decide)]; decide)⟩
  | .wd _, 0, _, h => absurd h (by show ¬ (1 ≤ 0); decide)
  | .num _, 0, _, h => absurd h (by show ¬ (1 ≤ 0); decide)
  | .these _, 0, _, h => absurd h (by show ¬ (2 ≤ 0); decide)
  | .nm _ _, 0, _, h => absurd h (by show ¬ (1 ≤ 0); decide)
  | .cost _ _ _, 0, _, h => absurd h (by show ¬ (1 ≤ 0); decide)
  | .ev _ _ _ _, 0, _, h => absurd h (by show ¬ (1 + _ ≤ 0); omega)
  | .one _ _, 0, _, h => absurd h (by show ¬ (1 + _ ≤ 0); omega)
  | .times _ _, 0, _, h => absurd h (by show ¬ (1 + _ ≤ 0); omega)
  | .two _ _ _, 0, _, h => absurd h (by show ¬ (1 + _ ≤ 0); omega)
theorem unt_strs {n : Nat} {told : List Str} : ∀ {xs : List Str}, (xs.map PyData.str).flatMap (untD n told) = xs.filter fun x => decide (x ∉ told)
  | [] => rfl
  | x :: r => by
    rw [List.map_cons, List.flatMap_cons, unt_strs, unt_str]
    by_cases h : x ∈ told
    · rw [if_pos h, List.filter_cons_of_neg (by simp [h])]; rfl
    · rw [if_neg h, List.filter_cons_of_pos (by simp [h])]; rfl
theorem unt_int {n : Nat} {told : List Str} {z : Int} : untD n told (.int z) = [] := by cases n <;> rfl
/-- the names that nothing tells -/
theorem unt_dat : ∀ {c : Th} {n : Nat} {told : List Str}, c.wf → c.dep ≤ n → untD n told c.dat = c.names.filter fun x => decide (x ∉ told)
  | .wd w, n + 1, told, h, _ => by
    show untD (n + 1) told (.tuple [.str w]) = []
    rw [unt_pl (cl_no (by rw [show clW w = 0 from h]; decide))]
    rfl
  | .num z, n + 1, told, _, _ => by
    show untD (n + 1) told (.tuple [.str "number", .int z]) = []
    rw [unt_pl (by decide +kernel), List.flatMap_cons, unt_int]
    rfl
  | .these xs, n + 2, told, h, _ => by
    show untD (n + 2) told (.tuple [.str "these", .list (xs.map .str)]) = _
    rw [unt_pl (by decide +kernel), List.flatMap_cons, List.flatMap_nil, List.append_nil]
    exact unt_strs
  | .these xs, 1, _, _, h => absurd h (by show ¬ (2 ≤ 1); decide)
  | .nm w xs, n + 1, told, h, _ => by
    show untD (n + 1) told (.tuple (.str w :: xs.map .str)) = _
    rw [unt_pl (cl_no (by rw [h.1]; decide))]
    exact unt_strs
  | .cost a b z, n + 1, told, _, _ => by
    show untD (n + 1) told (.tuple [.str "cost", .str a, .str b, .int z]) = _
    rw [unt_pl (by decide +kernel)]
    show untD n told (.str a) ++ (untD n told (.str b) ++ (untD n told (.int z) ++ [])) = _
    rw [unt_int]
    have := unt_strs (n := n) (told := told) (xs := [a, b])
    show untD n told (.str a) ++ (untD n told (.str b) ++ []) = _
    exact this
  | .ev w x k c, n + 1, told, h, hd => by
    have hd : 1 + max k.dep c.dep ≤ n + 1 := hd
    show untD (n + 1) told (.tuple [.str w, .str x, k.dat, c.dat]) = _
    rw [unt_ev (cl_ev h.1), unt_dat h.2.1 (by omega), unt_dat h.2.2 (by omega)]
    show _ = (k.names ++ c.names.filter fun y => !decide (y = x)).filter _
    rw [List.filter_append, List.filter_filter]
    congr 1
    apply List.filter_congr
    intro y _
    by_cases h1 : y ∈ told
    · simp [h1]
    · by_cases h2 : y = x <;> simp [h1, h2]
  | .one w a, n + 1, told, h, hd => by
    have hd : 1 + a.dep ≤ n + 1 := hd
    show untD (n + 1) told (.tuple [.str w, a.dat]) = _
    rw [unt_pl (cl_no (by rw [h.1]; decide)), List.flatMap_cons, List.flatMap_nil, List.append_nil]
    exact unt_dat h.2 (by omega)
  | .times z a, n + 1, told, h, hd => by
    have hd : 1 + a.dep ≤ n + 1 := hd
    show untD (n + 1) told (.tuple [.str "times", .int z, a.dat]) = _
    rw [unt_pl (by decide +kernel), List.flatMap_cons, List.flatMap_cons, List.flatMap_nil, List.append_nil, unt_int]
    exact unt_dat (c := a) h (by omega)
  | .two w a b, n + 1, told, h, hd => by
    have hd : 1 + max a.dep b.dep ≤ n + 1 := hd
    show untD (n + 1) told (.tuple [.str w, a.dat, b.dat]) = _
    rw [unt_pl (cl_no (by rw [h.1]; decide)), List.flatMap_cons, List.flatMap_cons, List.flatMap_nil, List.append_nil, unt_dat h.2.1 (by omega), unt_dat h.2.2 (by omega)]
    show _ = (a.names ++ b.names).filter _
    rw [List.filter_append]
  | .wd _, 0, _, _, h => absurd h (by show ¬ (1 ≤ 0); decide)
  | .num _, 0, _, _, h => absurd h (by show ¬ (1 ≤ 0); decide)
  | .these _, 0, _, _, h => absurd h (by show ¬ (2 ≤ 0); decide)
  | .nm _ _, 0, _, _, h => absurd h (by show ¬ (1 ≤ 0); decide)
  | .cost _ _ _, 0, _, _, h => absurd h (by show ¬ (1 ≤ 0); decide)
  | .ev _ _ _ _, 0, _, _, h => absurd h (by show ¬ (1 + _ ≤ 0); omega)
  | .one _ _, 0, _, _, h => absurd h (by show ¬ (1 + _ ≤ 0); omega)
  | .times _ _, 0, _, _, h => absurd h (by show ¬ (1 + _ ≤ 0); omega)
  | .two _ _ _, 0, _, _, h => absurd h (by show ¬ (1 + _ ≤ 0); omega)
theorem unt_nil {c : Th} {n : Nat} (h : c.wf) (hd : c.dep ≤ n) : untD n [] c.dat = c.names := by
  rw [unt_dat h hd, List.filter_eq_self.mpr fun _ _ => by simp]
theorem names_len {c : Th} {n : Nat} (h : c.wf) (hd : c.dep ≤ n) (hn : n ≤ 10) : c.names.length ≤ 1000000 := by
  rw [← unt_nil h hd]
  exact Nat.le_trans (unt_len (ok_dat h hd)) (pow3 hn)
theorem put_strs {p : Str} {n : Nat} : ∀ {xs : List Str}, (xs.map PyData.str).map (putD "X" p n) = (xs.map (subX p)).map PyData.str
  | [] => rfl
  | x :: r => by
    rw [List.map_cons, List.map_cons, put_strs, put_str, List.map_cons, List.map_cons]
    unfold subX
    split <;> rfl
theorem put_int {p : Str} {n : Nat} {z : Int} : putD "X" p n (.int z) = .int z := by cases n <;> rfl
theorem put_dat {p : Str} : ∀ {c : Th} {n : Nat}, c.wf → c.dep ≤ n → putD "X" p n c.dat = (c.put p).dat
  | .wd w, n + 1, h, _ => by
    show putD "X" p (n + 1) (.tuple [.str w]) = .tuple [.str w]
    rw [put_pl (cl_no (by rw [show clW w = 0 from h]; decide))]
    rfl
  | .num z, n + 1, _, _ => by
    show putD "X" p (n + 1) (.tuple [.str "number", .int z]) = .tuple [.str "number", .int z]
    rw [put_pl (by decide +kernel), List.map_cons, put_int]
    rfl
  | .these xs, n + 2, h, _ => by
    show putD "X" p (n + 2) (.tuple [.str "these", .list (xs.map .str)]) = .tuple [.str "these", .list ((xs.map (subX p)).map .str)]
    rw [put_pl (by decide +kernel)]
    show PyData.tuple [.str "these", .list ((xs.map PyData.str).map (putD "X" p n))] = _
    rw [put_strs]
  | .these xs, 1, _, h => absurd h (by show ¬ (2 ≤ 1); decide)
  | .nm w xs, n + 1, h, _ => by
    show putD "X" p (n + 1) (.tuple (.str w :: xs.map .str)) = .tuple (.str w :: (xs.map (subX p)).map .str)
    rw [put_pl (cl_no (by rw [h.1]; decide)), put_strs]
  | .cost a b z, n + 1, _, _ => by
    show putD "X" p (n + 1) (.tuple [.str "cost", .str a, .str b, .int z]) = .tuple [.str "cost", .str (subX p a), .str (subX p b), .int z]
    rw [put_pl (by decide +kernel)]
    have := put_strs (p := p) (n := n) (xs := [a, b])
    show PyData.tuple (.str "cost" :: [putD "X" p n (.str a), putD "X" p n (.str b), putD "X" p n (.int z)]) = _
    rw [put_int]
    simp only [List.map_cons, List.map_nil, List.cons.injEq, and_true] at this
    rw [this.1, this.2]
  | .ev w x k c, n + 1, h, hd => by
    have hd : 1 + max k.dep c.dep ≤ n + 1 := hd
    show putD "X" p (n + 1) (.tuple [.str w, .str x, k.dat, c.dat]) = .tuple [.str w, .str x, (k.put p).dat, (if x = "X" then c else c.put p).dat]
    rw [put_ev (cl_ev h.1), put_dat h.2.1 (by omega), put_dat h.2.2 (by omega)]
    split <;> rfl
  | .one w a, n + 1, h, hd => by
    have hd : 1 + a.dep ≤ n + 1 := hd
    show putD "X" p (n + 1) (.tuple [.str w, a.dat]) = .tuple [.str w, (a.put p).dat]
    rw [put_pl (cl_no (by rw [h.1]; decide)), List.map_cons, put_dat h.2 (by omega)]
    rfl
  | .times z a, n + 1, h, hd => by
    have hd : 1 + a.dep ≤ n + 1 := hd
    show putD "X" p (n + 1) (.tuple [.str "times", .int z, a.dat]) = .tuple [.str "times", .int z, (a.put p).dat]
    rw [put_pl (by decide +kernel), List.map_cons, List.map_cons, put_int, put_dat (c := a) h (by omega)]
    rfl
  | .two w a b, n + 1, h, hd => by
    have hd : 1 + max a.dep b.dep ≤ n + 1 := hd
    show putD "X" p (n + 1) (.tuple [.str w, a.dat, b.dat]) = .tuple [.str w, (a.put p).dat, (b.put p).dat]
    rw [put_pl (cl_no (by rw [h.1]; decide)), List.map_cons, List.map_cons, put_dat h.2.1 (by omega), put_dat h.2.2 (by omega)]
    rfl
  | .wd _, 0, _, h => absurd h (by show ¬ (1 ≤ 0); decide)
  | .num _, 0, _, h => absurd h (by show ¬ (1 ≤ 0); decide)
  | .these _, 0, _, h => absurd h (by show ¬ (2 ≤ 0); decide)
  | .nm _ _, 0, _, h => absurd h (by show ¬ (1 ≤ 0); decide)
  | .cost _ _ _, 0, _, h => absurd h (by show ¬ (1 ≤ 0); decide)
  | .ev _ _ _ _, 0, _, h => absurd h (by show ¬ (1 + _ ≤ 0); omega)
  | .one _ _, 0, _, h => absurd h (by show ¬ (1 + _ ≤ 0); omega)
  | .times _ _, 0, _, h => absurd h (by show ¬ (1 + _ ≤ 0); omega)
  | .two _ _ _, 0, _, h => absurd h (by show ¬ (1 + _ ≤ 0); omega)
theorem put_wf {p : Str} : ∀ {c : Th}, c.wf → (c.put p).wf
  | .wd _, h => h
  | .num _, h => h
  | .these xs, h => by show (xs.map _).length ≤ 12; rw [List.length_map]; exact h
  | .nm w xs, h => ⟨h.1, by rw [List.length_map]; exact h.2⟩
  | .cost _ _ _, h => h
  | .ev w x k c, h => ⟨h.1, put_wf h.2.1, by split; exact h.2.2; exact put_wf h.2.2⟩
  | .one w a, h => ⟨h.1, put_wf h.2⟩
  | .times z a, h => put_wf (c := a) h
  | .two w a b, h => ⟨h.1, put_wf h.2.1, put_wf h.2.2⟩
theorem put_dep {p : Str} : ∀ {c : Th}, (c.put p).dep = c.dep
  | .wd _ => rfl
  | .num _ => rfl
  | .these xs => rfl
  | .nm w xs => rfl
  | .cost _ _ _ => rfl
  | .ev w x k c => by
    show 1 + max (k.put p).dep (if x = "X" then c else c.put p).dep = 1 + max k.dep c.dep
    rw [put_dep]
    split
    · rfl
    · rw [put_dep]
  | .one w a => by show 1 + (a.put p).dep = _; rw [put_dep]; rfl
  | .times z a => by show 1 + (a.put p).dep = _; rw [put_dep]; rfl
  | .two w a b => by show 1 + max (a.put p).dep (b.put p).dep = _; rw [put_dep, put_dep]; rfl
/-- the names of what has been put in -/
theorem put_names {p : Str} : ∀ {c : Th}, ∀ y ∈ (c.put p).names, ∃ x ∈ c.names, y = subX p x
  | .wd _, y, h => nomatch h
  | .num _, y, h => nomatch h
  | .these xs, y, h => let ⟨x, hx, e⟩ := List.mem_map.mp (show y ∈ xs.map (subX p) from h); ⟨x, hx, e.symm⟩
  | .nm w xs, y, h => let ⟨x, hx, e⟩ := List.mem_map.mp (show y ∈ xs.map (subX p) from h); ⟨x, hx, e.symm⟩
  | .cost a b z, y, h => by
    have h : y ∈ [subX p a, subX p b] := h
    simp only [List.mem_cons, List.not_mem_nil, or_false] at h
    rcases h with rfl | rfl
    · exact ⟨a, by show a ∈ [a, b]; simp, rfl⟩
    · exact ⟨b, by show b ∈ [a, b]; simp, rfl⟩
  | .ev w x k c, y, h => by
    rcases List.mem_append.mp (show y ∈ (k.put p).names ++ (if x = "X" then c else c.put p).names.filter (fun y => !decide (y = x)) from h) with h | h
    · obtain ⟨z, hz, e⟩ := put_names (c := k) y h
      exact ⟨z, List.mem_append_left _ hz, e⟩
    · obtain ⟨h1, h2⟩ := List.mem_filter.mp h
      have h2 : ¬ y = x := by simpa using h2
      by_cases hx : x = "X"
      · rw [if_pos hx] at h1
        refine ⟨y, List.mem_append_right _ (List.mem_filter.mpr ⟨h1, by simp [h2]⟩), ?_⟩
        unfold subX
        rw [if_neg (fun z => h2 (z.trans hx.symm))]
      · rw [if_neg hx] at h1
        obtain ⟨z, hz, e⟩ := put_names (c := c) y h1
        refine ⟨z, List.mem_append_right _ (List.mem_filter.mpr ⟨hz, ?_⟩), e⟩
        have : ¬ z = x := fun zx => h2 (by
          rw [e, zx]
          unfold subX
          rw [if_neg hx])
        simp [this]
  | .one w a, y, h => put_names (c := a) y h
  | .times z a, y, h => put_names (c := a) y h
  | .two w a b, y, h => by
    rcases List.mem_append.mp (show y ∈ (a.put p).names ++ (b.put p).names from h) with h | h
    · obtain ⟨z, hz, e⟩ := put_names (c := a) y h
      exact ⟨z, List.mem_append_left _ hz, e⟩
    · obtain ⟨z, hz, e⟩ := put_names (c := b) y h
      exact ⟨z, List.mem_append_right _ hz, e⟩
end Net

namespace Net
open PySem L2
/-! ### the law's own names -/
def Th.hw : Th → Str
  | .wd w => w
  | .num _ => "number"
  | .these _ => "these"
  | .nm w _ => w
  | .cost _ _ _ => "cost"
  | .ev w _ _ _ => w
  | .one w _ => w
  | .times _ _ => "times"
  | .two w _ _ => w
theorem dat_hw (c : Th) : ∃ ds, c.dat = .tuple (.str c.hw :: ds) := by cases c <;> exact ⟨_, rfl⟩
theorem isTu_dat (c : Th) : isTu c.dat = true := by cases c <;> rfl
def Th.cls : Th → Nat
  | .wd _ => 0
  | .num _ => 0
  | .these _ => 1
  | .nm _ _ => 2
  | .cost _ _ _ => 3
  | .ev _ _ _ _ => 4
  | _ => 5
theorem hwc : ∀ {c : Th}, c.wf → clW c.hw = c.cls
  | .wd _, h => h
  | .num _, _ => by show clW "number" = 0; decide +kernel
  | .these _, _ => by show clW "these" = 1; decide +kernel
  | .nm _ _, h => h.1
  | .cost _ _ _, _ => by show clW "cost" = 3; decide +kernel
  | .ev _ _ _ _, h => h.1
  | .one _ _, h => h.1
  | .times _ _, _ => by show clW "times" = 5; decide +kernel
  | .two _ _ _, h => h.1
theorem cls0 {c : Th} (h : c.wf) (k : clW c.hw = 0) : c.names = [] := by
  rw [hwc h] at k
  cases c <;> first | rfl | cases k
theorem cls1 {c : Th} (h : c.wf) (k : clW c.hw = 1) : ∃ xs, c = .these xs := by
  rw [hwc h] at k
  cases c <;> first | exact ⟨_, rfl⟩ | cases k
theorem cls2 {c : Th} (h : c.wf) (k : clW c.hw = 2) : ∃ w xs, c = .nm w xs := by
  rw [hwc h] at k
  cases c <;> first | exact ⟨_, _, rfl⟩ | cases k
theorem cls3 {c : Th} (h : c.wf) (k : clW c.hw = 3) : ∃ a b z, c = .cost a b z := by
  rw [hwc h] at k
  cases c <;> first | exact ⟨_, _, _, rfl⟩ | cases k
theorem cls4 {c : Th} (h : c.wf) (k : clW c.hw = 4) : ∃ w x k c', c = .ev w x k c' := by
  rw [hwc h] at k
  cases c <;> first | exact ⟨_, _, _, _, rfl⟩ | cases k
/-- a part and its names -/
def PtN (n : Nat) (d : PyData) (l : List Str) : Prop := (∃ t : Th, d = t.dat ∧ t.wf ∧ t.dep ≤ n ∧ l = t.names) ∨ ∃ z, d = .int z ∧ l = []
theorem cls5 {c : Th} {n : Nat} (h : c.wf) (hd : c.dep ≤ n + 1) (k0 : clW c.hw ≠ 0) (k1 : clW c.hw ≠ 1) (k2 : clW c.hw ≠ 2) (k3 : clW c.hw ≠ 3) (k4 : clW c.hw ≠ 4) : ∃ ds nms, c.dat = .tuple (.str c.hw :: ds) ∧ Paired (PtN n) ds nms ∧ c.names = nms.flatten ∧ ds.length ≤ 3 := by
  rw [hwc h] at k0 k1 k2 k3 k4
  cases c with
  | wd w => exact absurd rfl k0
  | num z => exact absurd rfl k0
  | these xs => exact absurd rfl k1
  | nm w xs => exact absurd rfl k2
  | cost a b z => exact absurd rfl k3
  | ev w x k c => exact absurd rfl k4
  | one w a =>
    have hd : 1 + a.dep ≤ n + 1 := hd
    exact ⟨_, [a.names], rfl, .cons (.inl ⟨a, rfl, h.2, by omega, rfl⟩) .nil, by show a.names = _; simp, by show 1 ≤ 3; decide⟩
  | times z a =>
    have hd : 1 + a.dep ≤ n + 1 := hd
    exact ⟨_, [[], a.names], rfl, .cons (.inr ⟨z, rfl, rfl⟩) (.cons (.inl ⟨a, rfl, h, by omega, rfl⟩) .nil), by show a.names = _; simp, by show 2 ≤ 3; decide⟩
  | two w a b =>
    have hd : 1 + max a.dep b.dep ≤ n + 1 := hd
    exact ⟨_, [a.names, b.names], rfl, .cons (.inl ⟨a, rfl, h.2.1, by omega, rfl⟩) (.cons (.inl ⟨b, rfl, h.2.2, by omega, rfl⟩) .nil), by show a.names ++ b.names = _; simp, by show 2 ≤ 3; decide⟩
theorem strs_pd {H : Hp} {n : Nat} {xs : List V} {ws : List Str} (p : Paired (PD H n) xs (ws.map PyData.str)) : xs = ws.map V.str := by
  induction ws generalizing xs with
  | nil => cases p; rfl
  | cons w r ih =>
    cases p with
    | cons a t =>
      rw [a.str_is, ih t]
      rfl
def spNames (n : Nat) : Sp := fun vs H Q _ => ∃ (v : V) (c : Th), vs = [v] ∧ PD H n v c.dat ∧ c.wf ∧ c.dep ≤ n ∧ n ≤ 10 ∧ ∀ l H', Same H H' → H l = none → H' l = some (.lst (c.names.map V.str)) → Q (.ref l) H'
section
variable {P : Program} {w : World} {K : PySem.W.Frag} {mg : Str → Option Value} {base : Heap} {C : Addr} {n : Nat}
theorem can_voidG7 {nm : Str} {st : Stmt} {ps : List Str} {sp : Sp} (k : Nat) (hF : ∃ f fd, Fun K nm nm st f fd ∧ mg nm = some (.ref f)) (hb : ∀ f fd, Fun K nm nm st f fd → Binds K fd ps []) (h : ∀ vs H Q E, sp vs H Q E → False) : Can P w K mg base k nm ps sp := by
  obtain ⟨f, fd, F, m⟩ := hF
  exact ⟨f, fd, ⟨fun vs H Q E z => (h vs H Q E z).elim, fun A outer s H args us vs Q E _ _ _ _ z => (h vs H Q E z).elim⟩, m, F.kp, hb f fd F⟩
abbrev Nlnm : List Str := ["_law_thing", "_law_word", "_law_found", "_law_one_here"]
theorem sc_lnm : FnScope Nlnm ["_law_thing"] (defScope s_l_names) := ⟨rfl, rfl, rfl, by decide +kernel, rfl, by decide +kernel, by decide +kernel⟩
theorem ok_lnmS {f : Addr} {fd : FuncData} {k : Nat} (F : Fun K "_law_names" "_law_names" s_l_names f fd) (T : Txt K mg C) (ih : Can P w K mg base k "_law_names" ["_law_thing"] (spNames n)) : FnOk P w K mg base CX0 (k + 1) f fd ["_law_thing"] (spNames (n + 1)) := by
  refine F.ok sc_lnm (fun vs H Q E h => ?_) (fun cdv A outer s H vs Q E hr h => ?_)
  · obtain ⟨v, c, rfl, _⟩ := h
    rfl
  · obtain ⟨v, c, rfl, pd, wf, hd, hn, q⟩ := h
    have nd_0 : List.Nodup (["_law_name_here", "_law_thing"] : List Str) := by decide +kernel
    refine ⟨_, (pss_cons (ps_set (i := 1) sc_lnm.nd rfl (Or.inl rfl) (pe_ix ix_tup (pv 0) pe_int (fun _ _ => by rfl)))
      (pss_cutE (ps_if (pt_cmpR op_in_seq (pv 1) (pe_tup (pa_cons pe_str (pa_cons pe_str (pa_cons pe_str (pa_cons pe_str pa_nil))))) (by with_unfolding_all rfl)) (pss_one (ps_ret (pe_lst pa_nil))) pss_nil)
      (pss_cutE (ps_if (pt_cmpR op_eq (pv 1) pe_str (nomark _)) (pss_one (ps_ret (pe_callTy call_list_of (by rfl) T.list b_list (pa_cons (pe_ix ix_tup (pv 0) pe_int (fun _ _ => by rfl)) pa_nil)))) pss_nil)
      (pss_cutE (ps_if (pt_cmpR op_in_seq (pv 1) (pe_tup (pa_cons pe_str (pa_cons pe_str (pa_cons pe_str (pa_cons pe_str (pa_cons pe_str (pa_cons pe_str (pa_cons pe_str pa_nil)))))))) (by with_unfolding_all rfl)) (pss_one (ps_ret (pe_callTy call_list_of (by rfl) T.list b_list (pa_cons (pe_slice sl_tup (pv 0) (po_some pe_int) po_none) pa_nil)))) pss_nil)
      (pss_cutE (ps_if (pt_cmpR op_eq (pv 1) pe_str (nomark _)) (pss_one (ps_ret (pe_lst (pa_cons (pe_ix ix_tup (pv 0) pe_int (fun _ _ => by rfl)) (pa_cons (pe_ix ix_tup (pv 0) pe_int (fun _ _ => by rfl)) pa_nil))))) pss_nil)
      (pss_cutE (ps_if (pt_cmpR op_in_seq (pv 1) (pe_tup (pa_cons pe_str (pa_cons pe_str pa_nil))) (by with_unfolding_all rfl)) (pss_one (ps_ret (pe_op op_cat (pe_callC ih hr (by rfl) (pa_cons (pe_ix ix_tup (pv 0) pe_int (fun _ _ => by rfl)) pa_nil)) (pe_comp (N := ["_law_name_here", "_law_thing"]) (xs := 1) (js := [0]) rfl (compScope_of rfl) (pi_list (pe_callC ih hr (by rfl) (pa_cons (pe_ix ix_tup (pv 0) pe_int (fun _ _ => by rfl)) pa_nil))) (fun _ _ _ _ => pg_name (i := 0) nd_0 rfl (Or.inl rfl)) (fun _ _ _ _ => pts_one (pt_cmpR op_ne (pv 0) (pe_ix (ix_tupK K (by rfl)) (pv 1) pe_int (fun _ _ => by rfl)) (nomark _))) (fun _ _ _ _ => pv 0))))) pss_nil)
      (pss_cons (ps_set (i := 2) sc_lnm.nd rfl (Or.inl rfl) (pe_lst pa_nil))
      (pss_cons (ps_for PassesOwn.never rfl (pi_tup (pe_slice sl_tup (pv 0) (po_some pe_int) po_none)) (pg_name (i := 3) sc_lnm.nd rfl (Or.inl rfl))
          (pss_one (ps_if (pt_val (pe_callB call_isinst (by rfl) T.isi b_isi (pa_cons (pv 3) (pa_cons (pe_ty T.tuple (by rfl) b_tuple) pa_nil)))) (pss_one (ps_set (i := 2) sc_lnm.nd rfl (Or.inl rfl) (pe_op op_cat (pv 2) (pe_callC ih hr (by rfl) (pa_cons (pv 3) pa_nil))))) pss_nil)))
      (pss_one (ps_ret (pv 2))))))))))), ?_⟩
    have n9 : n ≤ 10 := by omega
    obtain ⟨ds0, eds⟩ := dat_hw c
    have pd0 := pd
    rw [eds] at pd
    obtain ⟨m, a, xs, hm, rfl, ha, pr⟩ := pd.tup_of
    cases hm
    cases pr with
    | cons p1 pr =>
      rename_i v1 xs
      have := p1.str_is
      subst this
      have h0 : atI (V.str c.hw :: xs) 0 = some (.str c.hw) := atI_nat (j := 0) rfl
      refine ⟨_, rfl, a, _, _, .str c.hw, rfl, rfl, SqT.of ha, h0, ?_⟩
      refine ⟨fun σ' H' => Same H H' ∧ clW c.hw ≠ 0 ∧ σ' = [some (.ref a), some (.str c.hw), none, none], ?_, ?_⟩
      · refine ⟨_, rfl, (by show 4 ≤ sizeLine; decide), fun t ht => ⟨t, _, rfl, .inr (SqT.of upd_same), rfl, rfl, _, rfl, ?_⟩⟩
        show if (if false = true then !inV (.str c.hw) (L0.map V.str) else inV (.str c.hw) (L0.map V.str)) = true then _ else _
        rw [show (if false = true then !inV (.str c.hw) (L0.map V.str) else inV (.str c.hw) (L0.map V.str)) = decide (clW c.hw = 0) from (inV_str _ _).trans cl_in]
        have z := Same.new (o := .tup (L0.map V.str)) ht
        by_cases k0 : clW c.hw = 0
        · refine iteTb (decide_eq_true k0) ⟨by decide, fun l hl => q l _ (z.upd hl) (z.free hl) ?_⟩
          rw [upd_same, cls0 wf k0]
          rfl
        · exact iteFb (decide_eq_false k0) ⟨z, k0, rfl⟩
      rintro _ H1 ⟨s1, k0, rfl⟩
      have ha1 := s1 _ _ ha
      refine ⟨fun σ' H' => H1 = H' ∧ clW c.hw ≠ 1 ∧ σ' = [some (.ref a), some (.str c.hw), none, none], ?_, ?_⟩
      · refine ⟨_, rfl, rfl, _, rfl, ?_⟩
        rw [eq_V, cl_1 k0]
        by_cases k1 : clW c.hw = 1
        · obtain ⟨ws, rfl⟩ := cls1 wf k1
          cases eds
          cases pr with
          | cons p2 pr =>
            obtain ⟨m, b, ys, rfl, rfl, hb, pr2⟩ := p2.list_of
            refine iteTb (decide_eq_true k1) ⟨_, rfl, a, _, _, .ref b, rfl, rfl, SqT.of ha1, atI_nat (j := 1) rfl, b, ys, rfl, .inl (SqL.of (s1 _ _ hb)), fun l hl => q l _ (s1.upd hl) (s1.free hl) ?_⟩
            rw [upd_same, strs_pd pr2]
            rfl
        · exact iteFb (decide_eq_false k1) ⟨rfl, k1, rfl⟩
      rintro _ _ ⟨rfl, k1, rfl⟩
      refine ⟨fun σ' H' => Same H H' ∧ clW c.hw ≠ 2 ∧ σ' = [some (.ref a), some (.str c.hw), none, none], ?_, ?_⟩
      · refine ⟨_, rfl, (by show 7 ≤ sizeLine; decide), fun t ht => ⟨t, _, rfl, .inr (SqT.of upd_same), rfl, rfl, _, rfl, ?_⟩⟩
        show if (if false = true then !inV (.str c.hw) (L2w.map V.str) else inV (.str c.hw) (L2w.map V.str)) = true then _ else _
        rw [show (if false = true then !inV (.str c.hw) (L2w.map V.str) else inV (.str c.hw) (L2w.map V.str)) = decide (clW c.hw = 2) from (inV_str _ _).trans (cl_2 k0 k1)]
        have z := s1.upd (o := .tup (L2w.map V.str)) ht
        by_cases k2 : clW c.hw = 2
        · obtain ⟨w', ws, rfl⟩ := cls2 wf k2
          cases eds
          refine iteTb (decide_eq_true k2) ⟨_, rfl, _, rfl, a, _, rfl, SqT.of (z _ _ ha), cut1_not, fun t2 ht2 => ⟨t2, _, rfl, .inr (SqT.of upd_same), fun l hl => q l _ ((z.upd ht2).upd hl) ((z.upd ht2).free hl) ?_⟩⟩
          rw [upd_same, cut1, strs_pd pr]
          rfl
        · exact iteFb (decide_eq_false k2) ⟨z, k2, rfl⟩
      rintro _ H2 ⟨s2, k2, rfl⟩
      have ha2 := s2 _ _ ha
      refine ⟨fun σ' H' => H2 = H' ∧ clW c.hw ≠ 3 ∧ σ' = [some (.ref a), some (.str c.hw), none, none], ?_, ?_⟩
      · refine ⟨_, rfl, rfl, _, rfl, ?_⟩
        rw [eq_V, cl_3 k0 k1 k2]
        by_cases k3 : clW c.hw = 3
        · obtain ⟨x, y, z, rfl⟩ := cls3 wf k3
          cases eds
          obtain ⟨v2, v3, v4, rfl, p2, p3⟩ : ∃ v2 v3 v4, xs = [v2, v3, v4] ∧ PD H n v2 (.str x) ∧ PD H n v3 (.str y) := by
            cases pr with
            | cons p2 pr => cases pr with
              | cons p3 pr => cases pr with
                | cons p4 pr => cases pr with
                  | nil => exact ⟨_, _, _, rfl, p2, p3⟩
          have := p2.str_is
          subst this
          have := p3.str_is
          subst this
          exact iteTb (decide_eq_true k3) ⟨_, rfl, a, _, _, .str x, rfl, rfl, SqT.of ha2, rfl, _, rfl, a, _, _, .str y, rfl, rfl, SqT.of ha2, rfl, (by show 2 ≤ sizeLine; decide), fun l hl => q l _ (s2.upd hl) (s2.free hl) upd_same⟩
        · exact iteFb (decide_eq_false k3) ⟨rfl, k3, rfl⟩
      rintro _ _ ⟨rfl, k3, rfl⟩
      refine ⟨fun σ' H' => Same H H' ∧ clW c.hw ≠ 4 ∧ σ' = [some (.ref a), some (.str c.hw), none, none], ?_, ?_⟩
      · refine ⟨_, rfl, (by show 2 ≤ sizeLine; decide), fun t ht => ⟨t, _, rfl, .inr (SqT.of upd_same), rfl, rfl, _, rfl, ?_⟩⟩
        have ie : inV (.str c.hw) [.str "each", .str "some"] = decide (clW c.hw = 4) := by
          have h := inV_str c.hw ["each", "some"]
          rw [show ([("each" : Str), "some"].map V.str) = [.str "each", .str "some"] from rfl] at h
          rw [h, show decide (c.hw ∈ [("each" : Str), "some"]) = evB c.hw from by unfold evB; rw [Bool.eq_iff_iff]; simp]
          by_cases k4 : clW c.hw = 4
          · rw [decide_eq_true k4]; exact cl_ev k4
          · rw [decide_eq_false k4]; exact cl_no k4
        show if (if false = true then !inV (.str c.hw) [.str "each", .str "some"] else inV (.str c.hw) [.str "each", .str "some"]) = true then _ else _
        rw [show (if false = true then !inV (.str c.hw) [.str "each", .str "some"] else inV (.str c.hw) [.str "each", .str "some"]) = decide (clW c.hw = 4) from ie]
        have z := s2.upd (o := .tup [.str "each", .str "some"]) ht
        have ha3 := z _ _ ha
        by_cases k4 : clW c.hw = 4
        · obtain ⟨w', x, kd, c', rfl⟩ := cls4 wf k4
          cases eds
          have hd : 1 + max kd.dep c'.dep ≤ n + 1 := hd
          obtain ⟨v2, v3, v4, rfl, p2, p3, p4⟩ : ∃ v2 v3 v4, xs = [v2, v3, v4] ∧ PD H n v2 (.str x) ∧ PD H n v3 kd.dat ∧ PD H n v4 c'.dat := by
            cases pr with
            | cons p2 pr => cases pr with
              | cons p3 pr => cases pr with
                | cons p4 pr => cases pr with
                  | nil => exact ⟨_, _, _, rfl, p2, p3, p4⟩
          have := p2.str_is
          subst this
          have d1 : kd.dep ≤ n := by omega
          have d2 : c'.dep ≤ n := by omega
          have l1 := names_len wf.2.1 d1 n9
          have l2 := names_len wf.2.2 d2 n9
          generalize upd H2 t (.tup [.str "each", .str "some"]) = H3 at z ha3
          refine iteTb (decide_eq_true k4) ⟨_, rfl, a, _, _, v3, rfl, rfl, SqT.of ha3, rfl, v3, kd, rfl, p3.same z, wf.2.1, d1, n9, fun n1 H4 s4 f4 e4 => ?_⟩
          have ha4 := s4 _ _ ha3
          refine ⟨_, rfl, a, _, _, v4, rfl, rfl, SqT.of ha4, rfl, v4, c', rfl, p4.same (z.trans s4), wf.2.2, d2, n9, fun n2 H5 s5 f5 e5 => ?_⟩
          have ha5 := s5 _ _ ha4
          refine ⟨n2, rfl, ⟨_, SqL.of e5⟩, comp_list (K := K) (ys := c'.names.map V.str) (fun i acc σ' H' => H' = H5 ∧ acc = ((c'.names.take i).filter fun y => !decide (y = x)).map V.str ∧ ∃ o, σ' = [o, some (.ref a)])
            ⟨rfl, rfl, none, rfl⟩ (fun i acc σ' H' h => ?_) (by rw [List.length_map]; exact Nat.le_trans l2 (by decide)) (fun i acc σ' H' _ h => by rw [h.1]; exact SqL.of e5) (fun i y acc σ' H' hy h => ?_) (fun acc σ' H' h l hl => ?_)⟩
          · rw [h.2.1, List.length_map]
            refine Nat.le_trans (List.length_filter_le _ _) ?_
            rw [List.length_take]
            omega
          · obtain ⟨rfl, rfl, o, rfl⟩ := h
            rw [List.getElem?_map] at hy
            cases hx : c'.names[i]? with
            | none => rw [hx] at hy; cases hy
            | some y' =>
              rw [hx] at hy
              cases hy
              refine ⟨_, rfl, _, rfl, a, _, _, .str x, rfl, rfl, SqT.of ha5, rfl, rfl, _, rfl, ?_⟩
              rw [eq_V]
              have tk : c'.names.take (i + 1) = c'.names.take i ++ [y'] := by rw [List.take_add_one, hx]; rfl
              by_cases hb : y' = x
              · refine iteFb (by simp [hb]) ⟨rfl, ?_, _, rfl⟩
                rw [tk, List.filter_append, List.filter_cons_of_neg (by simp [hb]), List.filter_nil, List.append_nil]
              · refine iteTb (by simp [hb]) ⟨_, rfl, rfl, ?_, _, rfl⟩
                rw [tk, List.filter_append, List.filter_cons_of_pos (by simp [hb]), List.map_append]
                rfl
          · obtain ⟨rfl, rfl, o, rfl⟩ := h
            rw [List.length_map, List.take_length]
            have zl := Same.new (o := .lst ((c'.names.filter fun y => !decide (y = x)).map V.str)) hl
            refine ⟨n1, l, _, _, rfl, rfl, zl _ _ (s5 _ _ e4), upd_same, Nat.le_trans (by rw [List.length_map, List.length_map]; exact Nat.add_le_add l1 (Nat.le_trans (List.length_filter_le _ _) l2)) (by decide), fun p hp => ?_⟩
            have sz := ((z.trans s4).trans s5).trans zl
            refine q p _ (sz.upd hp) (sz.free hp) ?_
            rw [upd_same, ← List.map_append]
            rfl
        · exact iteFb (decide_eq_false k4) ⟨z, k4, rfl⟩
      rintro _ H3 ⟨s3, k4, rfl⟩
      obtain ⟨ds, nms, ed, pn, en, dl⟩ := cls5 wf hd k0 k1 k2 k3 k4
      rw [eds] at ed
      cases ed
      have ha3 := s3 _ _ ha
      have hl := Paired.length pr
      have hl2 := Paired.length pn
      refine ⟨by decide, fun fl hfl => ?_⟩
      have s4 := s3.upd (o := .lst []) hfl
      have e4 : (upd H3 fl (.lst [])) fl = some (.lst []) := upd_same
      have f4 := s3.free hfl
      generalize upd H3 fl (.lst []) = H4 at s4 e4
      refine ⟨_, rfl, _, rfl, a, _, rfl, SqT.of (s4 _ _ ha), cut1_not, fun t ht => ?_⟩
      rw [cut1]
      have s5 := s4.upd (o := .tup xs) ht
      have e5 : (upd H4 t (.tup xs)) fl = some (.lst []) := (Same.new ht) _ _ e4
      have e6 : (upd H4 t (.tup xs)) t = some (.tup xs) := upd_same
      generalize upd H4 t (.tup xs) = H5 at s5 e5 e6
      have nl := names_len wf hd hn
      refine ⟨t, rfl, ⟨_, SqT.of e6⟩, for_tup (K := K) (a := t) (xs := xs) (fun i σ' H' => Same H H' ∧ H' t = some (.tup xs) ∧ ∃ l o, H l = none ∧ H' l = some (.lst ((nms.take i).flatten.map V.str)) ∧ σ' = [some (.ref a), some (.str c.hw), some (.ref l), o])
        ⟨s5, e6, fl, none, f4, e5, rfl⟩ (fun i σ' H' _ h => SqT.of h.2.1) (fun i y σ' H' hy h => ?_) (fun σ' H' h => ?_)⟩
      · obtain ⟨sH, eT, l, o, fl0, el, rfl⟩ := h
        obtain ⟨d, hd', pdi⟩ := pair_get pr hy
        obtain ⟨lm, hlm, pt⟩ := pair_get pn hd'
        obtain ⟨ty, tyv, _, _, kt⟩ := (pdi.same sH).ty3 (K := K)
        have tk : nms.take (i + 1) = nms.take i ++ [lm] := by rw [List.take_add_one, hlm]; rfl
        have ln : ((nms.take i).flatten).length ≤ 1000000 := by
          rw [en] at nl
          refine Nat.le_trans ?_ nl
          have : nms.flatten = (nms.take i).flatten ++ (nms.drop i).flatten := by rw [← List.flatten_append, List.take_append_drop]
          rw [this, List.length_append]
          omega
        rcases pt with ⟨tt, rfl, w1, d1, rfl⟩ | ⟨z, rfl, rfl⟩
        · rw [isTu_dat] at kt
          refine ⟨_, rfl, y, "tuple", ty, _, rfl, tyv, kt, _, rfl, iteT ⟨_, rfl, _, rfl, y, tt, rfl, pdi.same sH, w1, d1, n9, fun n1 H6 s6 f6 e6' => ⟨l, n1, _, _, rfl, rfl, s6 _ _ el, e6', Nat.le_trans (by rw [List.length_map, List.length_map]; exact Nat.add_le_add ln (names_len w1 d1 n9)) (by decide), fun p hp => ?_⟩⟩⟩
          have sz := sH.trans s6
          refine ⟨sz.upd hp, (Same.new hp) _ _ (s6 _ _ eT), p, _, sz.free hp, ?_, rfl⟩
          rw [upd_same, ← List.map_append, tk, List.flatten_append]
          simp
        · refine ⟨_, rfl, y, "tuple", ty, _, rfl, tyv, kt, _, rfl, iteF ⟨sH, eT, l, _, fl0, ?_, rfl⟩⟩
          rw [tk, List.flatten_append]
          simp only [List.flatten_cons, List.flatten_nil, List.append_nil]
          exact el
      · obtain ⟨sH, _, l, o, fl0, el, rfl⟩ := h
        rw [hl, hl2, List.take_length, ← en] at el
        exact ⟨_, rfl, q l _ sH fl0 el⟩
theorem can_lnm (hF : ∃ f fd, Fun K "_law_names" "_law_names" s_l_names f fd ∧ mg "_law_names" = some (.ref f)) (T : Txt K mg C) : ∀ n : Nat, Can P w K mg base n "_law_names" ["_law_thing"] (spNames n)
  | 0 => can_voidG7 0 hF (fun _ _ F => F.binds fun _ _ _ _ _ _ us hl => match us, hl with | [_], _ => rfl) fun vs H Q E h => by
    obtain ⟨v, c, _, _, _, hd, _⟩ := h
    cases c <;> exact absurd hd (by first | (show ¬ (1 ≤ 0); decide) | (show ¬ (2 ≤ 0); decide) | (show ¬ (1 + _ ≤ 0); omega))
  | n + 1 => by
    obtain ⟨f, fd, F, m⟩ := id hF
    exact ⟨f, fd, ok_lnmS F T (can_lnm hF T n), m, F.kp, F.binds fun _ _ _ _ _ _ us hl => match us, hl with | [_], _ => rfl⟩
end
end Net

namespace L2
open PySem PySem.Spec PyProof.Rows
theorem pg_tupC {X : Cx} {es : List Expr} {k : Nat} {t : TGs} {n : Nat} {pos : Pos} (K : PySem.W.Frag) (hK : X.K = K) (hc : X.calm = true) (h : PGs X es t)
    (hn : (assignEach es X.env).length = n := by rfl) (hst : (assignEach es X.env).findIdx? (·.1) = none := by rfl) : PG X (.Tuple es k pos) (gTup K n t) := by
  subst hK
  exact pg_tup hc h hn hst
end L2
namespace Net
open PySem L2
/-! ### sets that are drawn -/
theorem cut_strs (fs : List Str) (lo hi : Option Int) : ∃ gs : List Str, cutV (fs.map V.str) lo hi = gs.map V.str ∧ gs.length ≤ fs.length ∧ ∀ x ∈ gs, x ∈ fs := by
  refine ⟨(fs.drop (HT.sIx (fs.map V.str).length 0 lo)).take (HT.sIx (fs.map V.str).length (fs.map V.str).length hi - HT.sIx (fs.map V.str).length 0 lo), ?_, ?_, fun x hx => List.mem_of_mem_drop (List.mem_of_mem_take hx)⟩
  · unfold cutV
    rw [List.map_take, List.map_drop]
  · rw [List.length_take, List.length_drop]
    omega
structure FndAt (ok : Str → Prop) (H0 H' : Hp) (fl : Addr) (n : Nat) (fs : List Str) : Prop where
  same : Same H0 H'
  fr : H0 fl = none
  ob : H' fl = some (.lst (fs.map V.str))
  len : fs.length ≤ n
  sub : ∀ x ∈ fs, ok x
theorem FndAt.up {ok : Str → Prop} {H0 H' H2 : Hp} {fl : Addr} {n : Nat} {fs : List Str} (f : FndAt ok H0 H' fl n fs) (s : Same H' H2) : FndAt ok H0 H2 fl n fs := ⟨f.same.trans s, f.fr, s _ _ f.ob, f.len, f.sub⟩
theorem FndAt.mono {ok : Str → Prop} {H0 H' : Hp} {fl : Addr} {n m : Nat} {fs : List Str} (f : FndAt ok H0 H' fl n fs) (h : n ≤ m) : FndAt ok H0 H' fl m fs := ⟨f.same, f.fr, f.ob, Nat.le_trans f.len h, f.sub⟩
theorem pick_pl {pl : List Str} (h : 1 ≤ pl.length) (z : Int) : ∃ y ∈ pl, atI (pl.map V.str) (z % ((pl.map V.str).length : Int)) = some (V.str y) := by
  obtain ⟨j, hj, e⟩ := emod_nat z h
  have e' := List.getElem?_eq_getElem hj
  rw [List.length_map, e]
  exact ⟨_, List.mem_of_getElem? e', atI_nat (by rw [List.getElem?_map, e']; rfl)⟩
theorem pd_s {H : Hp} {n : Nat} {x : Str} (h : PyData.strOk x = true) : PD H n (.str x) (.str x) := by cases n <;> exact ⟨h, rfl⟩
theorem pd_i {H : Hp} {n : Nat} {z : Int} : PD H n (.int z) (.int z) := by cases n <;> exact rfl
theorem pd_strs {H : Hp} {n : Nat} : ∀ {ws : List Str}, (∀ x ∈ ws, PyData.strOk x = true) → Paired (PD H n) (ws.map V.str) (ws.map PyData.str)
  | [], _ => .nil
  | x :: r, ok => .cons (pd_s (ok x List.mem_cons_self)) (pd_strs fun y hy => ok y (List.mem_cons_of_mem _ hy))
def spKind7 : Sp := fun vs H Q _ => ∃ (c : Int) (pa : Addr) (ns : List Str), vs = [.int c, .ref pa] ∧ H pa = some (.lst (ns.map V.str)) ∧ 1 ≤ ns.length ∧ ns.length ≤ 11 ∧ (∀ x ∈ ns, PyData.strOk x = true) ∧
  ∀ (v : V) (t : Th) (H' : Hp), Same H H' → PD H' 2 v t.dat → t.wf → t.dep ≤ 2 → (∀ x ∈ t.names, x ∈ ns) → Q v H'
section
variable {P : Program} {w : World} {K : PySem.W.Frag} {mg : Str → Option Value} {base : Heap} {C : Addr}
theorem sc_kind7 : FnScope ["_law_cell", "_law_names_here", "_law_one_here", "_law_some"] ["_law_cell", "_law_names_here"] (defScope s_l_kind) := ⟨rfl, rfl, rfl, by decide +kernel, rfl, by decide +kernel, by decide +kernel⟩
theorem ok_kind7 {f : Addr} {fd : FuncData} (F : Fun K "_law_kind" "_law_kind" s_l_kind f fd) (T : Txt K mg C) (TM : TxtM mg) (hrev : mg "reversed" = none) : FnOk P w K mg base CX0 1 f fd ["_law_cell", "_law_names_here"] spKind7 := by
  refine F.ok sc_kind7 (fun vs H Q E h => ?_) (fun cdv A outer s H vs Q E hr h => ?_)
  · obtain ⟨c, pa, ns, rfl, _⟩ := h
    rfl
  · obtain ⟨c, pa, ns, rfl, hpa, h1, h6, hs, q⟩ := h
    have nd3 : List.Nodup (["_law_k", "_law_name_here", "_law_cell"] : List Str) := by decide +kernel
    have nd1 : List.Nodup (["_law_one_here"] : List Str) := by decide +kernel
    refine ⟨_, (pss_cons (ps_set (i := 2) sc_kind7.nd rfl (Or.inl rfl) (pe_ix ix_list (pv 1) (pe_op op_mod (pe_op op_fdiv (pv 0) pe_int) (pe_callB call_len_seq (by rfl) T.len b_len (pa_cons (pv 1) pa_nil))) (fun _ _ => by rfl)))
      (pss_cons (ps_if (pt_cmpR op_eq (pe_op op_mod (pv 0) pe_int) pe_int (nomark _)) (pss_one (ps_ret (pe_tup (pa_cons pe_str pa_nil)))) pss_nil)
      (pss_cons (ps_if (pt_cmpR op_eq (pe_op op_mod (pv 0) pe_int) pe_int (nomark _)) (pss_one (ps_ret (pe_tup (pa_cons pe_str (pa_cons (pv 2) pa_nil))))) pss_nil)
      (pss_cons (ps_if (pt_cmpR op_eq (pe_op op_mod (pv 0) pe_int) pe_int (nomark _)) (pss_one (ps_ret (pe_tup (pa_cons pe_str (pa_cons (pv 2) pa_nil))))) pss_nil)
      (pss_cutE (ps_comp (j := 3) (N := ["_law_k", "_law_name_here", "_law_cell"]) (xs := 2) (js := [0]) rfl sc_kind7.nd rfl rfl (compScope_of rfl) (pi_enum rfl TM.enum (pa_cons (pv 1) pa_nil))
          (fun _ _ _ _ => pg_tupC (n := 2) K (by rfl) (by rfl) (pgs_cons (pg_name (i := 0) nd3 rfl (Or.inl rfl)) (pgs_cons (pg_name (i := 1) nd3 rfl (Or.inl rfl)) pgs_nil)))
          (fun _ _ _ _ => pts_one (pt_cmpR op_gt (pe_op op_mod (pe_op op_fdiv (pv 2) (pe_op op_add pe_int (pv 0))) pe_int) pe_int (nomark _))) (fun _ _ _ _ => pv 1) rfl)
      (pss_cutE (ps_if (pt_cmpR op_eq (pe_op op_mod (pe_op op_fdiv (pv 0) pe_int) pe_int) pe_int (nomark _))
          (pss_one (ps_set (i := 3) sc_kind7.nd rfl (Or.inl rfl) (pe_op op_cat (pe_comp (N := ["_law_one_here"]) (xs := 1) (js := []) rfl (compScope_of rfl) (pi_rev rfl hrev (pa_cons (pv 3) pa_nil)) (fun _ _ _ _ => pg_name (i := 0) nd1 rfl (Or.inl rfl)) (fun _ _ _ _ => pts_nil) (fun _ _ _ _ => pv 0))
            (pe_slice sl_list (pv 3) po_none (po_some pe_int))))) pss_nil)
      (pss_one (ps_ret (pe_tup (pa_cons pe_str (pa_cons (pv 3) pa_nil))))))))))), ?_⟩
    obtain ⟨y, hy, ey⟩ := pick_pl h1 (c / 4)
    refine ⟨_, rfl, _, rfl, _, _, rfl, rfl, ⟨by decide, by decide⟩, _, rfl, pa, _, rfl, .inl (SqL.of hpa), _, _, rfl, rfl, (by rw [List.length_map]; omega), pa, _, _, .str y, rfl, rfl, SqL.of hpa, ey, ?_⟩
    refine ⟨_, rfl, _, _, rfl, rfl, (by show (0 : Int) < 4; decide), rfl, _, rfl, ite2 (fun _ => ?_) (fun _ => ?_)⟩
    · exact ⟨(by show 1 ≤ sizeLine; decide), fun t ht => q (.ref t) (.wd "all") _ (Same.new ht) (.inr ⟨_, _, upd_same, rfl, .cons (pd_s (by decide +kernel)) .nil⟩) (by show clW "all" = 0; decide +kernel) (by show 1 ≤ 2; decide) fun _ h => nomatch h⟩
    refine ⟨_, rfl, _, _, rfl, rfl, (by show (0 : Int) < 4; decide), rfl, _, rfl, ite2 (fun _ => ?_) (fun _ => ?_)⟩
    · exact ⟨_, rfl, (by show 2 ≤ sizeLine; decide), fun t ht => q (.ref t) (.nm "from" [y]) _ (Same.new ht) (.inr ⟨_, _, upd_same, rfl, .cons (pd_s (by decide +kernel)) (.cons (pd_s (hs y hy)) .nil)⟩) ⟨by decide +kernel, by show 1 ≤ 3; decide⟩ (by show 1 ≤ 2; decide) fun x hx => by rw [List.mem_singleton.mp hx]; exact hy⟩
    refine ⟨_, rfl, _, _, rfl, rfl, (by show (0 : Int) < 4; decide), rfl, _, rfl, ite2 (fun _ => ?_) (fun _ => ?_)⟩
    · exact ⟨_, rfl, (by show 2 ≤ sizeLine; decide), fun t ht => q (.ref t) (.nm "to" [y]) _ (Same.new ht) (.inr ⟨_, _, upd_same, rfl, .cons (pd_s (by decide +kernel)) (.cons (pd_s (hs y hy)) .nil)⟩) ⟨by decide +kernel, by show 1 ≤ 3; decide⟩ (by show 1 ≤ 2; decide) fun x hx => by rw [List.mem_singleton.mp hx]; exact hy⟩
    refine ⟨fun σ2 H2 => ∃ fl fs, σ2 = [some (.int c), some (.ref pa), some (.str y), some (.ref fl)] ∧ FndAt (· ∈ ns) H H2 fl 11 fs, ?_, ?_⟩
    · refine ⟨_, rfl, pa, rfl, ⟨_, SqL.of hpa⟩, comp_enum (K := K) (ys := ns.map V.str) (fun j acc σ' H2 => Same H H2 ∧ ∃ ws : List Str, acc = ws.map V.str ∧ ws.length ≤ j ∧ (∀ x ∈ ws, x ∈ ns) ∧ ∃ u1 u2, σ' = [u1, u2, some (.int c)])
        ⟨Same.refl _, [], rfl, Nat.le_refl _, fun _ h => (nomatch h), none, none, rfl⟩ (fun j acc σ' H2 h => ?_) ?_ (fun j acc σ' H2 _ h => SqL.of (h.1 _ _ hpa)) (fun j x acc σ' H2 t hx h ht => ?_) (fun acc σ' H2 h p hp => ?_)⟩
      · obtain ⟨_, ws, rfl, hl, _⟩ := h
        rw [List.length_map]
        exact hl
      · rw [List.length_map]
        exact Nat.le_trans h6 (by decide)
      · obtain ⟨s1, ws, rfl, hl, hw, u1, u2, rfl⟩ := h
        have hj : j < (ns.map V.str).length := (List.getElem?_eq_some_iff.mp hx).1
        rw [List.length_map] at hj
        rw [List.getElem?_map] at hx
        cases ey : ns[j]? with
        | none => rw [ey] at hx; cases hx
        | some y =>
          rw [ey] at hx
          cases hx
          refine ⟨t, _, rfl, SqT.of upd_same, rfl, _, _, rfl, _, _, rfl, rfl, ?_⟩
          refine ⟨_, rfl, _, rfl, _, _, rfl, rfl, _, _, rfl, rfl, ⟨by omega, by omega⟩, _, _, rfl, rfl, (by show (0 : Int) < 3; decide), _, _, rfl, rfl, _, rfl, ite2 (fun _ => ?_) (fun _ => ?_)⟩
          · refine ⟨_, rfl, s1.upd ht, ws ++ [y], by rw [List.map_append]; rfl, by rw [List.length_append]; exact Nat.succ_le_succ hl, fun x hx => ?_, _, _, rfl⟩
            rcases List.mem_append.mp hx with hx | hx
            · exact hw x hx
            · rw [List.mem_singleton.mp hx]; exact List.mem_of_getElem? ey
          · exact ⟨s1.upd ht, ws, rfl, Nat.le_succ_of_le hl, hw, _, _, rfl⟩
      · obtain ⟨s1, ws, rfl, hl, hw, u1, u2, rfl⟩ := h
        rw [List.length_map] at hl
        exact ⟨p, ws, rfl, s1.upd hp, s1.free hp, upd_same, Nat.le_trans hl h6, hw⟩
    rintro σ2 H2 ⟨fl, fs, rfl, f⟩
    refine ⟨fun σ2 H2 => ∃ fl fs, σ2 = [some (.int c), some (.ref pa), some (.str y), some (.ref fl)] ∧ FndAt (· ∈ ns) H H2 fl 12 fs, ?_, ?_⟩
    · refine ⟨_, rfl, _, _, rfl, rfl, ⟨by decide, by decide⟩, _, _, rfl, rfl, (by show (0 : Int) < 5; decide), rfl, _, rfl, ite2 (fun _ => ?_) (fun _ => ⟨fl, fs, rfl, f.mono (by decide)⟩)⟩
      refine ⟨_, rfl, fl, _, rfl, SqL.of f.ob, comp_rev (K := K) (ys := fs.map V.str) (fun i acc σ' H' => H' = H2 ∧ ∃ ws : List Str, acc = ws.map V.str ∧ ws.length ≤ i ∧ (∀ x ∈ ws, x ∈ ns) ∧ ∃ o, σ' = [o])
        ⟨rfl, [], rfl, Nat.le_refl _, fun _ h => (nomatch h), none, rfl⟩ (fun j acc σ' H' h => ?_) ?_ (fun j acc σ' H' _ h => by rw [h.1]; exact SqL.of f.ob) (fun j x acc σ' H' hx h => ?_) (fun acc σ' H' h p hp => ?_)⟩
      · obtain ⟨_, ws, rfl, hl, _⟩ := h
        rw [List.length_map]
        exact hl
      · rw [List.length_map]
        exact Nat.le_trans f.len (by decide)
      · obtain ⟨rfl, ws, rfl, hl, hw, o, rfl⟩ := h
        rw [List.getElem?_map] at hx
        cases ez : fs[(fs.map V.str).length - 1 - j]? with
        | none => rw [ez] at hx; cases hx
        | some z =>
          rw [ez] at hx
          cases hx
          refine ⟨_, rfl, rfl, ws ++ [z], by rw [List.map_append]; rfl, by rw [List.length_append]; exact Nat.succ_le_succ hl, fun x hx => ?_, _, rfl⟩
          rcases List.mem_append.mp hx with hx | hx
          · exact hw x hx
          · rw [List.mem_singleton.mp hx]; exact f.sub _ (List.mem_of_getElem? ez)
      · obtain ⟨rfl, ws, rfl, hl, hw, o, rfl⟩ := h
        rw [List.length_map] at hl
        have f2 := f.up (Same.new (o := .lst (ws.map V.str)) hp)
        have ep : (upd H' p (.lst (ws.map V.str))) p = some (.lst (ws.map V.str)) := upd_same
        generalize upd H' p (.lst (ws.map V.str)) = H3 at f2 ep
        refine ⟨_, rfl, _, rfl, fl, _, rfl, SqL.of f2.ob, fun p2 hp2 => ?_⟩
        obtain ⟨gs, eg, lg, hg⟩ := cut_strs fs none (some 1)
        have lg1 : gs.length ≤ 1 := by
          have := congrArg List.length eg
          unfold cutV at this
          rw [show (some (1 : Int)) = some ((1 : Nat) : Int) from rfl, HT.sIx_nat, HT.sIx_none, List.length_take] at this
          simp only [List.length_map, List.drop_zero] at this
          omega
        rw [eg]
        have := f.len
        refine ⟨p, p2, _, _, rfl, rfl, (Same.new hp2) _ _ ep, upd_same, ?_, fun p3 hp3 => ⟨p3, ws ++ gs, rfl, (f2.same.upd hp2).upd hp3, (f2.same.upd hp2).free hp3, by rw [upd_same, List.map_append], by rw [List.length_append]; omega, fun x hx => ?_⟩⟩
        · rw [List.length_map, List.length_map]
          exact Nat.le_trans (show ws.length + gs.length ≤ 100 by omega) (by decide)
        · rcases List.mem_append.mp hx with hx | hx
          · exact hw x hx
          · exact f.sub x (hg x hx)
    rintro σ3 H3 ⟨fl, fs, rfl, f⟩
    refine ⟨_, rfl, (by show 2 ≤ sizeLine; decide), fun t ht => q (.ref t) (.these fs) _ (f.same.upd ht) (.inr ⟨_, _, upd_same, rfl, .cons (pd_s (by decide +kernel)) (.cons (.inl ⟨_, _, (Same.new ht) _ _ f.ob, rfl, pd_strs fun x hx => hs x (f.sub x hx)⟩) .nil)⟩) f.len (Nat.le_refl 2) f.sub⟩
end
end Net

namespace Net
open PySem L2
/-! ### terms and claims that are drawn -/
def spTerm7 (N : Nat) : Sp := fun vs H Q _ => ∃ (ca pa : Addr) (cs ns' : List Int) (ns : List Str) (at_ z : Int), vs = [.ref ca, .int at_, .int z, .ref pa] ∧ z = (N : Int) ∧ H ca = some (.lst (cs.map V.int)) ∧ 1 ≤ cs.length ∧ cs.length ≤ 100 ∧ H pa = some (.lst (ns.map V.str)) ∧ 1 ≤ ns.length ∧ ns.length ≤ 11 ∧ (∀ x ∈ ns, PyData.strOk x = true) ∧
  ∀ (v : V) (t : Th) (H' : Hp), Same H H' → PD H' (N + 3) v t.dat → t.wf → t.dep ≤ N + 3 → (∀ x ∈ t.names, x ∈ ns) → Q v H'
theorem int_V7 (x y : Int) : decide (V.int x = V.int y) = decide (x = y) := by
  by_cases h : x = y
  · rw [h, decide_eq_true rfl, decide_eq_true rfl]
  · rw [decide_eq_false h, decide_eq_false (fun z => h (V.int.inj z))]
theorem pick_i {cs : List Int} (h : 1 ≤ cs.length) (z : Int) : ∃ y, atI (cs.map V.int) (z % ((cs.map V.int).length : Int)) = some (V.int y) := by
  obtain ⟨j, hj, e⟩ := emod_nat z h
  have e' := List.getElem?_eq_getElem hj
  rw [List.length_map, e]
  exact ⟨_, atI_nat (by rw [List.getElem?_map, e']; rfl)⟩
theorem pick3 (a b c : Str) (z : Int) (h0 : 0 ≤ z) (h3 : z < 3) : ∃ y ∈ [a, b, c], atI [V.str a, .str b, .str c] z = some (V.str y) := by
  obtain ⟨j, rfl⟩ : ∃ j : Nat, z = (j : Int) := ⟨z.toNat, by omega⟩
  have hj : j < 3 := by omega
  match j, hj with
  | 0, _ => exact ⟨a, by simp, atI_nat (j := 0) rfl⟩
  | 1, _ => exact ⟨b, by simp, atI_nat (j := 1) rfl⟩
  | 2, _ => exact ⟨c, by simp, atI_nat (j := 2) rfl⟩
theorem pick2 (a b : Str) (z : Int) (h0 : 0 ≤ z) (h3 : z < 2) : ∃ y ∈ [a, b], atI [V.str a, .str b] z = some (V.str y) := by
  obtain ⟨j, rfl⟩ : ∃ j : Nat, z = (j : Int) := ⟨z.toNat, by omega⟩
  have hj : j < 2 := by omega
  match j, hj with
  | 0, _ => exact ⟨a, by simp, atI_nat (j := 0) rfl⟩
  | 1, _ => exact ⟨b, by simp, atI_nat (j := 1) rfl⟩
theorem pick4 (a b c d : Str) (z : Int) (h0 : 0 ≤ z) (h3 : z < 4) : ∃ y ∈ [a, b, c, d], atI [V.str a, .str b, .str c, .str d] z = some (V.str y) := by
  obtain ⟨j, rfl⟩ : ∃ j : Nat, z = (j : Int) := ⟨z.toNat, by omega⟩
  have hj : j < 4 := by omega
  match j, hj with
  | 0, _ => exact ⟨a, by simp, atI_nat (j := 0) rfl⟩
  | 1, _ => exact ⟨b, by simp, atI_nat (j := 1) rfl⟩
  | 2, _ => exact ⟨c, by simp, atI_nat (j := 2) rfl⟩
  | 3, _ => exact ⟨d, by simp, atI_nat (j := 3) rfl⟩
theorem PD.monoK {H : Hp} {k m : Nat} {v : V} {d : PyData} (h : k ≤ m) (p : PD H k v d) : PD H m v d := by
  obtain ⟨j, rfl⟩ : ∃ j, m = k + j := ⟨m - k, by omega⟩
  exact p.mono j
theorem cl3 {y : Str} (h : y ∈ [("flow" : Str), "apart", "bare"]) : clW y = 2 ∧ PyData.strOk y = true := by
  simp only [List.mem_cons, List.not_mem_nil, or_false] at h
  rcases h with rfl | rfl | rfl <;> decide +kernel
theorem cl5 {y : Str} (h : y ∈ [("plus" : Str), "least", "most"]) : clW y = 5 ∧ PyData.strOk y = true := by
  simp only [List.mem_cons, List.not_mem_nil, or_false] at h
  rcases h with rfl | rfl | rfl <;> decide +kernel
section
variable {P : Program} {w : World} {K : PySem.W.Frag} {mg : Str → Option Value} {base : Heap} {C : Addr}
abbrev Nterm7 : List Str := ["_law_cells", "_law_at", "_law_deep", "_law_names_here", "_law_cell", "_law_some", "_law_way", "_law_one_here"]
theorem sc_term7 : FnScope Nterm7 ["_law_cells", "_law_at", "_law_deep", "_law_names_here"] (defScope s_l_term) := ⟨rfl, rfl, rfl, by decide +kernel, rfl, by decide +kernel, by decide +kernel⟩
theorem ok_term7 {f : Addr} {fd : FuncData} {N k : Nat} {spA : Sp} (F : Fun K "_law_term" "_law_term" s_l_term f fd) (T : Txt K mg C) (hk : 1 ≤ k) (ck : Can P w K mg base 1 "_law_kind" ["_law_cell", "_law_names_here"] spKind7) (ih : Can P w K mg base k "_law_term" ["_law_cells", "_law_at", "_law_deep", "_law_names_here"] spA) (hA : ∀ M, N = M + 1 → spA = spTerm7 M) : FnOk P w K mg base CX0 (k + 1) f fd ["_law_cells", "_law_at", "_law_deep", "_law_names_here"] (spTerm7 N) := by
  refine F.ok sc_term7 (fun vs H Q E h => ?_) (fun cdv A outer s H vs Q E hr h => ?_)
  · obtain ⟨ca, pa, cs, ns', ns, at_, z, rfl, _⟩ := h
    rfl
  · obtain ⟨ca, pa, cs, ns', ns, at_, z, rfl, rfl, hca, c1, c100, hpa, n1, n11, hs, q⟩ := h
    have r1 : Room 1 _ := hr.mono hk
    refine ⟨_, (pss_cons (ps_set (i := 4) sc_term7.nd rfl (Or.inl rfl) (pe_ix ix_list (pv 0) (pe_op op_mod (pv 1) (pe_callB call_len_seq (by rfl) T.len b_len (pa_cons (pv 0) pa_nil))) (fun _ _ => by rfl)))
      (pss_cons (ps_set (i := 5) sc_term7.nd rfl (Or.inl rfl) (pe_op op_fdiv (pv 4) pe_int))
      (pss_cons (ps_set (i := 6) sc_term7.nd rfl (Or.inl rfl) (pe_op op_mod (pv 4) pe_int))
      (pss_cutE (ps_if (pt_cmpR op_eq (pv 2) pe_int (nomark _)) (pss_one (ps_set (i := 6) sc_term7.nd rfl (Or.inl rfl) (pe_op op_mod (pv 6) pe_int))) pss_nil)
      (pss_cons (ps_if (pt_cmpR op_eq (pv 6) pe_int (nomark _)) (pss_one (ps_ret (pe_tup (pa_cons pe_str (pa_cons (pe_op op_sub (pe_op op_mod (pv 5) pe_int) pe_int) pa_nil))))) pss_nil)
      (pss_cons (ps_if (pt_cmpR op_eq (pv 6) pe_int (nomark _)) (pss_one (ps_ret (pe_tup (pa_cons pe_str (pa_cons (pe_callC ck r1 (by rfl) (pa_cons (pv 5) (pa_cons (pv 3) pa_nil))) pa_nil))))) pss_nil)
      (pss_cons (ps_if (pt_cmpR op_eq (pv 6) pe_int (nomark _)) (pss_one (ps_ret (pe_tup (pa_cons pe_str (pa_cons (pe_callC ck r1 (by rfl) (pa_cons (pv 5) (pa_cons (pv 3) pa_nil))) (pa_cons (pe_callC ck r1 (by rfl) (pa_cons (pe_op op_fdiv (pv 5) pe_int) (pa_cons (pv 3) pa_nil))) pa_nil)))))) pss_nil)
      (pss_cons (ps_if (pt_cmpR op_lt (pv 6) pe_int (nomark _)) (pss_one (ps_ret (pe_tup (pa_cons (pe_ix ix_list (pe_lst (pa_cons pe_str (pa_cons pe_str (pa_cons pe_str pa_nil)))) (pe_op op_sub (pv 6) pe_int) (fun _ _ => by rfl)) (pa_cons (pe_ix ix_list (pv 3) (pe_op op_mod (pv 5) (pe_callB call_len_seq (by rfl) T.len b_len (pa_cons (pv 3) pa_nil))) (fun _ _ => by rfl)) (pa_cons (pe_ix ix_list (pv 3) (pe_op op_mod (pe_op op_fdiv (pv 5) pe_int) (pe_callB call_len_seq (by rfl) T.len b_len (pa_cons (pv 3) pa_nil))) (fun _ _ => by rfl)) pa_nil)))))) pss_nil)
      (pss_cons (ps_set (i := 7) sc_term7.nd rfl (Or.inl rfl) (pe_callC ih hr (by rfl) (pa_cons (pv 0) (pa_cons (pe_op op_add (pe_op op_mul pe_int (pv 1)) pe_int) (pa_cons (pe_op op_sub (pv 2) pe_int) (pa_cons (pv 3) pa_nil))))))
      (pss_cons (ps_if (pt_cmpR op_eq (pv 6) pe_int (nomark _)) (pss_one (ps_ret (pe_tup (pa_cons pe_str (pa_cons (pe_op op_mod (pv 5) pe_int) (pa_cons (pv 7) pa_nil)))))) pss_nil)
      (pss_one (ps_ret (pe_tup (pa_cons (pe_ix ix_list (pe_lst (pa_cons pe_str (pa_cons pe_str (pa_cons pe_str pa_nil)))) (pe_op op_mod (pv 5) pe_int) (fun _ _ => by rfl)) (pa_cons (pv 7) (pa_cons (pe_callC ih hr (by rfl) (pa_cons (pv 0) (pa_cons (pe_op op_add (pe_op op_mul pe_int (pv 1)) pe_int) (pa_cons (pe_op op_sub (pv 2) pe_int) (pa_cons (pv 3) pa_nil))))) pa_nil)))))))))))))))), ?_⟩
    obtain ⟨c, ec⟩ := pick_i c1 at_
    have lc : ((cs.map V.int).length : Int) = (cs.length : Int) := by rw [List.length_map]
    have ln : ((ns.map V.str).length : Int) = (ns.length : Int) := by rw [List.length_map]
    refine ⟨_, rfl, _, rfl, _, rfl, ca, _, rfl, .inl (SqL.of hca), _, _, rfl, rfl, (by rw [lc]; omega), ca, _, _, .int c, rfl, rfl, SqL.of hca, ec, ?_⟩
    refine ⟨_, rfl, _, _, rfl, rfl, ⟨by decide, by decide⟩, _, rfl, _, _, rfl, rfl, (by show (0 : Int) < 9; decide), ?_⟩
    refine ⟨fun σ' H' => H = H' ∧ ∃ w : Int, 0 ≤ w ∧ w < 9 ∧ (N = 0 → w < 6) ∧ σ' = [some (.ref ca), some (.int at_), some (.int N), some (.ref pa), some (.int c), some (.int (c / 9)), some (.int w), none], ?_, ?_⟩
    · refine ⟨_, rfl, rfl, _, rfl, ?_⟩
      rw [int_V7]
      by_cases h0 : (N : Int) = 0
      · exact iteTb (decide_eq_true h0) ⟨_, rfl, _, _, rfl, rfl, (by show (0 : Int) < 6; decide), rfl, c % 9 % 6, by omega, by omega, fun _ => by omega, rfl⟩
      · exact iteFb (decide_eq_false h0) ⟨rfl, c % 9, by omega, by omega, fun z => absurd (by rw [z]; rfl) h0, rfl⟩
    rintro _ _ ⟨rfl, w, w0, w9, wN, rfl⟩
    generalize hsm : c / 9 = sm
    clear hsm
    refine ⟨_, rfl, rfl, _, rfl, ?_⟩
    rw [int_V7]
    by_cases h0 : w = 0
    · refine iteTb (decide_eq_true h0) ⟨_, rfl, _, _, rfl, rfl, (by show (0 : Int) < 7; decide), _, _, rfl, rfl, (by show 2 ≤ sizeLine; decide), fun t ht => ?_⟩
      exact q (.ref t) (.num (sm % 7 - 2)) _ (Same.new ht) (.inr ⟨_, _, upd_same, rfl, .cons (pd_s (by decide +kernel)) (.cons pd_i .nil)⟩) True.intro (by show 1 ≤ N + 3; omega) fun _ h => nomatch h
    refine iteFb (decide_eq_false h0) ⟨_, rfl, rfl, _, rfl, ?_⟩
    rw [int_V7]
    by_cases h1 : w = 1
    · refine iteTb (decide_eq_true h1) ⟨_, rfl, _, rfl, sm, pa, ns, rfl, hpa, n1, n11, hs, fun v t H1 s1 pd wf dp sub => ⟨(by show 2 ≤ sizeLine; decide), fun t2 ht2 => ?_⟩⟩
      have z := Same.new (o := .tup [.str "size", v]) ht2
      exact q (.ref t2) (.one "size" t) _ (s1.trans z) (.inr ⟨_, _, upd_same, rfl, .cons (pd_s (by decide +kernel)) (.cons ((pd.same z).monoK (by omega)) .nil)⟩) ⟨by decide +kernel, wf⟩ (by show 1 + t.dep ≤ N + 3; omega) sub
    refine iteFb (decide_eq_false h1) ⟨_, rfl, rfl, _, rfl, ?_⟩
    rw [int_V7]
    by_cases h5 : w = 5
    · refine iteTb (decide_eq_true h5) ⟨_, rfl, _, rfl, sm, pa, ns, rfl, hpa, n1, n11, hs, fun v t H1 s1 pd wf dp sub => ⟨_, rfl, _, _, rfl, rfl, ⟨by decide, by decide⟩, _, rfl, _, pa, ns, rfl, s1 _ _ hpa, n1, n11, hs, fun v2 t2 H2 s2 pd2 wf2 dp2 sub2 => ⟨(by show 3 ≤ sizeLine; decide), fun t3 ht3 => ?_⟩⟩⟩
      have z := Same.new (o := .tup [.str "pairs", v, v2]) ht3
      exact q (.ref t3) (.two "pairs" t t2) _ ((s1.trans s2).trans z) (.inr ⟨_, _, upd_same, rfl, .cons (pd_s (by decide +kernel)) (.cons (((pd.same s2).same z).monoK (by omega)) (.cons ((pd2.same z).monoK (by omega)) .nil))⟩) ⟨by decide +kernel, wf, wf2⟩ (by show 1 + max t.dep t2.dep ≤ N + 3; omega) fun x hx => (List.mem_append.mp hx).elim (sub x) (sub2 x)
    refine iteFb (decide_eq_false h5) ⟨_, rfl, _, _, rfl, rfl, _, rfl, ?_⟩
    by_cases h2 : w < 5
    · obtain ⟨y, hy, ey⟩ := pick3 "flow" "apart" "bare" (w - 2) (by omega) (by omega)
      obtain ⟨a, ha, ea⟩ := pick_pl n1 sm
      obtain ⟨b, hb, eb⟩ := pick_pl n1 (sm / 7)
      obtain ⟨k1, k2⟩ := cl3 hy
      refine iteTb (decide_eq_true h2) ⟨(by show 3 ≤ sizeLine; decide), fun l hl => ?_⟩
      have z1 := Same.new (o := .lst [.str "flow", .str "apart", .str "bare"]) hl
      refine ⟨_, rfl, _, _, rfl, rfl, l, _, _, .str y, rfl, rfl, SqL.of upd_same, ey, _, rfl, _, rfl, _, rfl, pa, _, rfl, .inl (SqL.of (z1 _ _ hpa)), _, _, rfl, rfl, (by rw [ln]; omega), pa, _, _, .str a, rfl, rfl, SqL.of (z1 _ _ hpa), ea, _, rfl, _, rfl, _, _, rfl, rfl, ⟨by decide, by decide⟩, _, rfl, pa, _, rfl, .inl (SqL.of (z1 _ _ hpa)), _, _, rfl, rfl, (by rw [ln]; omega), pa, _, _, .str b, rfl, rfl, SqL.of (z1 _ _ hpa), eb, (by show 3 ≤ sizeLine; decide), fun t ht => ?_⟩
      exact q (.ref t) (.nm y [a, b]) _ (z1.upd ht) (.inr ⟨_, _, upd_same, rfl, .cons (pd_s k2) (.cons (pd_s (hs a ha)) (.cons (pd_s (hs b hb)) .nil))⟩) ⟨k1, by show 2 ≤ 3; decide⟩ (by show 1 ≤ N + 3; omega) fun x hx => by
        have hx : x ∈ [a, b] := hx
        simp only [List.mem_cons, List.not_mem_nil, or_false] at hx
        rcases hx with rfl | rfl <;> assumption
    obtain ⟨M, rfl⟩ : ∃ M, N = M + 1 := ⟨N - 1, by
      have : N ≠ 0 := fun z => by have := wN z; omega
      omega⟩
    have hA := hA M rfl
    subst hA
    have em : ((M + 1 : Nat) : Int) - 1 = (M : Int) := by omega
    refine iteFb (decide_eq_false h2) ⟨_, rfl, _, rfl, _, _, rfl, rfl, .inl ⟨by decide, by decide⟩, _, _, rfl, rfl, _, rfl, _, _, rfl, rfl, _, rfl, ca, pa, cs, ns', ns, _, _, rfl, em, hca, c1, c100, hpa, n1, n11, hs, fun v t H1 s1 pd wf dp sub => ?_⟩
    refine ⟨_, rfl, rfl, _, rfl, ?_⟩
    rw [int_V7]
    by_cases h8 : w = 8
    · refine iteTb (decide_eq_true h8) ⟨_, rfl, _, _, rfl, rfl, (by show (0 : Int) < 4; decide), _, rfl, (by show 3 ≤ sizeLine; decide), fun t2 ht2 => ?_⟩
      have z := Same.new (o := .tup [.str "times", .int (sm % 4), v]) ht2
      exact q (.ref t2) (.times (sm % 4) t) _ (s1.trans z) (.inr ⟨_, _, upd_same, rfl, .cons (pd_s (by decide +kernel)) (.cons pd_i (.cons (pd.same z) .nil))⟩) wf (by show 1 + t.dep ≤ M + 1 + 3; omega) sub
    · obtain ⟨y, hy, ey⟩ := pick3 "plus" "least" "most" (sm % 3) (by omega) (by omega)
      obtain ⟨k1, k2⟩ := cl5 hy
      refine iteFb (decide_eq_false h8) ⟨(by show 3 ≤ sizeLine; decide), fun l hl => ?_⟩
      have z1 := Same.new (o := .lst [.str "plus", .str "least", .str "most"]) hl
      refine ⟨_, rfl, _, _, rfl, rfl, (by show (0 : Int) < 3; decide), l, _, _, .str y, rfl, rfl, SqL.of upd_same, ey, _, rfl, _, rfl, _, rfl, _, _, rfl, rfl, .inl ⟨by decide, by decide⟩, _, _, rfl, rfl, _, rfl, _, _, rfl, rfl, _, rfl, ca, pa, cs, ns', ns, _, _, rfl, em, z1 _ _ (s1 _ _ hca), c1, c100, z1 _ _ (s1 _ _ hpa), n1, n11, hs, fun v2 t2 H2 s2 pd2 wf2 dp2 sub2 => ⟨(by show 3 ≤ sizeLine; decide), fun t3 ht3 => ?_⟩⟩
      have z := Same.new (o := .tup [.str y, v, v2]) ht3
      exact q (.ref t3) (.two y t t2) _ (((s1.trans z1).trans s2).trans z) (.inr ⟨_, _, upd_same, rfl, .cons (pd_s k2) (.cons (((pd.same z1).same s2).same z) (.cons (pd2.same z) .nil))⟩) ⟨k1, wf, wf2⟩ (by show 1 + max t.dep t2.dep ≤ M + 1 + 3; omega) fun x hx => (List.mem_append.mp hx).elim (sub x) (sub2 x)
theorem can_term7 (hF : ∃ f fd, Fun K "_law_term" "_law_term" s_l_term f fd ∧ mg "_law_term" = some (.ref f)) (T : Txt K mg C) (ck : Can P w K mg base 1 "_law_kind" ["_law_cell", "_law_names_here"] spKind7) : ∀ N : Nat, Can P w K mg base (N + 2) "_law_term" ["_law_cells", "_law_at", "_law_deep", "_law_names_here"] (spTerm7 N)
  | 0 => by
    obtain ⟨f, fd, F, m⟩ := id hF
    exact ⟨f, fd, ok_term7 F T (by decide) ck (can_void7 1 hF fun _ _ F => F.binds fun _ _ _ _ _ _ us hl => match us, hl with | [_, _, _, _], _ => rfl) (fun M h => nomatch h), m, F.kp, F.binds fun _ _ _ _ _ _ us hl => match us, hl with | [_, _, _, _], _ => rfl⟩
  | N + 1 => by
    obtain ⟨f, fd, F, m⟩ := id hF
    exact ⟨f, fd, ok_term7 F T (by omega) ck (can_term7 hF T ck N) (fun M h => by rw [Nat.succ.inj h]), m, F.kp, F.binds fun _ _ _ _ _ _ us hl => match us, hl with | [_, _, _, _], _ => rfl⟩
end
end Net

namespace Net
open PySem L2
/-! ### claims that are drawn -/
def spTerm01 : Sp := fun vs H Q E => spTerm7 0 vs H Q E ∨ spTerm7 1 vs H Q E
def spClaim7 (N : Nat) : Sp := fun vs H Q _ => ∃ (ca pa : Addr) (cs : List Int) (ns : List Str) (at_ z : Int), vs = [.ref ca, .int at_, .int z, .ref pa] ∧ z = (N : Int) ∧ H ca = some (.lst (cs.map V.int)) ∧ 1 ≤ cs.length ∧ cs.length ≤ 100 ∧ H pa = some (.lst (ns.map V.str)) ∧ 1 ≤ ns.length ∧ 2 * ns.length + N ≤ 22 ∧ (∀ x ∈ ns, PyData.strOk x = true) ∧
  ∀ (v : V) (t : Th) (H' : Hp), Same H H' → PD H' (N + 5) v t.dat → t.wf → t.dep ≤ N + 5 → (∀ x ∈ t.names, x ∈ ns) → Q v H'
theorem clr {y : Str} (h : y ∈ [("ring" : Str), "round"]) : clW y = 0 ∧ PyData.strOk y = true := by
  simp only [List.mem_cons, List.not_mem_nil, or_false] at h
  rcases h with rfl | rfl <;> decide +kernel
theorem cla {y : Str} (h : y ∈ [("and" : Str), "or"]) : clW y = 5 ∧ PyData.strOk y = true := by
  simp only [List.mem_cons, List.not_mem_nil, or_false] at h
  rcases h with rfl | rfl <;> decide +kernel
theorem cle {y : Str} (h : y ∈ [("each" : Str), "some"]) : clW y = 4 ∧ PyData.strOk y = true := by
  simp only [List.mem_cons, List.not_mem_nil, or_false] at h
  rcases h with rfl | rfl <;> decide +kernel
theorem clx {y : Str} (h : y ∈ [("X" : Str), "Y", "XY", "XYZ"]) : PyData.strOk y = true := by
  simp only [List.mem_cons, List.not_mem_nil, or_false] at h
  rcases h with rfl | rfl | rfl | rfl <;> decide +kernel
section
variable {P : Program} {w : World} {K : PySem.W.Frag} {mg : Str → Option Value} {base : Heap} {C : Addr}
theorem can_term01 (hF : ∃ f fd, Fun K "_law_term" "_law_term" s_l_term f fd ∧ mg "_law_term" = some (.ref f)) (T : Txt K mg C) (ck : Can P w K mg base 1 "_law_kind" ["_law_cell", "_law_names_here"] spKind7) : Can P w K mg base 3 "_law_term" ["_law_cells", "_law_at", "_law_deep", "_law_names_here"] spTerm01 := by
  obtain ⟨f, fd, F, m⟩ := id hF
  have a : FnOk P w K mg base CX0 3 f fd _ _ := (ok_term7 (N := 0) (k := 1) F T (by decide) ck (can_void7 1 hF fun _ _ F => F.binds fun _ _ _ _ _ _ us hl => match us, hl with | [_, _, _, _], _ => rfl) (fun M h => nomatch h)).mono (by decide)
  have b : FnOk P w K mg base CX0 3 f fd _ _ := ok_term7 (N := 1) (k := 2) F T (by decide) ck (can_term7 hF T ck 0) (fun M h => by rw [← Nat.succ.inj h])
  exact ⟨f, fd, ⟨fun vs H Q E h => h.elim (a.len vs H Q E) (b.len vs H Q E), fun A outer s H args us vs Q E h1 h2 h3 h4 h => h.elim (a.run A outer s H args us vs Q E h1 h2 h3 h4) (b.run A outer s H args us vs Q E h1 h2 h3 h4)⟩, m, F.kp, F.binds fun _ _ _ _ _ _ us hl => match us, hl with | [_, _, _, _], _ => rfl⟩
theorem term01_of {vs : List V} {H : Hp} {Q : VK} {E : XK} {ca pa : Addr} {cs : List Int} {ns : List Str} {at_ z : Int} (e : vs = [.ref ca, .int at_, .int z, .ref pa]) (hz : z = 0 ∨ z = 1) (hca : H ca = some (.lst (cs.map V.int))) (c1 : 1 ≤ cs.length) (c100 : cs.length ≤ 100) (hpa : H pa = some (.lst (ns.map V.str))) (n1 : 1 ≤ ns.length) (n11 : ns.length ≤ 11) (hs : ∀ x ∈ ns, PyData.strOk x = true)
    (q : ∀ (v : V) (t : Th) (H' : Hp), Same H H' → PD H' 4 v t.dat → t.wf → t.dep ≤ 4 → (∀ x ∈ t.names, x ∈ ns) → Q v H') : spTerm01 vs H Q E := by
  rcases hz with rfl | rfl
  · exact .inl ⟨ca, pa, cs, [], ns, at_, 0, e, rfl, hca, c1, c100, hpa, n1, n11, hs, fun v t H' s1 pd wf dp sub => q v t H' s1 (pd.monoK (by decide)) wf (by omega) sub⟩
  · exact .inr ⟨ca, pa, cs, [], ns, at_, 1, e, rfl, hca, c1, c100, hpa, n1, n11, hs, fun v t H' s1 pd wf dp sub => q v t H' s1 pd wf dp sub⟩
abbrev Nclaim7 : List Str := ["_law_cells", "_law_at", "_law_deep", "_law_names_here", "_law_cell", "_law_some", "_law_a", "_law_b", "_law_way", "_law_one_here", "_law_variable", "_law_inner"]
theorem sc_claim7 : FnScope Nclaim7 ["_law_cells", "_law_at", "_law_deep", "_law_names_here"] (defScope s_l_claim) := ⟨rfl, rfl, rfl, by decide +kernel, rfl, by decide +kernel, by decide +kernel⟩
theorem ok_claim7 {f : Addr} {fd : FuncData} {N k : Nat} {spA spB : Sp} (F : Fun K "_law_claim" "_law_claim" s_l_claim f fd) (T : Txt K mg C) (hk : 3 ≤ k) (ck : Can P w K mg base 1 "_law_kind" ["_law_cell", "_law_names_here"] spKind7) (ct : Can P w K mg base 3 "_law_term" ["_law_cells", "_law_at", "_law_deep", "_law_names_here"] spTerm01) (ih1 : Can P w K mg base k "_law_claim" ["_law_cells", "_law_at", "_law_deep", "_law_names_here"] spA) (ih2 : Can P w K mg base k "_law_claim" ["_law_cells", "_law_at", "_law_deep", "_law_names_here"] spB) (hA : ∀ M, N = M + 1 → spA = spClaim7 M) (hB : ∀ M, N = M + 2 → spB = spClaim7 M) : FnOk P w K mg base CX0 (k + 1) f fd ["_law_cells", "_law_at", "_law_deep", "_law_names_here"] (spClaim7 N) := by
  refine F.ok sc_claim7 (fun vs H Q E h => ?_) (fun cdv A outer s H vs Q E hr h => ?_)
  · obtain ⟨ca, pa, cs, ns, at_, z, rfl, _⟩ := h
    rfl
  · obtain ⟨ca, pa, cs, ns, at_, z, rfl, rfl, hca, c1, c100, hpa, n1, n22, hs, q⟩ := h
    have n11 : ns.length ≤ 11 := by omega
    have r1 : Room 1 _ := hr.mono (by omega)
    have r3 : Room 3 _ := hr.mono (by omega)
    refine ⟨_, (pss_cons (ps_set (i := 4) sc_claim7.nd rfl (Or.inl rfl) (pe_ix ix_list (pv 0) (pe_op op_mod (pv 1) (pe_callB call_len_seq (by rfl) T.len b_len (pa_cons (pv 0) pa_nil))) (fun _ _ => by rfl)))
      (pss_cons (ps_set (i := 5) sc_claim7.nd rfl (Or.inl rfl) (pe_op op_fdiv (pv 4) pe_int))
      (pss_cons (ps_set (i := 6) sc_claim7.nd rfl (Or.inl rfl) (pe_ix ix_list (pv 3) (pe_op op_mod (pv 5) (pe_callB call_len_seq (by rfl) T.len b_len (pa_cons (pv 3) pa_nil))) (fun _ _ => by rfl)))
      (pss_cons (ps_set (i := 7) sc_claim7.nd rfl (Or.inl rfl) (pe_ix ix_list (pv 3) (pe_op op_mod (pe_op op_fdiv (pv 5) pe_int) (pe_callB call_len_seq (by rfl) T.len b_len (pa_cons (pv 3) pa_nil))) (fun _ _ => by rfl)))
      (pss_cons (ps_set (i := 8) sc_claim7.nd rfl (Or.inl rfl) (pe_op op_mod (pv 4) pe_int))
      (pss_cutE (ps_if (pt_cmpR op_eq (pv 2) pe_int (nomark _)) (pss_one (ps_set (i := 8) sc_claim7.nd rfl (Or.inl rfl) (pe_op op_mod (pv 8) pe_int))) pss_nil)
      (pss_cutE (ps_if (PW.pt (pw_and (pt_cmpR op_eq (pv 2) pe_int (nomark _)) (pw_and1 (pt_cmpR op_gt (pv 8) pe_int (nomark _))))) (pss_one (ps_set (i := 8) sc_claim7.nd rfl (Or.inl rfl) (pe_op op_sub (pv 8) pe_int))) pss_nil)
      (pss_cons (ps_if (pt_cmpR op_eq (pv 8) pe_int (nomark _)) (pss_one (ps_ret (pe_tup (pa_cons pe_str (pa_cons (pv 6) (pa_cons (pv 7) pa_nil)))))) pss_nil)
      (pss_cons (ps_if (pt_cmpR op_eq (pv 8) pe_int (nomark _)) (pss_one (ps_ret (pe_tup (pa_cons pe_str (pa_cons (pv 6) (pa_cons (pv 7) (pa_cons (pe_op op_sub (pe_op op_mod (pe_op op_fdiv (pv 5) pe_int) pe_int) pe_int) pa_nil))))))) pss_nil)
      (pss_cons (ps_if (pt_cmpR op_eq (pv 8) pe_int (nomark _)) (pss_one (ps_ret (pe_tup (pa_cons (pe_ix ix_list (pe_lst (pa_cons pe_str (pa_cons pe_str pa_nil))) (pe_op op_mod (pv 5) pe_int) (fun _ _ => by rfl)) pa_nil)))) pss_nil)
      (pss_cons (ps_if (pt_cmpR op_eq (pv 8) pe_int (nomark _)) (pss_one (ps_ret (pe_tup (pa_cons pe_str (pa_cons (pv 6) (pa_cons (pv 7) (pa_cons (pe_ix ix_list (pv 3) (pe_op op_mod (pe_op op_fdiv (pv 5) pe_int) (pe_callB call_len_seq (by rfl) T.len b_len (pa_cons (pv 3) pa_nil))) (fun _ _ => by rfl)) pa_nil))))))) pss_nil)
      (pss_cons (ps_if (pt_cmpR op_lt (pv 8) pe_int (nomark _)) (pss_one (ps_ret (pe_tup (pa_cons pe_str (pa_cons (pe_callC ct r3 (by rfl) (pa_cons (pv 0) (pa_cons (pe_op op_add (pv 1) pe_int) (pa_cons (pe_op op_mod (pv 5) pe_int) (pa_cons (pv 3) pa_nil))))) (pa_cons (pe_callC ct r3 (by rfl) (pa_cons (pv 0) (pa_cons (pe_op op_add (pv 1) pe_int) (pa_cons (pe_op op_mod (pe_op op_fdiv (pv 5) pe_int) pe_int) (pa_cons (pv 3) pa_nil))))) pa_nil)))))) pss_nil)
      (pss_cons (ps_set (i := 9) sc_claim7.nd rfl (Or.inl rfl) (pe_callC ih1 hr (by rfl) (pa_cons (pv 0) (pa_cons (pe_op op_add (pe_op op_mul pe_int (pv 1)) pe_int) (pa_cons (pe_op op_sub (pv 2) pe_int) (pa_cons (pv 3) pa_nil))))))
      (pss_cons (ps_if (pt_cmpR op_eq (pv 8) pe_int (nomark _)) (pss_one (ps_ret (pe_tup (pa_cons pe_str (pa_cons (pv 9) pa_nil))))) pss_nil)
      (pss_cons (ps_if (pt_cmpR op_lt (pv 8) pe_int (nomark _)) (pss_one (ps_ret (pe_tup (pa_cons (pe_ix ix_list (pe_lst (pa_cons pe_str (pa_cons pe_str pa_nil))) (pe_op op_sub (pv 8) pe_int) (fun _ _ => by rfl)) (pa_cons (pv 9) (pa_cons (pe_callC ih1 hr (by rfl) (pa_cons (pv 0) (pa_cons (pe_op op_add (pe_op op_mul pe_int (pv 1)) pe_int) (pa_cons (pe_op op_sub (pv 2) pe_int) (pa_cons (pv 3) pa_nil))))) pa_nil)))))) pss_nil)
      (pss_cons (ps_set (i := 10) sc_claim7.nd rfl (Or.inl rfl) (pe_ix ix_list (pe_lst (pa_cons pe_str (pa_cons pe_str (pa_cons pe_str (pa_cons pe_str pa_nil))))) (pe_op op_mod (pe_op op_fdiv (pv 5) pe_int) pe_int) (fun _ _ => by rfl)))
      (pss_cons (ps_set (i := 11) sc_claim7.nd rfl (Or.inl rfl) (pe_callC ih2 hr (by rfl) (pa_cons (pv 0) (pa_cons (pe_op op_add (pe_op op_mul pe_int (pv 1)) pe_int) (pa_cons (pe_op op_sub (pv 2) pe_int) (pa_cons (pe_op op_cat (pv 3) (pe_lst (pa_cons (pv 10) pa_nil))) pa_nil))))))
      (pss_one (ps_ret (pe_tup (pa_cons (pe_ix ix_list (pe_lst (pa_cons pe_str (pa_cons pe_str pa_nil))) (pe_op op_mod (pv 8) pe_int) (fun _ _ => by rfl)) (pa_cons (pv 10) (pa_cons (pe_callC ck r1 (by rfl) (pa_cons (pv 5) (pa_cons (pv 3) pa_nil))) (pa_cons (pv 11) pa_nil)))))))))))))))))))))))), ?_⟩
    obtain ⟨c, ec⟩ := pick_i c1 at_
    have lc : ((cs.map V.int).length : Int) = (cs.length : Int) := by rw [List.length_map]
    have ln : ((ns.map V.str).length : Int) = (ns.length : Int) := by rw [List.length_map]
    obtain ⟨a, ha, ea⟩ := pick_pl n1 (c / 13)
    obtain ⟨b, hb, eb⟩ := pick_pl n1 (c / 13 / 7)
    obtain ⟨a3, ha3, ea3⟩ := pick_pl n1 (c / 13 / 49)
    refine ⟨_, rfl, _, rfl, _, rfl, ca, _, rfl, .inl (SqL.of hca), _, _, rfl, rfl, (by rw [lc]; omega), ca, _, _, .int c, rfl, rfl, SqL.of hca, ec, ?_⟩
    refine ⟨_, rfl, _, _, rfl, rfl, ⟨by decide, by decide⟩, _, rfl, _, rfl, _, rfl, pa, _, rfl, .inl (SqL.of hpa), _, _, rfl, rfl, (by rw [ln]; omega), pa, _, _, .str a, rfl, rfl, SqL.of hpa, ea, ?_⟩
    refine ⟨_, rfl, _, rfl, _, _, rfl, rfl, ⟨by decide, by decide⟩, _, rfl, pa, _, rfl, .inl (SqL.of hpa), _, _, rfl, rfl, (by rw [ln]; omega), pa, _, _, .str b, rfl, rfl, SqL.of hpa, eb, ?_⟩
    refine ⟨_, rfl, _, _, rfl, rfl, (by show (0 : Int) < 13; decide), ?_⟩
    refine ⟨fun σ' H' => H = H' ∧ ∃ w : Int, 0 ≤ w ∧ w < 13 ∧ (N = 0 → w < 7) ∧ σ' = [some (.ref ca), some (.int at_), some (.int N), some (.ref pa), some (.int c), some (.int (c / 13)), some (.str a), some (.str b), some (.int w), none, none, none], ?_, ?_⟩
    · refine ⟨_, rfl, rfl, _, rfl, ?_⟩
      rw [int_V7]
      by_cases h0 : (N : Int) = 0
      · exact iteTb (decide_eq_true h0) ⟨_, rfl, _, _, rfl, rfl, (by show (0 : Int) < 7; decide), rfl, c % 13 % 7, by omega, by omega, fun _ => by omega, rfl⟩
      · exact iteFb (decide_eq_false h0) ⟨rfl, c % 13, by omega, by omega, fun z => absurd (by rw [z]; rfl) h0, rfl⟩
    rintro _ _ ⟨rfl, w1, w0, w13, wN, rfl⟩
    refine ⟨fun σ' H' => H = H' ∧ ∃ w : Int, 0 ≤ w ∧ w < 13 ∧ (N = 0 → w < 7) ∧ (N = 1 → w < 10) ∧ σ' = [some (.ref ca), some (.int at_), some (.int N), some (.ref pa), some (.int c), some (.int (c / 13)), some (.str a), some (.str b), some (.int w), none, none, none], ?_, ?_⟩
    · refine ⟨_, rfl, rfl, _, rfl, ?_⟩
      rw [int_V7]
      by_cases h0 : (N : Int) = 1
      · refine iteTb (decide_eq_true h0) ⟨_, rfl, _, _, rfl, rfl, _, rfl, ite2 (fun z => ?_) (fun z => ?_)⟩
        · have z := of_decide_eq_true z
          exact ⟨_, rfl, _, _, rfl, rfl, rfl, w1 - 3, by omega, by omega, fun z => by omega, fun _ => by omega, rfl⟩
        · exact ⟨rfl, w1, w0, w13, wN, fun _ => by
            by_cases h : (9 : Int) < w1
            · exact absurd (decide_eq_true h) z
            · omega, rfl⟩
      · exact iteFb (decide_eq_false h0) ⟨rfl, w1, w0, w13, wN, fun z => absurd (by rw [z]; rfl) h0, rfl⟩
    clear w0 w13 wN
    rintro _ _ ⟨rfl, w, w0, w13, wN, wM, rfl⟩
    generalize c / 13 = sm at ea eb ea3 ⊢
    refine ⟨_, rfl, rfl, _, rfl, ?_⟩
    rw [int_V7]
    by_cases h0 : w = 0
    · refine iteTb (decide_eq_true h0) ⟨_, rfl, _, rfl, (by show 3 ≤ sizeLine; decide), fun t ht => ?_⟩
      exact q (.ref t) (.nm "way" [a, b]) _ (Same.new ht) (.inr ⟨_, _, upd_same, rfl, .cons (pd_s (by decide +kernel)) (.cons (pd_s (hs a ha)) (.cons (pd_s (hs b hb)) .nil))⟩) ⟨by decide +kernel, by show 2 ≤ 3; decide⟩ (by show 1 ≤ N + 5; omega) fun x hx => by
        have hx : x ∈ [a, b] := hx
        simp only [List.mem_cons, List.not_mem_nil, or_false] at hx
        rcases hx with rfl | rfl <;> assumption
    refine iteFb (decide_eq_false h0) ⟨_, rfl, rfl, _, rfl, ?_⟩
    rw [int_V7]
    by_cases h1 : w = 1
    · refine iteTb (decide_eq_true h1) ⟨_, rfl, _, rfl, _, rfl, _, _, rfl, rfl, ⟨by decide, by decide⟩, _, _, rfl, rfl, (by show (0 : Int) < 13; decide), _, _, rfl, rfl, (by show 4 ≤ sizeLine; decide), fun t ht => ?_⟩
      exact q (.ref t) (.cost a b (sm / 49 % 13 - 6)) _ (Same.new ht) (.inr ⟨_, _, upd_same, rfl, .cons (pd_s (by decide +kernel)) (.cons (pd_s (hs a ha)) (.cons (pd_s (hs b hb)) (.cons pd_i .nil)))⟩) True.intro (by show 1 ≤ N + 5; omega) fun x hx => by
        have hx : x ∈ [a, b] := hx
        simp only [List.mem_cons, List.not_mem_nil, or_false] at hx
        rcases hx with rfl | rfl <;> assumption
    refine iteFb (decide_eq_false h1) ⟨_, rfl, rfl, _, rfl, ?_⟩
    rw [int_V7]
    by_cases h2 : w = 2
    · obtain ⟨y, hy, ey⟩ := pick2 "ring" "round" (sm % 2) (by omega) (by omega)
      obtain ⟨k1, k2⟩ := clr hy
      refine iteTb (decide_eq_true h2) ⟨(by show 2 ≤ sizeLine; decide), fun l hl => ⟨_, rfl, _, _, rfl, rfl, (by show (0 : Int) < 2; decide), l, _, _, .str y, rfl, rfl, SqL.of upd_same, ey, (by show 1 ≤ sizeLine; decide), fun t ht => ?_⟩⟩
      exact q (.ref t) (.wd y) _ ((Same.new hl).upd ht) (.inr ⟨_, _, upd_same, rfl, .cons (pd_s k2) .nil⟩) k1 (by show 1 ≤ N + 5; omega) fun _ h => nomatch h
    refine iteFb (decide_eq_false h2) ⟨_, rfl, rfl, _, rfl, ?_⟩
    rw [int_V7]
    by_cases h3 : w = 3
    · refine iteTb (decide_eq_true h3) ⟨_, rfl, _, rfl, _, rfl, _, rfl, _, _, rfl, rfl, ⟨by decide, by decide⟩, _, rfl, pa, _, rfl, .inl (SqL.of hpa), _, _, rfl, rfl, (by rw [ln]; omega), pa, _, _, .str a3, rfl, rfl, SqL.of hpa, ea3, (by show 4 ≤ sizeLine; decide), fun t ht => ?_⟩
      exact q (.ref t) (.nm "must" [a, b, a3]) _ (Same.new ht) (.inr ⟨_, _, upd_same, rfl, .cons (pd_s (by decide +kernel)) (.cons (pd_s (hs a ha)) (.cons (pd_s (hs b hb)) (.cons (pd_s (hs a3 ha3)) .nil)))⟩) ⟨by decide +kernel, by show 3 ≤ 3; decide⟩ (by show 1 ≤ N + 5; omega) fun x hx => by
        have hx : x ∈ [a, b, a3] := hx
        simp only [List.mem_cons, List.not_mem_nil, or_false] at hx
        rcases hx with rfl | rfl | rfl <;> assumption
    refine iteFb (decide_eq_false h3) ⟨_, rfl, _, _, rfl, rfl, _, rfl, ?_⟩
    by_cases h7 : w < 7
    · refine iteTb (decide_eq_true h7) ⟨_, rfl, _, rfl, _, _, rfl, rfl, _, rfl, _, _, rfl, rfl, (by show (0 : Int) < 2; decide), _, rfl, term01_of rfl (by omega) hca c1 c100 hpa n1 n11 hs fun v t H1 s1 pd wf dp sub => ?_⟩
      refine ⟨_, rfl, _, rfl, _, _, rfl, rfl, _, rfl, _, _, rfl, rfl, ⟨by decide, by decide⟩, _, _, rfl, rfl, (by show (0 : Int) < 2; decide), _, rfl, term01_of rfl (by omega) (s1 _ _ hca) c1 c100 (s1 _ _ hpa) n1 n11 hs fun v2 t2 H2 s2 pd2 wf2 dp2 sub2 => ⟨(by show 3 ≤ sizeLine; decide), fun t3 ht3 => ?_⟩⟩
      have z := Same.new (o := .tup [.str "atmost", v, v2]) ht3
      exact q (.ref t3) (.two "atmost" t t2) _ ((s1.trans s2).trans z) (.inr ⟨_, _, upd_same, rfl, .cons (pd_s (by decide +kernel)) (.cons (((pd.same s2).same z).monoK (by omega)) (.cons ((pd2.same z).monoK (by omega)) .nil))⟩) ⟨by decide +kernel, wf, wf2⟩ (by show 1 + max t.dep t2.dep ≤ N + 5; omega) fun x hx => (List.mem_append.mp hx).elim (sub x) (sub2 x)
    obtain ⟨M, rfl⟩ : ∃ M, N = M + 1 := ⟨N - 1, by
      have : N ≠ 0 := fun z => by have := wN z; omega
      omega⟩
    have hA := hA M rfl
    subst hA
    have em : ((M + 1 : Nat) : Int) - 1 = (M : Int) := by omega
    refine iteFb (decide_eq_false h7) ⟨_, rfl, _, rfl, _, _, rfl, rfl, .inl ⟨by decide, by decide⟩, _, _, rfl, rfl, _, rfl, _, _, rfl, rfl, _, rfl, ca, pa, cs, ns, _, _, rfl, em, hca, c1, c100, hpa, n1, by omega, hs, fun v t H1 s1 pd wf dp sub => ?_⟩
    have hca1 := s1 _ _ hca
    have hpa1 := s1 _ _ hpa
    refine ⟨_, rfl, rfl, _, rfl, ?_⟩
    rw [int_V7]
    by_cases h8 : w = 7
    · refine iteTb (decide_eq_true h8) ⟨_, rfl, (by show 2 ≤ sizeLine; decide), fun t2 ht2 => ?_⟩
      have z := Same.new (o := .tup [.str "not", v]) ht2
      exact q (.ref t2) (.one "not" t) _ (s1.trans z) (.inr ⟨_, _, upd_same, rfl, .cons (pd_s (by decide +kernel)) (.cons (pd.same z) .nil)⟩) ⟨by decide +kernel, wf⟩ (by show 1 + t.dep ≤ M + 1 + 5; omega) sub
    refine iteFb (decide_eq_false h8) ⟨_, rfl, _, _, rfl, rfl, _, rfl, ?_⟩
    by_cases h10 : w < 10
    · obtain ⟨y, hy, ey⟩ := pick2 "and" "or" (w - 8) (by omega) (by omega)
      obtain ⟨k1, k2⟩ := cla hy
      refine iteTb (decide_eq_true h10) ⟨(by show 2 ≤ sizeLine; decide), fun l hl => ?_⟩
      have z1 := Same.new (o := .lst [.str "and", .str "or"]) hl
      refine ⟨_, rfl, _, _, rfl, rfl, l, _, _, .str y, rfl, rfl, SqL.of upd_same, ey, _, rfl, _, rfl, _, rfl, _, _, rfl, rfl, .inl ⟨by decide, by decide⟩, _, _, rfl, rfl, _, rfl, _, _, rfl, rfl, _, rfl, ca, pa, cs, ns, _, _, rfl, em, z1 _ _ hca1, c1, c100, z1 _ _ hpa1, n1, by omega, hs, fun v2 t2 H2 s2 pd2 wf2 dp2 sub2 => ⟨(by show 3 ≤ sizeLine; decide), fun t3 ht3 => ?_⟩⟩
      have z := Same.new (o := .tup [.str y, v, v2]) ht3
      exact q (.ref t3) (.two y t t2) _ (((s1.trans z1).trans s2).trans z) (.inr ⟨_, _, upd_same, rfl, .cons (pd_s k2) (.cons (((pd.same z1).same s2).same z) (.cons (pd2.same z) .nil))⟩) ⟨k1, wf, wf2⟩ (by show 1 + max t.dep t2.dep ≤ M + 1 + 5; omega) fun x hx => (List.mem_append.mp hx).elim (sub x) (sub2 x)
    obtain ⟨L, rfl⟩ : ∃ L, M = L + 1 := ⟨M - 1, by
      have : M ≠ 0 := fun z => by subst z; have := wM rfl; omega
      omega⟩
    have hB := hB L rfl
    subst hB
    have em2 : ((L + 1 + 1 : Nat) : Int) - 2 = (L : Int) := by omega
    obtain ⟨x, hx, ex⟩ := pick4 "X" "Y" "XY" "XYZ" (sm / 3 % 4) (by omega) (by omega)
    obtain ⟨y, hy, ey⟩ := pick2 "each" "some" (w % 2) (by omega) (by omega)
    obtain ⟨k1, k2⟩ := cle hy
    refine iteFb (decide_eq_false h10) ⟨(by show 4 ≤ sizeLine; decide), fun l hl => ?_⟩
    have z1 := Same.new (o := .lst [.str "X", .str "Y", .str "XY", .str "XYZ"]) hl
    refine ⟨_, rfl, _, _, rfl, rfl, ⟨by decide, by decide⟩, _, _, rfl, rfl, (by show (0 : Int) < 4; decide), l, _, _, .str x, rfl, rfl, SqL.of upd_same, ex, ?_⟩
    have hca2 := z1 _ _ hca1
    have hpa2 := z1 _ _ hpa1
    have s12 := s1.trans z1
    generalize upd H1 l (.lst [.str "X", .str "Y", .str "XY", .str "XYZ"]) = H2 at hca2 hpa2 s12
    refine ⟨_, rfl, _, rfl, _, _, rfl, rfl, .inl ⟨by decide, by decide⟩, _, _, rfl, rfl, _, rfl, _, _, rfl, rfl, _, rfl, _, rfl, (by show 1 ≤ sizeLine; decide), fun l2 hl2 => ?_⟩
    have z2 := Same.new (o := .lst [.str x]) hl2
    refine ⟨pa, l2, _, _, rfl, rfl, z2 _ _ hpa2, upd_same, Nat.le_trans (by rw [List.length_map, List.length_singleton]; omega : _ ≤ 100) (by decide), fun p hp => ?_⟩
    have z3 := z2.upd (o := .lst (ns.map V.str ++ [.str x])) hp
    refine ⟨ca, p, cs, ns ++ [x], _, _, rfl, em2, z3 _ _ hca2, c1, c100, by rw [upd_same, List.map_append]; rfl, by rw [List.length_append]; omega, by rw [List.length_append, List.length_singleton]; omega, fun y hy => ?_, fun v2 t2 H3 s3 pd2 wf2 dp2 sub2 => ?_⟩
    · rcases List.mem_append.mp hy with hy | hy
      · exact hs y hy
      · rw [List.mem_singleton.mp hy]
        exact clx hx
    have s03 := (s12.trans z3).trans s3
    refine ⟨(by show 2 ≤ sizeLine; decide), fun l4 hl4 => ?_⟩
    have z4 := Same.new (o := .lst [.str "each", .str "some"]) hl4
    refine ⟨_, rfl, _, _, rfl, rfl, (by show (0 : Int) < 2; decide), l4, _, _, .str y, rfl, rfl, SqL.of upd_same, ey, _, rfl, _, rfl, _, rfl, sm, pa, ns, rfl, (s03.trans z4) _ _ hpa, n1, n11, hs, fun v5 t5 H5 s5 pd5 wf5 dp5 sub5 => ⟨_, rfl, (by show 4 ≤ sizeLine; decide), fun t6 ht6 => ?_⟩⟩
    have z6 := Same.new (o := .tup [.str y, .str x, v5, v2]) ht6
    refine q (.ref t6) (.ev y x t5 t2) _ (((s03.trans z4).trans s5).trans z6) (.inr ⟨_, _, upd_same, rfl, .cons (pd_s k2) (.cons (pd_s (clx hx)) (.cons ((pd5.same z6).monoK (by omega)) (.cons ((((pd2.same z4).same s5).same z6).monoK (by omega)) .nil)))⟩) ⟨k1, wf5, wf2⟩ (by show 1 + max t5.dep t2.dep ≤ L + 1 + 1 + 5; omega) fun u hu => ?_
    rcases List.mem_append.mp hu with hu | hu
    · exact sub5 u hu
    · obtain ⟨u1, u2⟩ := List.mem_filter.mp hu
      have u2 : ¬ u = x := by simpa using u2
      rcases List.mem_append.mp (sub2 u u1) with z | z
      · exact z
      · exact absurd (List.mem_singleton.mp z) u2
theorem can_claim7 (hF : ∃ f fd, Fun K "_law_claim" "_law_claim" s_l_claim f fd ∧ mg "_law_claim" = some (.ref f)) (T : Txt K mg C) (ck : Can P w K mg base 1 "_law_kind" ["_law_cell", "_law_names_here"] spKind7) (ct : Can P w K mg base 3 "_law_term" ["_law_cells", "_law_at", "_law_deep", "_law_names_here"] spTerm01) : ∀ N : Nat, Can P w K mg base (N + 4) "_law_claim" ["_law_cells", "_law_at", "_law_deep", "_law_names_here"] (spClaim7 N)
  | 0 => by
    obtain ⟨f, fd, F, m⟩ := id hF
    have cv : Can P w K mg base 3 "_law_claim" ["_law_cells", "_law_at", "_law_deep", "_law_names_here"] spVoid := can_void7 3 hF fun _ _ F => F.binds fun _ _ _ _ _ _ us hl => match us, hl with | [_, _, _, _], _ => rfl
    exact ⟨f, fd, ok_claim7 F T (by decide) ck ct cv cv (fun M h => nomatch h) (fun M h => nomatch h), m, F.kp, F.binds fun _ _ _ _ _ _ us hl => match us, hl with | [_, _, _, _], _ => rfl⟩
  | 1 => by
    obtain ⟨f, fd, F, m⟩ := id hF
    have cv : Can P w K mg base 4 "_law_claim" ["_law_cells", "_law_at", "_law_deep", "_law_names_here"] spVoid := can_void7 4 hF fun _ _ F => F.binds fun _ _ _ _ _ _ us hl => match us, hl with | [_, _, _, _], _ => rfl
    exact ⟨f, fd, ok_claim7 F T (by decide) ck ct (can_claim7 hF T ck ct 0) cv (fun M h => by rw [← Nat.succ.inj h]) (fun M h => by omega), m, F.kp, F.binds fun _ _ _ _ _ _ us hl => match us, hl with | [_, _, _, _], _ => rfl⟩
  | N + 2 => by
    obtain ⟨f, fd, F, m⟩ := id hF
    exact ⟨f, fd, ok_claim7 F T (by omega) ck ct (can_claim7 hF T ck ct (N + 1)) ((can_claim7 hF T ck ct N).mono (by omega)) (fun M h => by rw [Nat.succ.inj h]) (fun M h => by rw [show N = M by omega]), m, F.kp, F.binds fun _ _ _ _ _ _ us hl => match us, hl with | [_, _, _, _], _ => rfl⟩
end
end Net

namespace Net
open PySem L2
/-! ### what the law catches, what is due -/
def ansD (pl ns : List Str) : PyData := match firstNot pl ns with
  | none => .list [.str "let by", .none]
  | some x => .list [.str "refused", .str x]
structure ExcK (K : PySem.W.Frag) (mg : Str → Option Value) (Cn cc : Addr) (es : Nat → Addr) : Prop where
  m0 : mg "NoClaim" = some (.ref (es 0))
  m1 : mg "NoLine" = some (.ref (es 1))
  m2 : mg "NoName" = some (.ref (es 2))
  m3 : mg "NoText" = some (.ref (es 3))
  m4 : mg "NoTie" = some (.ref (es 4))
  m5 : mg "NoWidth" = some (.ref (es 5))
  m6 : mg "SamePlace" = some (.ref (es 6))
  m7 : mg "TooMany" = some (.ref (es 7))
  m8 : mg "Twice" = some (.ref (es 8))
  val : mg "ValueError" = none
  kit : ExcKit K Cn
  kn : PySem.W.kitOne K (.ref Cn) (.ref Cn) = some true
  kv : PySem.W.kitOne K (.ref Cn) (.type "ValueError") = some true
  k0 : PySem.W.kitOne K (.ref Cn) (.ref (es 0)) = some false
  k1 : PySem.W.kitOne K (.ref Cn) (.ref (es 1)) = some false
  k2 : PySem.W.kitOne K (.ref Cn) (.ref (es 2)) = some false
  k3 : PySem.W.kitOne K (.ref Cn) (.ref (es 3)) = some false
  k4 : PySem.W.kitOne K (.ref Cn) (.ref (es 4)) = some false
  k5 : PySem.W.kitOne K (.ref Cn) (.ref (es 5)) = some false
  k6 : PySem.W.kitOne K (.ref Cn) (.ref (es 6)) = some false
  k7 : PySem.W.kitOne K (.ref Cn) (.ref (es 7)) = some false
  k8 : PySem.W.kitOne K (.ref Cn) (.ref (es 8)) = some false
  xm : PySem.W.exmOne K (.ref Cn) (.ref cc) = some true
  hd : PySem.W.hasDictIn K Cn = true
theorem b_val7 : bootBuiltins "ValueError" = some (.type "ValueError") := by decide +kernel
theorem rd_flat {K : PySem.W.Frag} {H : Hp} {n : Nat} : ∀ {ws : List Str}, (∀ x ∈ ws, PyData.strOk x = true) → Paired (RdD K H n) (ws.map V.str) (ws.map PyData.str)
  | [], _ => .nil
  | x :: r, ok => .cons (by cases n <;> exact ⟨ok x List.mem_cons_self, rfl⟩) (rd_flat fun y hy => ok y (List.mem_cons_of_mem _ hy))
theorem pd_refl {H : Hp} : ∀ {n : Nat} {v : V} {d : PyData}, PD H n v d → PyData.eqv d d = true
  | 0, v, d, h => by
    cases v <;> first | exact h.elim | (cases (show d = _ from h); simp [PyData.eqv]; done) | (cases h.2; simp [PyData.eqv]; done)
  | n + 1, v, d, h => by
    have al : ∀ {xs : List V} {ds : List PyData}, Paired (PD H n) xs ds → PyData.eqvAll ds ds = true := fun {xs ds} p => by
      induction p with
      | nil => rfl
      | cons h _ ih => rw [PyData.eqvAll, pd_refl h, ih]; rfl
    cases v <;> first | exact h.elim | (cases (show d = _ from h); simp [PyData.eqv]; done) | (cases h.2; simp [PyData.eqv]; done) | skip
    rcases h with ⟨xs, ds, e, rfl, p⟩ | ⟨xs, ds, e, rfl, p⟩
    · rw [PyData.eqv]; exact al p
    · rw [PyData.eqv]; exact al p
def spOne7 (C : Addr) : Sp := fun vs H Q _ => ∃ (p ds dl pa : Addr) (S : NS) (v : V) (c : Th), vs = [.ref p, .ref pa, v] ∧ NetAt C H p ds dl S ∧ H pa = some (.lst (S.pl.map V.str)) ∧ PD H 10 v c.dat ∧ c.wf ∧ c.dep ≤ 10 ∧ (∀ x ∈ c.names, okN x ∧ PyData.strOk x = true) ∧ ∀ H', Same H H' → Q (.bl true) H'
def spCaught (C : Addr) : Sp := fun vs H Q _ => ∃ (p ds dl : Addr) (S : NS) (w : Str) (v : V) (c : Th), vs = [.ref p, .str w, v] ∧ NetAt C H p ds dl S ∧ PD H 10 v c.dat ∧ c.wf ∧ c.dep ≤ 10 ∧ (∀ x ∈ c.names, okN x ∧ PyData.strOk x = true) ∧ ∀ v' H', Same H H' → PD H' 1 v' (ansD S.pl c.names) → Q v' H'
def spDue : Sp := fun vs H Q _ => ∃ (pa : Addr) (pl : List Str) (v : V) (c : Th), vs = [.ref pa, v] ∧ H pa = some (.lst (pl.map V.str)) ∧ PD H 10 v c.dat ∧ c.wf ∧ c.dep ≤ 10 ∧ (∀ x ∈ c.names, PyData.strOk x = true) ∧ ∀ v' H', Same H H' → PD H' 1 v' (ansD pl c.names) → Q v' H'
section
variable {P : Program} {w : World} {K : PySem.W.Frag} {mg : Str → Option Value} {base : Heap} {C Cn cc fI : Addr} {es : Nat → Addr}
abbrev Ncau : List Str := ["_law_net_here", "_law_word", "_law_thing", "_law_caught_here", "_law_told", "e"]
theorem sc_cau : FnScope Ncau ["_law_net_here", "_law_word", "_law_thing"] (defScope s_l_caught) := ⟨rfl, rfl, rfl, by decide +kernel, rfl, by decide +kernel, by decide +kernel⟩
theorem ok_cau {f : Addr} {fd : FuncData} (F : Fun K "_law_caught" "_law_caught" s_l_caught f fd) (T : Txt K mg C) (R : ExcN K mg Cn cc fI) (R2 : ExcK K mg Cn cc es) (c1 : CanX P w K mg base 23 "look_at_claim" ["net", "claim"] (spLook C Cn)) (c2 : CanX P w K mg base 23 "look_at_term" ["net", "term"] (spLook C Cn)) : FnOk P w K mg base CX0 24 f fd ["_law_net_here", "_law_word", "_law_thing"] (spCaught C) := by
  refine F.ok sc_cau (fun vs H Q E h => ?_) (fun cdv A outer s H vs Q E hr h => ?_)
  · obtain ⟨p, ds, dl, S, w, v, c, rfl, _⟩ := h
    rfl
  · obtain ⟨p, ds, dl, S, w, v, c, rfl, N, pd, wf, dp, on, q⟩ := h
    have g : ∀ {x : Str} {a : Addr}, mg x = some (.ref a) → GlobIs mg x (.ref a) := fun h => ⟨_, h, rfl⟩
    refine ⟨_, (pss_cons (ps_set (i := 3) sc_cau.nd rfl (Or.inl rfl) pe_non)
      (pss_cutE (ps_tryAs (i := 5) rfl rfl sc_cau.nd rfl rfl (by rfl) R.mC (psx_if (pt_cmpR op_eq (pv 1) pe_str (nomark _)) (psx_set (i := 4) sc_cau.nd rfl (Or.inl rfl) (pex_call c2 hr (by rfl) (pa_cons (pv 0) (pa_cons (pv 2) pa_nil)))) (psx_set (i := 4) sc_cau.nd rfl (Or.inl rfl) (pex_call c1 hr (by rfl) (pa_cons (pv 0) (pa_cons (pv 2) pa_nil))))) (fun v => (pss_cons (ps_set (i := 3) sc_cau.nd rfl (Or.inl rfl) (pv 5))
      (pss_one (ps_set (i := 4) sc_cau.nd rfl (Or.inl rfl) pe_non)))))
      (pss_cons (ps_if (pt_cmp (pc_isN (pv 3))) (pss_one (ps_ret (pe_lst (pa_cons pe_str (pa_cons (pv 4) pa_nil))))) pss_nil)
      (pss_cons (ps_if (PW.pt (pw_or (pt_not (pt_val (pe_callB call_isinstX (by rfl) T.isi b_isi (pa_cons (pv 3) (pa_cons (pe_globC (g R.mN) (by rfl)) pa_nil))))) (pw_or1 (pt_not (pt_val (pe_callB call_isinstXT (by rfl) T.isi b_isi (pa_cons (pv 3) (pa_cons (pe_ty R2.val (by rfl) b_val7) pa_nil)))))))) (pss_one (ps_ret (pe_lst (pa_cons pe_str pa_nil)))) pss_nil)
      (pss_cons (ps_if (PW.pt (pw_or (pt_val (pe_callB call_isinstX (by rfl) T.isi b_isi (pa_cons (pv 3) (pa_cons (pe_globC (g R2.m0) (by rfl)) pa_nil)))) (pw_or (pt_val (pe_callB call_isinstX (by rfl) T.isi b_isi (pa_cons (pv 3) (pa_cons (pe_globC (g R2.m1) (by rfl)) pa_nil)))) (pw_or1 (pt_val (pe_callB call_isinstX (by rfl) T.isi b_isi (pa_cons (pv 3) (pa_cons (pe_globC (g R2.m2) (by rfl)) pa_nil)))))))) (pss_one (ps_ret (pe_lst (pa_cons pe_str pa_nil)))) pss_nil)
      (pss_cons (ps_if (PW.pt (pw_or (pt_val (pe_callB call_isinstX (by rfl) T.isi b_isi (pa_cons (pv 3) (pa_cons (pe_globC (g R2.m3) (by rfl)) pa_nil)))) (pw_or (pt_val (pe_callB call_isinstX (by rfl) T.isi b_isi (pa_cons (pv 3) (pa_cons (pe_globC (g R2.m4) (by rfl)) pa_nil)))) (pw_or1 (pt_val (pe_callB call_isinstX (by rfl) T.isi b_isi (pa_cons (pv 3) (pa_cons (pe_globC (g R2.m5) (by rfl)) pa_nil)))))))) (pss_one (ps_ret (pe_lst (pa_cons pe_str pa_nil)))) pss_nil)
      (pss_cons (ps_if (PW.pt (pw_or (pt_val (pe_callB call_isinstX (by rfl) T.isi b_isi (pa_cons (pv 3) (pa_cons (pe_globC (g R2.m6) (by rfl)) pa_nil)))) (pw_or (pt_val (pe_callB call_isinstX (by rfl) T.isi b_isi (pa_cons (pv 3) (pa_cons (pe_globC (g R2.m7) (by rfl)) pa_nil)))) (pw_or1 (pt_val (pe_callB call_isinstX (by rfl) T.isi b_isi (pa_cons (pv 3) (pa_cons (pe_globC (g R2.m8) (by rfl)) pa_nil)))))))) (pss_one (ps_ret (pe_lst (pa_cons pe_str pa_nil)))) pss_nil)
      (pss_one (ps_ret (pe_lst (pa_cons pe_str (pa_cons (pe_fldX (pv 3)) pa_nil)))))))))))), ?_⟩
    have ok := ok_dat wf dp
    have en := unt_nil wf dp
    refine ⟨fun σ' H' => Same H H' ∧ ((firstNot S.pl c.names = none ∧ σ' = [some (.ref p), some (.str w), some v, some .non, some .non, none]) ∨ ∃ x a dx, firstNot S.pl c.names = some x ∧ dx ≠ 0 ∧ H' a = some (excO a (.ref Cn) (some dx)) ∧ H' dx = some (.xd [("name", .str x)]) ∧ σ' = [some (.ref p), some (.str w), some v, some (.ref a), some .non, none]), ?_, ?_⟩
    · exact ⟨_, rfl, rfl, _, rfl, ite2 (fun _ => ⟨_, rfl, _, rfl, p, ds, dl, S, v, c.dat, rfl, N, pd, ok, fun x hx => (on x (by rw [← en]; exact hx)).1, fun hf H' s' => ⟨s', .inl ⟨by rw [← en]; exact hf, rfl⟩⟩, fun x hf H' dx s' d0 hx => ⟨R2.xm, fun a ha => ⟨_, rfl, s'.upd ha, .inr ⟨x, a, dx, by rw [← en]; exact hf, d0, upd_same, (Same.new ha) _ _ hx, rfl⟩⟩⟩⟩) (fun _ => ⟨_, rfl, _, rfl, p, ds, dl, S, v, c.dat, rfl, N, pd, ok, fun x hx => (on x (by rw [← en]; exact hx)).1, fun hf H' s' => ⟨s', .inl ⟨by rw [← en]; exact hf, rfl⟩⟩, fun x hf H' dx s' d0 hx => ⟨R2.xm, fun a ha => ⟨_, rfl, s'.upd ha, .inr ⟨x, a, dx, by rw [← en]; exact hf, d0, upd_same, (Same.new ha) _ _ hx, rfl⟩⟩⟩⟩)⟩
    rintro _ H1 ⟨s1, ⟨hf, rfl⟩ | ⟨x, a, dx, hf, d0, ha, hx, rfl⟩⟩
    · refine ⟨_, rfl, _, rfl, iteTb (by rfl) ⟨_, rfl, (by show 2 ≤ sizeLine; decide), fun l hl => q (.ref l) _ (s1.upd hl) ?_⟩⟩
      unfold ansD
      rw [hf]
      exact .inl ⟨_, _, upd_same, rfl, .cons ⟨by decide +kernel, rfl⟩ (.cons rfl .nil)⟩
    · refine ⟨_, rfl, _, rfl, iteFb (by rfl) ⟨_, rfl, a, Cn, Cn, true, some dx, rfl, ha, R2.kit, R2.kn, _, rfl, iteF ⟨_, rfl, a, Cn, "ValueError", true, some dx, rfl, ha, R2.kit, R2.kv, _, rfl, iteF ?_⟩⟩⟩
      refine ⟨_, rfl, a, Cn, es 0, false, some dx, rfl, ha, R2.kit, R2.k0, _, rfl, iteF ⟨_, rfl, a, Cn, es 1, false, some dx, rfl, ha, R2.kit, R2.k1, _, rfl, iteF ⟨_, rfl, a, Cn, es 2, false, some dx, rfl, ha, R2.kit, R2.k2, _, rfl, iteF ?_⟩⟩⟩
      refine ⟨_, rfl, a, Cn, es 3, false, some dx, rfl, ha, R2.kit, R2.k3, _, rfl, iteF ⟨_, rfl, a, Cn, es 4, false, some dx, rfl, ha, R2.kit, R2.k4, _, rfl, iteF ⟨_, rfl, a, Cn, es 5, false, some dx, rfl, ha, R2.kit, R2.k5, _, rfl, iteF ?_⟩⟩⟩
      refine ⟨_, rfl, a, Cn, es 6, false, some dx, rfl, ha, R2.kit, R2.k6, _, rfl, iteF ⟨_, rfl, a, Cn, es 7, false, some dx, rfl, ha, R2.kit, R2.k7, _, rfl, iteF ⟨_, rfl, a, Cn, es 8, false, some dx, rfl, ha, R2.kit, R2.k8, _, rfl, iteF ?_⟩⟩⟩
      refine ⟨_, rfl, a, Cn, dx, _, .str x, rfl, ha, d0, R2.kit, R2.hd, R.at_.no, hx, rfl, (by show 2 ≤ sizeLine; decide), fun l hl => q (.ref l) _ (s1.upd hl) ?_⟩
      unfold ansD
      rw [hf]
      have mx : x ∈ c.names := List.mem_of_find?_eq_some hf
      exact .inl ⟨_, _, upd_same, rfl, .cons ⟨by decide +kernel, rfl⟩ (.cons ⟨(on x mx).2, rfl⟩ .nil)⟩
abbrev Ndue : List Str := ["_law_places", "_law_thing", "_law_strange"]
theorem sc_due : FnScope Ndue ["_law_places", "_law_thing"] (defScope s_l_due) := ⟨rfl, rfl, rfl, by decide +kernel, rfl, by decide +kernel, by decide +kernel⟩
theorem ok_due {f : Addr} {fd : FuncData} (F : Fun K "_law_due" "_law_due" s_l_due f fd) (cn : Can P w K mg base 10 "_law_names" ["_law_thing"] (spNames 10)) : FnOk P w K mg base CX0 11 f fd ["_law_places", "_law_thing"] spDue := by
  refine F.ok sc_due (fun vs H Q E h => ?_) (fun cdv A outer s H vs Q E hr h => ?_)
  · obtain ⟨pa, pl, v, c, rfl, _⟩ := h
    rfl
  · obtain ⟨pa, pl, v, c, rfl, hpa, pd, wf, dp, so, q⟩ := h
    have nd_0 : List.Nodup (["_law_name_here", "_law_places"] : List Str) := by decide +kernel
    refine ⟨_, (pss_cons (ps_comp (j := 2) (N := ["_law_name_here", "_law_places"]) (xs := 1) (js := [0]) rfl sc_due.nd rfl rfl (compScope_of rfl) (pi_list (pe_callC cn hr (by rfl) (pa_cons (pv 1) pa_nil))) (fun _ _ _ _ => pg_name (i := 0) nd_0 rfl (Or.inl rfl)) (fun _ _ _ _ => pts_one (pt_cmpR (op_notInK K (by rfl)) (pv 0) (pv 1) (by with_unfolding_all rfl))) (fun _ _ _ _ => pv 0) rfl)
      (pss_cons (ps_if (pt_cmpR (op_eqD hr.units) (pv 2) (pe_lst pa_nil) (nomark _)) (pss_one (ps_ret (pe_lst (pa_cons pe_str (pa_cons pe_non pa_nil))))) pss_nil)
      (pss_one (ps_ret (pe_lst (pa_cons pe_str (pa_cons (pe_ix ix_list (pv 2) pe_int (fun _ _ => by rfl)) pa_nil))))))), ?_⟩
    have nl := names_len wf dp (by decide)
    refine ⟨_, rfl, v, c, rfl, pd, wf, dp, by decide, fun n1 H1 s1 f1 e1 => ?_⟩
    have hpa1 := s1 _ _ hpa
    refine ⟨n1, rfl, ⟨_, SqL.of e1⟩, comp_list (K := K) (ys := c.names.map V.str) (fun i acc σ' H' => H1 = H' ∧ acc = ((c.names.take i).filter fun y => decide (y ∉ pl)).map V.str ∧ ∃ o, σ' = [o, some (.ref pa)])
      ⟨rfl, rfl, none, rfl⟩ (fun i acc σ' H' h => ?_) (by rw [List.length_map]; exact Nat.le_trans nl (by decide)) (fun i acc σ' H' _ h => by rw [← h.1]; exact SqL.of e1) (fun i y acc σ' H' hy h => ?_) (fun acc σ' H' h l hl => ?_)⟩
    · rw [h.2.1, List.length_map]
      refine Nat.le_trans (List.length_filter_le _ _) ?_
      rw [List.length_take]
      omega
    · obtain ⟨rfl, rfl, o, rfl⟩ := h
      rw [List.getElem?_map] at hy
      cases hx : c.names[i]? with
      | none => rw [hx] at hy; cases hy
      | some y' =>
        rw [hx] at hy
        cases hy
        refine ⟨_, rfl, _, rfl, pa, _, rfl, .inl (SqL.of hpa1), rfl, flat_strs _, _, rfl, ?_⟩
        show if (if true = true then !inV (.str y') (pl.map V.str) else inV (.str y') (pl.map V.str)) = true then _ else _
        rw [show (if true = true then !inV (.str y') (pl.map V.str) else inV (.str y') (pl.map V.str)) = !decide (y' ∈ pl) from by rw [if_pos rfl, inV_str]]
        have tk : c.names.take (i + 1) = c.names.take i ++ [y'] := by rw [List.take_add_one, hx]; rfl
        by_cases hb : y' ∈ pl
        · refine iteFb (by simp [hb]) ⟨rfl, ?_, _, rfl⟩
          rw [tk, List.filter_append, List.filter_cons_of_neg (by simp [hb]), List.filter_nil, List.append_nil]
        · refine iteTb (by simp [hb]) ⟨_, rfl, rfl, ?_, _, rfl⟩
          rw [tk, List.filter_append, List.filter_cons_of_pos (by simp [hb]), List.map_append]
          rfl
    · obtain ⟨rfl, rfl, o, rfl⟩ := h
      rw [List.length_map, List.take_length]
      have zl := Same.new (o := .lst ((c.names.filter fun y => decide (y ∉ pl)).map V.str)) hl
      have el : (upd H1 l (.lst ((c.names.filter fun y => decide (y ∉ pl)).map V.str))) l = some (.lst ((c.names.filter fun y => decide (y ∉ pl)).map V.str)) := upd_same
      have s2 := s1.trans zl
      generalize upd H1 l (.lst ((c.names.filter fun y => decide (y ∉ pl)).map V.str)) = H2 at el s2
      have ef : firstNot pl c.names = (c.names.filter fun y => decide (y ∉ pl)).head? := by
        unfold firstNot
        rw [List.head?_filter]
      have sof : ∀ y ∈ c.names.filter (fun y => decide (y ∉ pl)), PyData.strOk y = true := fun y hy => so y (List.mem_filter.mp hy).1
      unfold ansD at q
      rw [ef] at q
      generalize c.names.filter (fun y => decide (y ∉ pl)) = ws at el sof q
      refine ⟨_, rfl, by decide, fun l2 hl2 => ?_⟩
      have z2 := Same.new (o := .lst []) hl2
      refine ⟨1, .list (ws.map PyData.str), .list [], by decide, .inl ⟨_, _, SqL.of (z2 _ _ el), rfl, rd_flat sof⟩, .inl ⟨_, _, SqL.of upd_same, rfl, .nil⟩, _, rfl, ?_⟩
      show if PyData.eqv (.list (ws.map PyData.str)) (.list []) = true then _ else _
      cases ws with
      | nil =>
        refine iteTb (by simp [PyData.eqv, PyData.eqvAll]) ⟨(by show 2 ≤ sizeLine; decide), fun l3 hl3 => q (.ref l3) _ ((s2.trans z2).upd hl3) ?_⟩
        exact .inl ⟨_, _, upd_same, rfl, .cons ⟨by decide +kernel, rfl⟩ (.cons rfl .nil)⟩
      | cons x r =>
        refine iteFb (by simp [PyData.eqv, PyData.eqvAll]) ⟨_, rfl, l, _, _, .str x, rfl, rfl, SqL.of (z2 _ _ el), atI_nat (j := 0) rfl, (by show 2 ≤ sizeLine; decide), fun l3 hl3 => q (.ref l3) _ ((s2.trans z2).upd hl3) ?_⟩
        exact .inl ⟨_, _, upd_same, rfl, .cons ⟨by decide +kernel, rfl⟩ (.cons ⟨sof x List.mem_cons_self, rfl⟩ .nil)⟩
abbrev None7 : List Str := ["_law_net_here", "_law_places", "_law_claim_here", "_law_copy_here", "_law_term_here"]
theorem sc_one7 : FnScope None7 ["_law_net_here", "_law_places", "_law_claim_here"] (defScope s_l_one) := ⟨rfl, rfl, rfl, by decide +kernel, rfl, by decide +kernel, by decide +kernel⟩
theorem ok_one7 {f : Addr} {fd : FuncData} (F : Fun K "_law_one" "_law_one" s_l_one f fd) (cc : Can P w K mg base 11 "_law_copy" ["_law_claim_here"] (spLCopy 10)) (ca : Can P w K mg base 24 "_law_caught" ["_law_net_here", "_law_word", "_law_thing"] (spCaught C)) (cd : Can P w K mg base 11 "_law_due" ["_law_places", "_law_thing"] spDue) : FnOk P w K mg base CX0 25 f fd ["_law_net_here", "_law_places", "_law_claim_here"] (spOne7 C) := by
  refine F.ok sc_one7 (fun vs H Q E h => ?_) (fun cdv A outer s H vs Q E hr h => ?_)
  · obtain ⟨p, ds, dl, pa, S, v, c, rfl, _⟩ := h
    rfl
  · obtain ⟨p, ds, dl, pa, S, v, c, rfl, N, hpa, pd, wf, dp, on, q⟩ := h
    have r11 : Room 11 _ := hr.mono (by decide)
    have hU := hr.units
    refine ⟨_, (pss_cons (ps_set (i := 3) sc_one7.nd rfl (Or.inl rfl) (pe_callC cc r11 (by rfl) (pa_cons (pv 2) pa_nil)))
      (pss_cons (ps_if (PW.pt (pw_or (pt_cmpR (op_neD hU) (pe_callC ca hr (by rfl) (pa_cons (pv 0) (pa_cons pe_str (pa_cons (pv 2) pa_nil)))) (pe_callC cd r11 (by rfl) (pa_cons (pv 1) (pa_cons (pv 2) pa_nil))) (nomark _)) (pw_or1 (pt_cmpR (op_neD hU) (pv 2) (pv 3) (nomark _))))) (pss_one (ps_ret pe_bl)) pss_nil)
      (pss_cutE (ps_if (pt_cmpR op_eq (pe_ix ix_tup (pv 2) pe_int (fun _ _ => by rfl)) pe_str (nomark _)) (pss_one (ps_for PassesOwn.never rfl (pi_tup (pe_slice sl_tup (pv 2) (po_some pe_int) po_none)) (pg_name (i := 4) sc_one7.nd rfl (Or.inl rfl))
            (pss_one (ps_if (pt_cmpR (op_neD hU) (pe_callC ca hr (by rfl) (pa_cons (pv 0) (pa_cons pe_str (pa_cons (pv 4) pa_nil)))) (pe_callC cd r11 (by rfl) (pa_cons (pv 1) (pa_cons (pv 4) pa_nil))) (nomark _)) (pss_one (ps_ret pe_bl)) pss_nil)))) pss_nil)
      (pss_one (ps_ret (pe_cmpR (op_eqD hU) (pv 2) (pv 3) (nomark _))))))), ?_⟩
    have ok := ok_dat wf dp
    refine ⟨_, rfl, v, c.dat, rfl, pd, ok, fun v2 H1 s1 pd1 => ?_⟩
    refine ⟨_, rfl, _, rfl, p, ds, dl, S, _, v, c, rfl, N.same s1, pd.same s1, wf, dp, on, fun a1 H2 s2 q2 => ?_⟩
    have s02 := s1.trans s2
    refine ⟨_, rfl, _, rfl, pa, S.pl, v, c, rfl, s02 _ _ hpa, pd.same s02, wf, dp, fun x hx => (on x hx).2, fun a2 H3 s3 q3 => ?_⟩
    have s03 := s02.trans s3
    have pd3 := pd.same s03
    have pd13 := (pd1.same s2).same s3
    refine ⟨1, _, _, by decide, (q2.same s3).rd, q3.rd, _, rfl, iteFb (by show (!PyData.eqv _ _) = false; rw [pd_refl q3]; rfl) ⟨_, rfl, _, rfl, 10, _, _, by decide, pd3.rd, pd13.rd, _, rfl, iteFb (by show (!PyData.eqv _ _) = false; rw [pd_refl pd3]; rfl) ?_⟩⟩
    refine ⟨fun σ' H' => Same H3 H' ∧ ∃ o, σ' = [some (.ref p), some (.ref pa), some v, some v2, o], ?_, ?_⟩
    · obtain ⟨ds0, eds⟩ := dat_hw c
      have pdc := pd3
      rw [eds] at pdc
      obtain ⟨m, a, xs, hm, rfl, ha, pr⟩ := pdc.tup_of
      cases hm
      cases pr with
      | cons p1 pr =>
        rename_i v1 xs
        have := p1.str_is
        subst this
        have h0 : atI (V.str c.hw :: xs) 0 = some (.str c.hw) := atI_nat (j := 0) rfl
        refine ⟨_, rfl, a, _, _, .str c.hw, rfl, rfl, SqT.of ha, h0, rfl, _, rfl, ?_⟩
        rw [eq_V]
        by_cases hb : c.hw = "atmost"
        · have k5 : clW c.hw = 5 := by rw [hb]; decide +kernel
          obtain ⟨ds1, nms, ed, pn, en, dl3⟩ := cls5 (n := 9) wf dp (by rw [k5]; decide) (by rw [k5]; decide) (by rw [k5]; decide) (by rw [k5]; decide) (by rw [k5]; decide)
          rw [eds] at ed
          cases ed
          refine iteTb (decide_eq_true hb) ⟨_, rfl, _, rfl, a, _, rfl, SqT.of ha, cut1_not, fun t ht => ?_⟩
          rw [cut1]
          have s4 := Same.new (o := .tup xs) ht
          have e4 : (upd H3 t (.tup xs)) t = some (.tup xs) := upd_same
          generalize upd H3 t (.tup xs) = H4 at s4 e4
          refine ⟨t, rfl, ⟨_, SqT.of e4⟩, for_tup (K := K) (a := t) (xs := xs) (fun i σ' H' => Same H3 H' ∧ H' t = some (.tup xs) ∧ ∃ o, σ' = [some (.ref p), some (.ref pa), some (.ref a), some v2, o])
            ⟨s4, e4, none, rfl⟩ (fun i σ' H' _ h => SqT.of h.2.1) (fun i y σ' H' hy h => ?_) (fun σ' H' h => ?_)⟩
          · obtain ⟨s5, e5, o, rfl⟩ := h
            obtain ⟨d, hd', pdi⟩ := pair_get pr hy
            obtain ⟨lm, hlm, pt⟩ := pair_get pn hd'
            rcases pt with ⟨tt, rfl, w1, d1, rfl⟩ | ⟨z, rfl, rfl⟩
            · have mem : ∀ x ∈ tt.names, x ∈ c.names := fun x hx => by
                rw [en]
                exact List.mem_flatten.mpr ⟨_, List.mem_of_getElem? hlm, hx⟩
              have s05 := s03.trans s5
              have pdy := (pdi.same s5).up
              refine ⟨_, rfl, _, rfl, p, ds, dl, S, _, y, tt, rfl, N.same s05, pdy, w1, by omega, fun x hx => on x (mem x hx), fun a3 H6 s6 q6 => ?_⟩
              refine ⟨_, rfl, _, rfl, pa, S.pl, y, tt, rfl, (s05.trans s6) _ _ hpa, pdy.same s6, w1, by omega, fun x hx => (on x (mem x hx)).2, fun a4 H7 s7 q7 => ?_⟩
              refine ⟨1, _, _, by decide, (q6.same s7).rd, q7.rd, _, rfl, iteFb (by show (!PyData.eqv _ _) = false; rw [pd_refl q7]; rfl) ⟨(s5.trans s6).trans s7, s7 _ _ (s6 _ _ e5), _, rfl⟩⟩
            · exfalso
              rw [hb] at eds
              cases c with
              | two w a b => cases eds; cases pr with
                | cons p2 pr => cases pr with
                  | cons p3 pr => cases pr with
                    | nil =>
                      have : i < 2 := (List.getElem?_eq_some_iff.mp hd').1
                      match i, this with
                      | 0, _ => have hd' : some a.dat = some (PyData.int z) := hd'; cases a <;> cases hd'
                      | 1, _ => have hd' : some b.dat = some (PyData.int z) := hd'; cases b <;> cases hd'
              | one w a => cases eds; have : i < 1 := (List.getElem?_eq_some_iff.mp hd').1; match i, this with
                | 0, _ => have hd' : some a.dat = some (PyData.int z) := hd'; cases a <;> cases hd'
              | times z a => exact absurd (show ("times" : Str) = "atmost" from hb) (by decide +kernel)
              | _ =>
                have k := (hwc wf).symm.trans k5
                cases k
          · obtain ⟨s5, e5, o, rfl⟩ := h
            exact ⟨s5, _, rfl⟩
        · exact iteFb (decide_eq_false hb) ⟨Same.refl _, _, rfl⟩
    rintro _ H8 ⟨s8, o, rfl⟩
    refine ⟨_, rfl, _, rfl, 10, _, _, by decide, (pd3.same s8).rd, (pd13.same s8).rd, ?_⟩
    show Q (.bl (PyData.eqv _ _)) _
    rw [pd_refl pd3]
    exact q _ (s03.trans s8)
end
end Net

namespace Net
open PySem L2
/-! ### the law -/
def spLaw (K : PySem.W.Frag) : Sp := fun vs H Q _ => ∃ (a : Addr) (ns : List Int), vs = [.ref a] ∧ SqL K H a (ns.map V.int) ∧ ns.length ≤ 63 ∧ ∀ H', Q (.bl true) H'
def spClaimU : Sp := fun vs H Q E => ∃ N, 1 ≤ N ∧ N ≤ 4 ∧ spClaim7 N vs H Q E
theorem pf_of {H : Hp} : ∀ {n : Nat} {v : V} {d : PyData}, PD H n v d → PDF (fun _ => True) H n v d
  | 0, v, d, h => by cases v <;> first | exact h | exact h.elim
  | n + 1, v, d, h => by
    cases v <;> first | exact h | exact h.elim | skip
    rcases h with ⟨xs, ds, e, e2, p⟩ | ⟨xs, ds, e, e2, p⟩
    · exact .inl ⟨xs, ds, e, trivial, e2, L2.Paired.mapP p fun _ _ h => pf_of h⟩
    · exact .inr ⟨xs, ds, e, e2, L2.Paired.mapP p fun _ _ h => pf_of h⟩
theorem name_len7 {x : Str} (h : nameB x = true) : 1 ≤ x.length ∧ x.length ≤ 12 := by
  unfold nameB at h
  simp at h
  exact h.1
theorem name_sg7 {x : Str} (h : nameB x = true) : ∀ c ∈ x.cps.toList, 97 ≤ c ∧ c ≤ 122 := fun c hc => by
  unfold nameB at h
  simp only [Bool.and_eq_true, List.all_eq_true] at h
  have := h.2 c hc
  unfold smallB at this
  simpa using this
def okS (x : Str) : Prop := okN x ∧ PyData.strOk x = true
theorem okS_name {x : Str} (h : nameB x = true) : okS x := ⟨⟨(name_len7 h).2, fun c hc => Nat.lt_of_le_of_lt (name_sg7 h c hc).2 (by decide)⟩, strOk_of h⟩
theorem okS_odd {y : Str} (h : y ∈ [("X" : Str), "Y", "nowhere", "XY", ""]) : okS y := by
  simp only [List.mem_cons, List.not_mem_nil, or_false] at h
  unfold okS okN
  rcases h with rfl | rfl | rfl | rfl | rfl <;> decide +kernel
theorem pick5 (a b c d e : Str) (z : Int) (h0 : 0 ≤ z) (h3 : z < 5) : ∃ y ∈ [a, b, c, d, e], atI [V.str a, .str b, .str c, .str d, .str e] z = some (V.str y) := by
  obtain ⟨j, rfl⟩ : ∃ j : Nat, z = (j : Int) := ⟨z.toNat, by omega⟩
  have hj : j < 5 := by omega
  match j, hj with
  | 0, _ => exact ⟨a, by simp, atI_nat (j := 0) rfl⟩
  | 1, _ => exact ⟨b, by simp, atI_nat (j := 1) rfl⟩
  | 2, _ => exact ⟨c, by simp, atI_nat (j := 2) rfl⟩
  | 3, _ => exact ⟨d, by simp, atI_nat (j := 3) rfl⟩
  | 4, _ => exact ⟨e, by simp, atI_nat (j := 4) rfl⟩
theorem ints_map7 : ∀ {l : List V}, (∀ v ∈ l, ∃ i, v = V.int i) → ∃ ns : List Int, l = ns.map V.int
  | [], _ => ⟨[], rfl⟩
  | v :: l, h => by
    obtain ⟨i, rfl⟩ := h v List.mem_cons_self
    obtain ⟨ns, rfl⟩ := ints_map7 fun v hv => h v (List.mem_cons_of_mem _ hv)
    exact ⟨i :: ns, rfl⟩
theorem same_spo {H8 H12 H13 : Hp} {k : Nat} (s : Same H8 H12) (sp : Spo (fun q => H8 q = none) k H12 H13) : Same H8 H13 := fun b o e => by
  by_cases h : ∃ xs, o = .lst xs
  · obtain ⟨xs, rfl⟩ := h
    exact sp.old b xs (s _ _ e) (fun z => by have z : H8 b = none := z; rw [z] at e; cases e)
  · exact sp.oth b o (s _ _ e) fun xs z => h ⟨xs, z⟩
theorem fn_none {pl ns : List Str} (h : ∀ x ∈ ns, x ∈ pl) : firstNot pl ns = none := by
  unfold firstNot
  exact List.find?_eq_none.mpr fun z hz => by simp [h z hz]
section
variable {P : Program} {w : World} {K : PySem.W.Frag} {mg : Str → Option Value} {base : Heap} {C : Addr}
theorem can_claimU (hF : ∃ f fd, Fun K "_law_claim" "_law_claim" s_l_claim f fd ∧ mg "_law_claim" = some (.ref f)) (T : Txt K mg C) (ck : Can P w K mg base 1 "_law_kind" ["_law_cell", "_law_names_here"] spKind7) (ct : Can P w K mg base 3 "_law_term" ["_law_cells", "_law_at", "_law_deep", "_law_names_here"] spTerm01) : Can P w K mg base 8 "_law_claim" ["_law_cells", "_law_at", "_law_deep", "_law_names_here"] spClaimU := by
  obtain ⟨f, fd, F, m⟩ := id hF
  have cv : Can P w K mg base 4 "_law_claim" ["_law_cells", "_law_at", "_law_deep", "_law_names_here"] spVoid := can_void7 4 hF fun _ _ F => F.binds fun _ _ _ _ _ _ us hl => match us, hl with | [_, _, _, _], _ => rfl
  have all : ∀ N, 1 ≤ N → N ≤ 4 → FnOk P w K mg base CX0 8 f fd ["_law_cells", "_law_at", "_law_deep", "_law_names_here"] (spClaim7 N) := fun N h1 h4 => by
    match N, h1, h4 with
    | 1, _, _ => exact (ok_claim7 (N := 1) (k := 4) F T (by decide) ck ct (can_claim7 hF T ck ct 0) cv (fun M h => by rw [← Nat.succ.inj h]) (fun M h => by omega)).mono (by decide)
    | M + 2, _, h => exact (ok_claim7 (N := M + 2) (k := M + 5) F T (by omega) ck ct (can_claim7 hF T ck ct (M + 1)) ((can_claim7 hF T ck ct M).mono (by omega)) (fun L h => by rw [Nat.succ.inj h]) (fun L h => by rw [show M = L by omega])).mono (by omega)
  exact ⟨f, fd, ⟨fun vs H Q E ⟨N, h1, h4, h⟩ => (all N h1 h4).len vs H Q E h, fun A outer s H args us vs Q E a1 a2 a3 a4 ⟨N, h1, h4, h⟩ => (all N h1 h4).run A outer s H args us vs Q E a1 a2 a3 a4 h⟩, m, F.kp, F.binds fun _ _ _ _ _ _ us hl => match us, hl with | [_, _, _, _], _ => rfl⟩
abbrev Nlaw71 : List Str := ["_law_script", "_law_places", "_law_ties", "_law_net_here", "_law_cells", "_law_k", "_law_cell", "_law_names_here", "_law_claim_here", "_law_place", "_law_copy_here", "_law_told"]
theorem sc_law71 : FnScope Nlaw71 ["_law_script"] (defScope s_law) := ⟨rfl, rfl, rfl, by decide +kernel, rfl, by decide +kernel, by decide +kernel⟩
theorem ok_law71 {f : Addr} {fd : FuncData} (F : Fun K "law" "law" s_law f fd) (T : Txt K mg C) (TM : TxtM mg) (cc : Can P w K mg base 1 "_law_cell_at" ["_law_script", "_law_k"] (spCellD K)) (cp : Can P w K mg base 2 "_law_parts" ["_law_script"] (spParts K)) (cn : Can P w K mg base 5 "_law_net" ["_law_places", "_law_ties"] (spLNet C)) (cl : Can P w K mg base 8 "_law_claim" ["_law_cells", "_law_at", "_law_deep", "_law_names_here"] spClaimU) (co : Can P w K mg base 25 "_law_one" ["_law_net_here", "_law_places", "_law_claim_here"] (spOne7 C)) (cy : Can P w K mg base 11 "_law_copy" ["_law_claim_here"] (spLCopy 10)) (cpu : Can P w K mg base 11 "put_in" ["claim", "variable", "place"] (spPut 10)) (clp : Can P w K mg base 10 "_law_put" ["_law_thing", "_law_place"] (spLPut 10)) (cca : Can P w K mg base 24 "_law_caught" ["_law_net_here", "_law_word", "_law_thing"] (spCaught C)) (csp : Can P w K mg base 11 "_law_spoil" ["_law_thing"] (spSpoil 10)) (m1 : CanM P w K mg base 1 C "places" ["self"] (spPlaces C)) (m2 : CanM P w K mg base 1 C "ties" ["self"] (spTies C)) : FnOk P w K mg base CX0 26 f fd ["_law_script"] (spLaw K) := by
  refine F.ok sc_law71 (fun vs H Q E h => ?_) (fun cdv A outer s H vs Q E hr h => ?_)
  · obtain ⟨a, ns, rfl, _⟩ := h
    rfl
  · obtain ⟨a, ns, rfl, hS, hlen, q⟩ := h
    have hU := hr.units
    have r1 : Room 1 _ := hr.mono (by decide)
    have r2 : Room 2 _ := hr.mono (by decide)
    have r5 : Room 5 _ := hr.mono (by decide)
    have r8 : Room 8 _ := hr.mono (by decide)
    have r10 : Room 10 _ := hr.mono (by decide)
    have r11 : Room 11 _ := hr.mono (by decide)
    have r24 : Room 24 _ := hr.mono (by decide)
    refine ⟨_, (pss_cons (ps_asg (pe_callC cp r2 (by rfl) (pa_cons (pv 0) pa_nil)) (pg_tup rfl (pgs_cons (pg_name (i := 1) sc_law71.nd rfl (Or.inl rfl)) (pgs_cons (pg_name (i := 2) sc_law71.nd rfl (Or.inl rfl)) pgs_nil))))
      (pss_cons (ps_set (i := 3) sc_law71.nd rfl (Or.inl rfl) (pe_callC cn r5 (by rfl) (pa_cons (pv 1) (pa_cons (pv 2) pa_nil))))
      (pss_cons (ps_set (i := 4) sc_law71.nd rfl (Or.inl rfl) (pe_op op_cat (pe_slice sl_list (pv 0) (po_some pe_int) (po_some pe_int)) (pe_lst (pa_cons (pe_callC cc r1 (by rfl) (pa_cons (pv 0) (pa_cons pe_int pa_nil))) pa_nil))))
      (pss_cons (ps_for PassesOwn.never rfl (pi_enum rfl TM.enum (pa_cons (pe_op op_cat (pe_slice sl_list (pv 0) (po_some pe_int) (po_some pe_int)) (pe_lst (pa_cons (pe_callC cc r1 (by rfl) (pa_cons (pv 0) (pa_cons pe_int pa_nil))) pa_nil))) pa_nil)) (pg_tup rfl (pgs_cons (pg_name (i := 5) sc_law71.nd rfl (Or.inl rfl)) (pgs_cons (pg_name (i := 6) sc_law71.nd rfl (Or.inl rfl)) pgs_nil)))
          (pss_cons (ps_set (i := 7) sc_law71.nd rfl (Or.inl rfl) (pe_callTy call_list_of (by rfl) T.list b_list (pa_cons (pv 1) pa_nil)))
      (pss_cutE (ps_if (pt_cmpR op_eq (pe_op op_mod (pv 6) pe_int) pe_int (nomark _)) (pss_one (ps_set (i := 7) sc_law71.nd rfl (Or.inl rfl) (pe_op op_cat (pe_op op_cat (pe_slice sl_list (pv 1) po_none (po_some (pe_op op_add pe_int (pe_op op_mod (pv 6) pe_int)))) (pe_lst (pa_cons (pe_ix ix_list (pe_lst (pa_cons pe_str (pa_cons pe_str (pa_cons pe_str (pa_cons pe_str (pa_cons pe_str pa_nil)))))) (pe_op op_mod (pe_op op_fdiv (pv 6) pe_int) pe_int) (fun _ _ => by rfl)) pa_nil))) (pe_slice sl_list (pv 1) (po_some pe_int) po_none)))) pss_nil)
      (pss_cons (ps_set (i := 8) sc_law71.nd rfl (Or.inl rfl) (pe_callC cl r8 (by rfl) (pa_cons (pv 4) (pa_cons (pe_op op_add (pv 5) (pv 6)) (pa_cons (pe_op op_add pe_int (pe_op op_mod (pv 6) pe_int)) (pa_cons (pv 7) pa_nil))))))
      (pss_cons (ps_if (pt_not (pt_val (pe_callC co hr (by rfl) (pa_cons (pv 3) (pa_cons (pv 1) (pa_cons (pv 8) pa_nil)))))) (pss_one (ps_ret pe_bl)) pss_nil)
      (pss_cons (ps_set (i := 8) sc_law71.nd rfl (Or.inl rfl) (pe_callC cl r8 (by rfl) (pa_cons (pv 4) (pa_cons (pe_op op_add (pv 5) (pe_op op_fdiv (pv 6) pe_int)) (pa_cons (pe_op op_add pe_int (pe_op op_mod (pe_op op_fdiv (pv 6) pe_int) pe_int)) (pa_cons (pe_op op_cat (pv 1) (pe_lst (pa_cons pe_str pa_nil))) pa_nil))))))
      (pss_cons (ps_set (i := 9) sc_law71.nd rfl (Or.inl rfl) (pe_ix ix_list (pv 1) (pe_op op_mod (pe_op op_fdiv (pv 6) pe_int) (pe_callB call_len_seq (by rfl) T.len b_len (pa_cons (pv 1) pa_nil))) (fun _ _ => by rfl)))
      (pss_cons (ps_set (i := 10) sc_law71.nd rfl (Or.inl rfl) (pe_callC cy r11 (by rfl) (pa_cons (pv 8) pa_nil)))
      (pss_cons (ps_set (i := 11) sc_law71.nd rfl (Or.inl rfl) (pe_callC cpu r11 (by rfl) (pa_cons (pv 8) (pa_cons pe_str (pa_cons (pv 9) pa_nil)))))
      (pss_cons (ps_if (PW.pt (pw_or (pt_cmpR (op_neD hU) (pv 11) (pe_callC clp r10 (by rfl) (pa_cons (pv 8) (pa_cons (pv 9) pa_nil))) (nomark _)) (pw_or (pt_cmpR (op_neD hU) (pv 8) (pv 10) (nomark _)) (pw_or1 (pt_cmpR (op_neD hU) (pe_callC cca r24 (by rfl) (pa_cons (pv 3) (pa_cons pe_str (pa_cons (pv 11) pa_nil)))) (pe_lst (pa_cons pe_str (pa_cons pe_non pa_nil))) (nomark _)))))) (pss_one (ps_ret pe_bl)) pss_nil)
      (pss_cons (ps_expr (pe_callC csp r11 (by rfl) (pa_cons (pv 11) pa_nil)))
      (pss_one (ps_if (pt_cmpR (op_neD hU) (pv 8) (pv 10) (nomark _)) (pss_one (ps_ret pe_bl)) pss_nil)))))))))))))
      (pss_one (ps_ret (pe_and (pe_cmpR (op_eqD hU) (pe_methC0 (pv 3) T.cl m1 r1) (pv 1) (nomark _)) (pe_one (pe_cmpR (op_eqD hU) (pe_methC0 (pv 3) T.cl m2 r1) (pv 2) (nomark _)))))))))), ?_⟩
    refine ⟨_, rfl, a, ns, rfl, hS, fun t pa ta S H1 s1 et PA g => ?_⟩
    refine ⟨t, _, rfl, SqT.of et, rfl, _, _, rfl, _, _, rfl, rfl, ?_⟩
    refine ⟨_, rfl, _, rfl, pa, ta, S, rfl, PA, g, fun x ds dl H2 s2 N => ?_⟩
    have PA2 := PA.same s2
    have s12 := s1.trans s2
    -- cells
    refine ⟨_, rfl, _, rfl, _, rfl, a, _, rfl, s12.seq hS, fun x1 h1 => ?_⟩
    have z1 := Same.new (o := .lst (cutV (ns.map V.int) (some 11) (some 40))) h1
    have f1 : (upd H2 x1 (.lst (cutV (ns.map V.int) (some 11) (some 40)))) x1 = some (.lst (cutV (ns.map V.int) (some 11) (some 40))) := upd_same
    have clen : (cutV (ns.map V.int) (some 11) (some 40)).length ≤ 40 - 11 := cut_len (ns.map V.int) (a := 11) (b := 40) (by decide)
    obtain ⟨cs0, ecs⟩ := ints_map7 (cut_ints (ns := ns) (a := some 11) (b := some 40))
    rw [ecs] at z1 f1 clen ⊢
    rw [List.length_map] at clen
    generalize upd H2 x1 (.lst (cs0.map V.int)) = H3 at z1 f1
    refine ⟨_, rfl, a, ns, 3, rfl, (s12.trans z1).seq hS, by decide, (by show 1 ≤ sizeLine; decide), fun x2 h2 => ?_⟩
    have z2 := Same.new (o := .lst [.int (cellD ns 3)]) h2
    refine ⟨x1, x2, _, _, rfl, rfl, z2 _ _ f1, upd_same, Nat.le_trans (by rw [List.length_map, List.length_singleton]; omega : _ ≤ 100) (by decide), fun ca hca0 => ?_⟩
    have z3 := (z1.trans z2).upd (o := .lst (cs0.map V.int ++ [.int (cellD ns 3)])) hca0
    have hca : (upd (upd H3 x2 (.lst [.int (cellD ns 3)])) ca (.lst (cs0.map V.int ++ [.int (cellD ns 3)]))) ca = some (.lst ((cs0 ++ [cellD ns 3]).map V.int)) := by rw [upd_same, List.map_append]; rfl
    have c1 : 1 ≤ (cs0 ++ [cellD ns 3]).length := by rw [List.length_append]; show 1 ≤ _ + 1; omega
    have c100 : (cs0 ++ [cellD ns 3]).length ≤ 100 := by rw [List.length_append]; show _ + 1 ≤ 100; omega
    generalize cs0 ++ [cellD ns 3] = cs at hca c1 c100
    generalize upd (upd H3 x2 (.lst [.int (cellD ns 3)])) ca (.lst (cs0.map V.int ++ [.int (cellD ns 3)])) = H4 at z3 hca
    -- the loop's cells
    refine ⟨_, rfl, _, rfl, _, rfl, a, _, rfl, (s12.trans z3).seq hS, fun y1 k1 => ?_⟩
    have w1 := Same.new (o := .lst (cutV (ns.map V.int) (some 40) (some 56))) k1
    have e1 : (upd H4 y1 (.lst (cutV (ns.map V.int) (some 40) (some 56)))) y1 = some (.lst (cutV (ns.map V.int) (some 40) (some 56))) := upd_same
    have dlen : (cutV (ns.map V.int) (some 40) (some 56)).length ≤ 56 - 40 := cut_len (ns.map V.int) (a := 40) (b := 56) (by decide)
    obtain ⟨ks0, eks⟩ := ints_map7 (cut_ints (ns := ns) (a := some 40) (b := some 56))
    rw [eks] at w1 e1 dlen ⊢
    rw [List.length_map] at dlen
    generalize upd H4 y1 (.lst (ks0.map V.int)) = H5 at w1 e1
    refine ⟨_, rfl, a, ns, 0, rfl, ((s12.trans z3).trans w1).seq hS, by decide, (by show 1 ≤ sizeLine; decide), fun y2 k2 => ?_⟩
    have w2 := Same.new (o := .lst [.int (cellD ns 0)]) k2
    refine ⟨y1, y2, _, _, rfl, rfl, w2 _ _ e1, upd_same, Nat.le_trans (by rw [List.length_map, List.length_singleton]; omega : _ ≤ 100) (by decide), fun sc hsc0 => ⟨sc, rfl, ⟨_, SqL.of upd_same⟩, ?_⟩⟩
    have w3 := (w1.trans w2).upd (o := .lst (ks0.map V.int ++ [.int (cellD ns 0)])) hsc0
    have hsc : (upd (upd H5 y2 (.lst [.int (cellD ns 0)])) sc (.lst (ks0.map V.int ++ [.int (cellD ns 0)]))) sc = some (.lst ((ks0 ++ [cellD ns 0]).map V.int)) := by rw [upd_same, List.map_append]; rfl
    rw [show ks0.map V.int ++ [.int (cellD ns 0)] = (ks0 ++ [cellD ns 0]).map V.int by rw [List.map_append]; rfl]
    rw [show ks0.map V.int ++ [.int (cellD ns 0)] = (ks0 ++ [cellD ns 0]).map V.int by rw [List.map_append]; rfl] at w3 hsc
    generalize ks0 ++ [cellD ns 0] = ks at w3 hsc
    generalize upd (upd H5 y2 (.lst [.int (cellD ns 0)])) sc (.lst (ks.map V.int)) = Hs at w3 hsc
    have sS := z3.trans w3
    have hcaS := w3 _ _ hca
    have hpaS := (PA2.same sS).pl
    have NS := N.same sS
    have l4 := g.lenP
    have l1 := g.neP
    refine for_enum (K := K) (a := sc) (xs := ks.map V.int) (fun i σ' H' => (∃ o5 o6 o7 o8 o9 o10 o11, σ' = [some (.ref a), some (.ref pa), some (.ref ta), some (.ref x), some (.ref ca), o5, o6, o7, o8, o9, o10, o11]) ∧ Same Hs H')
      ⟨⟨_, _, _, _, _, _, _, rfl⟩, Same.refl _⟩ (fun i σ' H' _ h => SqL.of (h.2 _ _ hsc)) (fun i v σ' H' tt hv h htt => ?_) (fun σ' H' h => ?_)
    · obtain ⟨⟨o5, o6, o7, o8, o9, o10, o11, rfl⟩, t0⟩ := h
      rw [List.getElem?_map] at hv
      cases hk : ks[i]? with
      | none => rw [hk] at hv; cases hv
      | some cell =>
        rw [hk] at hv
        cases hv
        have t1 := t0.upd (o := .tup [.int i, .int cell]) htt
        refine ⟨tt, _, rfl, SqT.of upd_same, rfl, _, _, rfl, _, _, rfl, rfl, ?_⟩
        generalize upd H' tt (.tup [.int i, .int cell]) = G1 at t1
        refine ⟨_, rfl, pa, _, rfl, .inl (SqL.of (t1 _ _ hpaS)), fun nh hnh => ?_⟩
        have t2 := t1.upd (o := .lst (S.pl.map V.str)) hnh
        have en : (upd G1 nh (.lst (S.pl.map V.str))) nh = some (.lst (S.pl.map V.str)) := upd_same
        generalize upd G1 nh (.lst (S.pl.map V.str)) = G2 at t2 en
        have plok : ∀ x ∈ S.pl, okS x := fun x hx => okS_name (g.okP x hx)
        refine ⟨fun σ' H' => Same Hs H' ∧ ∃ (nh : Addr) (nms : List Str), H' nh = some (.lst (nms.map V.str)) ∧ 1 ≤ nms.length ∧ nms.length ≤ 9 ∧ (∀ x ∈ nms, okS x) ∧ σ' = [some (.ref a), some (.ref pa), some (.ref ta), some (.ref x), some (.ref ca), some (.int i), some (.int cell), some (.ref nh), o8, o9, o10, o11], ?_, ?_⟩
        · refine ⟨_, rfl, _, _, rfl, rfl, (by show (0 : Int) < 2; decide), rfl, _, rfl, ite2 (fun _ => ?_) (fun _ => ⟨t2, nh, S.pl, en, l1, by omega, plok, rfl⟩)⟩
          obtain ⟨g1, eg1, lg1, hg1⟩ := cut_strs S.pl none (some (1 + cell % 3))
          obtain ⟨g2, eg2, lg2, hg2⟩ := cut_strs S.pl (some 1) none
          obtain ⟨y, hy, ey⟩ := pick5 "X" "Y" "nowhere" "XY" "" (cell / 2 % 5) (by omega) (by omega)
          refine ⟨_, rfl, _, rfl, _, _, rfl, rfl, (by show (0 : Int) < 3; decide), _, _, rfl, rfl, _, rfl, pa, _, rfl, SqL.of (t2 _ _ hpaS), fun b1 hb1 => ?_⟩
          rw [eg1]
          have u1 := t2.upd (o := .lst (g1.map V.str)) hb1
          have v1 : (upd G2 b1 (.lst (g1.map V.str))) b1 = some (.lst (g1.map V.str)) := upd_same
          generalize upd G2 b1 (.lst (g1.map V.str)) = G3 at u1 v1
          refine ⟨(by show 5 ≤ sizeLine; decide), fun b2 hb2 => ⟨_, rfl, _, _, rfl, rfl, ⟨by decide, by decide⟩, _, _, rfl, rfl, (by show (0 : Int) < 5; decide), b2, _, _, .str y, rfl, rfl, SqL.of upd_same, ey, (by show 1 ≤ sizeLine; decide), fun b3 hb3 => ?_⟩⟩
          have u2 := Same.new (o := .lst [.str "X", .str "Y", .str "nowhere", .str "XY", .str ""]) hb2
          have u3 := u2.upd (o := .lst [.str y]) hb3
          refine ⟨b1, b3, _, _, rfl, rfl, u3 _ _ v1, upd_same, Nat.le_trans (by rw [List.length_map, List.length_singleton]; omega : _ ≤ 100) (by decide), fun b4 hb4 => ?_⟩
          have u4 := u3.upd (o := .lst (g1.map V.str ++ [.str y])) hb4
          have v4 : (upd (upd (upd G3 b2 (.lst [.str "X", .str "Y", .str "nowhere", .str "XY", .str ""])) b3 (.lst [.str y])) b4 (.lst (g1.map V.str ++ [.str y]))) b4 = some (.lst (g1.map V.str ++ [.str y])) := upd_same
          generalize upd (upd (upd G3 b2 (.lst [.str "X", .str "Y", .str "nowhere", .str "XY", .str ""])) b3 (.lst [.str y])) b4 (.lst (g1.map V.str ++ [.str y])) = G4 at u4 v4
          have u5 := u1.trans u4
          refine ⟨_, rfl, _, rfl, pa, _, rfl, SqL.of (u5 _ _ hpaS), fun b5 hb5 => ?_⟩
          rw [eg2]
          have u6 := Same.new (o := .lst (g2.map V.str)) hb5
          refine ⟨b4, b5, _, _, rfl, rfl, u6 _ _ v4, upd_same, Nat.le_trans (by rw [List.length_append, List.length_map, List.length_map, List.length_singleton]; omega : _ ≤ 100) (by decide), fun b6 hb6 => ?_⟩
          refine ⟨(u5.trans u6).upd hb6, b6, g1 ++ [y] ++ g2, by rw [upd_same, List.map_append, List.map_append]; rfl, by rw [List.length_append, List.length_append, List.length_singleton]; omega, by rw [List.length_append, List.length_append, List.length_singleton]; omega, fun u hu => ?_, rfl⟩
          rcases List.mem_append.mp hu with hu | hu
          · rcases List.mem_append.mp hu with hu | hu
            · exact plok u (hg1 u hu)
            · rw [List.mem_singleton.mp hu]
              exact okS_odd hy
          · exact plok u (hg2 u hu)
        rintro _ G5 ⟨t5, nh, nms, enh, n1, n9, nok, rfl⟩
        refine ⟨_, rfl, _, rfl, _, rfl, _, _, rfl, rfl, _, rfl, _, _, rfl, rfl, (by show (0 : Int) < 4; decide), _, _, rfl, rfl, _, rfl, (1 + cell % 4).toNat, by omega, by omega, ca, nh, cs, nms, _, _, rfl, (by show 1 + cell % 4 = _; omega), t5 _ _ hcaS, c1, c100, enh, n1, by omega, fun u hu => (nok u hu).2, fun v1 t1' G6 s6 pd wf dp sub => ?_⟩
        have t6 := t5.trans s6
        have pd10 : PD G6 10 v1 t1'.dat := pd.monoK (by omega)
        refine ⟨_, rfl, _, rfl, _, rfl, x, ds, dl, pa, S, v1, t1', rfl, NS.same t6, t6 _ _ hpaS, pd10, wf, by omega, fun u hu => nok u (sub u hu), fun G7 s7 => ⟨_, rfl, iteF ?_⟩⟩
        have t7 := t6.trans s7
        clear pd10 pd wf dp sub
        -- the second claim
        refine ⟨_, rfl, _, rfl, _, rfl, _, _, rfl, rfl, ⟨by decide, by decide⟩, _, _, rfl, rfl, _, rfl, _, _, rfl, rfl, ⟨by decide, by decide⟩, _, _, rfl, rfl, (by show (0 : Int) < 4; decide), _, _, rfl, rfl, _, rfl, (by show 1 ≤ sizeLine; decide), fun d1 hd1 => ?_⟩
        have a1 := Same.new (o := .lst [.str "X"]) hd1
        refine ⟨pa, d1, _, _, rfl, rfl, a1 _ _ (t7 _ _ hpaS), upd_same, Nat.le_trans (by rw [List.length_map, List.length_singleton]; omega : _ ≤ 100) (by decide), fun d2 hd2 => ?_⟩
        have a2 := a1.upd (o := .lst (S.pl.map V.str ++ [.str "X"])) hd2
        have t8 := t7.trans a2
        have xok : ∀ u ∈ S.pl ++ [("X" : Str)], okS u := fun u hu => by
          rcases List.mem_append.mp hu with hu | hu
          · exact plok u hu
          · rw [List.mem_singleton.mp hu]
            exact okS_odd (by simp)
        refine ⟨(1 + cell / 2 % 4).toNat, by omega, by omega, ca, d2, cs, S.pl ++ [("X" : Str)], _, _, rfl, (by show 1 + cell / 2 % 4 = _; omega), t8 _ _ hcaS, c1, c100, by rw [upd_same, List.map_append]; rfl, by rw [List.length_append]; omega, by rw [List.length_append, List.length_singleton]; omega, fun u hu => (xok u hu).2, fun v2 c G8 s8 pd0 wf dp0 sub => ?_⟩
        have t9 := t8.trans s8
        have pd : PD G8 10 v2 c.dat := pd0.monoK (by omega)
        have dp : c.dep ≤ 10 := by omega
        clear pd0 dp0
        have ok := ok_dat wf dp
        obtain ⟨y, hy, ey⟩ := pick_pl l1 (cell / 4)
        refine ⟨_, rfl, _, rfl, _, _, rfl, rfl, ⟨by decide, by decide⟩, _, rfl, pa, _, rfl, .inl (SqL.of (t9 _ _ hpaS)), _, _, rfl, rfl, (by rw [List.length_map]; omega), pa, _, _, .str y, rfl, rfl, SqL.of (t9 _ _ hpaS), ey, ?_⟩
        have yok := (plok y hy).2
        refine ⟨_, rfl, v2, c.dat, rfl, pd, ok, fun v3 G9 s9 pd3 => ?_⟩
        refine ⟨_, rfl, _, rfl, v2, c.dat, "X", y, rfl, pd.same s9, ok, yok, fun v4 G10 s10 pf4 => ?_⟩
        refine ⟨_, rfl, _, rfl, _, rfl, fun _ => True, v2, c.dat, y, rfl, pf_of ((pd.same s9).same s10), ok, by rw [isTu_dat, Bool.or_true], yok, fun v5 G11 s11 pf5 => ?_⟩
        rw [put_dat wf dp] at pf4 pf5
        have pw : (c.put y).wf := put_wf wf
        have pdp : (c.put y).dep ≤ 10 := by rw [put_dep]; exact dp
        have pn : ∀ u ∈ (c.put y).names, u ∈ S.pl := fun u hu => by
          obtain ⟨z, hz, rfl⟩ := put_names u hu
          rcases List.mem_append.mp (sub z hz) with h | h
          · unfold subX
            split
            · exact hy
            · exact h
          · unfold subX
            rw [if_pos (List.mem_singleton.mp h)]
            exact hy
        have q4 := pf4.same s11
        have s9b := s10.trans s11
        refine ⟨10, _, _, by decide, q4.pd.rd, pf5.pd.rd, _, rfl, iteFb (by show (!PyData.eqv _ _) = false; rw [pd_refl q4.pd]; rfl) ?_⟩
        refine ⟨_, rfl, _, rfl, 10, _, _, by decide, ((pd.same s9).same s9b).rd, (pd3.same s9b).rd, _, rfl, iteFb (by show (!PyData.eqv _ _) = false; rw [pd_refl pd]; rfl) ?_⟩
        refine ⟨_, rfl, _, rfl, x, ds, dl, S, _, v4, c.put y, rfl, NS.same ((t9.trans s9).trans s9b), q4.pd, pw, pdp, fun u hu => plok u (pn u hu), fun v6 G12 s12' q6 => ?_⟩
        have ea : ansD S.pl (c.put y).names = .list [.str "let by", .none] := by
          unfold ansD
          rw [fn_none pn]
        rw [ea] at q6
        refine ⟨(by show 2 ≤ sizeLine; decide), fun l hl => ?_⟩
        have a5 := Same.new (o := .lst [.str "let by", .non]) hl
        refine ⟨1, _, .list [.str "let by", .none], by decide, (q6.same a5).rd, .inl ⟨_, _, SqL.of upd_same, rfl, .cons ⟨by decide +kernel, rfl⟩ (.cons rfl .nil)⟩, _, rfl, iteFb (by rw [if_pos rfl, pd_refl q6]; rfl) ?_⟩
        have s12b := s12'.trans a5
        refine ⟨_, rfl, v4, fun q => G9 q = none, 12, rfl, TrS.of (q4.same s12b) (ok_dat pw pdp), by decide, fun G14 sp => ?_⟩
        have s14 : Same G9 G14 := same_spo (s9b.trans s12b) sp
        exact ⟨_, rfl, _, rfl, 10, _, _, by decide, ((pd.same s9).same s14).rd, (pd3.same s14).rd, _, rfl, iteFb (by show (!PyData.eqv _ _) = false; rw [pd_refl pd]; rfl) ⟨⟨_, _, _, _, _, _, _, rfl⟩, (t9.trans s9).trans s14⟩⟩
    · obtain ⟨⟨o5, o6, o7, o8, o9, o10, o11, rfl⟩, t0⟩ := h
      have s23 := sS.trans t0
      have N4 := N.same s23
      obtain ⟨dx, h1'⟩ := N4.ob
      refine ⟨_, rfl, x, dx, _, rfl, h1', flds_no ds dl (by decide +kernel) (by decide +kernel), x, ds, dl, S, rfl, N4, fun pl hpl => ?_⟩
      have s5 := Same.new (o := .lst (S.pl.map V.str)) hpl
      have epl : (upd H' pl (.lst (S.pl.map V.str))) pl = some (.lst (S.pl.map V.str)) := upd_same
      generalize upd H' pl (.lst (S.pl.map V.str)) = H6 at s5 epl
      have PA5 := PA2.same (s23.trans s5)
      have N5 := N4.same s5
      obtain ⟨dx5, h15⟩ := N5.ob
      refine ⟨_, rfl, 2, _, _, by decide, rd_strs epl g.okP, rd_strs PA5.pl g.okP, _, rfl, ?_⟩
      show if (if false = true then !PyData.eqv (.list (S.pl.map PyData.str)) (.list (S.pl.map PyData.str)) else PyData.eqv (.list (S.pl.map PyData.str)) (.list (S.pl.map PyData.str))) = true then _ else _
      rw [if_neg Bool.false_ne_true, lay_strs g.okP]
      refine iteT ?_
      refine ⟨_, rfl, x, dx5, _, rfl, h15, flds_no ds dl (by decide +kernel) (by decide +kernel), x, ds, dl, S, rfl, N5, fun tl H7 L htl s6 RL etl => ?_⟩
      have rok : ∀ r ∈ S.ti, nameB r.nm = true ∧ nameB r.a = true ∧ nameB r.b = true := fun r hr => ⟨(g.okT r hr).1, g.okP _ (g.okT r hr).2.1, g.okP _ (g.okT r hr).2.2⟩
      have PA6 := PA5.same s6
      obtain ⟨L2, RL2, eta⟩ := PA6.ti
      refine ⟨_, rfl, 2, _, _, by decide, rd_rows (RL.same s6) etl rok, rd_rows RL2 eta rok, ?_⟩
      show Q (.bl (if false = true then !PyData.eqv (.list (S.ti.map rowD)) (.list (S.ti.map rowD)) else PyData.eqv (.list (S.ti.map rowD)) (.list (S.ti.map rowD)))) H7
      rw [if_neg Bool.false_ne_true, lay_rows]
      exact q _
end
end Net

namespace Net
open PySem L2
theorem kib1 (K : PySem.W.Frag) : PySem.W.kitOne K (.type "int") (.type "bool") = some false := by
  first | rfl | kernel_rfl
/-! ### what the top has written -/
structure Fn (K : PySem.W.Frag) (mg : Str → Option Value) (x : Str) (st : Stmt) : Prop where
  ex : ∃ f fd, Fun K x x st f fd ∧ mg x = some (.ref f)
structure Mt (K : PySem.W.Frag) (C : Addr) (x qual : Str) (st : Stmt) : Prop where
  ex : ∃ f fd, Fun K x qual st f fd ∧ Meth K C x f
theorem fn_mk {K : PySem.W.Frag} {h : Heap} {mg : Str → Option Value} {x : Str} {st : Stmt} {f : Addr} {oc : Value} {od an : Option Addr} {osl : Array (Option Value)} {kV doc pm cdv ct : Value} (X : K.In h) (G : h.Ns mainGlobals mg) (a : PySem.W.nsIn K mainGlobals x = some (some (.ref f)))
    (l : K.lookup f = some ⟨oc, od, .func (PySem.W.fnOf x x (defArgs st) (defBody st) (defScope st) .none kV doc pm an cdv ct), osl⟩) (c : PySem.W.codeIn K cdv x = true) (k : PySem.W.keepIn K (.ref f) = true) : Fn K mg x st :=
  ⟨f, _, fun_mk l c k, PySem.W.mg_of X G a⟩
theorem mt_mk {K : PySem.W.Frag} {C : Addr} {x qual : Str} {st : Stmt} {f : Addr} {oc : Value} {od an : Option Addr} {osl : Array (Option Value)} {kV doc pm cdv ct : Value} (a : PySem.W.findIn K (.ref C) x = some (some (.ref f))) (i : PySem.W.isFn K (.ref f) = true)
    (l : K.lookup f = some ⟨oc, od, .func (PySem.W.fnOf x qual (defArgs st) (defBody st) (defScope st) .none kV doc pm an cdv ct), osl⟩) (c : PySem.W.codeIn K cdv qual = true) (k : PySem.W.keepIn K (.ref f) = true) : Mt K C x qual st :=
  ⟨f, _, fun_mk l c k, a, i, k⟩
section
variable {P : Program} {w : World} {K : PySem.W.Frag} {mg : Str → Option Value} {base : Heap} {C : Addr} {k : Nat} {x qual : Str} {st : Stmt} {ps : List Str} {sp : Sp}
theorem Fn.can (F : Fn K mg x st) (ok : ∀ f fd, Fun K x x st f fd → FnOk P w K mg base CX0 k f fd ps sp)
    (h : ∀ (kV doc pm : Value) (an : Option Addr) (cdv ct : Value) (us : List Value), us.length = ps.length → bindArgs (PySem.W.fnOf x x (defArgs st) (defBody st) (defScope st) .none kV doc pm an cdv ct) ⟨us, []⟩ = pure (ps.zip us)) : Can P w K mg base k x ps sp := by
  obtain ⟨f, fd, G, m⟩ := F.ex
  exact ⟨f, fd, ok f fd G, m, G.kp, G.binds h⟩
theorem Mt.can (F : Mt K C x qual st) (ok : ∀ f fd, Fun K x qual st f fd → FnOk P w K mg base CX0 k f fd ps sp)
    (h : ∀ (kV doc pm : Value) (an : Option Addr) (cdv ct : Value) (us : List Value), us.length = ps.length → bindArgs (PySem.W.fnOf x qual (defArgs st) (defBody st) (defScope st) .none kV doc pm an cdv ct) ⟨us, []⟩ = pure (ps.zip us)) : CanM P w K mg base k C x ps sp := by
  obtain ⟨f, fd, G, m⟩ := F.ex
  exact ⟨f, fd, ok f fd G, m, G.binds h⟩
theorem Mt.canI (F : Mt K C "__init__" qual st) (mk : PySem.W.makesIn K C = true) (kc : PySem.W.keepIn K (.ref C) = true) (ok : ∀ f fd, Fun K "__init__" qual st f fd → FnOk P w K mg base CX0 k f fd ps sp)
    (h : ∀ (kV doc pm : Value) (an : Option Addr) (cdv ct : Value) (us : List Value), us.length = ps.length → bindArgs (PySem.W.fnOf "__init__" qual (defArgs st) (defBody st) (defScope st) .none kV doc pm an cdv ct) ⟨us, []⟩ = pure (ps.zip us)) : CanI P w K mg base k C ps sp := by
  obtain ⟨f, fd, G, m⟩ := F.ex
  exact ⟨f, fd, ok f fd G, ⟨mk, m.at_, m.fn, kc⟩, G.binds h⟩
end
theorem Fn.canX {P : Program} {w : World} {K : PySem.W.Frag} {mg : Str → Option Value} {base : Heap} {k : Nat} {x : Str} {st : Stmt} {ps : List Str} {sp : Sp} (F : Fn K mg x st) (ok : ∀ f fd, Fun K x x st f fd → FnOk P w K mg base (CXF P w) k f fd ps sp)
    (h : ∀ (kV doc pm : Value) (an : Option Addr) (cdv ct : Value) (us : List Value), us.length = ps.length → bindArgs (PySem.W.fnOf x x (defArgs st) (defBody st) (defScope st) .none kV doc pm an cdv ct) ⟨us, []⟩ = pure (ps.zip us)) : CanX P w K mg base k x ps sp := by
  obtain ⟨f, fd, G, m⟩ := F.ex
  exact ⟨f, fd, ok f fd G, m, G.kp, G.binds h⟩
theorem ar1 {p : List Value → Prop} (h : ∀ a, p [a]) : ∀ us : List Value, us.length = 1 → p us
  | [a], _ => h a
theorem ar2 {p : List Value → Prop} (h : ∀ a b, p [a, b]) : ∀ us : List Value, us.length = 2 → p us
  | [a, b], _ => h a b
theorem ar3 {p : List Value → Prop} (h : ∀ a b c, p [a, b, c]) : ∀ us : List Value, us.length = 3 → p us
  | [a, b, c], _ => h a b c
theorem ar4 {p : List Value → Prop} (h : ∀ a b c d, p [a, b, c, d]) : ∀ us : List Value, us.length = 4 → p us
  | [a, b, c, d], _ => h a b c d
theorem ar6 {p : List Value → Prop} (h : ∀ a b c d e f, p [a, b, c, d, e, f]) : ∀ us : List Value, us.length = 6 → p us
  | [a, b, c, d, e, f], _ => h a b c d e f
structure All (K : PySem.W.Frag) (mg : Str → Option Value) (C : Addr) : Prop where
  T : Txt K mg C
  mks : PySem.W.makesIn K C = true
  kc : PySem.W.keepIn K (.ref C) = true
  tm : TxtM mg
  revN : mg "reversed" = none
  errs : ∃ (Cn cc fI : Addr) (gd : FuncData) (es : Nat → Addr), ExcN K mg Cn cc fI ∧ ExcK K mg Cn cc es ∧ Fun K "__init__" "NoPlace.__init__" s_NoPlace_init fI gd
  made : Fn K mg "is_made_of" s_is_made_of
  name : Fn K mg "is_name" s_is_name
  whole : Fn K mg "is_whole" s_is_whole
  rname : Fn K mg "refuse_no_name" s_refuse_no_name
  rwidth : Fn K mg "refuse_no_width" s_refuse_no_width
  rmore : Fn K mg "refuse_more" s_refuse_more
  lookC : Fn K mg "look_at_claim" s_look_at_claim
  lookT : Fn K mg "look_at_term" s_look_at_term
  strg : Fn K mg "refuse_strangers" s_refuse_strangers
  unt : Fn K mg "untold_names" s_untold_names
  nall : Fn K mg "names_of_all" s_names_of_all
  tells : Fn K mg "tells_variable" s_tells_variable
  putI : Fn K mg "put_in" s_put_in
  cop : Fn K mg "copied" s_copied
  cell : Fn K mg "_law_cell_at" s_l_cell_at
  lname : Fn K mg "_law_name" s_l_name
  parts : Fn K mg "_law_parts" s_l_parts
  lnet : Fn K mg "_law_net" s_l_net
  kind : Fn K mg "_law_kind" s_l_kind
  term : Fn K mg "_law_term" s_l_term
  clm : Fn K mg "_law_claim" s_l_claim
  lcopy : Fn K mg "_law_copy" s_l_copy
  spoil : Fn K mg "_law_spoil" s_l_spoil
  lnms : Fn K mg "_law_names" s_l_names
  lput : Fn K mg "_law_put" s_l_put
  caught : Fn K mg "_law_caught" s_l_caught
  due : Fn K mg "_law_due" s_l_due
  one : Fn K mg "_law_one" s_l_one
  init : Mt K C "__init__" "Net.__init__" s_Net_init
  place : Mt K C "place" "Net.place" s_Net_place
  tie : Mt K C "tie" "Net.tie" s_Net_tie
  places : Mt K C "places" "Net.places" s_Net_places
  ties : Mt K C "ties" "Net.ties" s_Net_ties
theorem law_ok {P : Program} {w : World} {K : PySem.W.Frag} {mg : Str → Option Value} {base : Heap} {C f : Addr} {fd : FuncData} (A : All K mg C) (F : Fun K "law" "law" s_law f fd) : FnOk P w K mg base CX0 26 f fd ["_law_script"] (spLaw K) := by
  have T := A.T
  have TM := A.tm
  have U : UntF K mg := ⟨A.tells.ex, A.nall.ex, A.unt.ex⟩
  obtain ⟨Cn, cc, fI, gd, es, R, R2, G⟩ := A.errs
  have made : Can P w K mg base 1 _ _ _ := A.made.can (fun f fd F => ok_made F T) fun _ _ _ _ _ _ us hl => match us, hl with | [_, _], _ => rfl
  have name : Can P w K mg base 2 _ _ _ := A.name.can (fun f fd F => ok_name F T made) fun _ _ _ _ _ _ us hl => match us, hl with | [_], _ => rfl
  have whole : Can P w K mg base 1 _ _ _ := A.whole.can (fun f fd F => ok_whole F T) fun _ _ _ _ _ _ us hl => match us, hl with | [_], _ => rfl
  have rname : Can P w K mg base 3 _ _ _ := A.rname.can (fun f fd F => ok_refName F T name) fun _ _ _ _ _ _ us hl => match us, hl with | [_], _ => rfl
  have rwidth : Can P w K mg base 2 _ _ _ := A.rwidth.can (fun f fd F => ok_refWidth F T whole) fun _ _ _ _ _ _ us hl => match us, hl with | [_], _ => rfl
  have rmore : Can P w K mg base 1 _ _ _ := A.rmore.can (fun f fd F => ok_refMore F T) fun _ _ _ _ _ _ us hl => match us, hl with | [_, _], _ => rfl
  have init : CanI P w K mg base 1 C _ _ := A.init.canI A.mks A.kc (fun f fd F => ok_init F T) fun _ _ _ _ _ _ us hl => match us, hl with | [_], _ => rfl
  have place : CanM P w K mg base 4 C _ _ _ := A.place.can (fun f fd F => ok_place F T rname rmore) fun _ _ _ _ _ _ us hl => match us, hl with | [_, _], _ => rfl
  have tie : CanM P w K mg base 4 C _ _ _ := A.tie.can (fun f fd F => ok_tie F T rname rwidth rmore) fun _ _ _ _ _ _ us hl => match us, hl with | [_, _, _, _, _, _], _ => rfl
  have places : CanM P w K mg base 1 C _ _ _ := A.places.can (fun f fd F => ok_places F T) fun _ _ _ _ _ _ us hl => match us, hl with | [_], _ => rfl
  have ties : CanM P w K mg base 1 C _ _ _ := A.ties.can (fun f fd F => ok_ties F T) fun _ _ _ _ _ _ us hl => match us, hl with | [_], _ => rfl
  have strg : CanX P w K mg base 22 _ _ _ := A.strg.canX (fun f fd F => ok_ref F T R (can_unt U T 10) places G) fun _ _ _ _ _ _ us hl => match us, hl with | [_, _], _ => rfl
  have lookC : CanX P w K mg base 23 _ _ _ := A.lookC.canX (fun f fd F => ok_lookC F strg) fun _ _ _ _ _ _ us hl => match us, hl with | [_, _], _ => rfl
  have lookT : CanX P w K mg base 23 _ _ _ := A.lookT.canX (fun f fd F => ok_lookT F strg) fun _ _ _ _ _ _ us hl => match us, hl with | [_, _], _ => rfl
  have cell : Can P w K mg base 1 _ _ _ := A.cell.can (fun f fd F => ok_cellD F T) fun _ _ _ _ _ _ us hl => match us, hl with | [_, _], _ => rfl
  have lname : Can P w K mg base 1 _ _ _ := A.lname.can (fun f fd F => ok_lname F T) fun _ _ _ _ _ _ us hl => match us, hl with | [_, _], _ => rfl
  have parts : Can P w K mg base 2 _ _ _ := A.parts.can (fun f fd F => ok_parts F T TM cell lname) fun _ _ _ _ _ _ us hl => match us, hl with | [_], _ => rfl
  have lnet : Can P w K mg base 5 _ _ _ := A.lnet.can (fun f fd F => ok_lnet F T init place tie) fun _ _ _ _ _ _ us hl => match us, hl with | [_, _], _ => rfl
  have kind : Can P w K mg base 1 _ _ _ := A.kind.can (fun f fd F => ok_kind7 F T TM A.revN) fun _ _ _ _ _ _ us hl => match us, hl with | [_, _], _ => rfl
  have caught : Can P w K mg base 24 _ _ _ := A.caught.can (fun f fd F => ok_cau F T R R2 lookC lookT) fun _ _ _ _ _ _ us hl => match us, hl with | [_, _, _], _ => rfl
  have due : Can P w K mg base 11 _ _ _ := A.due.can (fun f fd F => ok_due F (can_lnm A.lnms.ex T 10)) fun _ _ _ _ _ _ us hl => match us, hl with | [_, _], _ => rfl
  have lcopy : Can P w K mg base 11 _ _ _ := can_lcopy A.lcopy.ex T 10
  have one : Can P w K mg base 25 _ _ _ := A.one.can (fun f fd F => ok_one7 F lcopy caught due) fun _ _ _ _ _ _ us hl => match us, hl with | [_, _, _], _ => rfl
  exact ok_law71 F T TM cell parts lnet (can_claimU A.clm.ex T kind (can_term01 A.term.ex T kind)) one lcopy (can_put A.putI.ex A.cop.ex U T 10) (can_lput A.lput.ex T TM 10) caught (can_spoil A.spoil.ex T 10) places ties
end Net

namespace Net
open PySem L2
theorem all_mk {l : PySem.W.OpenLaw} {w : World} {K : PySem.W.Frag} {h : Heap} {mg : Str → Option Value} {fa C : Addr} {f0 : Addr} {od0 an0 : Option Addr} {sl0 : Array (Option Value)} {oc0 kV0 dc0 pm0 cd0 ct0 : Value} {f1 : Addr} {od1 an1 : Option Addr} {sl1 : Array (Option Value)} {oc1 kV1 dc1 pm1 cd1 ct1 : Value} {f2 : Addr} {od2 an2 : Option Addr} {sl2 : Array (Option Value)} {oc2 kV2 dc2 pm2 cd2 ct2 : Value} {f3 : Addr} {od3 an3 : Option Addr} {sl3 : Array (Option Value)} {oc3 kV3 dc3 pm3 cd3 ct3 : Value} {f4 : Addr} {od4 an4 : Option Addr} {sl4 : Array (Option Value)} {oc4 kV4 dc4 pm4 cd4 ct4 : Value} {f5 : Addr} {od5 an5 : Option Addr} {sl5 : Array (Option Value)} {oc5 kV5 dc5 pm5 cd5 ct5 : Value} {f6 : Addr} {od6 an6 : Option Addr} {sl6 : Array (Option Value)} {oc6 kV6 dc6 pm6 cd6 ct6 : Value} {f7 : Addr} {od7 an7 : Option Addr} {sl7 : Array (Option Value)} {oc7 kV7 dc7 pm7 cd7 ct7 : Value} {f8 : Addr} {od8 an8 : Option Addr} {sl8 : Array (Option Value)} {oc8 kV8 dc8 pm8 cd8 ct8 : Value} {f9 : Addr} {od9 an9 : Option Addr} {sl9 : Array (Option Value)} {oc9 kV9 dc9 pm9 cd9 ct9 : Value} {f10 : Addr} {od10 an10 : Option Addr} {sl10 : Array (Option Value)} {oc10 kV10 dc10 pm10 cd10 ct10 : Value} {f11 : Addr} {od11 an11 : Option Addr} {sl11 : Array (Option Value)} {oc11 kV11 dc11 pm11 cd11 ct11 : Value} {f12 : Addr} {od12 an12 : Option Addr} {sl12 : Array (Option Value)} {oc12 kV12 dc12 pm12 cd12 ct12 : Value} {f13 : Addr} {od13 an13 : Option Addr} {sl13 : Array (Option Value)} {oc13 kV13 dc13 pm13 cd13 ct13 : Value} {f14 : Addr} {od14 an14 : Option Addr} {sl14 : Array (Option Value)} {oc14 kV14 dc14 pm14 cd14 ct14 : Value} {f15 : Addr} {od15 an15 : Option Addr} {sl15 : Array (Option Value)} {oc15 kV15 dc15 pm15 cd15 ct15 : Value} {f16 : Addr} {od16 an16 : Option Addr} {sl16 : Array (Option Value)} {oc16 kV16 dc16 pm16 cd16 ct16 : Value} {f17 : Addr} {od17 an17 : Option Addr} {sl17 : Array (Option Value)} {oc17 kV17 dc17 pm17 cd17 ct17 : Value} {f18 : Addr} {od18 an18 : Option Addr} {sl18 : Array (Option Value)} {oc18 kV18 dc18 pm18 cd18 ct18 : Value} {f19 : Addr} {od19 an19 : Option Addr} {sl19 : Array (Option Value)} {oc19 kV19 dc19 pm19 cd19 ct19 : Value} {f20 : Addr} {od20 an20 : Option Addr} {sl20 : Array (Option Value)} {oc20 kV20 dc20 pm20 cd20 ct20 : Value} {f21 : Addr} {od21 an21 : Option Addr} {sl21 : Array (Option Value)} {oc21 kV21 dc21 pm21 cd21 ct21 : Value} {f22 : Addr} {od22 an22 : Option Addr} {sl22 : Array (Option Value)} {oc22 kV22 dc22 pm22 cd22 ct22 : Value} {f23 : Addr} {od23 an23 : Option Addr} {sl23 : Array (Option Value)} {oc23 kV23 dc23 pm23 cd23 ct23 : Value} {f24 : Addr} {od24 an24 : Option Addr} {sl24 : Array (Option Value)} {oc24 kV24 dc24 pm24 cd24 ct24 : Value} {f25 : Addr} {od25 an25 : Option Addr} {sl25 : Array (Option Value)} {oc25 kV25 dc25 pm25 cd25 ct25 : Value} {f26 : Addr} {od26 an26 : Option Addr} {sl26 : Array (Option Value)} {oc26 kV26 dc26 pm26 cd26 ct26 : Value} {f27 : Addr} {od27 an27 : Option Addr} {sl27 : Array (Option Value)} {oc27 kV27 dc27 pm27 cd27 ct27 : Value} {f28 : Addr} {od28 an28 : Option Addr} {sl28 : Array (Option Value)} {oc28 kV28 dc28 pm28 cd28 ct28 : Value} {f29 : Addr} {od29 an29 : Option Addr} {sl29 : Array (Option Value)} {oc29 kV29 dc29 pm29 cd29 ct29 : Value} {f30 : Addr} {od30 an30 : Option Addr} {sl30 : Array (Option Value)} {oc30 kV30 dc30 pm30 cd30 ct30 : Value} {f31 : Addr} {od31 an31 : Option Addr} {sl31 : Array (Option Value)} {oc31 kV31 dc31 pm31 cd31 ct31 : Value} {f32 : Addr} {od32 an32 : Option Addr} {sl32 : Array (Option Value)} {oc32 kV32 dc32 pm32 cd32 ct32 : Value} {fL : Addr} {odL anL : Option Addr} {slL : Array (Option Value)} {ocL kVL dcL pmL cdL ctL : Value} {cc : Addr} {e0 : Addr} {d0 : Addr} {d1 : Addr} {d2 : Addr} {d3 : Addr} {d4 : Addr} {d5 : Addr} {d6 : Addr} {d7 : Addr} {d8 : Addr} {fI : Addr} {odI anI : Option Addr} {slI : Array (Option Value)} {ocI kVI dcI pmI cdI ctI : Value} {vS : Value} {vN : Value} {vP : Value} {vM : Value}
    (X : K.In h) (G : h.Ns mainGlobals mg) (hfa : mg "law" = some (.ref fa))
    (aC : PySem.W.nsIn K mainGlobals "Net" = some (some (.ref C)))
    (a0 : PySem.W.nsIn K mainGlobals "is_made_of" = some (some (.ref f0)))
    (l0 : K.lookup f0 = some ⟨oc0, od0, .func (PySem.W.fnOf "is_made_of" "is_made_of" (defArgs s_is_made_of) (defBody s_is_made_of) (defScope s_is_made_of) .none kV0 dc0 pm0 an0 cd0 ct0), sl0⟩) (c0 : PySem.W.codeIn K cd0 "is_made_of" = true) (k0 : PySem.W.keepIn K (.ref f0) = true)
    (a1 : PySem.W.nsIn K mainGlobals "is_name" = some (some (.ref f1)))
    (l1 : K.lookup f1 = some ⟨oc1, od1, .func (PySem.W.fnOf "is_name" "is_name" (defArgs s_is_name) (defBody s_is_name) (defScope s_is_name) .none kV1 dc1 pm1 an1 cd1 ct1), sl1⟩) (c1 : PySem.W.codeIn K cd1 "is_name" = true) (k1 : PySem.W.keepIn K (.ref f1) = true)
    (a2 : PySem.W.nsIn K mainGlobals "is_whole" = some (some (.ref f2)))
    (l2 : K.lookup f2 = some ⟨oc2, od2, .func (PySem.W.fnOf "is_whole" "is_whole" (defArgs s_is_whole) (defBody s_is_whole) (defScope s_is_whole) .none kV2 dc2 pm2 an2 cd2 ct2), sl2⟩) (c2 : PySem.W.codeIn K cd2 "is_whole" = true) (k2 : PySem.W.keepIn K (.ref f2) = true)
    (a3 : PySem.W.nsIn K mainGlobals "refuse_no_name" = some (some (.ref f3)))
    (l3 : K.lookup f3 = some ⟨oc3, od3, .func (PySem.W.fnOf "refuse_no_name" "refuse_no_name" (defArgs s_refuse_no_name) (defBody s_refuse_no_name) (defScope s_refuse_no_name) .none kV3 dc3 pm3 an3 cd3 ct3), sl3⟩) (c3 : PySem.W.codeIn K cd3 "refuse_no_name" = true) (k3 : PySem.W.keepIn K (.ref f3) = true)
    (a4 : PySem.W.nsIn K mainGlobals "refuse_no_width" = some (some (.ref f4)))
    (l4 : K.lookup f4 = some ⟨oc4, od4, .func (PySem.W.fnOf "refuse_no_width" "refuse_no_width" (defArgs s_refuse_no_width) (defBody s_refuse_no_width) (defScope s_refuse_no_width) .none kV4 dc4 pm4 an4 cd4 ct4), sl4⟩) (c4 : PySem.W.codeIn K cd4 "refuse_no_width" = true) (k4 : PySem.W.keepIn K (.ref f4) = true)
    (a5 : PySem.W.nsIn K mainGlobals "refuse_more" = some (some (.ref f5)))
    (l5 : K.lookup f5 = some ⟨oc5, od5, .func (PySem.W.fnOf "refuse_more" "refuse_more" (defArgs s_refuse_more) (defBody s_refuse_more) (defScope s_refuse_more) .none kV5 dc5 pm5 an5 cd5 ct5), sl5⟩) (c5 : PySem.W.codeIn K cd5 "refuse_more" = true) (k5 : PySem.W.keepIn K (.ref f5) = true)
    (a6 : PySem.W.nsIn K mainGlobals "look_at_claim" = some (some (.ref f6)))
    (l6 : K.lookup f6 = some ⟨oc6, od6, .func (PySem.W.fnOf "look_at_claim" "look_at_claim" (defArgs s_look_at_claim) (defBody s_look_at_claim) (defScope s_look_at_claim) .none kV6 dc6 pm6 an6 cd6 ct6), sl6⟩) (c6 : PySem.W.codeIn K cd6 "look_at_claim" = true) (k6 : PySem.W.keepIn K (.ref f6) = true)
    (a7 : PySem.W.nsIn K mainGlobals "look_at_term" = some (some (.ref f7)))
    (l7 : K.lookup f7 = some ⟨oc7, od7, .func (PySem.W.fnOf "look_at_term" "look_at_term" (defArgs s_look_at_term) (defBody s_look_at_term) (defScope s_look_at_term) .none kV7 dc7 pm7 an7 cd7 ct7), sl7⟩) (c7 : PySem.W.codeIn K cd7 "look_at_term" = true) (k7 : PySem.W.keepIn K (.ref f7) = true)
    (a8 : PySem.W.nsIn K mainGlobals "refuse_strangers" = some (some (.ref f8)))
    (l8 : K.lookup f8 = some ⟨oc8, od8, .func (PySem.W.fnOf "refuse_strangers" "refuse_strangers" (defArgs s_refuse_strangers) (defBody s_refuse_strangers) (defScope s_refuse_strangers) .none kV8 dc8 pm8 an8 cd8 ct8), sl8⟩) (c8 : PySem.W.codeIn K cd8 "refuse_strangers" = true) (k8 : PySem.W.keepIn K (.ref f8) = true)
    (a9 : PySem.W.nsIn K mainGlobals "untold_names" = some (some (.ref f9)))
    (l9 : K.lookup f9 = some ⟨oc9, od9, .func (PySem.W.fnOf "untold_names" "untold_names" (defArgs s_untold_names) (defBody s_untold_names) (defScope s_untold_names) .none kV9 dc9 pm9 an9 cd9 ct9), sl9⟩) (c9 : PySem.W.codeIn K cd9 "untold_names" = true) (k9 : PySem.W.keepIn K (.ref f9) = true)
    (a10 : PySem.W.nsIn K mainGlobals "names_of_all" = some (some (.ref f10)))
    (l10 : K.lookup f10 = some ⟨oc10, od10, .func (PySem.W.fnOf "names_of_all" "names_of_all" (defArgs s_names_of_all) (defBody s_names_of_all) (defScope s_names_of_all) .none kV10 dc10 pm10 an10 cd10 ct10), sl10⟩) (c10 : PySem.W.codeIn K cd10 "names_of_all" = true) (k10 : PySem.W.keepIn K (.ref f10) = true)
    (a11 : PySem.W.nsIn K mainGlobals "tells_variable" = some (some (.ref f11)))
    (l11 : K.lookup f11 = some ⟨oc11, od11, .func (PySem.W.fnOf "tells_variable" "tells_variable" (defArgs s_tells_variable) (defBody s_tells_variable) (defScope s_tells_variable) .none kV11 dc11 pm11 an11 cd11 ct11), sl11⟩) (c11 : PySem.W.codeIn K cd11 "tells_variable" = true) (k11 : PySem.W.keepIn K (.ref f11) = true)
    (a12 : PySem.W.nsIn K mainGlobals "put_in" = some (some (.ref f12)))
    (l12 : K.lookup f12 = some ⟨oc12, od12, .func (PySem.W.fnOf "put_in" "put_in" (defArgs s_put_in) (defBody s_put_in) (defScope s_put_in) .none kV12 dc12 pm12 an12 cd12 ct12), sl12⟩) (c12 : PySem.W.codeIn K cd12 "put_in" = true) (k12 : PySem.W.keepIn K (.ref f12) = true)
    (a13 : PySem.W.nsIn K mainGlobals "copied" = some (some (.ref f13)))
    (l13 : K.lookup f13 = some ⟨oc13, od13, .func (PySem.W.fnOf "copied" "copied" (defArgs s_copied) (defBody s_copied) (defScope s_copied) .none kV13 dc13 pm13 an13 cd13 ct13), sl13⟩) (c13 : PySem.W.codeIn K cd13 "copied" = true) (k13 : PySem.W.keepIn K (.ref f13) = true)
    (a14 : PySem.W.nsIn K mainGlobals "_law_cell_at" = some (some (.ref f14)))
    (l14 : K.lookup f14 = some ⟨oc14, od14, .func (PySem.W.fnOf "_law_cell_at" "_law_cell_at" (defArgs s_l_cell_at) (defBody s_l_cell_at) (defScope s_l_cell_at) .none kV14 dc14 pm14 an14 cd14 ct14), sl14⟩) (c14 : PySem.W.codeIn K cd14 "_law_cell_at" = true) (k14 : PySem.W.keepIn K (.ref f14) = true)
    (a15 : PySem.W.nsIn K mainGlobals "_law_name" = some (some (.ref f15)))
    (l15 : K.lookup f15 = some ⟨oc15, od15, .func (PySem.W.fnOf "_law_name" "_law_name" (defArgs s_l_name) (defBody s_l_name) (defScope s_l_name) .none kV15 dc15 pm15 an15 cd15 ct15), sl15⟩) (c15 : PySem.W.codeIn K cd15 "_law_name" = true) (k15 : PySem.W.keepIn K (.ref f15) = true)
    (a16 : PySem.W.nsIn K mainGlobals "_law_parts" = some (some (.ref f16)))
    (l16 : K.lookup f16 = some ⟨oc16, od16, .func (PySem.W.fnOf "_law_parts" "_law_parts" (defArgs s_l_parts) (defBody s_l_parts) (defScope s_l_parts) .none kV16 dc16 pm16 an16 cd16 ct16), sl16⟩) (c16 : PySem.W.codeIn K cd16 "_law_parts" = true) (k16 : PySem.W.keepIn K (.ref f16) = true)
    (a17 : PySem.W.nsIn K mainGlobals "_law_net" = some (some (.ref f17)))
    (l17 : K.lookup f17 = some ⟨oc17, od17, .func (PySem.W.fnOf "_law_net" "_law_net" (defArgs s_l_net) (defBody s_l_net) (defScope s_l_net) .none kV17 dc17 pm17 an17 cd17 ct17), sl17⟩) (c17 : PySem.W.codeIn K cd17 "_law_net" = true) (k17 : PySem.W.keepIn K (.ref f17) = true)
    (a18 : PySem.W.nsIn K mainGlobals "_law_kind" = some (some (.ref f18)))
    (l18 : K.lookup f18 = some ⟨oc18, od18, .func (PySem.W.fnOf "_law_kind" "_law_kind" (defArgs s_l_kind) (defBody s_l_kind) (defScope s_l_kind) .none kV18 dc18 pm18 an18 cd18 ct18), sl18⟩) (c18 : PySem.W.codeIn K cd18 "_law_kind" = true) (k18 : PySem.W.keepIn K (.ref f18) = true)
    (a19 : PySem.W.nsIn K mainGlobals "_law_term" = some (some (.ref f19)))
    (l19 : K.lookup f19 = some ⟨oc19, od19, .func (PySem.W.fnOf "_law_term" "_law_term" (defArgs s_l_term) (defBody s_l_term) (defScope s_l_term) .none kV19 dc19 pm19 an19 cd19 ct19), sl19⟩) (c19 : PySem.W.codeIn K cd19 "_law_term" = true) (k19 : PySem.W.keepIn K (.ref f19) = true)
    (a20 : PySem.W.nsIn K mainGlobals "_law_claim" = some (some (.ref f20)))
    (l20 : K.lookup f20 = some ⟨oc20, od20, .func (PySem.W.fnOf "_law_claim" "_law_claim" (defArgs s_l_claim) (defBody s_l_claim) (defScope s_l_claim) .none kV20 dc20 pm20 an20 cd20 ct20), sl20⟩) (c20 : PySem.W.codeIn K cd20 "_law_claim" = true) (k20 : PySem.W.keepIn K (.ref f20) = true)
    (a21 : PySem.W.nsIn K mainGlobals "_law_copy" = some (some (.ref f21)))
    (l21 : K.lookup f21 = some ⟨oc21, od21, .func (PySem.W.fnOf "_law_copy" "_law_copy" (defArgs s_l_copy) (defBody s_l_copy) (defScope s_l_copy) .none kV21 dc21 pm21 an21 cd21 ct21), sl21⟩) (c21 : PySem.W.codeIn K cd21 "_law_copy" = true) (k21 : PySem.W.keepIn K (.ref f21) = true)
    (a22 : PySem.W.nsIn K mainGlobals "_law_spoil" = some (some (.ref f22)))
    (l22 : K.lookup f22 = some ⟨oc22, od22, .func (PySem.W.fnOf "_law_spoil" "_law_spoil" (defArgs s_l_spoil) (defBody s_l_spoil) (defScope s_l_spoil) .none kV22 dc22 pm22 an22 cd22 ct22), sl22⟩) (c22 : PySem.W.codeIn K cd22 "_law_spoil" = true) (k22 : PySem.W.keepIn K (.ref f22) = true)
    (a23 : PySem.W.nsIn K mainGlobals "_law_names" = some (some (.ref f23)))
    (l23 : K.lookup f23 = some ⟨oc23, od23, .func (PySem.W.fnOf "_law_names" "_law_names" (defArgs s_l_names) (defBody s_l_names) (defScope s_l_names) .none kV23 dc23 pm23 an23 cd23 ct23), sl23⟩) (c23 : PySem.W.codeIn K cd23 "_law_names" = true) (k23 : PySem.W.keepIn K (.ref f23) = true)
    (a24 : PySem.W.nsIn K mainGlobals "_law_put" = some (some (.ref f24)))
    (l24 : K.lookup f24 = some ⟨oc24, od24, .func (PySem.W.fnOf "_law_put" "_law_put" (defArgs s_l_put) (defBody s_l_put) (defScope s_l_put) .none kV24 dc24 pm24 an24 cd24 ct24), sl24⟩) (c24 : PySem.W.codeIn K cd24 "_law_put" = true) (k24 : PySem.W.keepIn K (.ref f24) = true)
    (a25 : PySem.W.nsIn K mainGlobals "_law_caught" = some (some (.ref f25)))
    (l25 : K.lookup f25 = some ⟨oc25, od25, .func (PySem.W.fnOf "_law_caught" "_law_caught" (defArgs s_l_caught) (defBody s_l_caught) (defScope s_l_caught) .none kV25 dc25 pm25 an25 cd25 ct25), sl25⟩) (c25 : PySem.W.codeIn K cd25 "_law_caught" = true) (k25 : PySem.W.keepIn K (.ref f25) = true)
    (a26 : PySem.W.nsIn K mainGlobals "_law_due" = some (some (.ref f26)))
    (l26 : K.lookup f26 = some ⟨oc26, od26, .func (PySem.W.fnOf "_law_due" "_law_due" (defArgs s_l_due) (defBody s_l_due) (defScope s_l_due) .none kV26 dc26 pm26 an26 cd26 ct26), sl26⟩) (c26 : PySem.W.codeIn K cd26 "_law_due" = true) (k26 : PySem.W.keepIn K (.ref f26) = true)
    (a27 : PySem.W.nsIn K mainGlobals "_law_one" = some (some (.ref f27)))
    (l27 : K.lookup f27 = some ⟨oc27, od27, .func (PySem.W.fnOf "_law_one" "_law_one" (defArgs s_l_one) (defBody s_l_one) (defScope s_l_one) .none kV27 dc27 pm27 an27 cd27 ct27), sl27⟩) (c27 : PySem.W.codeIn K cd27 "_law_one" = true) (k27 : PySem.W.keepIn K (.ref f27) = true)
    (a28 : PySem.W.findIn K (.ref C) "__init__" = some (some (.ref f28))) (i28 : PySem.W.isFn K (.ref f28) = true)
    (l28 : K.lookup f28 = some ⟨oc28, od28, .func (PySem.W.fnOf "__init__" "Net.__init__" (defArgs s_Net_init) (defBody s_Net_init) (defScope s_Net_init) .none kV28 dc28 pm28 an28 cd28 ct28), sl28⟩) (c28 : PySem.W.codeIn K cd28 "Net.__init__" = true) (k28 : PySem.W.keepIn K (.ref f28) = true)
    (a29 : PySem.W.findIn K (.ref C) "place" = some (some (.ref f29))) (i29 : PySem.W.isFn K (.ref f29) = true)
    (l29 : K.lookup f29 = some ⟨oc29, od29, .func (PySem.W.fnOf "place" "Net.place" (defArgs s_Net_place) (defBody s_Net_place) (defScope s_Net_place) .none kV29 dc29 pm29 an29 cd29 ct29), sl29⟩) (c29 : PySem.W.codeIn K cd29 "Net.place" = true) (k29 : PySem.W.keepIn K (.ref f29) = true)
    (a30 : PySem.W.findIn K (.ref C) "tie" = some (some (.ref f30))) (i30 : PySem.W.isFn K (.ref f30) = true)
    (l30 : K.lookup f30 = some ⟨oc30, od30, .func (PySem.W.fnOf "tie" "Net.tie" (defArgs s_Net_tie) (defBody s_Net_tie) (defScope s_Net_tie) .none kV30 dc30 pm30 an30 cd30 ct30), sl30⟩) (c30 : PySem.W.codeIn K cd30 "Net.tie" = true) (k30 : PySem.W.keepIn K (.ref f30) = true)
    (a31 : PySem.W.findIn K (.ref C) "places" = some (some (.ref f31))) (i31 : PySem.W.isFn K (.ref f31) = true)
    (l31 : K.lookup f31 = some ⟨oc31, od31, .func (PySem.W.fnOf "places" "Net.places" (defArgs s_Net_places) (defBody s_Net_places) (defScope s_Net_places) .none kV31 dc31 pm31 an31 cd31 ct31), sl31⟩) (c31 : PySem.W.codeIn K cd31 "Net.places" = true) (k31 : PySem.W.keepIn K (.ref f31) = true)
    (a32 : PySem.W.findIn K (.ref C) "ties" = some (some (.ref f32))) (i32 : PySem.W.isFn K (.ref f32) = true)
    (l32 : K.lookup f32 = some ⟨oc32, od32, .func (PySem.W.fnOf "ties" "Net.ties" (defArgs s_Net_ties) (defBody s_Net_ties) (defScope s_Net_ties) .none kV32 dc32 pm32 an32 cd32 ct32), sl32⟩) (c32 : PySem.W.codeIn K cd32 "Net.ties" = true) (k32 : PySem.W.keepIn K (.ref f32) = true)
    (aL : PySem.W.nsIn K mainGlobals "law" = some (some (.ref fL))) (lL : K.lookup fL = some ⟨ocL, odL, .func (PySem.W.fnOf "law" "law" (defArgs s_law) (defBody s_law) (defScope s_law) .none kVL dcL pmL anL cdL ctL), slL⟩) (cL : PySem.W.codeIn K cdL "law" = true) (kL : PySem.W.keepIn K (.ref fL) = true)
    (pg : PySem.W.plainGet K C Str.empty = true) (hd : PySem.W.hasDictIn K C = true) (po : PySem.W.plainOver K C = true) (sa : PySem.W.findIn K (.ref C) "__setattr__" = some (some (.builtin "object.__setattr__"))) (mk : PySem.W.makesIn K C = true) (kc : PySem.W.keepIn K (.ref C) = true)
    (nS : PySem.W.findIn K (.ref C) "standing" = some none) (nL : PySem.W.findIn K (.ref C) "laid" = some none)
    (z_all : PySem.W.nsIn K mainGlobals "all" = some none)
    (z_isinstance : PySem.W.nsIn K mainGlobals "isinstance" = some none)
    (z_str : PySem.W.nsIn K mainGlobals "str" = some none)
    (z_int : PySem.W.nsIn K mainGlobals "int" = some none)
    (z_bool : PySem.W.nsIn K mainGlobals "bool" = some none)
    (z_list : PySem.W.nsIn K mainGlobals "list" = some none)
    (z_tuple : PySem.W.nsIn K mainGlobals "tuple" = some none)
    (z_len : PySem.W.nsIn K mainGlobals "len" = some none)
    (z_range : PySem.W.nsIn K mainGlobals "range" = some none)
    (z_abs : PySem.W.nsIn K mainGlobals "abs" = some none)
    (z_max : PySem.W.nsIn K mainGlobals "max" = some none)
    (z_enumerate : PySem.W.nsIn K mainGlobals "enumerate" = some none)
    (z_reversed : PySem.W.nsIn K mainGlobals "reversed" = some none)
    (m0 : PySem.W.nsIn K mainGlobals "NoPlace" = some (some (.ref e0)))
    (md0 : PySem.W.nsIn K mainGlobals "NoClaim" = some (some (.ref d0)))
    (md1 : PySem.W.nsIn K mainGlobals "NoLine" = some (some (.ref d1)))
    (md2 : PySem.W.nsIn K mainGlobals "NoName" = some (some (.ref d2)))
    (md3 : PySem.W.nsIn K mainGlobals "NoText" = some (some (.ref d3)))
    (md4 : PySem.W.nsIn K mainGlobals "NoTie" = some (some (.ref d4)))
    (md5 : PySem.W.nsIn K mainGlobals "NoWidth" = some (some (.ref d5)))
    (md6 : PySem.W.nsIn K mainGlobals "SamePlace" = some (some (.ref d6)))
    (md7 : PySem.W.nsIn K mainGlobals "TooMany" = some (some (.ref d7)))
    (md8 : PySem.W.nsIn K mainGlobals "Twice" = some (some (.ref d8)))
    (mcc : PySem.W.nsIn K mainGlobals "CourtError" = some (some (.ref cc)))
    (mve : PySem.W.nsIn K mainGlobals "ValueError" = some none)
    (hn0 : PySem.W.specialIn K (.builtin "object.__class__") "__get__" = some (some (.builtin "getset_descriptor.__get__")))
    (tk0 : PySem.W.takesIn K (.builtin "object.__class__") = some true)
    (xm0 : PySem.W.exmOne K (.ref e0) (.ref cc) = some true)
    (kv0 : PySem.W.kitOne K (.ref e0) (.type "ValueError") = some true)
    (k0_0 : PySem.W.kitOne K (.ref e0) (.ref e0) = some true)
    (kd0_0 : PySem.W.kitOne K (.ref e0) (.ref d0) = some false)
    (kd0_1 : PySem.W.kitOne K (.ref e0) (.ref d1) = some false)
    (kd0_2 : PySem.W.kitOne K (.ref e0) (.ref d2) = some false)
    (kd0_3 : PySem.W.kitOne K (.ref e0) (.ref d3) = some false)
    (kd0_4 : PySem.W.kitOne K (.ref e0) (.ref d4) = some false)
    (kd0_5 : PySem.W.kitOne K (.ref e0) (.ref d5) = some false)
    (kd0_6 : PySem.W.kitOne K (.ref e0) (.ref d6) = some false)
    (kd0_7 : PySem.W.kitOne K (.ref e0) (.ref d7) = some false)
    (kd0_8 : PySem.W.kitOne K (.ref e0) (.ref d8) = some false)
    (ga0 : PySem.W.findIn K (.ref e0) "__getattribute__" = some (some (.builtin "BaseException.__getattribute__")))
    (gt0 : PySem.W.findIn K (.ref e0) "__getattr__" = some none)
    (cl0 : PySem.W.findIn K (.ref e0) "__class__" = some (some (.builtin "object.__class__")))
    (mo0 : PySem.W.mroIn K e0 (.type "object") = some true)
    (mb0 : PySem.W.mroIn K e0 (.type "BaseException") = some true)
    (ini : PySem.W.findIn K (.ref e0) "__init__" = some (some (.ref fI)))
    (xi : L2.excII K e0 [.type "ValueError", .type "Exception", .type "BaseException", .type "object"] "ValueError.__new__" fI = true)
    (fnI : PySem.W.isFn K (.ref fI) = true)
    (lI : K.lookup fI = some ⟨ocI, odI, .func (PySem.W.fnOf "__init__" "NoPlace.__init__" (defArgs s_NoPlace_init) (defBody s_NoPlace_init) (defScope s_NoPlace_init) .none kVI dcI pmI anI cdI ctI), slI⟩)
    (cI : PySem.W.codeIn K cdI "NoPlace.__init__" = true)
    (kI : PySem.W.keepIn K (.ref fI) = true)
    (bga : PySem.W.specialIn K (.ref cc) "__getattribute__" = some (some (.builtin "type.__getattribute__")))
    (brd : PySem.W.readsIn K cc (.type "type") = true)
    (bfc : PySem.W.findCls K (.ref cc) (.type "type") "__init__" = some (.val (.builtin "ValueError.__init__")))
    (bhi : PySem.W.handedIn (.builtin "ValueError.__init__") = true)
    (xo : (PySem.W.clsIn K e0).any (fun cd => L2.overTail [.type "ValueError", .type "Exception", .type "BaseException", .type "object"] cd.mro && cd.hasDict) = true)
    (xs : PySem.W.findIn K (.ref e0) "__setattr__" = some (some (.builtin "object.__setattr__")))
    (xn : PySem.W.findIn K (.ref e0) "name" = some none)
    (xh : PySem.W.hasDictIn K e0 = true)
    (gS : PySem.W.nsIn K mainGlobals "SMALL_LETTERS" = some (some vS)) (rS : RelV (.str abc) vS)
    (gN : PySem.W.nsIn K mainGlobals "LONGEST_NAME" = some (some vN)) (rN : RelV (.int 12) vN)
    (gP : PySem.W.nsIn K mainGlobals "MOST_PLACES" = some (some vP)) (rP : RelV (.int 20) vP)
    (gM : PySem.W.nsIn K mainGlobals "MOST_TIES" = some (some vM)) (rM : RelV (.int 40) vM) :
    ∃ fd : FuncData, (∀ (s : Shared) (v : Value), BindsTo s fd ⟨[v], []⟩ [("_law_script", v)]) ∧ ∀ base : Heap, K.In base → base.Ns mainGlobals mg → FnOk l.prog w K mg base CX0 26 fa fd ["_law_script"] (spLaw K) := by
  have e := hfa.symm.trans (PySem.W.mg_of X G aL)
  cases e
  have T : Txt K mg C := { cl := ⟨pg, hd, po, sa⟩, nS := nS, nL := nL, mgC := PySem.W.mg_of X G aC, all := PySem.W.mg_none_of X G z_all, isi := PySem.W.mg_none_of X G z_isinstance, str := PySem.W.mg_none_of X G z_str, int := PySem.W.mg_none_of X G z_int, bool := PySem.W.mg_none_of X G z_bool, list := PySem.W.mg_none_of X G z_list, tuple := PySem.W.mg_none_of X G z_tuple, len := PySem.W.mg_none_of X G z_len, range := PySem.W.mg_none_of X G z_range, abs := PySem.W.mg_none_of X G z_abs, small := ⟨vS, PySem.W.mg_of X G gS, rS⟩, longest := ⟨vN, PySem.W.mg_of X G gN, rN⟩, mostP := ⟨vP, PySem.W.mg_of X G gP, rP⟩, mostT := ⟨vM, PySem.W.mg_of X G gM, rM⟩, kIB := kib1 K }
  have A : All K mg C := { T := T, mks := mk, kc := kc, tm := ⟨PySem.W.mg_none_of X G z_max, PySem.W.mg_none_of X G z_enumerate⟩, revN := PySem.W.mg_none_of X G z_reversed, errs := ⟨e0, cc, fI, _, (fun i => match i with | 0 => d0 | 1 => d1 | 2 => d2 | 3 => d3 | 4 => d4 | 5 => d5 | 6 => d6 | 7 => d7 | _ => d8), ⟨PySem.W.mg_of X G m0, PySem.W.mg_of X G mcc, xi, fnI, ⟨bga, brd, bfc, bhi⟩, ⟨xo, mo0, xs, xn⟩⟩, ⟨PySem.W.mg_of X G md0, PySem.W.mg_of X G md1, PySem.W.mg_of X G md2, PySem.W.mg_of X G md3, PySem.W.mg_of X G md4, PySem.W.mg_of X G md5, PySem.W.mg_of X G md6, PySem.W.mg_of X G md7, PySem.W.mg_of X G md8, PySem.W.mg_none_of X G mve, ⟨ga0, gt0, cl0, hn0, tk0, mo0, mb0⟩, k0_0, kv0, kd0_0, kd0_1, kd0_2, kd0_3, kd0_4, kd0_5, kd0_6, kd0_7, kd0_8, xm0, xh⟩, fun_mk lI cI kI⟩, made := fn_mk X G a0 l0 c0 k0, name := fn_mk X G a1 l1 c1 k1, whole := fn_mk X G a2 l2 c2 k2, rname := fn_mk X G a3 l3 c3 k3, rwidth := fn_mk X G a4 l4 c4 k4, rmore := fn_mk X G a5 l5 c5 k5, lookC := fn_mk X G a6 l6 c6 k6, lookT := fn_mk X G a7 l7 c7 k7, strg := fn_mk X G a8 l8 c8 k8, unt := fn_mk X G a9 l9 c9 k9, nall := fn_mk X G a10 l10 c10 k10, tells := fn_mk X G a11 l11 c11 k11, putI := fn_mk X G a12 l12 c12 k12, cop := fn_mk X G a13 l13 c13 k13, cell := fn_mk X G a14 l14 c14 k14, lname := fn_mk X G a15 l15 c15 k15, parts := fn_mk X G a16 l16 c16 k16, lnet := fn_mk X G a17 l17 c17 k17, kind := fn_mk X G a18 l18 c18 k18, term := fn_mk X G a19 l19 c19 k19, clm := fn_mk X G a20 l20 c20 k20, lcopy := fn_mk X G a21 l21 c21 k21, spoil := fn_mk X G a22 l22 c22 k22, lnms := fn_mk X G a23 l23 c23 k23, lput := fn_mk X G a24 l24 c24 k24, caught := fn_mk X G a25 l25 c25 k25, due := fn_mk X G a26 l26 c26 k26, one := fn_mk X G a27 l27 c27 k27, init := mt_mk a28 i28 l28 c28 k28, place := mt_mk a29 i29 l29 c29 k29, tie := mt_mk a30 i30 l30 c30 k30, places := mt_mk a31 i31 l31 c31 k31, ties := mt_mk a32 i32 l32 c32 k32 }
  exact ⟨PySem.W.fnOf "law" "law" (defArgs s_law) (defBody s_law) (defScope s_law) .none kVL dcL pmL anL cdL ctL, fun s v => .of_eq rfl, fun base _ _ => law_ok A (fun_mk lL cL kL)⟩
theorem walk {l : PySem.W.OpenLaw} {q : Program} {loose : List Str} {XP : (Str → Option Value) → Heap → Prop} {YP : World → Heap → Prop} {d : DefRec} {K : Params → PySem.W.Frag} (hn : l.most = some 63) (hdf : d.params.defaults = [])
    (hY : ∀ (w : World) (h : Heap), YP w h → (K w.params).In h)
    (F : ∀ (w : World) (mg : Str → Option Value) (fa : Addr) (h : Heap), (K w.params).In h → h.Ns mainGlobals mg → mg d.name = some (.ref fa) →
      ∃ fd : FuncData, (∀ (s : Shared) (u : Value), BindsTo s fd ⟨[u], []⟩ [("_law_script", u)]) ∧ ∀ base : Heap, (K w.params).In base → base.Ns mainGlobals mg → FnOk l.prog w (K w.params) mg base CX0 26 fa fd ["_law_script"] (spLaw (K w.params))) :
    PySem.W.WalkO q loose XP YP l.row.toRowW d [] (fun f vs => PySem.call f vs) :=
  L2.walk_of (n := 63) (k := 26) (x := "_law_script") (CX := fun _ => CX0) (sp := fun w => spLaw (K w.params)) hn (by decide) hdf ⟨rfl, by decide, by decide, rfl⟩ hY F (fun _ _ a ns hl _ hS => ⟨a, ns, rfl, hS, hl, fun _ => rfl⟩) fun _ _ _ _ _ z => z
end Net
def PySem.W.Fast.tw4603401074944284878 : Nat := 0
def PySem.W.Fast.tw221599106489757368 : Nat := 0
def PySem.W.Fast.tw12952107935343471423 : Nat := 0
def PySem.W.Fast.tw16378260086110665473 : Nat := 0
def PySem.W.Fast.tw9789110861125722334 : Nat := 0
def PySem.W.Fast.tw4472648702627748701 : Nat := 0
def PySem.W.Fast.tw1940820525584022497 : Nat := 0
def PySem.W.Fast.tw17039536150541767594 : Nat := 0
def PySem.W.Fast.tw14289318581390470039 : Nat := 0
def PySem.W.Fast.tw12083556092692960691 : Nat := 0
def PySem.W.Fast.tw3156836865583305254 : Nat := 0
def PySem.W.Fast.tw288757803995686007 : Nat := 0
def PySem.W.Fast.tw6554208801691334645 : Nat := 0
def PySem.W.Fast.tw18012679694028677460 : Nat := 0
def PySem.W.Fast.tw14704451172183699974 : Nat := 0
def PySem.W.Fast.tw13424773714334493090 : Nat := 0
def PySem.W.Fast.tw4612090834143186224 : Nat := 0
def PySem.W.Fast.tw12760742922393573444 : Nat := 0
def PySem.W.Fast.tw2508452465123386067 : Nat := 0
def PySem.W.Fast.tw9124934261782380368 : Nat := 0
def PySem.W.Fast.tw16414423899940493079 : Nat := 0
def PySem.W.Fast.tw9540431928161310747 : Nat := 0
def PySem.W.Fast.tw17363720611344701191 : Nat := 0
def PySem.W.Fast.tw777335620783320612 : Nat := 0
def PySem.W.Fast.tw1199223450472359478 : Nat := 0
def PySem.W.Fast.tw1633930126762925956 : Nat := 0
def PySem.W.Fast.tw1241394381084408890 : Nat := 0
def PySem.W.Fast.tw16845774926142117143 : Nat := 0
def PySem.W.Fast.tw10173959463820947254 : Nat := 0
def PySem.W.Fast.tw937356613743630890 : Nat := 0
def PySem.W.Fast.tw13043803259466604573 : Nat := 0
def PySem.W.Fast.tw6051985153231581999 : Nat := 0
def PySem.W.Fast.tw12590079857244163899 : Nat := 0
def PySem.W.Fast.tw3746779639769882153 : Nat := 0
def PySem.W.Fast.tw4835468832935609543 : Nat := 0
def PySem.W.Fast.tw3614254329852011780 : Nat := 0
def PySem.W.Fast.tw4159065362367964909 : Nat := 0
def PySem.W.Fast.tw17132643186868840448 : Nat := 0
def PySem.W.Fast.tw8257905769539487203 : Nat := 0
def PySem.W.Fast.tw9068965666330580530 : Nat := 0
def PySem.W.Fast.tw15031088865087901806 : Nat := 0
def PySem.W.Fast.tw15724879725328190994 : Nat := 0
def PySem.W.Fast.tw9511505002173440570 : Nat := 0
def PySem.W.Fast.tw3449661403494536459 : Nat := 0
def PySem.W.Fast.tw4473205793113811649 : Nat := 0
def PySem.W.Fast.tw1013958882909332775 : Nat := 0
def PySem.W.Fast.tw7103208373881630268 : Nat := 0
def PySem.W.Fast.tw1660353453852937419 : Nat := 0
def PySem.W.Fast.tw16481716705208463491 : Nat := 0
def PySem.W.Fast.tw11413948605171417970 : Nat := 0
def PySem.W.Fast.tw6202822658756594408 : Nat := 0
def PySem.W.Fast.tw4352981063506252716 : Nat := 0
def PySem.W.Fast.tw11197838476140241442 : Nat := 0
def PySem.W.Fast.tw7199056009695444216 : Nat := 0
def PySem.W.Fast.tw16633002709337902534 : Nat := 0
def PySem.W.Fast.tw9505462134293327689 : Nat := 0
def PySem.W.Fast.tw255532138467976111 : Nat := 0
def PySem.W.Fast.tw7598335768623963210 : Nat := 0
def PySem.W.Fast.tw8612286792239764326 : Nat := 0
def PySem.W.Fast.tw12492575777862570156 : Nat := 0
def PySem.W.Fast.tw3646886701947725548 : Nat := 0
def PySem.W.Fast.tw17884390128227492925 : Nat := 0
def PySem.W.Fast.tw13107798544704314596 : Nat := 0
def PySem.W.Fast.tw15144948050738916393 : Nat := 0
def PySem.W.Fast.tw7527126074138970630 : Nat := 0
def PySem.W.Fast.tw14436809004267786075 : Nat := 0
def PySem.W.Fast.tw4902082924728316131 : Nat := 0
def PySem.W.Fast.tw5973447080395980756 : Nat := 0
def PySem.W.Fast.tw5705299960462907435 : Nat := 0
def PySem.W.Fast.tw3544678968230988033 : Nat := 0
def PySem.W.Fast.tw1092802473434942714 : Nat := 0
def PySem.W.Fast.tw1661979898174733230 : Nat := 0
def PySem.W.Fast.tw10598597107616716286 : Nat := 0
def PySem.W.Fast.tw11963156456653982962 : Nat := 0
def PySem.W.Fast.tw7342380628148396046 : Nat := 0
def PySem.W.Fast.tw13356700252036842514 : Nat := 0
def PySem.W.Fast.tw15655335140054880743 : Nat := 0
def PySem.W.Fast.tw13231710349786321963 : Nat := 0
def PySem.W.Fast.tw12114362405940174911 : Nat := 0
def PySem.W.Fast.tw9820963493596918872 : Nat := 0
def PySem.W.Fast.tw3786561647589637585 : Nat := 0
def PySem.W.Fast.tw15388473560539295445 : Nat := 0
def PySem.W.Fast.tw1439376178887410815 : Nat := 0
def PySem.W.Fast.tw10455852090027306967 : Nat := 0
def PySem.W.Fast.tw12376828914851904078 : Nat := 0
def PySem.W.Fast.tw8809720184129007358 : Nat := 0
def PySem.W.Fast.tw13108019826106567474 : Nat := 0
def PySem.W.Fast.tw1901734681956014666 : Nat := 0
def PySem.W.Fast.tw4357977274003979456 : Nat := 0
def PySem.W.Fast.tw11662778067018911090 : Nat := 0
def PySem.W.Fast.tw3480330648653573549 : Nat := 0
def PySem.W.Fast.tw8622078753553494983 : Nat := 0
def PySem.W.Fast.tw42716744285715488 : Nat := 0
def PySem.W.Fast.tw11024229492855492419 : Nat := 0
def PySem.W.Fast.tw12160290777131850145 : Nat := 0
def PySem.W.Fast.tw1154901436745991297 : Nat := 0
def PySem.W.Fast.tw6090700980687233976 : Nat := 0
def PySem.W.Fast.tw7649564373748861222 : Nat := 0
def PySem.W.Fast.tw2638589327413492235 : Nat := 0
def PySem.W.Fast.tw2815073989578123257 : Nat := 0
def PySem.W.Fast.tw3659741420021339476 : Nat := 0
def PySem.W.Fast.tw7768357758415193200 : Nat := 0
def PySem.W.Fast.tw5579170161612216428 : Nat := 0
def PySem.W.Fast.tw7507469599017277419 : Nat := 0
def PySem.W.Fast.tw9140755530044880523 : Nat := 0
def PySem.W.Fast.tw1455707121124589949 : Nat := 0
def PySem.W.Fast.tw6317647228366475306 : Nat := 0
def PySem.W.Fast.tw6018299166235022542 : Nat := 0
def PySem.W.Fast.tw2467517527962117138 : Nat := 0
def PySem.W.Fast.tw7832741120953066201 : Nat := 0
def PySem.W.Fast.tw12452495279319152612 : Nat := 0
def PySem.W.Fast.tw17379205925665788292 : Nat := 0
def PySem.W.Fast.tw6173226588799826001 : Nat := 0
def PySem.W.Fast.tw7363634852741740415 : Nat := 0
def PySem.W.Fast.tw310934519199249926 : Nat := 0
def PySem.W.Fast.tw16497438000577849100 : Nat := 0
def PySem.W.Fast.tw9358024766060212752 : Nat := 0
def PySem.W.Fast.tw10558963196633755774 : Nat := 0
def PySem.W.Fast.tw17977560294797262362 : Nat := 0
def PySem.W.Fast.tw7552018252853707726 : Nat := 0
def PySem.W.Fast.tw16940085596878547655 : Nat := 0
def PySem.W.Fast.tw3222722498934273702 : Nat := 0
def PySem.W.Fast.tw9577333835347878493 : Nat := 0
def PySem.W.Fast.tw9282491868919733541 : Nat := 0
def PySem.W.Fast.tw3295231861768567293 : Nat := 0
def PySem.W.Fast.tw8756938814555205678 : Nat := 0
def PySem.W.Fast.tw17121028406731958233 : Nat := 0
def PySem.W.Fast.tw15120754070814246375 : Nat := 0
def PySem.W.Fast.tw9691688380823849660 : Nat := 0
def PySem.W.Fast.tw12141566797228291431 : Nat := 0
def PySem.W.Fast.tw13470080934943567421 : Nat := 0
def PySem.W.Fast.tw15123216500941771922 : Nat := 0
def PySem.W.Fast.tw14036878788332206832 : Nat := 0
def PySem.W.Fast.tw11158357246934772086 : Nat := 0
def PySem.W.Fast.tw7900740749443636479 : Nat := 0
def PySem.W.Fast.tw6462254565552102209 : Nat := 0
def PySem.W.Fast.tw18127632936240414599 : Nat := 0
def PySem.W.Fast.tw1847163948339939834 : Nat := 0
def PySem.W.Fast.tw4101704895343836491 : Nat := 0
def PySem.W.Fast.tw10603658275308014118 : Nat := 0
def PySem.W.Fast.tw18265880902965422278 : Nat := 0
def PySem.W.Fast.tw3440935341595785230 : Nat := 0
def PySem.W.Fast.tw1666577838550334705 : Nat := 0
def PySem.W.Fast.tw5476522794688540769 : Nat := 0
def PySem.W.Fast.tw10542540399743761821 : Nat := 0
def PySem.W.Fast.tw13700788455658513734 : Nat := 0
def PySem.W.Fast.tw12764497711323814549 : Nat := 0
def PySem.W.Fast.tw1245798755728902721 : Nat := 0
def PySem.W.Fast.tw16374009300244212392 : Nat := 0
def PySem.W.Fast.tw3915806577419365218 : Nat := 0
def PySem.W.Fast.tw10721685102791760830 : Nat := 0
def PySem.W.Fast.tw17962196208035941666 : Nat := 0
def PySem.W.Fast.tw14534229407678337659 : Nat := 0
def PySem.W.Fast.tw17387043945583727960 : Nat := 0
def PySem.W.Fast.tw2966814612353208864 : Nat := 0
def PySem.W.Fast.tw7540492753281041451 : Nat := 0
def PySem.W.Fast.tw15697484142282064136 : Nat := 0
def PySem.W.Fast.tw16809968717364601598 : Nat := 0
def PySem.W.Fast.tw3067816179361051855 : Nat := 0
def PySem.W.Fast.tw2456614574873318869 : Nat := 0
def PySem.W.Fast.tw14790664656817700408 : Nat := 0
def PySem.W.Fast.tw10208376455969919305 : Nat := 0
def PySem.W.Fast.tw4315581132568225923 : Nat := 0
def PySem.W.Fast.tw6573631898111628877 : Nat := 0
def PySem.W.Fast.tw8773409669580261839 : Nat := 0
def PySem.W.Fast.tw6536429095492360479 : Nat := 0
def PySem.W.Fast.tw3813911646874330523 : Nat := 0
def PySem.W.Fast.tw1926175512211605971 : Nat := 0
def PySem.W.Fast.tw845398744856894579 : Nat := 0
def PySem.W.Fast.tw2711719142322870875 : Nat := 0
def PySem.W.Fast.tw8985312153737452369 : Nat := 0
def PySem.W.Fast.tw10801645707488438855 : Nat := 0
def PySem.W.Fast.tw2153000340971206992 : Nat := 0
def PySem.W.Fast.tw8033350984922444942 : Nat := 0
def PySem.W.Fast.tw4085039155491917334 : Nat := 0
def PySem.W.Fast.tw984622658120343654 : Nat := 0
def PySem.W.Fast.tw7539675709365711025 : Nat := 0
def PySem.W.Fast.tw13256638032454549604 : Nat := 0
def PySem.W.Fast.tw710481890700973533 : Nat := 0
def PySem.W.Fast.tw16199154775062359336 : Nat := 0
def PySem.W.Fast.tw17248509220830164022 : Nat := 0
def PySem.W.Fast.tw6074065121328485060 : Nat := 0
def PySem.W.Fast.tw9940801364805550391 : Nat := 0
def PySem.W.Fast.tw2754436877857504733 : Nat := 0
def PySem.W.Fast.tw17936948831328630048 : Nat := 0
def PySem.W.Fast.tw14687706444482246067 : Nat := 0
def PySem.W.Fast.tw9920620338761012556 : Nat := 0
def PySem.W.Fast.tw2606976833224731880 : Nat := 0
def PySem.W.Fast.tw3938417503470883589 : Nat := 0
def PySem.W.Fast.tw13228146251906799073 : Nat := 0
def PySem.W.Fast.tw14152527835052612131 : Nat := 0
def PySem.W.Fast.tw14718382829133323543 : Nat := 0
def PySem.W.Fast.tw1395894173088150995 : Nat := 0
def PySem.W.Fast.tw2182362220413832501 : Nat := 0
def PySem.W.Fast.tw149964368613132608 : Nat := 0
def PySem.W.Fast.tw14832944270081827919 : Nat := 0
def PySem.W.Fast.tw18205403696008205224 : Nat := 0
def PySem.W.Fast.tw2834547103615470290 : Nat := 0
def PySem.W.Fast.tw1865339624757540057 : Nat := 0
def PySem.W.Fast.tw18212278981066134101 : Nat := 0
def PySem.W.Fast.tw14792388010085089789 : Nat := 0
def PySem.W.Fast.tw4494292643013803542 : Nat := 0
def PySem.W.Fast.tw5345268976060484065 : Nat := 0
def PySem.W.Fast.tw3389854397328800840 : Nat := 0
def PySem.W.Fast.tw12299972738227258469 : Nat := 0
def PySem.W.Fast.tw15307337483115848304 : Nat := 0
def PySem.W.Fast.tw42821632251534982 : Nat := 0
def PySem.W.Fast.tw4902252497513783481 : Nat := 0
def PySem.W.Fast.tw11540555963268217049 : Nat := 0
def PySem.W.Fast.tw13134937265390170118 : Nat := 0
def PySem.W.Fast.tw11548020626798753469 : Nat := 0
def PySem.W.Fast.tw6364491018015656347 : Nat := 0
def PySem.W.Fast.tw3355709925297412835 : Nat := 0
def PySem.W.Fast.tw4542123136016481225 : Nat := 0
def PySem.W.Fast.tw11595807718808484958 : Nat := 0
def PySem.W.Fast.tw15376006885673970500 : Nat := 0
def PySem.W.Fast.tw8632862629271044216 : Nat := 0
def PySem.W.Fast.tw6399541910862500045 : Nat := 0
def PySem.W.Fast.tw14375064959991833254 : Nat := 0
def PySem.W.Fast.tw131506954140198415 : Nat := 0
def PySem.W.Fast.tw14076375864185621505 : Nat := 0
def PySem.W.Fast.tw4649542755284651933 : Nat := 0
def PySem.W.Fast.tw7822351707056514919 : Nat := 0
def PySem.W.Fast.tw14556112252311175343 : Nat := 0
def PySem.W.Fast.tw9418270257588997053 : Nat := 0
def PySem.W.Fast.tw11892745138663998793 : Nat := 0
def PySem.W.Fast.tw6641959508302529234 : Nat := 0
def PySem.W.Fast.tw6758770475765889663 : Nat := 0
def PySem.W.Fast.tw14122864898279236408 : Nat := 0
def PySem.W.Fast.tw13975691592909996804 : Nat := 0
def PySem.W.Fast.tw15089648845416583801 : Nat := 0
def PySem.W.Fast.tw17509718678236102878 : Nat := 0
def PySem.W.Fast.tw5994161532134541503 : Nat := 0
def PySem.W.Fast.tw3778111333442928263 : Nat := 0
def PySem.W.Fast.tw1595266297181050464 : Nat := 0
def PySem.W.Fast.tw15691102040767571901 : Nat := 0
def PySem.W.Fast.tw9447232338126355670 : Nat := 0
def PySem.W.Fast.tw6437968145964963596 : Nat := 0
def PySem.W.Fast.tw12463061830295947707 : Nat := 0
def PySem.W.Fast.tw10243334260195171551 : Nat := 0
def PySem.W.Fast.tw10367117147896371911 : Nat := 0
def PySem.W.Fast.tw8309346500998036230 : Nat := 0
def PySem.W.Fast.tw17854262895730254200 : Nat := 0
def PySem.W.Fast.tw11016010390987789949 : Nat := 0
def PySem.W.Fast.tw15125486187691533956 : Nat := 0
def PySem.W.Fast.tw129055057238681030 : Nat := 0
def PySem.W.Fast.tw16882318733012038886 : Nat := 0
def PySem.W.Fast.tw13199645858702920470 : Nat := 0
def PySem.W.Fast.tw17934161931824119450 : Nat := 0
def PySem.W.Fast.tw9331754163253746872 : Nat := 0
def PySem.W.Fast.tw6762284489870116092 : Nat := 0
def PySem.W.Fast.tw2634842282713822695 : Nat := 0
def PySem.W.Fast.tw10371629510292064830 : Nat := 0
def PySem.W.Fast.tw19928488159750575 : Nat := 0
def PySem.W.Fast.tw6385749558722045971 : Nat := 0
def PySem.W.Fast.tw1067500705288518315 : Nat := 0
def PySem.W.Fast.tw14741153248533635724 : Nat := 0
def PySem.W.Fast.tw8859629779072050734 : Nat := 0
def PySem.W.Fast.tw18228373349042270750 : Nat := 0
def PySem.W.Fast.tw13845518688076660825 : Nat := 0
def PySem.W.Fast.tw200936972155650800 : Nat := 0
def PySem.W.Fast.tw893710392962102238 : Nat := 0
def PySem.W.Fast.tw4457976503068641304 : Nat := 0
def PySem.W.Fast.tw12411125841952952464 : Nat := 0
def PySem.W.Fast.tw12856617429958858906 : Nat := 0
def PySem.W.Fast.tw15002093897015256715 : Nat := 0
def PySem.W.Fast.tw5088627594059403410 : Nat := 0
def PySem.W.Fast.tw9372527470448816468 : Nat := 0
def PySem.W.Fast.tw4427850590894706083 : Nat := 0
def PySem.W.Fast.tw8253129010013937421 : Nat := 0
def PySem.W.Fast.tw16877709591499729156 : Nat := 0
def PySem.W.Fast.tw14516316532615081808 : Nat := 0
def PySem.W.Fast.tw11203090578343727500 : Nat := 0
def PySem.W.Fast.tw16738862873662044980 : Nat := 0
def PySem.W.Fast.tw11006985102407510322 : Nat := 0
def PySem.W.Fast.tw2735907635173159092 : Nat := 0
def PySem.W.Fast.tw1252041453721650211 : Nat := 0
def PySem.W.Fast.tw10372038419405407523 : Nat := 0
def PySem.W.Fast.tw4803887975500962685 : Nat := 0
def PySem.W.Fast.tw11982502723816204185 : Nat := 0
def PySem.W.Fast.tw3698534136961940411 : Nat := 0
def PySem.W.Fast.tw13763262362336196692 : Nat := 0
def PySem.W.Fast.tw3515485945934554994 : Nat := 0
def PySem.W.Fast.tw10257950036795014872 : Nat := 0
def PySem.W.Fast.tw9101953724306087462 : Nat := 0
def PySem.W.Fast.tw2639470081060741770 : Nat := 0
def PySem.W.Fast.tw14502224046408354292 : Nat := 0
def PySem.W.Fast.tw8314237934701656607 : Nat := 0
def PySem.W.Fast.tw3331439503020663245 : Nat := 0
def PySem.W.Fast.tw744893634461958453 : Nat := 0
def PySem.W.Fast.tw3385508382249768957 : Nat := 0
def PySem.W.Fast.tw13668783723124575003 : Nat := 0
def PySem.W.Fast.tw16814619288984110926 : Nat := 0
def PySem.W.Fast.tw3425895144409043228 : Nat := 0
def PySem.W.Fast.tw14253524135244815541 : Nat := 0
def PySem.W.Fast.tw393267178723999521 : Nat := 0
def PySem.W.Fast.tw11737591909121877705 : Nat := 0
def PySem.W.Fast.tw2133965427238363814 : Nat := 0
def PySem.W.Fast.tw2765947218187318639 : Nat := 0
def PySem.W.Fast.tw14478313793240663709 : Nat := 0
def PySem.W.Fast.tw3031053999576064430 : Nat := 0
def PySem.W.Fast.tw1754093575180909871 : Nat := 0
def PySem.W.Fast.tw11506221840094093946 : Nat := 0
def PySem.W.Fast.tw7555173056527522817 : Nat := 0
def PySem.W.Fast.tw1997785881356531486 : Nat := 0
def PySem.W.Fast.tw3786310353376354699 : Nat := 0
def PySem.W.Fast.tw1836729289565199312 : Nat := 0
def PySem.W.Fast.tw5565557056927513899 : Nat := 0
def PySem.W.Fast.tw8211960063049044280 : Nat := 0
def PySem.W.Fast.tw15696887113243395934 : Nat := 0
def PySem.W.Fast.tw14315835055762114170 : Nat := 0
def PySem.W.Fast.tw8758202924361912813 : Nat := 0
def PySem.W.Fast.tw17223384048327181204 : Nat := 0
def PySem.W.Fast.tw5098655278660565855 : Nat := 0
def PySem.W.Fast.tw13770511906460621246 : Nat := 0
def PySem.W.Fast.tw11630516720695226616 : Nat := 0
def PySem.W.Fast.tw13792531039956699939 : Nat := 0
def PySem.W.Fast.tw12226799456455517653 : Nat := 0
def PySem.W.Fast.tw198222140649347628 : Nat := 0
def PySem.W.Fast.tw6625595788421610039 : Nat := 0
def PySem.W.Fast.tw5700807998690163735 : Nat := 0
def PySem.W.Fast.tw15776939950337974703 : Nat := 0
def PySem.W.Fast.tw11642381129178801286 : Nat := 0
def PySem.W.Fast.tw2248714657928023672 : Nat := 0
def PySem.W.Fast.tw12699398943673660216 : Nat := 0
def PySem.W.Fast.tw11386945686227766171 : Nat := 0
def PySem.W.Fast.tw9820873802467882514 : Nat := 0
def PySem.W.Fast.tw7597382195601397434 : Nat := 0
def PySem.W.Fast.tw14419720179466872338 : Nat := 0
def PySem.W.Fast.tw256623322260798019 : Nat := 0
def PySem.W.Fast.tw8046162063211494136 : Nat := 0
def PySem.W.Fast.tw402247574992010649 : Nat := 0
def PySem.W.Fast.tw9016963501001343067 : Nat := 0
def PySem.W.Fast.tw13182383128650138107 : Nat := 0
def PySem.W.Fast.tw10879641129915591532 : Nat := 0
def PySem.W.Fast.tw17215734453424011643 : Nat := 0
def PySem.W.Fast.tw4002320895275838391 : Nat := 0
def PySem.W.Fast.tw6318677121322354119 : Nat := 0
def PySem.W.Fast.tw17596332095755905233 : Nat := 0
def PySem.W.Fast.tw12491627186930228563 : Nat := 0
def PySem.W.Fast.tw183061039459428206 : Nat := 0
def PySem.W.Fast.tw13308491755284534501 : Nat := 0
def PySem.W.Fast.tw14462370227802222479 : Nat := 0
def PySem.W.Fast.tw1218433957715164110 : Nat := 0
def PySem.W.Fast.tw5199113055229962080 : Nat := 0
def PySem.W.Fast.tw13959460966352724023 : Nat := 0
def PySem.W.Fast.tw17047051235510562249 : Nat := 0
def PySem.W.Fast.tw14469336992429676623 : Nat := 0
def PySem.W.Fast.tw9626755408918707525 : Nat := 0
def PySem.W.Fast.tw16821374951798647952 : Nat := 0
def PySem.W.Fast.tw11885857175882560946 : Nat := 0
def PySem.W.Fast.tw13808850447198344900 : Nat := 0
def PySem.W.Fast.tw17144819207924637613 : Nat := 0
def PySem.W.Fast.tw10478571160118247732 : Nat := 0
def PySem.W.Fast.tw7544273155523710698 : Nat := 0
def PySem.W.Fast.tw4062419649185802816 : Nat := 0
def PySem.W.Fast.tw850742860500955317 : Nat := 0
def PySem.W.Fast.tw16249247420716705296 : Nat := 0
def PySem.W.Fast.tw8730053792213361810 : Nat := 0
def PySem.W.Fast.tw3172943230532055423 : Nat := 0
def PySem.W.Fast.tw11296422034319686437 : Nat := 0
def PySem.W.Fast.tw16410307431904555602 : Nat := 0
def PySem.W.Fast.tw9612339513050899009 : Nat := 0
def PySem.W.Fast.tw11261156761646252834 : Nat := 0
def PySem.W.Fast.tw15011345788961848682 : Nat := 0
def PySem.W.Fast.tw10815997281301777719 : Nat := 0
def PySem.W.Fast.tw16719294274219130707 : Nat := 0
def PySem.W.Fast.tw15665075376534064443 : Nat := 0
def PySem.W.Fast.tw821786011976825100 : Nat := 0
def PySem.W.Fast.tw10683291563569773409 : Nat := 0
def PySem.W.Fast.tw17948660510140840469 : Nat := 0
def PySem.W.Fast.tw9659431495245988297 : Nat := 0
def PySem.W.Fast.tw18214942932240670073 : Nat := 0
def PySem.W.Fast.tw4364609841170311286 : Nat := 0
def PySem.W.Fast.tw2702904682598117297 : Nat := 0
def PySem.W.Fast.tw1676459096394214533 : Nat := 0
def PySem.W.Fast.tw12337055636421959312 : Nat := 0
def PySem.W.Fast.tw4426697585758564296 : Nat := 0
def PySem.W.Fast.tw14452130093693822428 : Nat := 0
def PySem.W.Fast.tw1635582769697091927 : Nat := 0
def PySem.W.Fast.tw15038236539330882637 : Nat := 0
def PySem.W.Fast.tw12617136195563638070 : Nat := 0
def PySem.W.Fast.tw5776111279004650185 : Nat := 0
def PySem.W.Fast.tw5749580104729981944 : Nat := 0
def PySem.W.Fast.tw2341032388065378693 : Nat := 0
def PySem.W.Fast.tw11640499830191403000 : Nat := 0
def PySem.W.Fast.tw1417070817967756107 : Nat := 0
def PySem.W.Fast.tw14770239709316795748 : Nat := 0
def PySem.W.Fast.tw3976185693079989526 : Nat := 0
def PySem.W.Fast.tw7431311532995598047 : Nat := 0
def PySem.W.Fast.tw16615819355076164154 : Nat := 0
def PySem.W.Fast.tw7011737611986265456 : Nat := 0
def PySem.W.Fast.tw17622692437028892718 : Nat := 0
def PySem.W.Fast.tw2332678704344725668 : Nat := 0
def PySem.W.Fast.tw11053838771432117206 : Nat := 0
def PySem.W.Fast.tw1341868585043743795 : Nat := 0
def PySem.W.Fast.tw17232298376100739912 : Nat := 0
def PySem.W.Fast.tw10422820998593928614 : Nat := 0
def PySem.W.Fast.tw1787116673895539836 : Nat := 0
def PySem.W.Fast.tw11656122201595399091 : Nat := 0
def PySem.W.Fast.tw12027590663673584418 : Nat := 0
def PySem.W.Fast.tw6132889998612690203 : Nat := 0
def PySem.W.Fast.tw8622881072068697373 : Nat := 0
def PySem.W.Fast.tw10564618942249544288 : Nat := 0
def PySem.W.Fast.tw466510305095328191 : Nat := 0
def PySem.W.Fast.tw15707634003470280839 : Nat := 0
def PySem.W.Fast.tw1134501643237254434 : Nat := 0
def PySem.W.Fast.tw6160996254284506343 : Nat := 0
def PySem.W.Fast.tw16664280408587369782 : Nat := 0
def PySem.W.Fast.tw2023605290947066671 : Nat := 0
def PySem.W.Fast.tw1223446407664884015 : Nat := 0
def PySem.W.Fast.tw4467062336633611304 : Nat := 0
def PySem.W.Fast.tw9838790214069375321 : Nat := 0
def PySem.W.Fast.tw8646487937166116137 : Nat := 0
def PySem.W.Fast.tw3359676125174981367 : Nat := 0
def PySem.W.Fast.tw11412954885759447366 : Nat := 0
def PySem.W.Fast.tw10810481270317091534 : Nat := 0
def PySem.W.Fast.tw17788169486834722582 : Nat := 0
def PySem.W.Fast.tw11634759163897182312 : Nat := 0
def PySem.W.Fast.tw14221611387148530837 : Nat := 0
def PySem.W.Fast.tw604727247453241106 : Nat := 0

open PySem PySem.W PyProof.Rows
set_option maxRecDepth 100000 in
set_option maxHeartbeats 0 in
theorem PySem.Challenge.cw_netcourt_k71_strangers_and_variables_holds : PySem.Challenge.rw_netcourt_k71_strangers_and_variables.Holds := by
  w_on; o_law; k_head; (case hw => w_witness2)
  k_fill
  refine Net.walk (l := PySem.Challenge.rw_netcourt_k71_strangers_and_variables) rfl rfl (fun w h Y => PySem.W.kIn_of Y) ?F
  case F =>
    intro w mg fa h KX G hmg
    refine' Net.all_mk KX G hmg ?aC ?a0 ?l0 ?c0 ?k0 ?a1 ?l1 ?c1 ?k1 ?a2 ?l2 ?c2 ?k2 ?a3 ?l3 ?c3 ?k3 ?a4 ?l4 ?c4 ?k4 ?a5 ?l5 ?c5 ?k5 ?a6 ?l6 ?c6 ?k6 ?a7 ?l7 ?c7 ?k7 ?a8 ?l8 ?c8 ?k8 ?a9 ?l9 ?c9 ?k9 ?a10 ?l10 ?c10 ?k10 ?a11 ?l11 ?c11 ?k11 ?a12 ?l12 ?c12 ?k12 ?a13 ?l13 ?c13 ?k13 ?a14 ?l14 ?c14 ?k14 ?a15 ?l15 ?c15 ?k15 ?a16 ?l16 ?c16 ?k16 ?a17 ?l17 ?c17 ?k17 ?a18 ?l18 ?c18 ?k18 ?a19 ?l19 ?c19 ?k19 ?a20 ?l20 ?c20 ?k20 ?a21 ?l21 ?c21 ?k21 ?a22 ?l22 ?c22 ?k22 ?a23 ?l23 ?c23 ?k23 ?a24 ?l24 ?c24 ?k24 ?a25 ?l25 ?c25 ?k25 ?a26 ?l26 ?c26 ?k26 ?a27 ?l27 ?c27 ?k27 ?a28 ?i28 ?l28 ?c28 ?k28 ?a29 ?i29 ?l29 ?c29 ?k29 ?a30 ?i30 ?l30 ?c30 ?k30 ?a31 ?i31 ?l31 ?c31 ?k31 ?a32 ?i32 ?l32 ?c32 ?k32 ?aL ?lL ?cL ?kL ?pg ?hd ?po ?sa ?mk ?kc ?nS ?nL ?z_all ?z_isinstance ?z_str ?z_int ?z_bool ?z_list ?z_tuple ?z_len ?z_range ?z_abs ?z_max ?z_enumerate ?z_reversed ?m0 ?md0 ?md1 ?md2 ?md3 ?md4 ?md5 ?md6 ?md7 ?md8 ?mcc ?mve ?hn0 ?tk0 ?xm0 ?kv0 ?k0_0 ?kd0_0 ?kd0_1 ?kd0_2 ?kd0_3 ?kd0_4 ?kd0_5 ?kd0_6 ?kd0_7 ?kd0_8 ?ga0 ?gt0 ?cl0 ?mo0 ?mb0 ?ini ?xi ?fnI ?lI ?cI ?kI ?bga ?brd ?bfc ?bhi ?xo ?xs ?xn ?xh ?gS ?rS ?gN ?rN ?gP ?rP ?gM ?rM
    (case aC => k_is)
    (case a0 => k_is)
    (case l0 => k_is)
    (case c0 => k_is)
    (case k0 => k_is)
    (case a1 => k_is)
    (case l1 => k_is)
    (case c1 => k_is)
    (case k1 => k_is)
    (case a2 => k_is)
    (case l2 => k_is)
    (case c2 => k_is)
    (case k2 => k_is)
    (case a3 => k_is)
    (case l3 => k_is)
    (case c3 => k_is)
    (case k3 => k_is)
    (case a4 => k_is)
    (case l4 => k_is)
    (case c4 => k_is)
    (case k4 => k_is)
    (case a5 => k_is)
    (case l5 => k_is)
    (case c5 => k_is)
    (case k5 => k_is)
    (case a6 => k_is)
    (case l6 => k_is)
    (case c6 => k_is)
    (case k6 => k_is)
    (case a7 => k_is)
    (case l7 => k_is)
    (case c7 => k_is)
    (case k7 => k_is)
    (case a8 => k_is)
    (case l8 => k_is)
    (case c8 => k_is)
    (case k8 => k_is)
    (case a9 => k_is)
    (case l9 => k_is)
    (case c9 => k_is)
    (case k9 => k_is)
    (case a10 => k_is)
    (case l10 => k_is)
    (case c10 => k_is)
    (case k10 => k_is)
    (case a11 => k_is)
    (case l11 => k_is)
    (case c11 => k_is)
    (case k11 => k_is)
    (case a12 => k_is)
    (case l12 => k_is)
    (case c12 => k_is)
    (case k12 => k_is)
    (case a13 => k_is)
    (case l13 => k_is)
    (case c13 => k_is)
    (case k13 => k_is)
    (case a14 => k_is)
    (case l14 => k_is)
    (case c14 => k_is)
    (case k14 => k_is)
    (case a15 => k_is)
    (case l15 => k_is)
    (case c15 => k_is)
    (case k15 => k_is)
    (case a16 => k_is)
    (case l16 => k_is)
    (case c16 => k_is)
    (case k16 => k_is)
    (case a17 => k_is)
    (case l17 => k_is)
    (case c17 => k_is)
    (case k17 => k_is)
    (case a18 => k_is)
    (case l18 => k_is)
    (case c18 => k_is)
    (case k18 => k_is)
    (case a19 => k_is)
    (case l19 => k_is)
    (case c19 => k_is)
    (case k19 => k_is)
    (case a20 => k_is)
    (case l20 => k_is)
    (case c20 => k_is)
    (case k20 => k_is)
    (case a21 => k_is)
    (case l21 => k_is)
    (case c21 => k_is)
    (case k21 => k_is)
    (case a22 => k_is)
    (case l22 => k_is)
    (case c22 => k_is)
    (case k22 => k_is)
    (case a23 => k_is)
    (case l23 => k_is)
    (case c23 => k_is)
    (case k23 => k_is)
    (case a24 => k_is)
    (case l24 => k_is)
    (case c24 => k_is)
    (case k24 => k_is)
    (case a25 => k_is)
    (case l25 => k_is)
    (case c25 => k_is)
    (case k25 => k_is)
    (case a26 => k_is)
    (case l26 => k_is)
    (case c26 => k_is)
    (case k26 => k_is)
    (case a27 => k_is)
    (case l27 => k_is)
    (case c27 => k_is)
    (case k27 => k_is)
    (case a28 => k_is)
    (case i28 => k_is)
    (case l28 => k_is)
    (case c28 => k_is)
    (case k28 => k_is)
    (case a29 => k_is)
    (case i29 => k_is)
    (case l29 => k_is)
    (case c29 => k_is)
    (case k29 => k_is)
    (case a30 => k_is)
    (case i30 => k_is)
    (case l30 => k_is)
    (case c30 => k_is)
    (case k30 => k_is)
    (case a31 => k_is)
    (case i31 => k_is)
    (case l31 => k_is)
    (case c31 => k_is)
    (case k31 => k_is)
    (case a32 => k_is)
    (case i32 => k_is)
    (case l32 => k_is)
    (case c32 => k_is)
    (case k32 => k_is)
    (case aL => k_is)
    (case lL => k_is)
    (case cL => k_is)
    (case kL => k_is)
    (case pg => k_is)
    (case hd => k_is)
    (case po => k_is)
    (case sa => k_is)
    (case mk => k_is)
    (case kc => k_is)
    (case nS => k_is)
    (case nL => k_is)
    (case z_all => k_is)
    (case z_isinstance => k_is)
    (case z_str => k_is)
    (case z_int => k_is)
    (case z_bool => k_is)
    (case z_list => k_is)
    (case z_tuple => k_is)
    (case z_len => k_is)
    (case z_range => k_is)
    (case z_abs => k_is)
    (case z_max => k_is)
    (case z_enumerate => k_is)
    (case z_reversed => k_is)
    (case m0 => k_is)
    (case md0 => k_is)
    (case md1 => k_is)
    (case md2 => k_is)
    (case md3 => k_is)
    (case md4 => k_is)
    (case md5 => k_is)
    (case md6 => k_is)
    (case md7 => k_is)
    (case md8 => k_is)
    (case mcc => k_is)
    (case mve => k_is)
    (case hn0 => k_is)
    (case tk0 => k_is)
    (case xm0 => kts_exm)
    (case kv0 => kit_is)
    (case k0_0 => kit_is)
    (case kd0_0 => kit_is)
    (case kd0_1 => kit_is)
    (case kd0_2 => kit_is)
    (case kd0_3 => kit_is)
    (case kd0_4 => kit_is)
    (case kd0_5 => kit_is)
    (case kd0_6 => kit_is)
    (case kd0_7 => kit_is)
    (case kd0_8 => kit_is)
    (case ga0 => k_is)
    (case gt0 => k_is)
    (case cl0 => k_is)
    (case mo0 => k_is)
    (case mb0 => k_is)
    (case ini => k_is)
    (case xi => first | kernel_rfl! | kernel_rfl)
    (case fnI => k_is)
    (case lI => k_is)
    (case cI => k_is)
    (case kI => k_is)
    (case bga => k_is)
    (case brd => k_is)
    (case bfc => k_is)
    (case bhi => first | rfl | decide +kernel)
    (case xo => first | kernel_rfl! | kernel_rfl)
    (case xs => k_is)
    (case xn => k_is)
    (case xh => k_is)
    (case gS => k_is)
    (case rS => exact ⟨_, rfl⟩)
    (case gN => k_is)
    (case rN => exact ⟨_, rfl⟩)
    (case gP => k_is)
    (case rP => exact ⟨_, rfl⟩)
    (case gM => k_is)
    (case rM => exact ⟨_, rfl⟩)
