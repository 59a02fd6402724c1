import PyProof.Rows.All
import Wide.All
import OpenK.AllK
import Wide.FinOn
import Lean
import PyProof.EqAt
import PyProof.EqKinds
import PyProof.TupleCall
import PySem.Challenge.RW_netcourt_k11_papers_as_texts
set_option Elab.async false
set_option linter.all false
set_option maxRecDepth 100000
/-! THE HAND LAYER, for ints, bools, texts, own classes, DICTS (int and text keys), calls, loops. Paste it whole ahead of your own text; what your proof does not reach may be deleted. -/
namespace L2
open PySem PySem.Spec PyProof.Rows

/-- a key: an int or a str -/
abbrev Key := Sum Int Str
def keyIs : Key → Value → Bool
  | .inl k, v => Value.isInt k v
  | .inr x, v => Value.isStrOf x v
def keyH (w : World) : Key → Int
  | .inl k => hashInt k
  | .inr x => hashStr w x
theorem keyIs_shape : ∀ {k : Key} {v : Value}, keyIs k v = true → (∃ i t, k = Sum.inl i ∧ v = Value.int i t) ∨ (∃ x t, k = Sum.inr x ∧ v = Value.str x t)
  | .inl i, v, h => by
    obtain ⟨t, e⟩ := Value.isInt_shape (k := i) (v := v) h
    exact .inl ⟨i, t, rfl, e⟩
  | .inr x, v, h => by
    obtain ⟨t, e⟩ := Value.isStrOf_shape (x := x) (v := v) h
    exact .inr ⟨x, t, rfl, e⟩
theorem key_ll (a b : Int) : decide ((Sum.inl a : Key) = Sum.inl b) = (a == b) := by
  by_cases e : a = b
  · subst e; simp
  · have h : ¬ (Sum.inl a : Key) = Sum.inl b := fun q => e (Sum.inl.inj q)
    rw [decide_eq_false h]
    exact (beq_eq_false_iff_ne.mpr e).symm
theorem key_rr (a b : Str) : decide ((Sum.inr a : Key) = Sum.inr b) = decide (a = b) := by
  by_cases e : a = b
  · subst e; simp
  · have h : ¬ (Sum.inr a : Key) = Sum.inr b := fun q => e (Sum.inr.inj q)
    rw [decide_eq_false h, decide_eq_false e]
theorem key_lr (a : Int) (b : Str) : decide ((Sum.inl a : Key) = Sum.inr b) = false := decide_eq_false (fun q => nomatch q)
theorem key_rl (a : Str) (b : Int) : decide ((Sum.inr a : Key) = Sum.inl b) = false := decide_eq_false (fun q => nomatch q)

def mixKind (prog : Program) (w : World) : PySem.KeyKind prog w Key where
  is := keyIs
  hash := keyH w
  inj := fun v a b ha hb => by
    rcases keyIs_shape ha with ⟨i, t, rfl, rfl⟩ | ⟨x, t, rfl, rfl⟩
    · rcases keyIs_shape hb with ⟨j, u, rfl, e⟩ | ⟨y, u, rfl, e⟩
      · injection e with e1 _; rw [e1]
      · exact nomatch e
    · rcases keyIs_shape hb with ⟨j, u, rfl, e⟩ | ⟨y, u, rfl, e⟩
      · exact nomatch e
      · injection e with e1 _; rw [e1]
  byValue := fun k v h => by
    rcases keyIs_shape h with ⟨i, t, rfl, rfl⟩ | ⟨x, t, rfl, rfl⟩ <;> rfl
  pyHash := fun hv h => by
    rcases keyIs_shape hv with ⟨i, t, rfl, rfl⟩ | ⟨x, t, rfl, rfl⟩
    · exact wpAny_pyHash_int h
    · exact wpAny_pyHash_str h
  eqBool := fun hu hv h => by
    rcases keyIs_shape hu with ⟨i, t, rfl, rfl⟩ | ⟨x, t, rfl, rfl⟩
    · rcases keyIs_shape hv with ⟨j, u, rfl, rfl⟩ | ⟨y, u, rfl, rfl⟩
      · rw [key_ll] at h; exact wpAny_eqBool_int h
      · rw [key_lr] at h; exact SeqAt.EqAt.int_str i t y u _ _ _ _ h
    · rcases keyIs_shape hv with ⟨j, u, rfl, rfl⟩ | ⟨y, u, rfl, rfl⟩
      · rw [key_rl] at h; exact SeqAt.EqAt.str_int x t j u _ _ _ _ h
      · rw [key_rr] at h; exact wpAny_eqBool_str h
  «strs» := fun k x t v h => by
    rcases keyIs_shape h with ⟨i, u, rfl, e⟩ | ⟨y, u, rfl, e⟩
    · exact nomatch e
    · injection e with e1 _
      subst e1
      cases v <;> rfl

end L2

namespace L2
open PySem PySem.Spec PyProof.Rows

/-- a value, without the heap -/
inductive V where
  | non | bl (b : Bool) | int (i : Int) | str (x : Str) | byt (b : Array UInt8) | flt (b : UInt64) | ref (a : Addr) | ty (n : String)
  deriving DecidableEq

def RelV : V → Value → Prop
  | .non, u => u = Value.none
  | .bl b, u => u = Value.bool b
  | .int i, u => ∃ t, u = Value.int i t
  | .str x, u => ∃ t, u = Value.str x t
  | .byt b, u => ∃ t, u = Value.bytes b t
  | .flt b, u => ∃ t, u = Value.float b t
  | .ref a, u => u = Value.ref a
  | .ty n, u => u = Value.type n

abbrev Vals : List V → List Value → Prop := Paired RelV
theorem Vals.length {xs : List V} {us : List Value} (r : Vals xs us) : xs.length = us.length := Paired.length r
theorem Vals.get : ∀ {xs : List V} {us : List Value} {i : Nat} {x : V}, Vals xs us → xs[i]? = some x → ∃ u, us[i]? = some u ∧ RelV x u
  | _, _, _, _, .nil, e => by simp at e
  | _, _, 0, _, .cons r _, e => by simp at e; subst e; exact ⟨_, rfl, r⟩
  | _, _, i + 1, x, .cons _ t, e => by
    obtain ⟨u, h1, h2⟩ := Vals.get (i := i) (x := x) t (by simpa using e)
    exact ⟨u, by simpa using h1, h2⟩
theorem Vals.set {x : V} {u : Value} (r : RelV x u) : ∀ {xs : List V} {us : List Value} (i : Nat), Vals xs us → Vals (xs.set i x) (us.set i u)
  | _, _, _, .nil => .nil
  | _, _, 0, .cons _ t => .cons r t
  | _, _, i + 1, .cons q t => .cons q (Vals.set r i t)
theorem Vals.append : ∀ {xs ys : List V} {us ws : List Value}, Vals xs us → Vals ys ws → Vals (xs ++ ys) (us ++ ws)
  | _, _, _, _, .nil, s => s
  | _, _, _, _, .cons r t, s => .cons r (Vals.append t s)
theorem Vals.take : ∀ {xs : List V} {us : List Value} (n : Nat), Vals xs us → Vals (xs.take n) (us.take n)
  | _, _, 0, _ => .nil
  | _, _, _ + 1, .nil => .nil
  | _, _, n + 1, .cons r t => .cons r (Vals.take n t)
theorem Vals.drop : ∀ {xs : List V} {us : List Value} (n : Nat), Vals xs us → Vals (xs.drop n) (us.drop n)
  | _, _, 0, r => r
  | _, _, _ + 1, .nil => .nil
  | _, _, n + 1, .cons _ t => Vals.drop n t
def RelO : Option V → Option Value → Prop
  | some v, some u => RelV v u
  | none, none => True
  | _, _ => False
def KV {κ : Type} : List (κ × V) → List (κ × Value) → Prop := Paired fun (p : κ × V) (q : κ × Value) => p.1 = q.1 ∧ RelV p.2 q.2

/-- a key of a dict (00_mix): an int or a text -/
def kV : Key → V
  | .inl i => .int i
  | .inr x => .str x

/-- what stands at a tracked address -/
inductive HO where
  /-- a list -/
  | lst (xs : List V)
  /-- a tuple (never changes) -/
  | tup (xs : List V)
  /-- a dict whose keys are ints and texts; one whose keys are tuples of ints and texts (the empty one is both) -/
  | dK (kvs : List (Key × V)) | dT (kvs : List (List Key × V))
  /-- a set of ints: its members, its size -/
  | set (S : Int → Bool) (n : Nat)
  /-- an instance of the class at C, its dict at dx, its attributes -/
  | ins (C dx : Addr) (fs : List (Str × V))
  /-- the dict of the instance at x -/
  | own (x : Addr)
  /-- the dict of an exception -/
  | xd (fs : List (Str × V))
  /-- a bound method, f of x -/
  | met (f x : Addr)
  /-- a range object lo, lo + 1, .. below hi -/
  | rng (lo hi : Int)
  /-- a thing that is known to the object (the script; a dict while a loop walks it): read, never written while it is so -/
  | frz (o : Obj) (u : HO)
  /-- a code object's table -/
  | tbl (ps : Array Value)
  /-- any other thing, by what is true of its one object (a def of one's own: SetO a S n := HO.ext fun h => ..) -/
  | ext (φ : Heap → Prop)

abbrev Hp := Addr → Option HO
def upd (H : Hp) (a : Addr) (o : HO) : Hp := fun b => if b = a then some o else H b
theorem upd_same {H : Hp} {a : Addr} {o : HO} : upd H a o a = some o := by unfold upd; rw [if_pos rfl]
theorem upd_ne {H : Hp} {a b : Addr} {o : HO} (h : b ≠ a) : upd H a o b = H b := by unfold upd; rw [if_neg h]
theorem ne_of_none {H : Hp} {a b : Addr} {o : HO} (h : H a = some o) (h' : H b = none) : a ≠ b := by
  intro e; subst e; rw [h] at h'; cases h'

section
variable (P : Program) (w : World)
def ObjOk (H : Hp) (h : Heap) (a : Addr) : HO → Prop
  | .lst xs => xs.length ≤ sizeLine ∧ ∃ (its : List Value) (n : Nat), Vals xs its ∧ h.get? a = some { cls := .type "list", data := .seq its.toArray n }
  | .tup xs => xs.length ≤ sizeLine ∧ ∃ its : List Value, Vals xs its ∧ IsTup h a its.toArray
  | .dK kvs => kvs.length ≤ sizeLine ∧ (a == sysModules) = false ∧ ∃ vs, KV kvs vs ∧ h.DictOf (mixKind P w) a vs
  | .dT kvs => kvs.length ≤ sizeLine ∧ (a == sysModules) = false ∧ ∃ xs : List (List Key × Addr × Value),
      Paired (fun (p : List Key × V) (q : List Key × Addr × Value) => p.1 = q.1 ∧ H q.2.1 = some (.tup (p.1.map kV)) ∧ RelV p.2 q.2.2) kvs xs ∧
      ∃ o es ep, h.get? a = some o ∧ o.ExactDict ∧ o.data = .dict es ep ∧ es.toList = xs.map (entryOfKey (tupleKind (mixKind P w))) ∧ (xs.map (·.1)).Nodup
  | .set S n => h.SetOf (intKind P w) a S n
  | .ins C dx fs => H dx = some (.own a) ∧ fs.length ≤ 1000 ∧ dx ≠ a ∧ h.get? a = some (PySem.W.instObj C dx) ∧
      ∃ mA, h.Ns1 dx mA ∧ (∀ f, RelO (fs.lookup f) (mA f)) ∧ PySem.Within mA (fs.map (·.1))
  | .own _ => ∃ o, h.get? a = some o
  | .xd fs => ∃ mA, h.Ns1 a mA ∧ ∀ f, RelO (fs.lookup f) (mA f)
  | .rng lo hi => ∃ t u v, h.get? a = some { cls := .type "range", data := .fields #[.int lo t, .int hi u, .int 1 v] }
  | .frz o u => h.get? a = some o ∧ ObjOk H h a u
  | .tbl ps => h.get? a = some { cls := .none, data := .fields ps }
  | .met f x => h.get? a = some (PySem.W.methodObj (.ref f) (.ref x))
  | .ext φ => φ h ∧ (∃ o, h.get? a = some o) ∧ ∀ h1 h2 : Heap, φ h1 → (∀ o, h1.get? a = some o → h2.get? a = some o) → φ h2
/-- the abstract heap is held -/
def HOk (H : Hp) (h : Heap) : Prop := ∀ a o, H a = some o → ObjOk P w H h a o
end

section
variable {P : Program} {w : World} {H H' : Hp} {h h' : Heap} {a : Addr} {o : HO}
theorem ObjOk.lt (x : ObjOk P w H h a o) : a < h.objs.size := by
  cases o with
  | lst xs => obtain ⟨_, _, _, _, e⟩ := x; exact Heap.lt_size e
  | tup xs => obtain ⟨_, _, _, p⟩ := x; exact p.lt
  | dK kvs => obtain ⟨_, _, _, _, o, _, _, e, _⟩ := x; exact Heap.lt_size e
  | dT kvs => obtain ⟨_, _, _, _, o, _, _, e, _⟩ := x; exact Heap.lt_size e
  | set S n => obtain ⟨o, _, _, _, e, _⟩ := x; exact Heap.lt_size e
  | ins C dx fs => obtain ⟨_, _, _, e, _⟩ := x; exact Heap.lt_size e
  | own y => obtain ⟨_, e⟩ := x; exact Heap.lt_size e
  | xd fs => obtain ⟨_, ⟨_, _, _, e, _⟩, _⟩ := x; exact Heap.lt_size e
  | rng lo hi => obtain ⟨_, _, _, e⟩ := x; exact Heap.lt_size e
  | frz ob u => obtain ⟨e, _⟩ := x; exact Heap.lt_size e
  | tbl ps => exact Heap.lt_size (show h.get? a = some _ from x)
  | met f y => exact Heap.lt_size (show h.get? a = some _ from x)
  | ext φ => obtain ⟨_, ⟨_, e⟩, _⟩ := x; exact Heap.lt_size e
theorem Paired.mapP {α β : Type} {F G : α → β → Prop} : ∀ {l₁ : List α} {l₂ : List β}, Paired F l₁ l₂ → (∀ a b, F a b → G a b) → Paired G l₁ l₂
  | _, _, .nil, _ => .nil
  | _, _, .cons r t, f => .cons (f _ _ r) (Paired.mapP t f)
/-- what an object's description leans on: its own object, its own dict, the tuples -/
theorem ObjOk.stay (x : ObjOk P w H h a o) (k : ∀ b u, (b = a ∨ H b = some (.own a)) → h.get? b = some u → h'.get? b = some u)
    (ho : ∀ b, H b = some (.own a) → H' b = some (.own a)) (ht : ∀ b xs, H b = some (.tup xs) → H' b = some (.tup xs)) : ObjOk P w H' h' a o := by
  induction o with
  | lst xs => obtain ⟨z, its, n, r, e⟩ := x; exact ⟨z, its, n, r, k _ _ (.inl rfl) e⟩
  | tup xs => obtain ⟨z, its, r, ob, e, c⟩ := x; exact ⟨z, its, r, ob, k _ _ (.inl rfl) e, c⟩
  | dK kvs => obtain ⟨z, y, vs, r, ob, es, ep, e, c⟩ := x; exact ⟨z, y, vs, r, ob, es, ep, k _ _ (.inl rfl) e, c⟩
  | dT kvs =>
    obtain ⟨z, y, xs, r, ob, es, ep, e, c⟩ := x
    exact ⟨z, y, xs, Paired.mapP r fun p q z => ⟨z.1, ht _ _ z.2.1, z.2.2⟩, ob, es, ep, k _ _ (.inl rfl) e, c⟩
  | set S n => obtain ⟨ob, es, ep, t, e, c⟩ := x; exact ⟨ob, es, ep, t, k _ _ (.inl rfl) e, c⟩
  | ins C dx fs =>
    obtain ⟨d, z, ne, e, mA, ⟨od, es, ep, e2, c⟩, r⟩ := x
    exact ⟨ho _ d, z, ne, k _ _ (.inl rfl) e, mA, ⟨od, es, ep, k _ _ (.inr d) e2, c⟩, r⟩
  | own y => obtain ⟨ob, e⟩ := x; exact ⟨ob, k _ _ (.inl rfl) e⟩
  | xd fs => obtain ⟨mA, ⟨od, es, ep, e, c⟩, r⟩ := x; exact ⟨mA, ⟨od, es, ep, k _ _ (.inl rfl) e, c⟩, r⟩
  | rng lo hi => obtain ⟨t, u, v, e⟩ := x; exact ⟨t, u, v, k _ _ (.inl rfl) e⟩
  | frz ob u ih => obtain ⟨e, q⟩ := x; exact ⟨k _ _ (.inl rfl) e, ih q⟩
  | tbl ps =>
    have e : h.get? a = some { cls := .none, data := .fields ps } := x
    show h'.get? a = some { cls := .none, data := .fields ps }
    exact k a _ (.inl rfl) e
  | met f y =>
    have e : h.get? a = some (PySem.W.methodObj (.ref f) (.ref y)) := x
    show h'.get? a = some (PySem.W.methodObj (.ref f) (.ref y))
    exact k a _ (.inl rfl) e
  | ext φ => obtain ⟨p, ⟨o, e⟩, st⟩ := x; exact ⟨st _ _ p fun o q => k _ _ (.inl rfl) q, ⟨o, k _ _ (.inl rfl) e⟩, st⟩
theorem HOk.lt (x : HOk P w H h) (e : H a = some o) : a < h.objs.size := (x a o e).lt
theorem HOk.fresh (x : HOk P w H h) (e : h.objs.size ≤ a) : H a = none := by
  cases q : H a with
  | none => rfl
  | some u => exact absurd (Nat.lt_of_lt_of_le (x.lt q) e) (Nat.lt_irrefl _)
/-- every object of the heap is kept -/
theorem HOk.kept (x : HOk P w H h) (k : ∀ b u, h.get? b = some u → h'.get? b = some u) : HOk P w H h' := fun a o e =>
  (x a o e).stay (fun b u _ q => k b u q) (fun _ q => q) fun _ _ q => q
/-- a new object is laid and tracked -/
theorem HOk.laid (x : HOk P w H h) (k : ∀ b u, h.get? b = some u → h'.get? b = some u) (hp : h.objs.size ≤ a) (new : ObjOk P w (upd H a o) h' a o) : HOk P w (upd H a o) h' := fun b u e => by
  have hn := x.fresh hp
  by_cases hb : b = a
  · subst hb; rw [upd_same] at e; cases e; exact new
  · rw [upd_ne hb] at e
    exact (x b u e).stay (fun c v _ q => k c v q) (fun c q => by rw [upd_ne (ne_of_none q hn)]; exact q) fun c xs q => by rw [upd_ne (ne_of_none q hn)]; exact q
end

/-- what may be read as u: it is u, or a known u -/
def Rd (H : Hp) (a : Addr) (u : HO) : Prop := H a = some u ∨ ∃ o, H a = some (.frz o u)
theorem Rd.ok {P : Program} {w : World} {H : Hp} {h : Heap} {a : Addr} {u : HO} (r : Rd H a u) (x : HOk P w H h) : ObjOk P w H h a u := by
  rcases r with r | ⟨o, r⟩
  · exact x a u r
  · obtain ⟨_, q⟩ := x a _ r
    exact q
/-- what may be written -/
def Mut : Option HO → Prop
  | some (.lst _) => True
  | some (.dK _) => True
  | some (.dT _) => True
  | some (.set _ _) => True
  | some (.ins _ _ _) => True
  | some (.ext _) => True
  | _ => False
section
variable {P : Program} {w : World} {H : Hp} {h h' : Heap} {x e : Addr} {o' : HO}
/-- the object at e is changed: x itself, or the dict of the instance x -/
theorem HOk.write (ok : HOk P w H h) (mu : Mut (H x)) (he : e = x ∨ H e = some (.own x)) (k : ∀ b u, b ≠ e → h.get? b = some u → h'.get? b = some u) (heo : ∃ u, h'.get? e = some u)
    (new : ObjOk P w (upd H x o') h' x o') : HOk P w (upd H x o') h' := fun b u q => by
  have nown : ∀ c y, H c = some (.own y) → c ≠ x := fun c y r z => by subst z; rw [r] at mu; exact mu
  have ntup : ∀ c xs, H c = some (.tup xs) → c ≠ x := fun c xs r z => by subst z; rw [r] at mu; exact mu
  by_cases hb : b = x
  · subst hb; rw [upd_same] at q; cases q; exact new
  · rw [upd_ne hb] at q
    by_cases hbe : b = e
    · have q' : H b = some (.own x) := by
        rcases he with z | z
        · exact absurd (hbe.trans z) hb
        · rw [hbe]; exact z
      rw [q] at q'; cases q'
      obtain ⟨v, hv⟩ := heo
      exact ⟨v, by rw [hbe]; exact hv⟩
    · refine (ok b u q).stay (fun c v hc r => k c v ?_ r) (fun c r => by rw [upd_ne (nown c b r)]; exact r) fun c xs r => by rw [upd_ne (ntup c xs r)]; exact r
      rcases hc with rfl | hc
      · exact hbe
      · rintro rfl
        rcases he with z | z
        · exact nown c b hc z
        · rw [hc] at z; cases z; exact hb rfl
end

/-! ### kept unless tracked; of the frames at fs (the callers') the slots may change (an exception that passes writes there); of the records at ex (iterators) nothing is said -/
structure Un (fs ex : List Addr) (H H' : Hp) (h h' : Heap) : Prop where
  keep : ∀ b o, h.get? b = some o → H b = none → b ∉ fs → b ∉ ex → h'.get? b = some o
  slot : ∀ b o, h.get? b = some o → H b = none → b ∈ fs → b ∉ ex → ∃ sl, h'.get? b = some { o with slots := sl }
  free : ∀ b o, h.get? b = some o → H b = none → b ∉ ex → H' b = none
  there : ∀ b o, h.get? b = some o → b ∉ ex → ∃ o', h'.get? b = some o'
  tups : ∀ b xs, H b = some (.tup xs) → H' b = some (.tup xs)
  frzs : ∀ b o u, H b = some (.frz o u) → H' b = some (.frz o u)
  tbls : ∀ b ps, H b = some (.tbl ps) → ∃ more, H' b = some (.tbl (ps ++ more))
section
variable {fs fs' ex ex' : List Addr} {H H1 H2 : Hp} {h h1 h2 h' : Heap} {a x e : Addr} {o : HO}
theorem Un.any (u : Un fs ex H H1 h h1) {b : Addr} {ob : Obj} (q : h.get? b = some ob) (n : H b = none) (hx : b ∉ ex) : ∃ sl, h1.get? b = some { ob with slots := sl } := by
  by_cases hb : b ∈ fs
  · exact u.slot b ob q n hb hx
  · exact ⟨ob.slots, u.keep b ob q n hb hx⟩
theorem Un.kept (k : ∀ b u, h.get? b = some u → h'.get? b = some u) : Un fs ex H H h h' :=
  ⟨fun b ob q _ _ _ => k b ob q, fun b ob q _ _ _ => ⟨ob.slots, k b ob q⟩, fun _ _ _ n _ => n, fun b ob q _ => ⟨ob, k b ob q⟩, fun _ _ q => q, fun _ _ _ q => q, fun _ ps q => ⟨#[], by rw [q]; simp⟩⟩
theorem Un.refl : Un fs ex H H h h := Un.kept fun _ _ q => q
theorem Un.laid (k : ∀ b u, h.get? b = some u → h'.get? b = some u) (hp : h.objs.size ≤ a) (hn : H a = none) : Un fs ex H (upd H a o) h h' where
  keep := fun b u q _ _ _ => k b u q
  slot := fun b u q _ _ _ => ⟨u.slots, k b u q⟩
  free := fun b u q n _ => by rw [upd_ne (Nat.ne_of_lt (Nat.lt_of_lt_of_le (Heap.lt_size q) hp))]; exact n
  there := fun b u q _ => ⟨u, k b u q⟩
  tups := fun b xs q => by rw [upd_ne (ne_of_none q hn)]; exact q
  frzs := fun b u xs q => by rw [upd_ne (ne_of_none q hn)]; exact q
  tbls := fun b ps q => ⟨#[], by rw [upd_ne (ne_of_none q hn), q]; simp⟩
theorem Un.write (mu : Mut (H x)) (he : e = x ∨ H e = some (.own x)) (k : ∀ b u, b ≠ e → h.get? b = some u → h'.get? b = some u) (heo : ∃ u, h'.get? e = some u) : Un fs ex H (upd H x o) h h' := by
  have hx : ∀ b, H b = none → b ≠ x := fun b n z => by subst z; rw [n] at mu; exact mu
  have hb : ∀ b, H b = none → b ≠ e := fun b n z => by
    subst z
    rcases he with r | r
    · exact hx b n r
    · rw [n] at r; cases r
  have hm : ∀ b u, H b = some u → ¬ Mut (some u) → b ≠ x := fun b u q nm z => by subst z; rw [q] at mu; exact nm mu
  refine ⟨fun b u q n _ _ => k b u (hb b n) q, fun b u q n _ _ => ⟨u.slots, k b u (hb b n) q⟩, fun b u q n _ => by rw [upd_ne (hx b n)]; exact n, fun b u q _ => ?_,
    fun b xs q => by rw [upd_ne (hm b _ q fun z => z)]; exact q, fun b u xs q => by rw [upd_ne (hm b _ q fun z => z)]; exact q, fun b ps q => ⟨#[], by rw [upd_ne (hm b _ q fun z => z), q]; simp⟩⟩
  by_cases hbe : b = e
  · subst hbe; exact heo
  · exact ⟨u, k b u hbe q⟩
end

/-! ### the heap without what is tracked -/
def trk (h : Heap) (H : Hp) : List Addr := (List.range h.objs.size).filter fun a => (H a).isSome
def hidT (h : Heap) (H : Hp) : Heap := PySem.W.hideAll h (trk h H)
theorem hidT_size (h : Heap) (H : Hp) : (hidT h H).objs.size = h.objs.size := PySem.W.hideAll_size _ _
theorem hidT_get {h : Heap} {H : Hp} {b : Addr} {o : Obj} (e : h.get? b = some o) (n : H b = none) : (hidT h H).get? b = some o :=
  PySem.W.hideAll_get _ e fun hm => by
    have q : (H b).isSome = true := (List.mem_filter.mp hm).2
    rw [n] at q; simp at q
theorem of_hidT {h : Heap} {H : Hp} {b : Addr} {o : Obj} (e : (hidT h H).get? b = some o) : h.get? b = some o ∧ H b = none := by
  have e' : h.get? b = some o := PySem.W.of_hideAll (trk h H) e
  refine ⟨e', ?_⟩
  cases q : H b with
  | none => rfl
  | some x =>
    have hm : b ∈ trk h H := List.mem_filter.mpr ⟨List.mem_range.mpr (Heap.lt_size e'), by simp [q]⟩
    have z : (hidT h H).get? b = none := PySem.W.hideAll_none (trk h H) hm
    rw [z] at e; cases e

/-! ### OpenK's ledger, filled with every new object but one -/
end L2

namespace L2
open PySem PySem.Spec PyProof.Rows

/-- the module's facts, over the base: the heap at the law's entry without what is tracked there -/
structure Mod (K : PySem.W.Frag) (mg : Str → Option Value) (base : Heap) : Prop where
  kin : K.In base
  glob : base.Ns mainGlobals mg
  blt : ∃ mb, base.Ns builtinsNs mb ∧ ∀ x : Str, x ≠ "__name__" → mb x = bootBuiltins x
  nolimit : base.NoLimit

/-- the context: a def's body (or a comprehension's block) running. base: fixed through the whole law; s₀, H₀: the entry; outer: the frames whose slots others may change (a def's callers); stack: all frames that run;
   ex: iterators that were made ahead of the entry and are walked here (a comprehension's); fn: the names whose cells were made at the entry (a def: all; a comprehension's block: its own); calm: not within an except suite; pn: pins that every state bears; xe: what is wanted of an exception that leaves the code -/
structure Cx where
  prog : Program
  w : World
  K : PySem.W.Frag
  mg : Str → Option Value
  base : Heap
  A : Around
  N : List Str
  s₀ : Shared
  H₀ : Hp
  env : Env
  outer : List Env
  stack : List Env
  ex : List Addr
  fn : Str → Bool
  calm : Bool
  pn : List (Addr × Obj)
  xe : Value → Shared → Prop
/-- the callers' frames -/
def frs (l : List Env) : List Addr := l.filterMap (·.frame)
abbrev Cx.fs (X : Cx) : List Addr := frs X.outer

def Vis (sc : Scope) (x : Str) : Prop := sc.names.lookup x = some .local ∨ sc.names.lookup x = some .cell ∨ sc.names.lookup x = some .free
def Loc (sc : Scope) (x : Str) : Prop := sc.names.lookup x = some .local ∨ sc.names.lookup x = some .cell
def Look (env : Env) (h : Heap) (m : Str → Option Value) (x : Str) (u : Value) : Prop :=
  (env.kindOf x = some .local ∧ m x = some u) ∨ ((env.kindOf x = some .cell ∨ env.kindOf x = some .free) ∧ ∃ c, env.cells.lookup x = some c ∧ h.IsCell c (some u))

structure Cx.Ok (X : Cx) : Prop where
  mod : Mod X.K X.mg X.base
  kind : X.env.scope.kind = .function
  glob : X.env.globals = mainGlobals
  blt : X.env.builtins = builtinsNs
  above : X.s₀.heap.objs.size ≤ X.env.locals
  inj : ∀ x y c, X.env.cells.lookup x = some c → X.env.cells.lookup y = some c → x = y
  has : ∀ x, (X.env.kindOf x = some .cell ∨ X.env.kindOf x = some .free) → ∃ c, X.env.cells.lookup x = some c
  cab : ∀ x c, X.fn x = true → X.env.cells.lookup x = some c → X.s₀.heap.objs.size ≤ c
  hd : X.calm = true → X.A.handled = none
  frames : X.A.frames = some X.stack
  stk : X.stack = X.outer ∨ (X.stack = X.env :: X.outer ∧ X.env.frame = some X.env.locals)
  exf : ∀ b ∈ X.ex, b ≠ X.env.locals ∧ ∀ x c, X.env.cells.lookup x = some c → c ≠ b
  bs : ∀ b o, X.base.get? b = some o → X.s₀.heap.get? b = some o ∧ X.H₀ b = none
  bsz : X.base.objs.size ≤ X.s₀.heap.objs.size
  noex : ∀ b o, X.base.get? b = some o → b ∉ X.ex
  exfs : ∀ b ∈ X.ex, b ∉ X.fs
  funs : X.s₀.heap.FunFrames X.base X.outer
  frf : ∀ b ∈ X.fs, X.H₀ b = none

structure Inv (X : Cx) (pins : List (Addr × Obj)) (σ : List (Option V)) (H : Hp) (s : Shared) : Prop where
  ok : X.Ok
  os : s.os = X.s₀.os
  bare : AllBare s.gens
  base : Un X.fs X.ex X.H₀ H X.s₀.heap s.heap
  loc : ∃ m, s.heap.Ns X.env.locals m ∧ ∀ (i : Nat) (x : Str) (v : V), X.N[i]? = some x → σ[i]? = some (some v) → Vis X.env.scope x → ∃ u, RelV v u ∧ Look X.env s.heap m x u
  cell : ∀ x c, X.env.cells.lookup x = some c → ∃ v, s.heap.IsCell c v
  free : H X.env.locals = none
  freeC : ∀ x c, X.env.cells.lookup x = some c → H c = none
  pin : ∀ p ∈ X.pn ++ pins, s.heap.get? p.1 = some p.2 ∧ H p.1 = none ∧ p.1 ≠ X.env.locals ∧ p.1 ∉ X.fs ∧ ∀ v, p.2.data ≠ .cell v
  hok : HOk X.prog X.w H s.heap
  len : σ.length = X.N.length

section
variable {X : Cx} {pins : List (Addr × Obj)} {σ : List (Option V)} {H H' : Hp} {s : Shared} {h' : Heap}

theorem Cx.Ok.nofr (ok : X.Ok) {b : Addr} {o : Obj} (e : X.base.get? b = some o) : b ∉ X.fs := fun hb => by
  have := (ok.funs.mem hb).1
  rw [e] at this; cases this
theorem Inv.bs (I : Inv X pins σ H s) : ∀ b o, X.base.get? b = some o → s.heap.get? b = some o ∧ H b = none := fun b o e =>
  ⟨I.base.keep b o (I.ok.bs b o e).1 (I.ok.bs b o e).2 (I.ok.nofr e) (I.ok.noex b o e), I.base.free b o (I.ok.bs b o e).1 (I.ok.bs b o e).2 (I.ok.noex b o e)⟩
theorem Inv.bk (I : Inv X pins σ H s) : ∀ b o, X.base.get? b = some o → s.heap.get? b = some o := fun b o e => (I.bs b o e).1
theorem Inv.mod (I : Inv X pins σ H s) : Mod X.K X.mg X.base := I.ok.mod
theorem Inv.kIn (I : Inv X pins σ H s) : X.K.In s.heap := I.ok.mod.kin.keeps I.bk
theorem Inv.lt (I : Inv X pins σ H s) : X.env.locals < s.heap.objs.size := let ⟨_, hn, _⟩ := I.loc; hn.lt
theorem Inv.sz (I : Inv X pins σ H s) : X.s₀.heap.objs.size ≤ s.heap.objs.size := Nat.le_trans I.ok.above (Nat.le_of_lt I.lt)
theorem Inv.nofs (I : Inv X pins σ H s) {a : Addr} (h : s.heap.objs.size ≤ a) : a ∉ X.fs := fun hb => by
  obtain ⟨_, o, ho, _⟩ := I.ok.funs.mem hb
  exact absurd (Nat.lt_of_lt_of_le (Heap.lt_size ho) (Nat.le_trans I.sz h)) (Nat.lt_irrefl _)
theorem Inv.cne (I : Inv X pins σ H s) : ∀ x c, X.env.cells.lookup x = some c → c ≠ X.env.locals := fun x c e z => by
  obtain ⟨v, o, ho, hd⟩ := I.cell x c e
  obtain ⟨m, ⟨o', es, ep, ho', hd', _⟩, _⟩ := I.loc
  rw [z, ho'] at ho; cases ho; rw [hd'] at hd; cases hd
theorem Inv.funs (I : Inv X pins σ H s) : s.heap.FunFrames X.base X.outer := by
  have all : ∀ (l : List Env), (∀ b ∈ frs l, b ∈ X.fs) → X.s₀.heap.FunFrames X.base l → s.heap.FunFrames X.base l := by
    intro l
    induction l with
    | nil => intro _ _; trivial
    | cons env r ih =>
      intro hs hl
      obtain ⟨hk, ⟨L, o, hf, hn, ho, hd⟩, hr⟩ := hl
      have hL : L ∈ X.fs := hs L (by unfold frs; rw [List.filterMap_cons, hf]; exact List.mem_cons_self)
      obtain ⟨sl, e⟩ := I.base.slot L o ho (I.ok.frf L hL) hL fun z => I.ok.exfs L z hL
      exact ⟨hk, ⟨L, _, hf, hn, e, hd⟩, ih (fun b hb => hs b (by unfold frs; rw [List.filterMap_cons, hf]; exact List.mem_cons_of_mem _ hb)) hr⟩
  exact all X.outer (fun _ hb => hb) I.ok.funs

/-- the frames that run, for a call -/
theorem Inv.stack (I : Inv X pins σ H s) : s.heap.FunFrames X.base X.stack := by
  rcases I.ok.stk with e | ⟨e, hf⟩
  · rw [e]; exact I.funs
  · rw [e]
    obtain ⟨m, hn, _⟩ := I.loc
    refine .cons (by rw [I.ok.kind]; decide) hf hn ?_ I.funs
    exact Heap.get?_none_of_le (Nat.le_trans I.ok.bsz I.ok.above)
theorem Inv.stkSub (I : Inv X pins σ H s) : ∀ b ∈ frs X.stack, b ∈ X.env.locals :: X.fs := fun b hb => by
  rcases I.ok.stk with e | ⟨e, hf⟩
  · rw [e] at hb; exact List.mem_cons_of_mem _ hb
  · rw [e] at hb
    unfold frs at hb
    rw [List.filterMap_cons, hf] at hb
    exact hb
theorem Inv.stkFree (I : Inv X pins σ H s) : ∀ b ∈ frs X.stack, H b = none := fun b hb => by
  rcases List.mem_cons.mp (I.stkSub b hb) with e | hb
  · rw [e]; exact I.free
  · obtain ⟨_, o, ho, _⟩ := I.ok.funs.mem hb
    exact I.base.free b o ho (I.ok.frf b hb) fun z => I.ok.exfs b z hb

/-- THE STEP: the untracked objects but the frame and the records at ch are kept (the callers' frames up to slots), the frame's map is kept, the new abstract heap is held -/
theorem Inv.step {g' : Array GenState} {t' : Nat} {d' : Drawn} {ch : List Addr} (I : Inv X pins σ H s)
    (hch : ∀ b ∈ ch, (b ∈ X.ex ∨ X.s₀.heap.objs.size ≤ b) ∧ b ≠ X.env.locals ∧ (∀ x c, X.env.cells.lookup x = some c → c ≠ b) ∧ ∀ p ∈ X.pn ++ pins, p.1 ≠ b)
    (keep : ∀ b o, b ≠ X.env.locals → b ∉ X.fs → b ∉ ch → s.heap.get? b = some o → H b = none → h'.get? b = some o)
    (slot : ∀ b o, b ≠ X.env.locals → b ∈ X.fs → b ∉ ch → s.heap.get? b = some o → H b = none → ∃ sl, h'.get? b = some { o with slots := sl }) (free : ∀ b o, b ∉ ch → s.heap.get? b = some o → H b = none → H' b = none)
    (there : ∀ b o, b ∉ ch → s.heap.get? b = some o → ∃ o', h'.get? b = some o')
    (tups : ∀ b xs, H b = some (.tup xs) → H' b = some (.tup xs)) (frzs : ∀ b o u, H b = some (.frz o u) → H' b = some (.frz o u)) (tbls : ∀ b ps, H b = some (.tbl ps) → ∃ more, H' b = some (.tbl (ps ++ more)))
    (ns : ∀ m, s.heap.Ns X.env.locals m → h'.Ns X.env.locals m) (hok : HOk X.prog X.w H' h') (hg : AllBare g') :
    Inv X pins σ H' { s with heap := h', gens := g', drawn := d', toks := t' } := by
  have neL : ∀ b o, X.s₀.heap.get? b = some o → b ≠ X.env.locals := fun b o e => Nat.ne_of_lt (Nat.lt_of_lt_of_le (Heap.lt_size e) I.ok.above)
  have neC : ∀ b o, X.s₀.heap.get? b = some o → b ∉ X.ex → b ∉ ch := fun b o e hx hb => by
    rcases (hch b hb).1 with z | z
    · exact hx z
    · exact absurd (Nat.lt_of_lt_of_le (Heap.lt_size e) z) (Nat.lt_irrefl _)
  have cellK : ∀ x c, X.env.cells.lookup x = some c → ∀ v, s.heap.IsCell c v → h'.IsCell c v := fun x c e v ⟨o, ho, hd⟩ => by
    have nch : c ∉ ch := fun z => (hch c z).2.2.1 x c e rfl
    by_cases hc : c ∈ X.fs
    · obtain ⟨sl, q⟩ := slot c o (I.cne x c e) hc nch ho (I.freeC x c e)
      exact ⟨_, q, hd⟩
    · exact ⟨o, keep c o (I.cne x c e) hc nch ho (I.freeC x c e), hd⟩
  refine ⟨I.ok, I.os, hg, ⟨fun b o e n hb hx => ?_, fun b o e n hb hx => ?_, fun b o e n hx => ?_, fun b o e hx => ?_, fun b xs e => tups b xs (I.base.tups b xs e), fun b o xs e => frzs b o xs (I.base.frzs b o xs e), fun b ps e => ?_⟩, ?_, fun x c e => ?_, ?_, fun x c e => ?_, fun p hp => ?_, hok, I.len⟩
  · exact keep b o (neL b o e) hb (neC b o e hx) (I.base.keep b o e n hb hx) (I.base.free b o e n hx)
  · obtain ⟨sl, e1⟩ := I.base.slot b o e n hb hx
    obtain ⟨sl', e2⟩ := slot b _ (neL b o e) hb (neC b o e hx) e1 (I.base.free b o e n hx)
    exact ⟨sl', e2⟩
  · obtain ⟨o', e1⟩ := I.base.there b o e hx
    exact free b o' (neC b o e hx) e1 (I.base.free b o e n hx)
  · obtain ⟨o', e1⟩ := I.base.there b o e hx
    exact there b o' (neC b o e hx) e1
  · obtain ⟨m1, e1⟩ := I.base.tbls b ps e
    obtain ⟨m2, e2⟩ := tbls b _ e1
    exact ⟨m1 ++ m2, by rw [e2, Array.append_assoc]⟩
  · obtain ⟨m, hn, hl⟩ := I.loc
    refine ⟨m, ns m hn, fun i x v e1 e2 e3 => ?_⟩
    obtain ⟨u, r, l⟩ := hl i x v e1 e2 e3
    refine ⟨u, r, ?_⟩
    rcases l with l | ⟨k, c, e, z⟩
    · exact .inl l
    · exact .inr ⟨k, c, e, cellK x c e _ z⟩
  · obtain ⟨v, z⟩ := I.cell x c e
    exact ⟨v, cellK x c e v z⟩
  · obtain ⟨m, ⟨o, _, _, ho, _⟩, _⟩ := I.loc
    exact free _ o (fun z => (hch _ z).2.1 rfl) ho I.free
  · obtain ⟨v, o, ho, hd⟩ := I.cell x c e
    exact free c o (fun z => (hch c z).2.2.1 x c e rfl) ho (I.freeC x c e)
  · obtain ⟨e, n, ne, nf, d⟩ := I.pin p hp
    have nch : p.1 ∉ ch := fun z => (hch p.1 z).2.2.2 p hp rfl
    exact ⟨keep p.1 p.2 ne nf nch e n, free p.1 p.2 nch e n, ne, nf, d⟩
/-- .. where the frame's own object is kept too -/
theorem Inv.un {t' : Nat} (I : Inv X pins σ H s) (u : Un X.fs [] H H' s.heap h') (hok : HOk X.prog X.w H' h') : Inv X pins σ H' { s with heap := h', toks := t' } := by
  obtain ⟨m, ⟨o, es, ep, ho, r⟩, _⟩ := id I.loc
  obtain ⟨sl, hL⟩ := u.any ho I.free (by simp)
  exact I.step (g' := s.gens) (d' := s.drawn) (ch := []) (fun _ z => nomatch z) (fun b o _ hb _ e n => u.keep b o e n hb (by simp)) (fun b o _ hb _ e n => u.slot b o e n hb (by simp)) (fun b o _ e n => u.free b o e n (by simp)) (fun b o _ e => u.there b o e (by simp)) u.tups u.frzs u.tbls (fun m' hm => by
    obtain ⟨o', es', ep', ho', r'⟩ := hm
    rw [ho] at ho'; cases ho'
    exact ⟨_, es', ep', hL, r'⟩) hok I.bare
/-- behind a call (or a comprehension's block): the slots of this frame may have changed too, the records at ch may have turned -/
theorem Inv.call {g' : Array GenState} {t' : Nat} {d' : Drawn} {ch : List Addr} (I : Inv X pins σ H s) (u : Un (frs X.stack) ch H H' s.heap h') (hok : HOk X.prog X.w H' h') (hg : AllBare g')
    (hch : ∀ b ∈ ch, (b ∈ X.ex ∨ X.s₀.heap.objs.size ≤ b) ∧ b ≠ X.env.locals ∧ (∀ x c, X.env.cells.lookup x = some c → c ≠ b) ∧ ∀ p ∈ X.pn ++ pins, p.1 ≠ b) :
    Inv X pins σ H' { s with heap := h', gens := g', drawn := d', toks := t' } := by
  obtain ⟨m, ⟨o, es, ep, ho, r⟩, _⟩ := id I.loc
  obtain ⟨sl, hL⟩ := u.any ho I.free fun z => (hch _ z).2.1 rfl
  exact I.step (ch := ch) hch (fun b o hL hb hc e n => u.keep b o e n (fun z => (List.mem_cons.mp (I.stkSub b z)).elim hL hb) hc) (fun b o _ _ hc e n => u.any e n hc) (fun b o hc e n => u.free b o e n hc) (fun b o hc e => u.there b o e hc) u.tups u.frzs u.tbls (fun m' hm => by
    obtain ⟨o', es', ep', ho', r'⟩ := hm
    rw [ho] at ho'; cases ho'
    exact ⟨_, es', ep', hL, r'⟩) hok hg
/-- an untracked record of ours (an iterator) has turned -/
theorem Inv.turned {t' : Nat} {it : Addr} (I : Inv X pins σ H s) (k : ∀ b o, b ≠ it → s.heap.get? b = some o → h'.get? b = some o) (hn : H it = none) (hL : it ≠ X.env.locals)
    (h1 : it ∈ X.ex ∨ X.s₀.heap.objs.size ≤ it) (h2 : ∀ x c, X.env.cells.lookup x = some c → c ≠ it) (h3 : ∀ p ∈ X.pn ++ pins, p.1 ≠ it) : Inv X pins σ H { s with heap := h', toks := t' } := by
  have nit : ∀ b u, H b = some u → b ≠ it := fun b u e z => by rw [z, hn] at e; cases e
  refine I.step (g' := s.gens) (d' := s.drawn) (ch := [it]) (fun b hb => ?_) (fun b o _ _ hc e _ => k b o (fun z => hc (by simp [z])) e) (fun b o _ _ hc e _ => ⟨o.slots, k b o (fun z => hc (by simp [z])) e⟩) (fun _ _ _ _ n => n)
    (fun b o hc e => ⟨o, k b o (fun z => hc (by simp [z])) e⟩) (fun _ _ e => e) (fun _ _ _ e => e) (fun b ps e => ⟨#[], by rw [e]; simp⟩) (fun m hm => ?_) (fun b u e => ?_) I.bare
  · have e : b = it := by simpa using hb
    subst e
    exact ⟨h1, hL, h2, h3⟩
  · obtain ⟨o, es, ep, ho, r⟩ := hm
    exact ⟨o, es, ep, k _ o (Ne.symm hL) ho, r⟩
  · refine (I.hok b u e).stay (fun c v hc q => k c v ?_ q) (fun _ q => q) fun _ _ q => q
    rcases hc with z | z
    · rw [z]; exact nit b u e
    · exact nit c _ z
theorem Inv.tok (I : Inv X pins σ H s) (t : Nat) : Inv X pins σ H { s with toks := t } := I.un (h' := s.heap) (t' := t) Un.refl I.hok
/-- all objects kept -/
theorem Inv.kept {t' : Nat} (I : Inv X pins σ H s) (k : ∀ b u, s.heap.get? b = some u → h'.get? b = some u) : Inv X pins σ H { s with heap := h', toks := t' } := I.un (Un.kept k) (I.hok.kept k)
/-- a new object laid and tracked -/
theorem Inv.laid {a : Addr} {o : HO} {t' : Nat} (I : Inv X pins σ H s) (k : ∀ b u, s.heap.get? b = some u → h'.get? b = some u) (hp : s.heap.objs.size ≤ a) (new : ObjOk X.prog X.w (upd H a o) h' a o) :
    Inv X pins σ (upd H a o) { s with heap := h', toks := t' } := I.un (Un.laid k hp (I.hok.fresh hp)) (I.hok.laid k hp new)
/-- an object written -/
theorem Inv.write {x e : Addr} {o : HO} {t' : Nat} (I : Inv X pins σ H s) (mu : Mut (H x)) (he : e = x ∨ H e = some (.own x)) (k : ∀ b u, b ≠ e → s.heap.get? b = some u → h'.get? b = some u) (heo : ∃ u, h'.get? e = some u)
    (new : ObjOk X.prog X.w (upd H x o) h' x o) : Inv X pins σ (upd H x o) { s with heap := h', toks := t' } := I.un (Un.write mu he k heo) (I.hok.write mu he k heo new)
theorem Inv.pins_of {pins' : List (Addr × Obj)} (I : Inv X pins σ H s) (h : ∀ p ∈ pins', s.heap.get? p.1 = some p.2 ∧ H p.1 = none ∧ p.1 ≠ X.env.locals ∧ p.1 ∉ X.fs ∧ ∀ v, p.2.data ≠ .cell v) : Inv X pins' σ H s :=
  ⟨I.ok, I.os, I.bare, I.base, I.loc, I.cell, I.free, I.freeC, fun p hp => (List.mem_append.mp hp).elim (fun z => I.pin p (List.mem_append_left _ z)) (h p), I.hok, I.len⟩

theorem nodup_ix {N : List Str} (hN : N.Nodup) {i j : Nat} {x : Str} (a : N[i]? = some x) (b : N[j]? = some x) : i = j := by
  obtain ⟨h1, e1⟩ := List.getElem?_eq_some_iff.mp a
  obtain ⟨h2, e2⟩ := List.getElem?_eq_some_iff.mp b
  exact (List.getElem_inj hN).mp (e1.trans e2.symm)

/-- a name is stored; what changed -/
theorem store_ok2 {M : Model} {A : Around} {E : Value → Shared → Prop} {i : Nat} {x : Str} {v : V} {u : Value} {Q : Unit → Shared → Prop} (I : Inv X pins σ H s) (hN : X.N.Nodup) (hi : X.N[i]? = some x) (hx : Loc X.env.scope x) (r : RelV v u)
    (h : ∀ s', Inv X pins (σ.set i (some v)) H s' → (∃ a, Heap.SameBut a s.heap s'.heap ∧ (a = X.env.locals ∨ X.env.cells.lookup x = some a)) → Q () s') (hf : X.fn x = true ∨ X.env.scope.names.lookup x = some .local := by first | exact .inl rfl | exact .inr rfl | assumption) : wpAny M A (storeName X.env x u) Q E s := by
  obtain ⟨m, hn, hl⟩ := id I.loc
  have hcls : (X.env.scope.kind == .class || (X.env.scope.kind == .module && X.env.locals != X.env.globals)) = false := by rw [I.ok.kind]; rfl
  have hiσ : i < σ.length := by rw [I.len]; exact (List.getElem?_eq_some_iff.mp hi).1
  have cne := I.cne
  have tracked : ∀ {a : Addr} {h' : Heap}, (∃ o, s.heap.get? a = some o ∧ H a = none) → Heap.SameBut a s.heap h' → HOk X.prog X.w H h' := fun {a h'} ha hs b ob e => by
    obtain ⟨_, _, hfree⟩ := ha
    refine (I.hok b ob e).stay (fun c w' hc q => (hs.2 c ?_).trans q) (fun _ q => q) fun _ _ q => q
    rintro rfl
    rcases hc with rfl | hc
    · rw [hfree] at e; cases e
    · rw [hfree] at hc; cases hc
  rcases hx with hk | hk
  · refine wpAny_storeName_local hk hn (fun h' hn' hs => ?_) hcls
    obtain ⟨oL, _, _, hoL, _⟩ := id hn
    refine h _ ⟨I.ok, I.os, I.bare, ⟨fun b o e n hb hx => ?_, fun b o e n hb hx => ?_, I.base.free, fun b o e hx => ?_, I.base.tups, I.base.frzs, I.base.tbls⟩, ⟨_, hn', fun j y v' e1 e2 e3 => ?_⟩, fun y c e => ?_, I.free, I.freeC, fun p hp => ?_, tracked ⟨oL, hoL, I.free⟩ hs, by simpa using I.len⟩ ⟨_, hs, .inl rfl⟩
    · exact (hs.2 b (Nat.ne_of_lt (Nat.lt_of_lt_of_le (Heap.lt_size e) I.ok.above))).trans (I.base.keep b o e n hb hx)
    · obtain ⟨sl, e1⟩ := I.base.slot b o e n hb hx
      exact ⟨sl, (hs.2 b (Nat.ne_of_lt (Nat.lt_of_lt_of_le (Heap.lt_size e) I.ok.above))).trans e1⟩
    · obtain ⟨o', e1⟩ := I.base.there b o e hx
      exact ⟨o', (hs.2 b (Nat.ne_of_lt (Nat.lt_of_lt_of_le (Heap.lt_size e) I.ok.above))).trans e1⟩
    · by_cases hj : j = i
      · subst hj
        rw [hi] at e1; cases e1
        rw [List.getElem?_set_self hiσ] at e2
        cases e2
        exact ⟨u, r, .inl ⟨hk, by simp⟩⟩
      · rw [List.getElem?_set_ne (Ne.symm hj)] at e2
        obtain ⟨u', r', q⟩ := hl j y v' e1 e2 e3
        refine ⟨u', r', ?_⟩
        rcases q with ⟨k, e⟩ | ⟨k, c, e, z⟩
        · refine .inl ⟨k, ?_⟩
          have : y ≠ x := fun e => hj (nodup_ix hN e1 (e ▸ hi))
          simp [this, e]
        · exact .inr ⟨k, c, e, z.sameBut hs (cne y c e)⟩
    · obtain ⟨w', z⟩ := I.cell y c e
      exact ⟨w', z.sameBut hs (cne y c e)⟩
    · obtain ⟨e, n, ne, nf, d⟩ := I.pin p hp
      exact ⟨(hs.2 p.1 ne).trans e, n, ne, nf, d⟩
  · have hfn : X.fn x = true := by
      rcases hf with z | z
      · exact z
      · rw [z] at hk; cases hk
    obtain ⟨c, hc⟩ := I.ok.has x (.inl hk)
    obtain ⟨w', z⟩ := I.cell x c hc
    refine wpAny_storeName_cell I.ok.kind hk hc z (fun h' hc' hs => ?_)
    obtain ⟨oc, hoc, hocd⟩ := id z
    refine h { s with heap := h' } ⟨I.ok, I.os, I.bare, ⟨fun b o e n hb hx => ?_, fun b o e n hb hx => ?_, I.base.free, fun b o e hx => ?_, I.base.tups, I.base.frzs, I.base.tbls⟩, ⟨m, hn.sameBut hs (Ne.symm (cne x c hc)), fun j y v' e1 e2 e3 => ?_⟩, fun y c' e => ?_, I.free, I.freeC, fun p hp => ?_, tracked ⟨oc, hoc, I.freeC x c hc⟩ hs, by simpa using I.len⟩ ⟨c, hs, .inr hc⟩
    · exact (hs.2 b (Nat.ne_of_lt (Nat.lt_of_lt_of_le (Heap.lt_size e) (I.ok.cab x c hfn hc)))).trans (I.base.keep b o e n hb hx)
    · obtain ⟨sl, e1⟩ := I.base.slot b o e n hb hx
      exact ⟨sl, (hs.2 b (Nat.ne_of_lt (Nat.lt_of_lt_of_le (Heap.lt_size e) (I.ok.cab x c hfn hc)))).trans e1⟩
    · obtain ⟨o', e1⟩ := I.base.there b o e hx
      exact ⟨o', (hs.2 b (Nat.ne_of_lt (Nat.lt_of_lt_of_le (Heap.lt_size e) (I.ok.cab x c hfn hc)))).trans e1⟩
    · by_cases hj : j = i
      · subst hj
        rw [hi] at e1; cases e1
        rw [List.getElem?_set_self hiσ] at e2
        cases e2
        exact ⟨u, r, .inr ⟨.inl hk, c, hc, hc'⟩⟩
      · rw [List.getElem?_set_ne (Ne.symm hj)] at e2
        obtain ⟨u', r', q⟩ := hl j y v' e1 e2 e3
        refine ⟨u', r', ?_⟩
        rcases q with q | ⟨k, c', e, z'⟩
        · exact .inl q
        · refine .inr ⟨k, c', e, z'.sameBut hs ?_⟩
          rintro rfl
          exact hj (nodup_ix hN e1 (I.ok.inj _ _ _ e hc ▸ hi))
    · by_cases hcc : c' = c
      · subst hcc; exact ⟨_, hc'⟩
      · obtain ⟨w2, z2⟩ := I.cell y c' e
        exact ⟨w2, z2.sameBut hs hcc⟩
    · obtain ⟨e, n, ne, nf, d⟩ := I.pin p hp
      refine ⟨(hs.2 p.1 ?_).trans e, n, ne, nf, d⟩
      intro q
      rw [q, hoc] at e
      have q' : oc = p.2 := Option.some.inj e
      exact d w' (by rw [← q']; exact hocd)
theorem store_ok {M : Model} {A : Around} {E : Value → Shared → Prop} {i : Nat} {x : Str} {v : V} {u : Value} {Q : Unit → Shared → Prop} (I : Inv X pins σ H s) (hN : X.N.Nodup) (hi : X.N[i]? = some x) (hx : Loc X.env.scope x) (r : RelV v u)
    (h : ∀ s', Inv X pins (σ.set i (some v)) H s' → Q () s') (hf : X.fn x = true ∨ X.env.scope.names.lookup x = some .local := by first | exact .inl rfl | exact .inr rfl | assumption) : wpAny M A (storeName X.env x u) Q E s :=
  store_ok2 I hN hi hx r (fun s' I' _ => h s' I') hf
/-- behind a call or a block, the state as it is -/
theorem Inv.call' {s' : Shared} {ch : List Addr} (I : Inv X pins σ H s) (ho : s'.os = s.os) (u : Un (frs X.stack) ch H H' s.heap s'.heap) (hok : HOk X.prog X.w H' s'.heap) (hg : AllBare s'.gens)
    (hch : ∀ b ∈ ch, (b ∈ X.ex ∨ X.s₀.heap.objs.size ≤ b) ∧ b ≠ X.env.locals ∧ (∀ x c, X.env.cells.lookup x = some c → c ≠ b) ∧ ∀ p ∈ X.pn ++ pins, p.1 ≠ b) : Inv X pins σ H' s' := by
  obtain ⟨h', g', d', t', o'⟩ := s'
  have e : o' = s.os := ho
  subst e
  exact I.call (g' := g') (t' := t') (d' := d') u hok hg hch
end

/-! ### the judgements -/
/-- an exception: its class, its own dict's address (where it has one), the abstract heap behind it -/
abbrev XK := Value → Option Addr → Hp → Prop
abbrev St := List (Option V)
abbrev VK := V → Hp → Prop
/-- an expression's reading; a test's; an argument list's -/
abbrev TE := St → Hp → VK → Prop
abbrev TT := St → Hp → (Bool → Hp → Prop) → Prop
abbrev TA := St → Hp → (List V → Hp → Prop) → Prop
/-- what is wanted behind a statement -/
structure Ends where
  nx : St → Hp → Prop
  rt : VK
  bk : St → Hp → Prop := fun _ _ => False
  ct : St → Hp → Prop := fun _ _ => False
abbrev TS := Ends → St → Hp → Prop

def EP (X : Cx) (pins : List (Addr × Obj)) (σ : St) (Q : VK) (u : Value) (s' : Shared) : Prop := ∃ v H', Inv X pins σ H' s' ∧ RelV v u ∧ Q v H'
def TP (X : Cx) (pins : List (Addr × Obj)) (σ : St) (Q : Bool → Hp → Prop) (b : Bool) (s' : Shared) : Prop := ∃ H', Inv X pins σ H' s' ∧ Q b H'
def AP (X : Cx) (pins : List (Addr × Obj)) (σ : St) (Q : List V → Hp → Prop) (us : List Value) (s' : Shared) : Prop := ∃ vs H', Inv X pins σ H' s' ∧ Vals vs us ∧ Q vs H'
def SP (X : Cx) (pins : List (Addr × Obj)) (D : Ends) (f : Flow) (s' : Shared) : Prop :=
  match f with
  | .next => ∃ σ' H', Inv X pins σ' H' s' ∧ D.nx σ' H'
  | .brk => ∃ σ' H', Inv X pins σ' H' s' ∧ D.bk σ' H'
  | .cont => ∃ σ' H', Inv X pins σ' H' s' ∧ D.ct σ' H'
  | .ret u => ∃ v σ' H', Inv X pins σ' H' s' ∧ RelV v u ∧ D.rt v H'

def PE (X : Cx) (e : Expr) (t : TE) : Prop :=
  ∀ (pins : List (Addr × Obj)) (s : Shared) (σ : St) (H : Hp) (Q : VK), Inv X pins σ H s → t σ H Q → wpAny (model X.prog X.w) X.A (eval e X.env) (EP X pins σ Q) X.xe s
def PT (X : Cx) (e : Expr) (t : TT) : Prop :=
  ∀ (pins : List (Addr × Obj)) (s : Shared) (σ : St) (H : Hp) (Q : Bool → Hp → Prop), Inv X pins σ H s → t σ H Q → wpAny (model X.prog X.w) X.A (isTrue e X.env (eval e X.env)) (TP X pins σ Q) X.xe s
/-- a test whatever its 'whole' is (and, or) -/
def PW (X : Cx) (e : Expr) (t : TT) : Prop :=
  ∀ (whole : Sem Value) (pins : List (Addr × Obj)) (s : Shared) (σ : St) (H : Hp) (Q : Bool → Hp → Prop), Inv X pins σ H s → t σ H Q → wpAny (model X.prog X.w) X.A (isTrue e X.env whole) (TP X pins σ Q) X.xe s
theorem PW.pt {X : Cx} {e : Expr} {t : TT} (h : PW X e t) : PT X e t := h _
/-- an argument list (no star), from the left -/
def PA (X : Cx) (es : List Expr) (t : TA) : Prop :=
  ∀ (pos : Pos) (pins : List (Addr × Obj)) (s : Shared) (σ : St) (H : Hp) (Q : List V → Hp → Prop), Inv X pins σ H s → t σ H Q → wpAny (model X.prog X.w) X.A (spliced (backTo pos (starEach es X.env))) (AP X pins σ Q) X.xe s
def PS (X : Cx) (st : Stmt) (t : TS) : Prop :=
  ∀ (pins : List (Addr × Obj)) (s : Shared) (σ : St) (H : Hp) (D : Ends), Inv X pins σ H s → t D σ H → wpAny (model X.prog X.w) X.A (exec st X.env) (SP X pins D) X.xe s
def PSs (X : Cx) (st : List Stmt) (t : TS) : Prop :=
  ∀ (pins : List (Addr × Obj)) (s : Shared) (σ : St) (H : Hp) (D : Ends), Inv X pins σ H s → t D σ H → wpAny (model X.prog X.w) X.A (execs st X.env) (SP X pins D) X.xe s
/-- weaken the end -/
theorem thn {α : Type} {t : Sem α} {Q Q' : α → Shared → Prop} {M : Model} {A : Around} {E : Value → Shared → Prop} {s : Shared} (h : wpAny M A t Q E s) (hQ : ∀ a s, Q a s → Q' a s) : wpAny M A t Q' E s := wpAny_mono h hQ fun _ _ x => x
end L2

namespace L2
open PySem PySem.Spec PyProof.Rows
section
variable {X : Cx}

/-! ### names and constants -/
def tVar (i : Nat) : TE := fun σ H Q => ∃ v, σ[i]? = some (some v) ∧ Q v H
def tC (v : V) : TE := fun _ H Q => Q v H
theorem pe_var {i : Nat} {x : Str} {pos : Pos} (hN : X.N[i]? = some x) (hv : Vis X.env.scope x) (hd : (x == ("__debug__" : Str)) = false := by decide) (hcd : (x == ("__classdict__" : Str)) = false := by decide) : PE X (.Name x pos) (tVar i) := by
  intro pins s σ H Q I h
  obtain ⟨v, e, h⟩ := h
  obtain ⟨m, hn, hl⟩ := I.loc
  obtain ⟨u, r, l⟩ := hl i x v hN e hv
  have fin : EP X pins σ Q u s := ⟨v, H, I, r, h⟩
  rcases l with ⟨hk, hm⟩ | ⟨hk, c, hc, hcell⟩
  · exact wpAny_Name (wpAny_loadName_local I.ok.kind hk hn hm fin) hd
  · rcases hk with hk | hk
    · exact wpAny_Name (wpAny_loadName_cell I.ok.kind hk hc hcell fin) hd
    · exact wpAny_Name (wpAny_loadName_free I.ok.kind hk hc hcell fin hcd) hd
theorem pe_int {i j pos} : PE X (.Constant (.int i) j pos) (tC (.int i)) := fun _ _ _ H _ I h => wpAny_Constant_int ⟨.int i, H, I.tok _, ⟨_, rfl⟩, h⟩
theorem pe_bl {b j pos} : PE X (.Constant (.bool b) j pos) (tC (.bl b)) := fun _ _ _ H _ I h => Constant_bool ⟨.bl b, H, I, rfl, h⟩
theorem pe_non {j pos} : PE X (.Constant .none j pos) (tC .non) := fun _ _ _ H _ I h => Constant_none ⟨.non, H, I, rfl, h⟩
theorem pe_str {x j pos} : PE X (.Constant (.str x) j pos) (tC (.str x)) := fun _ _ _ H _ I h => Calls.Constant_str ⟨.str x, H, I.tok _, ⟨_, rfl⟩, h⟩

/-- a global name of the def -/
def Gl (X : Cx) (x : Str) : Prop := X.env.kindOf x = some .globalImplicit
theorem ld_glob {E : Value → Shared → Prop} {pins : List (Addr × Obj)} {s : Shared} {σ : St} {H : Hp} {x : Str} {u : Value} {pos : Pos} {Q : Value → Shared → Prop} (I : Inv X pins σ H s) (hg : Gl X x) (hm : X.mg x = some u) (h : Q u s)
    (hd : (x == ("__debug__" : Str)) = false := by decide) : wpAny (model X.prog X.w) X.A (eval (.Name x pos) X.env) Q E s :=
  Calls.Name_function_global I.ok.kind hg (Calls.loadGlobal_global (by rw [I.ok.glob]; exact I.mod.glob.keeps I.bk) hm h) hd
theorem ld_blt {E : Value → Shared → Prop} {pins : List (Addr × Obj)} {s : Shared} {σ : St} {H : Hp} {x : Str} {u : Value} {pos : Pos} {Q : Value → Shared → Prop} (I : Inv X pins σ H s) (hg : Gl X x) (hm : X.mg x = none) (hv : bootBuiltins x = some u) (h : Q u s)
    (hn : x ≠ "__name__" := by decide) (hd : (x == ("__debug__" : Str)) = false := by decide) : wpAny (model X.prog X.w) X.A (eval (.Name x pos) X.env) Q E s := by
  obtain ⟨mb, h1, h2⟩ := I.mod.blt
  exact Calls.Name_function_global I.ok.kind hg (Calls.loadGlobal_builtin (by rw [I.ok.glob]; exact I.mod.glob.keeps I.bk) hm (by rw [I.ok.blt]; exact h1.keeps I.bk) ((h2 x hn).trans hv) h) hd
/-- a module's constant, a class, a function, as a value -/
theorem pe_glob {x : Str} {v : V} {u : Value} {pos : Pos} (hg : Gl X x) (hm : X.mg x = some u) (r : RelV v u) (hd : (x == ("__debug__" : Str)) = false := by decide) : PE X (.Name x pos) (tC v) :=
  fun _ _ _ H _ I h => ld_glob I hg hm ⟨v, H, I, r, h⟩ hd
theorem pe_bltn {x : Str} {v : V} {u : Value} {pos : Pos} (hg : Gl X x) (hm : X.mg x = none) (hv : bootBuiltins x = some u) (r : RelV v u) (hn : x ≠ "__name__" := by decide) (hd : (x == ("__debug__" : Str)) = false := by decide) : PE X (.Name x pos) (tC v) :=
  fun _ _ _ H _ I h => ld_blt I hg hm hv ⟨v, H, I, r, h⟩ hn hd

/-! ### arithmetic -/
variable {a b : Expr} {ta tb : TE} {pos : Pos}
/-! ### comparisons -/
def PC (X : Cx) (op : CmpOp) (a b : Expr) (t : TE) : Prop :=
  ∀ (pins : List (Addr × Obj)) (s : Shared) (σ : St) (H : Hp) (Q : VK), Inv X pins σ H s → t σ H Q →
    wpAny (model X.prog X.w) X.A (eval a X.env) (fun v s₁ => wpAny (model X.prog X.w) X.A (eval b X.env) (fun u s₂ => wpAny (model X.prog X.w) X.A (compareOp op v u) (EP X pins σ Q) X.xe s₂) X.xe s₁) X.xe s
theorem nobehind (b : Expr) {op : CmpOp} (h : op ≠ .In) (h2 : op ≠ .NotIn) : behindInMarks op b = false := by
  have e1 : (op == CmpOp.In) = false := by cases op <;> first | rfl | exact absurd rfl h
  have e2 : (op == CmpOp.NotIn) = false := by cases op <;> first | rfl | exact absurd rfl h2
  cases b <;> simp [behindInMarks, e1, e2]
/-- is None -/
def tIsN (ta : TE) : TE := fun σ H Q => ta σ H fun x H1 => Q (.bl (decide (x = .non))) H1
theorem RelV.none_iff {x : V} {v : Value} (r : RelV x v) : (v == Value.none) = decide (x = .non) := by
  cases x with
  | non => cases r; rfl
  | bl _ => cases r; rfl
  | int _ => obtain ⟨t, rfl⟩ := r; rfl
  | str _ => obtain ⟨t, rfl⟩ := r; rfl
  | byt _ => obtain ⟨t, rfl⟩ := r; rfl
  | flt _ => obtain ⟨t, rfl⟩ := r; rfl
  | ref _ => cases r; rfl
  | ty _ => cases r; rfl
theorem pc_isN {j pos'} (ha : PE X a ta) : PC X .Is a (.Constant .none j pos') (tIsN ta) := by
  intro pins s σ H Q I h
  refine thn (ha pins s σ H _ I h) fun v s1 ⟨x, H1, I1, r1, q1⟩ => ?_
  exact Constant_none (is_none_gen ⟨.bl _, H1, I1, by rw [r1.none_iff]; rfl, q1⟩)
/-- a comparison as a value, as a test -/
def tB (t : TE) : TT := fun σ H Q => t σ H fun x H1 => ∃ c, x = .bl c ∧ Q c H1
theorem pe_cmp {op : CmpOp} {t : TE} (h : PC X op a b t) (h1 : behindInMarks op b = false := by first | exact nobehind _ (by decide) (by decide) | rfl) : PE X (.Compare a [op] [b] pos) t := fun pins s σ H Q I hw => wpAny_Compare1 (h pins s σ H Q I hw) h1
/-- an expression whose value is a bool, as a test -/
theorem pt_val {e : Expr} {t : TE} (h : PE X e t) (he : ∀ whole, isTrue e X.env whole = (do let v ← whole; standAt e.pos; holding [v] (truthy v)) := by intro _; rfl) : PT X e (tB t) := by
  intro pins s σ H Q I hw
  refine isTrue_plain (thn (h pins s σ H _ I hw) fun v s1 ⟨x, H1, I1, r1, q1⟩ => ?_) (he _)
  obtain ⟨d, rfl, q⟩ := q1
  cases r1
  exact wpAny_truthy_bool ⟨H1, I1, q⟩

/-! ### and, or, not -/
variable {tA tB' : TT} {rest : List Expr}
def tAnd (t u : TT) : TT := fun σ H Q => t σ H fun c H1 => if c = true then u σ H1 Q else Q false H1
def tOr (t u : TT) : TT := fun σ H Q => t σ H fun c H1 => if c = true then Q true H1 else u σ H1 Q
def tNot (t : TT) : TT := fun σ H Q => t σ H fun c H1 => Q (!c) H1
theorem pw_and1 (ha : PT X a tA) : PW X (.BoolOp .And [a] pos) tA := by
  intro wh pins s σ H Q I h
  refine isTrue_and (thn (ha pins s σ H Q I h) fun c s1 e => ?_)
  cases c with
  | true => exact isTrue_and_nil e
  | false => exact e
theorem pw_or1 (ha : PT X a tA) : PW X (.BoolOp .Or [a] pos) tA := by
  intro wh pins s σ H Q I h
  refine isTrue_or (thn (ha pins s σ H Q I h) fun c s1 e => ?_)
  cases c with
  | false => exact isTrue_or_nil e
  | true => exact e
theorem pw_and (ha : PT X a tA) (hb : PW X (.BoolOp .And (b :: rest) pos) tB') : PW X (.BoolOp .And (a :: b :: rest) pos) (tAnd tA tB') := by
  intro wh pins s σ H Q I h
  refine isTrue_and (thn (ha pins s σ H _ I h) fun c s1 ⟨H1, I1, q1⟩ => ?_)
  cases c with
  | true => exact hb wh pins s1 σ H1 Q I1 q1
  | false => exact ⟨H1, I1, q1⟩
theorem pw_or (ha : PT X a tA) (hb : PW X (.BoolOp .Or (b :: rest) pos) tB') : PW X (.BoolOp .Or (a :: b :: rest) pos) (tOr tA tB') := by
  intro wh pins s σ H Q I h
  refine isTrue_or (thn (ha pins s σ H _ I h) fun c s1 ⟨H1, I1, q1⟩ => ?_)
  cases c with
  | true => exact ⟨H1, I1, q1⟩
  | false => exact hb wh pins s1 σ H1 Q I1 q1
theorem pt_not (ha : PT X a tA) : PT X (.UnaryOp .Not a pos) (tNot tA) := by
  intro pins s σ H Q I h
  exact isTrue_not (ha pins s σ H (fun c H1 => Q (!c) H1) I h)
/-- .. as values (bools) -/
def tAndV (ta tb : TE) : TE := fun σ H Q => ta σ H fun x H1 => ∃ c, x = .bl c ∧ if c = true then tb σ H1 Q else Q (.bl false) H1
def tOrV (ta tb : TE) : TE := fun σ H Q => ta σ H fun x H1 => ∃ c, x = .bl c ∧ if c = true then Q (.bl true) H1 else tb σ H1 Q
def tNotV (ta : TE) : TE := fun σ H Q => ta σ H fun x H1 => ∃ c, x = .bl c ∧ Q (.bl (!c)) H1
theorem pe_one {op} {t : TE} (h : PE X a t) : PE X (.BoolOp op [a] pos) t := fun pins s σ H Q I hw => BoolOp_one (h pins s σ H Q I hw)
theorem pe_and (ha : PE X a ta) (hb : PE X (.BoolOp .And (b :: rest) pos) tb) : PE X (.BoolOp .And (a :: b :: rest) pos) (tAndV ta tb) := by
  intro pins s σ H Q I h
  refine BoolOp_and (thn (ha pins s σ H _ I h) fun v s1 ⟨x, H1, I1, r1, q1⟩ => ?_)
  obtain ⟨c, rfl, q1⟩ := q1
  cases r1
  refine wpAny_truthy_bool ?_
  cases c with
  | true => exact hb pins s1 σ H1 Q I1 q1
  | false => exact ⟨.bl false, H1, I1, rfl, q1⟩
theorem pe_or (ha : PE X a ta) (hb : PE X (.BoolOp .Or (b :: rest) pos) tb) : PE X (.BoolOp .Or (a :: b :: rest) pos) (tOrV ta tb) := by
  intro pins s σ H Q I h
  refine BoolOp_or (thn (ha pins s σ H _ I h) fun v s1 ⟨x, H1, I1, r1, q1⟩ => ?_)
  obtain ⟨c, rfl, q1⟩ := q1
  cases r1
  refine wpAny_truthy_bool ?_
  cases c with
  | false => exact hb pins s1 σ H1 Q I1 q1
  | true => exact ⟨.bl true, H1, I1, rfl, q1⟩
theorem pe_not (ha : PE X a ta) : PE X (.UnaryOp .Not a pos) (tNotV ta) := by
  intro pins s σ H Q I h
  refine UnaryOp_ (thn (ha pins s σ H _ I h) fun v s1 ⟨x, H1, I1, r1, q1⟩ => ?_)
  obtain ⟨c, rfl, q1⟩ := q1
  cases r1
  exact not_of (wpAny_truthy_bool ⟨.bl (!c), H1, I1, rfl, q1⟩)
/-- a if t else b -/
def tIf (t : TT) (ta tb : TE) : TE := fun σ H Q => t σ H fun c H1 => if c = true then ta σ H1 Q else tb σ H1 Q
theorem pe_ifExp {c : Expr} (hc : PT X c tA) (ha : PE X a ta) (hb : PE X b tb) : PE X (.IfExp c a b pos) (tIf tA ta tb) := by
  intro pins s σ H Q I h
  refine wpAny_IfExp (thn (hc pins s σ H _ I h) fun d s1 ⟨H1, I1, q1⟩ => ?_)
  cases d with
  | true => exact ha pins s1 σ H1 Q I1 q1
  | false => exact hb pins s1 σ H1 Q I1 q1
end
end L2

namespace L2
open PySem PySem.Spec PyProof.Rows

/-! ### a list, a tuple that is read: tracked, frozen, or an object of the module -/
def SqL (K : PySem.W.Frag) (H : Hp) (a : Addr) (xs : List V) : Prop :=
  Rd H a (.lst xs) ∨
    ∃ (o : Obj) (its : Array Value) (n : Nat), K.lookup a = some o ∧ o.cls = .type "list" ∧ o.dict = none ∧ o.data = .seq its n ∧ its.size ≤ sizeLine ∧ Vals xs its.toList
def SqT (K : PySem.W.Frag) (H : Hp) (a : Addr) (xs : List V) : Prop :=
  Rd H a (.tup xs) ∨
    ∃ (o : Obj) (its : Array Value) (n : Nat), K.lookup a = some o ∧ o.cls = .type "tuple" ∧ o.data = .seq its n ∧ its.size ≤ sizeLine ∧ Vals xs its.toList
def absV : Value → Option V
  | .none => some .non
  | .bool b => some (.bl b)
  | .int i _ => some (.int i)
  | .str x _ => some (.str x)
  | .bytes b _ => some (.byt b)
  | .float b _ => some (.flt b)
  | .ref a => some (.ref a)
  | .type n => some (.ty n)
  | _ => none
theorem RelV.abs {x : V} {u : Value} (r : RelV x u) : absV u = some x := by
  cases x with
  | non => cases r; rfl
  | bl _ => cases r; rfl
  | int _ => obtain ⟨t, rfl⟩ := r; rfl
  | str _ => obtain ⟨t, rfl⟩ := r; rfl
  | byt _ => obtain ⟨t, rfl⟩ := r; rfl
  | flt _ => obtain ⟨t, rfl⟩ := r; rfl
  | ref _ => cases r; rfl
  | ty _ => cases r; rfl
theorem RelV.inj {x y : V} {u : Value} (r : RelV x u) (q : RelV y u) : x = y := Option.some.inj (r.abs.symm.trans q.abs)
theorem Vals.inj : ∀ {xs ys : List V} {us : List Value}, Vals xs us → Vals ys us → xs = ys
  | _, _, _, .nil, .nil => rfl
  | _, _, _, .cons r t, .cons r' t' => by rw [r.inj r', Vals.inj t t']
section
variable {X : Cx} {pins : List (Addr × Obj)} {σ : St} {H : Hp} {s : Shared} {a : Addr} {xs ys : List V}
theorem SqL.of {K : PySem.W.Frag} (h : H a = some (.lst xs)) : SqL K H a xs := .inl (.inl h)
theorem SqT.of {K : PySem.W.Frag} (h : H a = some (.tup xs)) : SqT K H a xs := .inl (.inl h)
theorem Inv.list (I : Inv X pins σ H s) (h : SqL X.K H a xs) : ∃ its : List Value, Vals xs its ∧ PlainL s.heap a its.toArray ∧ xs.length ≤ sizeLine := by
  rcases h with h | ⟨o, its, n, hk, hc, hd, hs, hz, r⟩
  · obtain ⟨z, its, n, r, e⟩ := h.ok I.hok
    exact ⟨its, r, ⟨_, n, e, rfl, rfl, rfl⟩, z⟩
  · refine ⟨its.toList, r, ⟨o, n, I.kIn a o hk, hc, hd, by simpa using hs⟩, ?_⟩
    have e := r.length
    simp only [Array.length_toList] at e
    omega
theorem Inv.tuple (I : Inv X pins σ H s) (h : SqT X.K H a xs) : ∃ its : List Value, Vals xs its ∧ IsTup s.heap a its.toArray ∧ xs.length ≤ sizeLine := by
  rcases h with h | ⟨o, its, n, hk, hc, hs, hz, r⟩
  · obtain ⟨z, its, r, p⟩ := h.ok I.hok
    exact ⟨its, r, p, z⟩
  · refine ⟨its.toList, r, ⟨o, I.kIn a o hk, hc, n, by simpa using hs⟩, ?_⟩
    have e := r.length
    simp only [Array.length_toList] at e
    omega
theorem Inv.list_inj (I : Inv X pins σ H s) (h : SqL X.K H a xs) (h' : SqL X.K H a ys) : xs = ys := by
  obtain ⟨its, r, ⟨o, n, e, _, _, d⟩, _⟩ := I.list h
  obtain ⟨its', r', ⟨o', n', e', _, _, d'⟩, _⟩ := I.list h'
  rw [e] at e'; cases e'
  rw [d] at d'
  injection d' with d1 _
  have : its = its' := by simpa using congrArg Array.toList d1
  subst this
  exact r.inj r'
end

/-! ### another wish about exceptions -/
abbrev Cx.wish (X : Cx) (E : Value → Shared → Prop) : Cx := { X with xe := E }
/-- no exception leaves -/
abbrev Cx.nox (X : Cx) : Cx := X.wish fun _ _ => False
theorem Cx.Ok.wish {X : Cx} (ok : X.Ok) (E : Value → Shared → Prop) : (X.wish E).Ok :=
  ⟨ok.mod, ok.kind, ok.glob, ok.blt, ok.above, ok.inj, ok.has, ok.cab, ok.hd, ok.frames, ok.stk, ok.exf, ok.bs, ok.bsz, ok.noex, ok.exfs, ok.funs, ok.frf⟩
theorem Cx.Ok.unwish {X : Cx} {E : Value → Shared → Prop} (ok : (X.wish E).Ok) : X.Ok :=
  ⟨ok.mod, ok.kind, ok.glob, ok.blt, ok.above, ok.inj, ok.has, ok.cab, ok.hd, ok.frames, ok.stk, ok.exf, ok.bs, ok.bsz, ok.noex, ok.exfs, ok.funs, ok.frf⟩
section
variable {X : Cx} {pins : List (Addr × Obj)} {σ : St} {H : Hp} {s : Shared} {E : Value → Shared → Prop}
theorem Inv.wish (I : Inv X pins σ H s) (E : Value → Shared → Prop) : Inv (X.wish E) pins σ H s := ⟨I.ok.wish E, I.os, I.bare, I.base, I.loc, I.cell, I.free, I.freeC, I.pin, I.hok, I.len⟩
theorem Inv.unwish (I : Inv (X.wish E) pins σ H s) : Inv X pins σ H s := ⟨I.ok.unwish, I.os, I.bare, I.base, I.loc, I.cell, I.free, I.freeC, I.pin, I.hok, I.len⟩
theorem SP.unwish {D : Ends} {f : Flow} {s' : Shared} (h : SP (X.wish E) pins D f s') : SP X pins D f s' := by
  cases f with
  | next => obtain ⟨σ', H', I, q⟩ := h; exact ⟨σ', H', I.unwish, q⟩
  | brk => obtain ⟨σ', H', I, q⟩ := h; exact ⟨σ', H', I.unwish, q⟩
  | cont => obtain ⟨σ', H', I, q⟩ := h; exact ⟨σ', H', I.unwish, q⟩
  | ret u => obtain ⟨v, σ', H', I, r, q⟩ := h; exact ⟨v, σ', H', I.unwish, r, q⟩
theorem PSs.nox {st : List Stmt} {t : TS} (h : PSs X.nox st t) : PSs X st t := fun pins s σ H D I hw =>
  wpAny_mono (h pins s σ H D (I.wish _) hw) (fun _ _ q => q.unwish) fun _ _ z => False.elim z
end

/-! ### blocks and small statements -/
section
variable {X : Cx} {st : Stmt} {rest : List Stmt} {t u : TS} {e : Expr} {te : TE} {pos : Pos}
def tNext : TS := fun D σ H => D.nx σ H
def tSeq (t u : TS) : TS := fun D σ H => t { D with nx := u D } σ H
theorem pss_nil : PSs X [] tNext := fun _ _ σ H _ I h => wpAny_execs_nil ⟨σ, H, I, h⟩
theorem pss_cons (h1 : PS X st t) (h2 : PSs X rest u) : PSs X (st :: rest) (tSeq t u) := by
  intro pins s σ H D I h
  refine wpAny_execs_cons (thn (h1 pins s σ H { D with nx := u D } I h) fun f s1 q => ?_)
  cases f with
  | next =>
    obtain ⟨σ', H', I', q⟩ := q
    exact h2 pins s1 σ' H' D I' q
  | ret v => exact q
  | brk => exact q
  | cont => exact q
theorem pss_one (h1 : PS X st t) : PSs X [st] t := by
  intro pins s σ H D I h
  refine wpAny_execs_cons (thn (h1 pins s σ H D I h) fun f s1 q => ?_)
  cases f with
  | next => exact wpAny_execs_nil q
  | ret v => exact q
  | brk => exact q
  | cont => exact q
/-- in a def's body nothing is shown -/
theorem Inv.quiet {pins : List (Addr × Obj)} {σ : St} {H : Hp} {s : Shared} (I : Inv X pins σ H s) : interactive X.env = false := by simp [interactive, I.ok.kind]
/-- an expression whose value is dropped -/
def tDrop (te : TE) : TS := fun D σ H => te σ H fun _ H1 => D.nx σ H1
theorem ps_expr (he : PE X e te) (hs : swapsWith e none pos.line X.env = pure false := by rfl) : PS X (.Expr e pos) (tDrop te) := by
  intro pins s σ H D I h
  exact wpAny_Expr_any (thn (he pins s σ H _ I h) fun v s1 ⟨x, H1, I1, r1, q1⟩ => ⟨σ, H1, I1, q1⟩) I.quiet hs
def tRet (te : TE) : TS := fun D σ H => te σ H D.rt
theorem ps_ret (he : PE X e te) : PS X (.Return (some e) pos) (tRet te) := by
  intro pins s σ H D I h
  exact wpAny_Return_some (thn (he pins s σ H _ I h) fun v s1 ⟨x, H1, I1, r1, q1⟩ => ⟨x, σ, H1, I1, r1, q1⟩)
def tIfS (c : TT) (t u : TS) : TS := fun D σ H => c σ H fun b H1 => if b = true then t D σ H1 else u D σ H1
theorem ps_if {c : Expr} {a b : List Stmt} {tc : TT} (hc : PT X c tc) (ha : PSs X a t) (hb : PSs X b u) : PS X (.If c a b pos) (tIfS tc t u) := by
  intro pins s σ H D I h
  refine wpAny_If (thn (hc pins s σ H _ I h) fun d s1 ⟨H1, I1, q1⟩ => ?_)
  cases d with
  | true => exact ha pins s1 σ H1 D I1 q1
  | false => exact hb pins s1 σ H1 D I1 q1
/-- code that the proof never comes to -/
def tNever : TS := fun _ _ _ => False
theorem ps_never : PS X st tNever := fun _ _ _ _ _ _ h => h.elim
theorem pss_never {sts : List Stmt} : PSs X sts tNever := fun _ _ _ _ _ _ h => h.elim
end

/-! ### targets -/
abbrev TG := V → St → Hp → (St → Hp → Prop) → Prop
abbrev TGs := List V → St → Hp → (St → Hp → Prop) → Prop
def PG (X : Cx) (target : Expr) (t : TG) : Prop :=
  ∀ (pins : List (Addr × Obj)) (s : Shared) (σ : St) (H : Hp) (v : V) (u : Value) (Q : St → Hp → Prop), Inv X pins σ H s → RelV v u → t v σ H Q →
    wpAny (model X.prog X.w) X.A (assign target X.env u) (fun _ s' => ∃ σ' H', Inv X pins σ' H' s' ∧ Q σ' H') X.xe s
/-- several targets, one after another -/
def PGs (X : Cx) (ts : List Expr) (t : TGs) : Prop :=
  ∀ (pins : List (Addr × Obj)) (s : Shared) (σ : St) (H : Hp) (vs : List V) (us : List Value) (Q : St → Hp → Prop), Inv X pins σ H s → Vals vs us → t vs σ H Q →
    wpAny (model X.prog X.w) X.A (assignInOrder ((assignEach ts X.env).map (·.2)) us) (fun _ s' => ∃ σ' H', Inv X pins σ' H' s' ∧ Q σ' H') X.xe s
/-- o[i] = v, by values -/
abbrev TSet := V → V → V → Hp → (Hp → Prop) → Prop
def PSet (X : Cx) (t : TSet) : Prop :=
  ∀ (pins : List (Addr × Obj)) (s : Shared) (σ : St) (H : Hp) (o i v : V) (ov iv u : Value) (Q : Hp → Prop), Inv X pins σ H s → RelV o ov → RelV i iv → RelV v u → t o i v H Q →
    wpAny (model X.prog X.w) X.A (setItem ov iv u) (fun _ s' => ∃ H', Inv X pins σ H' s' ∧ Q H') X.xe s
section
variable {X : Cx} {pos : Pos}
def gName (i : Nat) : TG := fun v σ H Q => Q (σ.set i (some v)) H
theorem pg_name {i : Nat} {x : Str} (hN : X.N.Nodup) (hi : X.N[i]? = some x) (hx : Loc X.env.scope x) (hf : X.fn x = true ∨ X.env.scope.names.lookup x = some .local := by first | exact .inl rfl | exact .inr rfl | assumption) : PG X (.Name x pos) (gName i) := by
  intro pins s σ H v u Q I r h
  exact wpAny_assign_Name (store_ok I hN hi hx r (fun s' I' => ⟨_, H, I', h⟩) hf)
def gNil : TGs := fun vs σ H Q => vs = [] ∧ Q σ H
def gCons (t : TG) (u : TGs) : TGs := fun vs σ H Q => ∃ v r, vs = v :: r ∧ t v σ H fun σ' H' => u r σ' H' Q
theorem pgs_nil : PGs X [] gNil := by
  intro pins s σ H vs us Q I r h
  obtain ⟨e, h⟩ := h
  subst e
  cases r
  exact assignInOrder_nil ⟨σ, H, I, h⟩
theorem pgs_cons {e : Expr} {es : List Expr} {t : TG} {u : TGs} (h1 : PG X e t) (h2 : PGs X es u)
    (hs : (assignEach (e :: es) X.env).map (·.2) = assign e X.env :: (assignEach es X.env).map (·.2) := by rfl) : PGs X (e :: es) (gCons t u) := by
  intro pins s σ H vs us Q I r h
  obtain ⟨v, vr, e1, h⟩ := h
  subst e1
  cases r with
  | cons r rr =>
    rw [hs]
    refine assignInOrder_cons (thn (h1 pins s σ H _ _ _ I r h) fun _ s1 ⟨σ1, H1, I1, q1⟩ => ?_)
    exact h2 pins s1 σ1 H1 _ _ Q I1 rr q1
/-- (a, b, ..) = a tuple of that length -/
def gTup (K : PySem.W.Frag) (n : Nat) (t : TGs) : TG := fun v σ H Q => ∃ a xs, v = .ref a ∧ SqT K H a xs ∧ xs.length = n ∧ t xs σ H Q
theorem pg_tup {es : List Expr} {k : Nat} {t : TGs} {n : Nat} (hc : X.calm = true) (h : PGs X es t)
    (hn : (assignEach es X.env).length = n := by rfl) (hst : (assignEach es X.env).findIdx? (·.1) = none := by rfl) : PG X (.Tuple es k pos) (gTup X.K n t) := by
  intro pins s σ H v u Q I r hw
  obtain ⟨a, xs, e1, hq, hl, hw⟩ := hw
  subst e1
  cases r
  obtain ⟨its, rv, ht, hz⟩ := I.tuple hq
  refine assign_Tuple_tuple (I.ok.hd hc) ht (by simp [hn, ← hl, rv.length]) hst fun h' hx => ?_
  have I1 : Inv X pins σ H { s with heap := h' } := I.kept (t' := s.toks) fun b o e => hx b o (Nat.ne_of_lt (Heap.lt_size e)) e
  exact h pins _ σ H xs _ Q I1 (by simpa using rv) hw
/-- o[i] = .. -/
def gSub (to ti : TE) (t : TSet) : TG := fun v σ H Q => to σ H fun o H1 => ti σ H1 fun i H2 => t o i v H2 fun H3 => Q σ H3
theorem pg_sub {o i : Expr} {to ti : TE} {t : TSet} (ho : PE X o to) (hi : PE X i ti) (hs : PSet X t)
    (ha : ∀ v, assign (.Subscript o i pos) X.env v = (do
      let ov ← holding [v] (eval o X.env)
      let iv ← holding [v, ov] (eval i X.env)
      standAt pos
      holding [v, ov, iv] (setItem ov iv v)
      release [v, ov, iv] []) := by intro _; rfl) : PG X (.Subscript o i pos) (gSub to ti t) := by
  intro pins s σ H v u Q I r h
  rw [ha]
  refine wpAny_bind (wpAny_holding (thn (ho pins s σ H _ I h) fun ov s1 ⟨x, H1, I1, r1, q1⟩ => ?_))
  refine wpAny_bind (wpAny_holding (thn (hi pins s1 σ H1 _ I1 q1) fun iv s2 ⟨y, H2, I2, r2, q2⟩ => ?_))
  refine wpAny_bind (wpAny_standAt (wpAny_bind (wpAny_holding (thn (hs pins s2 σ H2 x y v ov iv u _ I2 r1 r2 r q2) fun _ s3 ⟨H3, I3, q3⟩ => ?_))))
  exact wpAny_release ⟨σ, H3, I3, q3⟩
/-- target = value -/
def tAsg (te : TE) (g : TG) : TS := fun D σ H => te σ H fun x H1 => g x σ H1 D.nx
theorem ps_asg {tg e : Expr} {te : TE} {g : TG} (he : PE X e te) (hg : PG X tg g) (hs : swapsWithSole [tg] e pos.line X.env = pure false := by rfl) (hw : swappedStores [tg] e X.env = pure none := by rfl)
    (h1 : (assignEach [tg] X.env).map (·.2) = [assign tg X.env] := by rfl) : PS X (.Assign [tg] e pos) (tAsg te g) := by
  intro pins s σ H D I h
  refine wpAny_Assign_stores (thn (he pins s σ H _ I h) fun v s1 ⟨x, H1, I1, r1, q1⟩ => ?_) hs hw
  rw [h1]
  exact thn (hg pins s1 σ H1 x v _ I1 r1 q1) fun _ s2 q => q
/-- name = value -/
theorem ps_set {i : Nat} {x : Str} {e : Expr} {te : TE} {pos' : Pos} (hN : X.N.Nodup) (hi : X.N[i]? = some x) (hx : Loc X.env.scope x) (he : PE X e te) (hs : swapsWith e (some (.Name x pos')) pos.line X.env = pure false := by rfl) (hf : X.fn x = true ∨ X.env.scope.names.lookup x = some .local := by first | exact .inl rfl | exact .inr rfl | assumption) :
    PS X (.Assign [.Name x pos'] e pos) (tAsg te (gName i)) := by
  intro pins s σ H D I h
  refine wpAny_Assign_Name (thn (he pins s σ H _ I h) fun v s1 ⟨y, H1, I1, r1, q1⟩ => ?_) hs
  exact store_ok I1 hN hi hx r1 (fun s2 I2 => ⟨_, H1, I2, q1⟩) hf
end

/-! ### while -/
section
variable {X : Cx} {pos : Pos}
/-- the invariant W with its measure -/
def tWhile (c : TT) (tb : TS) : TS := fun D σ H => ∃ W : Nat → St → Hp → Prop, (∃ m, W m σ H) ∧ ∀ m σ H, W m σ H →
  c σ H fun b H1 => if b = true then ∃ N : St → Hp → Prop, (∀ σ' H', N σ' H' → ∃ m', m' < m ∧ W m' σ' H') ∧ tb { D with nx := N, ct := N, bk := D.nx } σ H1 else D.nx σ H1
theorem ps_while {c : Expr} {body : List Stmt} {tc : TT} {tb : TS} (hp : PassesOwn (model X.prog X.w) X.A X.env X.xe) (hc : PT X c tc) (hb : PSs X body tb) : PS X (.While c body [] pos) (tWhile tc tb) := by
  intro pins s σ H D I h
  obtain ⟨W, ⟨m0, w0⟩, turn⟩ := h
  refine wpAny_While (codeAny_whileLoop (fun n s' => ∃ σ' H', Inv X pins σ' H' s' ∧ W n σ' H') ?_ m0 ⟨σ, H, I, w0⟩)
  rintro n s1 ⟨σ1, H1, I1, w1⟩
  refine wpAny_passesOwn hp (thn (hc pins s1 σ1 H1 _ I1 (turn n σ1 H1 w1)) fun b s2 ⟨H2, I2, q2⟩ => ?_)
  cases b with
  | true =>
    obtain ⟨N, hN, q2⟩ := q2
    rw [if_pos rfl]
    refine wpAny_passesOwn hp (thn (hb pins s2 σ1 H2 _ I2 q2) fun f s3 q3 => ?_)
    cases f with
    | next =>
      obtain ⟨σ3, H3, I3, n3⟩ := q3
      obtain ⟨m', hm, w3⟩ := hN σ3 H3 n3
      exact ⟨m', hm, σ3, H3, I3, w3⟩
    | cont =>
      obtain ⟨σ3, H3, I3, n3⟩ := q3
      obtain ⟨m', hm, w3⟩ := hN σ3 H3 n3
      exact ⟨m', hm, σ3, H3, I3, w3⟩
    | brk => exact q3
    | ret v => exact q3
  | false =>
    rw [if_neg Bool.false_ne_true]
    exact wpAny_execs_nil ⟨σ1, H2, I2, q2⟩
end

/-! ### what a loop or a comprehension walks -/
/-- at turn i: it yields x (the heap may grow), or it stops -/
structure It where
  go : Nat → Hp → Prop
  yld : Nat → Hp → V → Hp → Prop
  stop : Nat → Hp → Prop
/-- the iterator's own objects may turn: they are not the frame's, not pinned, younger than the entry (or a comprehension's own) -/
def FpOk (X : Cx) (pins : List (Addr × Obj)) (H : Hp) (b : Addr) : Prop :=
  H b = none ∧ b ≠ X.env.locals ∧ b ∉ X.fs ∧ (b ∈ X.ex ∨ X.s₀.heap.objs.size ≤ b) ∧ (∀ x c, X.env.cells.lookup x = some c → c ≠ b) ∧ ∀ p ∈ X.pn ++ pins, p.1 ≠ b
theorem Inv.fpOk {X : Cx} {pins : List (Addr × Obj)} {σ : St} {H H' : Hp} {s : Shared} {b : Addr} (I : Inv X pins σ H s) (hb : s.heap.objs.size ≤ b) (hn : H' b = none) : FpOk X pins H' b := by
  refine ⟨hn, Nat.ne_of_gt (Nat.lt_of_lt_of_le I.lt hb), I.nofs hb, .inr (Nat.le_trans I.sz hb), fun x c e z => ?_, fun p hp z => ?_⟩
  · obtain ⟨v, q⟩ := I.cell x c e
    exact absurd (Nat.lt_of_lt_of_le q.lt (by rw [z]; exact hb)) (Nat.lt_irrefl _)
  · exact absurd (Nat.lt_of_lt_of_le (Heap.lt_size (I.pin p hp).1) (by rw [z]; exact hb)) (Nat.lt_irrefl _)
structure Turn (P : Program) (w : World) (K : PySem.W.Frag) (tg : Expr) (J : It) (fp : List Addr) (it : Addr) (tn : Nat → Heap → Prop) : Prop where
  mem : it ∈ fp
  obj : ∀ i h, tn i h → ∀ b ∈ fp, ∃ o, h.get? b = some o ∧ ∀ v, o.data ≠ .cell v
  keep : ∀ i h h', tn i h → (∀ b ∈ fp, ∀ o, h.get? b = some o → h'.get? b = some o) → tn i h'
  item : ∀ (X : Cx), X.prog = P → X.w = w → X.K = K → X.calm = true → ∀ (i : Nat) (pins : List (Addr × Obj)) (s : Shared) (σ : St) (H : Hp) (E : Value → Shared → Prop), Inv X pins σ H s → (∀ b ∈ fp, FpOk X pins H b) → tn i s.heap → J.go i H →
    wpAny (model P w) X.A (pyNext (.ref it)) (fun r s1 => ∃ u, r = some u ∧
      wpAny (model P w) X.A (letOwnedTupleGo tg (.ref it) u) (fun _ s2 => ∃ x H', Inv X pins σ H' s2 ∧ RelV x u ∧ J.yld i H x H' ∧ tn (i + 1) s2.heap ∧ ∀ b ∈ fp, H' b = none) E s1) E s
  done : ∀ (X : Cx), X.prog = P → X.w = w → X.K = K → X.calm = true → ∀ (i : Nat) (pins : List (Addr × Obj)) (s : Shared) (σ : St) (H : Hp) (E : Value → Shared → Prop), Inv X pins σ H s → (∀ b ∈ fp, FpOk X pins H b) → tn i s.heap → J.stop i H →
    wpAny (model P w) X.A (pyNext (.ref it)) (fun r s1 => r = none ∧ Inv X pins σ H s1) E s
  self : ∀ (A : Around) (i : Nat) (s : Shared) (Q : Value → Shared → Prop) (E : Value → Shared → Prop), tn i s.heap → Q (.ref it) s → wpAny (model P w) A (pyIter (.ref it)) Q E s
abbrev TI := St → Hp → (It → Hp → Prop) → Prop
/-- an iterator has come -/
def PIE (X : Cx) (pins : List (Addr × Obj)) (σ : St) (tg : Expr) (R : It → Hp → Prop) (itv : Value) (s2 : Shared) : Prop :=
  ∃ (it : Addr) (fp : List Addr) (tn : Nat → Heap → Prop) (J : It) (H' : Hp), itv = .ref it ∧ Inv X pins σ H' s2 ∧ Turn X.prog X.w X.K tg J fp it tn ∧ tn 0 s2.heap ∧ (∀ b ∈ fp, FpOk X pins H' b) ∧ R J H'
def PI (X : Cx) (tg iter : Expr) (wi : TI) : Prop :=
  ∀ (pins : List (Addr × Obj)) (s : Shared) (σ : St) (H : Hp) (R : It → Hp → Prop), Inv X pins σ H s → wi σ H R →
    wpAny (model X.prog X.w) X.A (eval iter X.env) (fun v s1 => wpAny (model X.prog X.w) X.A (pyIter v) (PIE X pins σ tg R) X.xe s1) X.xe s

/-- the step ahead of the store is nothing for an iterator that keeps no tuple -/
theorem go_of {M : Model} {A : Around} {E : Value → Shared → Prop} {s : Shared} {tg : Expr} {it : Addr} {u : Value} {o : Obj} {n : String} {vs : Array Value} {Q : Unit → Shared → Prop} (ho : s.heap.get? it = some o) (hc : o.cls = .type n) (hd : o.data = .fields vs)
    (hn : ["enumerate", "zip", "dict_itemiterator", "dict_reverseitemiterator", "odict_iterator", "itertools.zip_longest", "itertools.pairwise"].contains n = false) (hQ : Q () s) : wpAny M A (letOwnedTupleGo tg (.ref it) u) Q E s := by
  unfold letOwnedTupleGo
  cases tg <;> first
    | exact wpAny_pure hQ
    | (cases u <;> first
        | exact wpAny_pure hQ
        | (refine wpAny_bind (wpAny_load ho ?_)
           rw [hc, hd]
           show wpAny M A (if (["enumerate", "zip", "dict_itemiterator", "dict_reverseitemiterator", "odict_iterator", "itertools.zip_longest", "itertools.pairwise"].contains n && vs[0]? == some (rawInt _)) = true then _ else _) Q E s
           rw [if_neg (by intro h; rw [hn, Bool.false_and] at h; cases h)]
           exact wpAny_pure hQ))

/-- the list at a, as it stands at each turn (a loop may append to it) -/
def Itl (K : PySem.W.Frag) (a : Addr) : It :=
  ⟨fun i H => ∃ xs x, SqL K H a xs ∧ xs[i]? = some x, fun i H x H' => H' = H ∧ ∀ xs, SqL K H a xs → xs[i]? = some x, fun i H => ∃ xs, SqL K H a xs ∧ xs.length ≤ i⟩
/-- lo, lo + 1, .. (n of them) -/
def Itr (lo : Int) (n : Nat) : It := ⟨fun i _ => i < n, fun i H x H' => H' = H ∧ x = .int (lo + i), fun i _ => n ≤ i⟩
theorem turn_list {P : Program} {w : World} {K : PySem.W.Frag} {tg : Expr} (a it : Addr) : Turn P w K tg (Itl K a) [it] it (fun i h => h.IsListIter it a i) where
  mem := by simp
  obj := fun i h st b hb => by
    have e : b = it := by simpa using hb
    subst e
    obtain ⟨o, e, c, d⟩ := st
    exact ⟨o, e, fun v z => by rw [d] at z; cases z⟩
  keep := fun i h h' st k => st.at fun o e => k it (by simp) o e
  item := by
    intro X hP hw hK hc i pins s σ H E I hf st hg
    subst hP hw hK
    obtain ⟨xs, x, hq, hx⟩ := hg
    obtain ⟨its, rv, p, hz⟩ := I.list hq
    obtain ⟨u, hu, ru⟩ := rv.get hx
    obtain ⟨f0, f1, f2, f3, f4, f5⟩ := hf it (by simp)
    refine wpAny_pyNext_list_item st p.isList (x := u) (by simpa using hu) fun h' st' sb => ?_
    have I1 : Inv X pins σ H { s with heap := h' } := I.turned (t' := s.toks) (fun b o hb e => (sb.2 b hb).trans e) f0 f1 f3 f4 f5
    obtain ⟨o, e, c, d⟩ := id st'
    exact ⟨u, rfl, go_of (s := { s with heap := h' }) e c d (by decide) ⟨x, H, I1, ru, ⟨rfl, fun ys hy => by rw [I.list_inj hy hq]; exact hx⟩, st', fun b hb => (hf b hb).1⟩⟩
  done := by
    intro X hP hw hK hc i pins s σ H E I hf st hg
    subst hP hw hK
    obtain ⟨xs, hq, hx⟩ := hg
    obtain ⟨its, rv, p, hz⟩ := I.list hq
    obtain ⟨f0, f1, f2, f3, f4, f5⟩ := hf it (by simp)
    have hl := rv.length
    exact wpAny_pyNext_list_end (I.ok.hd hc) st p.isList (by simp; omega) fun h' eb => ⟨rfl, I.turned (t' := s.toks) (fun b o hb e => eb b o hb e) f0 f1 f3 f4 f5⟩
  self := fun _ _ _ _ _ st h => wpAny_pyIter_listiter st h
theorem turn_range {P : Program} {w : World} {K : PySem.W.Frag} {tg : Expr} (it : Addr) (lo : Int) (n : Nat) : Turn P w K tg (Itr lo n) [it] it (fun i h => IsRangeIter h it (lo + (i : Nat) * 1) ((n : Int) - (i : Nat)) 1) where
  mem := by simp
  obj := fun i h st b hb => by
    have e : b = it := by simpa using hb
    subst e
    exact ⟨_, st, fun v z => by
      have z' : Data.fields _ = Data.cell v := z
      cases z'⟩
  keep := fun i h h' st k => k it (by simp) _ st
  item := by
    intro X hP hw hK hc i pins s σ H E I hf st hg
    subst hP hw hK
    obtain ⟨f0, f1, f2, f3, f4, f5⟩ := hf it (by simp)
    have W := Walks.range (prog := X.prog) (w := X.w) (I.ok.hd hc) it lo 1 n
    refine W.item i s _ _ hg st fun v h' tk hv st' kk => ?_
    obtain ⟨t, rfl⟩ := hv
    have I1 : Inv X pins σ H { s with heap := h', toks := tk } := I.turned (fun b o hb e => kk b o (by simpa using hb) e) f0 f1 f3 f4 f5
    refine ⟨_, rfl, go_of (s := { s with heap := h', toks := tk }) (n := "range_iterator") st' rfl rfl (by decide) ⟨.int (lo + i), H, I1, ⟨t, ?_⟩, ⟨rfl, rfl⟩, st', fun b hb => (hf b hb).1⟩⟩
    rw [Int.mul_one]
  done := by
    intro X hP hw hK hc i pins s σ H E I hf st hg
    subst hP hw hK
    obtain ⟨f0, f1, f2, f3, f4, f5⟩ := hf it (by simp)
    exact wpAny_pyNext_range_end (I.ok.hd hc) st (by have : n ≤ i := hg; omega) fun h' eb => ⟨rfl, I.turned (t' := s.toks) (fun b o hb e => eb b o hb e) f0 f1 f3 f4 f5⟩
  self := fun _ _ _ _ _ st h => wpAny_pyIter_rangeiter st h
end L2

namespace L2
open PySem PySem.Spec PyProof.Rows
section
variable {X : Cx} {tg : Expr}
def iList (K : PySem.W.Frag) (tl : TE) : TI := fun σ H R => tl σ H fun x H1 => ∃ a, x = .ref a ∧ (∃ xs, SqL K H1 a xs) ∧ R (Itl K a) H1
theorem pi_list {l : Expr} {tl : TE} (hl : PE X l tl) : PI X tg l (iList X.K tl) := by
  intro pins s σ H R I h
  refine thn (hl pins s σ H _ I h) fun v s1 ⟨x, H1, I1, r1, q1⟩ => ?_
  obtain ⟨a, e, ⟨xs, hq⟩, q⟩ := q1
  subst e
  cases r1
  obtain ⟨its, rv, p, hz⟩ := I1.list hq
  refine wpAny_pyIter_list p.isList ?_
  refine ⟨s1.heap.objs.size, [s1.heap.objs.size], _, _, H1, rfl, I1.kept (t' := s1.toks) fun b o e => Heap.get?_push_of_some _ e, turn_list a _, ⟨_, Heap.get?_push_size _ rfl, rfl, rfl⟩, fun b hb => ?_, q⟩
  have e : b = s1.heap.objs.size := by simpa using hb
  subst e
  exact I1.fpOk (Nat.le_refl _) (I1.hok.fresh (Nat.le_refl _))
/-- a range object just made, walked -/
theorem range_it {pins : List (Addr × Obj)} {σ : St} {H : Hp} {s : Shared} {R : It → Hp → Prop} {E : Value → Shared → Prop} {lo hi : Int} {t u v : Tok} {tk : Nat} (I : Inv X pins σ H s) (h1 : -(2 ^ 62) ≤ lo) (h2 : lo < 2 ^ 62) (h3 : -(2 ^ 62) ≤ hi) (h4 : hi < 2 ^ 62)
    (q : R (Itr lo (hi - lo).toNat) H) : wpAny (model X.prog X.w) X.A (pyIter (.ref s.heap.objs.size)) (PIE X pins σ tg R) E { s with heap := s.heap.push { cls := .type "range", data := .fields #[.int lo t, .int hi u, .int 1 v] }, toks := tk } := by
  refine wpAny_pyIter_range (IsRange.new ..) (small_one h1 h2 h3 h4) ?_
  have I1 : Inv X pins σ H { s with heap := s.heap.push { cls := .type "range", data := .fields #[.int lo t, .int hi u, .int 1 v] }, toks := tk } := I.kept fun b o e => Heap.get?_push_of_some _ e
  refine ⟨(s.heap.push { cls := .type "range", data := .fields #[.int lo t, .int hi u, .int 1 v] }).objs.size, [(s.heap.push { cls := .type "range", data := .fields #[.int lo t, .int hi u, .int 1 v] }).objs.size], _, _, H, rfl,
    I1.kept (t' := tk) fun b o e => Heap.get?_push_of_some _ e, turn_range _ lo (hi - lo).toNat, ?_, fun b hb => ?_, q⟩
  · have e1 : lo + ((0 : Nat) : Int) * 1 = lo := by simp
    have e2 : (((hi - lo).toNat : Nat) : Int) - ((0 : Nat) : Int) = Builtin.Range.rangeSize lo hi 1 := by rw [rangeSize_one]; split <;> omega
    show IsRangeIter _ _ (lo + ((0 : Nat) : Int) * 1) ((((hi - lo).toNat : Nat) : Int) - ((0 : Nat) : Int)) 1
    rw [e1, e2]
    exact Heap.get?_push_size _ rfl
  · have e : b = (s.heap.push { cls := .type "range", data := .fields #[.int lo t, .int hi u, .int 1 v] }).objs.size := by simpa using hb
    subst e
    exact I1.fpOk (Nat.le_refl _) (I1.hok.fresh (Nat.le_refl _))
def iRng1 (ta : TA) : TI := fun σ H R => ta σ H fun vs H1 => ∃ j : Int, vs = [.int j] ∧ -(2 ^ 62) ≤ j ∧ j < 2 ^ 62 ∧ R (Itr 0 j.toNat) H1
theorem pi_range1 {a : Expr} {ta : TA} {p pos : Pos} (hg : Gl X "range") (hm : X.mg "range" = none) (ha : PA X [a] ta) (hs : starEach [a] X.env = [(false, eval a X.env)] := by rfl) : PI X tg (.Call (.Name "range" p) [a] [] pos) (iRng1 ta) := by
  intro pins s σ H R I h
  refine Call_ (ld_blt I hg hm boot_range (PyProof.Rows.callWith_type1 (thn (ha pos pins s σ H _ I h) fun us s1 ⟨vs, H1, I1, r1, q1⟩ => ?_) hs rfl))
  obtain ⟨j, e, q1, q2, q⟩ := q1
  subst e
  cases r1 with
  | cons r rr =>
    cases rr
    obtain ⟨t, rfl⟩ := r
    exact call_range_1 (range_it I1 (by omega) (by omega) q1 q2 (by simpa using q))
/-! ### for -/
/-- W: the invariant by the turn and a measure; N: what the body is to reach -/
def tFor (wi : TI) (g : TG) (tb : TS) : TS := fun D σ H => wi σ H fun J H1 => ∃ W : Nat → Nat → St → Hp → Prop, (∃ m, W 0 m σ H1) ∧ ∀ i m σ H, W i m σ H →
  (J.stop i H ∧ D.nx σ H) ∨ (J.go i H ∧ ∃ N : St → Hp → Prop, (∀ σ' H', N σ' H' → ∃ m', m' < m ∧ W (i + 1) m' σ' H') ∧ ∀ x H', J.yld i H x H' → g x σ H' fun σ2 H2 => tb { D with nx := N, ct := N, bk := D.nx } σ2 H2)
/-- the records at fp as they stand -/
def pinsAt (fp : List Addr) (h : Heap) : List (Addr × Obj) := fp.filterMap fun b => (h.get? b).map fun o => (b, o)
theorem mem_pinsAt {fp : List Addr} {h : Heap} {b : Addr} {o : Obj} (hb : b ∈ fp) (e : h.get? b = some o) : (b, o) ∈ pinsAt fp h := List.mem_filterMap.mpr ⟨b, hb, by rw [e]; rfl⟩
theorem of_pinsAt {fp : List Addr} {h : Heap} {p : Addr × Obj} (hp : p ∈ pinsAt fp h) : p.1 ∈ fp ∧ h.get? p.1 = some p.2 := by
  obtain ⟨b, hb, e⟩ := List.mem_filterMap.mp hp
  cases q : h.get? b with
  | none => rw [q] at e; cases e
  | some o =>
    rw [q] at e
    have e' : (b, o) = p := Option.some.inj e
    subst e'
    exact ⟨hb, q⟩
theorem Inv.pinned {pins : List (Addr × Obj)} {σ : St} {H : Hp} {s : Shared} {fp : List Addr} (I : Inv X pins σ H s) (hf : ∀ b ∈ fp, FpOk X pins H b) (ho : ∀ b ∈ fp, ∃ o, s.heap.get? b = some o ∧ ∀ v, o.data ≠ .cell v) : Inv X (pins ++ pinsAt fp s.heap) σ H s :=
  I.pins_of fun p hp => (List.mem_append.mp hp).elim (fun z => I.pin p (List.mem_append_right _ z)) fun z => by
    obtain ⟨hb, e⟩ := of_pinsAt z
    obtain ⟨f0, f1, f2, _⟩ := hf p.1 hb
    obtain ⟨o, e', d⟩ := ho p.1 hb
    rw [e] at e'; cases e'
    exact ⟨e, f0, f1, f2, d⟩
theorem Inv.unpinned {pins pl : List (Addr × Obj)} {σ : St} {H : Hp} {s : Shared} (I : Inv X (pins ++ pl) σ H s) : Inv X pins σ H s := I.pins_of fun p hp => I.pin p (List.mem_append_right _ (List.mem_append_left _ hp))
theorem ps_for {iter : Expr} {body : List Stmt} {wi : TI} {g : TG} {tb : TS} {pos : Pos} (hp : PassesOwn (model X.prog X.w) X.A X.env X.xe) (hc : X.calm = true) (hi : PI X tg iter wi) (hg : PG X tg g) (hb : PSs X body tb)
    (hs : ∀ x, foldedSetIterable iter X.env x = pure x := by intro _; rfl) : PS X (.For tg iter body [] pos) (tFor wi g tb) := by
  intro pins s σ H D I h
  refine wpAny_For (thn (hi pins s σ H _ I h) fun v s1 h1 => thn h1 fun itv s2 h2 => ?_) hs
  obtain ⟨it, fp, tn, J, H2, e, I2, T, st2, f2, W, ⟨m0, w0⟩, turn⟩ := h2
  subst e
  -- what stays true of the iterator's objects through the loop
  have stat : ∀ {H' : Hp}, (∀ b ∈ fp, H' b = none) → ∀ b ∈ fp, FpOk X pins H' b := fun hn b hb => ⟨hn b hb, (f2 b hb).2⟩
  refine codeAny_forLoop_any (fun n s' => ∃ i σ' H', Inv X pins σ' H' s' ∧ tn i s'.heap ∧ (∀ b ∈ fp, H' b = none) ∧ W i n σ' H') ?_ m0 ⟨0, σ, H2, I2, st2, fun b hb => (f2 b hb).1, w0⟩
  rintro n s3 ⟨i, σ3, H3, I3, st3, fr3, w3⟩
  rcases turn i n σ3 H3 w3 with ⟨stop, qn⟩ | ⟨go, N, hN, step⟩
  · refine wpAny_passesOwn hp (thn (T.done X rfl rfl rfl hc i pins s3 σ3 H3 X.xe I3 (stat fr3) st3 stop) fun r s4 ⟨hr, I4⟩ => ?_)
    subst hr
    exact wpAny_execs_nil ⟨σ3, H3, I4, qn⟩
  · refine wpAny_passesOwn hp (thn (T.item X rfl rfl rfl hc i pins s3 σ3 H3 X.xe I3 (stat fr3) st3 go) fun r s4 ⟨u, hr, h4⟩ => ?_)
    subst hr
    refine wpAny_passesOwn hp (thn h4 fun _ s5 ⟨x, H5, I5, r5, y5, st5, fr5⟩ => ?_)
    have I5' := I5.pinned (stat fr5) (T.obj _ _ st5)
    refine wpAny_passesOwn hp (thn (hg _ s5 σ3 H5 x u _ I5' r5 (step x H5 y5)) fun _ s6 ⟨σ6, H6, I6, q6⟩ => ?_)
    refine wpAny_passesOwn hp (thn (hb _ s6 σ6 H6 _ I6 q6) fun f s7 q7 => ?_)
    have again : ∀ {σ7 : St} {H7 : Hp}, Inv X (pins ++ pinsAt fp s5.heap) σ7 H7 s7 → N σ7 H7 → ∃ m, m < n ∧ ∃ i σ' H', Inv X pins σ' H' s7 ∧ tn i s7.heap ∧ (∀ b ∈ fp, H' b = none) ∧ W i m σ' H' := fun {σ7 H7} I7 n7 => by
      obtain ⟨m', hm, w7⟩ := hN σ7 H7 n7
      refine ⟨m', hm, i + 1, σ7, H7, I7.unpinned, T.keep _ _ _ st5 fun b hb o e => (I7.pin (b, o) (List.mem_append_right _ (List.mem_append_right _ (mem_pinsAt hb e)))).1, fun b hb => ?_, w7⟩
      obtain ⟨o, e, d⟩ := T.obj _ _ st5 b hb
      exact (I7.pin (b, o) (List.mem_append_right _ (List.mem_append_right _ (mem_pinsAt hb e)))).2.1
    cases f with
    | next => obtain ⟨σ7, H7, I7, n7⟩ := q7; exact again I7 n7
    | cont => obtain ⟨σ7, H7, I7, n7⟩ := q7; exact again I7 n7
    | brk => obtain ⟨σ7, H7, I7, q7⟩ := q7; exact ⟨σ7, H7, I7.unpinned, q7⟩
    | ret v => obtain ⟨x7, σ7, H7, I7, r7, q7⟩ := q7; exact ⟨x7, σ7, H7, I7.unpinned, r7, q7⟩
end

/-! ### the forms one uses -/
/-- over a list that the body leaves as it is -/
theorem for_list {K : PySem.W.Frag} {a : Addr} {xs : List V} {g : TG} {tb : TS} {D : Ends} {σ : St} {H : Hp} (Pv : Nat → St → Hp → Prop) (h0 : Pv 0 σ H) (hl : ∀ i σ H, i ≤ xs.length → Pv i σ H → SqL K H a xs)
    (hs : ∀ i x σ H, xs[i]? = some x → Pv i σ H → g x σ H fun σ2 H2 => tb { D with nx := Pv (i + 1), ct := Pv (i + 1), bk := D.nx } σ2 H2) (hd : ∀ σ H, Pv xs.length σ H → D.nx σ H) :
    ∃ W : Nat → Nat → St → Hp → Prop, (∃ m, W 0 m σ H) ∧ ∀ i m σ H, W i m σ H →
      ((Itl K a).stop i H ∧ D.nx σ H) ∨ ((Itl K a).go i H ∧ ∃ N : St → Hp → Prop, (∀ σ' H', N σ' H' → ∃ m', m' < m ∧ W (i + 1) m' σ' H') ∧ ∀ x H', (Itl K a).yld i H x H' → g x σ H' fun σ2 H2 => tb { D with nx := N, ct := N, bk := D.nx } σ2 H2) := by
  refine ⟨fun i m σ H => m = xs.length - i ∧ i ≤ xs.length ∧ Pv i σ H, ⟨xs.length, by simp, Nat.zero_le _, h0⟩, ?_⟩
  rintro i m σ H ⟨rfl, hi, p⟩
  have q := hl i σ H hi p
  by_cases hlt : i < xs.length
  · refine .inr ⟨⟨xs, xs[i], q, by simp [hlt]⟩, Pv (i + 1), fun σ' H' p' => ⟨xs.length - (i + 1), by omega, rfl, hlt, p'⟩, fun x H' y => ?_⟩
    obtain ⟨e, y⟩ := y
    subst e
    exact hs i x σ _ (y xs q) p
  · have e : i = xs.length := by omega
    subst e
    exact .inl ⟨⟨xs, q, Nat.le_refl _⟩, hd σ H p⟩
theorem for_range {lo : Int} {n : Nat} {g : TG} {tb : TS} {D : Ends} {σ : St} {H : Hp} (Pv : Nat → St → Hp → Prop) (h0 : Pv 0 σ H)
    (hs : ∀ i σ H, i < n → Pv i σ H → g (.int (lo + i)) σ H fun σ2 H2 => tb { D with nx := Pv (i + 1), ct := Pv (i + 1), bk := D.nx } σ2 H2) (hd : ∀ σ H, Pv n σ H → D.nx σ H) :
    ∃ W : Nat → Nat → St → Hp → Prop, (∃ m, W 0 m σ H) ∧ ∀ i m σ H, W i m σ H →
      ((Itr lo n).stop i H ∧ D.nx σ H) ∨ ((Itr lo n).go i H ∧ ∃ N : St → Hp → Prop, (∀ σ' H', N σ' H' → ∃ m', m' < m ∧ W (i + 1) m' σ' H') ∧ ∀ x H', (Itr lo n).yld i H x H' → g x σ H' fun σ2 H2 => tb { D with nx := N, ct := N, bk := D.nx } σ2 H2) := by
  refine ⟨fun i m σ H => m = n - i ∧ i ≤ n ∧ Pv i σ H, ⟨n, by simp, Nat.zero_le _, h0⟩, ?_⟩
  rintro i m σ H ⟨rfl, hi, p⟩
  by_cases hlt : i < n
  · refine .inr ⟨hlt, Pv (i + 1), fun σ' H' p' => ⟨n - (i + 1), by omega, rfl, hlt, p'⟩, fun x H' y => ?_⟩
    obtain ⟨e, y⟩ := y
    subst e y
    exact hs i σ _ hlt p
  · have e : i = n := by omega
    subst e
    exact .inl ⟨Nat.le_refl _, hd σ H p⟩
end L2

namespace L2
open PySem PySem.Spec PyProof.Rows

abbrev R2 := V → V → Hp → VK → Prop
/-- a two-place operation on values: f is binaryOp op, inplaceOp op or compareOp op -/
def OpR (X : Cx) (f : Value → Value → Sem Value) (r : R2) : Prop :=
  ∀ (pins : List (Addr × Obj)) (s : Shared) (σ : St) (H : Hp) (x y : V) (v u : Value) (Q : VK), Inv X pins σ H s → RelV x v → RelV y u → r x y H Q →
    wpAny (model X.prog X.w) X.A (f v u) (EP X pins σ Q) X.xe s
/-- a one-place operation -/
def UnR (X : Cx) (f : Value → Sem Value) (r : V → Hp → VK → Prop) : Prop :=
  ∀ (pins : List (Addr × Obj)) (s : Shared) (σ : St) (H : Hp) (x : V) (v : Value) (Q : VK), Inv X pins σ H s → RelV x v → r x H Q →
    wpAny (model X.prog X.w) X.A (f v) (EP X pins σ Q) X.xe s
/-- a call of a value that is known (a builtin, a type) with values -/
def CallR (X : Cx) (f : Value) (r : List V → Hp → VK → Prop) : Prop :=
  ∀ (pins : List (Addr × Obj)) (s : Shared) (σ : St) (H : Hp) (xs : List V) (us : List Value) (Q : VK), Inv X pins σ H s → Vals xs us → r xs H Q →
    wpAny (model X.prog X.w) X.A (call f us) (EP X pins σ Q) X.xe s
def tOp (r : R2) (ta tb : TE) : TE := fun σ H Q => ta σ H fun x H1 => tb σ H1 fun y H2 => r x y H2 Q
def tUn (r : V → Hp → VK → Prop) (ta : TE) : TE := fun σ H Q => ta σ H fun x H1 => r x H1 Q
/-- ints in, under C, and a value out -/
def rI (C : Int → Int → Prop) (g : Int → Int → V) : R2 := fun x y H Q => ∃ i j, x = .int i ∧ y = .int j ∧ C i j ∧ Q (g i j) H
def rI0 (g : Int → Int → V) : R2 := fun x y H Q => ∃ i j, x = .int i ∧ y = .int j ∧ Q (g i j) H
def rU (g : Int → V) : V → Hp → VK → Prop := fun x H Q => ∃ i, x = .int i ∧ Q (g i) H

section
variable {X : Cx} {a b c : Expr} {ta tb tc : TE} {pos : Pos}

theorem binT (ha : PE X a ta) (hb : PE X b tb) {pins : List (Addr × Obj)} {s : Shared} {σ : St} {H : Hp} {R : V → V → Hp → Prop} (I : Inv X pins σ H s)
    (h : ta σ H fun x H1 => tb σ H1 fun y H2 => R x y H2) {Q : Value → Shared → Prop} {f : Value → Value → Sem Value}
    (hf : ∀ v u s2 x y H2, Inv X pins σ H2 s2 → RelV x v → RelV y u → R x y H2 → wpAny (model X.prog X.w) X.A (f v u) Q X.xe s2) :
    wpAny (model X.prog X.w) X.A (eval a X.env) (fun v s₁ => wpAny (model X.prog X.w) X.A (eval b X.env) (fun u s₂ => wpAny (model X.prog X.w) X.A (f v u) Q X.xe s₂) X.xe s₁) X.xe s := by
  refine thn (ha pins s σ H _ I h) fun v s1 ⟨x, H1, I1, r1, q1⟩ => ?_
  refine thn (hb pins s1 σ H1 _ I1 q1) fun u s2 ⟨y, H2, I2, r2, q2⟩ => ?_
  exact hf v u s2 x y H2 I2 r1 r2 q2

theorem pe_op {op : Operator} {r : R2} (ho : OpR X (binaryOp op) r) (ha : PE X a ta) (hb : PE X b tb) : PE X (.BinOp a op b pos) (tOp r ta tb) := by
  intro pins s σ H Q I h
  exact wpAny_BinOp (binT ha hb I h fun v u s2 x y H2 I2 rx ry q => ho pins s2 σ H2 x y v u Q I2 rx ry q)
theorem pe_un {op : UnaryOp} {r : V → Hp → VK → Prop} (ho : UnR X (unaryOp op) r) (ha : PE X a ta) : PE X (.UnaryOp op a pos) (tUn r ta) := by
  intro pins s σ H Q I h
  exact UnaryOp_ (thn (ha pins s σ H _ I h) fun v s1 ⟨x, H1, I1, r1, q1⟩ => ho pins s1 σ H1 x v Q I1 r1 q1)
/-! ### ints -/
theorem opI {f : Value → Value → Sem Value} {C : Int → Int → Prop} {g : Int → Int → Int}
    (rule : ∀ (i j : Int) (t u : Tok) (s : Shared) (Q : Value → Shared → Prop) (E : Value → Shared → Prop), C i j → Q (.int (g i j) s.toks) { s with toks := s.toks + 1 } → wpAny (model X.prog X.w) X.A (f (.int i t) (.int j u)) Q E s) :
    OpR X f (rI C fun i j => .int (g i j)) := by
  intro pins s σ H x y v u Q I rx ry h
  obtain ⟨i, j, rfl, rfl, hc, q⟩ := h
  obtain ⟨t, rfl⟩ := rx
  obtain ⟨t', rfl⟩ := ry
  exact rule i j t t' s _ _ hc ⟨.int (g i j), H, I.tok _, ⟨_, rfl⟩, q⟩
theorem opI0 {f : Value → Value → Sem Value} {g : Int → Int → Int}
    (rule : ∀ (i j : Int) (t u : Tok) (s : Shared) (Q : Value → Shared → Prop) (E : Value → Shared → Prop), Q (.int (g i j) s.toks) { s with toks := s.toks + 1 } → wpAny (model X.prog X.w) X.A (f (.int i t) (.int j u)) Q E s) :
    OpR X f (rI0 fun i j => .int (g i j)) := by
  intro pins s σ H x y v u Q I rx ry h
  obtain ⟨i, j, rfl, rfl, q⟩ := h
  obtain ⟨t, rfl⟩ := rx
  obtain ⟨t', rfl⟩ := ry
  exact rule i j t t' s _ _ ⟨.int (g i j), H, I.tok _, ⟨_, rfl⟩, q⟩
theorem opB0 {f : Value → Value → Sem Value} {g : Int → Int → Bool}
    (rule : ∀ (i j : Int) (t u : Tok) (s : Shared) (Q : Value → Shared → Prop) (E : Value → Shared → Prop), Q (.bool (g i j)) s → wpAny (model X.prog X.w) X.A (f (.int i t) (.int j u)) Q E s) :
    OpR X f (rI0 fun i j => .bl (g i j)) := by
  intro pins s σ H x y v u Q I rx ry h
  obtain ⟨i, j, rfl, rfl, q⟩ := h
  obtain ⟨t, rfl⟩ := rx
  obtain ⟨t', rfl⟩ := ry
  exact rule i j t t' s _ _ ⟨.bl (g i j), H, I, rfl, q⟩

def CDiv (i j : Int) : Prop := 0 < j ∧ j < 1073741824
def CPow (i j : Int) : Prop := 0 ≤ j ∧ j ≤ 1000000 ∧ i.natAbs < 2 ^ 64
def CMul (i j : Int) : Prop := (-(2 ^ 64) < i ∧ i < 2 ^ 64) ∨ (-(2 ^ 64) < j ∧ j < 2 ^ 64)
theorem CMul.ok {i j : Int} (h : CMul i j) : IntMulOk i j := by
  rcases h with ⟨h1, h2⟩ | ⟨h1, h2⟩
  · exact .of_left (intBits_le_64 h1 h2)
  · exact .of_right (intBits_le_64 h1 h2)
theorem op_add : OpR X (binaryOp .Add) (rI0 fun i j => .int (i + j)) := opI0 fun _ _ _ _ _ _ _ q => add_int q
theorem op_sub : OpR X (binaryOp .Sub) (rI0 fun i j => .int (i - j)) := opI0 fun _ _ _ _ _ _ _ q => sub_int q
theorem op_mul : OpR X (binaryOp .Mult) (rI CMul fun i j => .int (i * j)) := opI fun _ _ _ _ _ _ _ hc q => mul_int q hc.ok
/-- // by a positive divisor -/
theorem op_fdiv : OpR X (binaryOp .FloorDiv) (rI CDiv fun i j => .int (i / j)) := opI fun i j _ _ _ _ _ hc q => by
  have h1 : (0 : Int) < j := hc.1
  have h2 : j < 1073741824 := hc.2
  exact floordiv_int (by omega) (by rw [Int.fdiv_eq_ediv_of_nonneg i (by omega)]; exact q) (.inl (PyProof.noPylong_small (by omega)))
/-- % by a positive divisor of any size -/
theorem op_mod : OpR X (binaryOp .Mod) (rI (fun _ j => 0 < j) fun i j => .int (i % j)) := opI fun i j _ _ _ _ _ hc q => by
  have h1 : (0 : Int) < j := hc
  exact mod_int' (by omega) (by rw [Int.fmod_eq_emod_of_nonneg i (by omega)]; exact q)
theorem op_pow : OpR X (binaryOp .Pow) (rI CPow fun i j => .int (i ^ j.toNat)) := opI fun _ _ _ _ _ _ _ hc q => pow_int_small hc.1 hc.2.1 hc.2.2 q
theorem unI {f : Value → Sem Value} {g : Int → Int}
    (rule : ∀ (i : Int) (t : Tok) (s : Shared) (Q : Value → Shared → Prop) (E : Value → Shared → Prop), Q (.int (g i) s.toks) { s with toks := s.toks + 1 } → wpAny (model X.prog X.w) X.A (f (.int i t)) Q E s) :
    UnR X f (rU fun i => .int (g i)) := by
  intro pins s σ H x v Q I rx h
  obtain ⟨i, rfl, q⟩ := h
  obtain ⟨t, rfl⟩ := rx
  exact rule i t s _ _ ⟨.int (g i), H, I.tok _, ⟨_, rfl⟩, q⟩
theorem un_neg : UnR X (unaryOp .USub) (rU fun i => .int (-i)) := unI fun _ _ _ _ _ q => neg_int q
/-! ### bools among ints: n += (a < b) -/
end

/-! ### comparisons -/
/-- the scalars that == tells apart as data does -/
def scal : V → V → Bool
  | .non, .non => true | .non, .int _ => true | .int _, .non => true | .non, .bl _ => true | .bl _, .non => true | .non, .str _ => true | .str _, .non => true
  | .int _, .int _ => true | .bl _, .bl _ => true | .str _, .str _ => true | .byt _, .byt _ => true
  | .int _, .str _ => true | .str _, .int _ => true | .bl _, .str _ => true | .str _, .bl _ => true
  | _, _ => false
def rEq : R2 := fun x y H Q => scal x y = true ∧ Q (.bl (decide (x = y))) H
def rNe : R2 := fun x y H Q => scal x y = true ∧ Q (.bl (!decide (x = y))) H

theorem dec_int {i j : Int} : decide (V.int i = V.int j) = (i == j) := by
  rw [Bool.eq_iff_iff]
  simp
theorem dec_bl {i j : Bool} : decide (V.bl i = V.bl j) = (i == j) := by
  rw [Bool.eq_iff_iff]
  simp
theorem dec_str {i j : Str} : decide (V.str i = V.str j) = (i == j) := by
  rw [Bool.eq_iff_iff]
  simp
theorem dec_byt {i j : Array UInt8} : decide (V.byt i = V.byt j) = (i.toList == j.toList) := by
  rw [Bool.eq_iff_iff]
  cases i
  cases j
  simp

section
variable {X : Cx} {a b c : Expr} {ta tb tc : TE} {pos : Pos}
theorem fin_bl {pins : List (Addr × Obj)} {σ : St} {H : Hp} {s : Shared} {Q : VK} {k k' : Bool} (I : Inv X pins σ H s) (q : Q (.bl k) H) (e : k = k') : EP X pins σ Q (.bool k') s := by
  subst e
  exact ⟨.bl k, H, I, rfl, q⟩
theorem op_eq : OpR X (compareOp .Eq) rEq := by
  intro pins s σ H x y v u Q I rx ry h
  obtain ⟨hs, q⟩ := h
  cases x with
  | non =>
    cases rx
    cases y with
    | non => cases ry; exact PySem.EqNone.eq_none_none (fin_bl I q (by simp))
    | bl j => cases ry; exact PySem.EqNone.eq_none_bool (fin_bl I q (by simp))
    | int j => obtain ⟨t', rfl⟩ := ry; exact PySem.EqNone.eq_none_int (fin_bl I q (by simp))
    | str j => obtain ⟨t', rfl⟩ := ry; exact PySem.EqNone.eq_none_str (fin_bl I q (by simp))
    | _ => exact absurd (show false = true from hs) Bool.false_ne_true
  | bl i =>
    cases rx
    cases y with
    | non => cases ry; exact PySem.EqNone.eq_bool_none (fin_bl I q (by simp))
    | bl j => cases ry; exact eq_bool (fin_bl I q dec_bl)
    | str j => obtain ⟨t', rfl⟩ := ry; exact PySem.EqMixed.eq_bool_str (fin_bl I q (by simp))
    | _ => exact absurd (show false = true from hs) Bool.false_ne_true
  | int i =>
    obtain ⟨t, rfl⟩ := rx
    cases y with
    | non => cases ry; exact PySem.EqNone.eq_int_none (fin_bl I q (by simp))
    | int j => obtain ⟨t', rfl⟩ := ry; exact eq_int (fin_bl I q dec_int)
    | str j => obtain ⟨t', rfl⟩ := ry; exact PySem.EqMixed.eq_int_str (fin_bl I q (by simp))
    | _ => exact absurd (show false = true from hs) Bool.false_ne_true
  | str i =>
    obtain ⟨t, rfl⟩ := rx
    cases y with
    | non => cases ry; exact PySem.EqNone.eq_str_none (fin_bl I q (by simp))
    | bl j => cases ry; exact PySem.EqMixed.eq_str_bool (fin_bl I q (by simp))
    | int j => obtain ⟨t', rfl⟩ := ry; exact PySem.EqMixed.eq_str_int (fin_bl I q (by simp))
    | str j => obtain ⟨t', rfl⟩ := ry; exact eq_str (fin_bl I q dec_str)
    | _ => exact absurd (show false = true from hs) Bool.false_ne_true
  | byt i =>
    obtain ⟨t, rfl⟩ := rx
    cases y with
    | byt j => obtain ⟨t', rfl⟩ := ry; exact PySem.W.eq_bytes (fin_bl I q dec_byt)
    | _ => exact absurd (show false = true from hs) Bool.false_ne_true
  | _ => cases y <;> exact absurd (show false = true from hs) Bool.false_ne_true
theorem op_ne : OpR X (compareOp .NotEq) rNe := by
  intro pins s σ H x y v u Q I rx ry h
  obtain ⟨hs, q⟩ := h
  cases x with
  | non =>
    cases rx
    cases y with
    | non => cases ry; exact PySem.EqNone.ne_none_none (fin_bl I q (by simp))
    | bl j => cases ry; exact PySem.EqNone.ne_none_bool (fin_bl I q (by simp))
    | int j => obtain ⟨t', rfl⟩ := ry; exact PySem.EqNone.ne_none_int (fin_bl I q (by simp))
    | str j => obtain ⟨t', rfl⟩ := ry; exact PySem.EqNone.ne_none_str (fin_bl I q (by simp))
    | _ => exact absurd (show false = true from hs) Bool.false_ne_true
  | bl i =>
    cases rx
    cases y with
    | non => cases ry; exact PySem.EqNone.ne_bool_none (fin_bl I q (by simp))
    | bl j => cases ry; exact ne_bool (fin_bl I q (congrArg not dec_bl))
    | str j => obtain ⟨t', rfl⟩ := ry; exact PySem.EqMixed.ne_bool_str (fin_bl I q (by simp))
    | _ => exact absurd (show false = true from hs) Bool.false_ne_true
  | int i =>
    obtain ⟨t, rfl⟩ := rx
    cases y with
    | non => cases ry; exact PySem.EqNone.ne_int_none (fin_bl I q (by simp))
    | int j => obtain ⟨t', rfl⟩ := ry; exact ne_int (fin_bl I q (congrArg not dec_int))
    | str j => obtain ⟨t', rfl⟩ := ry; exact PySem.EqMixed.ne_int_str (fin_bl I q (by simp))
    | _ => exact absurd (show false = true from hs) Bool.false_ne_true
  | str i =>
    obtain ⟨t, rfl⟩ := rx
    cases y with
    | non => cases ry; exact PySem.EqNone.ne_str_none (fin_bl I q (by simp))
    | bl j => cases ry; exact PySem.EqMixed.ne_str_bool (fin_bl I q (by simp))
    | int j => obtain ⟨t', rfl⟩ := ry; exact PySem.EqMixed.ne_str_int (fin_bl I q (by simp))
    | str j => obtain ⟨t', rfl⟩ := ry; exact ne_str (fin_bl I q (congrArg not dec_str))
    | _ => exact absurd (show false = true from hs) Bool.false_ne_true
  | byt i =>
    obtain ⟨t, rfl⟩ := rx
    cases y with
    | byt j => obtain ⟨t', rfl⟩ := ry; exact PySem.W.ne_bytes (fin_bl I q (congrArg not dec_byt))
    | _ => exact absurd (show false = true from hs) Bool.false_ne_true
  | _ => cases y <;> exact absurd (show false = true from hs) Bool.false_ne_true

theorem op_lt : OpR X (compareOp .Lt) (rI0 fun i j => .bl (decide (i < j))) := opB0 fun _ _ _ _ _ _ _ q => lt_int q
theorem op_le : OpR X (compareOp .LtE) (rI0 fun i j => .bl (decide (i ≤ j))) := opB0 fun _ _ _ _ _ _ _ q => le_int q
theorem op_gt : OpR X (compareOp .Gt) (rI0 fun i j => .bl (decide (j < i))) := opB0 fun _ _ _ _ _ _ _ q => gt_int q
/-- the one string within the other -/
theorem op_in_str : OpR X (compareOp .In) (fun x y H Q => ∃ i j, x = .str i ∧ y = .str j ∧ Q (.bl (!(Builtin.Str.occurrences j i 0 j.length 1).isEmpty)) H) := by
  intro pins s σ H x y v u Q I rx ry h
  obtain ⟨i, j, rfl, rfl, q⟩ := h
  obtain ⟨t, rfl⟩ := rx
  obtain ⟨t', rfl⟩ := ry
  exact in_str (fin_bl I q rfl)

theorem nomark (b : Expr) {op : CmpOp} (h : op ≠ .In := by decide) (h2 : op ≠ .NotIn := by decide) : behindInMarks op b = false := by
  have e1 : (op == CmpOp.In) = false := by cases op <;> first | rfl | exact absurd rfl h
  have e2 : (op == CmpOp.NotIn) = false := by cases op <;> first | rfl | exact absurd rfl h2
  cases b <;> simp [behindInMarks, e1, e2]
/-- a comparison as a value; hm: nomark b, or (for in, not in) by with_unfolding_all rfl -/
theorem pe_cmpR {op : CmpOp} {r : R2} (ho : OpR X (compareOp op) r) (ha : PE X a ta) (hb : PE X b tb) (hm : behindInMarks op b = false) : PE X (.Compare a [op] [b] pos) (tOp r ta tb) := by
  intro pins s σ H Q I h
  exact wpAny_Compare1 (binT ha hb I h fun v u s2 x y H2 I2 rx ry q => ho pins s2 σ H2 x y v u Q I2 rx ry q) hm
/-- a reading of a value as a test -/
def tTest (t : TE) : TT := fun σ H Q => t σ H fun x H' => ∃ k, x = .bl k ∧ Q k H'
theorem pt_cmpR {op : CmpOp} {r : R2} (ho : OpR X (compareOp op) r) (ha : PE X a ta) (hb : PE X b tb) (hm : behindInMarks op b = false) : PT X (.Compare a [op] [b] pos) (tTest (tOp r ta tb)) := by
  intro pins s σ H Q I h
  refine wpAny_isTrue_Compare1 (thn (ha pins s σ H _ I h) fun v s1 ⟨x, H1, I1, r1, q1⟩ => thn (hb pins s1 σ H1 _ I1 q1) fun u s2 ⟨y, H2, I2, r2, q2⟩ =>
    thn (ho pins s2 σ H2 x y v u _ I2 r1 r2 q2) fun c s3 ⟨z, H3, I3, r3, k, e, q3⟩ => ?_) hm
  subst e
  cases r3
  exact wpAny_truthy_bool ⟨H3, I3, q3⟩
/-- a op1 b op2 c -/
def tChain (r r' : R2) (ta tb tc : TE) : TE := fun σ H Q => ta σ H fun x H1 => tb σ H1 fun y H2 => r x y H2 fun z H3 => ∃ k, z = .bl k ∧
  (if k = true then tc σ H3 fun w' H4 => r' y w' H4 Q else Q (.bl false) H3)
theorem pe_chain {op op' : CmpOp} {r r' : R2} (ho : OpR X (compareOp op) r) (ho' : OpR X (compareOp op') r') (ha : PE X a ta) (hb : PE X b tb) (hc : PE X c tc)
    (hm : lastMarks [op, op'] [b, c] = false := by with_unfolding_all rfl) : PE X (.Compare a [op, op'] [b, c] pos) (tChain r r' ta tb tc) := by
  intro pins s σ H Q I h
  refine Compare_chain (thn (ha pins s σ H _ I h) fun v s1 ⟨x, H1, I1, r1, q1⟩ => chain_link (thn (hb pins s1 σ H1 _ I1 q1) fun u s2 ⟨y, H2, I2, r2, q2⟩ =>
    thn (ho pins s2 σ H2 x y v u _ I2 r1 r2 q2) fun d s3 ⟨z, H3, I3, r3, k, e, q3⟩ => ?_)) hm
  subst e
  cases r3
  refine wpAny_truthy_bool ?_
  cases k with
  | false => exact ite_ff ⟨.bl false, H3, I3, rfl, q3⟩
  | true => exact ite_tt (chain_last (thn (hc pins s3 σ H3 _ I3 q3) fun w' s4 ⟨z', H4, I4, r4, q4⟩ => ho' pins s4 σ H4 y z' u w' Q I4 r2 r4 q4))
theorem pt_chain {op op' : CmpOp} {r r' : R2} (ho : OpR X (compareOp op) r) (ho' : OpR X (compareOp op') r') (ha : PE X a ta) (hb : PE X b tb) (hc : PE X c tc)
    (hm : lastMarks [op, op'] [b, c] = false := by with_unfolding_all rfl) : PT X (.Compare a [op, op'] [b, c] pos) (tTest (tChain r r' ta tb tc)) := by
  intro pins s σ H Q I h
  refine isTrue_chain (thn (ha pins s σ H _ I h) fun v s1 ⟨x, H1, I1, r1, q1⟩ => test_link (thn (hb pins s1 σ H1 _ I1 q1) fun u s2 ⟨y, H2, I2, r2, q2⟩ =>
    thn (ho pins s2 σ H2 x y v u _ I2 r1 r2 q2) fun d s3 ⟨z, H3, I3, r3, k, e, q3⟩ => ?_)) hm
  subst e
  cases r3
  refine wpAny_truthy_bool ?_
  cases k with
  | false =>
    obtain ⟨k', e', q'⟩ := q3
    cases e'
    exact ite_ff ⟨H3, I3, q'⟩
  | true =>
    refine ite_tt (test_last (thn (hc pins s3 σ H3 _ I3 q3) fun w' s4 ⟨z', H4, I4, r4, q4⟩ => thn (ho' pins s4 σ H4 y z' u w' _ I4 r2 r4 q4) fun d' s5 ⟨z2, H5, I5, r5, k2, e2, q5⟩ => ?_))
    subst e2
    cases r5
    exact wpAny_truthy_bool ⟨H5, I5, q5⟩

/-! ### truth -/
theorem line63 : (sizeLine : Nat) < 2 ^ 63 := by rw [sizeLine_eq]; decide
/-! ### strs and bytes -/
theorem op_add_str : OpR X (binaryOp .Add) (fun x y H Q => ∃ i j, x = .str i ∧ y = .str j ∧ i.length + j.length ≤ sizeLine ∧ Q (.str (i ++ j)) H) := by
  intro pins s σ H x y v u Q I rx ry h
  obtain ⟨i, j, rfl, rfl, hz, q⟩ := h
  obtain ⟨t, rfl⟩ := rx
  obtain ⟨t', rfl⟩ := ry
  exact add_str (fun t' tk => ⟨.str (i ++ j), H, I.tok _, ⟨_, rfl⟩, q⟩) hz
/-! ### scalar builtins, by CallR -/
theorem vals1 {x : V} {us : List Value} (r : Vals [x] us) : ∃ u, us = [u] ∧ RelV x u := by
  cases r with
  | cons r1 r2 => cases r2; exact ⟨_, rfl, r1⟩
theorem vals2 {x y : V} {us : List Value} (r : Vals [x, y] us) : ∃ u w', us = [u, w'] ∧ RelV x u ∧ RelV y w' := by
  cases r with
  | cons r1 r2 =>
    cases r2 with
    | cons r3 r4 => cases r4; exact ⟨_, _, rfl, r1, r3⟩
theorem call_abs : CallR X (.builtin "abs") (fun xs H Q => ∃ i, xs = [.int i] ∧ Q (.int (if i < 0 then -i else i)) H) := by
  intro pins s σ H xs us Q I r h
  obtain ⟨i, rfl, q⟩ := h
  obtain ⟨u, rfl, t, rfl⟩ := vals1 r
  exact call_abs_int fun u tk => ⟨.int (if i < 0 then -i else i), H, I.tok _, ⟨_, rfl⟩, q⟩
theorem call_str_int : CallR X (.type "str") (fun xs H Q => ∃ i, xs = [.int i] ∧ i.natAbs.log2 < 1920 ∧ Q (.str (toString i)) H) := by
  intro pins s σ H xs us Q I r h
  obtain ⟨i, rfl, hz, q⟩ := h
  obtain ⟨u, rfl, t, rfl⟩ := vals1 r
  exact PySem.P.str_of_int hz ⟨.str _, H, I.tok _, ⟨_, rfl⟩, q⟩
end
end L2

namespace L2
open PySem PySem.Spec PyProof.Rows

/-! ### an instance, its attributes a map -/
structure ObjM (h : Heap) (x dx C : Addr) (mA : Str → Option Value) : Prop where
  obj : h.get? x = some (PySem.W.instObj C dx)
  ns : h.Ns1 dx mA
  ne : dx ≠ x

theorem lookIn_ns {h : Heap} {dx : Addr} {mA : Str → Option Value} (n : h.Ns1 dx mA) : ∃ od, h.get? dx = some od ∧ ∀ name, PySem.W.lookIn name od = some (mA name) := by
  obtain ⟨o, es, ep, ho, hd, hk, _, hm⟩ := n
  refine ⟨o, ho, fun name => ?_⟩
  have e := hm name
  unfold nsFind findBy at e
  rw [← Array.find?_toList] at e
  unfold PySem.W.lookIn
  rw [hd]
  dsimp only
  split
  · rename_i y q
    rw [q] at e
    exact congrArg some e
  · rename_i q
    rw [q] at e
    have a : es.toList.any (·.refKey) = false := by
      rw [List.any_eq_false]
      intro y hy
      obtain ⟨z, t, hkey⟩ := hk y (Array.mem_toList_iff.mp hy)
      simp [DictEntry.refKey, hkey]
    have a' : ¬ es.toList.any (·.refKey) = true := by rw [a]; exact Bool.false_ne_true
    rw [if_neg a']
    exact congrArg some e

theorem ObjM.look {h : Heap} {x dx C : Addr} {mA : Str → Option Value} (I : ObjM h x dx C mA) : ∃ od, PySem.W.InstAt h x (PySem.W.instObj C dx) C (some od) ∧ ∀ name, PySem.W.lookIn name od = some (mA name) :=
  let ⟨od, ho, hl⟩ := lookIn_ns I.ns
  ⟨od, ⟨I.obj, rfl, rfl, ho⟩, hl⟩

section
variable {prog : Program} {w : World} {A : Around} {E : Value → Shared → Prop} {s : Shared} {K : PySem.W.Frag} {x dx C f : Addr} {mA : Str → Option Value} {name : Str} {v : Value}

end

/-! ### the attributes as a list of pairs -/
section
variable {P : Program} {w : World} {H H' : Hp} {h h' : Heap} {a C dx : Addr} {fs fs' : List (Str × V)}
theorem ins_get (hok : HOk P w H h) (e : H a = some (.ins C dx fs)) : ∃ mA, ObjM h a dx C mA ∧ (∀ f, RelO (fs.lookup f) (mA f)) ∧ PySem.Within mA (fs.map (·.1)) ∧ fs.length ≤ 1000 ∧ H dx = some (.own a) := by
  obtain ⟨d, z, ne, ob, mA, n, r, q⟩ := (show ObjOk P w H h a (.ins C dx fs) from hok a _ e)
  exact ⟨mA, ⟨ob, n, ne⟩, r, q, z, d⟩
end

/-! ### what of the text a class must have -/
structure Cls (K : PySem.W.Frag) (C : Addr) : Prop where
  pg : PySem.W.plainGet K C Str.empty = true
  hd : PySem.W.hasDictIn K C = true
  po : PySem.W.plainOver K C = true
  sa : PySem.W.findIn K (.ref C) "__setattr__" = some (some (.builtin "object.__setattr__"))
theorem Cls.get {K : PySem.W.Frag} {C : Addr} (c : Cls K C) (f : Str) : PySem.W.plainGet K C f = true := c.pg
section
variable {X : Cx} {pins : List (Addr × Obj)} {σ : St} {H : Hp} {s : Shared} {a C dx : Addr} {fs : List (Str × V)} {f : Str} {v : V} {A : Around} {E : Value → Shared → Prop}

end

/-! ### readings and rules -/
section
variable {X : Cx} {o e value : Expr} {f : Str} {pos pos' tpos : Pos} {ta tv : TE}
end

/-! ### isinstance -/
section
variable {X : Cx} {pins : List (Addr × Obj)} {σ : St} {H : Hp} {s : Shared} {A : Around} {E : Value → Shared → Prop} {Q : Value → Shared → Prop} {c : Value} {b : Bool}
/-- the type of a value, as the fragment's deciders take it; for an instance its class -/
inductive TyOf (K : PySem.W.Frag) (H : Hp) : V → Value → Prop where
  | non : TyOf K H .non (.type "NoneType")
  | bl (x : Bool) : TyOf K H (.bl x) (.type "bool")
  | int (i : Int) : TyOf K H (.int i) (.type "int")
  | str (x : Str) : TyOf K H (.str x) (.type "str")
  | flt (x : UInt64) : TyOf K H (.flt x) (.type "float")
  | lst {a : Addr} {xs : List V} (e : H a = some (.lst xs)) : TyOf K H (.ref a) (.type "list")
  | frz {a : Addr} {o : Obj} {xs : List V} (e : H a = some (.frz o (.lst xs))) : TyOf K H (.ref a) (.type "list")
  | tup {a : Addr} {xs : List V} (e : H a = some (.tup xs)) : TyOf K H (.ref a) (.type "tuple")
  | dK {a : Addr} {kvs : List (Key × V)} (e : H a = some (.dK kvs)) : TyOf K H (.ref a) (.type "dict")
  | dT {a : Addr} {kvs : List (List Key × V)} (e : H a = some (.dT kvs)) : TyOf K H (.ref a) (.type "dict")
  | ins {a C dx : Addr} {fs : List (Str × V)} (e : H a = some (.ins C dx fs)) (cl : Cls K C) (ha : PySem.W.findIn K (.ref C) "__class__" = some (some (.builtin "object.__class__")))
      (hn : PySem.W.specialIn K (.builtin "object.__class__") "__get__" = some (some (.builtin "getset_descriptor.__get__"))) (htk : PySem.W.takesIn K (.builtin "object.__class__") = some true)
      (hm : PySem.W.mroIn K C (.type "object") = some true) : TyOf K H (.ref a) (.ref C)
/-- isinstance(x, c) for one class c, a built-in or an own one: kitOne's answer -/
theorem isinst_ok {x : V} {u t : Value} (I : Inv X pins σ H s) (rx : RelV x u) (ty : TyOf X.K H x t) (e : PySem.W.kitOne X.K t c = some b) (h : ∀ tk, Q (.bool b) { s with toks := tk }) :
    wpAny (model X.prog X.w) A (call (.builtin "isinstance") [u, c]) Q E s := by
  cases ty with
  | non => cases (show u = Value.none from rx); exact PySem.W.kia_one PySem.W.kitx_none I.kIn True.intro e (fun z => nomatch z) h
  | bl y => cases (show u = Value.bool y from rx); exact PySem.W.kia_one PySem.W.kitx_bool I.kIn True.intro e (fun z => nomatch z) h
  | int i => obtain ⟨t, q⟩ := (show ∃ t, u = Value.int i t from rx); cases q; exact PySem.W.kia_one PySem.W.kitx_int I.kIn True.intro e (fun z => nomatch z) h
  | str y => obtain ⟨t, q⟩ := (show ∃ t, u = Value.str y t from rx); cases q; exact PySem.W.kia_one PySem.W.kitx_str I.kIn True.intro e (fun z => nomatch z) h
  | flt y => obtain ⟨t, q⟩ := (show ∃ t, u = Value.float y t from rx); cases q; exact PySem.W.kia_one PySem.W.kitx_float I.kIn True.intro e (fun z => nomatch z) h
  | @lst a xs ea =>
    cases (show u = Value.ref a from rx)
    obtain ⟨_, _, n, _, h1⟩ := (show ObjOk X.prog X.w H s.heap a (.lst xs) from I.hok a _ ea)
    exact PySem.W.kia_one PySem.W.kitx_list I.kIn ⟨_, h1, rfl⟩ e (fun z => nomatch z) h
  | @frz a ob xs ea =>
    cases (show u = Value.ref a from rx)
    obtain ⟨_, _, _, n, _, h1⟩ := (show ObjOk X.prog X.w H s.heap a (.frz ob (.lst xs)) from I.hok a _ ea)
    exact PySem.W.kia_one PySem.W.kitx_list I.kIn ⟨_, h1, rfl⟩ e (fun z => nomatch z) h
  | @tup a xs ea =>
    cases (show u = Value.ref a from rx)
    obtain ⟨_, _, _, p⟩ := (show ObjOk X.prog X.w H s.heap a (.tup xs) from I.hok a _ ea)
    obtain ⟨o, h1, h2, _⟩ := p
    exact PySem.W.kia_one PySem.W.kitx_tuple I.kIn ⟨o, h1, h2⟩ e (fun z => nomatch z) h
  | @dK a kvs ea =>
    cases (show u = Value.ref a from rx)
    obtain ⟨_, _, vs, _, p⟩ := (show ObjOk X.prog X.w H s.heap a (.dK kvs) from I.hok a _ ea)
    obtain ⟨o, es, ep, h1, h2, _⟩ := p
    exact PySem.W.kia_one PySem.W.kitx_dict I.kIn ⟨o, h1, h2.1⟩ e (fun z => nomatch z) h
  | @dT a kvs ea =>
    cases (show u = Value.ref a from rx)
    obtain ⟨_, _, xs, _, o, es, ep, h1, h2, _⟩ := (show ObjOk X.prog X.w H s.heap a (.dT kvs) from I.hok a _ ea)
    exact PySem.W.kia_one PySem.W.kitx_dict I.kIn ⟨o, h1, h2.1⟩ e (fun z => nomatch z) h
  | @ins a C dx fs ea cl ha hn htk hm =>
    cases (show u = Value.ref a from rx)
    obtain ⟨mA, O, _⟩ := ins_get I.hok ea
    obtain ⟨od, J, _⟩ := O.look
    exact PySem.W.kia_one (PySem.W.kitx_own (cl.get _) cl.hd ha hn htk hm) I.kIn J e (fun z => nomatch z) h
end
end L2

namespace L2
open PySem PySem.Spec PyProof.Rows

/-! ### room -/
structure Room (k : Nat) (A : Around) : Prop where
  hd : A.handled = none
  dp : A.depth + 3 * k + 5 < recursionLimit
  un : A.units + 16 * k + 200 < cLine
  gd : A.guards = some []
theorem Room.mono {j k : Nat} {A : Around} (r : Room k A) (h : j ≤ k) : Room j A := ⟨r.hd, by have := r.dp; omega, by have := r.un; omega, r.gd⟩
theorem Room.deeper {k : Nat} {A : Around} (r : Room (k + 1) A) (env : Env) : Room k (A.deeper env) :=
  ⟨r.hd, by have := r.dp; show A.depth + 1 + 3 * k + 5 < _; omega, by have := r.un; show A.units + 3 + 16 * k + 200 < _; omega, r.gd⟩
theorem Room.depth {k : Nat} {A : Around} (r : Room k A) : A.depth < recursionLimit := by have := r.dp; omega
theorem Room.units {k : Nat} {A : Around} (r : Room k A) : A.units + 64 < cLine := by have := r.un; omega
/-! ### argument lists and displays -/
def tNil : TA := fun _ H Q => Q [] H
def tCons (ta : TE) (tr : TA) : TA := fun σ H Q => ta σ H fun x H1 => tr σ H1 fun xs H2 => Q (x :: xs) H2
section
variable {X : Cx} {e : Expr} {es : List Expr} {te : TE} {t : TA} {pos : Pos}
theorem pa_nil : PA X [] tNil := fun _ _ _ _ H Q I h => Calls.spliced_nil ⟨[], H, I, .nil, h⟩
theorem pa_cons (ha : PE X e te) (hr : PA X es t) (hs : starEach (e :: es) X.env = (false, eval e X.env) :: starEach es X.env := by rfl) : PA X (e :: es) (tCons te t) := by
  intro pos pins s σ H Q I h
  rw [hs]
  show wpAny _ _ (spliced ((false, eval e X.env) :: backTo pos (starEach es X.env))) _ _ s
  refine Calls.spliced_cons (thn (ha pins s σ H _ I h) fun u s1 ⟨x, H1, I1, r1, q1⟩ => ?_)
  exact thn (hr pos pins s1 σ H1 _ I1 q1) fun us s2 ⟨xs, H2, I2, r2, q2⟩ => ⟨x :: xs, H2, I2, .cons r1 r2, q2⟩

/-- a tuple, a list of written items -/
def tTup (t : TA) : TE := fun σ H Q => t σ H fun xs H1 => xs.length ≤ sizeLine ∧ ∀ p, H1 p = none → Q (.ref p) (upd H1 p (.tup xs))
def tLst (t : TA) : TE := fun σ H Q => t σ H fun xs H1 => xs.length ≤ sizeLine ∧ ∀ p, H1 p = none → Q (.ref p) (upd H1 p (.lst xs))
theorem pe_tup {x1} (h : PA X es t) : PE X (.Tuple es x1 pos) (tTup t) := by
  intro pins s σ H Q I hq
  refine wpAny_Tuple_spliced (thn (h pos pins s σ H _ I hq) fun us s1 ⟨xs, H1, I1, r, z, q⟩ => ⟨by rw [← r.length]; exact z, ?_⟩)
  have hf : H1 s1.heap.objs.size = none := I1.hok.fresh (Nat.le_refl _)
  refine ⟨.ref s1.heap.objs.size, upd H1 s1.heap.objs.size (.tup xs), I1.laid (t' := s1.toks) (fun b u e => Heap.get?_push_of_some _ e) (Nat.le_refl _) ?_, rfl, q _ hf⟩
  exact ⟨z, us, r, ⟨_, Heap.get?_push_size _ rfl, rfl, _, rfl⟩⟩
theorem pe_lst (h : PA X es t) : PE X (.List es pos) (tLst t) := by
  intro pins s σ H Q I hq
  refine wpAny_List_spliced (thn (h pos pins s σ H _ I hq) fun us s1 ⟨xs, H1, I1, r, z, q⟩ => ⟨by rw [← r.length]; exact z, ?_⟩)
  have hf : H1 s1.heap.objs.size = none := I1.hok.fresh (Nat.le_refl _)
  refine ⟨.ref s1.heap.objs.size, upd H1 s1.heap.objs.size (.lst xs), I1.laid (t' := s1.toks) (fun b u e => Heap.get?_push_of_some _ e) (Nat.le_refl _) ?_, rfl, q _ hf⟩
  exact ⟨z, us, 0, r, Heap.get?_push_size _ rfl⟩
end

/-! ### what a def promises -/
/-- a def's promise: the bound arguments in the parameters' order, the heap, the wanted end, the wanted exception -/
abbrev Sp := List V → Hp → VK → XK → Prop
/-- how an exception lies behind a call (file 08 gives it): the callers' frames, abstract heap and state ahead of the call, the wish, the exception, the state -/
abbrev CXT := List Env → Hp → Shared → XK → Value → Shared → Prop

/-- the state at a call -/
structure Env0 (P : Program) (w : World) (K : PySem.W.Frag) (mg : Str → Option Value) (base : Heap) (A : Around) (outer : List Env) (s : Shared) (H : Hp) : Prop where
  frames : A.frames = some outer
  mod : Mod K mg base
  bs : ∀ b o, base.get? b = some o → s.heap.get? b = some o ∧ H b = none
  bsz : base.objs.size ≤ s.heap.objs.size
  funs : s.heap.FunFrames base outer
  frf : ∀ b ∈ frs outer, H b = none
  hok : HOk P w H s.heap
  bare : AllBare s.gens
/-- a call's end -/
def CE (outer : List Env) (P : Program) (w : World) (H : Hp) (s : Shared) (Q : VK) (u : Value) (s' : Shared) : Prop :=
  ∃ v H', s'.os = s.os ∧ AllBare s'.gens ∧ Un (frs outer) [] H H' s.heap s'.heap ∧ HOk P w H' s'.heap ∧ RelV v u ∧ Q v H'
def CR (CX : CXT) (outer : List Env) (P : Program) (w : World) (H : Hp) (s : Shared) (Q : VK) (E : XK) (r : Result) (s' : Shared) : Prop :=
  match r with
  | .ok (.ret u) => CE outer P w H s Q u s'
  | .ok _ => False
  | .error e => CX outer H s E e s'
structure FnOk (P : Program) (w : World) (K : PySem.W.Frag) (mg : Str → Option Value) (base : Heap) (CX : CXT) (k : Nat) (f : Addr) (fd : FuncData) (ps : List Str) (sp : Sp) : Prop where
  len : ∀ vs H Q E, sp vs H Q E → vs.length = ps.length
  run : ∀ (A : Around) (outer : List Env) (s : Shared) (H : Hp) (args : Args) (us : List Value) (vs : List V) (Q : VK) (E : XK), Room k A → Env0 P w K mg base A outer s H → BindsTo s fd args (ps.zip us) → Vals vs us → sp vs H Q E →
    codeAny (model P w) A (.call (.ref f) args) (CR CX outer P w H s Q E) s
section
variable {X : Cx} {pins : List (Addr × Obj)} {σ : St} {H : Hp} {s s' : Shared}
/-- from a body: what a callee wants -/
theorem Inv.env0 (I : Inv X pins σ H s) : Env0 X.prog X.w X.K X.mg X.base X.A X.stack s H :=
  ⟨I.ok.frames, I.ok.mod, I.bs, Nat.le_trans I.ok.bsz I.sz, I.stack, I.stkFree, I.hok, I.bare⟩
/-- behind a call -/
theorem Inv.after {Q : VK} {u : Value} (I : Inv X pins σ H s) (h : CE X.stack X.prog X.w H s Q u s') : EP X pins σ Q u s' := by
  obtain ⟨v, H', os, bare, un, hok, r, q⟩ := h
  obtain ⟨hh, g, d, t, os'⟩ := s'
  obtain rfl : os' = s.os := os
  exact ⟨v, H', I.call (h' := hh) (g' := g) (d' := d) (t' := t) (ch := []) un hok bare (fun b z => absurd z (by simp)), r, q⟩
end

/-! ### calls -/
/-- f(..): the written arguments, then the defaults dvs; E: what is wanted of an exception -/
def tCall (sp : Sp) (dvs : List V) (E : XK) (t : TA) : TE := fun σ H Q => t σ H fun vs H1 => sp (vs ++ dvs) H1 Q E
/-- how the parameters are bound: us the positional arguments, kw the keywords' values by name, ds the defaults that fill up -/
def Binds (K : PySem.W.Frag) (fd : FuncData) (ps : List Str) (ds : List Value) : Prop :=
  ∀ (s : Shared) (us : List Value), K.In s.heap → (us ++ ds).length = ps.length → BindsTo s fd ⟨us, []⟩ (ps.zip (us ++ ds))
/-- every parameter is given -/
theorem Binds.all {K : PySem.W.Frag} {fd : FuncData} {ps : List Str} (h : ∀ us : List Value, us.length = ps.length → bindArgs fd ⟨us, []⟩ = pure (ps.zip us)) : Binds K fd ps [] := fun s us _ hl => by
  rw [List.append_nil] at hl ⊢
  exact .of_eq (h us hl)

/-- an exception of a callee reaches what this body wants of exceptions -/
def Passes (CX : CXT) (X : Cx) (E : XK) : Prop := ∀ (pins : List (Addr × Obj)) (σ : St) (H : Hp) (s : Shared) (e : Value) (s' : Shared), Inv X pins σ H s → CX X.stack H s E e s' → X.xe e s'

section
variable {X : Cx} {CX : CXT} {k : Nat} {f C : Addr} {fd : FuncData} {ps : List Str} {sp : Sp} {dvs : List V} {ds : List Value} {E : XK} {x m : Str} {p pos apos : Pos} {e o : Expr} {es : List Expr} {ta : TE} {t : TA}

/-- the callee runs -/
theorem run_fn {pins : List (Addr × Obj)} {σ : St} {H : Hp} {s : Shared} {Q : VK} {us : List Value} {vs : List V} (F : FnOk X.prog X.w X.K X.mg X.base CX k f fd ps sp) (hr : Room k X.A) (hb : Binds X.K fd ps ds) (hd : Vals dvs ds) (hx : Passes CX X E)
    (I : Inv X pins σ H s) (r : Vals vs us) (h : sp (vs ++ dvs) H Q E) : wpAny (model X.prog X.w) X.A (call (.ref f) us) (EP X pins σ Q) X.xe s := by
  have r2 : Vals (vs ++ dvs) (us ++ ds) := r.append hd
  have hl : (us ++ ds).length = ps.length := by rw [← r2.length]; exact F.len _ _ _ _ h
  refine wpAny_call (codeAny_mono (F.run X.A X.stack s H ⟨us, []⟩ (us ++ ds) (vs ++ dvs) Q E hr I.env0 (hb s us I.kIn hl) r2 h) fun r s' hq => ?_)
  cases r with
  | error e => exact hx pins σ H s e s' I hq
  | ok fl =>
    cases fl with
    | ret u => exact I.after hq
    | next => exact False.elim hq
    | brk => exact False.elim hq
    | cont => exact False.elim hq

theorem pe_call (F : FnOk X.prog X.w X.K X.mg X.base CX k f fd ps sp) (hr : Room k X.A) (hg : Gl X x) (hm : X.mg x = some (.ref f)) (hk : PySem.W.keepIn X.K (.ref f) = true) (hb : Binds X.K fd ps ds) (hd : Vals dvs ds) (hx : Passes CX X E)
    (ha : PA X (e :: es) t) (hdb : (x == ("__debug__" : Str)) = false := by decide) (he : starEach (e :: es) X.env = (false, eval e X.env) :: starEach es X.env := by rfl) (hpl : (backTo pos (starEach es X.env)).any (·.1) = false := by rfl) :
    PE X (.Call (.Name x p) (e :: es) [] pos) (tCall sp dvs E t) := by
  intro pins s σ H Q I h
  refine wpAny_Call_Name_kw (ld_glob I hg hm ?_ hdb)
  refine PySem.W.callWith_K (h₀ := X.base) I.ok.mod.kin hk (thn (ha pos pins s σ H _ I h) fun us s1 ⟨vs, H1, I1, r, q⟩ => ⟨I1.kIn, ?_⟩) he hpl
  exact run_fn F hr hb hd hx I1 r q
end

/-! ### keywords -/
section
variable {X : Cx} {CX : CXT} {k : Nat} {f C : Addr} {fd : FuncData} {ps ks : List Str} {sp : Sp} {E : XK} {x m : Str} {p pos apos kpos : Pos} {e o : Expr} {es : List Expr} {kws : List Keyword} {te ta : TE} {t tk : TA} {nm : Option Str}
variable {g : List Value → List Value → List Value} {gV : List V → List V → List V}
end

/-! ### a def's body keeps its promise -/
/-- names: the parameters first -/
structure FnScope (N P : List Str) (sc : Scope) : Prop where
  kind : sc.kind = .function
  co : sc.isCoroutine = false
  gen : sc.isGenerator = false
  nd : N.Nodup
  pre : N.take P.length = P
  par : ∀ x ∈ P, sc.names.lookup x = some .local ∨ sc.names.lookup x = some .cell
  nofree : ∀ y ∈ sc.names, y.2 ≠ .free

theorem bindL_out {kindOf : Str → Option NameKind} {x : Str} : ∀ {binds : List (Str × Value)} {m : Str → Option Value}, (∀ v, (x, v) ∉ binds) → bindL kindOf binds m x = m x
  | [], _, _ => rfl
  | (n, v) :: r, m, h => by
    unfold bindL
    rw [bindL_out fun w hw => h w (List.mem_cons_of_mem _ hw)]
    split
    · have : x ≠ n := by rintro rfl; exact h v List.mem_cons_self
      simp [this]
    · rfl
theorem bindC_out {kindOf : Str → Option NameKind} {x : Str} : ∀ {binds : List (Str × Value)} {m : Str → Option Value}, (∀ v, (x, v) ∉ binds) → bindC kindOf binds m x = m x
  | [], _, _ => rfl
  | (n, v) :: r, m, h => by
    unfold bindC
    rw [bindC_out fun w hw => h w (List.mem_cons_of_mem _ hw)]
    split
    · rfl
    · have : x ≠ n := by rintro rfl; exact h v List.mem_cons_self
      simp [this]
theorem bindL_get {kindOf : Str → Option NameKind} {x : Str} {v : Value} : ∀ {P : List Str} {vs : List Value} {i : Nat} {m : Str → Option Value}, P.Nodup → P[i]? = some x → vs[i]? = some v → kindOf x = some .local →
    bindL kindOf (P.zip vs) m x = some v
  | [], _, _, _, _, h, _, _ => by simp at h
  | _ :: _, [], _, _, _, _, h, _ => by simp at h
  | p :: P, w :: vs, 0, m, nd, h1, h2, hk => by
    simp at h1 h2; subst h1; subst h2
    show bindL kindOf ((p, w) :: P.zip vs) m p = _
    unfold bindL
    rw [bindL_out fun v hv => (List.nodup_cons.mp nd).1 (List.of_mem_zip hv).1, if_pos hk]
    simp
  | p :: P, w :: vs, i + 1, m, nd, h1, h2, hk => by
    show bindL kindOf ((p, w) :: P.zip vs) m x = _
    unfold bindL
    exact bindL_get (i := i) (List.nodup_cons.mp nd).2 (by simpa using h1) (by simpa using h2) hk
theorem bindC_get {kindOf : Str → Option NameKind} {x : Str} {v : Value} : ∀ {P : List Str} {vs : List Value} {i : Nat} {m : Str → Option Value}, P.Nodup → P[i]? = some x → vs[i]? = some v → kindOf x ≠ some .local →
    bindC kindOf (P.zip vs) m x = some v
  | [], _, _, _, _, h, _, _ => by simp at h
  | _ :: _, [], _, _, _, _, h, _ => by simp at h
  | p :: P, w :: vs, 0, m, nd, h1, h2, hk => by
    simp at h1 h2; subst h1; subst h2
    show bindC kindOf ((p, w) :: P.zip vs) m p = _
    unfold bindC
    rw [bindC_out fun v hv => (List.nodup_cons.mp nd).1 (List.of_mem_zip hv).1, if_neg hk]
    simp
  | p :: P, w :: vs, i + 1, m, nd, h1, h2, hk => by
    show bindC kindOf ((p, w) :: P.zip vs) m x = _
    unfold bindC
    exact bindC_get (i := i) (List.nodup_cons.mp nd).2 (by simpa using h1) (by simpa using h2) hk

/-- the names' values at the entry -/
def start (N : List Str) (vs : List V) : St := vs.map some ++ List.replicate (N.length - vs.length) none

/-- the context of a def's body, at its entry; an exception leaves the frame, then lies as CX says -/
def cxOf (CX : CXT) (P : Program) (w : World) (K : PySem.W.Frag) (mg : Str → Option Value) (base : Heap) (N : List Str) (qual : Str) (scope : Scope) (f : Addr) (cd : Value) (A : Around) (outer : List Env) (s : Shared) (H : Hp) (E : XK) : Cx where
  prog := P
  w := w
  K := K
  mg := mg
  base := base
  A := A.deeper (envOfC qual scope s.heap.objs.size f cd)
  N := N
  s₀ := s
  H₀ := H
  env := envOfC qual scope s.heap.objs.size f cd
  outer := outer
  stack := envOfC qual scope s.heap.objs.size f cd :: outer
  ex := []
  calm := true
  fn := fun _ => true
  pn := []
  xe := fun e s' => wpAny (model P w) (A.deeper (envOfC qual scope s.heap.objs.size f cd)) (leaving (envOfC qual scope s.heap.objs.size f cd) e) (fun _ s'' => CX outer H s E e s'') (fun e' s'' => CX outer H s E e' s'') s'

theorem cell_has {sc : Scope} {n : Nat} {x : Str} (h : sc.names.lookup x = some .cell) : ∃ c, (cellsFrom n sc.names []).lookup x = some c := by
  have q := PySem.W.cellsFrom_some sc.names n [] (.inl h)
  exact Option.isSome_iff_exists.mp q

theorem inv_start {CX : CXT} {P : Program} {w : World} {K : PySem.W.Frag} {mg : Str → Option Value} {base : Heap} {N ps : List Str} {qual : Str} {scope : Scope} {f : Addr} {cd : Value} {A : Around} {outer : List Env} {s s1 : Shared} {H : Hp} {E : XK} {us : List Value} {vs : List V}
    (S : FnScope N ps scope) (hd : A.handled = none) (e0 : Env0 P w K mg base A outer s H) (hl : vs.length = ps.length) (r : Vals vs us)
    (x : InCallC s s.heap.objs.size (bindL (envOfC qual scope s.heap.objs.size f cd).kindOf (ps.zip us) fun _ => none) (cellsFrom (s.heap.objs.size + 1) scope.names []) (bindC (envOfC qual scope s.heap.objs.size f cd).kindOf (ps.zip us) fun _ => none) s1) :
    Inv (cxOf CX P w K mg base N qual scope f cd A outer s H E) [] (start N vs) H s1 := by
  have hpl : ps.length ≤ N.length := by have := congrArg List.length S.pre; rw [List.length_take] at this; omega
  obtain ⟨h1, tk, rfl, hk⟩ := x.done
  have noA : ∀ b : Addr, b ∉ (cxOf CX P w K mg base N qual scope f cd A outer s H E).ex := fun b z => absurd (show b ∈ ([] : List Addr) from z) (by simp)
  refine ⟨⟨e0.mod, S.kind, rfl, rfl, Nat.le_refl _, fun y z c h1 h2 => ?_, fun y hy => ?_, fun y c _ h => ?_, fun _ => hd, Around.frames_deeper e0.frames, .inr ⟨rfl, rfl⟩, fun b z => absurd z (noA b), e0.bs, e0.bsz, fun b _ _ => noA b, fun b z => absurd z (noA b), e0.funs, e0.frf⟩,
    rfl, e0.bare, Un.kept hk, ⟨_, x.toInCall.ns, fun i y v h1 h2 h3 => ?_⟩, fun y c h => ⟨_, x.cell y c h⟩, e0.hok.fresh (Nat.le_refl _), fun y c h => ?_, fun p hp => absurd (show p ∈ ([] : List (Addr × Obj)) from hp) (by simp), e0.hok.kept hk, ?_⟩
  · exact name_of_addr x.apart (PySem.mem_of_lookup h1) (PySem.mem_of_lookup h2)
  · have hy : scope.names.lookup y = some .cell ∨ scope.names.lookup y = some .free := hy
    rcases hy with hy | hy
    · exact cell_has hy
    · exact absurd rfl (S.nofree _ (PySem.mem_of_lookup hy))
  · exact Nat.le_of_lt (x.above y c (PySem.mem_of_lookup h))
  · have hi : i < vs.length := by
      unfold start at h2
      by_cases hi : i < vs.length
      · exact hi
      · rw [List.getElem?_append_right (by simpa using hi)] at h2
        rw [List.getElem?_replicate] at h2
        split at h2 <;> cases h2
    have ha : vs[i]? = some v := by
      unfold start at h2
      rw [List.getElem?_append_left (by simpa using hi), List.getElem?_map] at h2
      cases e : vs[i]? with
      | none => rw [e] at h2; cases h2
      | some a => rw [e] at h2; cases h2; rfl
    obtain ⟨u, hu, rv⟩ := r.get ha
    have hp : ps[i]? = some y := by
      rw [← S.pre, List.getElem?_take_of_lt (by omega)]; exact h1
    have ndP : ps.Nodup := by rw [← S.pre]; exact S.nd.sublist (List.take_sublist _ _)
    refine ⟨u, rv, ?_⟩
    rcases S.par y (List.mem_of_getElem? hp) with k | k
    · exact .inl ⟨k, bindL_get ndP hp hu k⟩
    · obtain ⟨c, e⟩ := cell_has (n := s.heap.objs.size + 1) k
      refine .inr ⟨.inl k, c, e, ?_⟩
      have q := x.cell y c e
      rw [bindC_get ndP hp hu (by show scope.names.lookup y ≠ _; rw [k]; decide)] at q
      exact q
  · exact e0.hok.fresh (Nat.le_of_lt (x.above y c (PySem.mem_of_lookup h)))
  · unfold start
    show _ = N.length
    rw [List.length_append, List.length_map, List.length_replicate]
    omega

/-- THE RULE: a def (or a method) of the text, by its body. The body's reading t is chosen for each entry; it is run at the parameters' values -/
theorem fn_of {CX : CXT} {P : Program} {w : World} {K : PySem.W.Frag} {mg : Str → Option Value} {base : Heap} {k : Nat} {f : Addr} {name qual : Str} {params : Arguments} {body : List Stmt} {scope : Scope} {dV kV doc pm cdv ct oc : Value} {an od : Option Addr}
    {osl : Array (Option Value)} {N ps : List Str} {sp : Sp} (lk : K.lookup f = some ⟨oc, od, .func (PySem.W.fnOf name qual params body scope dV kV doc pm an cdv ct), osl⟩) (hcd : PySem.W.codeIn K cdv qual = true) (S : FnScope N ps scope)
    (len : ∀ vs H Q E, sp vs H Q E → vs.length = ps.length)
    (hbody : ∀ (A : Around) (outer : List Env) (s : Shared) (H : Hp) (vs : List V) (Q : VK) (E : XK), Room k (A.deeper (envOfC qual scope s.heap.objs.size f cdv)) → sp vs H Q E →
      ∃ t, PSs (cxOf CX P w K mg base N qual scope f cdv A outer s H E) body t ∧ t { nx := fun _ H' => Q .non H', rt := Q } (start N vs) H) :
    FnOk P w K mg base CX (k + 1) f (PySem.W.fnOf name qual params body scope dV kV doc pm an cdv ct) ps sp := by
  refine ⟨len, fun A outer s H args us vs Q E hr e0 hb r hsp => ?_⟩
  have hl := len _ _ _ _ hsp
  have KX : K.In s.heap := e0.mod.kin.keeps fun b o e => (e0.bs b o e).1
  have lim : s.heap.NoLimit := e0.mod.nolimit.keeps fun b o e => (e0.bs b o e).1
  have hkind : ∀ y ∈ ps.zip us, scope.names.lookup y.1 = some .local ∨ (scope.names.lookup y.1 = some .cell ∧ ((cellsFrom (s.heap.objs.size + 1) scope.names []).lookup y.1).isSome = true) := fun ⟨n, v⟩ hy => by
    rcases S.par n (List.of_mem_zip hy).1 with q | q
    · exact .inl q
    · exact .inr ⟨q, PySem.W.cellsFrom_some _ _ _ (.inl q)⟩
  refine codeAny_call_function hr.depth (KX _ _ lk) rfl S.co S.gen rfl (PySem.W.codeRec_of KX hcd) (hb _ _ _ _ ?_)
  refine wpAny_newFunctionEnv_cells S.kind hkind fun env he s1 x => ?_
  subst he
  refine ⟨lim.keeps x.toInCall.keep, codeAny_func ?_⟩
  obtain ⟨t, ht, hq⟩ := hbody A outer s H vs Q E (hr.deeper _) hsp
  have I : Inv (cxOf CX P w K mg base N qual scope f cdv A outer s H E) [] (start N vs) H s1 := inv_start S hr.hd e0 hl r x
  refine wpAny_mono (ht [] s1 (start N vs) H _ I hq) (fun fl s' hs => ?_) fun e s' hs => hs
  have fin : ∀ {σ' : St} {H' : Hp} {v : V} {u : Value}, Inv (cxOf CX P w K mg base N qual scope f cdv A outer s H E) [] σ' H' s' → RelV v u → Q v H' → CE outer P w H s Q u s' :=
    fun {σ' H' v u} J rv q => ⟨v, H', J.os, J.bare, J.base, J.hok, rv, q⟩
  cases fl with
  | ret u =>
    obtain ⟨v, σ', H', J, rv, q⟩ := hs
    exact fin J rv q
  | next =>
    obtain ⟨σ', H', J, q⟩ := hs
    exact fin (v := V.non) (u := Value.none) J rfl q
  | brk =>
    obtain ⟨_, _, _, q⟩ := hs
    exact False.elim q
  | cont =>
    obtain ⟨_, _, _, q⟩ := hs
    exact False.elim q
end L2

namespace L2
open PySem PySem.Spec PyProof.Rows
section
variable {X : Cx} {x : Str} {p pos : Pos} {e : Expr} {es : List Expr} {t : TA} {id T : String} {r : List V → Hp → VK → Prop}

def tCB (r : List V → Hp → VK → Prop) (t : TA) : TE := fun σ H Q => t σ H fun vs H1 => r vs H1 Q
/-- f(e, ..), f a built-in function -/
theorem pe_callB (hc : CallR X (.builtin id) r) (hg : Gl X x) (hm : X.mg x = none) (hv : bootBuiltins x = some (.builtin id)) (ha : PA X (e :: es) t) (hn : x ≠ "__name__" := by decide) (hdb : (x == ("__debug__" : Str)) = false := by decide)
    (he : starEach (e :: es) X.env = (false, eval e X.env) :: starEach es X.env := by rfl) (hpl : (backTo pos (starEach es X.env)).any (·.1) = false := by rfl) : PE X (.Call (.Name x p) (e :: es) [] pos) (tCB r t) := by
  intro pins s σ H Q I h
  refine wpAny_Call_Name_kw (ld_blt I hg hm hv ?_ hn hdb)
  exact PyProof.Rows.callWith_builtin1 (thn (ha pos pins s σ H _ I h) fun us s1 ⟨vs, H1, I1, r1, q1⟩ => hc pins s1 σ H1 vs us Q I1 r1 q1) he hpl
/-- T(e, ..), T a built-in type -/
theorem pe_callTy (hc : CallR X (.type T) r) (hg : Gl X x) (hm : X.mg x = none) (hv : bootBuiltins x = some (.type T)) (ha : PA X (e :: es) t) (hn : x ≠ "__name__" := by decide) (hdb : (x == ("__debug__" : Str)) = false := by decide)
    (he : starEach (e :: es) X.env = (false, eval e X.env) :: starEach es X.env := by rfl) (hpl : (backTo pos (starEach es X.env)).any (·.1) = false := by rfl) : PE X (.Call (.Name x p) (e :: es) [] pos) (tCB r t) := by
  intro pins s σ H Q I h
  refine wpAny_Call_Name_kw (ld_blt I hg hm hv ?_ hn hdb)
  exact PyProof.Rows.callWith_type1 (thn (ha pos pins s σ H _ I h) fun us s1 ⟨vs, H1, I1, r1, q1⟩ => hc pins s1 σ H1 vs us Q I1 r1 q1) he hpl
end
end L2

namespace L2
open PySem PySem.Spec PyProof.Rows

/-! ### lists of pairs as tables -/
section
variable {κ : Type} [DecidableEq κ]
end


/-! ### a tracked dict, its keys ints and texts or tuples of these -/
section
variable {P : Program} {w : World} {H : Hp} {h : Heap} {a : Addr}
end

section
variable {X : Cx} {pins : List (Addr × Obj)} {σ : St} {H : Hp} {s : Shared} {a : Addr} {y v : V} {u r : Value} {o : Option V} {A : Around} {E : Value → Shared → Prop}

end

section
variable {X : Cx} {pins : List (Addr × Obj)} {σ : St} {H : Hp} {s : Shared} {a : Addr} {kvs : List (Key × V)} {k : Key} {u : Value} {A : Around} {E : Value → Shared → Prop}
end


/-! ### readings and rules -/
section
variable {X : Cx} {o i e value : Expr} {pos pos' tpos : Pos} {td ty tv : TE}
end


/-! ### displays -/
section
variable {X : Cx} {pos : Pos}
end

/-! ### methods -/
section
variable {X : Cx} {pins : List (Addr × Obj)} {σ : St} {H : Hp} {s : Shared} {a : Addr} {y d : V} {u r : Value} {o : Option V} {A : Around} {E : Value → Shared → Prop}
end

section
variable {X : Cx} {o e f : Expr} {apos cpos : Pos} {td ty tx : TE}
end

/-! ### dict(d): a copy -/
section
variable {X : Cx} {pins : List (Addr × Obj)} {σ : St} {H : Hp} {s : Shared} {a : Addr} {kvs : List (Key × V)} {A : Around} {E : Value → Shared → Prop}
end


section
variable {X : Cx} {pins : List (Addr × Obj)} {σ : St} {H : Hp} {s : Shared} {a : Addr} {y : V} {u : Value} {A : Around} {E : Value → Shared → Prop}
end
end L2

namespace HT
open PySem PyProof.Rows

section
open PySem.SeqAt
open PySem.AutoSeq1 (wpAny_loadPart')
open PySem.MeetsSeq PySem.MeetsSeq2 PySem.MeetsSeq3

end

section
variable {prog : Program} {w : World} {A : Around} {E : Value → Shared → Prop} {s : Shared}

/-! ### t[a:b], not the whole -/
/-- a slice's bound as a place among n (d where it is left out) -/
def sIx (n d : Nat) : Option Int → Nat
  | none => d
  | some v => if v < 0 then (v + (n : Int)).toNat else min v.toNat n
theorem sIx_none (n d : Nat) : sIx n d none = d := rfl
theorem sIx_nat (n d k : Nat) : sIx n d (some (k : Int)) = min k n := by
  show (if (k : Int) < 0 then ((k : Int) + (n : Int)).toNat else min (k : Int).toNat n) = min k n
  rw [if_neg (by omega), Int.toNat_natCast]
end
end HT

namespace L2
open PySem PySem.Spec PyProof.Rows

/-! ### the parts of a slice -/
abbrev TO := St → Hp → (Option Int → Hp → Prop) → Prop
/-- a slice's part (left out, or an int) -/
def PO (X : Cx) (e : Option Expr) (t : TO) : Prop :=
  ∀ (pins : List (Addr × Obj)) (s : Shared) (σ : St) (H : Hp) (Q : Option Int → Hp → Prop), Inv X pins σ H s → t σ H Q →
    wpAny (model X.prog X.w) X.A (evalPart e X.env) (fun u s' => ∃ o H', Inv X pins σ H' s' ∧ IsPart u o ∧ Q o H') X.xe s
def tNoPart : TO := fun _ H Q => Q none H
def tPart (t : TE) : TO := fun σ H Q => t σ H fun x H1 => ∃ i, x = .int i ∧ Q (some i) H1

section
variable {X : Cx} {e : Expr} {te : TE} {lo hi : Option Expr} {tl th : TO} {pos p2 : Pos}

theorem po_none : PO X none tNoPart := by
  intro pins s σ H Q I h
  rw [evalPart_none]
  exact wpAny_pure ⟨none, H, I, .none, h⟩
theorem po_some (h : PE X e te) : PO X (some e) (tPart te) := by
  intro pins s σ H Q I hw
  rw [evalPart_some]
  refine thn (h pins s σ H _ I hw) fun u s1 ⟨x, H1, I1, r1, q1⟩ => ?_
  obtain ⟨i, rfl, q⟩ := q1
  obtain ⟨t, rfl⟩ := r1
  exact ⟨some i, H1, I1, .int i t, q⟩

/-- what a slice of a value is, by values: the slice object stands at sl -/
def SlR (X : Cx) (r : V → Option Int → Option Int → Hp → VK → Prop) : Prop :=
  ∀ (pins : List (Addr × Obj)) (s : Shared) (σ : St) (H : Hp) (x : V) (v vl vu : Value) (lo hi : Option Int) (sl : Addr) (Q : VK), Inv X pins σ H s → RelV x v → s.heap.IsSliceOf sl vl vu .none → IsPart vl lo → IsPart vu hi → r x lo hi H Q →
    ∃ T id, typeLookup (.type T) "__getitem__" = pure (some (.builtin id)) ∧ s.TypeIs v T ∧ wpAny (model X.prog X.w) X.A (getItem v (.ref sl)) (EP X pins σ Q) X.xe s
def tSl (r : V → Option Int → Option Int → Hp → VK → Prop) (te : TE) (tl th : TO) : TE := fun σ H Q => te σ H fun x H1 => tl σ H1 fun l H2 => th σ H2 fun u H3 => r x l u H3 Q
/-- a[lo:hi], any a -/
theorem pe_slice {r : V → Option Int → Option Int → Hp → VK → Prop} (hr : SlR X r) (he : PE X e te) (hl : PO X lo tl) (hu : PO X hi th) : PE X (.Subscript e (.Slice lo hi none p2) pos) (tSl r te tl th) := by
  intro pins s σ H Q I h
  refine Subscript_ (thn (he pins s σ H _ I h) fun v s1 ⟨x, H1, I1, r1, q1⟩ => ?_)
  refine wpAny_Slice (thn (hl pins s1 σ H1 _ I1 q1) fun vl s2 ⟨l, H2, I2, pl, q2⟩ => thn (hu pins s2 σ H2 _ I2 q2) fun vu s3 ⟨u, H3, I3, pu, q3⟩ => ?_)
  rw [evalPart_none]
  refine wpAny_pure ?_
  have I4 : Inv X pins σ H3 { s3 with heap := s3.heap.push { cls := .type "slice", data := .fields #[vl, vu, .none] } } := I3.kept (t' := s3.toks) fun b ob q => Heap.get?_push_of_some _ q
  obtain ⟨T, id, hT, ht, hg⟩ := hr pins { s3 with heap := s3.heap.push { cls := .type "slice", data := .fields #[vl, vu, .none] } } σ H3 x v vl vu l u s3.heap.objs.size Q I4 r1 (Heap.IsSliceOf.new ..) pl pu q3
  show wpAny (model X.prog X.w) X.A (subscriptTail e (.Slice lo hi none p2) v (.ref s3.heap.objs.size)) (EP X pins σ Q) X.xe { s3 with heap := s3.heap.push { cls := .type "slice", data := .fields #[vl, vu, .none] } }
  exact tail_any (ops := [.ref s3.heap.objs.size, v]) ht hT hg (by with_unfolding_all rfl)

/-- the items of xs[lo:hi] -/
def cutV (xs : List V) (lo hi : Option Int) : List V := (xs.drop (HT.sIx xs.length 0 lo)).take (HT.sIx xs.length xs.length hi - HT.sIx xs.length 0 lo)
theorem cutV_length (xs : List V) (lo hi : Option Int) : (cutV xs lo hi).length ≤ xs.length := by
  unfold cutV
  rw [List.length_take, List.length_drop]
  omega
/-! ### t < u, t + u -/
end
end L2

namespace L2
open PySem PySem.Spec PyProof.Rows

/-! ### places -/
/-- the place that an index of any sign means -/
def ixN (n : Nat) (i : Int) : Option Nat := if 0 ≤ i then (if i < n then some i.toNat else none) else if -(n : Int) ≤ i then some (i + n).toNat else none
def atI {α : Type} (xs : List α) (i : Int) : Option α := (ixN xs.length i).bind fun j => xs[j]?
theorem ixN_seq {n : Nat} {i : Int} {j : Nat} (h : ixN n i = some j) : seqIndex? i n = some j ∧ j < n ∧ -(n : Int) ≤ i ∧ i < n := by
  unfold ixN at h
  by_cases h0 : 0 ≤ i
  · rw [if_pos h0] at h
    by_cases h1 : i < n
    · rw [if_pos h1] at h
      have e : i.toNat = j := Option.some.inj h
      exact ⟨by rw [seqIndex_of h0 h1, e], by omega, by omega, h1⟩
    · rw [if_neg h1] at h; cases h
  · rw [if_neg h0] at h
    by_cases h1 : -(n : Int) ≤ i
    · rw [if_pos h1] at h
      have e : (i + n).toNat = j := Option.some.inj h
      exact ⟨by rw [seqIndex_neg (by omega) h1, e], by omega, h1, by omega⟩
    · rw [if_neg h1] at h; cases h
theorem atI_get {α : Type} {xs : List α} {i : Int} {v : α} (h : atI xs i = some v) : ∃ j, seqIndex? i xs.length = some j ∧ xs[j]? = some v ∧ j < xs.length ∧ -(xs.length : Int) ≤ i ∧ i < xs.length := by
  unfold atI at h
  cases e : ixN xs.length i with
  | none => rw [e] at h; cases h
  | some j =>
    rw [e] at h
    obtain ⟨h1, h2, h3, h4⟩ := ixN_seq e
    exact ⟨j, h1, h, h2, h3, h4⟩
theorem atI_nat {α : Type} {xs : List α} {j : Nat} {v : α} (h : xs[j]? = some v) : atI xs (j : Int) = some v := by
  have hj : j < xs.length := (List.getElem?_eq_some_iff.mp h).1
  have e : ixN xs.length (j : Int) = some j := by
    unfold ixN
    rw [if_pos (by omega), if_pos (by omega)]; simp
  unfold atI; rw [e]; exact h
theorem atI_last {α : Type} (xs : List α) (v : α) : atI (xs ++ [v]) (-1) = some v := by
  have hl : (xs ++ [v]).length = xs.length + 1 := by simp
  have e : ixN (xs ++ [v]).length (-1) = some xs.length := by
    unfold ixN
    rw [hl, if_neg (by decide), if_pos (by omega)]
    congr 1
    omega
  unfold atI
  rw [e]
  show (xs ++ [v])[xs.length]? = some v
  simp

/-! ### what may be subscripted -/
/-- what stands as an index of a plain subscript -/
def PlainIx (b : Expr) : Prop := ∀ o i, subscripted b false o i = operate [o, i] (getItem o i)
/-- a subscript by values -/
def IxR (X : Cx) (r : R2) : Prop :=
  ∀ (value slice : Expr) (pins : List (Addr × Obj)) (s : Shared) (σ : St) (H : Hp) (x y : V) (v u : Value) (Q : VK), Inv X pins σ H s → RelV x v → RelV y u → r x y H Q →
    subscripted slice false v u = operate [v, u] (getItem v u) → wpAny (model X.prog X.w) X.A (subscriptTail value slice v u) (EP X pins σ Q) X.xe s
/-- a call of a builtin's method by values: the receiver, the arguments -/
def MtR (X : Cx) (id : String) (r : V → List V → Hp → VK → Prop) : Prop :=
  ∀ (pins : List (Addr × Obj)) (s : Shared) (σ : St) (H : Hp) (x : V) (xs : List V) (v : Value) (us : List Value) (Q : VK), Inv X pins σ H s → RelV x v → Vals xs us → r x xs H Q →
    wpAny (model X.prog X.w) X.A (call (.builtin id) (v :: us)) (EP X pins σ Q) X.xe s
section
variable {X : Cx} {a b : Expr} {ta tb : TE} {pos : Pos}
/-- a[b] -/
theorem pe_ix {r : R2} (hr : IxR X r) (ha : PE X a ta) (hb : PE X b tb) (hs : PlainIx b) : PE X (.Subscript a b pos) (tOp r ta tb) := by
  intro pins s σ H Q I h
  exact Subscript_ (binT ha hb I h fun v u s2 x y H2 I2 rx ry q => hr a b pins s2 σ H2 x y v u Q I2 rx ry q (hs _ _))

def rIxL (K : PySem.W.Frag) : R2 := fun x y H Q => ∃ p xs i v, x = .ref p ∧ y = .int i ∧ SqL K H p xs ∧ atI xs i = some v ∧ Q v H
def rIxS : R2 := fun x y H Q => ∃ z i c, x = .str z ∧ y = .int i ∧ z.length ≤ sizeLine ∧ atI z.cps.toList i = some c ∧ Q (.str ⟨#[c]⟩) H
theorem ix_list : IxR X (rIxL X.K) := by
  intro value slice pins s σ H x y v u Q I rx ry h hs
  obtain ⟨p, xs, i, z, rfl, rfl, hq, he, q⟩ := h
  cases rx
  obtain ⟨t, rfl⟩ := ry
  obtain ⟨its, r, pl, hz⟩ := I.list hq
  obtain ⟨j, h1, h2, h3, h4, h5⟩ := atI_get he
  obtain ⟨w, ew, rw'⟩ := r.get h2
  have hl := r.length
  have hn := line63
  have fin : EP X pins σ Q w s := ⟨z, H, I, rw', q⟩
  by_cases h0 : 0 ≤ i
  · have hj : i.toNat = j := by
      rw [seqIndex_of h0 h5] at h1
      exact Option.some.inj h1
    exact item_listR pl.isList h0 (by omega) (by rw [hj]; simpa using ew) fin hs
  · have hj : (i + (its.toArray.size : Int)).toNat = j := by
      rw [seqIndex_neg (by omega) h4] at h1
      rw [List.size_toArray, ← hl]
      exact Option.some.inj h1
    exact subscriptTail_builtinR (x := w) pl.isList.typeIs slot_list_getitem.lookup
      (wpAny_getItem_list_neg (Q := fun r s' => r = w ∧ EP X pins σ Q r s') pl.isList (by omega) (by rw [List.size_toArray] <;> omega) (by omega) (by rw [hj]; simpa using ew) ⟨rfl, fin⟩) hs
theorem ix_str : IxR X rIxS := by
  intro value slice pins s σ H x y v u Q I rx ry h hs
  obtain ⟨z, i, c, rfl, rfl, hz, he, q⟩ := h
  obtain ⟨t, rfl⟩ := rx
  obtain ⟨t', rfl⟩ := ry
  obtain ⟨j, h1, h2, h3, h4, h5⟩ := atI_get he
  have hl : z.cps.toList.length = z.length := by simp [Str.length]
  rw [hl] at h1 h4 h5
  have hn := line63
  exact tail_any (typeIs_str s z t) slot_str_getitem.lookup (getItem_str (c := c) (by
    have e1 : decide (i < -(2 ^ 63 : Int)) = false := decide_eq_false (by omega)
    have e2 : decide (i ≥ 2 ^ 63) = false := decide_eq_false (by omega)
    rw [e1, e2, Bool.or_false]) (by rw [h1]; simpa using h2) ⟨.str ⟨#[c]⟩, H, I.tok _, ⟨_, rfl⟩, q⟩) hs
/-! ### xs[i] = v, any sign -/
/-- the list's object behind a store -/
theorem mapSeq_set (its : List Value) (n j : Nat) (u : Value) : Obj.mapSeq (·.setIfInBounds j u) { cls := .type "list", data := .seq its.toArray n } = { cls := .type "list", data := .seq (its.set j u).toArray n } := by
  simp [Obj.mapSeq]
theorem Inv.lst {pins : List (Addr × Obj)} {σ : St} {H : Hp} {s : Shared} {p : Addr} {xs : List V} (I : Inv X pins σ H s) (h : H p = some (.lst xs)) :
    ∃ (its : List Value) (n : Nat), Vals xs its ∧ s.heap.get? p = some { cls := .type "list", data := .seq its.toArray n } ∧ xs.length ≤ sizeLine := by
  obtain ⟨z, its, n, r, e⟩ := I.hok p _ h
  exact ⟨its, n, r, e, z⟩
/-- the list at p is written by an update of its object -/
theorem Inv.lstUpd {pins : List (Addr × Obj)} {σ : St} {H : Hp} {s : Shared} {p : Addr} {xs ys : List V} {its its' : List Value} {n n' : Nat} {f : Obj → Obj} (I : Inv X pins σ H s) (h : H p = some (.lst xs))
    (ho : s.heap.get? p = some { cls := .type "list", data := .seq its.toArray n }) (hf : f { cls := .type "list", data := .seq its.toArray n } = { cls := .type "list", data := .seq its'.toArray n' }) (r : Vals ys its') (hz : ys.length ≤ sizeLine) (t : Nat) :
    Inv X pins σ (upd H p (.lst ys)) { s with heap := s.heap.update p f, toks := t } := by
  have e : (s.heap.update p f).get? p = some { cls := .type "list", data := .seq its'.toArray n' } := by
    rw [Heap.get?_update_self f ho (by rw [hf] <;> rfl), hf]
  refine I.write (x := p) (e := p) (by rw [h]; trivial) (.inl rfl) (fun b u hb q => (Heap.get?_update_other _ _ (Ne.symm hb)).trans q) ⟨_, e⟩ ?_
  exact ⟨hz, its', n', r, e⟩
def rSetL : V → V → V → Hp → (Hp → Prop) → Prop := fun o i v H Q => ∃ p xs k j, o = .ref p ∧ i = .int k ∧ H p = some (.lst xs) ∧ ixN xs.length k = some j ∧ Q (upd H p (.lst (xs.set j v)))
theorem set_list : PSet X rSetL := by
  intro pins s σ H o i v ov iv u Q I ro ri rv h
  obtain ⟨p, xs, k, j, rfl, rfl, hp, hj, q⟩ := h
  cases ro
  obtain ⟨t, rfl⟩ := ri
  obtain ⟨its, n, r, ho, hz⟩ := I.lst hp
  obtain ⟨h1, h2, h3, h4⟩ := ixN_seq hj
  have hl := r.length
  have hn := line63
  have I' : Inv X pins σ (upd H p (.lst (xs.set j v))) { s with heap := s.heap.update p (Obj.mapSeq (·.setIfInBounds j u)) } :=
    I.lstUpd hp ho (mapSeq_set its n j u) (r.set rv j) (by rw [List.length_set]; exact hz) s.toks
  by_cases h0 : 0 ≤ k
  · have hk : k.toNat = j := by
      rw [seqIndex_of h0 h4] at h1
      exact Option.some.inj h1
    exact PySem.W.ki_setAt ho h0 (by omega) (by rw [List.size_toArray, ← hl]; exact h4) (by rw [hk]; exact ⟨_, I', q⟩)
  · have hk : (k + (its.toArray.size : Int)).toNat = j := by
      rw [seqIndex_neg (by omega) h3] at h1
      rw [List.size_toArray, ← hl]
      exact Option.some.inj h1
    exact PySem.W.ki_setBack ho (by omega) (by rw [List.size_toArray, ← hl]; exact h3) (by omega) (by rw [hk]; exact ⟨_, I', q⟩)

/-! ### slices -/
theorem slice_bounds (lo hi : Option Int) (n : Nat) : (sliceBounds lo hi none n).1 = ((HT.sIx n 0 lo : Nat) : Int) ∧ (sliceBounds lo hi none n).2.1 = ((HT.sIx n n hi : Nat) : Int) ∧ (sliceBounds lo hi none n).2.2 = 1 := by
  refine ⟨?_, ?_, rfl⟩
  · cases lo with
    | none => simp [sliceBounds, HT.sIx]
    | some i =>
      simp only [sliceBounds, HT.sIx, Option.getD_none, show (1 : Int) > 0 by decide, if_true]
      by_cases h : i < 0
      · simp only [h, if_true] <;> omega
      · simp only [h, if_false] <;> omega
  · cases hi with
    | none => simp [sliceBounds, HT.sIx]
    | some i =>
      simp only [sliceBounds, HT.sIx, Option.getD_none, show (1 : Int) > 0 by decide, if_true]
      by_cases h : i < 0
      · simp only [h, if_true] <;> omega
      · simp only [h, if_false] <;> omega
theorem slicePick_cut (its : List Value) (lo hi : Option Int) : slicePick its.toArray lo hi none = ((its.drop (HT.sIx its.length 0 lo)).take (HT.sIx its.length its.length hi - HT.sIx its.length 0 lo)).toArray := by
  obtain ⟨h1, h2, h3⟩ := slice_bounds lo hi its.toArray.size
  unfold slicePick
  rw [h1, h2, h3]
  simp only [sliceRange_one, pick_run, List.size_toArray] <;> rfl
/-- xs[lo:hi] of a list: a new list -/
def rSlL (K : PySem.W.Frag) : V → Option Int → Option Int → Hp → VK → Prop := fun x lo hi H Q => ∃ a xs, x = .ref a ∧ SqL K H a xs ∧ ∀ p, H p = none → Q (.ref p) (upd H p (.lst (cutV xs lo hi)))
theorem sl_list : SlR X (rSlL X.K) := by
  intro pins s σ H x v vl vu lo hi sl Q I rx hs pl pu h
  obtain ⟨a, xs, rfl, hx, q⟩ := h
  cases rx
  obtain ⟨its, r, ht, hz⟩ := I.list hx
  have hlen := r.length
  refine ⟨"list", _, slot_list_getitem.lookup, ht.isList.typeIs, ?_⟩
  refine wpAny_getItem_list_slice ht.isList hs pl pu .none (by simp) ?_ (by rw [List.size_toArray] <;> omega)
  rw [slicePick_cut, ← hlen]
  refine ⟨.ref s.heap.objs.size, _, I.laid (t' := s.toks) (o := .lst (cutV xs lo hi)) (fun b ob q => Heap.get?_push_of_some _ q) (Nat.le_refl _) ?_, rfl, q _ (I.hok.fresh (Nat.le_refl _))⟩
  exact ⟨Nat.le_trans (cutV_length xs lo hi) hz, _, 0, (r.drop (HT.sIx xs.length 0 lo)).take (HT.sIx xs.length xs.length hi - HT.sIx xs.length 0 lo), Heap.get?_push_size _ rfl⟩

/-! ### in, not in: flat items -/
/-! ### len, list(x), tuple(x) of any list or tuple that is read -/
theorem call_len_seq : CallR X (.builtin "len") (fun xs H Q => ∃ p ys, xs = [.ref p] ∧ (SqL X.K H p ys ∨ SqT X.K H p ys) ∧ Q (.int ys.length) H) := by
  intro pins s σ H xs us Q I r h
  obtain ⟨p, ys, rfl, hq, q⟩ := h
  obtain ⟨u, rfl, rx⟩ := vals1 r
  cases rx
  have hn := line63
  rcases hq with hq | hq
  · obtain ⟨its, r', pl, hz⟩ := I.list hq
    have hlen := r'.length
    exact Calls.call_len_list pl.isList (by simp only [List.size_toArray] <;> omega) ⟨.int ys.length, H, I.tok _, ⟨s.toks + 1, by rw [List.size_toArray, hlen]⟩, q⟩
  · obtain ⟨its, r', pl, hz⟩ := I.tuple hq
    have hlen := r'.length
    exact len_tuple pl (by simp only [List.size_toArray] <;> omega) ⟨.int ys.length, H, I.tok _, ⟨s.toks + 1, by rw [List.size_toArray, hlen]⟩, q⟩
theorem call_len_str : CallR X (.builtin "len") (fun xs H Q => ∃ z, xs = [.str z] ∧ z.length ≤ sizeLine ∧ Q (.int z.length) H) := by
  intro pins s σ H xs us Q I r h
  obtain ⟨z, rfl, hz, q⟩ := h
  obtain ⟨u, rfl, t, rfl⟩ := vals1 r
  have hn := line63
  exact len_str (by omega) ⟨.int z.length, H, I.tok _, ⟨_, rfl⟩, q⟩
/-! ### the call of a builtin's method: o.m(..) -/
/-- the value is of that builtin type -/
def tyV (K : PySem.W.Frag) (T : String) (x : V) (H : Hp) : Prop := match x with
  | .str _ => T = "str"
  | .int _ => T = "int"
  | .ref p => (T = "list" ∧ ∃ xs, SqL K H p xs) ∨ (T = "tuple" ∧ ∃ o, K.lookup p = some o ∧ o.cls = .type "tuple" ∧ o.dict = none) ∨
      (T = "dict" ∧ ((∃ kvs, H p = some (.dK kvs)) ∨ ∃ kvs, H p = some (.dT kvs))) ∨ (T = "set" ∧ ∃ S n, H p = some (.set S n))
  | _ => False
theorem tyV_is {pins : List (Addr × Obj)} {σ : St} {H : Hp} {s : Shared} {T : String} {x : V} {v : Value} (I : Inv X pins σ H s) (r : RelV x v) (ty : tyV X.K T x H) :
    s.TypeIs v T ∧ ∀ a, v = .ref a → ∃ ob, s.heap.get? a = some ob ∧ ob.dict = none := by
  cases x with
  | str z =>
    obtain ⟨t, rfl⟩ := r
    cases (show T = "str" from ty)
    exact ⟨typeIs_str s z t, fun _ e => nomatch e⟩
  | int i =>
    obtain ⟨t, rfl⟩ := r
    cases (show T = "int" from ty)
    exact ⟨typeIs_int s i t, fun _ e => nomatch e⟩
  | ref p =>
    cases r
    rcases ty with ⟨rfl, xs, hq⟩ | ⟨rfl, o, hk, hc, hd⟩ | ⟨rfl, hk⟩ | ⟨rfl, S, n, hk⟩
    · obtain ⟨its, _, pl, _⟩ := I.list hq
      refine ⟨pl.isList.typeIs, fun a e => ?_⟩
      cases e
      obtain ⟨o, n, e, c, hd, _⟩ := pl
      exact ⟨o, e, hd⟩
    · refine ⟨⟨o, I.kIn p o hk, hc⟩, fun a e => ?_⟩
      cases e
      exact ⟨o, I.kIn _ o hk, hd⟩
    · have z : ∃ o, s.heap.get? p = some o ∧ o.ExactDict := by
        rcases hk with ⟨kvs, hk⟩ | ⟨kvs, hk⟩
        · obtain ⟨_, _, _, _, o, _, _, e, ex, _⟩ := I.hok p _ hk
          exact ⟨o, e, ex⟩
        · obtain ⟨_, _, _, _, o, _, _, e, ex, _⟩ := I.hok p _ hk
          exact ⟨o, e, ex⟩
      obtain ⟨o, e, ex⟩ := z
      refine ⟨⟨o, e, ex.1⟩, fun a e2 => ?_⟩
      cases e2
      exact ⟨o, e, ex.2.1⟩
    · obtain ⟨o, _, _, _, e, ex, _⟩ := I.hok p _ hk
      refine ⟨⟨o, e, ex.1⟩, fun a e2 => ?_⟩
      cases e2
      exact ⟨o, e, ex.2.1⟩
  | _ => exact False.elim ty
def tBM0 (K : PySem.W.Frag) (T : String) (r : V → List V → Hp → VK → Prop) (to : TE) : TE := fun σ H Q => to σ H fun x H1 => tyV K T x H1 ∧ r x [] H1 Q
def tBM (K : PySem.W.Frag) (T : String) (r : V → List V → Hp → VK → Prop) (to : TE) (t : TA) : TE := fun σ H Q => to σ H fun x H1 => tyV K T x H1 ∧ t σ H1 fun xs H2 => r x xs H2 Q
variable {o e : Expr} {es : List Expr} {to : TE} {t : TA} {name : Str} {apos cpos : Pos} {T id : String} {r : V → List V → Hp → VK → Prop}
theorem pe_bm0 (pa : PlainAttrs T) (slot : Slot T name id) (hty : typeOf (.builtin id) = pure (.type "method_descriptor")) (hm : MtR X id r) (ho : PE X o to)
    (hbase : attributeBase o name X.env (eval o X.env) = eval o X.env := by rfl) (hline : (apos.endLine == cpos.line) = true := by rfl) : PE X (.Call (.Attribute o name apos) [] [] cpos) (tBM0 X.K T r to) := by
  intro pins s σ H Q I h
  refine wpAny_Call_method0_late hbase hline (thn (ho pins s σ H _ I h) fun v s1 ⟨x, H1, I1, r1, ty, q1⟩ => ?_)
  obtain ⟨h1, h2⟩ := tyV_is I1 r1 ty
  exact ⟨T, id, pa, slot, hty, h1, h2, Calls.callWith_builtin rfl (PySem.evalArgs_none (hm pins s1 σ H1 x [] v [] Q I1 r1 .nil q1))⟩
theorem pe_bm (pa : PlainAttrs T) (slot : Slot T name id) (hty : typeOf (.builtin id) = pure (.type "method_descriptor")) (hm : MtR X id r) (ho : PE X o to) (ha : PA X (e :: es) t)
    (hbase : attributeBase o name X.env (eval o X.env) = eval o X.env := by rfl)
    (hfew : ((backTo cpos (starEach (e :: es) X.env)).all (fun x => !x.1) && (backToKw cpos (keywordEach [] X.env)).all (fun x => x.1.isSome)
      && decide ((e :: es).length + ([] : List Keyword).length + (if ([] : List Keyword).isEmpty then 0 else 1) < 30)) = true := by rfl)
    (hline : (apos.endLine == cpos.line) = true := by rfl) (hs : starEach (e :: es) X.env = (false, eval e X.env) :: starEach es X.env := by rfl) (hplain : (backTo cpos (starEach es X.env)).any (·.1) = false := by rfl) :
    PE X (.Call (.Attribute o name apos) (e :: es) [] cpos) (tBM X.K T r to t) := by
  intro pins s σ H Q I h
  refine wpAny_Call_method_late hbase hfew hline rfl (thn (ho pins s σ H _ I h) fun v s1 ⟨x, H1, I1, r1, ty, q1⟩ => ?_)
  obtain ⟨h1, h2⟩ := tyV_is I1 r1 ty
  refine ⟨T, id, pa, slot, hty, h1, h2, ?_⟩
  have hA := ha cpos pins s1 σ H1 _ I1 q1
  rw [hs] at hA ⊢
  refine Calls.callWith_builtin (by show (false || (backTo cpos (starEach es X.env)).any (·.1)) = false; rw [hplain] <;> rfl) (Calls.evalArgs_plain ?_)
  exact thn hA fun us s2 ⟨vs, H2, I2, r2, q2⟩ => hm pins s2 σ H2 x vs v us Q I2 r1 r2 q2
end
end L2

namespace L2
open PySem PySem.Spec PyProof.Rows

def MtM (X : Cx) (id : String) (r : V → List V → Hp → VK → Prop) : Prop :=
  ∀ (pins : List (Addr × Obj)) (s : Shared) (σ : St) (H : Hp) (x : V) (xs : List V) (v : Value) (us : List Value) (Q : VK), Inv X pins σ H s → RelV x v → Vals xs us → r x xs H Q →
    wpAny (model X.prog X.w) X.A (call (.builtin id) (v :: us)) (EP X pins σ Q) X.xe s

/-! ### lists of values -/
theorem Vals.one : ∀ {x : V} {us : List Value}, Vals [x] us → ∃ u, us = [u] ∧ RelV x u
  | _, _, .cons r .nil => ⟨_, rfl, r⟩
theorem Vals.two : ∀ {x y : V} {us : List Value}, Vals [x, y] us → ∃ u v, us = [u, v] ∧ RelV x u ∧ RelV y v
  | _, _, _, .cons r (.cons q .nil) => ⟨_, _, rfl, r, q⟩
theorem Vals.zero : ∀ {us : List Value}, Vals [] us → us = []
  | _, .nil => rfl
theorem Vals.dropLast {xs : List V} {us : List Value} (h : Vals xs us) : Vals xs.dropLast us.dropLast := by
  induction h with
  | nil => exact .nil
  | cons r t ih =>
    cases t with
    | nil => exact .nil
    | cons q t' => exact .cons r ih
theorem Vals.eraseIdx : ∀ {xs : List V} {us : List Value} (i : Nat), Vals xs us → Vals (xs.eraseIdx i) (us.eraseIdx i)
  | _, _, _, .nil => .nil
  | _, _, 0, .cons _ t => t
  | _, _, i + 1, .cons r t => .cons r (Vals.eraseIdx i t)
theorem erase_last {α : Type} (l : List α) : l.eraseIdx (l.length - 1) = l.dropLast := by
  induction l with
  | nil => rfl
  | cons a r ih =>
    cases r with
    | nil => rfl
    | cons b r =>
      have e : (a :: b :: r).length - 1 = ((b :: r).length - 1) + 1 := by
        have h1 : (a :: b :: r).length = r.length + 2 := rfl
        have h2 : (b :: r).length = r.length + 1 := rfl
        omega
      rw [e, List.eraseIdx_cons_succ, ih]
      all_goals rfl
theorem len_erase {α : Type} : ∀ (l : List α) (i : Nat), (l.eraseIdx i).length ≤ l.length
  | [], _ => Nat.le_refl _
  | _ :: _, 0 => Nat.le_succ _
  | _ :: r, i + 1 => Nat.succ_le_succ (len_erase r i)
section
variable {X : Cx} {pins : List (Addr × Obj)} {σ : St} {H : Hp} {s : Shared} {l b : Addr} {xs ys zs : List V}

/-! ### the two steps: a tracked list is rewritten, a new list is laid -/
theorem Inv.lset {its its' : List Value} {n : Nat} {f : Array Value → Array Value} {t' : Nat} (I : Inv X pins σ H s) (hH : H l = some (.lst xs))
    (e : s.heap.get? l = some { cls := .type "list", data := .seq its.toArray n }) (hf : f its.toArray = its'.toArray) (hv : Vals ys its') (hz : ys.length ≤ sizeLine) :
    Inv X pins σ (upd H l (.lst ys)) { s with heap := s.heap.update l (Obj.mapSeq f), toks := t' } := by
  have q := PySem.IsL.update e f
  rw [hf] at q
  refine I.write (x := l) (e := l) (by rw [hH]; exact trivial) (.inl rfl) (fun b' u hb hu => (Heap.get?_update_other s.heap (Obj.mapSeq f) (Ne.symm hb)).trans hu) ⟨_, q⟩ ?_
  exact ⟨hz, its', _, hv, q⟩
theorem Inv.lnew {its : List Value} {t' : Nat} (I : Inv X pins σ H s) (hv : Vals ys its) (hz : ys.length ≤ sizeLine) :
    Inv X pins σ (upd H s.heap.objs.size (.lst ys)) { s with heap := s.heap.push { cls := .type "list", data := .seq its.toArray }, toks := t' } :=
  I.laid (fun _ _ q => Heap.get?_push_of_some _ q) (Nat.le_refl _) ⟨hz, its, 0, hv, Heap.get?_push_size _ rfl⟩
theorem Inv.fresh (I : Inv X pins σ H s) : H s.heap.objs.size = none := I.hok.fresh (Nat.le_refl _)
theorem Inv.lstM (I : Inv X pins σ H s) (hH : H l = some (.lst xs)) : xs.length ≤ sizeLine ∧ ∃ (its : List Value) (n : Nat), Vals xs its ∧ xs.length = its.length ∧ s.heap.get? l = some { cls := .type "list", data := .seq its.toArray n } := by
  obtain ⟨z, its, n, r, e⟩ := I.hok l _ hH
  exact ⟨z, its, n, r, r.length, e⟩

end

section
variable {X : Cx}

/-! ### methods -/
def rAppend : V → List V → Hp → VK → Prop := fun x vs H Q => ∃ l xs y, x = .ref l ∧ vs = [y] ∧ H l = some (.lst xs) ∧ xs.length < sizeLine ∧ Q .non (upd H l (.lst (xs ++ [y])))
theorem mt_append : MtM X "list.append" rAppend := by
  intro pins s σ H x vs v us Q I rx rv h
  obtain ⟨l, xs, y, rfl, rfl, hH, hz, q⟩ := h
  cases rx
  obtain ⟨u, rfl, ru⟩ := rv.one
  obtain ⟨z, its, n, r, hl, e⟩ := I.lstM hH
  refine call_meets F.slot_list_append ⟨_, e, rfl⟩ F.entry_list_append (F.args_list_append_2 _ _) (PySem.list_append l its.toArray n u (by rw [List.size_toArray]; omega)) ⟨e, ?_⟩
  refine ⟨.non, _, I.lset (its' := its ++ [u]) hH e (by simp) (r.append (.cons ru .nil)) ?_, rfl, q⟩
  rw [List.length_append, List.length_singleton]
  omega

def rPop : V → List V → Hp → VK → Prop := fun x vs H Q => ∃ l xs y, x = .ref l ∧ vs = [] ∧ H l = some (.lst xs) ∧ xs[xs.length - 1]? = some y ∧ Q y (upd H l (.lst xs.dropLast))
theorem mt_pop : MtM X "list.pop" rPop := by
  intro pins s σ H x vs v us Q I rx rv h
  obtain ⟨l, xs, y, rfl, rfl, hH, hy, q⟩ := h
  cases rx
  have hus := rv.zero
  subst hus
  obtain ⟨z, its, n, r, hl, e⟩ := I.lstM hH
  obtain ⟨u, hu, ru⟩ := r.get hy
  have hy' : its.toArray[its.toArray.size - 1]? = some u := by
    show its.toArray[its.length - 1]? = some u
    rw [← Array.getElem?_toList, ← hl]
    exact hu
  refine call_meets F.slot_list_pop ⟨_, e, rfl⟩ F.entry_list_pop (F.args_list_pop_1 _) (MeetsSeq.list_pop_last l its.toArray n u hy' (by rw [List.size_toArray]; omega)) ⟨e, ?_⟩
  refine ⟨y, _, I.lset (its' := its.dropLast) hH e ?_ r.dropLast ?_, ru, q⟩
  · show its.toArray.eraseIdxIfInBounds (its.toArray.size - 1) = its.dropLast.toArray
    rw [List.size_toArray, List.eraseIdxIfInBounds_toArray, erase_last]
  · rw [List.length_dropLast]
    omega

def rPopAt : V → List V → Hp → VK → Prop := fun x vs H Q => ∃ l xs i k y, x = .ref l ∧ vs = [.int i] ∧ H l = some (.lst xs) ∧ -(2 ^ 63) ≤ i ∧ i < 2 ^ 63 ∧ seqIndex? i xs.length = some k ∧ xs[k]? = some y ∧ Q y (upd H l (.lst (xs.eraseIdx k)))
theorem mt_popAt : MtM X "list.pop" rPopAt := by
  intro pins s σ H x vs v us Q I rx rv h
  obtain ⟨l, xs, i, k, y, rfl, rfl, hH, h1, h2, hk, hy, q⟩ := h
  cases rx
  obtain ⟨u, rfl, ru⟩ := rv.one
  obtain ⟨t, rfl⟩ := ru
  obtain ⟨z, its, n, r, hl, e⟩ := I.lstM hH
  obtain ⟨w, hw, rw'⟩ := r.get hy
  refine call_meets F.slot_list_pop ⟨_, e, rfl⟩ F.entry_list_pop (F.args_list_pop_2 _ _)
    (MeetsSeq.list_pop_at l its.toArray n i t k w (fitsIndex_both h1 h2) (by rw [List.size_toArray, ← hl]; exact hk) (by rw [← Array.getElem?_toList]; exact hw) (by rw [List.size_toArray]; omega)) ⟨e, ?_⟩
  refine ⟨y, _, I.lset (its' := its.eraseIdx k) hH e ?_ (r.eraseIdx k) ?_, rw', q⟩
  · show its.toArray.eraseIdxIfInBounds k = (its.eraseIdx k).toArray
    rw [List.eraseIdxIfInBounds_toArray]
  · have := len_erase xs k
    omega

/-! ### list + list, list += list, list * int -/
def rCat : R2 := fun x y H Q => ∃ l b xs zs, x = .ref l ∧ y = .ref b ∧ H l = some (.lst xs) ∧ H b = some (.lst zs) ∧ xs.length + zs.length ≤ sizeLine ∧ ∀ p, H p = none → Q (.ref p) (upd H p (.lst (xs ++ zs)))
theorem op_cat : OpR X (binaryOp .Add) rCat := by
  intro pins s σ H x y v u Q I rx ry h
  obtain ⟨l, b, xs, zs, rfl, rfl, hH, hB, hz, q⟩ := h
  cases rx
  cases ry
  obtain ⟨z, its, n, r, hl, e⟩ := I.lstM hH
  obtain ⟨z2, its2, n2, r2, hl2, e2⟩ := I.lstM hB
  refine PySem.P.add_list e e2 ?_ (by rw [List.size_toArray, List.size_toArray]; omega)
  have ea : its.toArray ++ its2.toArray = (its ++ its2).toArray := by simp
  rw [ea]
  exact ⟨.ref _, _, I.lnew (t' := s.toks) (r.append r2) (by rw [List.length_append]; omega), rfl, q _ I.fresh⟩
/-! ### del xs[i] -/
end

/-! ### xs[a:b] = ys -/
section
variable {prog : Program} {w : World} {A : Around} {E : Value → Shared → Prop} {s : Shared}
set_option maxRecDepth 100000 in
end

section
variable {X : Cx}
end
end L2

namespace Att
open PySem PySem.W PySem.Calls PyProof.Rows

/-! ### the script -/
theorem ints_of_wellAll {P : Params} {h : Heap} : ∀ (ns : List Int) (vs : List Value), WellAll P h vs (ns.map WData.int) → IntsAre vs ns := by
  intro ns
  induction ns with
  | nil =>
    intro vs w
    rw [List.map_nil] at w
    cases w
    exact .nil
  | cons n ns ih =>
    intro vs w
    rw [List.map_cons] at w
    cases w with
    | cons a b =>
      cases a
      exact .cons _ _ (ih _ b)

theorem script_of {l : OpenLaw} {n : Nat} (hn : l.most = some n) {P : Params} {h : Heap} {args : List WData} {vals : List Value}
    (hpre : l.row.toRowW.claim.pre args = true) (hwl : WellAll P h vals args) :
    ∃ a vs ns, vals = [Value.ref a] ∧ args = [WData.list (ns.map WData.int)] ∧ h.get? a = some { cls := .type "list", data := .seq vs.toArray } ∧ IntsAre vs ns ∧ ns.length ≤ n := by
  have hsh : WShape.hasAll [] args [.list .int] = true := (pre_splitW hpre).1
  have hc : l.pre.holds [] { args := args } = true := (pre_splitW hpre).2
  obtain ⟨d, r, rfl, h1, h2⟩ := hasAllW_cons hsh
  obtain rfl := hasAllW_nil h2
  obtain ⟨xs, rfl, h3⟩ := hasW_list h1
  obtain ⟨ns, rfl⟩ := items_int h3
  have hlen : ns.length ≤ n := by
    unfold OpenLaw.pre at hc
    have h4 : (WTm.not (.lt (.lit (.int (n : Int))) (.len (.arg 0)))).holds [] { args := [.list (ns.map .int)] } = true := by
      have h4 := (holds_andW hc).1
      rw [hn] at h4
      exact h4
    have h5 := condW_of h4 (w_not (w_lt w_lit (w_len_list (w_arg rfl))))
    rw [List.length_map] at h5
    refine Nat.le_of_not_lt fun q => ?_
    have q' : (n : Int) < ((ns.length : Nat) : Int) := by omega
    first
      | (rw [decide_eq_true q'] at h5; exact absurd h5 (by decide))
      | (simp at h5; omega)
  cases hwl with
  | cons w1 w2 =>
    cases w2
    cases w1 with
    | list ho hall => exact ⟨_, _, ns, rfl, rfl, ho, ints_of_wellAll ns _ hall, hlen⟩

theorem post_true (l : OpenLaw) (args : List WData) : l.row.toRowW.claim.post args (.bool true) args = true :=
  postW_of (r := l.row.toRowW) (X := (true == true))
    (show WShape.has [] (.bool true) .bool = true by first | rfl | decide | simp [WShape.has, WShape.arms, WShape.armsAll])
    (show (WTm.eq .res (.lit (.bool true))).value [] { args := args, res := some (.bool true), after := args } = some (.bool (true == true)) from w_eq_bool (w_res rfl) w_lit) rfl

/-! ### the attachment: holds_open's last premise (the goal 'hc' behind k_head) from a wpAny of the law's body -/
/-- the same from a codeAny of the CALL (for a layer whose function contracts speak of calls) -/
theorem attach_call {l : OpenLaw} {n : Nat} {q : Program} {loose : List Str} {XP : (Str → Option Value) → Heap → Prop} {YP : World → Heap → Prop} {d : DefRec}
    (hn : l.most = some n) (hdf : d.params.defaults = [])
    (call : ∀ (w : World) (s₀ s₁ : Shared) (mg mb : Str → Option Value) (fa : Addr) (o : Obj) (pm cd doc : Value) (a : Addr) (vs : List Value) (ns : List Int),
      Ground q loose [] XP w s₀ mg mb s₁.heap → YP w s₁.heap →
      s₁.heap.get? fa = some o → o.data = .func (docDef d.name d.params d.body d.scope pm cd doc) → s₁.heap.CodeRec cd d.name → mg d.name = some (.ref fa) →
      s₁.heap.get? a = some { cls := .type "list", data := .seq vs.toArray } → IntsAre vs ns → ns.length ≤ n → s₁.gens = #[] →
      codeAny (model l.prog w) callerA (.call (.ref fa) ⟨[.ref a], []⟩) (fun r s' => r = .ok (.ret (.bool true)) ∧ OldK s₁.heap s'.heap ∧ s'.os = s₁.os ∧ AllBare s'.gens) s₁) :
    WalkO q loose XP YP l.row.toRowW d [] (fun f vs => PySem.call f vs) := by
  intro w s₀ s₁ mg mb G Y fa o pm cd doc dV kV ho hd hcd hD hmg hg args vals as hpre hlay hrd hwl hlo
  obtain rfl : dV = .none := Dflts.none hD hdf
  obtain rfl : kV = .none := Dflts.noKw hD
  obtain ⟨a, vs, ns, rfl, rfl, hobj, hints, hlen⟩ := script_of hn hpre hwl
  refine enter_call (codeAny_mono (call w s₀ s₁ mg mb fa o pm cd doc a vs ns G Y ho (fd_plain hd) hcd hmg hobj hints hlen hg) fun r s' hq => ?_)
  obtain ⟨rfl, h2, h3, h4⟩ := hq
  exact ⟨.inl ⟨.bool true, .bool true, [], rfl, fun _ => rfl, .bool true, post_true l _, fun _ => ⟨List.Pairwise.nil, fun _ hm => (nomatch hm)⟩⟩, h2, h3, h4⟩

/-! ### rules over ANY heap (no ledger) from facts about the written part K: the library's own take a ledger (News) for what they write -/
section
variable {prog : Program} {w : World} {A : Around} {E : Value → Shared → Prop} {s : Shared} {K : Frag}

/-! the whole heap as the ledger: makes every rule that writes through a ledger a rule over any heap -/
end
end Att

namespace L2
open PySem PySem.Spec PyProof.Rows

theorem vals_ints : ∀ {vs : List Value} {ns : List Int}, IntsAre vs ns → Vals (ns.map V.int) vs
  | _, _, .nil => .nil
  | _, _, .cons n t h => .cons ⟨t, rfl⟩ (vals_ints h)

/-- nothing is tracked but the script, known to the object (or it is an object of the module) -/
def Only (H : Hp) : Prop := ∀ b, H b = none ∨ ∃ o xs, H b = some (.frz o (.lst xs))

/-- THE HEAD: the law's promise, at the heap behind the top. F, the promise of the law's def, may use that base is part of the heap (so K.In base, base.Ns mainGlobals mg stand in Mod) -/
theorem law_call {P : Program} {w : World} {K : PySem.W.Frag} {mg mb : Str → Option Value} {CX : CXT} {k : Nat} {fa a : Addr} {fd : FuncData} {x : Str} {sp : Sp} {s₁ : Shared} {vs : List Value} {ns : List Int}
    (KX : K.In s₁.heap) (hns : s₁.heap.Ns mainGlobals mg) (hb : s₁.heap.Ns builtinsNs mb) (hbb : ∀ x : Str, x ≠ "__name__" → mb x = bootBuiltins x) (hlim : s₁.heap.NoLimit) (hg : s₁.gens = #[])
    (ha : s₁.heap.get? a = some { cls := .type "list", data := .seq vs.toArray }) (hi : IntsAre vs ns) (hl : ns.length ≤ sizeLine) (hr : Room k callerA)
    (F : ∀ base : Heap, K.In base → base.Ns mainGlobals mg → FnOk P w K mg base CX k fa fd [x] sp) (hbind : ∀ (s : Shared) (u : Value), BindsTo s fd ⟨[u], []⟩ [(x, u)])
    (hsp : ∀ H : Hp, Only H → SqL K H a (ns.map V.int) → sp [.ref a] H (fun v _ => v = .bl true) fun _ _ _ => False)
    (hCX : ∀ H e s', CX [] H s₁ (fun _ _ _ => False) e s' → False) :
    codeAny (model P w) callerA (.call (.ref fa) ⟨[.ref a], []⟩) (fun r s' => r = .ok (.ret (.bool true)) ∧ OldK s₁.heap s'.heap ∧ s'.os = s₁.os ∧ AllBare s'.gens) s₁ := by
  have rv := vals_ints hi
  have lenV := hi.length
  -- from an abstract heap in which nothing but the script may be tracked
  have core : ∀ H : Hp, Only H → SqL K H a (ns.map V.int) → HOk P w H s₁.heap → (∀ b, H b ≠ none → b = a) → (H a ≠ none → K.lookup a = none) →
      codeAny (model P w) callerA (.call (.ref fa) ⟨[.ref a], []⟩) (fun r s' => r = .ok (.ret (.bool true)) ∧ OldK s₁.heap s'.heap ∧ s'.os = s₁.os ∧ AllBare s'.gens) s₁ := by
    intro H hO hS hok hA hK
    have base_of : ∀ {b : Addr} {o : Obj}, s₁.heap.get? b = some o → H b = none → (hidT s₁.heap H).get? b = some o := fun e n => hidT_get e n
    have noA : ∀ {b : Addr} {o : Obj} {es : Array DictEntry} {ep : Nat}, s₁.heap.get? b = some o → o.data = .dict es ep → H b = none := fun {b o es ep} e d => by
      cases q : H b with
      | none => rfl
      | some u =>
        have e' : b = a := hA b (by rw [q]; simp)
        subst e'
        rw [ha] at e; cases e
        have d' : Data.seq vs.toArray _ = Data.dict es ep := d
        cases d'
    have nsK : ∀ {b : Addr} {m : Str → Option Value}, s₁.heap.Ns b m → (hidT s₁.heap H).Ns b m := fun {b m} ⟨o, es, ep, e, d, r⟩ => ⟨o, es, ep, base_of e (noA e d), d, r⟩
    have hKb : K.In (hidT s₁.heap H) := fun b o e => base_of (KX b o e) (by
      cases q : H b with
      | none => rfl
      | some u =>
        have e' : b = a := hA b (by rw [q]; simp)
        subst e'
        rw [hK (by rw [q]; simp)] at e; cases e)
    have hM : Mod K mg (hidT s₁.heap H) := ⟨hKb, nsK hns, ⟨mb, nsK hb, hbb⟩, let ⟨mc, h1, h2⟩ := hlim; ⟨mc, nsK h1, h2⟩⟩
    have e0 : Env0 P w K mg (hidT s₁.heap H) callerA [] s₁ H := ⟨rfl, hM, fun b o e => of_hidT e, Nat.le_of_eq (hidT_size _ _), trivial, fun b hb => absurd (show b ∈ ([] : List Addr) from hb) (by simp), hok, .of_eq hg⟩
    refine codeAny_mono ((F _ hKb (nsK hns)).run callerA [] s₁ H ⟨[.ref a], []⟩ [.ref a] [.ref a] _ _ hr e0 (hbind s₁ (.ref a)) (.cons rfl .nil) (hsp H hO hS)) fun r s' h => ?_
    cases r with
    | error e => exact (hCX H e s' h).elim
    | ok fl =>
      cases fl with
      | next => exact False.elim h
      | brk => exact False.elim h
      | cont => exact False.elim h
      | ret u =>
        obtain ⟨v, H', os, bare, un, hok', r', q⟩ := h
        have q' : v = .bl true := q
        subst q'
        obtain rfl : u = Value.bool true := r'
        refine ⟨rfl, OldK.of_keep fun b o e => ?_, os, bare⟩
        cases q : H b with
        | none => exact un.keep b o e q (by intro z; exact absurd (show b ∈ ([] : List Addr) from z) (by simp)) (by simp)
        | some u =>
          rcases hO b with z | ⟨ob, xs, z⟩
          · rw [q] at z; cases z
          · have z2 := un.frzs b ob _ z
            obtain ⟨e1, _⟩ := hok b _ z
            obtain ⟨e2, _⟩ := hok' b _ z2
            rw [e] at e1; cases e1
            exact e2
  cases hk : K.lookup a with
  | some o =>
    -- the script is one of the module's own objects
    have e := KX a o hk
    rw [ha] at e
    cases e
    refine core (fun _ => none) (fun _ => .inl rfl) (.inr ⟨_, vs.toArray, _, hk, rfl, rfl, rfl, by rw [List.size_toArray, lenV]; exact hl, by simpa using rv⟩) (fun b u z => by have z' : (none : Option HO) = some u := z; cases z') (fun b z => absurd rfl z) fun z => absurd rfl z
  | none =>
    refine core (fun b => if b = a then some (.frz { cls := .type "list", data := .seq vs.toArray } (.lst (ns.map V.int))) else none) (fun b => ?_) (.inl (.inr ⟨{ cls := .type "list", data := .seq vs.toArray }, if_pos rfl⟩)) (fun b u z => ?_) (fun b z => ?_) fun _ => hk
    · by_cases hb : b = a
      · exact .inr ⟨_, _, if_pos hb⟩
      · exact .inl (if_neg hb)
    · by_cases hb : b = a
      · have z' := (if_pos hb).symm.trans z
        cases z'
        subst hb
        exact ⟨ha, by rw [List.length_map]; exact hl, vs, _, rv, ha⟩
      · have z' := (if_neg hb).symm.trans z
        cases z'
    · by_cases hb : b = a
      · exact hb
      · exact absurd (if_neg hb) z
end L2

namespace L2
open PySem PySem.Spec PyProof.Rows

/-- the goal that k_head leaves (case hc), from the law's promise. F gives the function object fd (K's own) once, then the promise over every base -/
theorem walk_of {l : PySem.W.OpenLaw} {n k : Nat} {q : Program} {loose : List Str} {XP : (Str → Option Value) → Heap → Prop} {YP : World → Heap → Prop} {d : DefRec} {K : Params → PySem.W.Frag} {CX : World → CXT} {sp : World → Sp} {x : Str}
    (hn : l.most = some n) (hn2 : n ≤ sizeLine) (hdf : d.params.defaults = []) (hr : Room k callerA)
    (hY : ∀ (w : World) (h : Heap), YP w h → (K w.params).In h)
    (F : ∀ (w : World) (mg : Str → Option Value) (fa : Addr) (h : Heap), (K w.params).In h → h.Ns mainGlobals mg → mg d.name = some (.ref fa) →
      ∃ fd : FuncData, (∀ (s : Shared) (u : Value), BindsTo s fd ⟨[u], []⟩ [(x, u)]) ∧
        ∀ base : Heap, (K w.params).In base → base.Ns mainGlobals mg → FnOk l.prog w (K w.params) mg base (CX w) k fa fd [x] (sp w))
    (hsp : ∀ (w : World) (H : Hp) (a : Addr) (ns : List Int), ns.length ≤ n → Only H → SqL (K w.params) H a (ns.map V.int) → sp w [.ref a] H (fun v _ => v = .bl true) fun _ _ _ => False)
    (hCX : ∀ (w : World) (H : Hp) (s : Shared) (e : Value) (s' : Shared), CX w [] H s (fun _ _ _ => False) e s' → False) :
    PySem.W.WalkO q loose XP YP l.row.toRowW d [] (fun f vs => PySem.call f vs) := by
  refine Att.attach_call hn hdf fun w s₀ s₁ mg mb fa o pm cd doc a vs ns G Y ho hd hcd hmg hobj hints hlen hg => ?_
  have KX := hY w _ Y
  obtain ⟨fd, hb, hF⟩ := F w mg fa _ KX G.T.g hmg
  exact law_call KX G.T.g G.T.b G.T.builtins G.T.nolimit hg hobj hints (Nat.le_trans hlen hn2) hr hF hb (fun H hO hS => hsp w H a ns hlen hO hS) fun H e s' => hCX w H s₁ e s'
end L2


/-! SHORT WORDS over the layer: a def of the text, its body, what a loop and a test want. -/
namespace L2
open PySem PySem.Spec PyProof.Rows

/-! ### the text by places -/
def defArgs (s : Stmt) : Arguments := match s with
  | .FunctionDef _ a _ _ _ _ _ _ _ _ => a
  | _ => { posonlyargs := [], args := [], vararg := none, kwonlyargs := [], kw_defaults := [], kwarg := none, defaults := [] }
def defBody (s : Stmt) : List Stmt := match s with
  | .FunctionDef _ _ b _ _ _ _ _ _ _ => b
  | _ => []
def defScope (s : Stmt) : Scope := match s with
  | .FunctionDef _ _ _ _ _ _ sc _ _ _ => sc
  | _ => { kind := .function, names := [], isGenerator := false, isCoroutine := false }

/-! ### no exception leaves a def -/
abbrev CX0 : CXT := fun _ _ _ _ _ _ => False
abbrev E0 : XK := fun _ _ _ => False
theorem pass0 {X : Cx} : Passes CX0 X E0 := fun _ _ _ _ _ _ _ h => h.elim

/-! ### a def (or method) of the text as it stands behind the top -/
structure Fun (K : PySem.W.Frag) (x qual : Str) (st : Stmt) (f : Addr) (fd : FuncData) : Prop where
  ex : ∃ (oc : Value) (od : Option Addr) (kV doc pm : Value) (an : Option Addr) (cdv ct : Value) (osl : Array (Option Value)),
    fd = PySem.W.fnOf x qual (defArgs st) (defBody st) (defScope st) .none kV doc pm an cdv ct ∧ K.lookup f = some ⟨oc, od, .func fd, osl⟩ ∧ PySem.W.codeIn K cdv qual = true
  kp : PySem.W.keepIn K (.ref f) = true
section
variable {P : Program} {w : World} {K : PySem.W.Frag} {mg : Str → Option Value} {base : Heap}
/-- THE RULE for a def: its body as a term of rules, and the reading of that term -/
theorem Fun.ok {x qual : Str} {st : Stmt} {f : Addr} {fd : FuncData} {N ps : List Str} {k : Nat} {sp : Sp} (F : Fun K x qual st f fd) (S : FnScope N ps (defScope st)) (len : ∀ vs H Q E, sp vs H Q E → vs.length = ps.length)
    (hbody : ∀ (cdv : Value) (A : Around) (outer : List Env) (s : Shared) (H : Hp) (vs : List V) (Q : VK) (E : XK), Room k (A.deeper (envOfC qual (defScope st) s.heap.objs.size f cdv)) → sp vs H Q E →
      ∃ t, PSs (cxOf CX0 P w K mg base N qual (defScope st) f cdv A outer s H E).nox (defBody st) t ∧ t { nx := fun _ H' => Q .non H', rt := Q } (start N vs) H) : FnOk P w K mg base CX0 (k + 1) f fd ps sp := by
  obtain ⟨oc, od, kV, doc, pm, an, cdv, ct, osl, rfl, lk, hcd⟩ := F.ex
  refine fn_of lk hcd S len fun A outer s H vs Q E hr hsp => ?_
  obtain ⟨t, h, q⟩ := hbody cdv A outer s H vs Q E hr hsp
  exact ⟨t, h.nox, q⟩
/-- how its arguments bind (no defaults): h is «fun _ _ _ _ _ _ us hl => match us, hl with | [_, _], _ => rfl», one _ a parameter -/
theorem Fun.binds {x qual : Str} {st : Stmt} {f : Addr} {fd : FuncData} {ps : List Str} (F : Fun K x qual st f fd)
    (h : ∀ (kV doc pm : Value) (an : Option Addr) (cdv ct : Value) (us : List Value), us.length = ps.length → bindArgs (PySem.W.fnOf x qual (defArgs st) (defBody st) (defScope st) .none kV doc pm an cdv ct) ⟨us, []⟩ = pure (ps.zip us)) : Binds K fd ps [] := by
  obtain ⟨oc, od, kV, doc, pm, an, cdv, ct, osl, rfl, lk, hcd⟩ := F.ex
  exact .all (h kV doc pm an cdv ct)
theorem fun_mk {x qual : Str} {st : Stmt} {f : Addr} {oc : Value} {od an : Option Addr} {osl : Array (Option Value)} {kV doc pm cdv ct : Value} (l : K.lookup f = some ⟨oc, od, .func (PySem.W.fnOf x qual (defArgs st) (defBody st) (defScope st) .none kV doc pm an cdv ct), osl⟩)
    (c : PySem.W.codeIn K cdv qual = true) (k : PySem.W.keepIn K (.ref f) = true) : Fun K x qual st f (PySem.W.fnOf x qual (defArgs st) (defBody st) (defScope st) .none kV doc pm an cdv ct) := ⟨⟨oc, od, kV, doc, pm, an, cdv, ct, osl, rfl, l, c⟩, k⟩
end
/-! ### expressions in short: the name that stands in the i-th slot -/
section
variable {X : Cx}
theorem pv (i : Nat) {x : Str} {pos : Pos} (hN : X.N[i]? = some x := by rfl) (hv : Vis X.env.scope x := by first | exact Or.inl rfl | exact Or.inr (Or.inl rfl) | exact Or.inr (Or.inr rfl)) (hd : (x == ("__debug__" : Str)) = false := by decide)
    (hcd : (x == ("__classdict__" : Str)) = false := by decide) : PE X (.Name x pos) (tVar i) := pe_var hN hv hd hcd
end

/-! ### tests -/
theorem iteF {A B : Prop} (h : B) : if false = true then A else B := by
  rw [if_neg Bool.false_ne_true]
  exact h
theorem iteT {A B : Prop} (h : A) : if true = true then A else B := by
  rw [if_pos rfl]
  exact h
theorem ite2 {c A B : Prop} [Decidable c] (h1 : c → A) (h2 : ¬ c → B) : if c then A else B := by
  by_cases h : c
  · rw [if_pos h]
    exact h1 h
  · rw [if_neg h]
    exact h2 h
/-! ### heaps -/
/-- all that was tracked is as it was -/
def Same (H H' : Hp) : Prop := ∀ b o, H b = some o → H' b = some o
theorem Same.refl (H : Hp) : Same H H := fun _ _ h => h
theorem Same.trans {H H1 H2 : Hp} (a : Same H H1) (b : Same H1 H2) : Same H H2 := fun c o h => b c o (a c o h)
theorem Same.free {H H' : Hp} (e : Same H H') {l : Addr} (h : H' l = Option.none) : H l = Option.none := by
  cases q : H l with
  | none => rfl
  | some o =>
    rw [e l o q] at h
    cases h
theorem Same.seq {K : PySem.W.Frag} {H H' : Hp} {a : Addr} {xs : List V} (e : Same H H') (h : SqL K H a xs) : SqL K H' a xs := by
  rcases h with (h | ⟨o, h⟩) | h
  · exact .inl (.inl (e _ _ h))
  · exact .inl (.inr ⟨o, e _ _ h⟩)
  · exact .inr h

/-! ### a dict's pairs: keys that differ -/
section
variable {κ : Type} [DecidableEq κ]
end
end L2

set_option maxHeartbeats 4000000

/-! OWN RULES over the hand layer: comprehensions, texts, dicts as lists, data compared, isinstance. -/
namespace L2
open PySem PySem.Spec PyProof.Rows

/-! ### a comprehension: the turn with the step ahead of the store kept -/
section
variable {prog : Program} {w : World} {A : Around} {R : Result → Shared → Prop} {s : Shared}
theorem compLoop_go {elt target iter : Expr} {ifs : List Expr} {scope : Scope} {pos : Pos} {it acc : Value} {env : Env} (I : Nat → Shared → Prop)
    (turn : ∀ n s, I n s → wpAny (model prog w) A (pyNext it) (fun r s₁ => match r with
      | none => R (.ok .next) s₁
      | some v => wpAny (model prog w) A (letOwnedTupleGo target it v) (fun _ s₀ => wpAny (model prog w) A (assign target env v) (fun _ s₂ =>
          wpAny (model prog w) A (forIn ifs true fun c r => if r = true then do let ok ← isTrue c env (eval c env); pure (ForInStep.yield ok) else pure (ForInStep.yield r)) (fun ok s₃ =>
            if ok = true then wpAny (model prog w) A (eval elt env) (fun x s₄ =>
              wpAny (model prog w) A (call (.builtin "list.append") [acc, x]) (fun _ s₅ => ∃ m, m < n ∧ I m s₅) (fun _ _ => False) s₄) (fun _ _ => False) s₃
            else ∃ m, m < n ∧ I m s₃) (fun _ _ => False) s₂) (fun _ _ => False) s₀) (fun _ _ => False) s₁) (fun _ _ => False) s)
    (n : Nat) (h : I n s) :
    codeAny (model prog w) A (.compLoop (.ListComp elt [⟨target, iter, ifs, 0⟩] scope pos) 0 it acc env) R s := by
  refine codeAny_loop rfl I (fun n s hI => ?_) n h
  show wpAny _ A ((compTurn (.ListComp elt [⟨target, iter, ifs, 0⟩] scope pos) 0 it acc env).onRaise (fun x => do noteFrame x env; theTreesLotGoes x)) _ _ s
  refine wpAny_noted ?_
  rw [compTurn_list]
  refine wpAny_bind (wpAny_standAt (wpAny_bind (wpAny_mono (turn n s hI) (fun r s₁ h₁ => ?_) fun _ _ h' => h'.elim)))
  cases r with
  | none => exact wpAny_pure h₁
  | some v =>
    refine wpAny_bind (wpAny_mono h₁ (fun _ s₀ h₀ => ?_) fun _ _ h' => h'.elim)
    refine wpAny_bind (wpAny_mono h₀ (fun _ s₂ h₂ => wpAny_bind (wpAny_mono h₂ (fun ok s₃ h₃ => ?_) fun _ _ h' => h'.elim)) fun _ _ h' => h'.elim)
    cases ok with
    | false => exact wpAny_pure ⟨rfl, h₃⟩
    | true =>
      exact wpAny_bind (wpAny_bind (wpAny_mono h₃ (fun x s₄ h₄ => wpAny_bind (wpAny_mono h₄ (fun _ s₅ h₅ => wpAny_pure (wpAny_pure ⟨rfl, h₅⟩)) fun _ _ h' => h'.elim)) fun _ _ h' => h'.elim))
end

/-! ### the cells that a comprehension's block takes along -/
theorem closure_ok {scope : Scope} {env : Env} (hf : ∀ y ∈ scope.names, y.2 = .free → ∃ c, env.cells.lookup y.1 = some c) :
    ∃ cl, closureFor scope env = pure cl ∧ (∀ x c, cl.lookup x = some c → env.cells.lookup x = some c) ∧ (∀ y ∈ scope.names, y.2 = .free → ∃ c, cl.lookup y.1 = some c) := by
  have key : ∀ (l : List (Str × NameKind)) (acc : List (Str × Addr)), (∀ y ∈ l, y.2 = .free → ∃ c, env.cells.lookup y.1 = some c) → (∀ x c, acc.lookup x = some c → env.cells.lookup x = some c) →
      ∃ cl, (forIn (m := Sem) l acc (fun (y : Str × NameKind) cs => if (y.2 == .free) = true then do let c ← cellOf env y.1; pure (ForInStep.yield ((y.1, c) :: cs)) else pure (ForInStep.yield cs))) = pure cl ∧
        (∀ x c, cl.lookup x = some c → env.cells.lookup x = some c) ∧ (∀ x, (∃ c, acc.lookup x = some c) → ∃ c, cl.lookup x = some c) ∧ (∀ y ∈ l, y.2 = .free → ∃ c, cl.lookup y.1 = some c) := by
    intro l
    induction l with
    | nil => intro acc _ ha; exact ⟨acc, rfl, ha, fun _ h => h, fun _ h => nomatch h⟩
    | cons p r ih =>
      intro acc hl ha
      obtain ⟨n, k⟩ := p
      by_cases hk : k = .free
      · subst hk
        obtain ⟨c, hc⟩ := hl (n, .free) List.mem_cons_self rfl
        have ha' : ∀ x d, ((n, c) :: acc).lookup x = some d → env.cells.lookup x = some d := fun x d e => by
          rw [List.lookup_cons] at e
          cases hx : x == n with
          | true =>
            rw [hx] at e
            rw [eq_of_beq hx, hc]
            exact e
          | false =>
            rw [hx] at e
            exact ha x d e
        obtain ⟨cl, e1, e2, e3, e4⟩ := ih ((n, c) :: acc) (fun y hy => hl y (List.mem_cons_of_mem _ hy)) ha'
        refine ⟨cl, ?_, e2, fun x ⟨d, e⟩ => e3 x ?_, fun y hy hf => ?_⟩
        · rw [List.forIn_cons]
          simp only [beq_self_eq_true, if_true, cellOf, hc, pure_bind]
          exact e1
        · rw [List.lookup_cons]
          cases hx : x == n with
          | true => exact ⟨c, rfl⟩
          | false => exact ⟨d, e⟩
        · rcases List.mem_cons.mp hy with rfl | hy
          · exact e3 _ ⟨c, by simp⟩
          · exact e4 y hy hf
      · have hb : (k == NameKind.free) = false := by simpa using hk
        obtain ⟨cl, e1, e2, e3, e4⟩ := ih acc (fun y hy => hl y (List.mem_cons_of_mem _ hy)) ha
        refine ⟨cl, ?_, e2, e3, fun y hy hf => ?_⟩
        · rw [List.forIn_cons]
          simp only [hb, Bool.false_eq_true, if_false, pure_bind]
          exact e1
        · rcases List.mem_cons.mp hy with rfl | hy
          · exact absurd hf hk
          · exact e4 y hy hf
  obtain ⟨cl, e1, e2, _, e4⟩ := key scope.names [] hf (fun _ _ h => by simp at h)
  refine ⟨cl, ?_, e2, e4⟩
  unfold closureFor
  show (forIn scope.names [] _ >>= fun r => pure r) = pure cl
  rw [bind_pure]
  exact e1

/-- the kinds behind relabel -/
theorem relabel_kind {scope : Scope} {env : Env} {x : Str} : ∀ {names : List (Str × NameKind)},
    ((names.map fun (n, k) => if (k == NameKind.free && env.scope.kind == .function && env.kindOf n == some .cell) then (n, NameKind.cell) else (n, k)).lookup x = some .cell ∨
     (names.map fun (n, k) => if (k == NameKind.free && env.scope.kind == .function && env.kindOf n == some .cell) then (n, NameKind.cell) else (n, k)).lookup x = some .free) →
    (∃ y ∈ names, y.1 = x ∧ (y.2 = .free ∨ y.2 = .cell))
  | [], h => by rcases h with h | h <;> simp at h
  | (n, k) :: r, h => by
    by_cases hx : x = n
    · subst hx
      refine ⟨(x, k), List.mem_cons_self, rfl, ?_⟩
      by_cases hc : (k == NameKind.free && env.scope.kind == .function && env.kindOf x == some .cell) = true
      · have := (Bool.and_eq_true_iff.mp (Bool.and_eq_true_iff.mp hc).1).1
        exact .inl (by simpa using this)
      · simp only [List.map_cons, hc, Bool.false_eq_true, if_false, List.lookup_cons, beq_self_eq_true] at h
        rcases h with h | h
        · exact .inr (Option.some.inj h)
        · exact .inl (Option.some.inj h)
    · have hb : (x == n) = false := by simpa using hx
      have h' : ((r.map fun (n, k) => if (k == NameKind.free && env.scope.kind == .function && env.kindOf n == some .cell) then (n, NameKind.cell) else (n, k)).lookup x = some .cell ∨
        (r.map fun (n, k) => if (k == NameKind.free && env.scope.kind == .function && env.kindOf n == some .cell) then (n, NameKind.cell) else (n, k)).lookup x = some .free) := by
        rw [List.map_cons] at h
        by_cases hc : (k == NameKind.free && env.scope.kind == .function && env.kindOf n == some .cell) = true
        · simp only [hc, if_true, List.lookup_cons, hb] at h; exact h
        · simp only [hc, Bool.false_eq_true, if_false, List.lookup_cons, hb] at h; exact h
      obtain ⟨y, hy, e⟩ := relabel_kind (scope := scope) h'
      exact ⟨y, List.mem_cons_of_mem _ hy, e⟩

/-! ### the block -/
def capOf (σ : St) (js : List Nat) : St := js.map fun j => (σ[j]?).getD none
/-- the context of a comprehension's block: s the state when its frame is made -/
def cxComp (X : Cx) (N : List Str) (scope : Scope) (cl : List (Str × Addr)) (s : Shared) (H : Hp) (ex : List Addr) : Cx :=
  { X with N := N, s₀ := s, H₀ := H, env := compEnvC scope cl s.heap.objs.size X.env, outer := X.stack, stack := X.stack, ex := ex, fn := fun _ => false, pn := [], xe := fun _ _ => False }

/-- tests of a comprehension -/
def PTs (X : Cx) (ifs : List Expr) (t : TT) : Prop :=
  ∀ (pins : List (Addr × Obj)) (s : Shared) (σ : St) (H : Hp) (Q : Bool → Hp → Prop), Inv X pins σ H s → t σ H Q →
    wpAny (model X.prog X.w) X.A (forIn ifs true fun c r => if r = true then do let ok ← isTrue c X.env (eval c X.env); pure (ForInStep.yield ok) else pure (ForInStep.yield r)) (TP X pins σ Q) X.xe s
def tNoTest : TT := fun _ H Q => Q true H
theorem pts_nil {X : Cx} : PTs X [] tNoTest := fun _ _ _ H _ I h => wpAny_pure ⟨H, I, h⟩
theorem pts_one {X : Cx} {c : Expr} {t : TT} (h : PT X c t) : PTs X [c] t := fun pins s σ H Q I q => wpAny_tests_one (h pins s σ H Q I q)

/-- what is asked of a comprehension's scope (N: its names by place, xs of them the targets', the rest taken along from the places js) -/
def compOk (N₀ : List Str) (sc₀ scope : Scope) (N : List Str) (xs : Nat) (js : List Nat) : Bool :=
  scope.kind == .function && (scope.names.all fun y => y.2 != .cell) && (scope.names.all fun y => y.2 != .local || scope.names.lookup y.1 == some .local) &&
  (scope.names.all fun y => y.2 != .free || (sc₀.names.lookup y.1 == some .cell || sc₀.names.lookup y.1 == some .free)) && N.length == xs + js.length &&
  (List.range js.length).all fun i => match js[i]?, N[xs + i]? with
    | some j, some x => N₀[j]? == some x && scope.names.lookup x == some .free
    | _, _ => false
structure CompScope (X : Cx) (scope : Scope) (N : List Str) (xs : Nat) (js : List Nat) : Prop where
  kind : scope.kind = .function
  nocell : ∀ y ∈ scope.names, y.2 ≠ .cell
  once : ∀ y ∈ scope.names, y.2 = .local → scope.names.lookup y.1 = some .local
  caught : ∀ y ∈ scope.names, y.2 = .free → X.env.kindOf y.1 = some .cell ∨ X.env.kindOf y.1 = some .free
  len : N.length = xs + js.length
  at_ : ∀ (i j : Nat) (x : Str), js[i]? = some j → N[xs + i]? = some x → X.N[j]? = some x ∧ scope.names.lookup x = some .free
theorem compScope_of {X : Cx} {scope : Scope} {N : List Str} {xs : Nat} {js : List Nat} (h : compOk X.N X.env.scope scope N xs js = true) : CompScope X scope N xs js := by
  unfold compOk at h
  simp only [Bool.and_eq_true] at h
  obtain ⟨⟨⟨⟨⟨h1, h2⟩, h3⟩, h4⟩, h5⟩, h6⟩ := h
  refine ⟨by simpa using h1, fun y hy => ?_, fun y hy e => ?_, fun y hy e => ?_, by simpa using h5, fun i j x e1 e2 => ?_⟩
  · have := List.all_eq_true.mp h2 y hy
    simpa using this
  · have := List.all_eq_true.mp h3 y hy
    rw [e] at this
    simpa using this
  · have := List.all_eq_true.mp h4 y hy
    rw [e] at this
    simpa [Env.kindOf] using this
  · have hi : i < js.length := (List.getElem?_eq_some_iff.mp e1).1
    have := List.all_eq_true.mp h6 i (List.mem_range.mpr hi)
    rw [e1, e2] at this
    simpa using this

theorem lookup_mem {α : Type} {x : Str} {k : α} : ∀ {l : List (Str × α)}, l.lookup x = some k → (x, k) ∈ l
  | [], h => by simp at h
  | (n, j) :: r, h => by
    rw [List.lookup_cons] at h
    cases hx : x == n with
    | true =>
      rw [hx] at h
      cases h
      rw [eq_of_beq hx]
      exact List.mem_cons_self
    | false =>
      rw [hx] at h
      exact List.mem_cons_of_mem _ (lookup_mem h)
theorem relabel_free {env : Env} {x : Str} : ∀ {names : List (Str × NameKind)}, names.lookup x = some .free →
    ((names.map fun (n, k) => if (k == NameKind.free && env.scope.kind == .function && env.kindOf n == some .cell) then (n, NameKind.cell) else (n, k)).lookup x = some .cell ∨
     (names.map fun (n, k) => if (k == NameKind.free && env.scope.kind == .function && env.kindOf n == some .cell) then (n, NameKind.cell) else (n, k)).lookup x = some .free)
  | [], h => by simp at h
  | (n, k) :: r, h => by
    rw [List.map_cons]
    cases hx : x == n with
    | true =>
      rw [List.lookup_cons, hx] at h
      cases h
      by_cases hc : (NameKind.free == NameKind.free && env.scope.kind == .function && env.kindOf n == some .cell) = true
      · left; simp only [hc, if_true, List.lookup_cons, hx]
      · right; simp only [hc, Bool.false_eq_true, if_false, List.lookup_cons, hx]
    | false =>
      rw [List.lookup_cons, hx] at h
      have ih := relabel_free (env := env) h
      by_cases hc : (k == NameKind.free && env.scope.kind == .function && env.kindOf n == some .cell) = true
      · simp only [hc, if_true, List.lookup_cons, hx]; exact ih
      · simp only [hc, Bool.false_eq_true, if_false, List.lookup_cons, hx]; exact ih

section
variable {X : Cx} {pins : List (Addr × Obj)} {σ : St} {H : Hp} {s : Shared} {scope : Scope} {N : List Str} {xs : Nat} {js : List Nat} {cl : List (Str × Addr)} {fp : List Addr} {o : Obj}
theorem Inv.nostk (I : Inv X pins σ H s) {a : Addr} (h : s.heap.objs.size ≤ a) : a ∉ frs X.stack := fun hb => by
  rcases List.mem_cons.mp (I.stkSub a hb) with e | hb
  · exact absurd (Nat.lt_of_lt_of_le I.lt h) (by rw [e]; exact Nat.lt_irrefl _)
  · exact I.nofs h hb

theorem comp_ok (I : Inv X pins σ H s) (S : CompScope X scope N xs js) (h2 : ∀ x c, cl.lookup x = some c → X.env.cells.lookup x = some c) (h4 : ∀ y ∈ scope.names, y.2 = .free → ∃ c, cl.lookup y.1 = some c)
    (hf : ∀ b ∈ fp, FpOk X pins H b) (hfo : ∀ b ∈ fp, ∃ u, s.heap.get? b = some u) :
    (cxComp X N scope cl { s with heap := s.heap.push o } H (s.heap.objs.size :: fp)).Ok := by
  have I3 : Inv X pins σ H { s with heap := s.heap.push o } := I.kept (t' := s.toks) fun b u e => Heap.get?_push_of_some _ e
  have hsz : (s.heap.push o).objs.size = s.heap.objs.size + 1 := Heap.size_push ..
  have hcl : ∀ x c, cl.lookup x = some c → c < s.heap.objs.size := fun x c e => by
    obtain ⟨v, u, hu, _⟩ := I.cell x c (h2 x c e)
    exact Heap.lt_size hu
  refine ⟨I.ok.mod, S.kind, I.ok.glob, I.ok.blt, Nat.le_refl _, fun x y c e1 e2 => I.ok.inj x y c (h2 x c e1) (h2 y c e2), fun x hx => ?_, fun x c e _ => absurd e (by simp [cxComp]), I.ok.hd, I.ok.frames, .inl rfl, fun b hb => ?_, I3.bs, Nat.le_trans I3.ok.bsz I3.sz,
    fun b u e hb => ?_, fun b hb => ?_, I3.stack, I3.stkFree⟩
  · obtain ⟨y, hy, rfl, hk⟩ := relabel_kind (scope := scope) (env := X.env) (x := x) (names := scope.names) hx
    rcases hk with hk | hk
    · exact h4 y hy hk
    · exact absurd hk (S.nocell y hy)
  · show b ≠ (s.heap.push o).objs.size ∧ _
    rcases List.mem_cons.mp hb with rfl | hb
    · exact ⟨by rw [hsz]; exact Nat.ne_of_lt (Nat.lt_succ_self _), fun x c e => Nat.ne_of_lt (hcl x c e)⟩
    · obtain ⟨u, hu⟩ := hfo b hb
      have := Heap.lt_size hu
      exact ⟨by rw [hsz]; exact Nat.ne_of_lt (Nat.lt_succ_of_lt this), fun x c e => (hf b hb).2.2.2.2.1 x c (h2 x c e)⟩
  · rcases List.mem_cons.mp hb with rfl | hb
    · exact absurd (Heap.lt_size (I.bk _ u e)) (Nat.lt_irrefl _)
    · rcases (hf b hb).2.2.2.1 with z | z
      · exact I.ok.noex b u e z
      · exact absurd (Nat.lt_of_lt_of_le (Heap.lt_size e) (Nat.le_trans I.ok.bsz z)) (Nat.lt_irrefl _)
  · rcases List.mem_cons.mp hb with rfl | hb
    · exact I.nostk (Nat.le_refl _)
    · intro z
      rcases List.mem_cons.mp (I.stkSub b z) with e | e
      · exact (hf b hb).2.1 e
      · exact (hf b hb).2.2.1 e

theorem getElem_capOf {i : Nat} {v : V} (h : (List.replicate xs none ++ capOf σ js)[i]? = some (some v)) : ∃ k j, i = xs + k ∧ js[k]? = some j ∧ σ[j]? = some (some v) := by
  by_cases hi : i < xs
  · rw [List.getElem?_append_left (by simpa using hi)] at h
    rw [List.getElem?_replicate] at h
    split at h <;> cases h
  · rw [List.getElem?_append_right (by simpa using Nat.le_of_not_lt hi)] at h
    rw [List.length_replicate] at h
    unfold capOf at h
    rw [List.getElem?_map] at h
    cases e : js[i - xs]? with
    | none => rw [e] at h; cases h
    | some j =>
      rw [e] at h
      refine ⟨i - xs, j, by omega, e, ?_⟩
      have h' : (σ[j]?).getD none = some v := Option.some.inj h
      cases q : σ[j]? with
      | none => rw [q] at h'; cases h'
      | some w =>
        rw [q] at h'
        exact congrArg some h'

theorem comp_inv {h₁ : Heap} {tk : Nat} (I : Inv X pins σ H s) (S : CompScope X scope N xs js) (h2 : ∀ x c, cl.lookup x = some c → X.env.cells.lookup x = some c) (h4 : ∀ y ∈ scope.names, y.2 = .free → ∃ c, cl.lookup y.1 = some c)
    (hf : ∀ b ∈ fp, FpOk X pins H b) (hfo : ∀ b ∈ fp, ∃ u, s.heap.get? b = some u) (hd : ∀ v, o.data ≠ .cell v) (ho : o.isFreed = false) {m : Str → Option Value}
    (hns : h₁.Ns (s.heap.push o).objs.size m) (k3 : ∀ b u, (s.heap.push o).get? b = some u → h₁.get? b = some u) :
    Inv (cxComp X N scope cl { s with heap := s.heap.push o } H (s.heap.objs.size :: fp)) [(s.heap.objs.size, o)] (List.replicate xs none ++ capOf σ js) H { s with heap := h₁, toks := tk } := by
  have hsz : (s.heap.push o).objs.size = s.heap.objs.size + 1 := Heap.size_push ..
  have k2 : ∀ b u, s.heap.get? b = some u → h₁.get? b = some u := fun b u e => k3 b u (Heap.get?_push_of_some _ e)
  refine ⟨comp_ok I S h2 h4 hf hfo, rfl, I.bare, Un.kept k3, ⟨m, hns, fun i x v e1 e2 e3 => ?_⟩, fun x c e => ?_, I.hok.fresh (show s.heap.objs.size ≤ (s.heap.push o).objs.size by rw [hsz]; exact Nat.le_succ _), fun x c e => I.freeC x c (h2 x c e), fun p hp => ?_, I.hok.kept k2, ?_⟩
  · obtain ⟨k, j, rfl, hj, hσ⟩ := getElem_capOf e2
    obtain ⟨hN, hl⟩ := S.at_ k j x hj e1
    have hmem := lookup_mem hl
    have hk := S.caught _ hmem rfl
    obtain ⟨m', _, hloc⟩ := I.loc
    obtain ⟨u, r, l⟩ := hloc j x v hN hσ (by rcases hk with z | z; exact .inr (.inl z); exact .inr (.inr z))
    refine ⟨u, r, ?_⟩
    rcases l with ⟨z, _⟩ | ⟨_, c, ec, oc, hoc, hdc⟩
    · rcases hk with q | q <;> rw [q] at z <;> cases z
    · obtain ⟨c', ec'⟩ := h4 _ hmem rfl
      have := h2 _ _ ec'
      have e : c = c' := Option.some.inj (ec.symm.trans this)
      subst e
      exact .inr ⟨relabel_free (env := X.env) hl, c, ec', oc, k2 _ _ hoc, hdc⟩
  · obtain ⟨v, oc, hoc, hdc⟩ := I.cell x c (h2 x c e)
    exact ⟨v, oc, k2 _ _ hoc, hdc⟩
  · have e : p = (s.heap.objs.size, o) := by simpa [cxComp] using hp
    subst e
    exact ⟨k3 _ _ (Heap.get?_push_size _ ho), I.hok.fresh (Nat.le_refl _), (show s.heap.objs.size ≠ (s.heap.push o).objs.size by rw [hsz]; exact Nat.ne_of_lt (Nat.lt_succ_self _)), I.nostk (Nat.le_refl _), hd⟩
  · rw [List.length_append, List.length_replicate]
    unfold capOf
    rw [List.length_map]
    exact S.len.symm

/-- back in the frame around: the new list is tracked, the block's frame is not -/
theorem comp_back {s' : Shared} {H' : Hp} {σ' : St} {its : List Value} {n : Nat} {acc : List V} (I : Inv X pins σ H s) (hf : ∀ b ∈ fp, FpOk X pins H b)
    (J : Inv (cxComp X N scope cl { s with heap := s.heap.push o } H (s.heap.objs.size :: fp)) [(s.heap.objs.size, ({ cls := .type "list", data := .seq its.toArray n } : Obj))] σ' H' s')
    (rv : Vals acc its) (hz : acc.length ≤ sizeLine) :
    Inv X pins σ (upd H' s.heap.objs.size (.lst acc)) s' ∧ FpOk X pins (upd H' s.heap.objs.size (.lst acc)) (s.heap.push o).objs.size ∧ H' s.heap.objs.size = none := by
  have hsz : (s.heap.push o).objs.size = s.heap.objs.size + 1 := Heap.size_push ..
  obtain ⟨hD, hn, _, _, _⟩ := J.pin (s.heap.objs.size, ({ cls := .type "list", data := .seq its.toArray n } : Obj)) (by simp [cxComp])
  have nd : ∀ b u, H' b = some u → b ≠ s.heap.objs.size := fun b u e => ne_of_none e hn
  have lt : ∀ b u, s.heap.get? b = some u → b ∉ fp → b ∉ s.heap.objs.size :: fp := fun b u e hb z => by
    rcases List.mem_cons.mp z with z | z
    · exact absurd (Heap.lt_size e) (by rw [z]; exact Nat.lt_irrefl _)
    · exact hb z
  have ps : ∀ b u, s.heap.get? b = some u → (s.heap.push o).get? b = some u := fun b u e => Heap.get?_push_of_some _ e
  refine ⟨I.call' (ch := fp) J.os ⟨fun b u e q hb hx => J.base.keep b u (ps b u e) q hb (lt b u e hx), fun b u e q hb hx => J.base.slot b u (ps b u e) q hb (lt b u e hx), fun b u e q hx => ?_, fun b u e hx => J.base.there b u (ps b u e) (lt b u e hx),
    fun b ys e => ?_, fun b u ys e => ?_, fun b ys e => ?_⟩ (fun b u e => ?_) J.bare (fun b hb => ?_), ?_, hn⟩
  · rw [upd_ne (Nat.ne_of_lt (Heap.lt_size e))]
    exact J.base.free b u (ps b u e) q (lt b u e hx)
  · have z := J.base.tups b ys e
    rw [upd_ne (nd _ _ z)]; exact z
  · have z := J.base.frzs b u ys e
    rw [upd_ne (nd _ _ z)]; exact z
  · obtain ⟨more, z⟩ := J.base.tbls b ys e
    exact ⟨more, by rw [upd_ne (nd _ _ z)]; exact z⟩
  · by_cases hb : b = s.heap.objs.size
    · subst hb
      rw [upd_same] at e
      cases e
      exact ⟨hz, its, n, rv, hD⟩
    · rw [upd_ne hb] at e
      exact (J.hok b u e).stay (fun c v _ q => q) (fun c q => by rw [upd_ne (nd _ _ q)]; exact q) fun c ys q => by rw [upd_ne (nd _ _ q)]; exact q
  · obtain ⟨_, f1, _, f3, f4, f5⟩ := hf b hb
    exact ⟨f3, f1, f4, f5⟩
  · have I3 : Inv X pins σ H { s with heap := s.heap.push o } := I.kept (t' := s.toks) fun b u e => Heap.get?_push_of_some _ e
    refine I3.fpOk (Nat.le_refl _) ?_
    rw [upd_ne (show (s.heap.push o).objs.size ≠ s.heap.objs.size by rw [hsz]; exact Nat.succ_ne_self _)]
    exact J.free
end

/-- what a walk J asks: W by turn, measure, items so far, the block's names -/
def CompGoal (xs : Nat) (js : List Nat) (g : TG) (tt : TT) (te : TE) (σ : St) (Q : VK) (J : It) (H1 : Hp) : Prop :=
  ∃ W : Nat → Nat → List V → St → Hp → Prop, (∃ m, W 0 m [] (List.replicate xs none ++ capOf σ js) H1) ∧ ∀ i m acc σ' H, W i m acc σ' H →
    (J.stop i H ∧ ∀ p, H p = none → Q (.ref p) (upd H p (.lst acc))) ∨
    (J.go i H ∧ acc.length < sizeLine ∧ ∃ N : List V → St → Hp → Prop, (∀ acc' σ' H', N acc' σ' H' → ∃ m', m' < m ∧ W (i + 1) m' acc' σ' H') ∧ ∀ x H', J.yld i H x H' → g x σ' H' fun σ2 H2 => tt σ2 H2 fun b H3 =>
      if b = true then te σ2 H3 fun y H4 => N (acc ++ [y]) σ2 H4 else N acc σ2 H3)
/-- the reading -/
def tComp (xs : Nat) (js : List Nat) (ti : TI) (g : TG) (tt : TT) (te : TE) : TE := fun σ H Q => ti σ H fun J H1 => CompGoal xs js g tt te σ Q J H1

section
variable {X : Cx} {scope : Scope} {N : List Str} {xs : Nat} {js : List Nat} {tg iter elt : Expr} {ifs : List Expr} {pos : Pos} {ti : TI} {g : TG} {tt : TT} {te : TE}
/-- the block from the iterator on -/
theorem comp_block {pins : List (Addr × Obj)} {s : Shared} {σ : St} {H : Hp} {Q : VK} {RR : Value → Addr → Result → Shared → Prop} {E : Value → Shared → Prop} {it : Addr} {fp : List Addr} {tn : Nat → Heap → Prop} {J : It} {cl : List (Str × Addr)}
    (hc : X.calm = true) (S : CompScope X scope N xs js) (hg : ∀ cl s H ex, PG (cxComp X N scope cl s H ex) tg g) (ht : ∀ cl s H ex, PTs (cxComp X N scope cl s H ex) ifs tt) (he : ∀ cl s H ex, PE (cxComp X N scope cl s H ex) elt te)
    (h2 : ∀ x c, cl.lookup x = some c → X.env.cells.lookup x = some c) (h4 : ∀ y ∈ scope.names, y.2 = .free → ∃ c, cl.lookup y.1 = some c)
    (I : Inv X pins σ H s) (T : Turn X.prog X.w X.K tg J fp it tn) (st : tn 0 s.heap) (hf : ∀ b ∈ fp, FpOk X pins H b)
    (hW : CompGoal xs js g tt te σ Q J H)
    (hR : ∀ (D C : Addr) (H' : Hp) (s' : Shared) (m : Str → Option Value), Inv X pins σ H' s' → s'.heap.Ns C m → FpOk X pins H' C → Q (.ref D) H' → RR (.ref D) C (.ok .next) s') :
    wpAny (model X.prog X.w) X.A (newList []) (fun acc s₃ => wpAny (model X.prog X.w) X.A (newFunctionEnv scope X.env.globals cl [] X.env.qual none .none (some X.env)) (fun cenv s₄ =>
      codeAny (model X.prog X.w) X.A (.compStart (.ListComp elt [⟨tg, iter, ifs, 0⟩] scope pos) 0 (.ref it) acc { cenv with scope := relabel scope X.env }) (RR acc cenv.locals) s₄) E s₃) E s := by
  refine wpAny_newObj_type (wpAny_newFunctionEnv S.nocell (by intro y hy; simp at hy) (fun h₁ hns₁ hsb₁ => ?_) S.kind)
  dsimp only at hns₁ hsb₁ ⊢
  obtain ⟨W, ⟨m0, w0⟩, turn⟩ := hW
  have hfo : ∀ b ∈ fp, ∃ u, s.heap.get? b = some u := fun b hb => let ⟨u, hu, _⟩ := T.obj _ _ st b hb; ⟨u, hu⟩
  have hsz : (s.heap.push ({ cls := .type "list", dict := none, data := .seq ([] : List Value).toArray } : Obj)).objs.size = s.heap.objs.size + 1 := Heap.size_push ..
  have k3 : ∀ b u, (s.heap.push ({ cls := .type "list", dict := none, data := .seq ([] : List Value).toArray } : Obj)).get? b = some u → h₁.get? b = some u := fun b u e =>
    (hsb₁.2 b (Nat.ne_of_lt (Heap.lt_size e))).trans (Heap.get?_push_of_some _ e)
  have B0 := comp_inv (X := X) (N := N) (xs := xs) (js := js) (tk := s.toks + ([] : List (Str × Value)).length) I S h2 h4 hf hfo (fun v z => by cases z) rfl hns₁ k3
  generalize hXc : cxComp X N scope cl { s with heap := s.heap.push ({ cls := .type "list", dict := none, data := .seq ([] : List Value).toArray } : Obj) } H (s.heap.objs.size :: fp) = Xc at B0
  have eP : Xc.prog = X.prog := by rw [← hXc]; rfl
  have eW : Xc.w = X.w := by rw [← hXc]; rfl
  have eK : Xc.K = X.K := by rw [← hXc]; rfl
  have eA : Xc.A = X.A := by rw [← hXc]; rfl
  have eC : Xc.calm = true := by rw [← hXc]; exact hc
  have eX : Xc.xe = fun _ _ => False := by rw [← hXc]; rfl
  have eE : Xc.env = compEnvC scope cl (s.heap.push ({ cls := .type "list", dict := none, data := .seq ([] : List Value).toArray } : Obj)).objs.size X.env := by rw [← hXc]; rfl
  have eF : Xc.fs = frs X.stack := by rw [← hXc]; rfl
  have eex : Xc.ex = s.heap.objs.size :: fp := by rw [← hXc]; rfl
  have hg' : PG Xc tg g := by rw [← hXc]; exact hg _ _ _ _
  have ht' : PTs Xc ifs tt := by rw [← hXc]; exact ht _ _ _ _
  have he' : PE Xc elt te := by rw [← hXc]; exact he _ _ _ _
  have ecl : ∀ x c, Xc.env.cells.lookup x = some c → X.env.cells.lookup x = some c := by rw [eE]; exact h2
  -- what stays true of the iterator's objects
  have fpk : ∀ {H' : Hp} {ob : Obj}, (∀ b ∈ fp, H' b = none) → ∀ b ∈ fp, FpOk Xc [(s.heap.objs.size, ob)] H' b := fun {H' ob} hn b hb => by
    obtain ⟨u, hu⟩ := hfo b hb
    have hlt := Heap.lt_size hu
    obtain ⟨_, f1, f2, f3, f4, f5⟩ := hf b hb
    refine ⟨hn b hb, ?_, ?_, .inl ?_, fun x c e => f4 x c (ecl x c e), fun p hp => ?_⟩
    · rw [eE]
      show b ≠ (s.heap.push _).objs.size
      rw [hsz]; exact Nat.ne_of_lt (Nat.lt_succ_of_lt hlt)
    · rw [eF]
      intro z
      rcases List.mem_cons.mp (I.stkSub b z) with e | e
      · exact f1 e
      · exact f2 e
    · rw [eex]; exact List.mem_cons_of_mem _ hb
    · have e : p = (s.heap.objs.size, ob) := by
        rw [← hXc] at hp
        simpa [cxComp] using hp
      subst e
      show s.heap.objs.size ≠ b
      exact Nat.ne_of_gt hlt
  have loop : ∀ s₃ : Shared, s₃ = { s with heap := h₁, toks := s.toks + ([] : List (Str × Value)).length } →
      codeAny (model X.prog X.w) X.A (.compLoop (.ListComp elt [⟨tg, iter, ifs, 0⟩] scope pos) 0 (.ref it) (.ref s.heap.objs.size) (compEnvC scope cl (s.heap.push ({ cls := .type "list", dict := none, data := .seq ([] : List Value).toArray } : Obj)).objs.size X.env))
        (RR (.ref s.heap.objs.size) (s.heap.push ({ cls := .type "list", dict := none, data := .seq ([] : List Value).toArray } : Obj)).objs.size) s₃ := by
    rintro s₃ rfl
    refine compLoop_go (fun n s' => ∃ (i : Nat) (acc : List V) (its : List Value) (c : Nat) (σ' : St) (H' : Hp), Inv Xc [(s.heap.objs.size, ({ cls := .type "list", data := .seq its.toArray c } : Obj))] σ' H' s' ∧ Vals acc its ∧ tn i s'.heap ∧
      (∀ b ∈ fp, H' b = none) ∧ acc.length ≤ sizeLine ∧ W i n acc σ' H') ?_ m0 ⟨0, [], [], 0, _, H, B0, .nil, T.keep _ _ _ st fun b _ u e => k3 b u (Heap.get?_push_of_some _ e), fun b hb => (hf b hb).1, Nat.zero_le _, w0⟩
    rintro n s3 ⟨i, acc, its, c, σ3, H3, I3, rv, st3, fr3, hz, w3⟩
    rcases turn i n acc σ3 H3 w3 with ⟨stop, qn⟩ | ⟨go, hlen, NN, hNN, step⟩
    · have h := T.done Xc eP eW eK eC i _ s3 σ3 H3 (fun _ _ => False) I3 (fpk fr3) st3 stop
      rw [eA] at h
      refine thn h fun r s4 ⟨hr, I4⟩ => ?_
      subst hr
      rw [← hXc] at I4
      obtain ⟨a1, a2, a3⟩ := comp_back I hf I4 rv hz
      obtain ⟨mC, hmC, _⟩ := I4.loc
      exact hR _ _ _ _ mC a1 hmC a2 (qn _ a3)
    · have h := T.item Xc eP eW eK eC i _ s3 σ3 H3 (fun _ _ => False) I3 (fpk fr3) st3 go
      rw [eA] at h
      refine thn h fun r s4 ⟨u, hr, h4⟩ => ?_
      subst hr
      refine thn h4 fun _ s5 ⟨x, H5, I5, r5, y5, st5, fr5⟩ => ?_
      have I5' := I5.pinned (fpk fr5) (T.obj _ _ st5)
      have ha := hg' _ s5 σ3 H5 x u _ I5' r5 (step x H5 y5)
      rw [eP, eW, eA, eE, eX] at ha
      refine thn ha fun _ s6 ⟨σ6, H6, I6, q6⟩ => ?_
      have hb := ht' _ s6 σ6 H6 _ I6 q6
      rw [eP, eW, eA, eE, eX] at hb
      refine thn hb fun ok s7 ⟨H7, I7, q7⟩ => ?_
      have tn' : ∀ {σ8 : St} {H8 : Hp} {s8 : Shared}, Inv Xc ([(s.heap.objs.size, ({ cls := .type "list", data := .seq its.toArray c } : Obj))] ++ pinsAt fp s5.heap) σ8 H8 s8 → tn (i + 1) s8.heap ∧ ∀ b ∈ fp, H8 b = none := fun {σ8 H8 s8} I8 => by
        refine ⟨T.keep _ _ _ st5 fun b hb o e => (I8.pin (b, o) (List.mem_append_right _ (List.mem_append_right _ (mem_pinsAt hb e)))).1, fun b hb => ?_⟩
        obtain ⟨o, e, d⟩ := T.obj _ _ st5 b hb
        exact (I8.pin (b, o) (List.mem_append_right _ (List.mem_append_right _ (mem_pinsAt hb e)))).2.1
      cases ok with
      | false =>
        obtain ⟨m', hm, w7⟩ := hNN _ _ _ q7
        obtain ⟨t1, t2⟩ := tn' I7
        exact ⟨m', hm, i + 1, acc, its, c, σ6, H7, I7.unpinned, rv, t1, t2, hz, w7⟩
      | true =>
        have hd := he' _ s7 σ6 H7 _ I7 q7
        rw [eP, eW, eA, eE, eX] at hd
        refine thn hd fun v s8 ⟨y, H8, I8, r8, q8⟩ => ?_
        obtain ⟨m', hm, w8⟩ := hNN _ _ _ q8
        obtain ⟨t1, t2⟩ := tn' I8
        have I9 := I8.unpinned
        obtain ⟨eD, nD, nC, nF, _⟩ := I9.pin (s.heap.objs.size, ({ cls := .type "list", data := .seq its.toArray c } : Obj)) (by simp)
        have hln := rv.length
        refine call_meets F.slot_list_append ⟨_, eD, rfl⟩ F.entry_list_append (F.args_list_append_2 _ _) (PySem.list_append s.heap.objs.size its.toArray c v (by rw [List.size_toArray]; omega)) ⟨eD, ?_⟩
        obtain ⟨n9, q⟩ : ∃ n9, (s8.heap.update s.heap.objs.size (Obj.mapSeq fun a => a.push v)).get? s.heap.objs.size = some ({ cls := .type "list", data := .seq (its ++ [v]).toArray n9 } : Obj) := by
          have q := PySem.IsL.update eD (fun a => a.push v)
          have ea : its.toArray.push v = (its ++ [v]).toArray := by simp
          rw [ea] at q
          exact ⟨_, q⟩
        have I10 : Inv Xc [] σ6 H8 { s8 with heap := s8.heap.update s.heap.objs.size (Obj.mapSeq fun a => a.push v) } := by
          refine (I9.pins_of (pins' := []) fun p hp => nomatch hp).turned (it := s.heap.objs.size) (t' := s8.toks) (fun b u hb e => (Heap.get?_update_other s8.heap _ (Ne.symm hb)).trans e) nD nC (.inl (by rw [eex]; exact List.mem_cons_self)) (fun x cc e => ?_) (fun p hp => ?_)
          · obtain ⟨w0, oc, hoc, _⟩ := I.cell x cc (ecl x cc e)
            exact Nat.ne_of_lt (Heap.lt_size hoc)
          · rw [← hXc] at hp
            exact absurd hp (by simp [cxComp])
        refine ⟨m', hm, i + 1, acc ++ [y], its ++ [v], n9, σ6, H8, I10.pins_of fun p hp => ?_, rv.append (.cons r8 .nil), T.keep _ _ _ t1 fun b hb u e => ?_, t2, by rw [List.length_append, List.length_singleton]; omega, w8⟩
        · have e : p = (s.heap.objs.size, ({ cls := .type "list", data := .seq (its ++ [v]).toArray n9 } : Obj)) := by simpa using hp
          subst e
          exact ⟨q, nD, nC, nF, fun w z => by cases z⟩
        · have hb' : b ≠ s.heap.objs.size := by
            obtain ⟨z, hz'⟩ := hfo b hb
            exact Nat.ne_of_lt (Heap.lt_size hz')
          exact (Heap.get?_update_other s8.heap _ (Ne.symm hb')).trans e
  exact codeAny_compStart_list (loop _ rfl) (T.self _ 0 _ _ _ (T.keep _ _ _ st fun b _ u e => k3 b u (Heap.get?_push_of_some _ e)) (loop _ rfl))

/-- a comprehension as a value -/
theorem pe_comp (hc : X.calm = true) (S : CompScope X scope N xs js) (hi : PI X tg iter ti) (hg : ∀ cl s H ex, PG (cxComp X N scope cl s H ex) tg g) (ht : ∀ cl s H ex, PTs (cxComp X N scope cl s H ex) ifs tt)
    (he : ∀ cl s H ex, PE (cxComp X N scope cl s H ex) elt te) (hs : ∀ x, foldedSetIterable iter X.env x = pure x := by intro _; rfl) :
    PE X (.ListComp elt [⟨tg, iter, ifs, 0⟩] scope pos) (tComp xs js ti g tt te) := by
  intro pins s σ H Q I h
  obtain ⟨cl, e1, h2, h4⟩ := closure_ok (scope := scope) (env := X.env) fun y hy e => I.ok.has y.1 (S.caught y hy e)
  rw [eval_ListComp]
  refine wpAny_comprehension_free (use := none) rfl hs e1 S.kind S.once (thn (hi pins s σ H _ I h) fun v s1 h1 => thn h1 fun itv s2 h2' => ?_)
  obtain ⟨it, fp, tn, J, H2, e, I2, T, st2, f2, hW⟩ := h2'
  subst e
  refine comp_block (RR := fun acc C => compPost (model X.prog X.w) X.A X.xe none (EP X pins σ Q) acc C) hc S hg ht he h2 h4 I2 T st2 f2 hW fun D C H' s' m I' hn hC q => ?_
  obtain ⟨f0, f1, _, f3, f4, f5⟩ := hC
  exact ⟨m, hn, fun h' hs' => ⟨.ref D, H', I'.turned (it := C) (t' := s'.toks) (fun b u hb e => (hs'.2 b hb).trans e) f0 f1 f3 f4 f5, rfl, q⟩⟩

/-- name = [..], the comprehension stored ahead of its names' going -/
theorem ps_comp {j : Nat} {y : Str} {py spos : Pos} (hc : X.calm = true) (hN : X.N.Nodup) (hj : X.N[j]? = some y) (hy : X.env.scope.names.lookup y = some .local) (S : CompScope X scope N xs js) (hi : PI X tg iter ti) (hg : ∀ cl s H ex, PG (cxComp X N scope cl s H ex) tg g) (ht : ∀ cl s H ex, PTs (cxComp X N scope cl s H ex) ifs tt)
    (he : ∀ cl s H ex, PE (cxComp X N scope cl s H ex) elt te)
    (hsw : swapsWith (.ListComp elt [⟨tg, iter, ifs, 0⟩] scope pos) (some (.Name y py)) spos.line X.env = pure true)
    (hs : ∀ x, foldedSetIterable iter X.env x = pure x := by intro _; rfl) :
    PS X (.Assign [.Name y py] (.ListComp elt [⟨tg, iter, ifs, 0⟩] scope pos) spos) (tAsg (tComp xs js ti g tt te) (gName j)) := by
  intro pins s σ H D I h
  obtain ⟨cl, e1, h2, h4⟩ := closure_ok (scope := scope) (env := X.env) fun y hy e => I.ok.has y.1 (S.caught y hy e)
  rw [exec_Assign_Name_used _ _ _ _ hsw]
  refine wpAny_bind (wpAny_standAt (wpAny_bind ?_))
  show wpAny _ X.A (do let _ ← comprehension (.ListComp elt [⟨tg, iter, ifs, 0⟩] scope pos) scope X.env _ (newList []) false (eval iter X.env) (some (assign (.Name y py) X.env))) _ _ s
  refine wpAny_bind (wpAny_mono (wpAny_comprehension_free (use := some (assign (.Name y py) X.env)) (Q := fun _ s' => SP X pins D .next s') rfl hs e1 S.kind S.once
    (thn (hi pins s σ H _ I h) fun v s1 h1 => thn h1 fun itv s2 h2' => ?_)) (fun _ s' hq => wpAny_pure (wpAny_pure hq)) fun _ _ e => e)
  obtain ⟨it, fp, tn, J, H2, e, I2, T, st2, f2, hW⟩ := h2'
  subst e
  refine comp_block (Q := fun x H1 => gName j x σ H1 D.nx) (RR := fun acc C => compPost (model X.prog X.w) X.A X.xe (some (assign (.Name y py) X.env)) (fun _ s' => SP X pins D .next s') acc C) hc S hg ht he h2 h4 I2 T st2 f2 hW fun A C H' s' m I' hn hC q => ?_
  obtain ⟨f0, f1, f2', f3, f4, f5⟩ := hC
  show wpAny _ X.A (assign (.Name y py) X.env (.ref A)) _ _ _
  refine wpAny_assign_Name (store_ok2 I' hN hj (.inl hy) (show RelV (.ref A) (.ref A) from rfl) (fun s'' I'' ⟨a, sb, ha⟩ => ?_) (.inr hy))
  have hCa : C ≠ a := by
    rcases ha with e | e
    · rw [e]; exact f1
    · exact fun z => f4 y a e z.symm
  refine ⟨m, hn.sameBut sb hCa, fun h' hs' => ?_⟩
  exact ⟨_, H', I''.turned (it := C) (t' := s''.toks) (fun b u hb e => (hs'.2 b hb).trans e) f0 f1 f3 f4 f5, q⟩
end

/-! ### the forms one uses: over a list, a tuple, a range -/
section
variable {K : PySem.W.Frag} {xs : Nat} {js : List Nat} {g : TG} {tt : TT} {te : TE} {σ : St} {Q : VK} {H : Hp}
/-- any walk of n turns: Pv by turn, items so far, names -/
theorem comp_walk {J : It} {n : Nat} (Pv : Nat → List V → St → Hp → Prop) (h0 : Pv 0 [] (List.replicate xs none ++ capOf σ js) H) (hl : ∀ i acc σ' H', Pv i acc σ' H' → acc.length ≤ i) (hz : n ≤ sizeLine)
    (hgo : ∀ i acc σ' H', i < n → Pv i acc σ' H' → J.go i H') (hst : ∀ acc σ' H', Pv n acc σ' H' → J.stop n H')
    (hs : ∀ i x acc σ' H' H2, i < n → Pv i acc σ' H' → J.yld i H' x H2 → g x σ' H2 fun σ2 H2 => tt σ2 H2 fun b H3 => if b = true then te σ2 H3 fun y H4 => Pv (i + 1) (acc ++ [y]) σ2 H4 else Pv (i + 1) acc σ2 H3)
    (hd : ∀ acc σ' H', Pv n acc σ' H' → ∀ p, H' p = none → Q (.ref p) (upd H' p (.lst acc))) : CompGoal xs js g tt te σ Q J H := by
  refine ⟨fun i m acc σ' H' => m = n - i ∧ i ≤ n ∧ Pv i acc σ' H', ⟨n, by simp, Nat.zero_le _, h0⟩, ?_⟩
  rintro i m acc σ' H' ⟨rfl, hi, p⟩
  by_cases hlt : i < n
  · have := hl _ _ _ _ p
    exact .inr ⟨hgo i acc σ' H' hlt p, by omega, fun a s h => Pv (i + 1) a s h, fun a s h q => ⟨n - (i + 1), by omega, rfl, hlt, q⟩, fun x H2 y => hs i x acc σ' H' H2 hlt p y⟩
  · have e : i = n := by omega
    subst e
    exact .inl ⟨hst _ _ _ p, hd _ _ _ p⟩
/-- over a list or tuple that the block leaves as it is -/
theorem comp_list {a : Addr} {ys : List V} (Pv : Nat → List V → St → Hp → Prop) (h0 : Pv 0 [] (List.replicate xs none ++ capOf σ js) H) (hl : ∀ i acc σ' H', Pv i acc σ' H' → acc.length ≤ i) (hz : ys.length ≤ sizeLine)
    (hq : ∀ i acc σ' H', i ≤ ys.length → Pv i acc σ' H' → SqL K H' a ys)
    (hs : ∀ i x acc σ' H', ys[i]? = some x → Pv i acc σ' H' → g x σ' H' fun σ2 H2 => tt σ2 H2 fun b H3 => if b = true then te σ2 H3 fun y H4 => Pv (i + 1) (acc ++ [y]) σ2 H4 else Pv (i + 1) acc σ2 H3)
    (hd : ∀ acc σ' H', Pv ys.length acc σ' H' → ∀ p, H' p = none → Q (.ref p) (upd H' p (.lst acc))) : CompGoal xs js g tt te σ Q (Itl K a) H :=
  comp_walk Pv h0 hl hz (fun i acc σ' H' h p => ⟨ys, ys[i], hq _ _ _ _ (Nat.le_of_lt h) p, by simp [h]⟩) (fun acc σ' H' p => ⟨ys, hq _ _ _ _ (Nat.le_refl _) p, Nat.le_refl _⟩)
    (fun i x acc σ' H' H2 h p y => by
      obtain ⟨e, y⟩ := y
      subst e
      exact hs i x acc σ' _ (y ys (hq _ _ _ _ (Nat.le_of_lt h) p)) p) hd
theorem comp_range {lo : Int} {n : Nat} (Pv : Nat → List V → St → Hp → Prop) (h0 : Pv 0 [] (List.replicate xs none ++ capOf σ js) H) (hl : ∀ i acc σ' H', Pv i acc σ' H' → acc.length ≤ i) (hz : n ≤ sizeLine)
    (hs : ∀ i acc σ' H', i < n → Pv i acc σ' H' → g (.int (lo + i)) σ' H' fun σ2 H2 => tt σ2 H2 fun b H3 => if b = true then te σ2 H3 fun y H4 => Pv (i + 1) (acc ++ [y]) σ2 H4 else Pv (i + 1) acc σ2 H3)
    (hd : ∀ acc σ' H', Pv n acc σ' H' → ∀ p, H' p = none → Q (.ref p) (upd H' p (.lst acc))) : CompGoal xs js g tt te σ Q (Itr lo n) H :=
  comp_walk Pv h0 hl hz (fun i acc σ' H' h p => h) (fun acc σ' H' p => Nat.le_refl _)
    (fun i x acc σ' H' H2 h p y => by
      obtain ⟨e, y⟩ := y
      subst e y
      exact hs i acc σ' _ h p) hd
end

/-! ### the signs of a text -/
def Its (x : Str) : It := ⟨fun i _ => i < x.cps.size, fun i H v H' => H' = H ∧ ∃ c, x.cps[i]? = some c ∧ v = .str ⟨#[c]⟩, fun i _ => i = x.cps.size⟩
def iStr (tl : TE) : TI := fun σ H R => tl σ H fun v H1 => ∃ x, v = .str x ∧ R (Its x) H1
theorem comp_str {xs : Nat} {js : List Nat} {g : TG} {tt : TT} {te : TE} {σ : St} {Q : VK} {H : Hp} {x : Str} (Pv : Nat → List V → St → Hp → Prop) (h0 : Pv 0 [] (List.replicate xs none ++ capOf σ js) H) (hl : ∀ i acc σ' H', Pv i acc σ' H' → acc.length ≤ i) (hz : x.cps.size ≤ sizeLine)
    (hs : ∀ i c acc σ' H', x.cps[i]? = some c → Pv i acc σ' H' → g (.str ⟨#[c]⟩) σ' H' fun σ2 H2 => tt σ2 H2 fun b H3 => if b = true then te σ2 H3 fun y H4 => Pv (i + 1) (acc ++ [y]) σ2 H4 else Pv (i + 1) acc σ2 H3)
    (hd : ∀ acc σ' H', Pv x.cps.size acc σ' H' → ∀ p, H' p = none → Q (.ref p) (upd H' p (.lst acc))) : CompGoal xs js g tt te σ Q (Its x) H :=
  comp_walk Pv h0 hl hz (fun i acc σ' H' h p => h) (fun acc σ' H' p => rfl)
    (fun i v acc σ' H' H2 h p y => by
      obtain ⟨e, c, y1, y2⟩ := y
      subst e y2
      exact hs i c acc σ' _ y1 p) hd
/-- at the sign i of x -/
def StrAt (it : Addr) (x : Str) (t : Tok) (i : Nat) (h : Heap) : Prop := h.IsStrIter it "str_ascii_iterator" x t i ∨ h.IsStrIter it "str_iterator" x t i
theorem StrAt.obj {it : Addr} {x : Str} {t : Tok} {i : Nat} {h : Heap} (st : StrAt it x t i h) : ∃ o n vs, h.get? it = some o ∧ o.cls = .type n ∧ o.data = .fields vs ∧ (n = "str_ascii_iterator" ∨ n = "str_iterator") := by
  rcases st with ⟨o, e, c, d⟩ | ⟨o, e, c, d⟩
  · exact ⟨o, _, _, e, c, d, .inl rfl⟩
  · exact ⟨o, _, _, e, c, d, .inr rfl⟩
theorem StrAt.go {M : Model} {A : Around} {E : Value → Shared → Prop} {s : Shared} {tg : Expr} {it : Addr} {u : Value} {x : Str} {t : Tok} {i : Nat} {Q : Unit → Shared → Prop} (st : StrAt it x t i s.heap) (hQ : Q () s) : wpAny M A (letOwnedTupleGo tg (.ref it) u) Q E s := by
  obtain ⟨o, n, vs, e, c, d, hn⟩ := st.obj
  rcases hn with rfl | rfl
  · exact go_of e c d (by decide) hQ
  · exact go_of e c d (by decide) hQ
theorem turn_str {P : Program} {w : World} {K : PySem.W.Frag} {tg : Expr} (it : Addr) (x : Str) (t : Tok) : Turn P w K tg (Its x) [it] it (StrAt it x t) where
  mem := by simp
  obj := fun i h st b hb => by
    have e : b = it := by simpa using hb
    subst e
    obtain ⟨o, n, vs, e, c, d, hn⟩ := st.obj
    exact ⟨o, e, fun v z => by rw [d] at z; cases z⟩
  keep := fun i h h' st k => by
    rcases st with ⟨o, e, r⟩ | ⟨o, e, r⟩
    · exact .inl ⟨o, k it (by simp) o e, r⟩
    · exact .inr ⟨o, k it (by simp) o e, r⟩
  item := by
    intro X hP hw hK hc i pins s σ H E I hf st hg
    subst hP hw hK
    obtain ⟨f0, f1, f2, f3, f4, f5⟩ := hf it (by simp)
    have fin : ∀ (v : Value) (h' : Heap) (tk : Nat), SignAt x i v → StrAt it x t (i + 1) h' → (∀ b o, b ∉ [it] → s.heap.get? b = some o → h'.get? b = some o) →
        ∃ u, some v = some u ∧ wpAny (model X.prog X.w) X.A (letOwnedTupleGo tg (.ref it) u) (fun _ s2 => ∃ y H', Inv X pins σ H' s2 ∧ RelV y u ∧ (Its x).yld i H y H' ∧ StrAt it x t (i + 1) s2.heap ∧ ∀ b ∈ [it], H' b = none) E { s with heap := h', toks := tk } := by
      rintro v h' tk ⟨c, u, hc', rfl⟩ st' k
      exact ⟨_, rfl, st'.go (s := { s with heap := h', toks := tk }) ⟨.str ⟨#[c]⟩, H, I.turned (t' := tk) (fun b o hb e => k b o (by simpa using hb) e) f0 f1 f3 f4 f5, ⟨_, rfl⟩, ⟨rfl, c, hc', rfl⟩, st', fun b hb => (hf b hb).1⟩⟩
    rcases st with st | st
    · exact (Walks.strAscii (I.ok.hd hc) it x t).item i s _ _ hg st fun v h' tk hv st' k => fin v h' tk hv (.inl st') k
    · exact (Walks.strWide (I.ok.hd hc) it x t).item i s _ _ hg st fun v h' tk hv st' k => fin v h' tk hv (.inr st') k
  done := by
    intro X hP hw hK hc i pins s σ H E I hf st hg
    subst hP hw hK
    obtain ⟨f0, f1, f2, f3, f4, f5⟩ := hf it (by simp)
    have hg' : i = x.cps.size := hg
    subst hg'
    rcases st with st | st
    · exact (Walks.strAscii (I.ok.hd hc) it x t).done s _ _ st fun h' tk k => ⟨rfl, I.turned (t' := tk) (fun b o hb e => k b o (by simpa using hb) e) f0 f1 f3 f4 f5⟩
    · exact (Walks.strWide (I.ok.hd hc) it x t).done s _ _ st fun h' tk k => ⟨rfl, I.turned (t' := tk) (fun b o hb e => k b o (by simpa using hb) e) f0 f1 f3 f4 f5⟩
  self := fun A i s Q E st h => by
    rcases st with st | st
    · exact wpAny_pyIter_striter_ascii st h
    · exact wpAny_pyIter_striter_wide st h
theorem pi_str {X : Cx} {tg l : Expr} {tl : TE} (hl : PE X l tl) : PI X tg l (iStr tl) := by
  intro pins s σ H R I h
  refine thn (hl pins s σ H _ I h) fun v s1 ⟨y, H1, I1, r1, q1⟩ => ?_
  obtain ⟨x, rfl, q⟩ := q1
  obtain ⟨t, rfl⟩ := r1
  have fin : ∀ o, StrAt s1.heap.objs.size x t 0 (s1.heap.push o) → PIE X pins σ tg R (.ref s1.heap.objs.size) { s1 with heap := s1.heap.push o } := fun o st => by
    refine ⟨s1.heap.objs.size, [s1.heap.objs.size], _, _, H1, rfl, I1.kept (t' := s1.toks) fun b o e => Heap.get?_push_of_some _ e, turn_str _ x t, st, fun b hb => ?_, q⟩
    have e : b = s1.heap.objs.size := by simpa using hb
    subst e
    exact I1.fpOk (Nat.le_refl _) (I1.hok.fresh (Nat.le_refl _))
  cases ha : x.cps.all (· < 128)
  · exact wpAny_pyIter_wide ha (fin _ (.inr ⟨_, Heap.get?_push_size _ rfl, rfl, rfl⟩))
  · exact wpAny_pyIter_ascii ha (fin _ (.inl ⟨_, Heap.get?_push_size _ rfl, rfl, rfl⟩))

/-! ### all(..) of a list of bools -/
theorem all_range (bs : List Bool) : (List.range bs.length).all (fun i => (bs[i]?).getD true) = bs.all id := by
  rw [Bool.eq_iff_iff]
  simp only [List.all_eq_true, List.mem_range, id]
  constructor
  · intro h b hb
    obtain ⟨i, hi, e⟩ := List.mem_iff_getElem.mp hb
    have := h i hi
    rw [List.getElem?_eq_getElem hi] at this
    rw [← e]
    exact this
  · intro h i hi
    rw [List.getElem?_eq_getElem hi]
    exact h _ (List.getElem_mem hi)
section
variable {X : Cx}
theorem call_all (hc : X.calm = true) : CallR X (.builtin "all") (fun xs H Q => ∃ (p : Addr) (bs : List Bool), xs = [.ref p] ∧ SqL X.K H p (bs.map V.bl) ∧ Q (.bl (bs.all id)) H) := by
  intro pins s σ H xs us Q I r h
  obtain ⟨p, bs, rfl, hp, q⟩ := h
  obtain ⟨u, rfl, ru⟩ := vals1 r
  cases ru
  obtain ⟨its, rv, ht, hz⟩ := I.list hp
  have hlen := rv.length
  rw [List.length_map] at hlen
  refine call_all_walk (wpAny_pyIter_list ht.isList ?_)
  have hpn : p < s.heap.objs.size := let ⟨o, n, e, _⟩ := ht; Heap.lt_size e
  refine ⟨s.heap.objs.size, [s.heap.objs.size, p], [s.heap.objs.size], its.toArray.size, (fun i v => its.toArray[i]? = some v), (fun i h => h.IsListIter s.heap.objs.size p i ∧ h.IsList p its.toArray), fun i => (bs[i]?).getD true, rfl, Walks.list (A := X.A.in1) (show X.A.in1.handled = none from I.ok.hd hc) s.heap.objs.size p (Nat.ne_of_lt hpn) its.toArray, ⟨⟨_, Heap.get?_push_size _ rfl, rfl, rfl⟩, ht.isList.at fun o e => Heap.get?_push_of_some _ e⟩, ?_, fun h' tk k => ?_⟩
  · intro i v s' Q' E' hv hq
    have hv' : its[i]? = some v := by simpa using hv
    have hi : i < bs.length := by rw [hlen]; exact (List.getElem?_eq_some_iff.mp hv').1
    obtain ⟨u', hu', ru'⟩ := rv.get (i := i) (x := .bl bs[i]) (by simp [hi])
    rw [hv'] at hu'
    cases hu'
    cases ru'
    refine wpAny_truthy_bool ?_
    have hq' : Q' ((bs[i]?).getD true) s' := hq
    rw [List.getElem?_eq_getElem hi] at hq'
    exact hq'
  · have e : (List.range its.toArray.size).all (fun i => (bs[i]?).getD true) = bs.all id := by
      rw [List.size_toArray, ← hlen]
      exact all_range bs
    refine ⟨.bl (bs.all id), H, I.kept (t' := tk) fun b o e => k b o ?_ (Heap.get?_push_of_some _ e), by rw [e]; rfl, q⟩
    have := Heap.lt_size e
    intro z
    rw [List.mem_singleton.mp z] at this
    exact Nat.lt_irrefl _ this

/-! ### isinstance of a value and a built-in class -/
theorem call_isinst : CallR X (.builtin "isinstance") (fun xs H Q => ∃ x T t b, xs = [x, .ty T] ∧ TyOf X.K H x t ∧ PySem.W.kitOne X.K t (.type T) = some b ∧ Q (.bl b) H) := by
  intro pins s σ H xs us Q I r h
  obtain ⟨x, T, t, b, rfl, ty, e, q⟩ := h
  obtain ⟨u, v, rfl, ru, rv⟩ := vals2 r
  cases rv
  exact isinst_ok I ru ty e fun tk => ⟨.bl b, H, I.tok tk, rfl, q⟩

/-! ### slices of a text -/
def rSlS : V → Option Int → Option Int → Hp → VK → Prop := fun x lo hi H Q => ∃ z, x = .str z ∧ z.length ≤ sizeLine ∧ Q (.str (Txt.slice z lo hi)) H
theorem sl_str : SlR X rSlS := by
  intro pins s σ H x v vl vu lo hi sl Q I rx hs pl pu h
  obtain ⟨z, rfl, hz, q⟩ := h
  obtain ⟨t, rfl⟩ := rx
  refine ⟨"str", _, F.slot_str_getitem.lookup, typeIs_str _ _ _, ?_⟩
  have fin : ∀ t' k, EP X pins σ Q (.str (Txt.slice z lo hi) t') { s with toks := k } := fun t' k => ⟨.str _, H, I.tok k, ⟨t', rfl⟩, q⟩
  obtain ⟨o, ho, hc, hd⟩ := hs
  cases pl with
  | none =>
    cases pu with
    | none => exact wpAny_getItem_str_slice (l := none) (u := none) (st := none) ⟨o, ho, hc, hd⟩ rfl (post_val_or_str ⟨Nat.le_trans (Txt.slice_le z _ _) hz, fin⟩)
    | int j uj => exact wpAny_getItem_str_slice (l := none) (u := some (j, uj)) (st := none) ⟨o, ho, hc, hd⟩ rfl (post_val_or_str ⟨Nat.le_trans (Txt.slice_le z _ _) hz, fin⟩)
  | int i ui =>
    cases pu with
    | none => exact wpAny_getItem_str_slice (l := some (i, ui)) (u := none) (st := none) ⟨o, ho, hc, hd⟩ rfl (post_val_or_str ⟨Nat.le_trans (Txt.slice_le z _ _) hz, fin⟩)
    | int j uj => exact wpAny_getItem_str_slice (l := some (i, ui)) (u := some (j, uj)) (st := none) ⟨o, ho, hc, hd⟩ rfl (post_val_or_str ⟨Nat.le_trans (Txt.slice_le z _ _) hz, fin⟩)

/-! ### // by any positive divisor of up to 9000 bits -/
theorem op_fdivB : OpR X (binaryOp .FloorDiv) (rI (fun _ j => 0 < j ∧ j.natAbs.log2 < 9000) fun i j => .int (i / j)) := opI fun i j _ _ _ _ _ hc q => by
  refine floordiv_int (by omega) ?_ (.inl (PyProof.noPylong_of_log2 hc.2))
  rw [Int.fdiv_eq_ediv_of_nonneg i (by omega)]
  exact q

/-! ### list(d), d.values(), list(d.values()) -/
end

/-! ### data compared -/
/-- the data that a value bears, n lists deep at most -/
def RdD (K : PySem.W.Frag) (H : Hp) : Nat → V → PyData → Prop
  | _, .non, d => d = .none
  | _, .bl b, d => d = .bool b
  | _, .int i, d => d = .int i
  | _, .str x, d => PyData.strOk x = true ∧ d = .str x
  | n + 1, .ref a, d => (∃ xs ds, SqL K H a xs ∧ d = .list ds ∧ Paired (RdD K H n) xs ds) ∨ ∃ xs ds, SqT K H a xs ∧ d = .tuple ds ∧ Paired (RdD K H n) xs ds
  | _, _, _ => False
section
variable {X : Cx} {pins : List (Addr × Obj)} {σ : St} {H : Hp} {s : Shared}
theorem RdD.reads (I : Inv X pins σ H s) : ∀ (n : Nat) (v : V) (d : PyData) (u : Value), RdD X.K H n v d → RelV v u → (∃ as, Reads s.heap u d as) ∧ d.canLay0 = true ∧ d.depth ≤ n := by
  intro n
  induction n with
  | zero =>
    intro v d u h r
    cases v <;> simp only [RdD] at h
    · subst h; cases r; exact ⟨⟨_, .none⟩, rfl, Nat.le_refl _⟩
    · subst h; cases r; exact ⟨⟨_, .bool _⟩, rfl, Nat.le_refl _⟩
    · subst h; obtain ⟨t, rfl⟩ := r; exact ⟨⟨_, .int _ _⟩, rfl, Nat.le_refl _⟩
    · obtain ⟨h1, rfl⟩ := h; obtain ⟨t, rfl⟩ := r; exact ⟨⟨_, .str _ _⟩, h1, Nat.le_refl _⟩
  | succ n ih =>
    have all : ∀ (xs : List V) (ds : List PyData) (us : List Value), Paired (RdD X.K H n) xs ds → Vals xs us → (∃ as, ReadsAll s.heap us ds as) ∧ PyData.canLayAll0 ds = true ∧ PyData.depthAll ds ≤ n := by
      intro xs ds us p
      induction p generalizing us with
      | nil => intro r; cases r; exact ⟨⟨_, .nil⟩, rfl, Nat.zero_le _⟩
      | cons h t ih2 =>
        intro r
        cases r with
        | cons r1 r2 =>
          obtain ⟨⟨as, a1⟩, a2, a3⟩ := ih _ _ _ h r1
          obtain ⟨⟨bs, b1⟩, b2, b3⟩ := ih2 _ r2
          exact ⟨⟨_, .cons a1 b1⟩, by simp [PyData.canLayAll0, a2, b2], by simp only [PyData.depthAll]; omega⟩
    intro v d u h r
    cases v <;> simp only [RdD] at h
    · subst h; cases r; exact ⟨⟨_, .none⟩, rfl, Nat.zero_le _⟩
    · subst h; cases r; exact ⟨⟨_, .bool _⟩, rfl, Nat.zero_le _⟩
    · subst h; obtain ⟨t, rfl⟩ := r; exact ⟨⟨_, .int _ _⟩, rfl, Nat.zero_le _⟩
    · obtain ⟨h1, rfl⟩ := h; obtain ⟨t, rfl⟩ := r; exact ⟨⟨_, .str _ _⟩, h1, Nat.zero_le _⟩
    · cases r
      rcases h with ⟨xs, ds, hq, rfl, p⟩ | ⟨xs, ds, hq, rfl, p⟩
      · obtain ⟨its, rv, ⟨o, m, e, c, _, dd⟩, _⟩ := I.list hq
        obtain ⟨⟨as, a1⟩, a2, a3⟩ := all xs ds its p rv
        exact ⟨⟨_, .list e c dd (by simpa using a1)⟩, by simpa [PyData.canLay0] using a2, by simp only [PyData.depth]; omega⟩
      · obtain ⟨its, rv, ⟨o, e, c, m, dd⟩, _⟩ := I.tuple hq
        obtain ⟨⟨as, a1⟩, a2, a3⟩ := all xs ds its p rv
        exact ⟨⟨_, .tuple e c dd (by simpa using a1)⟩, by simpa [PyData.canLay0] using a2, by simp only [PyData.depth]; omega⟩
def rEqD (K : PySem.W.Frag) (neg : Bool) : R2 := fun x y H Q => ∃ n dx dy, n ≤ 64 ∧ RdD K H n x dx ∧ RdD K H n y dy ∧ Q (.bl (if neg then !PyData.eqv dx dy else PyData.eqv dx dy)) H
theorem op_eqD (hu : X.A.units + 64 < cLine) : OpR X (compareOp .Eq) (rEqD X.K false) := by
  intro pins s σ H x y v u Q I rx ry h
  obtain ⟨n, dx, dy, hn, h1, h2, q⟩ := h
  obtain ⟨⟨as, a1⟩, a2, a3⟩ := RdD.reads I n x dx v h1 rx
  obtain ⟨⟨bs, b1⟩, b2, b3⟩ := RdD.reads I n y dy u h2 ry
  have sx : SeqAt.shaped dx = true := by unfold SeqAt.shaped; rw [a2, decide_eq_true (by omega)]; rfl
  have sy : SeqAt.shaped dy = true := by unfold SeqAt.shaped; rw [b2, decide_eq_true (by omega)]; rfl
  exact SeqAt.compareEq_shaped a1 b1 sx sy hu ⟨.bl _, H, I, rfl, q⟩
theorem op_neD (hu : X.A.units + 64 < cLine) : OpR X (compareOp .NotEq) (rEqD X.K true) := by
  intro pins s σ H x y v u Q I rx ry h
  obtain ⟨n, dx, dy, hn, h1, h2, q⟩ := h
  obtain ⟨⟨as, a1⟩, a2, a3⟩ := RdD.reads I n x dx v h1 rx
  obtain ⟨⟨bs, b1⟩, b2, b3⟩ := RdD.reads I n y dy u h2 ry
  have sx : SeqAt.shaped dx = true := by unfold SeqAt.shaped; rw [a2, decide_eq_true (by omega)]; rfl
  have sy : SeqAt.shaped dy = true := by unfold SeqAt.shaped; rw [b2, decide_eq_true (by omega)]; rfl
  exact SeqAt.compareNe_shaped a1 b1 sx sy hu ⟨.bl _, H, I, rfl, q⟩
end
end L2

namespace L2
open PySem PySem.Spec PyProof.Rows
/-! ### a def of the text that keeps a promise, by its name; a method -/
structure Can (P : Program) (w : World) (K : PySem.W.Frag) (mg : Str → Option Value) (base : Heap) (k : Nat) (x : Str) (ps : List Str) (sp : Sp) : Prop where
  ex : ∃ (f : Addr) (fd : FuncData), FnOk P w K mg base CX0 k f fd ps sp ∧ mg x = some (.ref f) ∧ PySem.W.keepIn K (.ref f) = true ∧ Binds K fd ps []
section
variable {P : Program} {w : World} {K : PySem.W.Frag} {mg : Str → Option Value} {base : Heap} {j k : Nat} {x m : Str} {ps : List Str} {sp sp' : Sp} {C : Addr}
end
section
variable {X : Cx} {k : Nat} {x m : Str} {ps : List Str} {sp : Sp} {C : Addr} {p pos apos : Pos} {e o : Expr} {es : List Expr} {ta : TE} {t : TA}
theorem pe_callC (c : Can X.prog X.w X.K X.mg X.base k x ps sp) (hr : Room k X.A) (hg : Gl X x) (ha : PA X (e :: es) t) (hdb : (x == ("__debug__" : Str)) = false := by decide)
    (he : starEach (e :: es) X.env = (false, eval e X.env) :: starEach es X.env := by rfl) (hpl : (backTo pos (starEach es X.env)).any (·.1) = false := by rfl) :
    PE X (.Call (.Name x p) (e :: es) [] pos) (tCall sp [] E0 t) := by
  obtain ⟨f, fd, F, hm, hk, hb⟩ := c.ex
  exact pe_call F hr hg hm hk hb .nil pass0 ha hdb he hpl
end
/-- a module's constant by its value -/
def GlobIs (mg : Str → Option Value) (x : Str) (v : V) : Prop := ∃ u, mg x = some u ∧ RelV v u
theorem pe_globC {X : Cx} {x : Str} {v : V} {pos : Pos} (h : GlobIs X.mg x v) (hg : Gl X x) (hd : (x == ("__debug__" : Str)) = false := by decide) : PE X (.Name x pos) (tC v) := by
  obtain ⟨u, hm, r⟩ := h
  exact pe_glob hg hm r hd
/-- a built-in type as a value -/
theorem pe_ty {X : Cx} {x : Str} {T : String} {pos : Pos} (hm : X.mg x = none) (hg : Gl X x) (hv : bootBuiltins x = some (.type T)) (hn : x ≠ "__name__" := by decide) (hd : (x == ("__debug__" : Str)) = false := by decide) : PE X (.Name x pos) (tC (.ty T)) :=
  pe_bltn hg hm hv (show RelV (.ty T) (.type T) from rfl) hn hd
end L2
namespace L2
open PySem
theorem b_all : bootBuiltins "all" = some (.builtin "all") := by decide +kernel
theorem b_isi : bootBuiltins "isinstance" = some (.builtin "isinstance") := by decide +kernel
theorem b_len : bootBuiltins "len" = some (.builtin "len") := by decide +kernel
theorem b_abs : bootBuiltins "abs" = some (.builtin "abs") := by decide +kernel
theorem b_str : bootBuiltins "str" = some (.type "str") := by decide +kernel
theorem b_int : bootBuiltins "int" = some (.type "int") := by decide +kernel
theorem b_bool : bootBuiltins "bool" = some (.type "bool") := by decide +kernel
theorem b_list : bootBuiltins "list" = some (.type "list") := by decide +kernel
/-! ### the heap, small facts -/
theorem Same.upd {H H' : Hp} {p : Addr} {o : HO} (e : Same H H') (h : H' p = none) : Same H (L2.upd H' p o) := fun b ob z => by
  rw [upd_ne (ne_of_none (e b ob z) h)]
  exact e b ob z
theorem Same.new {H : Hp} {p : Addr} {o : HO} (h : H p = none) : Same H (L2.upd H p o) := (Same.refl H).upd h
end L2
namespace L2
open PySem
theorem slice_same (x : Str) (l u : Option Int) : Txt.slice x l u = StrLaws.sliceText x l u := rfl
theorem idx_clip (a b n : Nat) (h : n ≤ b) : Builtin.Str.strSliceIndices (some (a : Int)) (some (b : Int)) 1 n = Builtin.Str.strSliceIndices (some (a : Int)) (some (n : Int)) 1 n := by
  unfold Builtin.Str.strSliceIndices
  have e1 : ¬ ((b : Int) < 0) := by omega
  have e2 : ¬ ((n : Int) < 0) := by omega
  have e3 : min (b : Int) (n : Int) = n := by omega
  simp [e1, e2, e3]
theorem slice_list (z : Str) {a b : Nat} (ha : a ≤ z.length) (hab : a ≤ b) : (Txt.slice z (some (a : Int)) (some (b : Int))).cps.toList = (z.cps.toList.drop a).take (b - a) := by
  rw [slice_same]
  by_cases hb : b ≤ z.length
  · rw [StrLaws.sliceText_nat z hab hb]
  · have hb' : z.length ≤ b := by omega
    have e : StrLaws.sliceText z (some (a : Int)) (some (b : Int)) = StrLaws.sliceText z (some (a : Int)) (some (z.length : Int)) := by
      unfold StrLaws.sliceText
      rw [idx_clip a b z.length hb']
    rw [e, StrLaws.sliceText_nat z ha (Nat.le_refl _)]
    show (z.cps.toList.drop a).take (z.length - a) = _
    have hl : (z.cps.toList.drop a).length = z.length - a := by rw [List.length_drop]; rfl
    rw [List.take_of_length_le (by omega), List.take_of_length_le (by omega)]
theorem slice_to (z : Str) (b : Nat) : (Txt.slice z none (some (b : Int))).cps.toList = z.cps.toList.take b := by
  have e : Txt.slice z none (some (b : Int)) = Txt.slice z (some ((0 : Nat) : Int)) (some (b : Int)) := by
    rw [slice_same, slice_same]
    unfold StrLaws.sliceText
    rw [StrLaws.sliceIdx_none_lo]
    rfl
  rw [e, slice_list z (Nat.zero_le _) (Nat.zero_le _)]
  simp
theorem slice_from (z : Str) {a : Nat} (ha : a ≤ z.length) : (Txt.slice z (some (a : Int)) none).cps.toList = z.cps.toList.drop a := by
  have e : Txt.slice z (some (a : Int)) none = Txt.slice z (some (a : Int)) (some ((z.length : Nat) : Int)) := by
    rw [slice_same, slice_same]
    unfold StrLaws.sliceText
    rw [StrLaws.sliceIdx_none_hi]
  rw [e, slice_list z ha ha]
  have hl : (z.cps.toList.drop a).length = z.length - a := by rw [List.length_drop]; rfl
  rw [List.take_of_length_le (by omega)]
end L2

namespace L2
open PySem
/-! ### a cut: what holds between two statements -/
def tCut (R : St → Hp → Prop) (t u : TS) : TS := fun D σ H => t { D with nx := R } σ H ∧ ∀ σ' H', R σ' H' → u D σ' H'
theorem pss_cut {X : Cx} {st : Stmt} {rest : List Stmt} {t u : TS} (R : St → Hp → Prop) (h1 : PS X st t) (h2 : PSs X rest u) : PSs X (st :: rest) (tCut R t u) := by
  intro pins s σ H D I h
  refine wpAny_execs_cons (thn (h1 pins s σ H { D with nx := R } I h.1) fun f s1 q => ?_)
  cases f with
  | next =>
    obtain ⟨σ', H', I', q⟩ := q
    exact h2 pins s1 σ' H' D I' (h.2 σ' H' q)
  | ret v => exact q
  | brk => exact q
  | cont => exact q
end L2

namespace L2
open PySem
/-! ### a test by what holds behind it -/
end L2

namespace L2
open PySem
/-! ### the rules by a fragment that is named (inside a comprehension's block) -/
section
variable {X : Cx}
theorem ix_listK (K : PySem.W.Frag) (hK : X.K = K) : IxR X (rIxL K) := by
  subst hK
  exact ix_list
end
end L2

namespace L2
theorem iteFb {b : Bool} {A B : Prop} (h : b = false) (hB : B) : if b = true then A else B := by rw [h]; exact iteF hB
theorem iteTb {b : Bool} {A B : Prop} (h : b = true) (hA : A) : if b = true then A else B := by rw [h]; exact iteT hA
end L2

namespace L2
open PySem
/-! ### a cut that is chosen when it is read -/
def tCutE (t u : TS) : TS := fun D σ H => ∃ R : St → Hp → Prop, t { D with nx := R } σ H ∧ ∀ σ' H', R σ' H' → u D σ' H'
theorem pss_cutE {X : Cx} {st : Stmt} {rest : List Stmt} {t u : TS} (h1 : PS X st t) (h2 : PSs X rest u) : PSs X (st :: rest) (tCutE t u) := by
  intro pins s σ H D I h
  obtain ⟨R, ha, hb⟩ := h
  exact pss_cut R h1 h2 pins s σ H D I ⟨ha, hb⟩
end L2

namespace L2
open PySem
/-! ### for x in a text; slices of a list by numbers -/
end L2

/-! OWN RULES: exceptions that fly through defs, raised and caught. -/
namespace L2
open PySem PySem.Spec PyProof.Rows
theorem ObjOk.there {P : Program} {w : World} {H : Hp} {h : Heap} {a : Addr} {o : HO} (x : ObjOk P w H h a o) : ∃ u, h.get? a = some u := by
  cases o with
  | lst xs => obtain ⟨_, _, _, _, e⟩ := x; exact ⟨_, e⟩
  | tup xs => obtain ⟨_, _, _, ob, e, _⟩ := x; exact ⟨_, e⟩
  | dK kvs => obtain ⟨_, _, _, _, o, _, _, e, _⟩ := x; exact ⟨_, e⟩
  | dT kvs => obtain ⟨_, _, _, _, o, _, _, e, _⟩ := x; exact ⟨_, e⟩
  | set S n => obtain ⟨o, _, _, _, e, _⟩ := x; exact ⟨_, e⟩
  | ins C dx fs => obtain ⟨_, _, _, e, _⟩ := x; exact ⟨_, e⟩
  | own y => exact x
  | xd fs => obtain ⟨_, ⟨_, _, _, e, _⟩, _⟩ := x; exact ⟨_, e⟩
  | rng lo hi => obtain ⟨_, _, _, e⟩ := x; exact ⟨_, e⟩
  | frz ob u => obtain ⟨e, _⟩ := x; exact ⟨_, e⟩
  | tbl ps => exact ⟨_, (show h.get? a = some _ from x)⟩
  | met f y => exact ⟨_, (show h.get? a = some _ from x)⟩
  | ext φ => obtain ⟨_, e, _⟩ := x; exact e

/-! ### in flight -/
/-- the exception at a flies over the frames l: B holds all that stood ahead of it but the frames -/
structure Fly (l : List Env) (H' : Hp) (h₀ h' : Heap) (a : Addr) (cls : Value) : Prop where
  ex : ∃ (B : Heap) (a0 : Value), Heap.FlyingW B l a cls a0 h' ∧ (∀ b o, H' b = some o → ∃ u, B.get? b = some u) ∧ ∀ b u, h₀.get? b = some u → b ∉ frs l → ∃ u', B.get? b = some u'
/-- how an exception lies behind a call -/
def CXF (P : Program) (w : World) : CXT := fun outer H s E e s' => ∃ (a : Addr) (cls : Value) (H' : Hp), e = .ref a ∧ s'.os = s.os ∧ AllBare s'.gens ∧ Un (frs outer) [] H H' s.heap s'.heap ∧ HOk P w H' s'.heap ∧
  Fly outer H' s.heap s'.heap a cls ∧ E cls none H'

section
variable {P : Program} {w : World} {l : List Env} {H H' : Hp} {h0 h1 h2 B : Heap}
theorem fly_un (un : Un (frs l) [] H H' h0 h1) (hok : HOk P w H' h1) (b1 : B.StaysIn h1) (b2 : B.StaysIn h2) (ff : h1.FunFrames B l) (k1 : ∀ b o, H' b = some o → ∃ u, B.get? b = some u)
    (k2 : ∀ b u, h0.get? b = some u → b ∉ frs l → ∃ u', B.get? b = some u') (up : h1.UpToSlots h2) : Un (frs l) [] H H' h0 h2 ∧ HOk P w H' h2 := by
  have inB : ∀ b u, h1.get? b = some u → (∃ u', B.get? b = some u') → h2.get? b = some u := fun b u e ⟨u', e'⟩ => by
    have := b1 b u' e'
    rw [e] at this
    rw [Option.some.inj this]
    exact b2 b u' e'
  have fr : ∀ b u, b ∈ frs l → h1.get? b = some u → ∃ sl, h2.get? b = some { u with slots := sl } := fun b u hb e => by
    obtain ⟨_, o', ho', hd⟩ := ff.mem hb
    rw [e] at ho'
    cases ho'
    exact up b u e hd
  have nx : ∀ b : Addr, b ∉ ([] : List Addr) := fun b z => nomatch z
  refine ⟨⟨fun b o e n hb hx => inB b o (un.keep b o e n hb hx) (k2 b o e hb), fun b o e n hb hx => ?_, un.free, fun b o e hx => ?_, un.tups, un.frzs, un.tbls⟩, fun b o e => ?_⟩
  · obtain ⟨sl, e1⟩ := un.slot b o e n hb hx
    obtain ⟨sl', e2⟩ := fr b _ hb e1
    exact ⟨sl', e2⟩
  · obtain ⟨o', e1⟩ := un.there b o e hx
    by_cases hb : b ∈ frs l
    · obtain ⟨sl, e2⟩ := fr b o' hb e1
      exact ⟨_, e2⟩
    · exact ⟨o', inB b o' e1 (k2 b o e hb)⟩
  · refine (hok b o e).stay (fun c u hc q => inB c u q ?_) (fun _ q => q) fun _ _ q => q
    rcases hc with z | z
    · rw [z]; exact k1 b o e
    · exact k1 c _ z
end

section
variable {X : Cx} {pins : List (Addr × Obj)} {σ : St} {H : Hp} {s s' : Shared} {E : XK} {M : Model} {E2 : Value → Shared → Prop}
/-- out of a def's frame -/
theorem fly_out {a : Addr} {cls a0 : Value} {B : Heap} (hex : X.ex = []) (f : Heap.FlyingW B X.outer a cls a0 s.heap) (k1 : ∀ b o, H b = some o → ∃ u, B.get? b = some u)
    (k2 : ∀ b u, X.s₀.heap.get? b = some u → b ∉ frs X.stack → ∃ u', B.get? b = some u') (J : Inv X pins σ H s) (hE : E cls none H) : CXF X.prog X.w X.outer X.H₀ X.s₀ E (.ref a) s := by
  have un : Un (frs X.outer) [] X.H₀ H X.s₀.heap s.heap := by
    have := J.base
    rw [hex] at this
    exact this
  refine ⟨a, cls, H, rfl, J.os, J.bare, un, J.hok, ⟨B, a0, f, k1, fun b u e hb => k2 b u e fun hm => ?_⟩, hE⟩
  rcases List.mem_cons.mp (J.stkSub b hm) with z | z
  · exact absurd (Nat.lt_of_lt_of_le (Heap.lt_size e) J.ok.above) (by rw [z]; exact Nat.lt_irrefl _)
  · exact hb z
/-- an exception just made leaves the frame -/
theorem leave_made {h1 : Heap} {a : Addr} {cls : Value} {vs : List Value} (I : Inv X pins σ H s) (hs : X.stack = X.env :: X.outer) (hf : X.env.frame = some X.env.locals) (hex : X.ex = []) (hx : Heap.MadeExcOf s.heap h1 a cls vs) (hE : E cls none H) :
    wpAny M X.A (leaving X.env (.ref a)) (fun _ s'' => CXF X.prog X.w X.outer X.H₀ X.s₀ E (.ref a) s'') E2 { s with heap := h1 } := by
  have st := I.stack
  have hin : ∀ env ∈ X.stack, ∀ b, env.frame = some b → b ∈ frs X.stack := fun env he b hb => List.mem_filterMap.mpr ⟨env, he, hb⟩
  have ff : s.heap.FunFrames (PySem.W.hideAll s.heap (frs X.stack)) X.stack := PySem.W.funFrames_hide st hin
  have k1 : ∀ b o, H b = some o → ∃ u, (PySem.W.hideAll s.heap (frs X.stack)).get? b = some u := fun b o e => by
    obtain ⟨u, hu⟩ := (I.hok b o e).there
    exact ⟨u, PySem.W.hideAll_get _ hu fun z => by rw [I.stkFree b z] at e; cases e⟩
  have k0 : ∀ b u, s.heap.get? b = some u → b ∉ frs X.stack → ∃ u', (PySem.W.hideAll s.heap (frs X.stack)).get? b = some u' := fun b u e hb => ⟨u, PySem.W.hideAll_get _ e hb⟩
  have b1 : (PySem.W.hideAll s.heap (frs X.stack)).StaysIn s.heap := fun b o q => PySem.W.of_hideAll _ q
  refine wpAny_leaves_madeW (base := PySem.W.hideAll s.heap (frs X.stack)) (h := s.heap) (L := X.env.locals) (outer := X.outer) (by rw [← hs]; exact I.ok.frames) hf b1 (by rw [← hs]; exact ff) hx fun h' t x1 x2 x3 x4 => ?_
  obtain ⟨un, ok⟩ := fly_un (l := X.stack) (H := H) (h0 := s.heap) Un.refl I.hok b1 x1.1 ff k1 k0 ((Heap.UpToSlots.of_keeps hx.keeps).trans x4)
  have J : Inv X pins σ H { s with heap := h' } := I.call' (s' := { s with heap := h' }) (ch := []) rfl un ok I.bare fun _ z => nomatch z
  refine fly_out hex x1 k1 (fun b u e hb => ?_) J hE
  obtain ⟨u', e'⟩ := I.base.there b u e (by rw [hex]; simp)
  exact k0 b u' e' hb
/-- an exception of a callee leaves the frame -/
theorem leave_on {e : Value} (I : Inv X pins σ H s) (hs : X.stack = X.env :: X.outer) (hf : X.env.frame = some X.env.locals) (hex : X.ex = []) (q : CXF X.prog X.w X.stack H s E e s') :
    wpAny M X.A (leaving X.env e) (fun _ s'' => CXF X.prog X.w X.outer X.H₀ X.s₀ E e s'') E2 s' := by
  obtain ⟨a, cls, H', rfl, os, bare, un, hok, ⟨B, a0, f, k1, k2⟩, hE⟩ := q
  refine wpAny_leaves_onW (L := X.env.locals) (outer := X.outer) (by rw [← hs]; exact I.ok.frames) hf (by rw [← hs]; exact f) fun h' x1 x2 => ?_
  obtain ⟨un2, ok2⟩ := fly_un (h2 := h') un hok f.1 x1.1 f.2.2.1 k1 k2 x2
  have I' : Inv X pins σ H' s' := I.call' (ch := []) os un hok bare fun _ z => nomatch z
  have J : Inv X pins σ H' { s' with heap := h' } := I.call' (s' := { s' with heap := h' }) (ch := []) os un2 ok2 bare fun _ z => nomatch z
  refine fly_out hex x1 k1 (fun b u e hb => ?_) J hE
  obtain ⟨u', e'⟩ := I.base.there b u e (by rw [hex]; simp)
  exact k2 b u' e' hb
end

/-! ### defs that may raise -/
/-- what a body wants of exceptions: those of callees, those that it makes -/
structure Wants (X : Cx) (E : XK) : Prop where
  on : Passes (CXF X.prog X.w) X E
  made : ∀ (pins : List (Addr × Obj)) (σ : St) (H : Hp) (s : Shared) (h1 : Heap) (a : Addr) (cls : Value) (vs : List Value), Inv X pins σ H s → Heap.MadeExcOf s.heap h1 a cls vs → E cls none H → X.xe (.ref a) { s with heap := h1 }
  own : PassesOwn (model X.prog X.w) X.A X.env X.xe
section
variable {P : Program} {w : World} {K : PySem.W.Frag} {mg : Str → Option Value} {base : Heap}
theorem wants_def {N : List Str} {qual : Str} {scope : Scope} {f : Addr} {cd : Value} {A : Around} {outer : List Env} {s : Shared} {H : Hp} {E : XK} : Wants (cxOf (CXF P w) P w K mg base N qual scope f cd A outer s H E) E where
  on := fun pins σ H' s' e s'' I q => leave_on I rfl rfl rfl q
  made := fun pins σ H' s' h1 a cls vs I hx hE => leave_made I rfl rfl rfl hx hE
  own := PassesOwn.leaving
/-- THE RULE for a def that may raise -/
theorem Fun.okX {x qual : Str} {st : Stmt} {f : Addr} {fd : FuncData} {N ps : List Str} {k : Nat} {sp : Sp} (F : Fun K x qual st f fd) (S : FnScope N ps (defScope st)) (len : ∀ vs H Q E, sp vs H Q E → vs.length = ps.length)
    (hbody : ∀ (cdv : Value) (A : Around) (outer : List Env) (s : Shared) (H : Hp) (vs : List V) (Q : VK) (E : XK), Room k (A.deeper (envOfC qual (defScope st) s.heap.objs.size f cdv)) → Wants (cxOf (CXF P w) P w K mg base N qual (defScope st) f cdv A outer s H E) E → sp vs H Q E →
      ∃ t, PSs (cxOf (CXF P w) P w K mg base N qual (defScope st) f cdv A outer s H E) (defBody st) t ∧ t { nx := fun _ H' => Q .non H', rt := Q } (start N vs) H) : FnOk P w K mg base (CXF P w) (k + 1) f fd ps sp := by
  obtain ⟨oc, od, kV, doc, pm, an, cdv, ct, osl, rfl, lk, hcd⟩ := F.ex
  exact fn_of lk hcd S len fun A outer s H vs Q E hr hsp => hbody cdv A outer s H vs Q E hr wants_def hsp
end
structure CanX (P : Program) (w : World) (K : PySem.W.Frag) (mg : Str → Option Value) (base : Heap) (k : Nat) (x : Str) (ps : List Str) (sp : Sp) : Prop where
  ex : ∃ (f : Addr) (fd : FuncData), FnOk P w K mg base (CXF P w) k f fd ps sp ∧ mg x = some (.ref f) ∧ PySem.W.keepIn K (.ref f) = true ∧ Binds K fd ps []
section
variable {P : Program} {w : World} {K : PySem.W.Frag} {mg : Str → Option Value} {base : Heap} {j k : Nat} {x m : Str} {ps : List Str} {sp sp' : Sp} {C : Addr}
end
section
variable {X : Cx} {k : Nat} {x m : Str} {ps : List Str} {sp : Sp} {C : Addr} {p pos apos : Pos} {e o : Expr} {es : List Expr} {ta : TE} {t : TA} {E : XK}
theorem pe_callX (c : CanX X.prog X.w X.K X.mg X.base k x ps sp) (W : Wants X E) (hr : Room k X.A) (hg : Gl X x) (ha : PA X (e :: es) t) (hdb : (x == ("__debug__" : Str)) = false := by decide)
    (he : starEach (e :: es) X.env = (false, eval e X.env) :: starEach es X.env := by rfl) (hpl : (backTo pos (starEach es X.env)).any (·.1) = false := by rfl) :
    PE X (.Call (.Name x p) (e :: es) [] pos) (tCall sp [] E t) := by
  obtain ⟨f, fd, F, hm, hk, hb⟩ := c.ex
  exact pe_call F hr hg hm hk hb .nil W.on ha hdb he hpl
end

/-! ### texts put together: f'..' -/
section
variable {X : Cx}
def PJ (X : Cx) (es : List Expr) (t : St → Hp → (Str → Hp → Prop) → Prop) : Prop :=
  ∀ (out : Str) (pins : List (Addr × Obj)) (s : Shared) (σ : St) (H : Hp) (Q : VK), out.length + 100000 * es.length ≤ sizeLine → Inv X pins σ H s → t σ H (fun y H1 => Q (.str (out ++ y)) H1) →
    wpAny (model X.prog X.w) X.A (joinParts out (evalEach es X.env)) (EP X pins σ Q) X.xe s
def tJNil : St → Hp → (Str → Hp → Prop) → Prop := fun _ H R => R Str.empty H
def tJCons (te : TE) (t : St → Hp → (Str → Hp → Prop) → Prop) : St → Hp → (Str → Hp → Prop) → Prop := fun σ H R => te σ H fun v H1 => ∃ y, v = .str y ∧ y.length ≤ 100000 ∧ t σ H1 fun z H2 => R (y ++ z) H2
theorem str_ext {x y : Str} (h : x.cps.toList = y.cps.toList) : x = y := by
  obtain ⟨a⟩ := x
  obtain ⟨b⟩ := y
  exact congrArg Str.mk (Array.toList_inj.mp h)
theorem cps_app (x y : Str) : (x ++ y).cps.toList = x.cps.toList ++ y.cps.toList := Array.toList_append
theorem str_app_assoc (x y z : Str) : x ++ y ++ z = x ++ (y ++ z) := str_ext (by rw [cps_app, cps_app, cps_app, cps_app, List.append_assoc])
theorem str_app_nil (x : Str) : x ++ Str.empty = x := str_ext (by rw [cps_app]; exact List.append_nil _)
theorem str_nil_app (x : Str) : Str.empty ++ x = x := str_ext (by rw [cps_app]; exact List.nil_append _)
theorem str_len_app (x y : Str) : (x ++ y).length = x.length + y.length := Array.size_append
theorem pj_nil : PJ X [] tJNil := fun out pins s σ H Q hz I h => by
  have h' : Q (.str out) H := by have z : Q (.str (out ++ Str.empty)) H := h; rw [str_app_nil] at z; exact z
  exact joinParts_nil ⟨.str out, H, I.tok _, ⟨_, rfl⟩, h'⟩ (by simp only [List.length_nil] at hz; omega)
theorem pj_cons {e : Expr} {es : List Expr} {te : TE} {t : St → Hp → (Str → Hp → Prop) → Prop} (he : PE X e te) (hr : PJ X es t) : PJ X (e :: es) (tJCons te t) := fun out pins s σ H Q hz I h => by
  have ee : evalEach (e :: es) X.env = eval e X.env :: evalEach es X.env := rfl
  rw [ee]
  refine joinParts_cons (thn (he pins s σ H _ I h) fun v s1 ⟨x, H1, I1, r1, y, ey, hy, q⟩ => ?_)
  subst ey
  obtain ⟨t0, rfl⟩ := r1
  rw [List.length_cons] at hz
  have hl := str_len_app out y
  refine ⟨by omega, hr (out ++ y) pins s1 σ H1 Q (by omega) I1 ?_⟩
  simp only [str_app_assoc]
  exact q
def tJ (t : St → Hp → (Str → Hp → Prop) → Prop) : TE := fun σ H Q => t σ H fun y H1 => Q (.str y) H1
theorem pe_join {e1 e2 : Expr} {es : List Expr} {t : St → Hp → (Str → Hp → Prop) → Prop} {pos : Pos} (h : PJ X (e1 :: e2 :: es) t) (hn : es.length ≤ 100) : PE X (.JoinedStr (e1 :: e2 :: es) pos) (tJ t) := fun pins s σ H Q I q => by
  refine JoinedStr_many (h Str.empty pins s σ H Q ?_ I ?_)
  · show 0 + 100000 * (es.length + 1 + 1) ≤ 2 ^ 24
    omega
  · simp only [str_nil_app]
    exact q
/-- {x} of a text or a number -/
def tFmt (tv : TE) : TE := fun σ H Q => tv σ H fun v H1 => (∃ y, v = .str y ∧ y.length ≤ sizeLine ∧ Q (.str y) H1) ∨ ∃ i : Int, v = .int i ∧ i.natAbs.log2 < 1920 ∧ Q (.str (toString i : String)) H1
theorem pe_fmt {e : Expr} {tv : TE} {pos : Pos} (he : PE X e tv) : PE X (.FormattedValue e (-1) none pos) (tFmt tv) := fun pins s σ H Q I h => by
  refine FormattedValue_plain (thn (he pins s σ H _ I h) fun v s1 ⟨x, H1, I1, r1, q⟩ => ?_)
  rcases q with ⟨y, rfl, hy, q⟩ | ⟨i, rfl, hi, q⟩
  · obtain ⟨t0, rfl⟩ := r1
    exact formatField_str (fun t' tk => ⟨.str y, H1, I1.tok tk, ⟨_, rfl⟩, q⟩) hy
  · obtain ⟨t0, rfl⟩ := r1
    exact formatField_int_small hi ⟨.str _, H1, I1.tok _, ⟨_, rfl⟩, q⟩
/-- {x!r} of a text or a number: some text -/
def tRep (tv : TE) : TE := fun σ H Q => tv σ H fun v H1 => (∃ y, v = .str y ∧ (reprText y).length ≤ sizeLine ∧ Q (.str (reprText y)) H1) ∨ ∃ i : Int, v = .int i ∧ i.natAbs.log2 < 1920 ∧ (Str.ofString (toString i)).length ≤ sizeLine ∧ Q (.str (toString i : String)) H1
theorem pe_rep {e : Expr} {tv : TE} {pos : Pos} (he : PE X e tv) : PE X (.FormattedValue e 114 none pos) (tRep tv) := fun pins s σ H Q I h => by
  refine wpAny_FormattedValue_repr (thn (he pins s σ H _ I h) fun v s1 ⟨x, H1, I1, r1, q⟩ => ?_)
  rcases q with ⟨y, rfl, hy, q⟩ | ⟨i, rfl, hi, hz, q⟩
  · obtain ⟨t0, rfl⟩ := r1
    refine pyReprObj_str ?_ hy
    exact formatField_str (s := { s1 with toks := s1.toks + 1 }) (fun t' tk => ⟨.str _, H1, I1.tok tk, ⟨_, rfl⟩, q⟩) hy
  · obtain ⟨t0, rfl⟩ := r1
    refine pyReprObj_int hi ?_
    exact formatField_str (s := { s1 with toks := s1.toks + 1 }) (fun t' tk => ⟨.str _, H1, I1.tok tk, ⟨_, rfl⟩, q⟩) hz
end
end L2

namespace L2
open PySem
/-! ### a callee that may raise, where it does not -/
theorem passX0 {X : Cx} : Passes (CXF X.prog X.w) X E0 := fun _ _ _ _ _ _ _ ⟨_, _, _, _, _, _, _, _, _, hE⟩ => hE.elim
section
variable {X : Cx} {k : Nat} {x m : Str} {ps : List Str} {sp : Sp} {C : Addr} {p pos apos : Pos} {e o : Expr} {es : List Expr} {ta : TE} {t : TA}
theorem pe_callX0 (c : CanX X.prog X.w X.K X.mg X.base k x ps sp) (hr : Room k X.A) (hg : Gl X x) (ha : PA X (e :: es) t) (hdb : (x == ("__debug__" : Str)) = false := by decide)
    (he : starEach (e :: es) X.env = (false, eval e X.env) :: starEach es X.env := by rfl) (hpl : (backTo pos (starEach es X.env)).any (·.1) = false := by rfl) :
    PE X (.Call (.Name x p) (e :: es) [] pos) (tCall sp [] E0 t) := by
  obtain ⟨f, fd, F, hm, hk, hb⟩ := c.ex
  exact pe_call F hr hg hm hk hb .nil passX0 ha hdb he hpl
end
end L2

namespace L2
open PySem PySem.Spec PyProof.Rows
/-! ### raise C(..) of an own class -/
theorem own_obj {K : PySem.W.Frag} {h : Heap} {C : Addr} {bmB : List Value} {newId : String} (X : K.In h) (q : PySem.W.excIn K C bmB newId = true) :
    ∃ bm N nm qn bs hdct sn sub ab col dd k0 k1 k2 k3 k5 mN, h.get? C = some (excClassObj nm qn C N bs bm hdct sn sub ab col dd k0 k1 k2 k3 k5 newId) ∧ h.Ns N mN ∧ mN "__init__" = none ∧ OwnTail h bmB bm := by
  unfold PySem.W.excIn at q
  split at q
  case h_2 => cases q
  case h_1 dd cd sl ho =>
    split at q
    case h_2 => cases q
    case h_1 C1 bm k0 k1 k2 k3 n k5 hm hs =>
      simp only [beq_iff_eq, Bool.not_eq_true', Bool.and_eq_true] at q
      obtain ⟨⟨⟨⟨⟨z1, z2⟩, z3⟩, z4⟩, z5⟩, z6⟩ := q
      subst z1 z2
      obtain ⟨nm, bs, mro, ns, qn, hd, sn, sub, ab, col, del⟩ := cd
      dsimp only at hm z3 z5 z6
      subst hm z3
      have es : sl = #[k0, k1, k2, k3, some (.builtin n), k5] := by
        cases sl with
        | mk l =>
          have : l = [k0, k1, k2, k3, some (.builtin n), k5] := hs
          rw [this]
      subst es
      exact ⟨bm, ns, nm, qn, bs, hd, sn, sub, ab, col, dd, k0, k1, k2, k3, k5, _, X _ _ ho, .of_isNs (PySem.W.isNs_of_in X z5), PySem.W.nsMap_none_of_in X z5 z6, PySem.W.tail_of_in X z4⟩
def tRaise (C : Addr) (E : XK) (t : TA) : TS := fun _ σ H => t σ H fun vs H1 => vs.length ≤ sizeLine ∧ E (.ref C) none H1
theorem ps_raise {X : Cx} {E : XK} {x : Str} {C : Addr} {bmB : List Value} {B newId initId : String} {e₀ : Expr} {rest : List Expr} {np cpos pos : Pos} {t : TA} (W : Wants X E) (hc : X.calm = true) (hg : Gl X x) (hm : X.mg x = some (.ref C))
    (q : PySem.W.excIn X.K C bmB newId = true) (FB : ExcBaseFacts B newId initId bmB) (ha : PA X (e₀ :: rest) t) (hdb : (x == ("__debug__" : Str)) = false := by decide)
    (he : starEach (e₀ :: rest) X.env = (false, eval e₀ X.env) :: starEach rest X.env := by rfl) (hpl : (backTo cpos (starEach rest X.env)).any (·.1) = false := by rfl) :
    PS X (.Raise (some (.Call (.Name x np) (e₀ :: rest) [] cpos)) none pos) (tRaise C E t) := by
  intro pins s σ H D I h
  obtain ⟨bm, N, nm, qn, bs, hdct, sn, sub, ab, col, dd, k0, k1, k2, k3, k5, mN, hC, hN, hni, T⟩ := own_obj I.mod.kin q
  have hany : (backTo cpos (starEach (e₀ :: rest) X.env)).any (·.1) = false := by
    rw [he]
    exact hpl
  have hargs := ha cpos pins s σ H _ I h
  refine wpAny_Raise_call_subT (C := C) (nm := nm) (q := qn) (N := N) (bs := bs) (bm := bm) (hdct := hdct) (sn := sn) (sub := sub) (ab := ab) (col := col) (dd := dd) (k0 := k0) (k1 := k1) (k2 := k2) (k3 := k3) (k5 := k5) FB (mN := mN) (T.hasType FB.hasBase) (I.ok.hd hc) hany hni
    (ld_glob I hg hm ⟨rfl, ?_⟩ hdb)
  rw [he] at hargs ⊢
  exact Calls.evalArgs_plain (thn hargs fun us s2 ⟨vs, H1, I1, r, hz, hE⟩ => ⟨rfl, by show us.length ≤ sizeLine; rw [← r.length]; exact hz, I1.bk _ _ hC, hN.keeps I1.bk, T.keeps I1.bk, fun h' a hx => W.made pins σ H1 s2 h' a _ _ I1 hx hE⟩)

/-! ### a call whose exception is caught here -/
/-- a callee's exception, arrived in X -/
def XA (X : Cx) (pins : List (Addr × Obj)) (σ : St) (E : XK) (ex : Value) (s' : Shared) : Prop := ∃ H1 s1, Inv X pins σ H1 s1 ∧ CXF X.prog X.w X.stack H1 s1 E ex s'
def PEX (X : Cx) (e : Expr) (t : XK → TE) : Prop :=
  ∀ (pins : List (Addr × Obj)) (s : Shared) (σ : St) (H : Hp) (Q : VK) (E : XK), Inv X pins σ H s → t E σ H Q → wpAny (model X.prog X.w) X.A (eval e X.env) (EP X pins σ Q) (XA X pins σ E) s
def PSX (X : Cx) (st : Stmt) (t : XK → TS) : Prop :=
  ∀ (pins : List (Addr × Obj)) (s : Shared) (σ : St) (H : Hp) (D : Ends) (E : XK), Inv X pins σ H s → t E D σ H → wpAny (model X.prog X.w) X.A (exec st X.env) (SP X pins D) (XA X pins σ E) s
section
variable {X : Cx} {k : Nat} {x : Str} {ps : List Str} {sp : Sp} {p pos : Pos} {e : Expr} {es : List Expr} {t : TA}
theorem pex_call (c : CanX X.prog X.w X.K X.mg X.base k x ps sp) (hr : Room k X.A) (hg : Gl X x) (ha : PA X.nox (e :: es) t) (hdb : (x == ("__debug__" : Str)) = false := by decide)
    (he : starEach (e :: es) X.env = (false, eval e X.env) :: starEach es X.env := by rfl) (hpl : (backTo pos (starEach es X.env)).any (·.1) = false := by rfl) :
    PEX X (.Call (.Name x p) (e :: es) [] pos) (fun E => tCall sp [] E t) := by
  obtain ⟨f, fd, F, hm, hk, hb⟩ := c.ex
  intro pins s σ H Q E I h
  refine wpAny_Call_Name_kw (ld_glob I hg hm ?_ hdb)
  refine PySem.W.callWith_K (h₀ := X.base) I.ok.mod.kin hk (wpAny_mono (ha pos pins s σ H _ (I.wish _) h) (fun us s1 ⟨vs, H1, I1', r, q⟩ => ⟨I1'.unwish.kIn, ?_⟩) fun _ _ z => False.elim z) he hpl
  have I1 := I1'.unwish
  have r2 : Vals (vs ++ []) (us ++ []) := r.append .nil
  have hl : (us ++ []).length = ps.length := by rw [← r2.length]; exact F.len _ _ _ _ q
  refine wpAny_call (codeAny_mono (F.run X.A X.stack s1 H1 ⟨us, []⟩ (us ++ []) (vs ++ []) Q E hr I1.env0 (hb s1 us I1.kIn hl) r2 q) fun r s' hq => ?_)
  cases r with
  | error ex => exact ⟨H1, s1, I1, hq⟩
  | ok fl =>
    cases fl with
    | ret u => exact I1.after hq
    | next => exact False.elim hq
    | brk => exact False.elim hq
    | cont => exact False.elim hq
theorem psx_expr {te : XK → TE} (he : PEX X e te) (hs : swapsWith e none pos.line X.env = pure false := by rfl) : PSX X (.Expr e pos) (fun E => tDrop (te E)) := by
  intro pins s σ H D E I h
  exact wpAny_Expr_any (thn (he pins s σ H _ E I h) fun v s1 ⟨x, H1, I1, r1, q1⟩ => ⟨σ, H1, I1, q1⟩) I.quiet hs
end

/-! ### an exception that is held -/
def excO (a : Addr) (cls : Value) : HO := .ext fun h => ∃ ob vs, h.get? a = some ob ∧ ob.cls = cls ∧ ob.data = .fields vs
/-- within an except suite -/
def Cx.mark (X : Cx) (v : Value) : Cx := { X with A := X.A.mark (some v), calm := false, xe := fun _ _ => False }
theorem Cx.Ok.mark {X : Cx} (ok : X.Ok) (v : Value) : (X.mark v).Ok :=
  ⟨ok.mod, ok.kind, ok.glob, ok.blt, ok.above, ok.inj, ok.has, ok.cab, (fun h => nomatch h), ok.frames, ok.stk, ok.exf, ok.bs, ok.bsz, ok.noex, ok.exfs, ok.funs, ok.frf⟩
theorem Cx.Ok.unmark {X : Cx} {v : Value} (ok : (X.mark v).Ok) (hd : X.calm = true → X.A.handled = none) : X.Ok :=
  ⟨ok.mod, ok.kind, ok.glob, ok.blt, ok.above, ok.inj, ok.has, ok.cab, hd, ok.frames, ok.stk, ok.exf, ok.bs, ok.bsz, ok.noex, ok.exfs, ok.funs, ok.frf⟩
section
variable {X : Cx} {pins : List (Addr × Obj)} {σ : St} {H : Hp} {s : Shared} {v : Value}
theorem Inv.mark (I : Inv X pins σ H s) (v : Value) : Inv (X.mark v) pins σ H s := ⟨I.ok.mark v, I.os, I.bare, I.base, I.loc, I.cell, I.free, I.freeC, I.pin, I.hok, I.len⟩
theorem Inv.unmark (I : Inv (X.mark v) pins σ H s) (hd : X.calm = true → X.A.handled = none) : Inv X pins σ H s := ⟨I.ok.unmark hd, I.os, I.bare, I.base, I.loc, I.cell, I.free, I.freeC, I.pin, I.hok, I.len⟩
/-- a local name goes -/
theorem goes_ok {M : Model} {A : Around} {E : Value → Shared → Prop} {i : Nat} {x : Str} {pos : Pos} {Q : Unit → Shared → Prop} (I : Inv X pins σ H s) (hN : X.N.Nodup) (hi : X.N[i]? = some x) (hk : X.env.scope.names.lookup x = some .local)
    (h : ∀ s', Inv X pins (σ.set i none) H s' → Q () s') : wpAny M A (do bindName X.env x .none; unbindBehindTheSuite X.env x pos) Q E s := by
  obtain ⟨m, hn, hl⟩ := id I.loc
  have hp : (X.env.scope.kind == .class || (X.env.scope.kind == .module && X.env.locals != X.env.globals)) = false := by rw [I.ok.kind]; rfl
  refine wpAny_nameGoes_keeps hk hn hp fun h' v' hn' hs => h _ ?_
  obtain ⟨oL, _, _, hoL, _⟩ := id hn
  have lo : ∀ b o, X.s₀.heap.get? b = some o → b ≠ X.env.locals := fun b o e => Nat.ne_of_lt (Nat.lt_of_lt_of_le (Heap.lt_size e) I.ok.above)
  have kp : ∀ b o, b ≠ X.env.locals → s.heap.get? b = some o → h'.get? b = some o := fun b o hb e => (hs.2 b hb).trans e
  refine ⟨I.ok, I.os, I.bare, ⟨fun b o e n hb hx => kp b o (lo b o e) (I.base.keep b o e n hb hx), fun b o e n hb hx => ?_, I.base.free, fun b o e hx => ?_, I.base.tups, I.base.frzs, I.base.tbls⟩, ⟨_, hn', fun j y w' e1 e2 e3 => ?_⟩, fun y c e => ?_, I.free, I.freeC, fun p hp' => ?_, fun b ob e => ?_, by simpa using I.len⟩
  · obtain ⟨sl, e1⟩ := I.base.slot b o e n hb hx
    exact ⟨sl, kp b _ (lo b o e) e1⟩
  · obtain ⟨o', e1⟩ := I.base.there b o e hx
    exact ⟨o', kp b _ (lo b o e) e1⟩
  · by_cases hj : j = i
    · subst hj
      rw [List.getElem?_set_self (by rw [I.len]; exact (List.getElem?_eq_some_iff.mp hi).1)] at e2
      cases e2
    · rw [List.getElem?_set_ne (Ne.symm hj)] at e2
      obtain ⟨u', r', q⟩ := hl j y w' e1 e2 e3
      have ny : y ≠ x := fun z => hj (nodup_ix hN e1 (z ▸ hi))
      refine ⟨u', r', ?_⟩
      rcases q with ⟨k, e⟩ | ⟨k, c, e, z⟩
      · exact .inl ⟨k, by simp [ny, e]⟩
      · exact .inr ⟨k, c, e, z.sameBut hs (I.cne y c e)⟩
  · obtain ⟨w', z⟩ := I.cell y c e
    exact ⟨w', z.sameBut hs (I.cne y c e)⟩
  · obtain ⟨e, n, ne, nf, d⟩ := I.pin p hp'
    exact ⟨kp _ _ ne e, n, ne, nf, d⟩
  · refine (I.hok b ob e).stay (fun c u hc z => kp c u ?_ z) (fun _ z => z) fun _ _ z => z
    intro hL
    rcases hc with hc | hc
    · have z2 := I.free
      rw [← hL, hc, e] at z2
      cases z2
    · rw [hL, I.free] at hc
      cases hc
end

/-- the exception's object is tracked from now on -/
theorem held_un {P : Program} {w : World} {fs : List Addr} {H H' : Hp} {h0 h2 : Heap} {a : Addr} {o : HO} (un : Un fs [] H H' h0 h2) (hok : HOk P w H' h2) (na : h0.get? a = none) (nH : H' a = none) (new : ObjOk P w (upd H' a o) h2 a o) :
    Un fs [] H (upd H' a o) h0 h2 ∧ HOk P w (upd H' a o) h2 := by
  refine ⟨⟨un.keep, un.slot, fun b ob e n hx => ?_, un.there, fun b xs e => ?_, fun b ob u e => ?_, fun b qs e => ?_⟩, fun b u e => ?_⟩
  · rw [upd_ne (fun z => by rw [z, na] at e; cases e)]
    exact un.free b ob e n hx
  · have z := un.tups b xs e
    rw [upd_ne (ne_of_none z nH)]
    exact z
  · have z := un.frzs b ob u e
    rw [upd_ne (ne_of_none z nH)]
    exact z
  · obtain ⟨more, z⟩ := un.tbls b qs e
    exact ⟨more, by rw [upd_ne (ne_of_none z nH)]; exact z⟩
  · by_cases hb : b = a
    · rw [hb, upd_same] at e
      rw [hb, ← Option.some.inj e]
      exact new
    · rw [upd_ne hb] at e
      exact (hok b u e).stay (fun c v _ q => q) (fun c q => by rw [upd_ne (ne_of_none q nH)]; exact q) fun c xs q => by rw [upd_ne (ne_of_none q nH)]; exact q

def tTryAs (K : PySem.W.Frag) (Dc : Value) (i : Nat) (tb : XK → TS) (ts : TS) : TS := fun D σ H =>
  tb (fun cls _ H' => PySem.W.exmOne K cls Dc = some true ∧ ∀ a, H' a = none → ts { nx := fun σ' H2 => D.nx (σ'.set i none) H2, rt := D.rt, bk := fun σ' H2 => D.bk (σ'.set i none) H2, ct := fun σ' H2 => D.ct (σ'.set i none) H2 } (σ.set i (some (.ref a))) (upd H' a (excO a cls))) D σ H
/-- try: st; except cx as n: suite -/
theorem ps_tryAs {X : Cx} {st b₀ : Stmt} {suite : List Stmt} {n cx : Str} {np hpos pos : Pos} {tb : XK → TS} {ts : TS} {i : Nat} {Dc : Addr} (hs : X.stack = X.env :: X.outer) (hf : X.env.frame = some X.env.locals)
    (hN : X.N.Nodup) (hi : X.N[i]? = some n) (hk : X.env.scope.names.lookup n = some .local) (hg : Gl X cx) (hm : X.mg cx = some (.ref Dc)) (hb : PSX X st tb) (hsu : ∀ v, PSs (X.mark v) (b₀ :: suite) ts) (hdb : (cx == ("__debug__" : Str)) = false := by decide) :
    PS X (.Try [st] [.ExceptHandler (some (.Name cx np)) (some n) (b₀ :: suite) hpos] [] [] pos) (tTryAs X.K (.ref Dc) i tb ts) := by
  intro pins s σ H D I h
  refine wpAny_Try_except (wpAny_execs_cons (wpAny_mono (hb pins s σ H D _ I h) (fun f s1 q => ?_) (fun ex s1 q => ?_)))
  · cases f with
    | next => exact wpAny_execs_nil (wpAny_execs_nil q)
    | ret v => exact q
    | brk => exact q
    | cont => exact q
  · obtain ⟨H1, s0, I1, a, cls, H', rfl, os, bare, un, hok, ⟨B, a0, f, k1, k2⟩, hE⟩ := q
    have f' : Heap.FlyingW B (X.env :: X.outer) a cls a0 s1.heap := by rw [← hs]; exact f
    have fr : ∀ {h2 : Heap}, B.StaysIn h2 → s1.heap.UpToSlots h2 → Un (frs X.stack) [] H1 H' s0.heap h2 ∧ HOk X.prog X.w H' h2 := fun b2 up => fly_un un hok f.1 b2 f.2.2.1 k1 k2 up
    refine wpAny_looks_onW (L := X.env.locals) (outer := X.outer) (by rw [← hs]; exact I.ok.frames) hf f' fun h4 x4 u4 => ?_
    refine wpAny_landsW x4 fun h5 x5 u5 => ?_
    have J5 : Inv X pins σ H' { s1 with heap := h5 } := I1.call' (s' := { s1 with heap := h5 }) (ch := []) os (fr x5.1 (u4.trans u5)).1 (fr x5.1 (u4.trans u5)).2 bare fun _ z => nomatch z
    refine wpAny_handleBy_cons (codeAny_handlers_test ?_) (by intro q; cases q)
    refine ld_glob (X := X.mark (.ref a)) (J5.mark (.ref a)) hg hm ?_ hdb
    have LT : PySem.W.Looks (model X.prog X.w) h5 (typeOf (.ref a)) cls := by
      obtain ⟨ob, hob, hc⟩ := x5.there
      subst hc
      exact (PySem.W.Looks.ld hob).andThen .now
    refine PySem.W.Looks.here (s := { s1 with heap := h5 }) (PySem.W.exm_one J5.kIn LT hE.1) ?_
    show codeAny _ _ _ _ _
    refine codeAny_handlers_suite_as (lands_againW x5 fun h6 x6 u6 => ?_)
    obtain ⟨un6, ok6⟩ := fr x6.1 ((u4.trans u5).trans u6)
    obtain ⟨oe, ws, hoe, hoec, hoed, _⟩ := f.first
    have na : s0.heap.get? a = none := by
      cases q : s0.heap.get? a with
      | none => rfl
      | some o =>
        exfalso
        by_cases hb' : a ∈ frs X.stack
        · obtain ⟨_, o', ho', hd'⟩ := f.2.2.1.mem hb'
          rw [hoe] at ho'
          exact hd' _ ((congrArg Obj.data (Option.some.inj ho')).symm.trans hoed)
        · obtain ⟨u', e'⟩ := k2 a o q hb'
          rw [f.2.1] at e'
          cases e'
    have nH : H' a = none := by
      cases q : H' a with
      | none => rfl
      | some o =>
        obtain ⟨u, e⟩ := k1 a o q
        rw [f.2.1] at e
        cases e
    have new : ObjOk X.prog X.w (upd H' a (excO a cls)) h6 a (excO a cls) := by
      obtain ⟨oe6, ws6, h61, h62, h63, _⟩ := x6.first
      exact ⟨⟨oe6, ws6, h61, h62, h63⟩, ⟨oe6, h61⟩, fun h1 h2 ⟨ob, vs, e, r⟩ k => ⟨ob, vs, k ob e, r⟩⟩
    obtain ⟨un7, ok7⟩ := held_un un6 ok6 na nH new
    have J7 : Inv X pins σ (upd H' a (excO a cls)) { s1 with heap := h6 } := I1.call' (s' := { s1 with heap := h6 }) (ch := []) os un7 ok7 bare fun _ z => nomatch z
    refine store_ok (X := X.mark (.ref a)) (v := .ref a) (J7.mark (.ref a)) hN hi (.inl hk) rfl (fun s8 J8 => ?_) (.inr hk)
    refine wpAny_mono (hsu (.ref a) pins s8 _ _ _ J8 (hE.2 a nH)) (fun fl s9 q9 => ?_) fun _ _ z => False.elim z
    cases fl with
    | next => obtain ⟨σ', H2, J9, q9⟩ := q9; exact goes_ok (J9.unmark I.ok.hd) hN hi hk fun s10 J10 => ⟨_, H2, J10, q9⟩
    | brk => obtain ⟨σ', H2, J9, q9⟩ := q9; exact goes_ok (J9.unmark I.ok.hd) hN hi hk fun s10 J10 => ⟨_, H2, J10, q9⟩
    | cont => obtain ⟨σ', H2, J9, q9⟩ := q9; exact goes_ok (J9.unmark I.ok.hd) hN hi hk fun s10 J10 => ⟨_, H2, J10, q9⟩
    | ret u => obtain ⟨v, σ', H2, J9, rv, q9⟩ := q9; exact goes_ok (J9.unmark I.ok.hd) hN hi hk fun s10 J10 => ⟨v, _, H2, J10, rv, q9⟩
end L2

/-! OWN RULES: isinstance of an exception that is held. -/
namespace L2
open PySem PySem.W PySem.Spec PyProof.Rows Builtin Builtin.ObjectAttr Builtin.Getset_descriptor
/-- what an own class of exceptions bears -/
structure ExcKit (K : Frag) (D : Addr) : Prop where
  ga : findIn K (.ref D) "__getattribute__" = some (some (.builtin "BaseException.__getattribute__"))
  gt : findIn K (.ref D) "__getattr__" = some none
  cl : findIn K (.ref D) "__class__" = some (some (.builtin "object.__class__"))
  hn : specialIn K (.builtin "object.__class__") "__get__" = some (some (.builtin "getset_descriptor.__get__"))
  tk : takesIn K (.builtin "object.__class__") = some true
  mo : mroIn K D (.type "object") = some true
  mb : mroIn K D (.type "BaseException") = some true
def ExcAt (a D : Addr) (h : Heap) : Prop := ∃ ob vs, h.get? a = some ob ∧ ob.cls = .ref D ∧ ob.data = .fields vs
section
variable {prog : Program} {w : World} {A : Around} {E : Value → Shared → Prop} {s : Shared} {K : Frag} {a D : Addr}
theorem exc_ty {M : Model} {h : Heap} (x : ExcAt a D h) : Looks M h (typeOf (.ref a)) (.ref D) := by
  obtain ⟨ob, vs, e, c, _⟩ := x
  rw [← c]
  exact (Looks.ld e).andThen .now
theorem exc_find {M : Model} {h : Heap} (X : K.In h) (k : ExcKit K D) : Looks M h (Builtin.ObjectAttr.find (.ref a) (.ref D) "__class__") (.bind (.builtin "getset_descriptor.__get__") (.builtin "object.__class__")) := by
  have l1 := looks_findIn (M := M) X k.cl
  have l2 : Looks M h (Builtin.ObjectAttr.getOf (some (.builtin "object.__class__"))) (some (.builtin "getset_descriptor.__get__")) := looks_specialIn X k.hn
  have l3 := looks_takesIn (M := M) X k.tk
  refine l1.andThen (Looks.andThen (a := some (.builtin "getset_descriptor.__get__")) l2 ?_)
  refine Looks.andThen (a := some (.builtin "getset_descriptor.__get__", .builtin "object.__class__")) (l3.andThen ?_) (Looks.tag .now)
  exact .now
theorem exc_gs {R : Result → Shared → Prop} {tp : Value} (X : K.In s.heap) (x : ExcAt a D s.heap) (k : ExcKit K D) (h : R (.ok (.ret (.ref D))) s) :
    codeAny (model prog w) A (.call (.builtin "getset_descriptor.__get__") ⟨[.builtin "object.__class__", .ref a, tp], []⟩) R s := by
  obtain ⟨hh, g, d, t, os⟩ := s
  have l0 := exc_ty (M := model prog w) x
  have l1 := looks_mroIn (M := model prog w) X k.mo
  refine codeAny_call_builtin KF.slot_gs.plain KF.entry_gs
    (KF.slot_gs.check _ _ _ _ _ _ _ _ KF.type_class (KF.args_gs _ _ _) ?_)
  unfold Builtin.«getset_descriptor.__get__» descrGet
  rw [PySem.W.dga_obj]
  refine wpAny_bind (wpAny_pure ?_)
  unfold descrGetter descrCheckInstance descrNameAndClass isInstance
  simp only [KF.owner_class]
  repeat lk
  refine ⟨Code.quiet_builtin _ (by decide +kernel), codeAny_builtin KF.entry_class ?_⟩
  unfold Builtin.«object.__class__» shownTypeOf
  repeat lk
  exact h
theorem exc_check {M : Model} {nameV : Value} {Q : Unit → Shared → Prop} (X : K.In s.heap) (x : ExcAt a D s.heap) (k : ExcKit K D) (h : Q () s) : wpAny M A (checkBuiltinCall "BaseException.__getattribute__" ⟨[.ref a, nameV], []⟩) Q E s := by
  obtain ⟨hh, g, d, t, os⟩ := s
  have l0 := exc_ty (M := M) x
  have l3 := looks_mroIn (M := M) X k.mb
  have kd : builtinKind "BaseException.__getattribute__" = some .slot := by decide +kernel
  have sp : splitId "BaseException.__getattribute__" = some ("BaseException", "__getattribute__") := by decide +kernel
  have ar := F.args_bexc_ga (.ref a) nameV
  simp only [checkBuiltinCall, kd, sp]
  unfold isInstance
  repeat lk
  exact h
theorem exc_class {Q : Option Value → Shared → Prop} (X : K.In s.heap) (x : ExcAt a D s.heap) (k : ExcKit K D) (h : Q (some (.ref D)) { s with toks := s.toks + 1 }) :
    wpAny (model prog w) A (getAttr? (.ref a) "__class__") Q E s := by
  obtain ⟨hh, g, d, t, os⟩ := s
  have l0 := exc_ty (M := model prog w) x
  have l1 := looks_findIn (M := model prog w) X k.ga
  have l2 := looks_findIn (M := model prog w) X k.gt
  have l3 := looks_mroIn (M := model prog w) X k.mb
  have l4 := exc_find (a := a) (M := model prog w) X k
  unfold getAttr? getAttrBy?
  refine wpAny_bind (wpAny_mkText (wpAny_bind (wpAny_attempt ?_)))
  unfold getAttrBy
  refine wpAny_holding (wpAny_bind (Looks.at l0 (wpAny_bind (Looks.at l1 ?_))))
  show wpAny _ _ (getAttrByItsOwn _ _ _ _ _ _) _ _ _
  unfold getAttrByItsOwn hookBefore
  refine wpAny_bind (Looks.at (t := typeLookup (.ref D) "__getattr__") l2 ?_)
  refine wpAny_bind (wpAny_attempt (wpAny_holding ?_))
  unfold callGetattribute boundAndCalled
  rw [if_neg (by decide)]
  refine wpAny_bind (wpAny_of_eq (F.excAttr_ValueError.ga.bind (.ref a)) ?_)
  refine wpAny_call (codeAny_call_builtin F.excAttr_ValueError.ga.plain F.entry_bexc_ga (exc_check X x k ?_))
  unfold Builtin.«object.__getattribute__»
  refine wpAny_bind (wpAny_of_eq (a := (Value.ref a, [Value.str "__class__" t])) rfl ?_)
  refine wpAny_bind (wpAny_of_eq (a := ("__class__" : Str)) rfl (wpAny_bind (Looks.at l0 (wpAny_bind (Looks.at l4 ?_)))))
  show wpAny _ _ (bindTo _ _ _ _) _ _ _
  unfold bindTo
  refine wpAny_bind (wpAny_holding (wpAny_call (exc_gs X x k ?_)))
  refine wpAny_pure ?_
  refine handed_on rfl ?_
  exact wpAny_pure h
theorem exc_cls (k : ExcKit K D) : ∃ ob, K.lookup D = some ob ∧ ∃ cd, ob.data = .cls cd := by
  obtain ⟨cd, hc, _⟩ := Option.bind_eq_some_iff.mp k.mo
  unfold clsIn at hc
  split at hc
  case h_1 ho => exact ⟨_, ho, _, rfl⟩
  case h_2 => cases hc
/-- isinstance of a held exception -/
theorem kitx_exc (k : ExcKit K D) : KitX K (.ref a) (.ref D) (ExcAt a D) where
  ty := fun _ _ _ x => exc_ty x
  it := fun M h X _ => by
    obtain ⟨ob, e, _⟩ := exc_cls k
    intro A2 Q2 E2 s2 kp q
    unfold isType loadHead
    refine wpAny_bind (wpAny_loadPart (kp _ _ (X _ _ e)) ?_)
    rename_i hd
    obtain ⟨cd, hcd⟩ := hd
    rw [hcd]
    exact wpAny_pure q
  ne := fun h tp dd its n sl X htp => by
    obtain ⟨ob, e, cd, hcd⟩ := exc_cls k
    refine Bool.eq_false_iff.mpr fun q => ?_
    have z : D = tp := Value.ref.inj (beq_iff_eq.mp q)
    subst z
    have y := (X _ _ e).symm.trans htp
    cases y
    cases hcd
  ca := fun X x h => exc_class X x k h
theorem call_isinstX {X : Cx} : CallR X (.builtin "isinstance") (fun xs H Q => ∃ a D C b, xs = [.ref a, .ref C] ∧ H a = some (excO a (.ref D)) ∧ ExcKit X.K D ∧ kitOne X.K (.ref D) (.ref C) = some b ∧ Q (.bl b) H) := by
  intro pins s σ H xs us Q I r h
  obtain ⟨a, D, C, b, rfl, hH, k, e, q⟩ := h
  obtain ⟨u1, u2, rfl, r1, r2⟩ := vals2 r
  cases r1
  cases r2
  have x : ExcAt a D s.heap := (I.hok a _ hH).1
  exact kia_one (kitx_exc k) I.kIn x e (fun z => nomatch z) fun tk => ⟨.bl b, H, I.tok tk, rfl, q⟩
theorem call_isinstXT {X : Cx} : CallR X (.builtin "isinstance") (fun xs H Q => ∃ a D T b, xs = [.ref a, .ty T] ∧ H a = some (excO a (.ref D)) ∧ ExcKit X.K D ∧ kitOne X.K (.ref D) (.type T) = some b ∧ Q (.bl b) H) := by
  intro pins s σ H xs us Q I r h
  obtain ⟨a, D, T, b, rfl, hH, k, e, q⟩ := h
  obtain ⟨u1, u2, rfl, r1, r2⟩ := vals2 r
  cases r1
  cases r2
  have x : ExcAt a D s.heap := (I.hok a _ hH).1
  exact kia_one (kitx_exc k) I.kIn x e (fun z => nomatch z) fun tk => ⟨.bl b, H, I.tok tk, rfl, q⟩
end
end L2

/-! OWN RULES: an exception that flies out of a comprehension. -/
namespace L2
open PySem PySem.Spec PyProof.Rows
theorem frameOf_same {e1 e2 : Env} (h : e1.frame = e2.frame) : PySem.frameOf e1 = PySem.frameOf e2 := by
  unfold PySem.frameOf
  rw [h]
theorem noteFrame_same {x : Value} {e1 e2 : Env} (h : e1.frame = e2.frame) : noteFrame x e1 = noteFrame x e2 := by
  unfold noteFrame
  rw [h, frameOf_same h]
section
variable {M : Model} {A : Around} {E : Value → Shared → Prop} {s : Shared}
/-- the flight's mark set, whatever it was -/
theorem setFlightW {base : Heap} {l : List Env} {e : Addr} {cls a0 fl : Value} {fr : Option Addr} {Q : Unit → Shared → Prop}
    (hkb : base.StaysIn s.heap) (hl : s.heap.FunFrames base l) (ht : s.heap.TracedAtW base e cls a0 fl)
    (h : ∀ h', base.StaysIn h' → h'.FunFrames base l → h'.TracedAtW base e cls a0 (fr.elim Value.none fun f => rawInt f) → (∀ b o, s.heap.get? b = some o → (∀ vs, o.data ≠ .fields vs) → h'.get? b = some o) → Q () { s with heap := h' }) :
    wpAny M A (setFlight (.ref e) fr) Q E s := by
  obtain ⟨oe, vs, T, oT, ts, he, hcls, hd, h1, hnT, hTe, hT, hdT, h3⟩ := ht
  have hsz3 : 3 < ts.size := (Array.getElem?_eq_some_iff.mp h3).1
  have other : ∀ b, b ≠ T → (s.heap.update T (Obj.mapFields (·.setIfInBounds 3 (fr.elim Value.none fun f => rawInt f)))).get? b = s.heap.get? b :=
    fun b hb => Heap.get?_update_other _ _ (Ne.symm hb)
  have noRecord : ∀ b o, s.heap.get? b = some o → (∀ vs, o.data ≠ .fields vs) → b ≠ T := fun b o hb hnf q => by
    rw [q, hT] at hb; injection hb with hb; subst hb; exact hnf ts hdT
  unfold setFlight
  refine wpAny_bind (wpAny_field he hd h1 ?_)
  rw [if_pos (show (Value.ref T != Value.none) = true from by simp)]
  refine wpAny_setField hT hdT hsz3 (h _ (fun b o hbo => (other b fun q => by rw [q, hnT] at hbo; cases hbo).trans (hkb b o hbo))
    (hl.of_keeps fun b o hb hnf => ⟨o, (other b (noRecord b o hb hnf)).trans hb, rfl⟩) ?_ fun b o hb hnf => (other b (noRecord b o hb hnf)).trans hb)
  exact ⟨oe, vs, T, _, _, (other e (Ne.symm hTe)).trans he, hcls, hd, h1, hnT, hTe, Heap.get?_update_self _ hT (Obj.isFreed_of_fields (Obj.data_mapFields hdT _)), Obj.data_mapFields hdT _, by simp [hsz3]⟩
/-- passed on, out of a comprehension -/
theorem passOnW {α : Type} {base : Heap} {l : List Env} {e : Addr} {cls a0 fl : Value} {env : Env} {what : String} {Q : α → Shared → Prop}
    (hkb : base.StaysIn s.heap) (hl : s.heap.FunFrames base l) (ht : s.heap.TracedAtW base e cls a0 fl)
    (h : ∀ h' fl', base.StaysIn h' → h'.FunFrames base l → h'.TracedAtW base e cls a0 fl' → (∀ b o, s.heap.get? b = some o → (∀ vs, o.data ≠ .fields vs) → h'.get? b = some o) → E (.ref e) { s with heap := h' }) :
    wpAny M A (PySem.passOn what (.ref e) env : Sem α) Q E s := by
  obtain ⟨oe, vs, T, oT, ts, he, hcls, hd, h1, hnT, hTe, hT, hdT, h3⟩ := id ht
  unfold PySem.passOn
  refine wpAny_bind (wpAny_field he hd h1 ?_)
  rw [if_neg (show ¬ (Value.ref T == Value.none) = true from by simp)]
  refine wpAny_bind (setFlightW hkb hl ht fun h' x1 x2 x3 x4 => ?_)
  exact wpAny_throw (h h' _ x1 x2 x3 x4)
/-- out of the frame, whatever the flight's mark is -/
theorem leavingW {base : Heap} {env : Env} {outer : List Env} {L e : Addr} {cls a0 fl : Value} {Q : Unit → Shared → Prop}
    (hfr : A.frames = some (env :: outer)) (hl : s.heap.FunFrames base (env :: outer)) (hf : env.frame = some L) (ht : s.heap.TracedAtW base e cls a0 fl) (hkb : base.StaysIn s.heap) (hen : base.get? e = none)
    (h : ∀ h', Heap.LeftW base (env :: outer) e cls a0 s.heap h' → Q () { s with heap := h' }) : wpAny M A (leaving env (.ref e)) Q E s := by
  obtain ⟨oe, vs, T, oT, ts, he, ⟨hcls, h0⟩, hd, h1, hnT, hTe, hT, hdT, h3⟩ := id ht
  unfold leaving noteFrame
  simp only [hf]
  refine wpAny_bind (wpAny_bind (wpAny_field he hd h1 ?_))
  rw [if_pos (show (Value.ref T != Value.none) = true from by simp)]
  refine wpAny_bind (wpAny_field hT hdT h3 ?_)
  by_cases hfl : (fl == rawInt L) = true
  · rw [if_pos hfl]
    exact wpAny_pure (wpAny_setFlight_noneW hkb hl ht fun h' x1 x2 x3 x4 => h h' ⟨x1, x2, x3, fun b o hb hnf => ⟨o.slots, x4 b o hb hnf⟩⟩)
  · rw [if_neg hfl]
    subst hcls
    refine wpAny_bind (wpAny_setField hT hdT (Array.getElem?_eq_some_iff.mp h3).1 ?_)
    have other : ∀ b, b ≠ T → (s.heap.update T (Obj.mapFields (·.setIfInBounds 3 Value.none))).get? b = s.heap.get? b := fun b hb => Heap.get?_update_other _ _ (Ne.symm hb)
    have noRecord : ∀ b o, s.heap.get? b = some o → (∀ vs, o.data ≠ .fields vs) → b ≠ T := fun b o hb hnf q => by
      rw [q, hT] at hb; injection hb with hb; subst hb; exact hnf ts hdT
    refine wpAny_newEntryW hfr (hl.of_keeps fun b o hb hnf => ⟨o, (other b (noRecord b o hb hnf)).trans hb, rfl⟩) hf ((other e (Ne.symm hTe)).trans he)
      (fun b o hbo => (other b fun q => by rw [q, hnT] at hbo; cases hbo).trans (hkb b o hbo)) hen hd (Array.getElem?_eq_some_iff.mp h1).1 h0
      fun h' ⟨x1, x2, x3, x4⟩ => h h' ⟨x1, x2, x3, fun b o hb hnf => x4 b o ((other b (noRecord b o hb hnf)).trans hb) hnf⟩
end
theorem ff_but {base h h' : Heap} {C : Addr} (sb : Heap.SameBut C h h') : ∀ {l : List Env}, h.FunFrames base l → C ∉ frs l → h'.FunFrames base l
  | [], _, _ => trivial
  | env :: r, ⟨hk, ⟨L, o, hf, hn, ho, hd⟩, hr⟩, hC => by
    have e : frs (env :: r) = L :: frs r := by
      show List.filterMap (·.frame) (env :: r) = _
      rw [List.filterMap_cons, hf]
      rfl
    rw [e] at hC
    exact ⟨hk, ⟨L, o, hf, hn, (sb.2 L fun z => hC (by rw [z]; exact List.mem_cons_self)).trans ho, hd⟩, ff_but sb hr fun z => hC (List.mem_cons_of_mem _ z)⟩
theorem fly_unF {P : Program} {w : World} {l : List Env} {H H' : Hp} {h0 h1 h2 B : Heap} (un : Un (frs l) [] H H' h0 h1) (hok : HOk P w H' h1) (b1 : B.StaysIn h1) (b2 : B.StaysIn h2) (ff : h1.FunFrames B l) (k1 : ∀ b o, H' b = some o → ∃ u, B.get? b = some u)
    (k2 : ∀ b u, h0.get? b = some u → b ∉ frs l → ∃ u', B.get? b = some u') (up : ∀ b u, b ∈ frs l → h1.get? b = some u → (∀ vs, u.data ≠ .fields vs) → ∃ sl, h2.get? b = some { u with slots := sl }) : Un (frs l) [] H H' h0 h2 ∧ HOk P w H' h2 := by
  have inB : ∀ b u, h1.get? b = some u → (∃ u', B.get? b = some u') → h2.get? b = some u := fun b u e ⟨u', e'⟩ => by
    have := b1 b u' e'
    rw [e] at this
    rw [Option.some.inj this]
    exact b2 b u' e'
  have fr : ∀ b u, b ∈ frs l → h1.get? b = some u → ∃ sl, h2.get? b = some { u with slots := sl } := fun b u hb e => by
    obtain ⟨_, o', ho', hd⟩ := ff.mem hb
    rw [e] at ho'
    cases ho'
    exact up b u hb e hd
  refine ⟨⟨fun b o e n hb hx => inB b o (un.keep b o e n hb hx) (k2 b o e hb), fun b o e n hb hx => ?_, un.free, fun b o e hx => ?_, un.tups, un.frzs, un.tbls⟩, fun b o e => ?_⟩
  · obtain ⟨sl, e1⟩ := un.slot b o e n hb hx
    obtain ⟨sl', e2⟩ := fr b _ hb e1
    exact ⟨sl', e2⟩
  · obtain ⟨o', e1⟩ := un.there b o e hx
    by_cases hb : b ∈ frs l
    · obtain ⟨sl, e2⟩ := fr b o' hb e1
      exact ⟨_, e2⟩
    · exact ⟨o', inB b o' e1 (k2 b o e hb)⟩
  · refine (hok b o e).stay (fun c u hc q => inB c u q ?_) (fun _ q => q) fun _ _ q => q
    rcases hc with z | z
    · rw [z]; exact k1 b o e
    · exact k1 c _ z
section
variable {X : Cx} {pins : List (Addr × Obj)} {σ : St} {H1 : Hp} {s1 s' : Shared} {E : XK} {M : Model} {E2 Es : Value → Shared → Prop}
/-- a callee's exception on its way out of a comprehension of a def: noted, the comprehension's names gone, passed on: it leaves the def's frame as any other -/
theorem fly_comp {ex : Value} {C : Addr} {m : Str → Option Value} {cenv : Env} {what : String} (I : Inv X pins σ H1 s1) (hs : X.stack = X.env :: X.outer) (hf : X.env.frame = some X.env.locals) (hex : X.ex = []) (q : CXF X.prog X.w X.stack H1 s1 E ex s')
    (hC : s1.heap.Ns C m) (fC : FpOk X pins H1 C) (hCf : C ∉ frs X.stack) (hcf : cenv.frame = X.env.frame) :
    wpAny M X.A (noteFrame ex cenv) (fun _ s2 => ∃ m, s2.heap.Ns C m ∧ ∀ h', Heap.SameBut C s2.heap h' → ∀ cenv' : Env, cenv'.locals = C →
      wpAny M X.A (PySem.passOn what ex cenv' : Sem Value) (fun _ _ => False) (fun e s3 => wpAny M X.A (leaving X.env e) (fun _ s4 => CXF X.prog X.w X.outer X.H₀ X.s₀ E e s4) E2 s3) { s2 with heap := h' }) Es s' := by
  obtain ⟨a, cls, H', rfl, os, bare, un, hok, ⟨B, a0, f, k1, k2⟩, hE⟩ := q
  have hfr : X.A.frames = some (X.env :: X.outer) := by rw [← hs]; exact I.ok.frames
  have f' : Heap.FlyingW B (X.env :: X.outer) a cls a0 s'.heap := by rw [← hs]; exact f
  obtain ⟨c0, c1, c2, c3, c4, c5⟩ := fC
  rw [noteFrame_same hcf]
  refine wpAny_noteFrame_onW (L := X.env.locals) (outer := X.outer) hfr f'.2.2.1 hf f'.2.2.2 f'.1 f'.2.1 fun h2 hN => ?_
  obtain ⟨x1, x2, x3, x4⟩ := hN
  obtain ⟨oC, esC, epC, hoC, hdC, rC⟩ := id hC
  have sC : s'.heap.get? C = some oC := un.keep C oC hoC c0 hCf (by simp)
  have h2C : h2.get? C = some oC := by
    obtain ⟨u', hu'⟩ := k2 C oC hoC hCf
    have e := f.1 C u' hu'
    rw [sC] at e
    rw [Option.some.inj e]
    exact x1 C u' hu'
  refine ⟨m, ⟨oC, esC, epC, h2C, hdC, rC⟩, fun h' sb cenv' _ => ?_⟩
  have BC : ∃ u', B.get? C = some u' := k2 C oC hoC hCf
  -- what stands still from here on
  have L0 : ∀ b, B.get? b = none → b < h'.objs.size → b ∈ (List.range h'.objs.size).filter fun b => (B.get? b).isNone := fun b e hb => List.mem_filter.mpr ⟨List.mem_range.mpr hb, by rw [e]; rfl⟩
  have L1 : ∀ b, (∃ u, B.get? b = some u) → b ∉ (List.range h'.objs.size).filter fun b => (B.get? b).isNone := fun b ⟨u, e⟩ z => by
    have := (List.mem_filter.mp z).2
    rw [e] at this
    cases this
  generalize hLL : ((List.range h'.objs.size).filter fun b => (B.get? b).isNone) = LL at L0 L1
  have b1 : (PySem.W.hideAll h' LL).StaysIn h' := fun b o e => PySem.W.of_hideAll _ e
  have getB : ∀ b u, h'.get? b = some u → (∃ u, B.get? b = some u) → (PySem.W.hideAll h' LL).get? b = some u := fun b u e hb => PySem.W.hideAll_get _ e (L1 b hb)
  have noB : ∀ b, B.get? b = none → b < h'.objs.size → (PySem.W.hideAll h' LL).get? b = none := fun b e hb => PySem.W.hideAll_none _ (L0 b e hb)
  have keep2 : ∀ b o, b ≠ C → h2.get? b = some o → h'.get? b = some o := fun b o hb e => (sb.2 b hb).trans e
  have hCl : C ∉ frs (X.env :: X.outer) := by rw [← hs]; exact hCf
  have ff' : h'.FunFrames (PySem.W.hideAll h' LL) (X.env :: X.outer) := by
    refine PySem.W.funFrames_hide (ff_but sb x2 hCl) fun env he b hb => ?_
    have hm : b ∈ frs (X.env :: X.outer) := List.mem_filterMap.mpr ⟨env, he, hb⟩
    obtain ⟨n, o, ho, _⟩ := x2.mem hm
    exact L0 b n (by rw [sb.1]; exact Heap.lt_size ho)
  have tr' : h'.TracedAtW (PySem.W.hideAll h' LL) a cls a0 (rawInt X.env.locals) := by
    obtain ⟨oe, vs, T, oT, ts, he, hcls, hd, h1, hnT, hTe, hT, hdT, h3⟩ := x3
    have na : a ≠ C := fun z => by
      rw [z, h2C] at he
      cases he
      rw [hdC] at hd
      cases hd
    have nT : T ≠ C := fun z => by
      rw [z, h2C] at hT
      cases hT
      rw [hdC] at hdT
      cases hdT
    exact ⟨oe, vs, T, oT, ts, keep2 a _ na he, hcls, hd, h1, noB T hnT (by rw [sb.1]; exact Heap.lt_size hT), hTe, keep2 T _ nT hT, hdT, h3⟩
  have hen' : (PySem.W.hideAll h' LL).get? a = none := by
    obtain ⟨oe, _, _, _, _, he, _⟩ := x3
    exact noB a f'.2.1 (by rw [sb.1]; exact Heap.lt_size he)
  refine passOnW (s := { s' with heap := h' }) b1 ff' tr' fun h3 fl' y1 y2 y3 y4 => ?_
  refine leavingW (s := { s' with heap := h3 }) (L := X.env.locals) (outer := X.outer) hfr y2 hf y3 y1 hen' fun h4 hLeft => ?_
  obtain ⟨z1, z2, z3, z4⟩ := hLeft
  -- the call as if the comprehension's frame had never been there
  have nC' : H' C = none := un.free C oC hoC c0 (by simp)
  have hsub : ∀ b o, (PySem.W.hideAll s1.heap [C]).get? b = some o → s1.heap.get? b = some o ∧ b ≠ C := fun b o e => ⟨PySem.W.of_hideAll _ e, fun z => by
    rw [PySem.W.hideAll_none [C] (by rw [z]; exact List.mem_singleton_self _)] at e
    cases e⟩
  have un1 : Un (frs X.stack) [] H1 H' (PySem.W.hideAll s1.heap [C]) s'.heap := ⟨fun b o e => un.keep b o (hsub b o e).1, fun b o e => un.slot b o (hsub b o e).1, fun b o e => un.free b o (hsub b o e).1, fun b o e => un.there b o (hsub b o e).1, un.tups, un.frzs, un.tbls⟩
  have inB' : ∀ b u, b ≠ C → B.get? b = some u → (PySem.W.hideAll h' LL).get? b = some u := fun b u hb e => getB b u (keep2 b u hb (x1 b u e)) ⟨u, e⟩
  have B0a : (PySem.W.hideAll B [C]).StaysIn s'.heap := fun b o e => f.1 b o (PySem.W.of_hideAll _ e)
  have B0n : ∀ b o, (PySem.W.hideAll B [C]).get? b = some o → b ≠ C := fun b o e z => by
    rw [PySem.W.hideAll_none [C] (by rw [z]; exact List.mem_singleton_self _)] at e
    cases e
  have B0b : (PySem.W.hideAll B [C]).StaysIn h4 := fun b o e => z1 b o (inB' b o (B0n b o e) (PySem.W.of_hideAll _ e))
  have B0g : ∀ b u, b ≠ C → B.get? b = some u → (PySem.W.hideAll B [C]).get? b = some u := fun b u hb e => PySem.W.hideAll_get _ e fun z => hb (List.mem_singleton.mp z)
  have ff0 : s'.heap.FunFrames (PySem.W.hideAll B [C]) X.stack := by
    have : ∀ {l : List Env}, s'.heap.FunFrames B l → s'.heap.FunFrames (PySem.W.hideAll B [C]) l := fun {l} => by
      induction l with
      | nil => intro _; trivial
      | cons env r ih =>
        rintro ⟨hk, ⟨L, o, hf, hn, ho, hd⟩, hr⟩
        refine ⟨hk, ⟨L, o, hf, ?_, ho, hd⟩, ih hr⟩
        cases e : (PySem.W.hideAll B [C]).get? L with
        | none => rfl
        | some u =>
          rw [PySem.W.of_hideAll _ e] at hn
          cases hn
    exact this f.2.2.1
  obtain ⟨un2, ok2⟩ := fly_unF un1 hok B0a B0b ff0 (fun b o e => by
      obtain ⟨u, hu⟩ := k1 b o e
      exact ⟨u, B0g b u (fun z => by rw [z, nC'] at e; cases e) hu⟩) (fun b u e hb => by
      obtain ⟨e1, e2⟩ := hsub b u e
      obtain ⟨u', hu'⟩ := k2 b u e1 hb
      exact ⟨u', B0g b u' e2 hu'⟩) (fun b u hb e hd => by
      have nb : b ≠ C := fun z => hCf (z ▸ hb)
      obtain ⟨sl, e2⟩ := x4 b u e hd
      have e3 := y4 b _ (keep2 b _ nb e2) hd
      obtain ⟨sl', e4⟩ := z4 b _ e3 hd
      exact ⟨sl', e4⟩)
  have I' : Inv X pins σ H1 { s1 with heap := PySem.W.hideAll s1.heap [C] } := I.turned (it := C) (t' := s1.toks) (fun b o hb e => PySem.W.hideAll_get _ e fun z => hb (List.mem_singleton.mp z)) c0 c1 c3 c4 c5
  have J : Inv X pins σ H' { s' with heap := h4 } := I'.call' (s' := { s' with heap := h4 }) (ch := []) os un2 ok2 bare fun _ z => nomatch z
  refine fly_out hex (B := PySem.W.hideAll h' LL) (a0 := a0) ⟨z1, hen', z2.2.2, z3⟩ (fun b o e => ?_) (fun b u e hb => ?_) J hE
  · obtain ⟨u, hu⟩ := k1 b o e
    exact ⟨u, inB' b u (fun z => by rw [z, nC'] at e; cases e) hu⟩
  · obtain ⟨u1, e1⟩ := I.base.there b u e (by rw [hex]; simp)
    obtain ⟨u2, e2⟩ := k2 b u1 e1 hb
    refine ⟨u2, inB' b u2 (fun z => ?_) e2⟩
    rcases c3 with c3 | c3
    · rw [hex] at c3
      cases c3
    · rw [z] at e
      exact absurd (Heap.lt_size e) (Nat.not_lt.mpr c3)
end
end L2

/-! OWN RULES: a comprehension whose items may raise. -/
namespace L2
open PySem PySem.Spec PyProof.Rows
section
variable {prog : Program} {w : World} {A : Around} {R : Result → Shared → Prop} {s : Shared}
theorem compLoop_goX {elt target iter : Expr} {ifs : List Expr} {scope : Scope} {pos : Pos} {it acc : Value} {env : Env} (I : Nat → Shared → Prop)
    (turn : ∀ n s, I n s → wpAny (model prog w) A (pyNext it) (fun r s₁ => match r with
      | none => R (.ok .next) s₁
      | some v => wpAny (model prog w) A (letOwnedTupleGo target it v) (fun _ s₀ => wpAny (model prog w) A (assign target env v) (fun _ s₂ =>
          wpAny (model prog w) A (forIn ifs true fun c r => if r = true then do let ok ← isTrue c env (eval c env); pure (ForInStep.yield ok) else pure (ForInStep.yield r)) (fun ok s₃ =>
            if ok = true then wpAny (model prog w) A (eval elt env) (fun x s₄ =>
              wpAny (model prog w) A (call (.builtin "list.append") [acc, x]) (fun _ s₅ => ∃ m, m < n ∧ I m s₅) (fun _ _ => False) s₄) (notedBy (model prog w) A env (fun x s => R (.error x) s)) s₃
            else ∃ m, m < n ∧ I m s₃) (fun _ _ => False) s₂) (fun _ _ => False) s₀) (fun _ _ => False) s₁) (fun _ _ => False) s)
    (n : Nat) (h : I n s) :
    codeAny (model prog w) A (.compLoop (.ListComp elt [⟨target, iter, ifs, 0⟩] scope pos) 0 it acc env) R s := by
  refine codeAny_loop rfl I (fun n s hI => ?_) n h
  show wpAny _ A ((compTurn (.ListComp elt [⟨target, iter, ifs, 0⟩] scope pos) 0 it acc env).onRaise (fun x => do noteFrame x env; theTreesLotGoes x)) _ _ s
  refine wpAny_noted ?_
  rw [compTurn_list]
  refine wpAny_bind (wpAny_standAt (wpAny_bind (wpAny_mono (turn n s hI) (fun r s₁ h₁ => ?_) fun _ _ h' => h'.elim)))
  cases r with
  | none => exact wpAny_pure h₁
  | some v =>
    refine wpAny_bind (wpAny_mono h₁ (fun _ s₀ h₀ => ?_) fun _ _ h' => h'.elim)
    refine wpAny_bind (wpAny_mono h₀ (fun _ s₂ h₂ => wpAny_bind (wpAny_mono h₂ (fun ok s₃ h₃ => ?_) fun _ _ h' => h'.elim)) fun _ _ h' => h'.elim)
    cases ok with
    | false => exact wpAny_pure ⟨rfl, h₃⟩
    | true =>
      exact wpAny_bind (wpAny_bind (wpAny_mono h₃ (fun x s₄ h₄ => wpAny_bind (wpAny_mono h₄ (fun _ s₅ h₅ => wpAny_pure (wpAny_pure ⟨rfl, h₅⟩)) fun _ _ h' => h'.elim)) fun _ _ h' => h'))
end
section
variable {X : Cx} {pins : List (Addr × Obj)} {σ : St} {H : Hp} {s : Shared} {scope : Scope} {N : List Str} {cl : List (Str × Addr)} {fp : List Addr} {o : Obj}
/-- back in the frame around, out of the middle of a comprehension -/
theorem comp_backN {s' : Shared} {H' : Hp} {σ' : St} {pins' : List (Addr × Obj)} (I : Inv X pins σ H s) (hf : ∀ b ∈ fp, FpOk X pins H b)
    (J : Inv (cxComp X N scope cl { s with heap := s.heap.push o } H (s.heap.objs.size :: fp)) pins' σ' H' s') :
    Inv X pins σ H' s' ∧ FpOk X pins H' (s.heap.push o).objs.size ∧ (s.heap.push o).objs.size ∉ frs X.stack := by
  have hsz : (s.heap.push o).objs.size = s.heap.objs.size + 1 := Heap.size_push ..
  have lt : ∀ b u, s.heap.get? b = some u → b ∉ fp → b ∉ s.heap.objs.size :: fp := fun b u e hb z => by
    rcases List.mem_cons.mp z with z | z
    · exact absurd (Heap.lt_size e) (by rw [z]; exact Nat.lt_irrefl _)
    · exact hb z
  have ps : ∀ b u, s.heap.get? b = some u → (s.heap.push o).get? b = some u := fun b u e => Heap.get?_push_of_some _ e
  refine ⟨I.call' (ch := fp) J.os ⟨fun b u e q hb hx => J.base.keep b u (ps b u e) q hb (lt b u e hx), fun b u e q hb hx => J.base.slot b u (ps b u e) q hb (lt b u e hx), fun b u e q hx => J.base.free b u (ps b u e) q (lt b u e hx), fun b u e hx => J.base.there b u (ps b u e) (lt b u e hx),
    J.base.tups, J.base.frzs, J.base.tbls⟩ J.hok J.bare (fun b hb => ?_), ?_, ?_⟩
  · obtain ⟨_, f1, _, f3, f4, f5⟩ := hf b hb
    exact ⟨f3, f1, f4, f5⟩
  · have I3 : Inv X pins σ H { s with heap := s.heap.push o } := I.kept (t' := s.toks) fun b u e => Heap.get?_push_of_some _ e
    exact I3.fpOk (Nat.le_refl _) J.free
  · exact I.nostk (by rw [hsz]; exact Nat.le_succ _)
end
section
variable {X : Cx} {scope : Scope} {N : List Str} {xs : Nat} {js : List Nat} {tg iter elt : Expr} {ifs : List Expr} {pos : Pos} {ti : TI} {g : TG} {tt : TT} {teX : XK → TE}
theorem comp_blockX {EK : XK} {pins : List (Addr × Obj)} {s : Shared} {σ : St} {H : Hp} {Q : VK} {RR : Value → Addr → Result → Shared → Prop} {E : Value → Shared → Prop} {it : Addr} {fp : List Addr} {tn : Nat → Heap → Prop} {J : It} {cl : List (Str × Addr)}
    (hc : X.calm = true) (S : CompScope X scope N xs js) (hg : ∀ cl s H ex, PG (cxComp X N scope cl s H ex) tg g) (ht : ∀ cl s H ex, PTs (cxComp X N scope cl s H ex) ifs tt) (he : ∀ cl s H ex, PEX (cxComp X N scope cl s H ex) elt teX)
    (h2 : ∀ x c, cl.lookup x = some c → X.env.cells.lookup x = some c) (h4 : ∀ y ∈ scope.names, y.2 = .free → ∃ c, cl.lookup y.1 = some c)
    (I : Inv X pins σ H s) (T : Turn X.prog X.w X.K tg J fp it tn) (st : tn 0 s.heap) (hf : ∀ b ∈ fp, FpOk X pins H b)
    (hW : CompGoal xs js g tt (teX EK) σ Q J H)
    (hRX : ∀ (D C : Addr) (H1 : Hp) (s1 s' : Shared) (m : Str → Option Value) (e : Value) (cenv : Env), Inv X pins σ H1 s1 → s1.heap.Ns C m → FpOk X pins H1 C → C ∉ frs X.stack → CXF X.prog X.w X.stack H1 s1 EK e s' → cenv.frame = X.env.frame → notedBy (model X.prog X.w) X.A cenv (fun x s => RR (.ref D) C (.error x) s) e s')
    (hR : ∀ (D C : Addr) (H' : Hp) (s' : Shared) (m : Str → Option Value), Inv X pins σ H' s' → s'.heap.Ns C m → FpOk X pins H' C → Q (.ref D) H' → RR (.ref D) C (.ok .next) s') :
    wpAny (model X.prog X.w) X.A (newList []) (fun acc s₃ => wpAny (model X.prog X.w) X.A (newFunctionEnv scope X.env.globals cl [] X.env.qual none .none (some X.env)) (fun cenv s₄ =>
      codeAny (model X.prog X.w) X.A (.compStart (.ListComp elt [⟨tg, iter, ifs, 0⟩] scope pos) 0 (.ref it) acc { cenv with scope := relabel scope X.env }) (RR acc cenv.locals) s₄) E s₃) E s := by
  refine wpAny_newObj_type (wpAny_newFunctionEnv S.nocell (by intro y hy; simp at hy) (fun h₁ hns₁ hsb₁ => ?_) S.kind)
  dsimp only at hns₁ hsb₁ ⊢
  obtain ⟨W, ⟨m0, w0⟩, turn⟩ := hW
  have hfo : ∀ b ∈ fp, ∃ u, s.heap.get? b = some u := fun b hb => let ⟨u, hu, _⟩ := T.obj _ _ st b hb; ⟨u, hu⟩
  have hsz : (s.heap.push ({ cls := .type "list", dict := none, data := .seq ([] : List Value).toArray } : Obj)).objs.size = s.heap.objs.size + 1 := Heap.size_push ..
  have k3 : ∀ b u, (s.heap.push ({ cls := .type "list", dict := none, data := .seq ([] : List Value).toArray } : Obj)).get? b = some u → h₁.get? b = some u := fun b u e =>
    (hsb₁.2 b (Nat.ne_of_lt (Heap.lt_size e))).trans (Heap.get?_push_of_some _ e)
  have B0 := comp_inv (X := X) (N := N) (xs := xs) (js := js) (tk := s.toks + ([] : List (Str × Value)).length) I S h2 h4 hf hfo (fun v z => by cases z) rfl hns₁ k3
  generalize hXc : cxComp X N scope cl { s with heap := s.heap.push ({ cls := .type "list", dict := none, data := .seq ([] : List Value).toArray } : Obj) } H (s.heap.objs.size :: fp) = Xc at B0
  have eP : Xc.prog = X.prog := by rw [← hXc]; rfl
  have eW : Xc.w = X.w := by rw [← hXc]; rfl
  have eK : Xc.K = X.K := by rw [← hXc]; rfl
  have eA : Xc.A = X.A := by rw [← hXc]; rfl
  have eC : Xc.calm = true := by rw [← hXc]; exact hc
  have eX : Xc.xe = fun _ _ => False := by rw [← hXc]; rfl
  have eE : Xc.env = compEnvC scope cl (s.heap.push ({ cls := .type "list", dict := none, data := .seq ([] : List Value).toArray } : Obj)).objs.size X.env := by rw [← hXc]; rfl
  have eF : Xc.fs = frs X.stack := by rw [← hXc]; rfl
  have eex : Xc.ex = s.heap.objs.size :: fp := by rw [← hXc]; rfl
  have hg' : PG Xc tg g := by rw [← hXc]; exact hg _ _ _ _
  have ht' : PTs Xc ifs tt := by rw [← hXc]; exact ht _ _ _ _
  have he' : PEX Xc elt teX := by rw [← hXc]; exact he _ _ _ _
  have ecl : ∀ x c, Xc.env.cells.lookup x = some c → X.env.cells.lookup x = some c := by rw [eE]; exact h2
  -- what stays true of the iterator's objects
  have fpk : ∀ {H' : Hp} {ob : Obj}, (∀ b ∈ fp, H' b = none) → ∀ b ∈ fp, FpOk Xc [(s.heap.objs.size, ob)] H' b := fun {H' ob} hn b hb => by
    obtain ⟨u, hu⟩ := hfo b hb
    have hlt := Heap.lt_size hu
    obtain ⟨_, f1, f2, f3, f4, f5⟩ := hf b hb
    refine ⟨hn b hb, ?_, ?_, .inl ?_, fun x c e => f4 x c (ecl x c e), fun p hp => ?_⟩
    · rw [eE]
      show b ≠ (s.heap.push _).objs.size
      rw [hsz]; exact Nat.ne_of_lt (Nat.lt_succ_of_lt hlt)
    · rw [eF]
      intro z
      rcases List.mem_cons.mp (I.stkSub b z) with e | e
      · exact f1 e
      · exact f2 e
    · rw [eex]; exact List.mem_cons_of_mem _ hb
    · have e : p = (s.heap.objs.size, ob) := by
        rw [← hXc] at hp
        simpa [cxComp] using hp
      subst e
      show s.heap.objs.size ≠ b
      exact Nat.ne_of_gt hlt
  have loop : ∀ s₃ : Shared, s₃ = { s with heap := h₁, toks := s.toks + ([] : List (Str × Value)).length } →
      codeAny (model X.prog X.w) X.A (.compLoop (.ListComp elt [⟨tg, iter, ifs, 0⟩] scope pos) 0 (.ref it) (.ref s.heap.objs.size) (compEnvC scope cl (s.heap.push ({ cls := .type "list", dict := none, data := .seq ([] : List Value).toArray } : Obj)).objs.size X.env))
        (RR (.ref s.heap.objs.size) (s.heap.push ({ cls := .type "list", dict := none, data := .seq ([] : List Value).toArray } : Obj)).objs.size) s₃ := by
    rintro s₃ rfl
    refine compLoop_goX (fun n s' => ∃ (i : Nat) (acc : List V) (its : List Value) (c : Nat) (σ' : St) (H' : Hp), Inv Xc [(s.heap.objs.size, ({ cls := .type "list", data := .seq its.toArray c } : Obj))] σ' H' s' ∧ Vals acc its ∧ tn i s'.heap ∧
      (∀ b ∈ fp, H' b = none) ∧ acc.length ≤ sizeLine ∧ W i n acc σ' H') ?_ m0 ⟨0, [], [], 0, _, H, B0, .nil, T.keep _ _ _ st fun b _ u e => k3 b u (Heap.get?_push_of_some _ e), fun b hb => (hf b hb).1, Nat.zero_le _, w0⟩
    rintro n s3 ⟨i, acc, its, c, σ3, H3, I3, rv, st3, fr3, hz, w3⟩
    rcases turn i n acc σ3 H3 w3 with ⟨stop, qn⟩ | ⟨go, hlen, NN, hNN, step⟩
    · have h := T.done Xc eP eW eK eC i _ s3 σ3 H3 (fun _ _ => False) I3 (fpk fr3) st3 stop
      rw [eA] at h
      refine thn h fun r s4 ⟨hr, I4⟩ => ?_
      subst hr
      rw [← hXc] at I4
      obtain ⟨a1, a2, a3⟩ := comp_back I hf I4 rv hz
      obtain ⟨mC, hmC, _⟩ := I4.loc
      exact hR _ _ _ _ mC a1 hmC a2 (qn _ a3)
    · have h := T.item Xc eP eW eK eC i _ s3 σ3 H3 (fun _ _ => False) I3 (fpk fr3) st3 go
      rw [eA] at h
      refine thn h fun r s4 ⟨u, hr, h4⟩ => ?_
      subst hr
      refine thn h4 fun _ s5 ⟨x, H5, I5, r5, y5, st5, fr5⟩ => ?_
      have I5' := I5.pinned (fpk fr5) (T.obj _ _ st5)
      have ha := hg' _ s5 σ3 H5 x u _ I5' r5 (step x H5 y5)
      rw [eP, eW, eA, eE, eX] at ha
      refine thn ha fun _ s6 ⟨σ6, H6, I6, q6⟩ => ?_
      have hb := ht' _ s6 σ6 H6 _ I6 q6
      rw [eP, eW, eA, eE, eX] at hb
      refine thn hb fun ok s7 ⟨H7, I7, q7⟩ => ?_
      have tn' : ∀ {σ8 : St} {H8 : Hp} {s8 : Shared}, Inv Xc ([(s.heap.objs.size, ({ cls := .type "list", data := .seq its.toArray c } : Obj))] ++ pinsAt fp s5.heap) σ8 H8 s8 → tn (i + 1) s8.heap ∧ ∀ b ∈ fp, H8 b = none := fun {σ8 H8 s8} I8 => by
        refine ⟨T.keep _ _ _ st5 fun b hb o e => (I8.pin (b, o) (List.mem_append_right _ (List.mem_append_right _ (mem_pinsAt hb e)))).1, fun b hb => ?_⟩
        obtain ⟨o, e, d⟩ := T.obj _ _ st5 b hb
        exact (I8.pin (b, o) (List.mem_append_right _ (List.mem_append_right _ (mem_pinsAt hb e)))).2.1
      cases ok with
      | false =>
        obtain ⟨m', hm, w7⟩ := hNN _ _ _ q7
        obtain ⟨t1, t2⟩ := tn' I7
        exact ⟨m', hm, i + 1, acc, its, c, σ6, H7, I7.unpinned, rv, t1, t2, hz, w7⟩
      | true =>
        have hd := he' _ s7 σ6 H7 _ EK I7 q7
        rw [eP, eW, eA, eE] at hd
        refine wpAny_mono hd (fun v s8 ⟨y, H8, I8, r8, q8⟩ => ?_) (fun e s8 hx => ?_)
        rotate_left
        · obtain ⟨H9, s9, I9, hq9⟩ := hx
          obtain ⟨mC, hmC, _⟩ := I9.loc
          have nD9 := (I9.unpinned.pin (s.heap.objs.size, ({ cls := .type "list", data := .seq its.toArray c } : Obj)) (by simp)).2.1
          have eS : Xc.stack = X.stack := by rw [← hXc]; rfl
          rw [eP, eW, eS] at hq9
          rw [eE] at hmC
          rw [← hXc] at I9
          obtain ⟨J1, J2, J3⟩ := comp_backN I hf I9
          exact hRX _ _ H9 s9 s8 mC e _ J1 hmC J2 J3 hq9 rfl
        obtain ⟨m', hm, w8⟩ := hNN _ _ _ q8
        obtain ⟨t1, t2⟩ := tn' I8
        have I9 := I8.unpinned
        obtain ⟨eD, nD, nC, nF, _⟩ := I9.pin (s.heap.objs.size, ({ cls := .type "list", data := .seq its.toArray c } : Obj)) (by simp)
        have hln := rv.length
        refine call_meets F.slot_list_append ⟨_, eD, rfl⟩ F.entry_list_append (F.args_list_append_2 _ _) (PySem.list_append s.heap.objs.size its.toArray c v (by rw [List.size_toArray]; omega)) ⟨eD, ?_⟩
        obtain ⟨n9, q⟩ : ∃ n9, (s8.heap.update s.heap.objs.size (Obj.mapSeq fun a => a.push v)).get? s.heap.objs.size = some ({ cls := .type "list", data := .seq (its ++ [v]).toArray n9 } : Obj) := by
          have q := PySem.IsL.update eD (fun a => a.push v)
          have ea : its.toArray.push v = (its ++ [v]).toArray := by simp
          rw [ea] at q
          exact ⟨_, q⟩
        have I10 : Inv Xc [] σ6 H8 { s8 with heap := s8.heap.update s.heap.objs.size (Obj.mapSeq fun a => a.push v) } := by
          refine (I9.pins_of (pins' := []) fun p hp => nomatch hp).turned (it := s.heap.objs.size) (t' := s8.toks) (fun b u hb e => (Heap.get?_update_other s8.heap _ (Ne.symm hb)).trans e) nD nC (.inl (by rw [eex]; exact List.mem_cons_self)) (fun x cc e => ?_) (fun p hp => ?_)
          · obtain ⟨w0, oc, hoc, _⟩ := I.cell x cc (ecl x cc e)
            exact Nat.ne_of_lt (Heap.lt_size hoc)
          · rw [← hXc] at hp
            exact absurd hp (by simp [cxComp])
        refine ⟨m', hm, i + 1, acc ++ [y], its ++ [v], n9, σ6, H8, I10.pins_of fun p hp => ?_, rv.append (.cons r8 .nil), T.keep _ _ _ t1 fun b hb u e => ?_, t2, by rw [List.length_append, List.length_singleton]; omega, w8⟩
        · have e : p = (s.heap.objs.size, ({ cls := .type "list", data := .seq (its ++ [v]).toArray n9 } : Obj)) := by simpa using hp
          subst e
          exact ⟨q, nD, nC, nF, fun w z => by cases z⟩
        · have hb' : b ≠ s.heap.objs.size := by
            obtain ⟨z, hz'⟩ := hfo b hb
            exact Nat.ne_of_lt (Heap.lt_size hz')
          exact (Heap.get?_update_other s8.heap _ (Ne.symm hb')).trans e
  exact codeAny_compStart_list (loop _ rfl) (T.self _ 0 _ _ _ (T.keep _ _ _ st fun b _ u e => k3 b u (Heap.get?_push_of_some _ e)) (loop _ rfl))

/-- what a def's body wants of exceptions that come out of a comprehension -/
def WantsC (X : Cx) (E : XK) : Prop :=
  ∀ (pins : List (Addr × Obj)) (σ : St) (D C : Addr) (H1 : Hp) (s1 s' : Shared) (m : Str → Option Value) (e : Value) (cenv : Env) (Q : Value → Shared → Prop), Inv X pins σ H1 s1 → s1.heap.Ns C m → FpOk X pins H1 C → C ∉ frs X.stack → CXF X.prog X.w X.stack H1 s1 E e s' → cenv.frame = X.env.frame →
    notedBy (model X.prog X.w) X.A cenv (fun x s => compPost (model X.prog X.w) X.A X.xe none Q (.ref D) C (.error x) s) e s'
theorem wantsC_def {P : Program} {w : World} {K : PySem.W.Frag} {mg : Str → Option Value} {base : Heap} {N : List Str} {qual : Str} {scope : Scope} {f : Addr} {cd : Value} {A : Around} {outer : List Env} {s : Shared} {H : Hp} {E : XK} : WantsC (cxOf (CXF P w) P w K mg base N qual scope f cd A outer s H E) E :=
  fun pins σ D C H1 s1 s' m e cenv Q I hn fC hC q hf => fly_comp I rfl rfl rfl q hn fC hC hf
/-- a comprehension whose items may raise -/
theorem pe_compX {E : XK} (WC : WantsC X E) (hc : X.calm = true) (S : CompScope X scope N xs js) (hi : PI X tg iter ti) (hg : ∀ cl s H ex, PG (cxComp X N scope cl s H ex) tg g) (ht : ∀ cl s H ex, PTs (cxComp X N scope cl s H ex) ifs tt)
    (he : ∀ cl s H ex, PEX (cxComp X N scope cl s H ex) elt teX) (hs : ∀ x, foldedSetIterable iter X.env x = pure x := by intro _; rfl) :
    PE X (.ListComp elt [⟨tg, iter, ifs, 0⟩] scope pos) (tComp xs js ti g tt (teX E)) := by
  intro pins s σ H Q I h
  obtain ⟨cl, e1, h2, h4⟩ := closure_ok (scope := scope) (env := X.env) fun y hy e => I.ok.has y.1 (S.caught y hy e)
  rw [eval_ListComp]
  refine wpAny_comprehension_free (use := none) rfl hs e1 S.kind S.once (thn (hi pins s σ H _ I h) fun v s1 h1 => thn h1 fun itv s2 h2' => ?_)
  obtain ⟨it, fp, tn, J, H2, e, I2, T, st2, f2, hW⟩ := h2'
  subst e
  refine comp_blockX (EK := E) (RR := fun acc C => compPost (model X.prog X.w) X.A X.xe none (EP X pins σ Q) acc C) hc S hg ht he h2 h4 I2 T st2 f2 hW (fun D C H1 s1 s' m e cenv I1 hn fC hC q hf => WC pins σ D C H1 s1 s' m e cenv _ I1 hn fC hC q hf) fun D C H' s' m I' hn hC q => ?_
  obtain ⟨f0, f1, _, f3, f4, f5⟩ := hC
  exact ⟨m, hn, fun h' hs' => ⟨.ref D, H', I'.turned (it := C) (t' := s'.toks) (fun b u hb e => (hs'.2 b hb).trans e) f0 f1 f3 f4 f5, rfl, q⟩⟩
end
end L2

namespace L2
open PySem PySem.Spec PyProof.Rows
/-! ### texts that are joined, and cut again -/
namespace Tx
open Builtin Builtin.Str PySem.StrLaws
def cutsOf (k : Nat) : Nat → List Str → List Nat
  | _, [] => []
  | _, [_] => []
  | a, p :: q :: r => (a + p.length) :: cutsOf k (a + p.length + k) (q :: r)
theorem skips {x y : Str} {hi lim : Nat} : ∀ (l m : List Nat) (st : Array Nat × Nat), (∀ i ∈ l, i < st.2 ∨ ¬ At x y hi i) → (forIn (l ++ m) st (occBody x y hi lim)).run = (forIn m st (occBody x y hi lim)).run
  | [], m, st, _ => rfl
  | a :: l, m, st, h => by
    have e : (forIn (a :: l ++ m) st (occBody x y hi lim)).run = (forIn (l ++ m) st (occBody x y hi lim)).run := by
      rw [List.cons_append, List.forIn_cons]
      have hn : ¬ (((st.fst.size < lim ∧ st.snd ≤ a) ∧ a + y.length ≤ hi) ∧ subAt x y a = true) := fun z => by
        rcases h a List.mem_cons_self with q | q
        · have := z.1.1.2
          omega
        · exact q ⟨z.1.2, z.2⟩
      unfold occBody
      rw [if_neg hn]
      rfl
    rw [e]
    exact skips l m st fun i hi' => h i (List.mem_cons_of_mem _ hi')
theorem takes {x y : Str} {hi lim a : Nat} {m : List Nat} {st : Array Nat × Nat} (h1 : st.1.size < lim) (h2 : st.2 ≤ a) (h3 : At x y hi a) : (forIn (a :: m) st (occBody x y hi lim)).run = (forIn m (st.1.push a, a + y.length) (occBody x y hi lim)).run := by
  rw [List.forIn_cons]
  have hp : ((st.fst.size < lim ∧ st.snd ≤ a) ∧ a + y.length ≤ hi) ∧ subAt x y a = true := ⟨⟨⟨h1, h2⟩, h3.1⟩, h3.2⟩
  conv => lhs; unfold occBody
  rw [if_pos hp]
  rfl
theorem len_eq (x : Str) : x.cps.toList.length = x.length := by simp [Str.length]
theorem app_cps (x y : Str) : (x ++ y).cps.toList = x.cps.toList ++ y.cps.toList := Array.toList_append
theorem at_first {x y : Str} {c i : Nat} {r : List Nat} (hy : y.cps.toList = c :: r) (h : At x y x.length i) : x.cps.toList[i]? = some c := by
  have h2 := h.2
  rw [subAt_eq] at h2
  have e := eq_of_beq h2
  have hl : y.length = r.length + 1 := by rw [← len_eq, hy]; rfl
  rw [hy, hl] at e
  cases q : x.cps.toList.drop i with
  | nil => rw [q] at e; cases e
  | cons d t =>
    rw [q, List.take_succ_cons] at e
    have hd : d = c := (List.cons.inj e).1
    have : (x.cps.toList.drop i)[0]? = some d := by rw [q]; rfl
    rw [List.getElem?_drop] at this
    rw [← hd]
    simpa using this
theorem occ_join {x y : Str} {c lim : Nat} {cs : List Nat} (hy : y.cps.toList = c :: cs) : ∀ (parts : List Str) (A : List Nat) (found : Array Nat) (free : Nat), parts ≠ [] → (∀ p ∈ parts, c ∉ p.cps.toList) →
    x.cps.toList = A ++ (Str.join y parts).cps.toList → free ≤ A.length → found.size + parts.length ≤ lim →
    (forIn (List.range' A.length ((Str.join y parts).length + 1)) (found, free) (occBody x y x.length lim)).run.1.toList = found.toList ++ cutsOf y.length A.length parts
  | [], _, _, _, h, _, _, _, _ => absurd rfl h
  | [p], A, found, free, _, hc, hx, hf, hl => by
    have hx' : x.cps.toList = A ++ p.cps.toList := hx
    have e := skips (x := x) (y := y) (hi := x.length) (lim := lim) (List.range' A.length (p.length + 1)) [] (found, free) fun i hi => .inr fun z => by
      have h1 := at_first hy z
      have hi' := List.mem_range'_1.mp hi
      rw [hx', List.getElem?_append_right hi'.1] at h1
      exact hc p List.mem_cons_self (List.mem_of_getElem? h1)
    rw [List.append_nil] at e
    show (forIn (List.range' A.length (p.length + 1)) (found, free) (occBody x y x.length lim)).run.1.toList = _
    rw [e]
    show found.toList = found.toList ++ []
    rw [List.append_nil]
  | p :: q :: r, A, found, free, _, hc, hx, hf, hl => by
    have ej : Str.join y (p :: q :: r) = p ++ y ++ Str.join y (q :: r) := rfl
    have hx' : x.cps.toList = A ++ (p.cps.toList ++ (y.cps.toList ++ (Str.join y (q :: r)).cps.toList)) := by
      rw [hx, ej, app_cps, app_cps, List.append_assoc]
    have ln : (Str.join y (p :: q :: r)).length = p.length + (y.length + (Str.join y (q :: r)).length) := by
      rw [← len_eq, ej, app_cps, app_cps, List.length_append, List.length_append, len_eq, len_eq, len_eq]
      omega
    have hyl : y.length = cs.length + 1 := by rw [← len_eq, hy]; rfl
    have xl : x.length = A.length + (p.length + (y.length + (Str.join y (q :: r)).length)) := by
      rw [← len_eq x, hx', List.length_append, List.length_append, List.length_append, len_eq, len_eq, len_eq]
    have sp : List.range' A.length ((Str.join y (p :: q :: r)).length + 1) = List.range' A.length p.length ++ ((A.length + p.length) :: (List.range' (A.length + p.length + 1) (y.length - 1) ++ List.range' (A.length + p.length + y.length) ((Str.join y (q :: r)).length + 1))) := by
      rw [ln, show p.length + (y.length + (Str.join y (q :: r)).length) + 1 = p.length + (1 + ((y.length - 1) + ((Str.join y (q :: r)).length + 1))) by omega, ← List.range'_append_1, ← List.range'_append_1, ← List.range'_append_1]
      rw [show A.length + p.length + 1 + (y.length - 1) = A.length + p.length + y.length by omega]
      rfl
    rw [sp, skips _ _ _ fun i hi => .inr fun z => ?_]
    · have hat : At x y x.length (A.length + p.length) := by
        refine ⟨by omega, ?_⟩
        rw [subAt_eq, hx', ← List.append_assoc, List.drop_left' (by rw [List.length_append, len_eq]), List.take_left' (len_eq y)]
        exact beq_self_eq_true _
      rw [takes (by show found.size < lim; simp only [List.length_cons] at hl; omega) (by show free ≤ _; omega) hat, skips _ _ _ fun i hi => .inl ?_]
      · have ih := occ_join (x := x) (lim := lim) hy (q :: r) (A ++ p.cps.toList ++ y.cps.toList) (found.push (A.length + p.length)) (A.length + p.length + y.length) (by simp) (fun z hz => hc z (List.mem_cons_of_mem _ hz)) (by rw [hx']; simp only [List.append_assoc])
          (by rw [List.length_append, List.length_append, len_eq, len_eq]; omega) (by rw [Array.size_push]; simp only [List.length_cons] at hl ⊢; omega)
        rw [show (A ++ p.cps.toList ++ y.cps.toList).length = A.length + p.length + y.length by rw [List.length_append, List.length_append, len_eq, len_eq]] at ih
        rw [ih, Array.toList_push, List.append_assoc]
        rfl
      · have hi' := List.mem_range'_1.mp hi
        show i < A.length + p.length + y.length
        omega
    · have h1 := at_first hy z
      have hi' := List.mem_range'_1.mp hi
      rw [hx', List.getElem?_append_right hi'.1, List.getElem?_append_left (by rw [len_eq]; omega)] at h1
      exact hc p List.mem_cons_self (List.mem_of_getElem? h1)
theorem parts_join {x y : Str} : ∀ (parts : List Str) (A : List Nat), parts ≠ [] → x.cps.toList = A ++ (Str.join y parts).cps.toList → partsFrom x y.length A.length (cutsOf y.length A.length parts) = parts
  | [], _, h, _ => absurd rfl h
  | [p], A, _, hx => by
    have hx' : x.cps.toList = A ++ p.cps.toList := hx
    show [strSub x A.length x.length] = [p]
    congr 1
    refine str_ext ?_
    rw [strSub_toList, hx', List.drop_left, List.take_of_length_le]
    rw [← len_eq x, hx', List.length_append]
    omega
  | p :: q :: r, A, _, hx => by
    have ej : Str.join y (p :: q :: r) = p ++ y ++ Str.join y (q :: r) := rfl
    have hx' : x.cps.toList = A ++ (p.cps.toList ++ (y.cps.toList ++ (Str.join y (q :: r)).cps.toList)) := by
      rw [hx, ej, app_cps, app_cps, List.append_assoc]
    have ih := parts_join (x := x) (y := y) (q :: r) (A ++ p.cps.toList ++ y.cps.toList) (by simp) (by rw [hx']; simp only [List.append_assoc])
    rw [show (A ++ p.cps.toList ++ y.cps.toList).length = A.length + p.length + y.length by rw [List.length_append, List.length_append, len_eq, len_eq]] at ih
    show strSub x A.length (A.length + p.length) :: partsFrom x y.length (A.length + p.length + y.length) (cutsOf y.length (A.length + p.length + y.length) (q :: r)) = _
    rw [ih]
    congr 1
    refine str_ext ?_
    rw [strSub_toList, hx', List.drop_left, Nat.add_sub_cancel_left, List.take_left' (len_eq p)]
/-- what was joined comes back, where no part has the first sign of what stands between -/
theorem split_join {y : Str} {c : Nat} {cs : List Nat} (hy : y.cps.toList = c :: cs) {parts : List Str} (hn : parts ≠ []) (hc : ∀ p ∈ parts, c ∉ p.cps.toList) (hk : Builtin.Str.strKind y ≤ 1) (hl : parts.length ≤ (Str.join y parts).length + 1) : PySem.Txt.split (Str.join y parts) y = parts := by
  have oc : occurrences (Str.join y parts) y 0 (Str.join y parts).length ((Str.join y parts).length + 1) = cutsOf y.length 0 parts := by
    rw [occ_eq]
    have h := occ_join (x := Str.join y parts) (lim := (Str.join y parts).length + 1) hy parts [] #[] 0 hn hc rfl (Nat.le_refl _) (by simpa using hl)
    simpa using h
  have pj := parts_join (x := Str.join y parts) (y := y) parts [] hn rfl
  unfold PySem.Txt.split
  rw [oc, partsBetween_eq]
  match parts, hn, pj with
  | [p], _, _ =>
    show (if _ then [p] else if _ then [p] else _) = [p]
    split
    · rfl
    · rfl
  | p :: q :: r, _, pj =>
    have ej : Str.join y (p :: q :: r) = p ++ y ++ Str.join y (q :: r) := rfl
    have ln : (Str.join y (p :: q :: r)).length = p.length + y.length + (Str.join y (q :: r)).length := by
      rw [← len_eq, ej, app_cps, app_cps, List.length_append, List.length_append, len_eq, len_eq, len_eq]
    have k1 : 1 ≤ Builtin.Str.strKind (Str.join y (p :: q :: r)) := by
      unfold Builtin.Str.strKind
      split
      · exact Nat.le_refl _
      · split <;> omega
    rw [if_neg (by simp only [Bool.or_eq_true, decide_eq_true_eq]; omega), if_neg (by simp [cutsOf])]
    exact pj
end Tx
end L2

namespace L2
open PySem PySem.Spec PyProof.Rows
/-! ### numbers as texts -/
namespace Tx
open PySem.NumText PySem.W
def numT (i : Int) : Str := (toString i : String)
def dg (m : Nat) : List Nat := (Nat.toDigits 10 m).map Char.toNat
theorem numT_nat (m : Nat) : (numT (m : Int)).cps.toList = dg m := KIN.signs_num m
theorem numT_neg (m : Nat) : (numT (Int.negSucc m)).cps.toList = 45 :: dg (m + 1) := by
  show (Str.ofString ("-" ++ toString (m + 1))).cps.toList = _
  rw [signs_ofString]
  show ("-" ++ Nat.repr (m + 1)).toList.map Char.toNat = _
  rw [String.toList_append, List.map_append, Nat.toList_repr]
  rfl
theorem dg_digits (m : Nat) : AllDigits (dg m) := fun c hc => by
  obtain ⟨d, hd, e⟩ := List.mem_map.mp hc
  rw [← e]
  exact digit_range (Nat.isDigit_of_mem_toDigits (by decide) (by decide) hd)
theorem dg_ne (m : Nat) : dg m ≠ [] := fun e => by
  have h := toDigits_len_ge 10 m
  rw [List.map_eq_nil_iff.mp e] at h
  exact absurd h (by decide)
theorem dg_len {m k : Nat} (hk : 0 < k) (h : m < 10 ^ k) : (dg m).length ≤ k := by
  have := toString_length_le (v := (m : Int)) (by omega) hk (by exact_mod_cast h)
  have e := numT_nat m
  rw [← e, len_eq]
  exact this
theorem dg_zero {m : Nat} (h : (dg m)[0]? = some 48) : m = 0 := by
  induction m using Nat.strongRecOn with
  | _ m ih =>
    by_cases hm : m < 10
    · unfold dg at h
      rw [Nat.toDigits_of_lt_base hm] at h
      revert h
      revert hm
      revert m
      intro m _ hm h
      have : ∀ d : Nat, d < 10 → ([Nat.digitChar d].map Char.toNat)[0]? = some 48 → d = 0 := by decide
      exact this m hm h
    · have hr : m % 10 < 10 := Nat.mod_lt m (by decide)
      have t : Nat.toDigits 10 (m / 10) ++ Nat.toDigits 10 (m % 10) = Nat.toDigits 10 (10 * (m / 10) + m % 10) := Nat.toDigits_append_toDigits (by decide) (by omega) hr
      rw [Nat.div_add_mod] at t
      have h' : (dg (m / 10))[0]? = some 48 := by
        have hl : 0 < (dg (m / 10)).length := List.length_pos_iff.mpr (dg_ne _)
        unfold dg at h
        rw [← t, List.map_append, List.getElem?_append_left (show 0 < (List.map Char.toNat (Nat.toDigits 10 (m / 10))).length from hl)] at h
        exact h
      have := ih (m / 10) (by omega) h'
      omega
theorem starts_one {x : Str} {c : Nat} : PySem.Txt.startswith x ⟨#[c]⟩ = decide (x.cps.toList[0]? = some c) := by
  unfold PySem.Txt.startswith
  rw [PySem.StrLaws.subAt_eq, List.drop_zero, Bool.eq_iff_iff]
  have hl := len_eq x
  cases hx : x.cps.toList with
  | nil => rw [hx] at hl; simp at hl ⊢
  | cons d r =>
    rw [hx] at hl
    simp at hl
    have : x.length = r.length + 1 := by omega
    have h2 : 1 ≤ x.cps.size := by have : x.length = x.cps.size := rfl; omega
    simp [this, Str.length, h2]
end Tx

/-! ### methods of texts, int of a text -/
section
variable {X : Cx}
theorem strs_of : ∀ {ys : List Str} {us : List Value}, Vals (ys.map V.str) us → ∃ l : List (Str × Tok), us = strValues l ∧ l.map (·.1) = ys
  | [], _, h => by cases h; exact ⟨[], rfl, rfl⟩
  | y :: r, _, h => by
    cases h with
    | cons a b =>
      obtain ⟨t, rfl⟩ := a
      obtain ⟨l, rfl, e⟩ := strs_of b
      exact ⟨(y, t) :: l, rfl, by rw [List.map_cons, e]⟩
theorem vals_strs : ∀ (l : List (Str × Tok)), Vals ((l.map (·.1)).map V.str) (strValues l)
  | [] => .nil
  | (x, t) :: r => .cons ⟨t, rfl⟩ (vals_strs r)
def rJoin (K : PySem.W.Frag) : V → List V → Hp → VK → Prop := fun x vs H Q => ∃ sep p ys, x = .str sep ∧ vs = [.ref p] ∧ SqL K H p (ys.map V.str) ∧ sep.length ≤ 16 ∧ (ys.map (·.length)).sum + ys.length ≤ 1048576 ∧ Q (.str (Str.join sep ys)) H
theorem mt_join : MtR X "str.join" (rJoin X.K) := by
  intro pins s σ H x vs v us Q I rx rv h
  obtain ⟨sep, p, ys, rfl, rfl, hq, hs, hw, q⟩ := h
  obtain ⟨t, rfl⟩ := rx
  obtain ⟨u, rfl, ru⟩ := rv.one
  cases ru
  obtain ⟨its, r, pl, hz⟩ := I.list hq
  obtain ⟨l, rfl, e⟩ := strs_of r
  refine PySem.SC.join pl.isList e (joinOk_of_weight hw hs) fun t' k => ⟨.str _, H, I.tok k, ⟨t', ?_⟩, q⟩
  show Value.str (Builtin.Str.glued sep ys) t' = _
  rw [PySem.StrLaws.glued_eq_join]
def rSplit : V → List V → Hp → VK → Prop := fun x vs H Q => ∃ z y, x = .str z ∧ vs = [.str y] ∧ (y.length == 0) = false ∧ z.length + 2 ≤ sizeLine ∧ ∀ l, H l = none → Q (.ref l) (upd H l (.lst ((PySem.Txt.split z y).map V.str)))
theorem mt_split : MtR X "str.split" rSplit := by
  intro pins s σ H x vs v us Q I rx rv h
  obtain ⟨z, y, rfl, rfl, hy, hz, q⟩ := h
  obtain ⟨t, rfl⟩ := rx
  obtain ⟨u, rfl, tu, rfl⟩ := rv.one
  have fin : ∀ (l : List (Str × Tok)) (k : Nat), l.map (·.1) = PySem.Txt.split z y → EP X pins σ Q (.ref s.heap.objs.size) { s with toks := k, heap := s.heap.push { cls := .type "list", data := .seq (strValues l).toArray } } := fun l k e =>
    ⟨.ref s.heap.objs.size, _, I.lnew (t' := k) (vals_strs l) (by rw [List.length_map, List.length_map]; have := len_le_of_split e; omega), rfl, by rw [e]; exact q _ I.fresh⟩
  have many : (Builtin.Str.partsBetween z (Builtin.Str.occurrences z y 0 z.length (z.length + 1)) y.length).length ≤ sizeLine := by
    have := PySem.StrLaws.occ_length_le z y 0 z.length (z.length + 1)
    rw [length_partsBetween]
    omega
  cases c1 : (decide (z.length < y.length) || decide (Builtin.Str.strKind z < Builtin.Str.strKind y)) with
  | true =>
    exact call_meets PySem.F.slot_str_split (typeIs_str _ _ _) PySem.F.entry_str_split (PySem.F.args_str_split_2 _ _) (meets_str_split_cannot_occur z y t tu c1) (fin [(z, t)] s.toks (if_pos c1).symm)
  | false =>
    cases c2 : (Builtin.Str.occurrences z y 0 z.length (z.length + 1)).isEmpty with
    | true => exact call_meets PySem.F.slot_str_split (typeIs_str _ _ _) PySem.F.entry_str_split (PySem.F.args_str_split_2 _ _) (meets_str_split_not_found z y t tu c1 hy c2) (fin [(z, t)] s.toks ((if_neg (ne_true_of_eq_false c1)).trans (if_pos c2)).symm)
    | false =>
      refine call_meets PySem.F.slot_str_split (typeIs_str _ _ _) PySem.F.entry_str_split (PySem.F.args_str_split_2 _ _) (meets_str_split_sep z y t tu c1 hy c2 (by omega) many) ?_
      have e := fin (numbered s.toks (Builtin.Str.partsBetween z (Builtin.Str.occurrences z y 0 z.length (z.length + 1)) y.length)) (s.toks + (Builtin.Str.partsBetween z (Builtin.Str.occurrences z y 0 z.length (z.length + 1)) y.length).length) ((numbered_texts _ _).trans ((if_neg (ne_true_of_eq_false c1)).trans (if_neg (ne_true_of_eq_false c2))).symm)
      rw [← strsFrom_eq] at e
      exact e
def rStarts : V → List V → Hp → VK → Prop := fun x vs H Q => ∃ z y, x = .str z ∧ vs = [.str y] ∧ Q (.bl (PySem.Txt.startswith z y)) H
theorem mt_starts : MtR X "str.startswith" rStarts := by
  intro pins s σ H x vs v us Q I rx rv h
  obtain ⟨z, y, rfl, rfl, q⟩ := h
  obtain ⟨t, rfl⟩ := rx
  obtain ⟨u, rfl, tu, rfl⟩ := rv.one
  exact PySem.SC.startswith ⟨.bl _, H, I, rfl, q⟩
theorem call_intT : CallR X (.type "int") (fun xs H Q => ∃ x n, xs = [.str x] ∧ PySem.intText? x = some n ∧ x.length ≤ 640 ∧ Q (.int n) H) := by
  intro pins s σ H xs us Q I r h
  obtain ⟨x, n, rfl, hn, hl, q⟩ := h
  obtain ⟨u, rfl, t, rfl⟩ := vals1 r
  exact PySem.W.KIN.call_text hn hl ⟨.int n, H, I.tok _, ⟨_, rfl⟩, q⟩
end

/-! ### enumerate -/
end L2

/-! OWN RULES: dict(a list of pairs), sum(a list of ints), the types of data. -/
namespace L2
open PySem PySem.Spec PyProof.Rows
section
variable {prog : Program} {w : World} {A : Around} {E : Value → Shared → Prop} {s : Shared}
end

section
variable {prog : Program} {w : World} {A : Around} {R : Result → Shared → Prop} {I : Addr} {fp wr : List Addr} {n : Nat} {P : Nat → Value → Prop} {St : Nat → Heap → Prop}
end
section
variable {X : Cx}
end
/-! ### the types of data -/
theorem k_s_l (K : PySem.W.Frag) : PySem.W.kitOne K (.type "str") (.type "list") = some false := by first | rfl | kernel_rfl
theorem k_i_l (K : PySem.W.Frag) : PySem.W.kitOne K (.type "int") (.type "list") = some false := by first | rfl | kernel_rfl
theorem k_b_l (K : PySem.W.Frag) : PySem.W.kitOne K (.type "bool") (.type "list") = some false := by first | rfl | kernel_rfl
theorem k_n_l (K : PySem.W.Frag) : PySem.W.kitOne K (.type "NoneType") (.type "list") = some false := by first | rfl | kernel_rfl
theorem k_t_l (K : PySem.W.Frag) : PySem.W.kitOne K (.type "tuple") (.type "list") = some false := by first | rfl | kernel_rfl
theorem k_i_s (K : PySem.W.Frag) : PySem.W.kitOne K (.type "int") (.type "str") = some false := by first | rfl | kernel_rfl
theorem k_b_s (K : PySem.W.Frag) : PySem.W.kitOne K (.type "bool") (.type "str") = some false := by first | rfl | kernel_rfl
theorem k_n_s (K : PySem.W.Frag) : PySem.W.kitOne K (.type "NoneType") (.type "str") = some false := by first | rfl | kernel_rfl
theorem k_t_s (K : PySem.W.Frag) : PySem.W.kitOne K (.type "tuple") (.type "str") = some false := by first | rfl | kernel_rfl
theorem k_l_s (K : PySem.W.Frag) : PySem.W.kitOne K (.type "list") (.type "str") = some false := by first | rfl | kernel_rfl
end L2

/-! OWN RULES: set(a list of texts), its len; list(reversed(a list)). -/
namespace L2
open PySem PySem.Spec PyProof.Rows
/-! ### unlike ones -/
section
variable {prog : Program} {w : World} {A : Around} {R : Result → Shared → Prop} {I : Addr} {fp wr : List Addr} {n : Nat} {P : Nat → Value → Prop} {St : Nat → Heap → Prop}
end
section
variable {X : Cx}
end
end L2

namespace L2
open PySem PySem.Spec PyProof.Rows
/-! ### list(reversed(l)) -/
section
variable {prog : Program} {w : World} {A : Around} {E : Value → Shared → Prop} {s : Shared} {r : Addr}
end
section
variable {X : Cx}
end
end L2

/-! OWN RULES: a range with a step, a list unpacked, a text told 0 or 1 times, in / not in by data. -/
namespace L2
open PySem PySem.Spec PyProof.Rows
/-! ### range with a step -/
/-! ### a, b = a list -/
section
variable {prog : Program} {w : World} {A : Around} {E : Value → Shared → Prop}
end
/-! ### a text, 0 or 1 times -/
/-! ### in, by data -/
end L2

/-! OWN RULES: a walk over reversed(list). -/
namespace L2
open PySem PySem.Spec PyProof.Rows
theorem call_isinstK {X : Cx} (K : PySem.W.Frag) (hK : X.K = K) : CallR X (.builtin "isinstance") (fun xs H Q => ∃ x T t b, xs = [x, .ty T] ∧ TyOf K H x t ∧ PySem.W.kitOne K t (.type T) = some b ∧ Q (.bl b) H) := by
  subst hK
  exact call_isinst
end L2

namespace L2
open PySem PySem.Spec PyProof.Rows
/-! ### index and remove on lists of texts; the text of a list -/
section
variable {X : Cx}
end
end L2

/-! OWN RULES: where a def's first row stands a token has been made (its parameter's name), so constants there have tokens other than 0: text.replace(a, b). -/
namespace L2
open PySem PySem.Spec PyProof.Rows
section
variable {M : Model} {A : Around} {E : Value → Shared → Prop} {s₀ s : Shared} {m cm : Str → Option Value} {env : Env}
theorem bindParams_tok (f : Str × Value → PUnit → Sem (ForInStep PUnit)) (hf : ∀ n v u, f (n, v) u = (do storeName env n v; pure (.yield ⟨⟩))) (hk : env.scope.kind = .function) {n : Str} {v : Value} {r : List (Str × Value)} {Q : PUnit → Shared → Prop}
    (x : InCallC s₀ env.locals m env.cells cm s) (hl : env.kindOf n = some .local) (hr : ∀ y ∈ r, env.kindOf y.1 = some .local ∨ (env.kindOf y.1 = some .cell ∧ (env.cells.lookup y.1).isSome = true))
    (h : ∀ s', 0 < s'.toks → InCallC s₀ env.locals (bindL env.kindOf ((n, v) :: r) m) env.cells (bindC env.kindOf ((n, v) :: r) cm) s' → Q ⟨⟩ s') : wpAny M A (forIn ((n, v) :: r) ⟨⟩ f) Q E s := by
  rw [List.forIn_cons, hf]
  refine wpAny_bind (wpAny_bind (wpAny_storeName_local hl x.toInCall.ns (fun h' hn' hs' => ?_) (by rw [hk]; rfl)))
  have x' : InCallC s₀ env.locals (fun y => if y = n then some v else m y) env.cells cm { s with heap := h', toks := s.toks + 1 } := by
    refine ⟨⟨?_, hn', fun b o e => ?_, x.toInCall.fresh⟩, fun k c hc => ?_, x.apart, x.above⟩
    · obtain ⟨h₁, tk, rfl⟩ := x.toInCall.same
      exact ⟨h', _, rfl⟩
    · exact hs'.extBut b o (Nat.ne_of_lt (Nat.lt_of_lt_of_le (Heap.lt_size e) x.toInCall.fresh)) (x.toInCall.keep b o e)
    · exact (x.cell k c hc).sameBut hs' (Nat.ne_of_gt (x.above k c (mem_of_lookup hc)))
  have w := wpAny_toks_of (M := M) (A := A) (n := 1) (s := { s with heap := h', toks := s.toks + 1 }) (Nat.succ_le_succ (Nat.zero_le _))
    (wpAny_bindParams (E := E) f hf hk r _ _ _ (fun _ s'' => InCallC s₀ env.locals (bindL env.kindOf r fun y => if y = n then some v else m y) env.cells (bindC env.kindOf r cm) s'') x' hr fun s'' x'' => x'')
  refine wpAny_pure (wpAny_mono w (fun _ s'' q => h s'' q.1 ?_) fun _ _ q => q.2)
  unfold bindL bindC
  rw [if_pos hl, if_pos hl]
  exact q.2
theorem newEnv_tok {scope : Scope} {globals : Addr} {n : Str} {v : Value} {r : List (Str × Value)} {qual : Str} {func : Option Addr} {code : Value} {builtins : Addr} {Q : Env → Shared → Prop}
    (hk : scope.kind = .function) (hl : scope.names.lookup n = some .local)
    (hkind : ∀ x ∈ r, scope.names.lookup x.1 = some .local ∨ (scope.names.lookup x.1 = some .cell ∧ ((cellsFrom (s.heap.objs.size + 1) scope.names []).lookup x.1).isSome = true))
    (hQ : ∀ env, env = newEnv scope s.heap.objs.size globals (cellsFrom (s.heap.objs.size + 1) scope.names []) qual func code none builtins →
      ∀ s', 0 < s'.toks → InCallC s env.locals (bindL env.kindOf ((n, v) :: r) fun _ => none) env.cells (bindC env.kindOf ((n, v) :: r) fun _ => none) s' → Q env s') :
    wpAny M A (newFunctionEnv scope globals [] ((n, v) :: r) qual func code none builtins) Q E s := by
  simp only [newFunctionEnv, Option.isSome_none, Bool.false_eq_true, if_false]
  refine wpAny_bind (wpAny_alloc ?_)
  refine wpAny_bind (wpAny_layCells _ (fun name kind cells => by cases hkc : kind == NameKind.cell <;> simp [hkc]) _ _ _ _ ?_)
  have ok := cellsFrom_ok scope.names (s.heap.push { cls := .type "frame", data := .dict #[] }) (s.heap.objs.size + 1) [] ⟨fun _ _ hm => (nomatch hm), List.Pairwise.nil⟩ (by rw [Heap.size_push]; exact Nat.le_refl _)
  rw [Heap.size_push] at ok
  rw [show ({ s with heap := s.heap.push { cls := .type "frame", data := .dict #[] } } : Shared).heap.objs.size = s.heap.objs.size + 1 from Heap.size_push ..]
  refine wpAny_bind (bindParams_tok (s₀ := s) (env := newEnv scope s.heap.objs.size globals (cellsFrom (s.heap.objs.size + 1) scope.names []) qual func code none builtins)
    _ (fun _ _ _ => rfl) hk (m := fun _ => none) (cm := fun _ => none)
    ⟨⟨⟨_, _, rfl⟩, (Heap.Ns.new s.heap (.type "frame")).keeps (pushCells_keeps _ _), fun b o e => pushCells_keeps _ _ b o (Heap.get?_push_of_some _ e), Nat.le_refl _⟩,
      fun n c hc => (ok.empty n c (mem_of_lookup hc)).1, ok.apart, fun n c hm => (ok.empty n c hm).2⟩
    hl hkind fun s' tk x => wpAny_pure (hQ _ rfl s' tk x))
end
/-- a def by its body, from a state in which a token has been made -/
theorem fn_ofT {CX : CXT} {P : Program} {w : World} {K : PySem.W.Frag} {mg : Str → Option Value} {base : Heap} {k : Nat} {f : Addr} {name qual : Str} {params : Arguments} {body : List Stmt} {scope : Scope} {dV kV doc pm cdv ct oc : Value} {an od : Option Addr}
    {osl : Array (Option Value)} {N : List Str} {p : Str} {sp : Sp} (lk : K.lookup f = some ⟨oc, od, .func (PySem.W.fnOf name qual params body scope dV kV doc pm an cdv ct), osl⟩) (hcd : PySem.W.codeIn K cdv qual = true) (S : FnScope N [p] scope)
    (hloc : scope.names.lookup p = some .local)
    (len : ∀ vs H Q E, sp vs H Q E → vs.length = 1)
    (hbody : ∀ (A : Around) (outer : List Env) (s : Shared) (H : Hp) (vs : List V) (Q : VK) (E : XK), Room k (A.deeper (envOfC qual scope s.heap.objs.size f cdv)) → sp vs H Q E →
      ∀ s1, 0 < s1.toks → Inv (cxOf CX P w K mg base N qual scope f cdv A outer s H E) [] (start N vs) H s1 →
        wpAny (model P w) (cxOf CX P w K mg base N qual scope f cdv A outer s H E).A (execs body (cxOf CX P w K mg base N qual scope f cdv A outer s H E).env) (SP (cxOf CX P w K mg base N qual scope f cdv A outer s H E) [] { nx := fun _ H' => Q .non H', rt := Q }) (cxOf CX P w K mg base N qual scope f cdv A outer s H E).xe s1) :
    FnOk P w K mg base CX (k + 1) f (PySem.W.fnOf name qual params body scope dV kV doc pm an cdv ct) [p] sp := by
  refine ⟨len, fun A outer s H args us vs Q E hr e0 hb r hsp => ?_⟩
  have hl := len _ _ _ _ hsp
  have KX : K.In s.heap := e0.mod.kin.keeps fun b o e => (e0.bs b o e).1
  have lim : s.heap.NoLimit := e0.mod.nolimit.keeps fun b o e => (e0.bs b o e).1
  obtain ⟨u, rfl⟩ : ∃ u, us = [u] := by
    have h1 : us.length = 1 := by rw [← r.length]; exact hl
    match us, h1 with
    | [u], _ => exact ⟨u, rfl⟩
  refine codeAny_call_function hr.depth (KX _ _ lk) rfl S.co S.gen rfl (PySem.W.codeRec_of KX hcd) (hb _ _ _ _ ?_)
  refine newEnv_tok (n := p) (v := u) (r := []) S.kind hloc (fun _ z => nomatch z) fun env he s1 tk x => ?_
  subst he
  refine ⟨lim.keeps x.toInCall.keep, codeAny_func ?_⟩
  have I : Inv (cxOf CX P w K mg base N qual scope f cdv A outer s H E) [] (start N vs) H s1 := inv_start S hr.hd e0 hl r x
  refine wpAny_mono (hbody A outer s H vs Q E (hr.deeper _) hsp s1 tk I) (fun fl s' hs => ?_) fun e s' hs => hs
  have fin : ∀ {σ' : St} {H' : Hp} {v : V} {u : Value}, Inv (cxOf CX P w K mg base N qual scope f cdv A outer s H E) [] σ' H' s' → RelV v u → Q v H' → CE outer P w H s Q u s' :=
    fun {σ' H' v u} J rv q => ⟨v, H', J.os, J.bare, J.base, J.hok, rv, q⟩
  cases fl with
  | ret u =>
    obtain ⟨v, σ', H', J, rv, q⟩ := hs
    exact fin J rv q
  | next =>
    obtain ⟨σ', H', J, q⟩ := hs
    exact fin (v := V.non) (u := Value.none) J rfl q
  | brk =>
    obtain ⟨_, _, _, q⟩ := hs
    exact False.elim q
  | cont =>
    obtain ⟨_, _, _, q⟩ := hs
    exact False.elim q
/-! ### expressions where a token has been made -/
section
variable {X : Cx}
def PET (X : Cx) (e : Expr) (t : TE) : Prop :=
  ∀ (pins : List (Addr × Obj)) (s : Shared) (σ : St) (H : Hp) (Q : VK), 0 < s.toks → Inv X pins σ H s → t σ H Q → wpAny (model X.prog X.w) X.A (eval e X.env) (EP X pins σ Q) X.xe s
theorem PE.tok {e : Expr} {t : TE} (h : PE X e t) : PET X e t := fun pins s σ H Q _ I q => h pins s σ H Q I q
theorem tok_on {e : Expr} {t : TE} {pins : List (Addr × Obj)} {s : Shared} {σ : St} {H : Hp} {Q : VK} (h : PET X e t) (hs : 0 < s.toks) (I : Inv X pins σ H s) (q : t σ H Q) :
    wpAny (model X.prog X.w) X.A (eval e X.env) (fun v s' => 1 ≤ s'.toks ∧ EP X pins σ Q v s') X.xe s :=
  wpAny_mono (wpAny_toks_of (n := 1) hs (h pins s σ H Q hs I q)) (fun _ _ z => z) fun _ _ z => z.2
def tRepl (K : PySem.W.Frag) (a b : Str) (to : TE) : TE := fun σ H Q => to σ H fun x H1 => ∃ z, x = .str z ∧ z.length + (z.length + 1) * b.length ≤ 16777216 ∧ Q (.str (PySem.Txt.replace z a b)) H1
/-- text.replace(a, b) of two constants -/
theorem pet_replace {o : Expr} {to : TE} {a b : Str} {j1 j2 : Nat} {p1 p2 apos cpos : Pos} (hab : (a == b) = false) (ho : PET X o to)
    (hbase : attributeBase o "replace" X.env (eval o X.env) = eval o X.env := by rfl)
    (hfew : ((backTo cpos (starEach [.Constant (.str a) j1 p1, .Constant (.str b) j2 p2] X.env)).all (fun x => !x.1) && (backToKw cpos (keywordEach [] X.env)).all (fun x => x.1.isSome)
      && decide (([.Constant (.str a) j1 p1, .Constant (.str b) j2 p2] : List Expr).length + ([] : List Keyword).length + (if ([] : List Keyword).isEmpty then 0 else 1) < 30)) = true := by rfl)
    (hline : (apos.endLine == cpos.line) = true := by rfl) :
    PET X (.Call (.Attribute o "replace" apos) [.Constant (.str a) j1 p1, .Constant (.str b) j2 p2] [] cpos) (tRepl X.K a b to) := by
  intro pins s σ H Q hs I h
  refine wpAny_Call_method_late hbase hfew hline rfl (thn (tok_on ho hs I h) fun v s1 ⟨t1, x, H1, I1, r1, z, ez, hz, q1⟩ => ?_)
  subst ez
  obtain ⟨t0, rfl⟩ := r1
  refine ⟨"str", "str.replace", PySem.F.plainAttrs_str, PySem.F.slot_str_replace, PySem.F.type_str_replace, typeIs_str _ _ _, ?_, ?_⟩
  · exact (tyV_is (X := X) (T := "str") I1 (x := .str z) ⟨t0, rfl⟩ (by first | exact rfl | exact .inr rfl | trivial)).2
  · refine Calls.callWith_builtin (by rfl) (Calls.evalArgs_plain (Calls.spliced_cons (Calls.Constant_str (k := j1) (pos := p1) (Calls.spliced_cons (Calls.Constant_str (k := j2) (pos := p2) (Calls.spliced_nil ?_))))))
    exact PySem.SC.replace (Nat.ne_of_gt t1) (Nat.succ_ne_zero _) (Nat.ne_of_lt (Nat.lt_succ_self _)) hab hz fun t' k => ⟨.str _, H1, (I1.tok _), ⟨t', rfl⟩, q1⟩
theorem pet_bm {o e : Expr} {es : List Expr} {to : TE} {t : TA} {name : Str} {apos cpos : Pos} {T id : String} {r : V → List V → Hp → VK → Prop} (pa : PlainAttrs T) (slot : Slot T name id) (hty : typeOf (.builtin id) = pure (.type "method_descriptor")) (hm : MtR X id r) (ho : PET X o to) (ha : PA X (e :: es) t)
    (hbase : attributeBase o name X.env (eval o X.env) = eval o X.env := by rfl)
    (hfew : ((backTo cpos (starEach (e :: es) X.env)).all (fun x => !x.1) && (backToKw cpos (keywordEach [] X.env)).all (fun x => x.1.isSome)
      && decide ((e :: es).length + ([] : List Keyword).length + (if ([] : List Keyword).isEmpty then 0 else 1) < 30)) = true := by rfl)
    (hline : (apos.endLine == cpos.line) = true := by rfl) (hs : starEach (e :: es) X.env = (false, eval e X.env) :: starEach es X.env := by rfl) (hplain : (backTo cpos (starEach es X.env)).any (·.1) = false := by rfl) :
    PET X (.Call (.Attribute o name apos) (e :: es) [] cpos) (tBM X.K T r to t) := by
  intro pins s σ H Q h0 I h
  refine wpAny_Call_method_late hbase hfew hline rfl (thn (ho pins s σ H _ h0 I h) fun v s1 ⟨x, H1, I1, r1, ty, q1⟩ => ?_)
  obtain ⟨h1, h2⟩ := tyV_is I1 r1 ty
  refine ⟨T, id, pa, slot, hty, h1, h2, ?_⟩
  have hA := ha cpos pins s1 σ H1 _ I1 q1
  rw [hs] at hA ⊢
  refine Calls.callWith_builtin (by show (false || (backTo cpos (starEach es X.env)).any (·.1)) = false; rw [hplain] <;> rfl) (Calls.evalArgs_plain ?_)
  exact thn hA fun us s2 ⟨vs, H2, I2, r2, q2⟩ => hm pins s2 σ H2 x vs v us Q I2 r1 r2 q2
/-- the first row `x = e` of a body, then the rest -/
theorem pst_set {i : Nat} {x : Str} {e : Expr} {te : TE} {pos pos' : Pos} {rest : List Stmt} {u : TS} {pins : List (Addr × Obj)} {s : Shared} {σ : St} {H : Hp} {D : Ends} (hN : X.N.Nodup) (hi : X.N[i]? = some x) (hx : Loc X.env.scope x) (he : PET X e te) (hr : PSs X rest u)
    (h0 : 0 < s.toks) (I : Inv X pins σ H s) (h : te σ H fun v H1 => u D (σ.set i (some v)) H1)
    (hs : swapsWith e (some (.Name x pos')) pos.line X.env = pure false := by rfl) (hf : X.fn x = true ∨ X.env.scope.names.lookup x = some .local := by first | exact .inl rfl | exact .inr rfl | assumption) :
    wpAny (model X.prog X.w) X.A (execs (.Assign [.Name x pos'] e pos :: rest) X.env) (SP X pins D) X.xe s := by
  refine wpAny_execs_cons (wpAny_Assign_Name (thn (he pins s σ H _ h0 I h) fun v s1 ⟨y, H1, I1, r1, q1⟩ => ?_) hs)
  exact store_ok I1 hN hi hx r1 (fun s2 I2 => hr pins s2 _ H1 D I2 q1) hf
end
/-- THE RULE for a def of one parameter whose first row wants a token -/
theorem Fun.okT {P : Program} {w : World} {K : PySem.W.Frag} {mg : Str → Option Value} {base : Heap} {x qual : Str} {st : Stmt} {f : Addr} {fd : FuncData} {N : List Str} {p : Str} {k : Nat} {sp : Sp} (F : Fun K x qual st f fd) (S : FnScope N [p] (defScope st))
    (hloc : (defScope st).names.lookup p = some .local) (len : ∀ vs H Q E, sp vs H Q E → vs.length = 1)
    (hbody : ∀ (cdv : Value) (A : Around) (outer : List Env) (s : Shared) (H : Hp) (vs : List V) (Q : VK) (E : XK), Room k (A.deeper (envOfC qual (defScope st) s.heap.objs.size f cdv)) → sp vs H Q E →
      ∀ s1, 0 < s1.toks → Inv (cxOf CX0 P w K mg base N qual (defScope st) f cdv A outer s H E) [] (start N vs) H s1 →
        wpAny (model P w) (cxOf CX0 P w K mg base N qual (defScope st) f cdv A outer s H E).A (execs (defBody st) (cxOf CX0 P w K mg base N qual (defScope st) f cdv A outer s H E).env) (SP (cxOf CX0 P w K mg base N qual (defScope st) f cdv A outer s H E) [] { nx := fun _ H' => Q .non H', rt := Q }) (cxOf CX0 P w K mg base N qual (defScope st) f cdv A outer s H E).xe s1) :
    FnOk P w K mg base CX0 (k + 1) f fd [p] sp := by
  obtain ⟨oc, od, kV, doc, pm, an, cdv, ct, osl, rfl, lk, hcd⟩ := F.ex
  exact fn_ofT lk hcd S hloc len fun A outer s H vs Q E hr hsp => hbody cdv A outer s H vs Q E hr hsp
end L2

/-! OWN RULES: tuple(..) of a list or of a text. -/
namespace L2
open PySem PySem.Spec PyProof.Rows
end L2

/-! OWN RULES: zip of two lists in a for. -/
namespace L2
open PySem PySem.Spec PyProof.Rows
end L2

/-! OWN RULES: l.count(text), d.keys() gone through. -/
namespace L2
open PySem PySem.Spec PyProof.Rows
section
variable {X : Cx}
end
end L2

/-! OWN RULES: l.insert(number from nought on, anything). -/
namespace L2
open PySem PySem.Spec PyProof.Rows
section
variable {X : Cx}
def rInsert : V → List V → Hp → VK → Prop := fun x vs H Q => ∃ (l : Addr) (xs : List V) (i : Int) (y : V), x = .ref l ∧ vs = [.int i, y] ∧ H l = some (.lst xs) ∧ 0 ≤ i ∧ i ≤ 1000 ∧ xs.length + 1 ≤ sizeLine ∧ Q .non (upd H l (.lst (xs.take i.toNat ++ y :: xs.drop i.toNat)))
theorem take_min {α : Type} (xs : List α) (i : Nat) : xs.take (min i xs.length) = xs.take i := by
  by_cases h : i ≤ xs.length
  · rw [Nat.min_eq_left h]
  · rw [Nat.min_eq_right (by omega), List.take_length, List.take_of_length_le (by omega)]
theorem drop_min {α : Type} (xs : List α) (i : Nat) : xs.drop (min i xs.length) = xs.drop i := by
  by_cases h : i ≤ xs.length
  · rw [Nat.min_eq_left h]
  · rw [Nat.min_eq_right (by omega), List.drop_length, List.drop_eq_nil_of_le (by omega)]
theorem ins_fits {i : Int} (h0 : 0 ≤ i) (h : i ≤ 1000) : Builtin.List.listFitsIndex i = true := fitsIndex_both (Int.le_trans (by decide) h0) (Int.lt_of_le_of_lt h (by decide))
theorem ins_eq (its : List Value) (w : Value) (i : Int) (h0 : 0 ≤ i) : (its.toArray.extract 0 (if i < 0 then (i + (its.toArray.size : Int)).toNat else min i.toNat its.toArray.size)).push w ++ its.toArray.extract (if i < 0 then (i + (its.toArray.size : Int)).toNat else min i.toNat its.toArray.size) = (its.take i.toNat ++ w :: its.drop i.toNat).toArray := by
  rw [if_neg (by omega), List.size_toArray]
  apply Array.ext'
  simp [take_min, drop_min]
  exact List.take_of_length_le (by rw [List.length_drop]; omega)
theorem mt_insert : MtM X "list.insert" rInsert := by
  intro pins s σ H x vs v us Q I rx rv h
  obtain ⟨l, xs, i, y, rfl, rfl, hH, h0, hi, hz, q⟩ := h
  cases rx
  obtain ⟨u, w, rfl, ru, rw'⟩ := rv.two
  obtain ⟨t, rfl⟩ := ru
  obtain ⟨z, its, n, r, hl, e⟩ := I.lstM hH
  have hf := ins_fits h0 hi
  have hsz : its.toArray.size ≤ sizeLine := by rw [List.size_toArray]; omega
  refine call_meets F.slot_list_insert ⟨_, e, rfl⟩ F.entry_list_insert (F.args_list_insert_3 _ _ _) (AutoSeq1.list_insert_list_int_val_1 l its.toArray n i t w (by simp [hf]) hsz) ⟨e, ?_⟩
  refine ⟨.non, _, I.lset (its' := its.take i.toNat ++ w :: its.drop i.toNat) hH e (ins_eq its w i h0) ((r.take _).append (.cons rw' (r.drop _))) ?_, rfl, q⟩
  rw [List.length_append, List.length_cons, List.length_take, List.length_drop]
  omega
end
end L2

namespace Net
open PySem L2
def top (i : Nat) : Stmt := PySem.Challenge.pw_netcourt_k11_papers_as_texts.main.body.getD i (.Pass ⟨0, 0, 0, 0⟩)
abbrev s_is_made_of : Stmt := top 16
abbrev s_is_name : Stmt := top 17
abbrev s_is_whole : Stmt := top 18
abbrev s_read_number : Stmt := top 19
abbrev s_show_paper : Stmt := top 23
abbrev s_read_paper : Stmt := top 24
abbrev s_split_text : Stmt := top 25
abbrev s_read_words : Stmt := top 26
abbrev s_close_last : Stmt := top 27
abbrev s_read_word : Stmt := top 28
abbrev s_l_cell_at : Stmt := top 30
abbrev s_l_mixed : Stmt := top 31
abbrev s_l_name : Stmt := top 32
abbrev s_l_paper : Stmt := top 33
abbrev s_l_paper_text : Stmt := top 34
abbrev s_l_same : Stmt := top 35
abbrev s_l_is : Stmt := top 36
abbrev s_l_no_name : Stmt := top 37
abbrev s_l_caught : Stmt := top 38
abbrev s_l_round : Stmt := top 39
abbrev s_law : Stmt := top 40
end Net

namespace Net
open PySem L2
/-! ### the data -/
def abc : Str := "abcdefghijklmnopqrstuvwxyz"
def smallB (c : Nat) : Bool := decide (97 ≤ c) && decide (c ≤ 122)
def nameB (x : Str) : Bool := decide (1 ≤ x.length) && decide (x.length ≤ 12) && x.cps.toList.all smallB
def spMade : Sp := fun vs H Q _ => ∃ (x y : Str), vs = [.str x, .str y] ∧ x.length ≤ sizeLine ∧ ∀ H', Same H H' → Q (.bl (x.cps.toList.all fun c => decide (c ∈ y.cps.toList))) H'
def spName : Sp := fun vs H Q _ => ∃ (x : Str), vs = [.str x] ∧ x.length ≤ sizeLine ∧ ∀ H', Same H H' → Q (.bl (nameB x)) H'
/-- what is asked of the text as the top has made it -/
structure Txt (K : PySem.W.Frag) (mg : Str → Option Value) : Prop where
  all : mg "all" = none
  isi : mg "isinstance" = none
  str : mg "str" = none
  int : mg "int" = none
  bool : mg "bool" = none
  list : mg "list" = none
  tuple : mg "tuple" = none
  len : mg "len" = none
  range : mg "range" = none
  abs : mg "abs" = none
  enum : mg "enumerate" = none
  min : mg "min" = none
  small : GlobIs mg "SMALL_LETTERS" (.str abc)
  longest : GlobIs mg "LONGEST_NAME" (.int 12)
  figs : GlobIs mg "FIGURES" (.str "0123456789")
  mostF : GlobIs mg "MOST_FIGURES" (.int 120)
  deep : GlobIs mg "MOST_DEEP" (.int 60)
  kIB : PySem.W.kitOne K (.type "int") (.type "bool") = some false

section
variable {P : Program} {w : World} {K : PySem.W.Frag} {mg : Str → Option Value} {base : Heap}
/-! ### is_made_of -/
theorem sc_made : FnScope ["text", "signs"] ["text", "signs"] (defScope s_is_made_of) := ⟨rfl, rfl, rfl, by decide +kernel, rfl, by decide +kernel, by decide +kernel⟩
theorem ok_made {f : Addr} {fd : FuncData} (F : Fun K "is_made_of" "is_made_of" s_is_made_of f fd) (T : Txt K mg) : FnOk P w K mg base CX0 1 f fd ["text", "signs"] spMade := by
  refine F.ok sc_made (fun vs H Q E h => ?_) (fun cdv A outer s H vs Q E hr h => ?_)
  · obtain ⟨x, y, rfl, _⟩ := h
    rfl
  · obtain ⟨x, y, rfl, hx, k⟩ := h
    refine ⟨_, pss_one (ps_ret (pe_callB (call_all rfl) (by rfl) T.all b_all (pa_cons (pe_comp (N := ["sign", "signs"]) (xs := 1) (js := [1]) rfl (compScope_of rfl) (pi_str (pv 0))
      (fun _ _ _ _ => pg_name (i := 0) (show List.Nodup (["sign", "signs"] : List Str) by decide +kernel) rfl (Or.inl rfl)) (fun _ _ _ _ => pts_nil) (fun _ _ _ _ => pe_cmpR op_in_str (pv 0) (pv 1) (by with_unfolding_all rfl))) pa_nil))), ?_⟩
    refine ⟨_, rfl, x, rfl, comp_str (fun i acc σ' H' => H' = H ∧ acc = (x.cps.toList.take i).map (fun c => V.bl (decide (c ∈ y.cps.toList))) ∧ ∃ o, σ' = [o, some (.str y)])
      ⟨rfl, rfl, none, rfl⟩ (fun i acc σ' H' h => ?_) hx (fun i c acc σ' H' hc h => ?_) (fun acc σ' H' h p hp => ?_)⟩
    · rw [h.2.1, List.length_map, List.length_take]
      omega
    · obtain ⟨rfl, rfl, o, rfl⟩ := h
      refine ⟨_, rfl, _, rfl, _, _, rfl, rfl, rfl, ?_, _, rfl⟩
      have hc' : x.cps.toList[i]? = some c := by simpa using hc
      rw [StrLaws.found_one, List.take_add_one, hc', List.map_append]
      rfl
    · obtain ⟨rfl, rfl, o, rfl⟩ := h
      refine ⟨p, x.cps.toList.map (fun c => decide (c ∈ y.cps.toList)), rfl, SqL.of ?_, ?_⟩
      · rw [upd_same, List.map_map, List.take_of_length_le (by simp)]
        rfl
      · rw [List.all_map]
        exact k _ fun b ob e => by rw [upd_ne (ne_of_none e hp)]; exact e

/-! ### is_name, is_whole -/
theorem mem_abc (c : Nat) : decide (c ∈ abc.cps.toList) = smallB c := by
  have e : abc.cps.toList = (List.range 26).map (97 + ·) := by decide +kernel
  rw [e]
  unfold smallB
  rw [Bool.eq_iff_iff]
  simp only [decide_eq_true_eq, Bool.and_eq_true, List.mem_map, List.mem_range]
  constructor
  · rintro ⟨k, h1, h2⟩
    omega
  · intro h
    exact ⟨c - 97, by omega, by omega⟩
theorem sc_name : FnScope ["word"] ["word"] (defScope s_is_name) := ⟨rfl, rfl, rfl, by decide +kernel, rfl, by decide +kernel, by decide +kernel⟩
theorem ok_name {f : Addr} {fd : FuncData} (F : Fun K "is_name" "is_name" s_is_name f fd) (T : Txt K mg) (c1 : Can P w K mg base 1 "is_made_of" ["text", "signs"] spMade) : FnOk P w K mg base CX0 2 f fd ["word"] spName := by
  refine F.ok sc_name (fun vs H Q E h => ?_) (fun cdv A outer s H vs Q E hr h => ?_)
  · obtain ⟨x, rfl, _⟩ := h
    rfl
  · obtain ⟨x, rfl, hx, k⟩ := h
    refine ⟨_, pss_cons (ps_if (pt_not (pt_val (pe_callB call_isinst (by rfl) T.isi b_isi (pa_cons (pv 0) (pa_cons (pe_ty T.str (by rfl) b_str) pa_nil))))) (pss_one (ps_ret pe_bl)) pss_nil)
      (pss_one (ps_ret (pe_and (pe_chain op_le op_le pe_int (pe_callB call_len_str (by rfl) T.len b_len (pa_cons (pv 0) pa_nil)) (pe_globC T.longest (by rfl)))
        (pe_one (pe_callC c1 hr (by rfl) (pa_cons (pv 0) (pa_cons (pe_globC T.small (by rfl)) pa_nil))))))), ?_⟩
    refine ⟨_, rfl, _, "str", _, true, rfl, .str x, rfl, true, rfl, iteF ?_⟩
    refine ⟨_, rfl, x, rfl, hx, _, _, rfl, rfl, _, rfl, ?_⟩
    refine ite2 (fun h1 => ⟨_, _, rfl, rfl, _, rfl, ite2 (fun h2 => ⟨_, rfl, x, abc, rfl, hx, fun H' s' => ?_⟩) (fun h2 => ?_)⟩) (fun h1 => ⟨_, rfl, iteF ?_⟩)
    · have e : nameB x = (x.cps.toList.all fun c => decide (c ∈ abc.cps.toList)) := by
        unfold nameB
        rw [decide_eq_true (p := 1 ≤ x.length) (by have := of_decide_eq_true h1; omega), decide_eq_true (p := x.length ≤ 12) (by have := of_decide_eq_true h2; omega)]
        simp only [mem_abc, Bool.true_and]
      rw [← e]
      exact k H' s'
    · have e : nameB x = false := by
        unfold nameB
        rw [decide_eq_false (p := x.length ≤ 12) (fun z => h2 (decide_eq_true (by omega)))]
        simp
      have := k H (Same.refl H)
      rw [e] at this
      exact this
    · have e : nameB x = false := by
        unfold nameB
        rw [decide_eq_false (p := 1 ≤ x.length) (fun z => h1 (decide_eq_true (by omega)))]
        simp
      have := k H (Same.refl H)
      rw [e] at this
      exact this
end
theorem strOk_of {x : Str} (h : nameB x = true) : PyData.strOk x = true := by
  unfold nameB at h
  simp only [Bool.and_eq_true, List.all_eq_true] at h
  unfold PyData.strOk
  rw [Array.all_eq_true']
  intro c hc
  have := h.2 c (by simpa using hc)
  unfold smallB at this
  simp at this
  simp
  omega
/-! ### papers as data -/
/-- the data that a value bears (n deep at most), all of it laid in the heap -/
def PD (H : Hp) : Nat → V → PyData → Prop
  | _, .non, d => d = .none
  | _, .bl b, d => d = .bool b
  | _, .int i, d => d = .int i
  | _, .str x, d => PyData.strOk x = true ∧ d = .str x
  | n + 1, .ref a, d => (∃ xs ds, H a = some (.lst xs) ∧ d = .list ds ∧ Paired (PD H n) xs ds) ∨ ∃ xs ds, H a = some (.tup xs) ∧ d = .tuple ds ∧ Paired (PD H n) xs ds
  | _, _, _ => False
theorem pair_get {α β : Type} {F : α → β → Prop} {a : α} : ∀ {xs : List α} {ys : List β} {i : Nat}, Paired F xs ys → xs[i]? = some a → ∃ b, ys[i]? = some b ∧ F a b
  | _, _, i, .nil, h => by simp at h
  | _, _, 0, .cons (a := c) (b := b) h _, e => by
    have e' : c = a := by simpa using e
    subst e'
    exact ⟨b, rfl, h⟩
  | _, _, i + 1, .cons _ t, e => by
    obtain ⟨b, h1, h2⟩ := pair_get (i := i) t (by simpa using e)
    exact ⟨b, by simpa using h1, h2⟩
theorem PD.same {H H' : Hp} (s : Same H H') : ∀ {n : Nat} {v : V} {d : PyData}, PD H n v d → PD H' n v d
  | 0, v, d, h => by cases v <;> first | exact h | exact h.elim
  | n + 1, v, d, h => by
    cases v <;> first | exact h | exact h.elim | skip
    rcases h with ⟨xs, ds, e, e2, p⟩ | ⟨xs, ds, e, e2, p⟩
    · exact .inl ⟨xs, ds, s _ _ e, e2, L2.Paired.mapP p fun _ _ h => PD.same s h⟩
    · exact .inr ⟨xs, ds, s _ _ e, e2, L2.Paired.mapP p fun _ _ h => PD.same s h⟩
theorem PD.rd {K : PySem.W.Frag} {H : Hp} : ∀ {n : Nat} {v : V} {d : PyData}, PD H n v d → RdD K H n v d
  | 0, v, d, h => by cases v <;> first | exact h | exact h.elim
  | n + 1, v, d, h => by
    cases v <;> first | exact h | exact h.elim | skip
    rcases h with ⟨xs, ds, e, e2, p⟩ | ⟨xs, ds, e, e2, p⟩
    · exact .inl ⟨xs, ds, SqL.of e, e2, L2.Paired.mapP p fun _ _ h => PD.rd h⟩
    · exact .inr ⟨xs, ds, SqT.of e, e2, L2.Paired.mapP p fun _ _ h => PD.rd h⟩
theorem PD.up {H : Hp} : ∀ {n : Nat} {v : V} {d : PyData}, PD H n v d → PD H (n + 1) v d
  | 0, v, d, h => by cases v <;> first | exact h | exact h.elim
  | n + 1, v, d, h => by
    cases v <;> first | exact h | exact h.elim | skip
    rcases h with ⟨xs, ds, e, e2, p⟩ | ⟨xs, ds, e, e2, p⟩
    · exact .inl ⟨xs, ds, e, e2, L2.Paired.mapP p fun _ _ h => PD.up h⟩
    · exact .inr ⟨xs, ds, e, e2, L2.Paired.mapP p fun _ _ h => PD.up h⟩
def isL : PyData → Bool
  | .list _ => true
  | _ => false
def isS : PyData → Bool
  | .str _ => true
  | _ => false
theorem PD.ty {K : PySem.W.Frag} {H : Hp} {n : Nat} {v : V} {d : PyData} (h : PD H n v d) : ∃ t, TyOf K H v t ∧ PySem.W.kitOne K t (.type "list") = some (isL d) ∧ PySem.W.kitOne K t (.type "str") = some (isS d) := by
  cases n with
  | zero =>
    cases v <;> try exact h.elim
    · cases (show d = _ from h); exact ⟨_, .non, k_n_l K, k_n_s K⟩
    · cases (show d = _ from h); exact ⟨_, .bl _, k_b_l K, k_b_s K⟩
    · cases (show d = _ from h); exact ⟨_, .int _, k_i_l K, k_i_s K⟩
    · cases h.2; exact ⟨_, .str _, k_s_l K, rfl⟩
  | succ n =>
    cases v <;> try exact h.elim
    · cases (show d = _ from h); exact ⟨_, .non, k_n_l K, k_n_s K⟩
    · cases (show d = _ from h); exact ⟨_, .bl _, k_b_l K, k_b_s K⟩
    · cases (show d = _ from h); exact ⟨_, .int _, k_i_l K, k_i_s K⟩
    · cases h.2; exact ⟨_, .str _, k_s_l K, rfl⟩
    · rcases h with ⟨xs, ds, e, rfl, p⟩ | ⟨xs, ds, e, rfl, p⟩
      · exact ⟨_, .lst e, rfl, k_l_s K⟩
      · exact ⟨_, .tup e, k_t_l K, k_t_s K⟩
theorem PD.str_of {H : Hp} {n : Nat} {v : V} {d : PyData} (h : PD H n v d) (e : isS d = true) : ∃ x, v = .str x ∧ d = .str x := by
  cases n with
  | zero => cases v <;> first | exact h.elim | (cases (show d = _ from h); cases e) | exact ⟨_, rfl, h.2⟩
  | succ n =>
    cases v <;> first | exact h.elim | (cases (show d = _ from h); cases e) | exact ⟨_, rfl, h.2⟩ | skip
    rcases h with ⟨xs, ds, e1, rfl, p⟩ | ⟨xs, ds, e1, rfl, p⟩ <;> cases e
theorem PD.list_of {H : Hp} {n : Nat} {v : V} {ds : List PyData} (h : PD H n v (.list ds)) : ∃ m a xs, n = m + 1 ∧ v = .ref a ∧ H a = some (.lst xs) ∧ Paired (PD H m) xs ds := by
  cases n with
  | zero => cases v <;> first | exact h.elim | cases (show PyData.list ds = _ from h) | cases h.2
  | succ n =>
    cases v <;> first | exact h.elim | cases (show PyData.list ds = _ from h) | cases h.2 | skip
    rcases h with ⟨xs, ds', e1, e2, p⟩ | ⟨xs, ds', e1, e2, p⟩
    · cases e2; exact ⟨n, _, xs, rfl, rfl, e1, p⟩
    · cases e2
def isI : PyData → Bool
  | .int _ => true
  | _ => false
def isB : PyData → Bool
  | .bool _ => true
  | _ => false
theorem PD.tyI {K : PySem.W.Frag} {H : Hp} {n : Nat} {v : V} {d : PyData} (h : PD H n v d) : ∃ t, TyOf K H v t ∧ PySem.W.kitOne K t (.type "int") = some (isI d || isB d) ∧ PySem.W.kitOne K t (.type "bool") = some (isB d) := by
  cases n with
  | zero =>
    cases v <;> try exact h.elim
    · cases (show d = _ from h); exact ⟨_, .non, by first | rfl | kernel_rfl, by first | rfl | kernel_rfl⟩
    · cases (show d = _ from h); exact ⟨_, .bl _, by first | rfl | kernel_rfl, by first | rfl | kernel_rfl⟩
    · cases (show d = _ from h); exact ⟨_, .int _, by first | rfl | kernel_rfl, by first | rfl | kernel_rfl⟩
    · cases h.2; exact ⟨_, .str _, by first | rfl | kernel_rfl, by first | rfl | kernel_rfl⟩
  | succ n =>
    cases v <;> try exact h.elim
    · cases (show d = _ from h); exact ⟨_, .non, by first | rfl | kernel_rfl, by first | rfl | kernel_rfl⟩
    · cases (show d = _ from h); exact ⟨_, .bl _, by first | rfl | kernel_rfl, by first | rfl | kernel_rfl⟩
    · cases (show d = _ from h); exact ⟨_, .int _, by first | rfl | kernel_rfl, by first | rfl | kernel_rfl⟩
    · cases h.2; exact ⟨_, .str _, by first | rfl | kernel_rfl, by first | rfl | kernel_rfl⟩
    · rcases h with ⟨xs, ds, e, rfl, p⟩ | ⟨xs, ds, e, rfl, p⟩
      · exact ⟨_, .lst e, by first | rfl | kernel_rfl, by first | rfl | kernel_rfl⟩
      · exact ⟨_, .tup e, by first | rfl | kernel_rfl, by first | rfl | kernel_rfl⟩
theorem PD.int_of {H : Hp} {n : Nat} {v : V} {i : Int} (h : PD H n v (.int i)) : v = .int i := by
  cases n with
  | zero => cases v <;> first | exact h.elim | (have := (show PyData.int i = _ from h); cases this; done) | (have := (show PyData.int i = _ from h); cases this; rfl) | (cases h.2; done)
  | succ n =>
    cases v <;> first | exact h.elim | (have := (show PyData.int i = _ from h); cases this; done) | (have := (show PyData.int i = _ from h); cases this; rfl) | (cases h.2; done) | skip
    rcases h with ⟨xs, ds, e1, e2, p⟩ | ⟨xs, ds, e1, e2, p⟩ <;> cases e2
section
variable {P : Program} {w : World} {K : PySem.W.Frag} {mg : Str → Option Value} {base : Heap}
def spWholeD : Sp := fun vs H Q _ => ∃ (v : V) (n : Nat) (d : PyData), vs = [v] ∧ PD H n v d ∧ Q (.bl (isI d)) H
theorem sc_whole : FnScope ["thing"] ["thing"] (defScope s_is_whole) := ⟨rfl, rfl, rfl, by decide +kernel, rfl, by decide +kernel, by decide +kernel⟩
theorem ok_wholeD {f : Addr} {fd : FuncData} (F : Fun K "is_whole" "is_whole" s_is_whole f fd) (T : Txt K mg) : FnOk P w K mg base CX0 1 f fd ["thing"] spWholeD := by
  refine F.ok sc_whole (fun vs H Q E h => ?_) (fun cdv A outer s H vs Q E hr h => ?_)
  · obtain ⟨v, n, d, rfl, _⟩ := h
    rfl
  · obtain ⟨v, n, d, rfl, pd, q⟩ := h
    refine ⟨_, (pss_one (ps_ret (pe_and (pe_callB call_isinst (by rfl) T.isi b_isi (pa_cons (pv 0) (pa_cons (pe_ty T.int (by rfl) b_int) pa_nil))) (pe_one (pe_not (pe_callB call_isinst (by rfl) T.isi b_isi (pa_cons (pv 0) (pa_cons (pe_ty T.bool (by rfl) b_bool) pa_nil)))))))), ?_⟩
    obtain ⟨t, ty, ki, kb⟩ := PD.tyI (K := K) pd
    refine ⟨_, rfl, v, "int", t, _, rfl, ty, ki, _, rfl, ?_⟩
    cases ei : isI d with
    | true =>
      have eb : isB d = false := by cases d <;> first | (cases ei; done) | rfl
      refine iteT ⟨_, rfl, v, "bool", t, _, rfl, ty, kb, _, rfl, ?_⟩
      rw [eb]
      rw [ei] at q
      exact q
    | false =>
      rw [ei] at q
      cases eb : isB d with
      | true =>
        refine iteT ⟨_, rfl, v, "bool", t, _, rfl, ty, kb, _, rfl, ?_⟩
        rw [eb]
        exact q
      | false => exact iteF q
def spCell (K : PySem.W.Frag) : Sp := fun vs H Q _ => ∃ (a : Addr) (ns : List Int) (k : Int), vs = [.ref a, .int k] ∧ SqL K H a (ns.map V.int) ∧ 0 ≤ k ∧ ∀ c, Q (.int c) H
def spMixed : Sp := fun vs H Q _ => ∃ (c k : Int), vs = [.int c, .int k] ∧ 0 ≤ k ∧ k ≤ 100 ∧ ∀ n, 0 ≤ n → Q (.int n) H
theorem sc_cell : FnScope ["_law_script", "_law_k"] ["_law_script", "_law_k"] (defScope s_l_cell_at) := ⟨rfl, rfl, rfl, by decide +kernel, rfl, by decide +kernel, by decide +kernel⟩
theorem ok_cell {f : Addr} {fd : FuncData} (F : Fun K "_law_cell_at" "_law_cell_at" s_l_cell_at f fd) (T : Txt K mg) : FnOk P w K mg base CX0 1 f fd ["_law_script", "_law_k"] (spCell K) := by
  refine F.ok sc_cell (fun vs H Q E h => ?_) (fun cdv A outer s H vs Q E hr h => ?_)
  · obtain ⟨a, ns, k, rfl, _⟩ := h
    rfl
  · obtain ⟨a, ns, k, rfl, hS, hk, q⟩ := h
    refine ⟨_, pss_cons (ps_if (pt_cmpR op_lt (pv 1) (pe_callB call_len_seq (by rfl) T.len b_len (pa_cons (pv 0) pa_nil)) (nomark _)) (pss_one (ps_ret (pe_ix ix_list (pv 0) (pv 1) (fun _ _ => rfl)))) pss_nil) (pss_one (ps_ret pe_int)), ?_⟩
    refine ⟨_, rfl, _, rfl, a, _, rfl, .inl hS, _, _, rfl, rfl, _, rfl, ite2 (fun h => ?_) (fun h => q 0)⟩
    obtain ⟨n, rfl⟩ := Int.eq_ofNat_of_zero_le hk
    have hn : n < ns.length := by
      have := of_decide_eq_true h
      rw [List.length_map] at this
      omega
    exact ⟨_, rfl, _, rfl, a, _, _, _, rfl, rfl, hS, atI_nat (v := V.int ns[n]) (by simp [hn]), q _⟩

theorem sc_mixed : FnScope ["_law_cell", "_law_k", "_law_number", "_law_time"] ["_law_cell", "_law_k"] (defScope s_l_mixed) := ⟨rfl, rfl, rfl, by decide +kernel, rfl, by decide +kernel, by decide +kernel⟩
theorem ok_mixed {f : Addr} {fd : FuncData} (F : Fun K "_law_mixed" "_law_mixed" s_l_mixed f fd) (T : Txt K mg) : FnOk P w K mg base CX0 1 f fd ["_law_cell", "_law_k"] spMixed := by
  refine F.ok sc_mixed (fun vs H Q E h => ?_) (fun cdv A outer s H vs Q E hr h => ?_)
  · obtain ⟨c, k, rfl, _⟩ := h
    rfl
  · obtain ⟨c, k, rfl, hk, hk2, q⟩ := h
    refine ⟨_, pss_cons (ps_if (pt_cmpR op_eq (pe_op op_mod (pv 0) pe_int) pe_int (nomark _))
        (pss_cons (ps_set (i := 2) sc_mixed.nd rfl (Or.inl rfl) (pe_op op_fdiv (pe_callB call_abs (by rfl) T.abs b_abs (pa_cons (pv 0) pa_nil)) pe_int))
        (pss_cons (ps_for PassesOwn.never rfl (pi_range1 rfl T.range (pa_cons (pv 1) pa_nil)) (pg_name (i := 3) sc_mixed.nd rfl (Or.inl rfl))
          (pss_one (ps_set (i := 2) sc_mixed.nd rfl (Or.inl rfl) (pe_op op_fdivB (pv 2) (pe_op op_pow pe_int pe_int)))))
        (pss_one (ps_ret (pv 2))))) pss_nil)
      (pss_cons (ps_set (i := 2) sc_mixed.nd rfl (Or.inl rfl) (pe_op op_mod (pe_op op_add (pv 0) (pe_op op_mul pe_int (pv 1))) pe_int))
      (pss_cons (ps_set (i := 2) sc_mixed.nd rfl (Or.inl rfl) (pe_op op_mod (pe_op op_add (pe_op op_add (pe_op op_mul (pv 2) (pv 2)) (pe_op op_mul pe_int (pv 2))) (pv 1)) pe_int))
      (pss_one (ps_ret (pe_op op_mod (pe_op op_mul (pv 2) (pv 2)) pe_int))))), ?_⟩
    refine ⟨_, rfl, _, _, rfl, rfl, (by show (0 : Int) < 2; decide), rfl, _, rfl, ite2 (fun _ => ?_) (fun _ => ?_)⟩
    · refine ⟨_, rfl, c, rfl, _, _, rfl, rfl, ⟨by decide, by decide⟩, ?_⟩
      refine ⟨_, rfl, k, rfl, by omega, by omega, for_range (n := k.toNat) (fun i σ' H' => H' = H ∧ ∃ (n : Int) (t : Option V), 0 ≤ n ∧ σ' = [some (.int c), some (.int k), some (.int n), t]) ?_ ?_ ?_⟩
      · refine ⟨rfl, _, _, ?_, rfl⟩
        refine Int.ediv_nonneg ?_ (by decide)
        split <;> omega
      · rintro i σ' H' hi ⟨rfl, n, t, hn, rfl⟩
        refine ⟨_, rfl, _, _, rfl, rfl, ⟨by decide, by decide, by decide⟩, _, _, rfl, rfl, ⟨by decide, by decide +kernel⟩, rfl, _, _, ?_, rfl⟩
        exact Int.ediv_nonneg hn (by decide)
      · rintro σ' H' ⟨rfl, n, t, hn, rfl⟩
        exact ⟨_, rfl, q n hn⟩
    · refine ⟨_, rfl, _, rfl, _, _, rfl, rfl, .inl ⟨by decide, by decide⟩, _, _, rfl, rfl, _, _, rfl, rfl, (by show (0 : Int) < 2147483629; decide), ?_⟩
      generalize hn : (c + 7919 * k) % 2147483629 = n
      have h1 : 0 ≤ n := by omega
      have h2 : n < 2147483629 := by omega
      refine ⟨_, rfl, _, rfl, _, _, rfl, rfl, .inl ⟨by omega, by omega⟩, _, rfl, _, _, rfl, rfl, .inl ⟨by decide, by decide⟩, _, _, rfl, rfl, _, rfl, _, _, rfl, rfl, _, _, rfl, rfl, (by show (0 : Int) < 2147483629; decide), ?_⟩
      generalize hm : (n * n + 16807 * n + k) % 2147483629 = m
      have h3 : 0 ≤ m := by omega
      have h4 : m < 2147483629 := by omega
      refine ⟨_, rfl, _, rfl, _, _, rfl, rfl, .inl ⟨by omega, by omega⟩, _, _, rfl, rfl, (by show (0 : Int) < 2147483587; decide), ?_⟩
      exact q _ (Int.emod_nonneg _ (by decide))

end
end Net

namespace Net
open PySem L2
/-! ### the texts of papers: mathematics -/
section
variable (shA : PyData → List Nat)
mutual
def showP : PyData → List Nat
  | .list ds => 91 :: (showJ ds ++ [93])
  | .none => shA .none
  | .bool b => shA (.bool b)
  | .int i => shA (.int i)
  | .str s => shA (.str s)
  | .tuple xs => shA (.tuple xs)
  | .dict kvs => shA (.dict kvs)
def showJ : List PyData → List Nat
  | [] => []
  | d :: ds => showP d ++ showR ds
def showR : List PyData → List Nat
  | [] => []
  | d :: ds => 32 :: (showP d ++ showR ds)
end
mutual
def toksP : PyData → List (List Nat)
  | .list ds => [91] :: (toksJ ds ++ [[93]])
  | .none => [shA .none]
  | .bool b => [shA (.bool b)]
  | .int i => [shA (.int i)]
  | .str s => [shA (.str s)]
  | .tuple xs => [shA (.tuple xs)]
  | .dict kvs => [shA (.dict kvs)]
def toksJ : List PyData → List (List Nat)
  | [] => []
  | d :: ds => toksP d ++ toksR ds
def toksR : List PyData → List (List Nat)
  | [] => []
  | d :: ds => [32] :: (toksP d ++ toksR ds)
end
end
/-- a sign that is a word by itself -/
def lone (c : Nat) : Bool := c == 91 || c == 93 || c == 32
def flushW (w : List Nat) : List (List Nat) := if w = [] then [] else [w]
def partA : List Nat → List Nat → List (List Nat)
  | w, [] => flushW w
  | w, c :: r => if lone c = true then flushW w ++ [c] :: partA [] r else partA (w ++ [c]) r
theorem part_flat : ∀ (t w : List Nat), (partA w t).flatten = w ++ t
  | [], w => by
    show (flushW w).flatten = w ++ []
    unfold flushW
    split
    · rename_i h; rw [h]; rfl
    · simp
  | c :: r, w => by
    unfold partA
    split
    · have e : (flushW w).flatten = w := by
        unfold flushW
        split
        · rename_i h; rw [h]; rfl
        · simp
      rw [List.flatten_append, List.flatten_cons, part_flat r [], e]
      rfl
    · rw [part_flat r (w ++ [c]), List.append_assoc]
      rfl
/-- a word runs on to the next lone sign -/
theorem part_word : ∀ (v w r : List Nat), (∀ c ∈ v, lone c = false) → partA w (v ++ r) = partA (w ++ v) r
  | [], w, r, _ => by rw [List.append_nil]; rfl
  | c :: v, w, r, h => by
    show partA w (c :: (v ++ r)) = _
    have e : partA w (c :: (v ++ r)) = partA (w ++ [c]) (v ++ r) := by
      conv => lhs; unfold partA
      rw [if_neg (by rw [h c List.mem_cons_self]; exact Bool.false_ne_true)]
    rw [e, part_word v (w ++ [c]) r fun x hx => h x (List.mem_cons_of_mem _ hx), List.append_assoc]
    rfl
/-- what stands behind a paper: nothing, or a lone sign -/
def Stop (r : List Nat) : Prop := r = [] ∨ ∃ c t, r = c :: t ∧ lone c = true
theorem part_atom {v r : List Nat} (hv : v ≠ []) (h : ∀ c ∈ v, lone c = false) (st : Stop r) : partA [] (v ++ r) = v :: partA [] r := by
  rw [part_word v [] r h]
  rcases st with rfl | ⟨c, t, rfl, hc⟩
  · show flushW ([] ++ v) = v :: flushW []
    unfold flushW
    rw [List.nil_append, if_neg hv]
    rfl
  · show partA ([] ++ v) (c :: t) = v :: partA [] (c :: t)
    unfold partA
    rw [if_pos hc, if_pos hc]
    unfold flushW
    rw [List.nil_append, if_neg hv]
    rfl
theorem part_lone {c : Nat} {r : List Nat} (hc : lone c = true) : partA [] (c :: r) = [c] :: partA [] r := by
  show (if lone c = true then flushW [] ++ [c] :: partA [] r else _) = _
  rw [if_pos hc]
  rfl
def isAt : PyData → Bool
  | .int _ => true
  | .str _ => true
  | _ => false
section
variable {shA : PyData → List Nat} {atom : List Nat → Option PyData}
/-- whole numbers and names of the right kind, at most n lists deep -/
def VP (shA : PyData → List Nat) (atom : List Nat → Option PyData) : Nat → PyData → Prop
  | 0, .list _ => False
  | n + 1, .list ds => ∀ x ∈ ds, VP shA atom n x
  | _, d => isAt d = true ∧ atom (shA d) = some d
theorem VP.at {n : Nat} {d : PyData} (h : isAt d = true) (e : atom (shA d) = some d) : VP shA atom n d := by
  cases n <;> cases d <;> first | exact ⟨h, e⟩ | cases h
theorem VP.get {n : Nat} {d : PyData} (h : VP shA atom n d) : (isAt d = true ∧ atom (shA d) = some d) ∨ ∃ m ds, n = m + 1 ∧ d = .list ds ∧ ∀ x ∈ ds, VP shA atom m x := by
  cases n with
  | zero => cases d <;> first | exact .inl h | exact h.elim
  | succ n => cases d <;> first | exact .inl h | exact .inr ⟨n, _, rfl, rfl, h⟩
theorem show_at {d : PyData} (h : isAt d = true) : showP shA d = shA d := by cases d <;> first | (unfold showP; rfl) | cases h
theorem toks_at {d : PyData} (h : isAt d = true) : toksP shA d = [shA d] := by cases d <;> first | (unfold toksP; rfl) | cases h
theorem show_list (ds : List PyData) : showP shA (.list ds) = 91 :: (showJ shA ds ++ [93]) := by unfold showP; rfl
theorem toks_list (ds : List PyData) : toksP shA (.list ds) = [91] :: (toksJ shA ds ++ [[93]]) := by unfold toksP; rfl
theorem showJ_cons (d : PyData) (ds : List PyData) : showJ shA (d :: ds) = showP shA d ++ showR shA ds := by unfold showJ; rfl
theorem toksJ_cons (d : PyData) (ds : List PyData) : toksJ shA (d :: ds) = toksP shA d ++ toksR shA ds := by unfold toksJ; rfl
theorem showR_cons (d : PyData) (ds : List PyData) : showR shA (d :: ds) = 32 :: (showP shA d ++ showR shA ds) := by conv => lhs; unfold showR
theorem toksR_cons (d : PyData) (ds : List PyData) : toksR shA (d :: ds) = [32] :: (toksP shA d ++ toksR shA ds) := by conv => lhs; unfold toksR
theorem showJ_nil : showJ shA [] = [] := by unfold showJ; rfl
theorem toksJ_nil : toksJ shA [] = [] := by unfold toksJ; rfl
theorem showR_nil : showR shA [] = [] := by unfold showR; rfl
theorem toksR_nil : toksR shA [] = [] := by unfold toksR; rfl
theorem showR_snoc (d : PyData) : ∀ (ds : List PyData), showR shA (ds ++ [d]) = showR shA ds ++ 32 :: showP shA d
  | [] => by rw [List.nil_append, showR_cons, showR_nil, List.append_nil]; rfl
  | e :: ds => by
    rw [List.cons_append, showR_cons, showR_snoc d ds, showR_cons, ← List.append_assoc]
    rfl
theorem showJ_snoc (d : PyData) : ∀ (ds : List PyData), showJ shA (ds ++ [d]) = if ds = [] then showP shA d else showJ shA ds ++ 32 :: showP shA d
  | [] => by rw [List.nil_append, showJ_cons, showR_nil, List.append_nil, if_pos rfl]
  | e :: ds => by rw [List.cons_append, showJ_cons, showR_snoc d ds, showJ_cons, if_neg (List.cons_ne_nil _ _), List.append_assoc]
/-- words of the right kind: the one text of a thing, and no lone sign in it -/
structure AtomOk (shA : PyData → List Nat) (atom : List Nat → Option PyData) : Prop where
  back : ∀ w d, atom w = some d → isAt d = true ∧ shA d = w
  ne : ∀ w d, atom w = some d → w ≠ []
  no : ∀ w d, atom w = some d → ∀ c ∈ w, lone c = false
mutual
theorem part_show (A : AtomOk shA atom) : ∀ (n : Nat) (d : PyData) (r : List Nat), VP shA atom n d → Stop r → partA [] (showP shA d ++ r) = toksP shA d ++ partA [] r
  | n, d, r, h, st => by
    rcases h.get with ⟨h1, h2⟩ | ⟨m, ds, rfl, rfl, h1⟩
    · rw [show_at h1, toks_at h1]
      exact part_atom (A.ne _ _ h2) (A.no _ _ h2) st
    · rw [show_list, toks_list]
      show partA [] (91 :: (showJ shA ds ++ [93] ++ r)) = _
      rw [part_lone (by rfl), List.append_assoc, part_showJ A m ds ([93] ++ r) h1 (.inr ⟨93, r, rfl, rfl⟩)]
      show [91] :: (toksJ shA ds ++ partA [] (93 :: r)) = _
      rw [part_lone (by rfl)]
      show _ = [91] :: (toksJ shA ds ++ [[93]] ++ partA [] r)
      rw [List.append_assoc]
      rfl
  termination_by n d => (n, 0, 1)
theorem part_showJ (A : AtomOk shA atom) : ∀ (n : Nat) (ds : List PyData) (r : List Nat), (∀ x ∈ ds, VP shA atom n x) → Stop r → partA [] (showJ shA ds ++ r) = toksJ shA ds ++ partA [] r
  | n, [], r, _, st => by rw [showJ_nil, toksJ_nil]; rfl
  | n, d :: ds, r, h, st => by
    have st2 : Stop (showR shA ds ++ r) := by
      cases ds with
      | nil => rw [showR_nil]; exact st
      | cons e es => rw [showR_cons]; exact .inr ⟨32, _, rfl, rfl⟩
    rw [showJ_cons, toksJ_cons, List.append_assoc, part_show A n d _ (h d List.mem_cons_self) st2, part_showR A n ds r (fun x hx => h x (List.mem_cons_of_mem _ hx)) st, List.append_assoc]
  termination_by n ds => (n, ds.length + 1, 2)
theorem part_showR (A : AtomOk shA atom) : ∀ (n : Nat) (ds : List PyData) (r : List Nat), (∀ x ∈ ds, VP shA atom n x) → Stop r → partA [] (showR shA ds ++ r) = toksR shA ds ++ partA [] r
  | n, [], r, _, st => by rw [showR_nil, toksR_nil]; rfl
  | n, d :: ds, r, h, st => by
    have st2 : Stop (showR shA ds ++ r) := by
      cases ds with
      | nil => rw [showR_nil]; exact st
      | cons e es => rw [showR_cons]; exact .inr ⟨32, _, rfl, rfl⟩
    rw [showR_cons, toksR_cons]
    show partA [] (32 :: (showP shA d ++ showR shA ds ++ r)) = _
    rw [part_lone (by rfl), List.append_assoc, part_show A n d _ (h d List.mem_cons_self) st2, part_showR A n ds r (fun x hx => h x (List.mem_cons_of_mem _ hx)) st]
    show _ = [32] :: (toksP shA d ++ toksR shA ds ++ partA [] r)
    rw [List.append_assoc]
  termination_by n ds => (n, ds.length + 1, 1)
end
/-! ### reading: with blanks looked at, and without -/
abbrev Fr := List (List PyData)
def addTop (d : PyData) : Fr → Fr
  | [] => []
  | top :: r => (top ++ [d]) :: r
def closeF : Fr → Option Fr
  | top :: b :: r => some ((b ++ [.list top]) :: r)
  | _ => none
def looseOk (fs : Fr) : Option Fr := if fs.length > 61 then none else some fs
def looseStep (atom : List Nat → Option PyData) (fs : Fr) (t : List Nat) : Option Fr :=
  if t = [91] then looseOk ([] :: fs) else if t = [93] then (closeF fs).bind looseOk else (atom t).bind fun d => looseOk (addTop d fs)
def looseRun (atom : List Nat → Option PyData) : Fr → List (List Nat) → Option Fr
  | fs, [] => some fs
  | fs, t :: ts => (looseStep atom fs t).bind fun fs' => looseRun atom fs' ts
/-- the one that looks at blanks: what is open, whether something is due -/
def topNe : Fr → Bool
  | (_ :: _) :: _ => true
  | _ => false
def oneMany : Fr → Bool
  | [x] => decide (x.length > 1)
  | _ => false
def strictOk (q : Fr × Bool) : Option (Fr × Bool) := if q.1.length > 61 ∨ oneMany q.1 = true then none else some q
def strictStep (atom : List Nat → Option PyData) (q : Fr × Bool) (t : List Nat) : Option (Fr × Bool) :=
  if t = [93] then (if q.1.length < 2 ∨ (q.2 = true ∧ topNe q.1 = true) then none else (closeF q.1).bind fun fs => strictOk (fs, false))
  else if t = [32] then (if q.2 = true ∨ q.1.length < 2 then none else strictOk (q.1, true))
  else if q.2 = false then none
  else if t = [91] then strictOk ([] :: q.1, true)
  else (atom t).bind fun d => strictOk (addTop d q.1, false)
def strictRun (atom : List Nat → Option PyData) : Fr × Bool → List (List Nat) → Option (Fr × Bool)
  | q, [] => some q
  | q, t :: ts => (strictStep atom q t).bind fun q' => strictRun atom q' ts
theorem strict_app (atom : List Nat → Option PyData) : ∀ (ts us : List (List Nat)) (q : Fr × Bool), strictRun atom q (ts ++ us) = (strictRun atom q ts).bind fun q' => strictRun atom q' us
  | [], us, q => rfl
  | t :: ts, us, q => by
    show (strictStep atom q t).bind (fun q' => strictRun atom q' (ts ++ us)) = ((strictStep atom q t).bind fun q' => strictRun atom q' ts).bind fun q' => strictRun atom q' us
    cases strictStep atom q t with
    | none => rfl
    | some q' => exact strict_app atom ts us q'
theorem strictOk_some {q q' : Fr × Bool} (h : strictOk q = some q') : q' = q ∧ q.1.length ≤ 61 ∧ oneMany q.1 = false := by
  unfold strictOk at h
  split at h
  · cases h
  · rename_i z
    refine ⟨(Option.some.inj h).symm, ?_, ?_⟩
    · exact Nat.not_lt.mp fun y => z (.inl y)
    · exact Bool.eq_false_iff.mpr fun y => z (.inr y)
theorem strictOk_of {q : Fr × Bool} (h1 : q.1.length ≤ 61) (h2 : oneMany q.1 = false) : strictOk q = some q := by
  unfold strictOk
  rw [if_neg]
  rintro (z | z)
  · omega
  · rw [h2] at z; cases z
theorem looseOk_of {fs : Fr} (h : fs.length ≤ 61) : looseOk fs = some fs := by
  unfold looseOk
  rw [if_neg (by omega)]
/-- the text that has been read -/
def mid91 (r : Fr) : List Nat := if r = [] then [] else [91]
def belowT (shA : PyData → List Nat) : Fr → List Nat
  | [] => []
  | f :: r => belowT shA r ++ (mid91 r ++ (showJ shA f ++ if f = [] then [] else [32]))
def txtT (shA : PyData → List Nat) : Fr → Bool → List Nat
  | [], _ => []
  | f :: r, due => belowT shA r ++ (mid91 r ++ (showJ shA f ++ if f = [] then [] else if due = true then [32] else []))
structure SI (q : Fr × Bool) : Prop where
  ne : q.1 ≠ []
  top : q.2 = false → topNe q.1 = true
  one : ∀ f, q.1 = [f] → q.2 = true → f = []
theorem SI.step (A : AtomOk shA atom) {q q' : Fr × Bool} {t : List Nat} (I : SI q) (h : strictStep atom q t = some q') : SI q' ∧ txtT shA q'.1 q'.2 = txtT shA q.1 q.2 ++ t ∧ (if t = [32] then q'.1 = q.1 else looseStep atom q.1 t = some q'.1) := by
  obtain ⟨fs, due⟩ := q
  unfold strictStep at h
  by_cases h93 : t = [93]
  · subst h93
    rw [if_pos rfl] at h
    split at h
    · cases h
    · rename_i hn
      match fs, hn, h, I with
      | [], hn, _, _ => exact absurd (.inl (by show 0 < 2; decide)) hn
      | [_], hn, _, _ => exact absurd (.inl (by show 1 < 2; decide)) hn
      | top :: b :: r, hn, h, I =>
        obtain ⟨e, h1, h2⟩ := strictOk_some h
        subst e
        refine ⟨⟨List.cons_ne_nil _ _, fun _ => ?_, fun f _ z => nomatch z⟩, ?_, ?_⟩
        · show topNe ((b ++ [PyData.list top]) :: r) = true
          cases b <;> rfl
        · have et : (if top = [] then ([] : List Nat) else if due = true then [32] else []) = [] := by
            by_cases z : top = []
            · rw [if_pos z]
            · rw [if_neg z]
              cases due with
              | false => rfl
              | true =>
                refine absurd (.inr ⟨rfl, ?_⟩) hn
                cases top with
                | nil => exact absurd rfl z
                | cons _ _ => rfl
          have en : ¬ b ++ [PyData.list top] = [] := by simp
          show belowT shA r ++ (mid91 r ++ (showJ shA (b ++ [PyData.list top]) ++ if b ++ [PyData.list top] = [] then [] else if false = true then [32] else [])) = (belowT shA r ++ (mid91 r ++ (showJ shA b ++ if b = [] then [] else [32]))) ++ ([91] ++ (showJ shA top ++ if top = [] then [] else if due = true then [32] else [])) ++ [93]
          rw [et, if_neg en, if_neg Bool.false_ne_true, showJ_snoc, show_list]
          by_cases hb : b = []
          · rw [if_pos hb, if_pos hb, hb, showJ_nil]
            simp [List.append_assoc]
          · rw [if_neg hb, if_neg hb]
            simp [List.append_assoc]
        · rw [if_neg (by decide)]
          show (if ([93] : List Nat) = [91] then _ else if ([93] : List Nat) = [93] then (closeF (top :: b :: r)).bind looseOk else _) = _
          rw [if_neg (by decide), if_pos rfl]
          exact looseOk_of h1
  rw [if_neg h93] at h
  by_cases h32 : t = [32]
  · subst h32
    rw [if_pos rfl] at h
    split at h
    · cases h
    · rename_i hn
      obtain ⟨e, h1, h2⟩ := strictOk_some h
      subst e
      cases due with
      | true => exact absurd (.inl rfl) hn
      | false =>
        have ht := I.top rfl
        refine ⟨⟨I.ne, (fun z => nomatch z), fun f z _ => ?_⟩, ?_, by rw [if_pos rfl]⟩
        · have z' : fs = [f] := z
          subst z'
          exact absurd (.inr (by show 1 < 2; decide)) hn
        · match fs, ht with
          | (x :: f) :: r, _ =>
            show belowT shA r ++ (mid91 r ++ (showJ shA (x :: f) ++ [32])) = (belowT shA r ++ (mid91 r ++ (showJ shA (x :: f) ++ []))) ++ [32]
            simp [List.append_assoc]
  rw [if_neg h32] at h
  split at h
  · cases h
  · rename_i hd
    have hd' : due = true := by
      cases due with
      | true => rfl
      | false => exact absurd rfl hd
    subst hd'
    by_cases h91 : t = [91]
    · subst h91
      rw [if_pos rfl] at h
      obtain ⟨e, h1, h2⟩ := strictOk_some h
      subst e
      refine ⟨⟨List.cons_ne_nil _ _, (fun z => nomatch z), fun f z _ => (List.cons.inj z).1.symm⟩, ?_, ?_⟩
      · match fs, I.ne with
        | f :: r, _ =>
          show belowT shA (f :: r) ++ (mid91 (f :: r) ++ (showJ shA [] ++ [])) = txtT shA (f :: r) true ++ [91]
          rw [showJ_nil]
          show belowT shA (f :: r) ++ ([91] ++ ([] ++ [])) = _
          show belowT shA r ++ (mid91 r ++ (showJ shA f ++ if f = [] then [] else [32])) ++ ([91] ++ ([] ++ [])) = belowT shA r ++ (mid91 r ++ (showJ shA f ++ if f = [] then [] else [32])) ++ [91]
          rfl
      · rw [if_neg (by decide)]
        show (if ([91] : List Nat) = [91] then looseOk ([] :: fs) else _) = _
        rw [if_pos rfl]
        exact looseOk_of h1
    · rw [if_neg h91] at h
      cases ea : atom t with
      | none => rw [ea] at h; cases h
      | some d =>
        rw [ea] at h
        obtain ⟨e, h1, h2⟩ := strictOk_some (show strictOk (addTop d fs, false) = some q' from h)
        subst e
        obtain ⟨a1, a2⟩ := A.back t d ea
        match fs, I.ne, h1, h2, I with
        | f :: r, _, h1, h2, I =>
          refine ⟨⟨List.cons_ne_nil _ _, fun _ => ?_, fun f _ z => nomatch z⟩, ?_, ?_⟩
          · show topNe ((f ++ [d]) :: r) = true
            cases f <;> rfl
          · have en : ¬ f ++ [d] = [] := by simp
            show belowT shA r ++ (mid91 r ++ (showJ shA (f ++ [d]) ++ if f ++ [d] = [] then [] else if false = true then [32] else [])) = (belowT shA r ++ (mid91 r ++ (showJ shA f ++ if f = [] then [] else [32]))) ++ t
            rw [if_neg en, if_neg Bool.false_ne_true, showJ_snoc, show_at a1, a2]
            by_cases hb : f = []
            · rw [if_pos hb, if_pos hb, hb, showJ_nil]
              simp [List.append_assoc]
            · rw [if_neg hb, if_neg hb]
              simp [List.append_assoc]
          · rw [if_neg h32]
            show (if t = [91] then _ else if t = [93] then _ else (atom t).bind fun d => looseOk (addTop d (f :: r))) = _
            rw [if_neg h91, if_neg h93, ea]
            exact looseOk_of h1
theorem strict_says (A : AtomOk shA atom) : ∀ {ts : List (List Nat)} {q q' : Fr × Bool}, SI q → strictRun atom q ts = some q' → SI q' ∧ txtT shA q'.1 q'.2 = txtT shA q.1 q.2 ++ ts.flatten ∧ looseRun atom q.1 (ts.filter fun t => decide (t ≠ [32])) = some q'.1
  | [], q, q', I, h => by
    cases h
    exact ⟨I, by simp, rfl⟩
  | t :: ts, q, q', I, h => by
    have h' : (strictStep atom q t).bind (fun q' => strictRun atom q' ts) = some q' := h
    cases e : strictStep atom q t with
    | none => rw [e] at h'; cases h'
    | some q1 =>
      rw [e] at h'
      obtain ⟨I1, t1, l1⟩ := I.step A e
      obtain ⟨I2, t2, l2⟩ := strict_says A I1 h'
      refine ⟨I2, by rw [t2, t1, List.flatten_cons, List.append_assoc], ?_⟩
      by_cases h32 : t = [32]
      · rw [if_pos h32] at l1
        rw [List.filter_cons_of_neg (by simp [h32]), ← l1]
        exact l2
      · rw [if_neg h32] at l1
        rw [List.filter_cons_of_pos (by simp [h32])]
        show (looseStep atom q.1 t).bind _ = _
        rw [l1]
        exact l2
/-- a thing of the right kind is read where something is due -/
def room1 (fs : Fr) : Prop := fs = [[]] ∨ 2 ≤ fs.length
theorem add_ok {d : PyData} {fs : Fr} (h : room1 fs) : oneMany (addTop d fs) = false := by
  rcases h with rfl | h
  · rfl
  · match fs, h with
    | f :: g :: r, _ => rfl
theorem add_len {d : PyData} {fs : Fr} : (addTop d fs).length = fs.length := by cases fs <;> rfl
mutual
theorem strict_show (A : AtomOk shA atom) : ∀ (n : Nat) (d : PyData) (fs : Fr), VP shA atom n d → room1 fs → fs.length + n ≤ 61 → strictRun atom (fs, true) (toksP shA d) = some (addTop d fs, false)
  | n, d, fs, h, hr, hl => by
    rcases h.get with ⟨h1, h2⟩ | ⟨m, ds, rfl, rfl, h1⟩
    · rw [toks_at h1]
      have n3 : ∀ c : Nat, lone c = true → ¬ shA d = [c] := fun c hc z => by
        have := A.no _ _ h2 c (by rw [z]; exact List.mem_cons_self)
        rw [hc] at this
        cases this
      show (strictStep atom (fs, true) (shA d)).bind _ = _
      unfold strictStep
      rw [if_neg (n3 93 rfl), if_neg (n3 32 rfl), if_neg (by intro z; cases z), if_neg (n3 91 rfl), h2]
      show (strictOk (addTop d fs, false)).bind _ = _
      rw [strictOk_of (by show (addTop d fs).length ≤ 61; rw [add_len]; omega) (add_ok hr)]
      rfl
    · rw [toks_list]
      show (strictStep atom (fs, true) [91]).bind (fun q => strictRun atom q (toksJ shA ds ++ [[93]])) = _
      have e1 : strictStep atom (fs, true) [91] = some ([] :: fs, true) := by
        unfold strictStep
        rw [if_neg (by decide), if_neg (by decide), if_neg (by intro z; cases z), if_pos rfl]
        refine strictOk_of (by show fs.length + 1 ≤ 61; omega) ?_
        rcases hr with rfl | h
        · rfl
        · match fs, h with
          | f :: g :: r, _ => rfl
      have hne : fs ≠ [] := by
        rcases hr with rfl | h
        · exact List.cons_ne_nil _ _
        · intro z; rw [z] at h; exact absurd h (by decide)
      rw [e1]
      show strictRun atom ([] :: fs, true) (toksJ shA ds ++ [[93]]) = _
      obtain ⟨due, e2, hdue⟩ := strict_showJ A m ds fs h1 hne (by omega)
      rw [strict_app, e2]
      show (strictStep atom (ds :: fs, due) [93]).bind _ = _
      have e3 : strictStep atom (ds :: fs, due) [93] = some (addTop (.list ds) fs, false) := by
        match fs, hne, hr, hl with
        | b :: r, _, hr, hl =>
          unfold strictStep
          rw [if_pos rfl, if_neg]
          · show strictOk (addTop (.list ds) (b :: r), false) = _
            exact strictOk_of (by show (addTop (.list ds) (b :: r)).length ≤ 61; rw [add_len]; omega) (add_ok hr)
          · rintro (z | ⟨z1, z2⟩)
            · have z' : r.length + 1 + 1 < 2 := z
              omega
            · have := hdue z1
              subst this
              cases z2
      rw [e3]
      rfl
  termination_by n d => (n, 0, 1)
theorem strict_showJ (A : AtomOk shA atom) : ∀ (n : Nat) (ds : List PyData) (fs : Fr), (∀ x ∈ ds, VP shA atom n x) → fs ≠ [] → fs.length + 1 + n ≤ 61 → ∃ due, strictRun atom ([] :: fs, true) (toksJ shA ds) = some (ds :: fs, due) ∧ (due = true → ds = [])
  | n, [], fs, _, _, _ => ⟨true, by rw [toksJ_nil]; rfl, fun _ => rfl⟩
  | n, d :: ds, fs, h, hne, hl => by
    have hr : room1 ([] :: fs) := .inr (by
      have : 0 < fs.length := List.length_pos_iff.mpr hne
      show 2 ≤ fs.length + 1
      omega)
    refine ⟨false, ?_, (fun z => nomatch z)⟩
    rw [toksJ_cons, strict_app, strict_show A n d ([] :: fs) (h d List.mem_cons_self) hr (by show fs.length + 1 + n ≤ 61; exact hl)]
    show strictRun atom ([d] :: fs, false) (toksR shA ds) = _
    exact strict_showR A n ds [d] fs (fun x hx => h x (List.mem_cons_of_mem _ hx)) hne (List.cons_ne_nil _ _) hl
  termination_by n ds => (n, ds.length + 1, 2)
theorem strict_showR (A : AtomOk shA atom) : ∀ (n : Nat) (ds f : List PyData) (fs : Fr), (∀ x ∈ ds, VP shA atom n x) → fs ≠ [] → f ≠ [] → fs.length + 1 + n ≤ 61 → strictRun atom (f :: fs, false) (toksR shA ds) = some ((f ++ ds) :: fs, false)
  | n, [], f, fs, _, _, _, _ => by rw [toksR_nil, List.append_nil]; rfl
  | n, d :: ds, f, fs, h, hne, hf, hl => by
    have hr : room1 (f :: fs) := .inr (by
      have : 0 < fs.length := List.length_pos_iff.mpr hne
      show 2 ≤ fs.length + 1
      omega)
    rw [toksR_cons]
    show (strictStep atom (f :: fs, false) [32]).bind (fun q => strictRun atom q (toksP shA d ++ toksR shA ds)) = _
    have e1 : strictStep atom (f :: fs, false) [32] = some (f :: fs, true) := by
      unfold strictStep
      rw [if_neg (by decide), if_pos rfl, if_neg]
      · refine strictOk_of (by show fs.length + 1 ≤ 61; omega) ?_
        match fs, hne with
        | g :: r, _ => rfl
      · rintro (z | z)
        · cases z
        · have z' : fs.length + 1 < 2 := z
          have : 0 < fs.length := List.length_pos_iff.mpr hne
          omega
    rw [e1]
    show strictRun atom (f :: fs, true) (toksP shA d ++ toksR shA ds) = _
    rw [strict_app, strict_show A n d (f :: fs) (h d List.mem_cons_self) hr (by show fs.length + 1 + n ≤ 61; exact hl)]
    show strictRun atom ((f ++ [d]) :: fs, false) (toksR shA ds) = _
    rw [strict_showR A n ds (f ++ [d]) fs (fun x hx => h x (List.mem_cons_of_mem _ hx)) hne (by simp) hl, List.append_assoc]
    rfl
  termination_by n ds => (n, ds.length + 1, 1)
end
/-- what is read without looking at blanks is of the right kind -/
def FV (shA : PyData → List Nat) (atom : List Nat → Option PyData) : Fr → Prop
  | [] => True
  | f :: r => (∀ x ∈ f, VP shA atom (60 - r.length) x) ∧ r.length ≤ 60 ∧ FV shA atom r
theorem looseOk_some {fs fs' : Fr} (h : looseOk fs = some fs') : fs' = fs ∧ fs.length ≤ 61 := by
  unfold looseOk at h
  split at h
  · cases h
  · exact ⟨(Option.some.inj h).symm, by omega⟩
theorem loose_fv (A : AtomOk shA atom) : ∀ {ts : List (List Nat)} {fs fs' : Fr}, FV shA atom fs → fs ≠ [] → looseRun atom fs ts = some fs' → FV shA atom fs' ∧ fs' ≠ []
  | [], fs, fs', v, ne, h => by cases h; exact ⟨v, ne⟩
  | t :: ts, fs, fs', v, ne, h => by
    have h' : (looseStep atom fs t).bind (fun q => looseRun atom q ts) = some fs' := h
    cases e : looseStep atom fs t with
    | none => rw [e] at h'; cases h'
    | some f1 =>
      rw [e] at h'
      have step : FV shA atom f1 ∧ f1 ≠ [] := by
        unfold looseStep at e
        split at e
        · obtain ⟨rfl, hl⟩ := looseOk_some e
          have hl' : fs.length + 1 ≤ 61 := hl
          exact ⟨⟨(fun _ z => nomatch z), by omega, v⟩, List.cons_ne_nil _ _⟩
        · split at e
          · match fs, v, e with
            | [], _, e => cases e
            | [_], _, e => cases e
            | top :: b :: r, v, e =>
              obtain ⟨rfl, hl⟩ := looseOk_some (show looseOk ((b ++ [.list top]) :: r) = some f1 from e)
              obtain ⟨v1, v2, v3, v4, v5⟩ := v
              refine ⟨⟨fun x hx => ?_, v4, v5⟩, List.cons_ne_nil _ _⟩
              rcases List.mem_append.mp hx with hx | hx
              · exact v3 x hx
              · rw [List.mem_singleton.mp hx]
                have v2' : r.length + 1 ≤ 60 := v2
                obtain ⟨m, hm⟩ : ∃ m, 60 - r.length = m + 1 := ⟨60 - r.length - 1, by omega⟩
                rw [hm]
                show ∀ x ∈ top, VP shA atom m x
                intro y hy
                have := v1 y hy
                have em : 60 - (b :: r).length = m := by
                  show 60 - (r.length + 1) = m
                  omega
                rw [em] at this
                exact this
          · cases ea : atom t with
            | none => rw [ea] at e; cases e
            | some d =>
              rw [ea] at e
              obtain ⟨rfl, hl⟩ := looseOk_some (show looseOk (addTop d fs) = some f1 from e)
              obtain ⟨a1, a2⟩ := A.back t d ea
              match fs, v, ne with
              | f :: r, v, _ =>
                refine ⟨⟨fun x hx => ?_, v.2.1, v.2.2⟩, List.cons_ne_nil _ _⟩
                rcases List.mem_append.mp hx with hx | hx
                · exact v.1 x hx
                · rw [List.mem_singleton.mp hx]
                  exact VP.at a1 (by rw [a2]; exact ea)
      exact loose_fv A step.1 step.2 h'
theorem fv_last : ∀ {fs : Fr} {f : List PyData}, FV shA atom fs → fs.getLast? = some f → ∀ x ∈ f, VP shA atom 60 x
  | [], _, _, h => nomatch h
  | [g], f, v, h => by
    have : g = f := by simpa using h
    subst this
    exact v.1
  | g :: g2 :: r, f, v, h => fv_last (fs := g2 :: r) v.2.2 (by simpa using h)
/-- THE TWO READERS TELL THE SAME -/
theorem readers_same (A : AtomOk shA atom) {text : List Nat} {d : PyData} :
    (∃ due, strictRun atom ([[]], true) (partA [] text) = some ([[d]], due)) ↔ ∃ fs, looseRun atom [[]] ((partA [] text).filter fun t => decide (t ≠ [32])) = some fs ∧ fs.getLast? = some [d] ∧ showP shA d = text := by
  constructor
  · rintro ⟨due, h⟩
    have I0 : SI (([[]], true) : Fr × Bool) := ⟨List.cons_ne_nil _ _, (fun z => nomatch z), fun f z _ => (List.cons.inj z).1.symm⟩
    obtain ⟨I, t, l⟩ := strict_says A I0 h
    refine ⟨[[d]], l, rfl, ?_⟩
    have hd : due = false := by
      cases due with
      | false => rfl
      | true => exact absurd (I.one [d] rfl rfl) (List.cons_ne_nil _ _)
    subst hd
    rw [part_flat] at t
    have e1 : txtT shA [[d]] false = showP shA d := by
      show [] ++ ([] ++ (showJ shA [d] ++ [])) = _
      rw [showJ_cons, showR_nil]
      simp
    have e0 : txtT shA [[]] true = [] := by
      show [] ++ ([] ++ (showJ shA [] ++ [])) = _
      rw [showJ_nil]
      rfl
    have t' : txtT shA [[d]] false = txtT shA [[]] true ++ ([] ++ text) := t
    rw [e1, e0] at t'
    simpa using t'
  · rintro ⟨fs, h1, h2, h3⟩
    have v0 : FV shA atom [[]] := ⟨(fun _ z => nomatch z), by decide, trivial⟩
    have v := loose_fv A v0 (List.cons_ne_nil _ _) h1
    have vd : VP shA atom 60 d := fv_last v.1 h2 d List.mem_cons_self
    have e : partA [] text = toksP shA d := by
      have := part_show A 60 d [] vd (.inl rfl)
      rw [List.append_nil, h3] at this
      rw [this]
      show toksP shA d ++ flushW [] = _
      unfold flushW
      rw [if_pos rfl, List.append_nil]
    refine ⟨false, ?_⟩
    rw [e, strict_show A 60 d [[]] vd (.inl rfl) (by decide)]
    rfl
end
end Net

namespace Net
open PySem L2
/-! ### a text cut at a sign, a sign put in the place of another -/
def mkS (l : List Nat) : Str := ⟨l.toArray⟩
theorem cps_mkS (x : Str) : mkS x.cps.toList = x := by
  obtain ⟨a⟩ := x
  rfl
def cutA (c : Nat) : List Nat → List Nat → List (List Nat)
  | w, [] => [w]
  | w, d :: r => if d = c then w :: cutA c [] r else cutA c (w ++ [d]) r
theorem cutA_ne (c : Nat) : ∀ (l w : List Nat), cutA c w l ≠ []
  | [], w => List.cons_ne_nil _ _
  | d :: r, w => by
    unfold cutA
    split
    · exact List.cons_ne_nil _ _
    · exact cutA_ne c r _
theorem cutA_free (c : Nat) : ∀ (l w : List Nat), c ∉ w → ∀ p ∈ cutA c w l, c ∉ p
  | [], w, h, p, hp => by
    rw [List.mem_singleton.mp hp]
    exact h
  | d :: r, w, h, p, hp => by
    unfold cutA at hp
    split at hp
    · rcases List.mem_cons.mp hp with rfl | hp
      · exact h
      · exact cutA_free c r [] (by simp) p hp
    · rename_i hd
      refine cutA_free c r (w ++ [d]) ?_ p hp
      intro z
      rcases List.mem_append.mp z with z | z
      · exact h z
      · exact hd (List.mem_singleton.mp z).symm
/-- put together again with z in between -/
def glueL (z : List Nat) : List (List Nat) → List Nat
  | [] => []
  | [p] => p
  | p :: q :: r => p ++ (z ++ glueL z (q :: r))
theorem glueL_cons (z p : List Nat) {ps : List (List Nat)} (h : ps ≠ []) : glueL z (p :: ps) = p ++ (z ++ glueL z ps) := by
  cases ps with
  | nil => exact absurd rfl h
  | cons _ _ => rfl
def replL (c : Nat) (z : List Nat) (l : List Nat) : List Nat := l.flatMap fun d => if d = c then z else [d]
theorem glue_cut (c : Nat) (z : List Nat) : ∀ (l w : List Nat), glueL z (cutA c w l) = w ++ replL c z l
  | [], w => by
    show w = w ++ []
    rw [List.append_nil]
  | d :: r, w => by
    unfold cutA
    split
    · rename_i hd
      rw [glueL_cons z w (cutA_ne c r []), glue_cut c z r []]
      show _ = w ++ ((if d = c then z else [d]) ++ replL c z r)
      rw [if_pos hd]
      rfl
    · rename_i hd
      rw [glue_cut c z r (w ++ [d])]
      show _ = w ++ ((if d = c then z else [d]) ++ replL c z r)
      rw [if_neg hd, List.append_assoc]
theorem repl_same (c : Nat) : ∀ l : List Nat, replL c [c] l = l
  | [] => rfl
  | d :: r => by
    show (if d = c then [c] else [d]) ++ replL c [c] r = _
    rw [repl_same c r]
    split
    · rename_i h; rw [h]; rfl
    · rfl
/-- the words of a text: blanks around brackets, cut at blanks, the empty ones left out -/
def spreadL (l : List Nat) : List Nat := replL 93 [32, 93, 32] (replL 91 [32, 91, 32] l)
theorem replL_cons (c : Nat) (z : List Nat) (d : Nat) (r : List Nat) : replL c z (d :: r) = (if d = c then z else [d]) ++ replL c z r := rfl
theorem replL_app (c : Nat) (z l m : List Nat) : replL c z (l ++ m) = replL c z l ++ replL c z m := List.flatMap_append
theorem spread_cons (d : Nat) (r : List Nat) : spreadL (d :: r) = (if d = 91 then [32, 91, 32] else if d = 93 then [32, 93, 32] else [d]) ++ spreadL r := by
  unfold spreadL
  rw [replL_cons, replL_app]
  congr 1
  by_cases h1 : d = 91
  · rw [if_pos h1, if_pos h1]; rfl
  · rw [if_neg h1, if_neg h1]
    show (if d = 93 then [32, 93, 32] else [d]) ++ [] = _
    rw [List.append_nil]
theorem words_of : ∀ (l w : List Nat), (∀ c ∈ w, lone c = false) → (cutA 32 w (spreadL l)).filter (fun t => decide (t ≠ [])) = (partA w l).filter fun t => decide (t ≠ [32])
  | [], w, h => by
    show List.filter _ [w] = List.filter _ (flushW w)
    unfold flushW
    by_cases e : w = []
    · rw [if_pos e, e]; rfl
    · rw [if_neg e, List.filter_cons_of_pos (by simp [e])]
      have : w ≠ [32] := fun z => by
        have := h 32 (by rw [z]; exact List.mem_cons_self)
        exact absurd this (by decide)
      rw [List.filter_cons_of_pos (by simp [this])]
      rfl
  | d :: r, w, h => by
    have hw : (flushW w).filter (fun t => decide (t ≠ [32])) = List.filter (fun t => decide (t ≠ [])) [w] := by
      unfold flushW
      by_cases e : w = []
      · rw [if_pos e, e]; rfl
      · have ht : w ≠ [32] := fun z => by
          have := h 32 (by rw [z]; exact List.mem_cons_self)
          exact absurd this (by decide)
        rw [if_neg e]
        simp [e, ht]
    have ih0 := words_of r [] (fun _ z => nomatch z)
    have ep : partA w (d :: r) = if lone d = true then flushW w ++ [d] :: partA [] r else partA (w ++ [d]) r := by conv => lhs; unfold partA
    have cut32 : ∀ (v m : List Nat), cutA 32 v (32 :: m) = v :: cutA 32 [] m := fun v m => by
      conv => lhs; unfold cutA
      rw [if_pos rfl]
    have cutO : ∀ (v m : List Nat) (x : Nat), x ≠ 32 → cutA 32 v (x :: m) = cutA 32 (v ++ [x]) m := fun v m x hx => by
      conv => lhs; unfold cutA
      rw [if_neg hx]
    rw [spread_cons, ep]
    by_cases h91 : d = 91
    · subst h91
      rw [if_pos rfl, if_pos (by rfl)]
      show (cutA 32 w (32 :: 91 :: 32 :: spreadL r)).filter _ = _
      rw [cut32, cutO [] _ 91 (by decide), cut32, List.filter_append, hw]
      show List.filter _ ([w] ++ ([91] :: cutA 32 [] (spreadL r))) = _
      rw [List.filter_append]
      have f1 : List.filter (fun t => decide (t ≠ [])) ([91] :: cutA 32 [] (spreadL r)) = [91] :: List.filter (fun t => decide (t ≠ [])) (cutA 32 [] (spreadL r)) := List.filter_cons_of_pos (by decide)
      have f2 : List.filter (fun t => decide (t ≠ [32])) ([91] :: partA [] r) = [91] :: List.filter (fun t => decide (t ≠ [32])) (partA [] r) := List.filter_cons_of_pos (by decide)
      rw [f1, f2, ih0]
    · rw [if_neg h91]
      by_cases h93 : d = 93
      · subst h93
        rw [if_pos rfl, if_pos (by rfl)]
        show (cutA 32 w (32 :: 93 :: 32 :: spreadL r)).filter _ = _
        rw [cut32, cutO [] _ 93 (by decide), cut32, List.filter_append, hw]
        show List.filter _ ([w] ++ ([93] :: cutA 32 [] (spreadL r))) = _
        rw [List.filter_append]
        have f1 : List.filter (fun t => decide (t ≠ [])) ([93] :: cutA 32 [] (spreadL r)) = [93] :: List.filter (fun t => decide (t ≠ [])) (cutA 32 [] (spreadL r)) := List.filter_cons_of_pos (by decide)
        have f2 : List.filter (fun t => decide (t ≠ [32])) ([93] :: partA [] r) = [93] :: List.filter (fun t => decide (t ≠ [32])) (partA [] r) := List.filter_cons_of_pos (by decide)
        rw [f1, f2, ih0]
      · rw [if_neg h93]
        show (cutA 32 w (d :: spreadL r)).filter _ = _
        by_cases h32 : d = 32
        · subst h32
          rw [cut32, if_pos (by rfl), List.filter_append, hw]
          show List.filter _ ([w] ++ cutA 32 [] (spreadL r)) = _
          have f2 : List.filter (fun t => decide (t ≠ [32])) ([32] :: partA [] r) = List.filter (fun t => decide (t ≠ [32])) (partA [] r) := List.filter_cons_of_neg (by decide)
          rw [List.filter_append, f2, ih0]
        · rw [cutO w _ d h32]
          have hl : lone d = false := by
            unfold lone
            simp [h91, h93, h32]
          rw [if_neg (by rw [hl]; exact Bool.false_ne_true)]
          refine words_of r (w ++ [d]) fun x hx => ?_
          rcases List.mem_append.mp hx with hx | hx
          · exact h x hx
          · rw [List.mem_singleton.mp hx]; exact hl
theorem join_glue (z : Str) : ∀ ps : List (List Nat), (Str.join z (ps.map mkS)).cps.toList = glueL z.cps.toList ps
  | [] => rfl
  | [p] => rfl
  | p :: q :: r => by
    have ej : Str.join z ((p :: q :: r).map mkS) = mkS p ++ z ++ Str.join z ((q :: r).map mkS) := rfl
    rw [ej, L2.Tx.app_cps, L2.Tx.app_cps, join_glue z (q :: r), List.append_assoc]
    rfl
theorem cutA_len (c : Nat) : ∀ (l w : List Nat), (cutA c w l).length ≤ l.length + 1
  | [], w => Nat.le_refl 1
  | d :: r, w => by
    unfold cutA
    split
    · exact Nat.succ_le_succ (cutA_len c r [])
    · exact Nat.le_succ_of_le (cutA_len c r _)
/-- a text cut at one sign -/
theorem split_any (x : Str) (c : Nat) (hk : Builtin.Str.strKind ⟨#[c]⟩ ≤ 1) : PySem.Txt.split x ⟨#[c]⟩ = (cutA c [] x.cps.toList).map mkS := by
  have ej : Str.join ⟨#[c]⟩ ((cutA c [] x.cps.toList).map mkS) = x := by
    refine str_ext ?_
    rw [join_glue, glue_cut]
    show [] ++ replL c [c] x.cps.toList = _
    rw [repl_same]
    rfl
  have := L2.Tx.split_join (y := ⟨#[c]⟩) (c := c) (cs := []) rfl (parts := (cutA c [] x.cps.toList).map mkS) (by
    intro z
    exact cutA_ne c _ _ (List.map_eq_nil_iff.mp z)) (fun p hp => by
    obtain ⟨l, hl, rfl⟩ := List.mem_map.mp hp
    exact cutA_free c _ [] (by simp) l hl) hk (by
    rw [ej, List.length_map, ← L2.Tx.len_eq x]
    exact cutA_len c _ _)
  rw [ej] at this
  exact this
theorem replace_any (x z : Str) (c : Nat) (hk : Builtin.Str.strKind ⟨#[c]⟩ ≤ 1) : (PySem.Txt.replace x ⟨#[c]⟩ z).cps.toList = replL c z.cps.toList x.cps.toList := by
  rw [PySem.StrLaws.replace_one, split_any x c hk, join_glue, glue_cut]
  rfl
end Net

namespace Net
open PySem L2 L2.Tx PySem.NumText
/-! ### words: names and numbers -/
def figB (l : List Nat) : Bool := l.all fun c => decide (48 ≤ c) && decide (c ≤ 57)
def figsOf : List Nat → List Nat
  | [] => []
  | c :: r => if c = 45 then r else c :: r
def numOk (l : List Nat) : Bool := (decide (1 ≤ (figsOf l).length) && decide ((figsOf l).length ≤ 120) && figB (figsOf l)) && !(decide ((figsOf l)[0]? = some 48) && decide (l ≠ [48]))
def valL (l : List Nat) : Int := if l[0]? = some 45 then -(digitsVal (figsOf l) : Int) else (digitsVal (figsOf l) : Int)
def atomL (l : List Nat) : Option PyData := if nameB (mkS l) = true then some (.str (mkS l)) else if numOk l = true then some (.int (valL l)) else none
def shA : PyData → List Nat
  | .int i => (numT i).cps.toList
  | .str x => x.cps.toList
  | _ => []
theorem figB_all {l : List Nat} (h : figB l = true) : AllDigits l := fun c hc => by
  have := List.all_eq_true.mp h c hc
  simpa using this
theorem all_figB {l : List Nat} (h : AllDigits l) : figB l = true := List.all_eq_true.mpr fun c hc => by
  have := h c hc
  simpa using this
/-- figures without a nought ahead are a number's own -/
theorem dg_step {m d : Nat} (hm : 0 < m) (hd : d < 10) : dg (10 * m + d) = dg m ++ [48 + d] := by
  unfold dg
  have t : Nat.toDigits 10 m ++ Nat.toDigits 10 d = Nat.toDigits 10 (10 * m + d) := Nat.toDigits_append_toDigits (by decide) hm hd
  rw [← t, List.map_append, Nat.toDigits_of_lt_base hd]
  congr 1
  have : ∀ d : Nat, d < 10 → ([Nat.digitChar d].map Char.toNat) = [48 + d] := by decide
  exact this d hd
theorem dg_one {d : Nat} (hd : d < 10) : dg d = [48 + d] := by
  unfold dg
  rw [Nat.toDigits_of_lt_base hd]
  have : ∀ d : Nat, d < 10 → ([Nat.digitChar d].map Char.toNat) = [48 + d] := by decide
  exact this d hd
theorem num_of_aux : ∀ (r : List Nat) (m : Nat), 0 < m → AllDigits r → ∃ k, 0 < k ∧ dg k = dg m ++ r
  | [], m, hm, _ => ⟨m, hm, by rw [List.append_nil]⟩
  | c :: r, m, hm, h => by
    obtain ⟨h1, h2⟩ := h c List.mem_cons_self
    have e := dg_step (m := m) (d := c - 48) hm (by omega)
    rw [show 48 + (c - 48) = c by omega] at e
    obtain ⟨k, hk, ek⟩ := num_of_aux r (10 * m + (c - 48)) (by omega) fun x hx => h x (List.mem_cons_of_mem _ hx)
    exact ⟨k, hk, by rw [ek, e, List.append_assoc]; rfl⟩
theorem num_of {l : List Nat} (hne : l ≠ []) (h : AllDigits l) (h0 : l[0]? ≠ some 48) : ∃ k, 0 < k ∧ dg k = l := by
  cases l with
  | nil => exact absurd rfl hne
  | cons c r =>
    obtain ⟨h1, h2⟩ := h c List.mem_cons_self
    have hc : c ≠ 48 := fun z => h0 (by rw [z]; rfl)
    obtain ⟨k, hk, ek⟩ := num_of_aux r (c - 48) (by omega) fun x hx => h x (List.mem_cons_of_mem _ hx)
    refine ⟨k, hk, ?_⟩
    rw [ek, dg_one (by omega), show 48 + (c - 48) = c by omega]
    rfl
theorem val_dg (m : Nat) : digitsVal (dg m) = m := PySem.W.KIN.val_back m
/-- what a word that is a number says -/
theorem num_word {l : List Nat} (h : numOk l = true) : (numT (valL l)).cps.toList = l ∧ AllDigits (figsOf l) ∧ figsOf l ≠ [] ∧ (figsOf l).length ≤ 120 ∧ l ≠ [] ∧ PySem.intText? (mkS l) = some (valL l) := by
  unfold numOk at h
  simp only [Bool.and_eq_true, decide_eq_true_eq, Bool.not_eq_true', Bool.and_eq_false_iff, decide_eq_false_iff_not] at h
  obtain ⟨⟨⟨h1, h2⟩, h3⟩, h4⟩ := h
  have hd := figB_all h3
  have hne : figsOf l ≠ [] := fun z => by rw [z] at h1; exact absurd h1 (by decide)
  have hl : l ≠ [] := fun z => by rw [z] at hne; exact hne rfl
  cases l with
  | nil => exact absurd rfl hl
  | cons c r =>
    by_cases hc : c = 45
    · subst hc
      have ef : figsOf (45 :: r) = r := by show (if (45 : Nat) = 45 then r else 45 :: r) = r; rw [if_pos rfl]
      rw [ef] at h1 h2 h3 h4 hd hne
      have h0 : r[0]? ≠ some 48 := fun z => by
        rcases h4 with h4 | h4
        · exact h4 z
        · exact h4 (by simp)
      obtain ⟨k, hk, ek⟩ := num_of hne hd h0
      have ev : valL (45 :: r) = -(k : Int) := by
        show (if (45 :: r)[0]? = some 45 then -(digitsVal (figsOf (45 :: r)) : Int) else _) = _
        rw [if_pos (show (45 :: r)[0]? = some 45 from rfl), ef, ← ek, val_dg]
      obtain ⟨m, rfl⟩ : ∃ m, k = m + 1 := ⟨k - 1, by omega⟩
      have en : -((m + 1 : Nat) : Int) = Int.negSucc m := rfl
      refine ⟨by rw [ev, en, numT_neg, ek], by rw [ef]; exact hd, by rw [ef]; exact hne, by rw [ef]; exact h2, List.cons_ne_nil _ _, ?_⟩
      have e := intText_neg (x := mkS (45 :: r)) (rfl : (mkS (45 :: r)).cps.toList = 45 :: r) hd hne (by show (mkS (45 :: r)).cps.size ≤ _; show (45 :: r).toArray.size ≤ _; simp; omega)
      rw [e, ev, ← ek, val_dg]
    · have ef : figsOf (c :: r) = c :: r := by show (if c = 45 then r else c :: r) = _; rw [if_neg hc]
      rw [ef] at h1 h2 h3 h4 hd hne
      have hl0 : (c :: r)[0]? ≠ some 45 := fun z => hc (by simpa using z)
      have ev0 : valL (c :: r) = (digitsVal (c :: r) : Int) := by
        show (if (c :: r)[0]? = some 45 then _ else (digitsVal (figsOf (c :: r)) : Int)) = _
        rw [if_neg hl0, ef]
      have it := intText_digits (x := mkS (c :: r)) hd hne (by show (c :: r).toArray.size ≤ _; simp at h2 ⊢; omega)
      have hx : ∃ k, dg k = c :: r := by
        by_cases h0 : (c :: r)[0]? = some 48
        · have : c :: r = [48] := by
            rcases h4 with h4 | h4
            · exact absurd h0 h4
            · simpa using h4
          exact ⟨0, by rw [this]; exact dg_one (by decide)⟩
        · obtain ⟨k, _, ek⟩ := num_of hne hd h0
          exact ⟨k, ek⟩
      obtain ⟨k, ek⟩ := hx
      have ev : valL (c :: r) = (k : Int) := by rw [ev0, ← ek, val_dg]
      refine ⟨by rw [ev, numT_nat, ek], by rw [ef]; exact hd, by rw [ef]; exact hne, by rw [ef]; exact h2, List.cons_ne_nil _ _, ?_⟩
      rw [it, ev0]
      rfl
theorem name_signs {x : Str} (h : nameB x = true) : ∀ c ∈ x.cps.toList, 97 ≤ c ∧ c ≤ 122 := fun c hc => by
  unfold nameB at h
  simp only [Bool.and_eq_true, List.all_eq_true] at h
  have := h.2 c hc
  unfold smallB at this
  simpa using this
theorem name_len {x : Str} (h : nameB x = true) : 1 ≤ x.length ∧ x.length ≤ 12 := by
  unfold nameB at h
  simp at h
  exact h.1
theorem num_signs {l : List Nat} (h : numOk l = true) : ∀ c ∈ l, c = 45 ∨ (48 ≤ c ∧ c ≤ 57) := fun c hc => by
  obtain ⟨_, hd, _, _, hl, _⟩ := num_word h
  cases l with
  | nil => exact absurd rfl hl
  | cons d r =>
    by_cases h45 : d = 45
    · have ef : figsOf (d :: r) = r := by show (if d = 45 then r else d :: r) = r; rw [if_pos h45]
      rw [ef] at hd
      rcases List.mem_cons.mp hc with z | z
      · exact .inl (z.trans h45)
      · exact .inr (hd c z)
    · have ef : figsOf (d :: r) = d :: r := by show (if d = 45 then r else d :: r) = _; rw [if_neg h45]
      rw [ef] at hd
      exact .inr (hd c hc)
theorem num_len {l : List Nat} (h : numOk l = true) : 1 ≤ l.length ∧ l.length ≤ 121 := by
  obtain ⟨_, _, hn, h2, hl, _⟩ := num_word h
  cases l with
  | nil => exact absurd rfl hl
  | cons d r =>
    have : (d :: r).length ≤ (figsOf (d :: r)).length + 1 := by
      show r.length + 1 ≤ (if d = 45 then r else d :: r).length + 1
      split
      · exact Nat.le_refl _
      · simp
    refine ⟨by simp, by omega⟩
theorem name_mk {l : List Nat} (h : nameB (mkS l) = true) : (∀ c ∈ l, 97 ≤ c ∧ c ≤ 122) ∧ 1 ≤ l.length ∧ l.length ≤ 12 :=
  ⟨name_signs h, by have := name_len h; simpa [mkS, Str.length] using this⟩
theorem atom_at {l : List Nat} {d : PyData} (h : atomL l = some d) : (nameB (mkS l) = true ∧ d = .str (mkS l)) ∨ (nameB (mkS l) = false ∧ numOk l = true ∧ d = .int (valL l)) := by
  unfold atomL at h
  split at h
  · rename_i hn
    exact .inl ⟨hn, (Option.some.inj h).symm⟩
  · rename_i hn
    split at h
    · rename_i hk
      exact .inr ⟨Bool.eq_false_iff.mpr hn, hk, (Option.some.inj h).symm⟩
    · cases h
theorem lone_no {c : Nat} (h1 : c ≠ 91) (h2 : c ≠ 93) (h3 : c ≠ 32) : lone c = false := by
  unfold lone
  simp [h1, h2, h3]
theorem atom_ok : AtomOk shA atomL where
  back := fun w d h => by
    rcases atom_at h with ⟨h1, rfl⟩ | ⟨_, h1, rfl⟩
    · exact ⟨rfl, rfl⟩
    · exact ⟨rfl, (num_word h1).1⟩
  ne := fun w d h => by
    rcases atom_at h with ⟨h1, rfl⟩ | ⟨_, h1, rfl⟩
    · intro z
      have := (name_mk h1).2.1
      rw [z] at this
      exact absurd this (by decide)
    · exact (num_word h1).2.2.2.2.1
  no := fun w d h c hc => by
    rcases atom_at h with ⟨h1, rfl⟩ | ⟨_, h1, rfl⟩
    · have := (name_mk h1).1 c hc
      exact lone_no (by omega) (by omega) (by omega)
    · have := num_signs h1 c hc
      exact lone_no (by omega) (by omega) (by omega)
theorem val_lt_aux : ∀ (l : List Nat) (acc : Nat), AllDigits l → l.foldl (fun acc c => acc * 10 + (c - 48)) acc + 1 ≤ (acc + 1) * 10 ^ l.length
  | [], acc, _ => by simp
  | c :: r, acc, h => by
    obtain ⟨h1, h2⟩ := h c List.mem_cons_self
    have ih := val_lt_aux r (acc * 10 + (c - 48)) fun x hx => h x (List.mem_cons_of_mem _ hx)
    rw [List.foldl_cons, List.length_cons]
    refine Nat.le_trans ih ?_
    rw [Nat.pow_succ, Nat.mul_comm (10 ^ r.length) 10, ← Nat.mul_assoc]
    exact Nat.mul_le_mul_right _ (by omega)
theorem digitsVal_lt {l : List Nat} (h : AllDigits l) : digitsVal l < 10 ^ l.length := by
  have := val_lt_aux l 0 h
  rw [Nat.zero_add, Nat.one_mul] at this
  exact this
/-- of a number that is read the bits are few -/
theorem num_log {l : List Nat} (h : numOk l = true) : (valL l).natAbs.log2 < 1920 := by
  obtain ⟨_, hd, _, h2, _, _⟩ := num_word h
  have h1 : (valL l).natAbs < 10 ^ 120 := by
    have hv : digitsVal (figsOf l) < 10 ^ (figsOf l).length := digitsVal_lt hd
    have hp : 10 ^ (figsOf l).length ≤ 10 ^ 120 := Nat.pow_le_pow_right (by decide) h2
    have e : (valL l).natAbs = digitsVal (figsOf l) := by
      unfold valL
      split <;> simp
    omega
  have h3 : (10 : Nat) ^ 120 < 2 ^ 400 := by
    have z : ((10 : Nat) ^ 3) ^ 40 < (2 ^ 10) ^ 40 := Nat.pow_lt_pow_left (by decide) (by decide)
    rw [← Nat.pow_mul, ← Nat.pow_mul] at z
    exact z
  by_cases h0 : (valL l).natAbs = 0
  · rw [h0]; decide
  · have := (Nat.log2_lt h0).mpr (Nat.lt_trans h1 h3)
    omega
end Net

namespace Net
open PySem L2
/-! ### the heap without some things that are written to -/
def Wi (H : Hp) (A : List Addr) : Hp := fun b => if b ∈ A then none else H b
theorem Wi.eq {H : Hp} {A : List Addr} {b : Addr} (h : b ∉ A) : Wi H A b = H b := by unfold Wi; rw [if_neg h]
theorem Wi.no {H : Hp} {A : List Addr} {b : Addr} {o : HO} (h : Wi H A b = some o) : b ∉ A := fun z => by
  unfold Wi at h
  rw [if_pos z] at h
  cases h
theorem Wi.in_ {H : Hp} {A : List Addr} : Same (Wi H A) H := fun b o e => by
  have := Wi.no e
  rw [Wi.eq this] at e
  exact e
theorem Wi.mono {H H' : Hp} (s : Same H H') (A : List Addr) : Same (Wi H A) (Wi H' A) := fun b o e => by
  have h := Wi.no e
  rw [Wi.eq h] at e ⊢
  exact s _ _ e
theorem Wi.upd_ {H : Hp} {A : List Addr} {a : Addr} {o : HO} (ha : a ∈ A) : Same (Wi H A) (Wi (upd H a o) A) := fun b ob e => by
  have h := Wi.no e
  rw [Wi.eq h] at e ⊢
  rw [upd_ne (fun z => h (by rw [z]; exact ha))]
  exact e
theorem Wi.free {H H' : Hp} {A : List Addr} (s : Same H H') (hf : ∀ a ∈ A, H a = none) : Same H (Wi H' A) := fun b o e => by
  rw [Wi.eq (fun z => by rw [hf b z] at e; cases e)]
  exact s _ _ e
end Net

namespace Net
open PySem L2 L2.Tx
/-! ### words read -/
def okX (x : Str) : Prop := x.length ≤ 8000 ∧ ∀ c ∈ x.cps.toList, c < 1114112
theorem okX.len {x : Str} (h : okX x) : x.length ≤ sizeLine := Nat.le_trans h.1 (by decide)
theorem okX.rep {x : Str} (h : okX x) : (reprText x).length ≤ 100000 := by
  have := StrLaws.reprText_len x fun c hc => Nat.lt_trans (h.2 c hc) (by decide)
  have := h.1
  omega
theorem okX.repS {x : Str} (h : okX x) : (reprText x).length ≤ sizeLine := Nat.le_trans h.rep (by decide)
structure Ecs (K : PySem.W.Frag) (mg : Str → Option Value) (ct : Addr) : Prop where
  mt : mg "NoText" = some (.ref ct)
  ex : PySem.W.excIn K ct [.type "ValueError", .type "Exception", .type "BaseException", .type "object"] "ValueError.__new__" = true
def spNumX (ct : Addr) : Sp := fun vs H Q E => ∃ (x : Str), vs = [.str x, .int 120] ∧ okX x ∧ (numOk x.cps.toList = true → ∀ H', Same H H' → Q (.int (valL x.cps.toList)) H') ∧ (numOk x.cps.toList = false → ∀ H', Same H H' → E (.ref ct) none H')
def atV : PyData → V
  | .int i => .int i
  | .str x => .str x
  | _ => .non
def spWordX (ct : Addr) : Sp := fun vs H Q E => ∃ (x : Str), vs = [.str x] ∧ okX x ∧ (∀ d, atomL x.cps.toList = some d → ∀ H', Same H H' → Q (atV d) H') ∧ (atomL x.cps.toList = none → ∀ H', Same H H' → E (.ref ct) none H')
theorem mem_figs (c : Nat) : decide (c ∈ ("0123456789" : Str).cps.toList) = (decide (48 ≤ c) && decide (c ≤ 57)) := by
  have e : ("0123456789" : Str).cps.toList = (List.range 10).map (48 + ·) := by decide +kernel
  rw [e, Bool.eq_iff_iff]
  simp only [decide_eq_true_eq, Bool.and_eq_true, List.mem_map, List.mem_range]
  constructor
  · rintro ⟨k, h1, h2⟩
    omega
  · intro h
    exact ⟨c - 48, by omega, by omega⟩
theorem minus_eq : ("-" : Str) = ⟨#[45]⟩ := by decide +kernel
theorem zero_eq : ("0" : Str) = ⟨#[48]⟩ := by decide +kernel
theorem open_eq : ("[" : Str) = ⟨#[91]⟩ := by decide +kernel
theorem shut_eq : ("]" : Str) = ⟨#[93]⟩ := by decide +kernel
theorem str_one (x : Str) (c : Nat) : (V.str x = V.str ⟨#[c]⟩) ↔ x.cps.toList = [c] := by
  constructor
  · intro h
    injection h with h
    rw [h]
  · intro h
    rw [show x = (⟨#[c]⟩ : Str) from str_ext h]
theorem empty_eq : ("" : Str) = mkS [] := by decide +kernel
theorem figs_len (l : List Nat) : (figsOf l).length ≤ l.length := by
  cases l with
  | nil => exact Nat.le_refl _
  | cons c r =>
    show (if c = 45 then r else c :: r).length ≤ _
    split
    · simp
    · exact Nat.le_refl _
theorem mkS_len (l : List Nat) : (mkS l).length = l.length := by
  show l.toArray.size = _
  simp
theorem numOk_eq (l : List Nat) : numOk l = ((decide (1 ≤ (figsOf l).length) && decide ((figsOf l).length ≤ 120) && figB (figsOf l)) && !(decide ((figsOf l)[0]? = some 48) && decide (l ≠ [48]))) := rfl
section
variable {P : Program} {w : World} {K : PySem.W.Frag} {mg : Str → Option Value} {base : Heap} {ct : Addr}
theorem sc_readNum : FnScope ["text", "most_figures", "figures"] ["text", "most_figures"] (defScope s_read_number) := ⟨rfl, rfl, rfl, by decide +kernel, rfl, by decide +kernel, by decide +kernel⟩
theorem ok_readNum {f : Addr} {fd : FuncData} (F : Fun K "read_number" "read_number" s_read_number f fd) (T : Txt K mg) (R : Ecs K mg ct) (c1 : Can P w K mg base 1 "is_made_of" ["text", "signs"] spMade) : FnOk P w K mg base (CXF P w) 2 f fd ["text", "most_figures"] (spNumX ct) := by
  refine F.okX sc_readNum (fun vs H Q E h => ?_) (fun cdv A outer s H vs Q E hr W h => ?_)
  · obtain ⟨x, rfl, _⟩ := h
    rfl
  · obtain ⟨x, rfl, hx, q, qE⟩ := h
    refine ⟨_, (pss_cutE (ps_set (i := 2) sc_readNum.nd rfl (Or.inl rfl) (pe_ifExp (pt_val (pe_bm PySem.F.plainAttrs_str PySem.F.slot_str_startswith PySem.F.type_str_startswith mt_starts (pv 0) (pa_cons pe_str pa_nil))) (pe_slice sl_str (pv 0) (po_some pe_int) po_none) (pv 0)))
      (pss_cons (ps_if (PW.pt (pw_or (pt_not (pt_chain op_le op_le pe_int (pe_callB call_len_str (by rfl) T.len b_len (pa_cons (pv 2) pa_nil)) (pv 1))) (pw_or1 (pt_not (pt_val (pe_callC c1 hr (by rfl) (pa_cons (pv 2) (pa_cons (pe_globC T.figs (by rfl)) pa_nil))))))))
        (pss_one (ps_raise W rfl (by rfl) R.mt R.ex PySem.F.excBase_ValueError (pa_cons (pe_join (pj_cons (pe_rep (pv 0)) (pj_cons pe_str pj_nil)) (by decide)) pa_nil))) pss_nil)
      (pss_cons (ps_if (PW.pt (pw_and (pt_val (pe_bm PySem.F.plainAttrs_str PySem.F.slot_str_startswith PySem.F.type_str_startswith mt_starts (pv 2) (pa_cons pe_str pa_nil))) (pw_and1 (pt_cmpR op_ne (pv 0) pe_str (nomark _)))))
        (pss_one (ps_raise W rfl (by rfl) R.mt R.ex PySem.F.excBase_ValueError (pa_cons (pe_join (pj_cons (pe_rep (pv 0)) (pj_cons pe_str pj_nil)) (by decide)) pa_nil))) pss_nil)
      (pss_one (ps_ret (pe_callTy call_intT (by rfl) T.int b_int (pa_cons (pv 0) pa_nil))))))), ?_⟩
    have hF : (mkS (figsOf x.cps.toList)).length ≤ 8000 := by
      rw [mkS_len]
      exact Nat.le_trans (figs_len _) (by rw [len_eq]; exact hx.1)
    refine ⟨fun σ' H' => σ' = [some (.str x), some (.int 120), some (.str (mkS (figsOf x.cps.toList)))] ∧ H = H', ?_, ?_⟩
    · refine ⟨_, rfl, rfl, _, _, rfl, rfl, _, rfl, ?_⟩
      rw [minus_eq, starts_one]
      refine ite2 (fun hi => ?_) (fun hi => ?_)
      · have hi := of_decide_eq_true hi
        refine ⟨_, rfl, _, rfl, _, rfl, hx.len, ?_, rfl⟩
        show [some (V.str x), some (V.int 120), some (V.str _)] = _
        refine congrArg (fun z => [some (V.str x), some (V.int 120), some (V.str z)]) (str_ext ?_)
        have hl : 1 ≤ x.length := by
          have := (List.getElem?_eq_some_iff.mp hi).1
          rw [len_eq] at this
          omega
        rw [show (1 : Int) = ((1 : Nat) : Int) from rfl, slice_from _ hl]
        show _ = figsOf x.cps.toList
        cases e : x.cps.toList with
        | nil => rw [e] at hi; cases hi
        | cons c r =>
          rw [e] at hi
          have hc : c = 45 := by simpa using hi
          show r = if c = 45 then r else c :: r
          rw [if_pos hc]
      · have hi : ¬ x.cps.toList[0]? = some 45 := fun z => hi (decide_eq_true z)
        refine ⟨_, rfl, ?_, rfl⟩
        show [some (V.str x), some (V.int 120), some (V.str _)] = _
        refine congrArg (fun z => [some (V.str x), some (V.int 120), some (V.str z)]) (str_ext ?_)
        show _ = figsOf x.cps.toList
        cases e : x.cps.toList with
        | nil => rfl
        | cons c r =>
          rw [e] at hi
          have hc : c ≠ 45 := fun z => hi (by rw [z]; rfl)
          show c :: r = if c = 45 then r else c :: r
          rw [if_neg hc]
    · rintro σ' H' ⟨rfl, rfl⟩
      have no1 : ¬ (1 : Int) ≤ ((mkS (figsOf x.cps.toList)).length : Int) → numOk x.cps.toList = false := fun z => by
        rw [mkS_len] at z
        rw [numOk_eq, decide_eq_false (p := 1 ≤ (figsOf x.cps.toList).length) (by omega)]
        rfl
      have no2 : ¬ ((mkS (figsOf x.cps.toList)).length : Int) ≤ 120 → numOk x.cps.toList = false := fun z => by
        rw [mkS_len] at z
        rw [numOk_eq, decide_eq_false (p := (figsOf x.cps.toList).length ≤ 120) (by omega)]
        simp
      have raise : ∀ {H' : Hp}, numOk x.cps.toList = false → Same H H' → E (.ref ct) none H' := fun z s' => qE z _ s'
      refine ⟨_, rfl, _, rfl, Nat.le_trans hF (by decide), _, _, rfl, rfl, _, rfl, ite2 (fun h1 => ?_) (fun h1 => ⟨_, rfl, iteTb rfl (iteT ⟨_, rfl, .inl ⟨x, rfl, hx.repS, _, rfl, hx.rep, _, rfl, by decide +kernel, by show 1 ≤ sizeLine; decide, raise (no1 fun z => h1 (decide_eq_true z)) (Same.refl _)⟩⟩)⟩)⟩
      have h1 := of_decide_eq_true h1
      refine ⟨_, rfl, _, _, rfl, rfl, _, rfl, ite2 (fun h2 => iteT ⟨_, rfl, .inl ⟨x, rfl, hx.repS, _, rfl, hx.rep, _, rfl, by decide +kernel, by show 1 ≤ sizeLine; decide, raise (no2 fun z => ?_) (Same.refl _)⟩⟩) (fun h2 => ?_)⟩
      · rw [decide_eq_true z] at h2
        exact Bool.false_ne_true h2
      have h2 : ((mkS (figsOf x.cps.toList)).length : Int) ≤ 120 := by
        by_cases z : ((mkS (figsOf x.cps.toList)).length : Int) ≤ 120
        · exact z
        · exact absurd (by rw [decide_eq_false z]; rfl) h2
      have f1 : decide (1 ≤ (figsOf x.cps.toList).length) = true := decide_eq_true (by rw [mkS_len] at h1; omega)
      have f2 : decide ((figsOf x.cps.toList).length ≤ 120) = true := decide_eq_true (by rw [mkS_len] at h2; omega)
      refine ⟨_, rfl, _, "0123456789", rfl, Nat.le_trans hF (by decide), fun H1 s1 => ⟨_, rfl, ?_⟩⟩
      have e3 : ((mkS (figsOf x.cps.toList)).cps.toList.all fun c => decide (c ∈ ("0123456789" : Str).cps.toList)) = figB (figsOf x.cps.toList) := by
        simp only [mem_figs]
        rfl
      rw [e3]
      cases h3 : figB (figsOf x.cps.toList) with
      | false =>
        refine iteT ⟨_, rfl, .inl ⟨x, rfl, hx.repS, _, rfl, hx.rep, _, rfl, by decide +kernel, by show 1 ≤ sizeLine; decide, raise ?_ s1⟩⟩
        rw [numOk_eq, h3, f1, f2]
        rfl
      | true =>
        refine iteF ?_
        have fin : numOk x.cps.toList = true → ∀ H2, Same H1 H2 → ∃ x' n, [V.str x] = [.str x'] ∧ PySem.intText? x' = some n ∧ x'.length ≤ 640 ∧ Q (.int n) H2 := fun z H2 s2 => by
          obtain ⟨_, _, _, _, _, it⟩ := num_word z
          rw [cps_mkS] at it
          refine ⟨x, _, rfl, it, ?_, q z _ (s1.trans s2)⟩
          have := (num_len z).2
          rw [len_eq] at this
          omega
        refine ⟨_, rfl, rfl, _, _, rfl, rfl, _, rfl, ?_⟩
        rw [zero_eq, starts_one]
        refine ite2 (fun hz => ?_) (fun hz => iteF ⟨_, rfl, fin ?_ H1 (Same.refl _)⟩)
        · have hz' : (figsOf x.cps.toList)[0]? = some 48 := of_decide_eq_true hz
          refine ⟨_, rfl, rfl, _, rfl, ite2 (fun hn => ?_) (fun hn => ⟨_, rfl, fin ?_ H1 (Same.refl _)⟩)⟩
          · refine ⟨_, rfl, .inl ⟨x, rfl, hx.repS, _, rfl, hx.rep, _, rfl, by decide +kernel, by show 1 ≤ sizeLine; decide, raise ?_ s1⟩⟩
            have hne : x.cps.toList ≠ [48] := fun z => by
              have : x = (⟨#[48]⟩ : Str) := str_ext z
              rw [this] at hn
              exact absurd hn (by decide +kernel)
            rw [numOk_eq, decide_eq_true hz', decide_eq_true hne]
            simp
          · have he : x.cps.toList = [48] := by
              by_cases z : x = (⟨#[48]⟩ : Str)
              · rw [z]
              · exact absurd (by rw [decide_eq_false (fun y => z (by injection y))]; rfl) hn
            rw [numOk_eq, f1, f2, h3, he]
            rfl
        · have hz' : ¬ (figsOf x.cps.toList)[0]? = some 48 := fun z => hz (decide_eq_true z)
          rw [numOk_eq, f1, f2, h3, decide_eq_false hz']
          rfl
theorem sc_readWord : FnScope ["word"] ["word"] (defScope s_read_word) := ⟨rfl, rfl, rfl, by decide +kernel, rfl, by decide +kernel, by decide +kernel⟩
theorem ok_readWord {f : Addr} {fd : FuncData} (F : Fun K "read_word" "read_word" s_read_word f fd) (T : Txt K mg) (c1 : Can P w K mg base 2 "is_name" ["word"] spName) (c2 : CanX P w K mg base 2 "read_number" ["text", "most_figures"] (spNumX ct)) : FnOk P w K mg base (CXF P w) 3 f fd ["word"] (spWordX ct) := by
  refine F.okX sc_readWord (fun vs H Q E h => ?_) (fun cdv A outer s H vs Q E hr W h => ?_)
  · obtain ⟨x, rfl, _⟩ := h
    rfl
  · obtain ⟨x, rfl, hx, q, qE⟩ := h
    refine ⟨_, (pss_cons (ps_if (pt_val (pe_callC c1 hr (by rfl) (pa_cons (pv 0) pa_nil))) (pss_one (ps_ret (pv 0))) pss_nil)
      (pss_one (ps_ret (pe_callX c2 W hr (by rfl) (pa_cons (pv 0) (pa_cons (pe_globC T.mostF (by rfl)) pa_nil)))))), ?_⟩
    refine ⟨_, rfl, x, rfl, hx.len, fun H1 s1 => ⟨_, rfl, ?_⟩⟩
    have ea : ∀ b, nameB x = b → atomL x.cps.toList = if b = true then some (.str x) else if numOk x.cps.toList = true then some (.int (valL x.cps.toList)) else none := fun b hb => by
      unfold atomL
      rw [cps_mkS, hb]
    cases hn : nameB x with
    | true => exact iteT ⟨_, rfl, q (.str x) (by rw [ea _ hn, if_pos rfl]) H1 s1⟩
    | false =>
      refine iteF ⟨_, rfl, x, rfl, hx, fun hk H2 s2 => q (.int _) ?_ H2 (s1.trans s2), fun hk H2 s2 => qE ?_ H2 (s1.trans s2)⟩
      · rw [ea _ hn, if_neg Bool.false_ne_true, if_pos hk]
      · rw [ea _ hn, if_neg Bool.false_ne_true, if_neg (by rw [hk]; exact Bool.false_ne_true)]
end
end Net

namespace Net
open PySem L2 L2.Tx
/-! ### open lists -/
theorem loose_app (atom : List Nat → Option PyData) : ∀ (ts us : List (List Nat)) (q : Fr), looseRun atom q (ts ++ us) = (looseRun atom q ts).bind fun q' => looseRun atom q' us
  | [], us, q => rfl
  | t :: ts, us, q => by
    show (looseStep atom q t).bind (fun q' => looseRun atom q' (ts ++ us)) = ((looseStep atom q t).bind fun q' => looseRun atom q' ts).bind fun q' => looseRun atom q' us
    cases looseStep atom q t with
    | none => rfl
    | some q' => exact loose_app atom ts us q'
theorem loose_one (atom : List Nat → Option PyData) (q : Fr) (t : List Nat) : looseRun atom q [t] = looseStep atom q t := by
  show (looseStep atom q t).bind (fun q' => some q') = _
  cases looseStep atom q t <;> rfl
theorem addTop_len {d : PyData} {fs : Fr} {n : Nat} (h : ∀ f ∈ fs, f.length ≤ n) : ∀ f ∈ addTop d fs, f.length ≤ n + 1 := fun f hf => by
  cases fs with
  | nil => cases hf
  | cons g r =>
    rcases List.mem_cons.mp hf with rfl | hf
    · have := h g List.mem_cons_self
      rw [List.length_append, List.length_singleton]
      omega
    · have := h f (List.mem_cons_of_mem _ hf)
      omega
theorem loose_step_len {atom : List Nat → Option PyData} {fs fs' : Fr} {t : List Nat} {n : Nat} (h : ∀ f ∈ fs, f.length ≤ n) (e : looseStep atom fs t = some fs') : (∀ f ∈ fs', f.length ≤ n + 1) ∧ fs'.length ≤ 61 := by
  unfold looseStep at e
  split at e
  · obtain ⟨rfl, hl⟩ := looseOk_some e
    refine ⟨fun f hf => ?_, hl⟩
    rcases List.mem_cons.mp hf with rfl | hf
    · exact Nat.zero_le _
    · have := h f hf
      omega
  · split at e
    · match fs, h, e with
      | [], _, e => cases e
      | [_], _, e => cases e
      | top :: b :: r, h, e =>
        obtain ⟨rfl, hl⟩ := looseOk_some (show looseOk ((b ++ [.list top]) :: r) = some fs' from e)
        refine ⟨fun f hf => ?_, hl⟩
        rcases List.mem_cons.mp hf with rfl | hf
        · have := h b (List.mem_cons_of_mem _ List.mem_cons_self)
          rw [List.length_append, List.length_singleton]
          omega
        · have := h f (List.mem_cons_of_mem _ (List.mem_cons_of_mem _ hf))
          omega
    · cases ea : atom t with
      | none => rw [ea] at e; cases e
      | some d =>
        rw [ea] at e
        obtain ⟨rfl, hl⟩ := looseOk_some (show looseOk (addTop d fs) = some fs' from e)
        exact ⟨addTop_len h, hl⟩
/-- the frames of the open lists, the topmost first; what is in them is known of the heap without what is written to -/
def FrAt (H : Hp) (A : List Addr) : List Addr → Fr → Prop
  | [], [] => True
  | r :: rs, f :: fs => (∃ vs, H r = some (.lst vs) ∧ Paired (PD (Wi H A) (60 - rs.length)) vs f) ∧ FrAt H A rs fs
  | _, _ => False
theorem FrAt.len {H : Hp} {A : List Addr} : ∀ {rs : List Addr} {fs : Fr}, FrAt H A rs fs → rs.length = fs.length
  | [], [], _ => rfl
  | _ :: _, _ :: _, h => congrArg (· + 1) h.2.len
  | [], _ :: _, h => h.elim
  | _ :: _, [], h => h.elim
theorem FrAt.has {H : Hp} {A : List Addr} : ∀ {rs : List Addr} {fs : Fr}, FrAt H A rs fs → ∀ r ∈ rs, ∃ vs, H r = some (.lst vs)
  | [], _, _, _, h => nomatch h
  | _ :: _, [], h, _, _ => h.elim
  | r :: rs, f :: fs, h, x, hx => by
    rcases List.mem_cons.mp hx with rfl | hx
    · obtain ⟨⟨vs, e, _⟩, _⟩ := h
      exact ⟨vs, e⟩
    · exact h.2.has x hx
theorem FrAt.move {H H' : Hp} {A A' : List Addr} (s : Same (Wi H A) (Wi H' A')) : ∀ {rs : List Addr} {fs : Fr}, (∀ r ∈ rs, ∀ vs, H r = some (.lst vs) → H' r = some (.lst vs)) → FrAt H A rs fs → FrAt H' A' rs fs
  | [], [], _, _ => True.intro
  | [], _ :: _, _, h => h.elim
  | _ :: _, [], _, h => h.elim
  | r :: rs, f :: fs, k, h => by
    obtain ⟨⟨vs, e, p⟩, t⟩ := h
    exact ⟨⟨vs, k r List.mem_cons_self vs e, L2.Paired.mapP p fun _ _ z => PD.same s z⟩, t.move s fun x hx => k x (List.mem_cons_of_mem _ hx)⟩
theorem FrAt.last {H : Hp} {A : List Addr} : ∀ {rs : List Addr} {fs : Fr}, FrAt H A rs fs → rs ≠ [] → ∃ r f vs, rs.getLast? = some r ∧ fs.getLast? = some f ∧ H r = some (.lst vs) ∧ Paired (PD (Wi H A) 60) vs f
  | [], _, _, h => absurd rfl h
  | _ :: _, [], h, _ => h.elim
  | [r], [f], h, _ => by
    obtain ⟨⟨vs, e, p⟩, _⟩ := h
    exact ⟨r, f, vs, rfl, rfl, e, p⟩
  | [r], _ :: _ :: _, h, _ => h.2.elim
  | _ :: _ :: _, [_], h, _ => h.2.elim
  | r :: r2 :: rs, f :: f2 :: fs, h, _ => by
    obtain ⟨x, g, vs, e1, e2, e3, e4⟩ := FrAt.last (rs := r2 :: rs) (fs := f2 :: fs) h.2 (List.cons_ne_nil _ _)
    exact ⟨x, g, vs, by simpa using e1, by simpa using e2, e3, e4⟩
structure UnAt (H : Hp) (un : Addr) (rs : List Addr) (fs : Fr) : Prop where
  u : H un = some (.lst (rs.map V.ref).reverse)
  nd : (un :: rs).Nodup
  fr : FrAt H (un :: rs) rs fs
section
variable {H H' : Hp} {un r : Addr} {rs : List Addr} {fs : Fr} {f : List PyData}
theorem UnAt.same (U : UnAt H un rs fs) (s : Same H H') : UnAt H' un rs fs := ⟨s _ _ U.u, U.nd, U.fr.move (Wi.mono s _) fun _ _ _ e => s _ _ e⟩
theorem UnAt.first (h1 : H un = some (.lst [.ref r])) (h2 : H r = some (.lst [])) : UnAt H un [r] [[]] :=
  ⟨h1, by
    have : un ≠ r := fun z => by rw [z, h2] at h1; cases h1
    simp [this], ⟨⟨[], h2, .nil⟩, True.intro⟩⟩
theorem UnAt.push (U : UnAt H un rs fs) (hr : H r = none) : UnAt (upd (upd H r (.lst [])) un (.lst ((rs.map V.ref).reverse ++ [.ref r]))) un (r :: rs) ([] :: fs) ∧ Same (Wi H (un :: rs)) (Wi (upd (upd H r (.lst [])) un (.lst ((rs.map V.ref).reverse ++ [.ref r]))) (un :: r :: rs)) := by
  have nu : un ≠ r := ne_of_none U.u hr
  have nr : ∀ x ∈ rs, x ≠ r := fun x hx z => by
    obtain ⟨vs, e⟩ := U.fr.has x hx
    rw [z, hr] at e
    cases e
  have nx : ∀ x ∈ rs, x ≠ un := fun x hx z => (List.nodup_cons.mp U.nd).1 (z ▸ hx)
  have s : Same (Wi H (un :: rs)) (Wi (upd (upd H r (.lst [])) un (.lst ((rs.map V.ref).reverse ++ [.ref r]))) (un :: r :: rs)) := fun b o e => by
    have hb := Wi.no e
    rw [Wi.eq hb] at e
    have b1 : b ≠ un := fun z => hb (by rw [z]; exact List.mem_cons_self)
    have b2 : b ≠ r := ne_of_none e hr
    have b3 : b ∉ un :: r :: rs := fun z => by
      rcases List.mem_cons.mp z with z | z
      · exact b1 z
      · rcases List.mem_cons.mp z with z | z
        · exact b2 z
        · exact hb (List.mem_cons_of_mem _ z)
    rw [Wi.eq b3, upd_ne b1, upd_ne b2]
    exact e
  refine ⟨⟨by rw [upd_same]; simp, ?_, ⟨⟨[], by rw [upd_ne (Ne.symm nu), upd_same], .nil⟩, U.fr.move s fun x hx vs e => by rw [upd_ne (nx x hx), upd_ne (nr x hx)]; exact e⟩⟩, s⟩
  obtain ⟨n1, n2⟩ := List.nodup_cons.mp U.nd
  refine List.nodup_cons.mpr ⟨fun z => ?_, List.nodup_cons.mpr ⟨fun z => nr r z rfl, n2⟩⟩
  rcases List.mem_cons.mp z with z | z
  · exact nu z
  · exact n1 z
theorem UnAt.add {d : PyData} {v : V} {vs : List V} (U : UnAt H un (r :: rs) (f :: fs)) (hv : H r = some (.lst vs)) (pd : PD (Wi H (un :: r :: rs)) (60 - rs.length) v d) :
    UnAt (upd H r (.lst (vs ++ [v]))) un (r :: rs) ((f ++ [d]) :: fs) ∧ Same (Wi H (un :: r :: rs)) (Wi (upd H r (.lst (vs ++ [v]))) (un :: r :: rs)) := by
  have s : Same (Wi H (un :: r :: rs)) (Wi (upd H r (.lst (vs ++ [v]))) (un :: r :: rs)) := Wi.upd_ (List.mem_cons_of_mem _ List.mem_cons_self)
  obtain ⟨n1, n2⟩ := List.nodup_cons.mp U.nd
  obtain ⟨n3, _⟩ := List.nodup_cons.mp n2
  have nu : un ≠ r := fun z => n1 (by rw [z]; exact List.mem_cons_self)
  obtain ⟨⟨vs', e, p⟩, t⟩ := U.fr
  rw [hv] at e
  cases e
  refine ⟨⟨by rw [upd_ne nu]; exact U.u, U.nd, ⟨_, upd_same, ?_⟩, t.move s fun x hx ws e => by rw [upd_ne (fun z : x = r => n3 (z ▸ hx))]; exact e⟩, s⟩
  exact Paired.snoc (L2.Paired.mapP p fun _ _ z => PD.same s z) (PD.same s pd)
theorem UnAt.close {r2 : Addr} {b : List PyData} {vs2 : List V} (U : UnAt H un (r :: r2 :: rs) (f :: b :: fs)) (few : rs.length + 2 ≤ 61) (h2 : H r2 = some (.lst vs2)) :
    UnAt (upd (upd H un (.lst ((r2 :: rs).map V.ref).reverse)) r2 (.lst (vs2 ++ [.ref r]))) un (r2 :: rs) ((b ++ [.list f]) :: fs) ∧ Same (Wi H (un :: r :: r2 :: rs)) (Wi (upd (upd H un (.lst ((r2 :: rs).map V.ref).reverse)) r2 (.lst (vs2 ++ [.ref r]))) (un :: r2 :: rs)) := by
  obtain ⟨n1, n2⟩ := List.nodup_cons.mp U.nd
  obtain ⟨n3, n4⟩ := List.nodup_cons.mp n2
  obtain ⟨n5, _⟩ := List.nodup_cons.mp n4
  have u1 : un ≠ r := fun z => n1 (by rw [z]; exact List.mem_cons_self)
  have u2 : un ≠ r2 := fun z => n1 (by rw [z]; exact List.mem_cons_of_mem _ List.mem_cons_self)
  have r12 : r ≠ r2 := fun z => n3 (by rw [z]; exact List.mem_cons_self)
  have s : Same (Wi H (un :: r :: r2 :: rs)) (Wi (upd (upd H un (.lst ((r2 :: rs).map V.ref).reverse)) r2 (.lst (vs2 ++ [.ref r]))) (un :: r2 :: rs)) := fun c o e => by
    have hb := Wi.no e
    rw [Wi.eq hb] at e
    have b1 : c ≠ un := fun z => hb (by rw [z]; exact List.mem_cons_self)
    have b2 : c ≠ r2 := fun z => hb (by rw [z]; exact List.mem_cons_of_mem _ (List.mem_cons_of_mem _ List.mem_cons_self))
    have b3 : c ∉ un :: r2 :: rs := fun z => by
      rcases List.mem_cons.mp z with z | z
      · exact b1 z
      · exact hb (List.mem_cons_of_mem _ (List.mem_cons_of_mem _ z))
    rw [Wi.eq b3, upd_ne b2, upd_ne b1]
    exact e
  obtain ⟨⟨vs, e, p⟩, ⟨vs2', e2, p2⟩, t⟩ := U.fr
  rw [h2] at e2
  cases e2
  have hr : Wi (upd (upd H un (.lst ((r2 :: rs).map V.ref).reverse)) r2 (.lst (vs2 ++ [.ref r]))) (un :: r2 :: rs) r = some (.lst vs) := by
    have : r ∉ un :: r2 :: rs := fun z => by
      rcases List.mem_cons.mp z with z | z
      · exact u1 z.symm
      · exact n3 z
    rw [Wi.eq this, upd_ne r12, upd_ne (Ne.symm u1)]
    exact e
  obtain ⟨m, hm⟩ : ∃ m, 60 - rs.length = m + 1 := ⟨60 - rs.length - 1, by omega⟩
  have hm' : 60 - (r2 :: rs).length = m := by rw [List.length_cons]; omega
  refine ⟨⟨by rw [upd_ne u2, upd_same], List.nodup_cons.mpr ⟨fun z => n1 (List.mem_cons_of_mem _ z), n4⟩, ⟨_, upd_same, ?_⟩, ?_⟩, s⟩
  · refine Paired.snoc (L2.Paired.mapP p2 fun _ _ z => PD.same s z) ?_
    rw [hm]
    refine .inl ⟨vs, f, hr, rfl, ?_⟩
    rw [hm'] at p
    exact L2.Paired.mapP p fun _ _ z => PD.same s z
  · exact t.move s fun x hx ws ex => by
      rw [upd_ne (fun z : x = r2 => n5 (z ▸ hx)), upd_ne (fun z : x = un => n1 (List.mem_cons_of_mem _ (List.mem_cons_of_mem _ (z ▸ hx))))]
      exact ex
theorem last_ref (r : Addr) (rs : List Addr) : atI ((r :: rs).map V.ref).reverse (-1) = some (.ref r) := by
  have e : ((r :: rs).map V.ref).reverse = (rs.map V.ref).reverse ++ [.ref r] := by simp
  rw [e]
  exact atI_last _ _
end
def spCloseX (ct : Addr) : Sp := fun vs H Q E => ∃ (un : Addr) (rs : List Addr) (fs : Fr), vs = [.ref un] ∧ UnAt H un rs fs ∧ fs ≠ [] ∧ fs.length ≤ 61 ∧ (∀ f ∈ fs, f.length ≤ 30000) ∧
  (∀ rs' fs' H', closeF fs = some fs' → UnAt H' un rs' fs' → Same (Wi H (un :: rs)) (Wi H' (un :: rs')) → Q .non H') ∧ (closeF fs = none → E (.ref ct) none H)
def spWordsX (ct : Addr) : Sp := fun vs H Q E => ∃ (wl : Addr) (ws : List Str), vs = [.ref wl] ∧ H wl = some (.lst (ws.map V.str)) ∧ (∀ x ∈ ws, okX x) ∧ ws.length ≤ 29000 ∧
  (∀ fs f, looseRun atomL [[]] (ws.map fun x => x.cps.toList) = some fs → fs.getLast? = some f → f.length ≤ 29000 → ∀ r vs H', Same H H' → H' r = some (.lst vs) → Paired (PD H' 60) vs f → Q (.ref r) H') ∧ (looseRun atomL [[]] (ws.map fun x => x.cps.toList) = none → ∀ H', Same H H' → E (.ref ct) none H')
theorem atV_pd {H : Hp} {n : Nat} {l : List Nat} {d : PyData} (h : atomL l = some d) : PD H n (atV d) d := by
  rcases atom_at h with ⟨h1, rfl⟩ | ⟨_, h1, rfl⟩
  · cases n <;> exact ⟨strOk_of h1, rfl⟩
  · cases n <;> rfl
section
variable {P : Program} {w : World} {K : PySem.W.Frag} {mg : Str → Option Value} {base : Heap} {ct : Addr}
theorem sc_close : FnScope ["unclosed", "closed"] ["unclosed"] (defScope s_close_last) := ⟨rfl, rfl, rfl, by decide +kernel, rfl, by decide +kernel, by decide +kernel⟩
theorem ok_close {f : Addr} {fd : FuncData} (F : Fun K "close_last" "close_last" s_close_last f fd) (T : Txt K mg) (R : Ecs K mg ct) : FnOk P w K mg base (CXF P w) 1 f fd ["unclosed"] (spCloseX ct) := by
  refine F.okX sc_close (fun vs H Q E h => ?_) (fun cdv A outer s H vs Q E hr W h => ?_)
  · obtain ⟨un, rs, fs, rfl, _⟩ := h
    rfl
  · obtain ⟨un, rs, fs, rfl, U, hne, few, lens, q, qE⟩ := h
    refine ⟨_, (pss_cons (ps_if (pt_cmpR op_eq (pe_callB call_len_seq (by rfl) T.len b_len (pa_cons (pv 0) pa_nil)) pe_int (nomark _)) (pss_one (ps_raise W rfl (by rfl) R.mt R.ex PySem.F.excBase_ValueError (pa_cons pe_str pa_nil))) pss_nil)
      (pss_cons (ps_set (i := 1) sc_close.nd rfl (Or.inl rfl) (pe_bm0 PySem.F.plainAttrs_list PySem.F.slot_list_pop PySem.F.type_list_pop mt_pop (pv 0)))
      (pss_one (ps_expr (pe_bm PySem.F.plainAttrs_list PySem.F.slot_list_append PySem.F.type_list_append mt_append (pe_ix ix_list (pv 0) (pe_un un_neg pe_int) (fun _ _ => by rfl)) (pa_cons (pv 1) pa_nil)))))), ?_⟩
    have hl := U.fr.len
    refine ⟨_, rfl, un, _, rfl, .inl (SqL.of U.u), rfl, _, rfl, ?_⟩
    match rs, fs, U, hl, hne, few, lens, q, qE with
    | [], [], _, _, hne, _, _, _, _ => exact absurd rfl hne
    | [], _ :: _, _, hl, _, _, _, _, _ => cases hl
    | _ :: _, [], _, hl, _, _, _, _, _ => cases hl
    | [r], [f0], U, _, _, _, _, _, qE => exact iteTb (by rfl) ⟨(by show 1 ≤ sizeLine; decide), qE rfl⟩
    | [_], _ :: _ :: _, _, hl, _, _, _, _, _ => cases hl
    | _ :: _ :: _, [_], _, hl, _, _, _, _, _ => cases hl
    | r :: r2 :: rs, f0 :: b :: fs, U, _, _, few, lens, q, qE =>
      refine iteFb (decide_eq_false (fun z => ?_)) ?_
      · injection z with z
        rw [List.length_reverse, List.length_map, List.length_cons, List.length_cons] at z
        omega
      have er : ((r :: r2 :: rs).map V.ref).reverse = ((r2 :: rs).map V.ref).reverse ++ [.ref r] := by simp
      obtain ⟨_, ⟨vs2, e2, p2⟩, _⟩ := id U.fr
      have hlr : rs.length = fs.length := by have := U.fr.len; simp only [List.length_cons] at this; omega
      refine ⟨_, rfl, .inl ⟨rfl, _, SqL.of U.u⟩, un, _, .ref r, rfl, rfl, U.u, ?_, ?_⟩
      · rw [er]
        simp
      rw [er, List.dropLast_concat]
      have n2 : un ≠ r2 := fun z => (List.nodup_cons.mp U.nd).1 (by rw [z]; exact List.mem_cons_of_mem _ List.mem_cons_self)
      have e2' : (upd H un (.lst ((r2 :: rs).map V.ref).reverse)) r2 = some (.lst vs2) := by rw [upd_ne (Ne.symm n2)]; exact e2
      refine ⟨_, rfl, _, rfl, un, _, _, .ref r2, rfl, rfl, SqL.of upd_same, last_ref r2 rs, .inl ⟨rfl, _, SqL.of e2'⟩, _, rfl, r2, vs2, .ref r, rfl, rfl, e2', ?_, ?_⟩
      · have : vs2.length = b.length := Paired.length p2
        have := lens b (List.mem_cons_of_mem _ List.mem_cons_self)
        have : (30000 : Nat) < sizeLine := by decide
        omega
      · simp only [List.length_cons] at few
        obtain ⟨U', s'⟩ := U.close (by omega) e2
        exact q _ _ _ rfl U' s'
abbrev NrWords : List Str := ["words", "unclosed", "word"]
theorem sc_rWords : FnScope NrWords ["words"] (defScope s_read_words) := ⟨rfl, rfl, rfl, by decide +kernel, rfl, by decide +kernel, by decide +kernel⟩
theorem ok_rWords {f : Addr} {fd : FuncData} (F : Fun K "read_words" "read_words" s_read_words f fd) (T : Txt K mg) (R : Ecs K mg ct) (c1 : CanX P w K mg base 1 "close_last" ["unclosed"] (spCloseX ct)) (c2 : CanX P w K mg base 3 "read_word" ["word"] (spWordX ct)) : FnOk P w K mg base (CXF P w) 4 f fd ["words"] (spWordsX ct) := by
  refine F.okX sc_rWords (fun vs H Q E h => ?_) (fun cdv A outer s H vs Q E hr W h => ?_)
  · obtain ⟨wl, ws, rfl, _⟩ := h
    rfl
  · obtain ⟨wl, ws, rfl, hwl, hok, hmany, q, qE⟩ := h
    have r1 : Room 1 _ := hr.mono (by decide)
    refine ⟨_, (pss_cons (ps_set (i := 1) sc_rWords.nd rfl (Or.inl rfl) (pe_lst (pa_cons (pe_lst pa_nil) pa_nil)))
      (pss_cons (ps_for W.own rfl (pi_list (pv 0)) (pg_name (i := 2) sc_rWords.nd rfl (Or.inl rfl))
          (pss_cutE (ps_if (pt_cmpR op_eq (pv 2) pe_str (nomark _)) (pss_one (ps_expr (pe_bm PySem.F.plainAttrs_list PySem.F.slot_list_append PySem.F.type_list_append mt_append (pv 1) (pa_cons (pe_lst pa_nil) pa_nil)))) (pss_one (ps_if (pt_cmpR op_eq (pv 2) pe_str (nomark _)) (pss_one (ps_expr (pe_callX c1 W r1 (by rfl) (pa_cons (pv 1) pa_nil)))) (pss_one (ps_expr (pe_bm PySem.F.plainAttrs_list PySem.F.slot_list_append PySem.F.type_list_append mt_append (pe_ix ix_list (pv 1) (pe_un un_neg pe_int) (fun _ _ => by rfl)) (pa_cons (pe_callX c2 W hr (by rfl) (pa_cons (pv 2) pa_nil)) pa_nil)))))))
      (pss_one (ps_if (pt_cmpR op_gt (pe_callB call_len_seq (by rfl) T.len b_len (pa_cons (pv 1) pa_nil)) (pe_op op_add (pe_globC T.deep (by rfl)) pe_int) (nomark _)) (pss_one (ps_raise W rfl (by rfl) R.mt R.ex PySem.F.excBase_ValueError (pa_cons (pe_join (pj_cons pe_str (pj_cons (pe_fmt (pe_globC T.deep (by rfl))) (pj_cons pe_str pj_nil))) (by decide)) pa_nil))) pss_nil))))
      (pss_one (ps_ret (pe_ix ix_list (pv 1) pe_int (fun _ _ => by rfl)))))), ?_⟩
    refine ⟨by decide, fun r0 h0 => ⟨(by show 1 ≤ sizeLine; decide), fun un hun => ?_⟩⟩
    have s0 : Same H (upd (upd H r0 (.lst [])) un (.lst [.ref r0])) := (Same.new h0).upd hun
    have nu : r0 ≠ un := ne_of_none (upd_same (H := H) (a := r0)) hun
    have U0 : UnAt (upd (upd H r0 (.lst [])) un (.lst [.ref r0])) un [r0] [[]] := UnAt.first upd_same (by rw [upd_ne nu]; exact upd_same)
    have sW0 : Same H (Wi (upd (upd H r0 (.lst [])) un (.lst [.ref r0])) [un, r0]) := Wi.free s0 fun a ha => by
      rcases List.mem_cons.mp ha with rfl | ha
      · exact (Same.new h0).free hun
      · rw [List.mem_singleton.mp ha]
        exact h0
    generalize upd (upd H r0 (.lst [])) un (.lst [.ref r0]) = H0 at U0 sW0
    have run_none : ∀ {i : Nat} {x : Str} {fs : Fr}, ws[i]? = some x → looseRun atomL [[]] ((ws.take i).map fun x => x.cps.toList) = some fs → looseStep atomL fs x.cps.toList = none → looseRun atomL [[]] (ws.map fun x => x.cps.toList) = none := fun {i x fs} hx h1 h2 => by
      have e : ws = ws.take i ++ (x :: ws.drop (i + 1)) := by
        obtain ⟨hi, ex⟩ := List.getElem?_eq_some_iff.mp hx
        rw [← ex, ← List.drop_eq_getElem_cons hi, List.take_append_drop]
      rw [e, List.map_append, loose_app, h1]
      show (looseStep atomL fs x.cps.toList).bind _ = none
      rw [h2]
      rfl
    have run_some : ∀ {i : Nat} {x : Str} {fs fs' : Fr}, ws[i]? = some x → looseRun atomL [[]] ((ws.take i).map fun x => x.cps.toList) = some fs → looseStep atomL fs x.cps.toList = some fs' → looseRun atomL [[]] ((ws.take (i + 1)).map fun x => x.cps.toList) = some fs' := fun {i x fs fs'} hx h1 h2 => by
      rw [List.take_add_one, hx, List.map_append, loose_app, h1]
      show looseRun atomL fs [x.cps.toList] = _
      rw [loose_one, h2]
    refine ⟨_, rfl, wl, rfl, ⟨_, SqL.of (Wi.in_ _ _ (sW0 _ _ hwl))⟩, for_list (K := K) (a := wl) (xs := ws.map V.str) (fun i σ' H' => i ≤ ws.length ∧ ∃ (rs : List Addr) (fs : Fr) (o : Option V), σ' = [some (.ref wl), some (.ref un), o] ∧ looseRun atomL [[]] ((ws.take i).map fun x => x.cps.toList) = some fs ∧ UnAt H' un rs fs ∧ Same H (Wi H' (un :: rs)) ∧ fs ≠ [] ∧ fs.length ≤ 61 ∧ ∀ g ∈ fs, g.length ≤ i)
      ⟨Nat.zero_le _, [r0], [[]], none, rfl, rfl, U0, sW0, List.cons_ne_nil _ _, by decide, fun g hg => by rw [List.mem_singleton.mp hg]; exact Nat.le_refl _⟩ (fun i σ' H' _ h => by
        obtain ⟨_, rs, fs, o, _, _, U, sW, _⟩ := h
        exact SqL.of (Wi.in_ _ _ (sW _ _ hwl))) (fun i v σ' H' hv h => ?_) (fun σ' H' h => ?_)⟩
    · obtain ⟨hi, rs, fs, o, rfl, run, U, sW, hne, few, lens⟩ := h
      rw [List.getElem?_map] at hv
      cases hx : ws[i]? with
      | none => rw [hx] at hv; cases hv
      | some x =>
        rw [hx] at hv
        cases hv
        have hi' : i < ws.length := (List.getElem?_eq_some_iff.mp hx).1
        have xok := hok x (List.mem_of_getElem? hx)
        have hl := U.fr.len
        -- behind the branches: what is open, ahead of the look at how many
        refine ⟨fun σ2 H2 => σ2 = [some (.ref wl), some (.ref un), some (.str x)] ∧ ∃ rs2 fs2, UnAt H2 un rs2 fs2 ∧ Same H (Wi H2 (un :: rs2)) ∧ looseStep atomL fs x.cps.toList = looseOk fs2 ∧ fs2 ≠ [], ?_, ?_⟩
        · refine ⟨_, rfl, rfl, _, rfl, ?_⟩
          rw [open_eq]
          refine ite2 (fun h1 => ?_) (fun h1 => ?_)
          · have h1 : x.cps.toList = [91] := (str_one x 91).mp (of_decide_eq_true h1)
            refine ⟨_, rfl, .inl ⟨rfl, _, SqL.of U.u⟩, by decide, fun r hr0 => ?_⟩
            have nu2 : un ≠ r := ne_of_none U.u hr0
            refine ⟨un, _, .ref r, rfl, rfl, by rw [upd_ne nu2]; exact U.u, ?_, rfl, r :: rs, [] :: fs, (U.push hr0).1, sW.trans (U.push hr0).2, ?_, List.cons_ne_nil _ _⟩
            · rw [List.length_reverse, List.length_map, hl]
              exact Nat.lt_of_le_of_lt few (by decide)
            · unfold looseStep
              rw [if_pos h1]
          · have h1 : ¬ x.cps.toList = [91] := fun z => h1 (decide_eq_true ((str_one x 91).mpr z))
            refine ⟨_, rfl, rfl, _, rfl, ?_⟩
            rw [shut_eq]
            refine ite2 (fun h2 => ?_) (fun h2 => ?_)
            · have h2 : x.cps.toList = [93] := (str_one x 93).mp (of_decide_eq_true h2)
              refine ⟨_, rfl, un, rs, fs, rfl, U, hne, few, fun g hg => Nat.le_trans (lens g hg) (by omega), fun rs' fs' H2 hc U' s' => ⟨rfl, rs', fs', U', sW.trans s', ?_, ?_⟩, fun hc => qE (run_none hx run ?_) _ (sW.trans Wi.in_)⟩
              · unfold looseStep
                rw [if_neg h1, if_pos h2, hc]
                rfl
              · match fs, hc with
                | top :: b :: r, hc =>
                  have hc' : (b ++ [PyData.list top]) :: r = fs' := Option.some.inj hc
                  rw [← hc']
                  exact List.cons_ne_nil _ _
              · unfold looseStep
                rw [if_neg h1, if_pos h2, hc]
                rfl
            · have h2 : ¬ x.cps.toList = [93] := fun z => h2 (decide_eq_true ((str_one x 93).mpr z))
              match rs, fs, U, hl, hne, few, lens, sW, run with
              | [], [], _, _, hne, _, _, _, _ => exact absurd rfl hne
              | [], _ :: _, _, hl, _, _, _, _, _ => cases hl
              | _ :: _, [], _, hl, _, _, _, _, _ => cases hl
              | r :: rs, g :: fs, U, hl, hne, few, lens, sW, run =>
                obtain ⟨⟨vs, e, p⟩, _⟩ := id U.fr
                refine ⟨_, rfl, _, rfl, un, _, _, .ref r, rfl, rfl, SqL.of U.u, last_ref r rs, .inl ⟨rfl, _, SqL.of e⟩, _, rfl, x, rfl, xok, fun d hd H2 s2 => ?_, fun hd H2 s2 => qE (run_none hx run ?_) _ ((sW.trans Wi.in_).trans s2)⟩
                · refine ⟨r, vs, _, rfl, rfl, s2 _ _ e, ?_, rfl, r :: rs, (g ++ [d]) :: fs, ((U.same s2).add (s2 _ _ e) (atV_pd hd)).1, (sW.trans (Wi.mono s2 _)).trans ((U.same s2).add (s2 _ _ e) (atV_pd hd)).2, ?_, List.cons_ne_nil _ _⟩
                  · have : vs.length = g.length := Paired.length p
                    have := lens g List.mem_cons_self
                    have : (29000 : Nat) < sizeLine := by decide
                    omega
                  · unfold looseStep
                    rw [if_neg h1, if_neg h2, hd]
                    rfl
                · unfold looseStep
                  rw [if_neg h1, if_neg h2, hd]
                  rfl
        · rintro σ2 H2 ⟨rfl, rs2, fs2, U2, sW2, step, hne2⟩
          have hl2 := U2.fr.len
          have glen : ((((rs2.map V.ref).reverse).length : Nat) : Int) = (fs2.length : Int) := by rw [List.length_reverse, List.length_map, hl2]
          refine ⟨_, rfl, un, _, rfl, .inl (SqL.of U2.u), _, _, rfl, rfl, _, _, rfl, rfl, _, rfl, ?_⟩
          rw [glen]
          refine ite2 (fun h1 => ?_) (fun h1 => ?_)
          · have h1 : (60 : Int) + 1 < fs2.length := of_decide_eq_true h1
            refine ⟨_, rfl, by decide +kernel, .inr ⟨60, rfl, by decide, _, rfl, by decide +kernel, _, rfl, by decide +kernel, by show 1 ≤ sizeLine; decide, qE (run_none hx run ?_) _ (sW2.trans Wi.in_)⟩⟩
            rw [step]
            unfold looseOk
            rw [if_pos (by omega)]
          · have h1 : ¬ (60 : Int) + 1 < fs2.length := fun z => h1 (decide_eq_true z)
            have st : looseStep atomL fs x.cps.toList = some fs2 := by rw [step]; exact looseOk_of (by omega)
            refine ⟨hi', rs2, fs2, _, rfl, run_some hx run st, U2, sW2, hne2, by omega, (loose_step_len lens st).1⟩
    · obtain ⟨_, rs, fs, o, rfl, run, U, sW, hne, few, lens⟩ := h
      rw [List.length_map, List.take_of_length_le (Nat.le_refl _)] at run
      have hrs : rs ≠ [] := fun z => by
        have := U.fr.len
        rw [z] at this
        exact hne (List.length_eq_zero_iff.mp this.symm)
      obtain ⟨r, g, vs, e1, e2, e3, e4⟩ := U.fr.last hrs
      refine ⟨_, rfl, un, _, _, .ref r, rfl, rfl, SqL.of U.u, ?_, q fs g run e2 ?_ r vs H' (sW.trans Wi.in_) e3 (L2.Paired.mapP e4 fun _ _ z => PD.same Wi.in_ z)⟩
      · refine atI_nat (j := 0) ?_
        rw [← List.head?_eq_getElem?, List.head?_reverse, List.getLast?_map, e1]
        rfl
      · have := lens g (List.mem_of_getLast? e2)
        rw [List.length_map] at this
        omega
end
end Net

namespace Net
open PySem L2 L2.Tx
/-! ### a text's words; papers shown -/
def wordsL (l : List Nat) : List (List Nat) := (partA [] l).filter fun t => decide (t ≠ [32])
theorem part_len : ∀ (l w : List Nat), (partA w l).length ≤ 2 * l.length + 1
  | [], w => by
    show (flushW w).length ≤ _
    unfold flushW
    split <;> simp
  | c :: r, w => by
    unfold partA
    split
    · have := part_len r []
      have h : (flushW w).length ≤ 1 := by
        unfold flushW
        split <;> simp
      rw [List.length_append, List.length_cons, List.length_cons]
      omega
    · have := part_len r (w ++ [c])
      rw [List.length_cons]
      omega
theorem mem_flat_len {p : List Nat} : ∀ {L : List (List Nat)}, p ∈ L → p.length ≤ L.flatten.length
  | [], h => nomatch h
  | q :: L, h => by
    rw [List.flatten_cons, List.length_append]
    rcases List.mem_cons.mp h with rfl | h
    · omega
    · have := mem_flat_len h
      omega
theorem flat_filter_len (f : List Nat → Bool) : ∀ L : List (List Nat), ((L.filter f).map fun p => p.length + 1).sum ≤ L.flatten.length + L.length
  | [] => Nat.le_refl _
  | q :: L => by
    have := flat_filter_len f L
    rw [List.flatten_cons, List.length_append, List.length_cons]
    by_cases h : f q = true
    · rw [List.filter_cons_of_pos h, List.map_cons, List.sum_cons]
      omega
    · rw [List.filter_cons_of_neg h]
      omega
theorem words_sum (l : List Nat) : ((wordsL l).map fun p => p.length + 1).sum ≤ 3 * l.length + 1 := by
  have h1 := flat_filter_len (fun t => decide (t ≠ [32])) (partA [] l)
  rw [part_flat, List.nil_append] at h1
  have h2 := part_len l []
  unfold wordsL
  omega
theorem words_len (l : List Nat) : (wordsL l).length ≤ 2 * l.length + 1 := Nat.le_trans (List.length_filter_le _ _) (part_len l [])
theorem words_ok {x : Str} (h : okX x) : ∀ y ∈ (wordsL x.cps.toList).map mkS, okX y := fun y hy => by
  obtain ⟨p, hp, rfl⟩ := List.mem_map.mp hy
  have hp' : p ∈ partA [] x.cps.toList := (List.mem_filter.mp hp).1
  have hf : (partA [] x.cps.toList).flatten = x.cps.toList := by rw [part_flat]; rfl
  refine ⟨?_, fun c hc => h.2 c ?_⟩
  · have := mem_flat_len hp'
    rw [hf, len_eq] at this
    rw [mkS_len]
    exact Nat.le_trans this h.1
  · rw [← hf]
    exact List.mem_flatten.mpr ⟨p, hp', hc⟩
theorem replL_len (c : Nat) (z : List Nat) (hz : z.length = 3) : ∀ l : List Nat, (replL c z l).length ≤ 3 * l.length
  | [] => Nat.le_refl _
  | d :: r => by
    have := replL_len c z hz r
    rw [replL_cons, List.length_append, List.length_cons]
    split
    · omega
    · simp
      omega
/-- how long what is shown is -/
def wgt (ds : List PyData) : Nat := (ds.map fun d => (showP shA d).length + 1).sum
def phi (fs : Fr) : Nat := (fs.map fun f => wgt f + 2).sum
theorem wgt_cons (d : PyData) (ds : List PyData) : wgt (d :: ds) = (showP shA d).length + 1 + wgt ds := rfl
theorem wgt_snoc (d : PyData) : ∀ ds : List PyData, wgt (ds ++ [d]) = wgt ds + ((showP shA d).length + 1)
  | [] => by simp [wgt]
  | e :: ds => by
    rw [List.cons_append, wgt_cons, wgt_snoc d ds, wgt_cons]
    omega
theorem showR_len : ∀ ds : List PyData, (showR shA ds).length = wgt ds
  | [] => by rw [showR_nil]; rfl
  | d :: ds => by
    rw [showR_cons, wgt_cons, List.length_cons, List.length_append, showR_len ds]
    omega
theorem showJ_len (ds : List PyData) : (showJ shA ds).length ≤ wgt ds := by
  cases ds with
  | nil => rw [showJ_nil]; exact Nat.zero_le _
  | cons d ds =>
    rw [showJ_cons, List.length_append, showR_len, wgt_cons]
    omega
theorem showL_len (ds : List PyData) : (showP shA (.list ds)).length ≤ wgt ds + 2 := by
  rw [show_list, List.length_cons, List.length_append, List.length_singleton]
  have := showJ_len ds
  omega
theorem phi_cons (f : List PyData) (fs : Fr) : phi (f :: fs) = wgt f + 2 + phi fs := rfl
theorem phi_step {fs fs' : Fr} {t : List Nat} (e : looseStep atomL fs t = some fs') : phi fs' ≤ phi fs + (t.length + 1) := by
  unfold looseStep at e
  split at e
  · rename_i ht
    obtain ⟨rfl, hl⟩ := looseOk_some e
    rw [phi_cons, ht]
    show 0 + 2 + phi fs ≤ phi fs + 2
    omega
  · split at e
    · rename_i ht
      match fs, e with
      | [], e => cases e
      | [_], e => cases e
      | top :: b :: r, e =>
        obtain ⟨rfl, hl⟩ := looseOk_some (show looseOk ((b ++ [.list top]) :: r) = some fs' from e)
        rw [phi_cons, phi_cons, phi_cons, wgt_snoc, ht]
        have := showL_len top
        show _ ≤ _ + 2
        omega
    · cases ea : atomL t with
      | none => rw [ea] at e; cases e
      | some d =>
        rw [ea] at e
        obtain ⟨rfl, hl⟩ := looseOk_some (show looseOk (addTop d fs) = some fs' from e)
        obtain ⟨a1, a2⟩ := atom_ok.back t d ea
        cases fs with
        | nil => exact Nat.zero_le _
        | cons f r =>
          show phi ((f ++ [d]) :: r) ≤ _
          rw [phi_cons, phi_cons, wgt_snoc, show_at a1, a2]
          omega
theorem phi_run : ∀ {ts : List (List Nat)} {fs fs' : Fr}, looseRun atomL fs ts = some fs' → phi fs' ≤ phi fs + (ts.map fun p => p.length + 1).sum
  | [], fs, fs', h => by cases h; exact Nat.le_add_right _ _
  | t :: ts, fs, fs', h => by
    have h' : (looseStep atomL fs t).bind (fun q => looseRun atomL q ts) = some fs' := h
    cases e : looseStep atomL fs t with
    | none => rw [e] at h'; cases h'
    | some f1 =>
      rw [e] at h'
      have h1 := phi_step e
      have h2 := phi_run (show looseRun atomL f1 ts = some fs' from h')
      rw [List.map_cons, List.sum_cons]
      omega
theorem phi_last : ∀ {fs : Fr} {f : List PyData}, fs.getLast? = some f → wgt f ≤ phi fs
  | [], _, h => nomatch h
  | [g], f, h => by
    have : g = f := by simpa using h
    rw [← this, phi_cons]
    omega
  | g :: g2 :: r, f, h => by
    have := phi_last (fs := g2 :: r) (f := f) (by simpa using h)
    rw [phi_cons]
    omega
theorem join_show (ds : List PyData) : Str.join " " (ds.map fun d => mkS (showP shA d)) = mkS (showJ shA ds) := by
  refine str_ext ?_
  have e : (ds.map fun d => mkS (showP shA d)) = (ds.map fun d => showP shA d).map mkS := by rw [List.map_map]; rfl
  have hs : (" " : Str).cps.toList = [32] := by decide +kernel
  rw [e, join_glue, hs]
  show _ = showJ shA ds
  have hJ : ∀ ds : List PyData, ds ≠ [] → 32 :: glueL [32] (ds.map fun d => showP shA d) = showR shA ds := fun ds => by
    induction ds with
    | nil => intro h; exact absurd rfl h
    | cons d ds ih =>
      intro _
      rw [showR_cons]
      cases ds with
      | nil => rw [showR_nil, List.append_nil]; rfl
      | cons e es =>
        rw [← ih (List.cons_ne_nil _ _)]
        show 32 :: (showP shA d ++ ([32] ++ glueL [32] ((e :: es).map fun d => showP shA d))) = _
        rfl
  cases ds with
  | nil => rw [showJ_nil]; rfl
  | cons d ds =>
    have := hJ (d :: ds) (List.cons_ne_nil _ _)
    rw [showR_cons, ← showJ_cons] at this
    exact (List.cons.inj this).2
def spSplit : Sp := fun vs H Q _ => ∃ (x : Str), vs = [.str x] ∧ okX x ∧ ∀ l H', Same H H' → H' l = some (.lst (((wordsL x.cps.toList).map mkS).map V.str)) → Q (.ref l) H'
def spShowP (m : Nat) : Sp := fun vs H Q _ => ∃ (v : V) (n : Nat) (d : PyData), vs = [v] ∧ PD H n v d ∧ VP shA atomL m d ∧ (showP shA d).length ≤ 40000 ∧ ∀ H', Same H H' → Q (.str (mkS (showP shA d))) H'
/-- the paper that the program reads -/
def Reads (x : Str) (d : PyData) : Prop := ∃ fs, looseRun atomL [[]] (wordsL x.cps.toList) = some fs ∧ fs.getLast? = some [d] ∧ showP shA d = x.cps.toList
def spPaperX (ct : Addr) : Sp := fun vs H Q E => ∃ (x : Str), vs = [.str x] ∧ okX x ∧ (∀ d v H', Reads x d → VP shA atomL 60 d → Same H H' → PD H' 60 v d → Q v H') ∧ ((∀ d, ¬ Reads x d) → ∀ H', Same H H' → E (.ref ct) none H')
theorem b1_eq : (" [ " : Str).cps.toList = [32, 91, 32] := by decide +kernel
theorem b2_eq : (" ] " : Str).cps.toList = [32, 93, 32] := by decide +kernel
theorem blank_eq : (" " : Str) = ⟨#[32]⟩ := by decide +kernel
section
variable {P : Program} {w : World} {K : PySem.W.Frag} {mg : Str → Option Value} {base : Heap} {ct : Addr}
theorem sc_split : FnScope ["text", "words"] ["text"] (defScope s_split_text) := ⟨rfl, rfl, rfl, by decide +kernel, rfl, by decide +kernel, by decide +kernel⟩
theorem ok_split {f : Addr} {fd : FuncData} (F : Fun K "split_text" "split_text" s_split_text f fd) (T : Txt K mg) : FnOk P w K mg base CX0 1 f fd ["text"] spSplit := by
  have nd_0 : List.Nodup (["word"] : List Str) := by decide +kernel
  refine F.okT sc_split (by rfl) (fun vs H Q E h => ?_) (fun cdv A outer s H vs Q E hr h s1 tk I => ?_)
  · obtain ⟨x, rfl, _⟩ := h
    rfl
  · obtain ⟨x, rfl, hx, q⟩ := h
    refine pst_set (i := 1) sc_split.nd rfl (Or.inl rfl)
      (pet_bm PySem.F.plainAttrs_str PySem.F.slot_str_split PySem.F.type_str_split mt_split (pet_replace (by decide +kernel) (pet_replace (by decide +kernel) (PE.tok (pv 0)))) (pa_cons pe_str pa_nil))
      (PSs.nox (pss_one (ps_ret (pe_comp (N := ["word"]) (xs := 1) (js := []) rfl (compScope_of rfl) (pi_list (pv 1)) (fun _ _ _ _ => pg_name (i := 0) nd_0 rfl (Or.inl rfl)) (fun _ _ _ _ => pts_one (pt_cmpR op_ne (pv 0) pe_str (nomark _))) (fun _ _ _ _ => pv 0))))) tk I ?_
    have hl := len_eq x
    have h0 := hx.1
    have l1 : (" [ " : Str).length = 3 := by decide +kernel
    have l2 : (" ] " : Str).length = 3 := by decide +kernel
    have e1 : (PySem.Txt.replace x "[" " [ ").cps.toList = replL 91 [32, 91, 32] x.cps.toList := by
      rw [open_eq, replace_any _ _ _ (by decide +kernel), b1_eq]
    have n1 : (PySem.Txt.replace x "[" " [ ").length ≤ 3 * x.length := by
      rw [← len_eq, e1, ← hl]
      exact replL_len _ _ rfl _
    have e2 : (PySem.Txt.replace (PySem.Txt.replace x "[" " [ ") "]" " ] ").cps.toList = spreadL x.cps.toList := by
      rw [shut_eq, replace_any _ _ _ (by decide +kernel), b2_eq, e1]
      rfl
    have n2 : (PySem.Txt.replace (PySem.Txt.replace x "[" " [ ") "]" " ] ").length ≤ 3 * (3 * x.length) := by
      have : (PySem.Txt.replace (PySem.Txt.replace x "[" " [ ") "]" " ] ").length = (replL 93 [32, 93, 32] (PySem.Txt.replace x "[" " [ ").cps.toList).length := by
        rw [← len_eq, shut_eq, replace_any _ _ _ (by decide +kernel), b2_eq]
      rw [this]
      have h3 := replL_len 93 [32, 93, 32] rfl (PySem.Txt.replace x "[" " [ ").cps.toList
      rw [len_eq] at h3
      omega
    have e3 : PySem.Txt.split (PySem.Txt.replace (PySem.Txt.replace x "[" " [ ") "]" " ] ") " " = (cutA 32 [] (spreadL x.cps.toList)).map mkS := by
      rw [blank_eq, split_any _ _ (by decide +kernel), e2]
    have n3 : (cutA 32 [] (spreadL x.cps.toList)).length ≤ 80000 := by
      have h3 := cutA_len 32 (spreadL x.cps.toList) []
      rw [← e2, len_eq] at h3
      rw [← e2]
      omega
    refine ⟨_, rfl, _, rfl, by rw [l1]; omega, _, rfl, by rw [l2]; omega, rfl, _, _, rfl, rfl, by decide +kernel, Nat.le_trans (Nat.add_le_add_right n2 2) (by
      have : 3 * (3 * x.length) + 2 ≤ 72002 := by omega
      exact Nat.le_trans this (by decide)), fun l hl0 => ?_⟩
    rw [e3]
    have s1 : Same H (upd H l (.lst (((cutA 32 [] (spreadL x.cps.toList)).map mkS).map V.str))) := Same.new hl0
    have ec : (upd H l (.lst (((cutA 32 [] (spreadL x.cps.toList)).map mkS).map V.str))) l = some (.lst (((cutA 32 [] (spreadL x.cps.toList)).map mkS).map V.str)) := upd_same
    generalize upd H l (.lst (((cutA 32 [] (spreadL x.cps.toList)).map mkS).map V.str)) = H1 at s1 ec
    generalize hc : cutA 32 [] (spreadL x.cps.toList) = ps at n3 ec
    refine ⟨_, rfl, l, rfl, ⟨_, SqL.of ec⟩, comp_list (K := K) (ys := (ps.map mkS).map V.str) (fun i acc σ' H' => H' = H1 ∧ acc = (((ps.take i).filter fun t => decide (t ≠ [])).map mkS).map V.str ∧ ∃ o, σ' = [o])
      ⟨rfl, rfl, none, rfl⟩ (fun i acc σ' H' h => ?_) ?_ (fun i acc σ' H' _ h => by rw [h.1]; exact SqL.of ec) (fun i v acc σ' H' hv h => ?_) (fun acc σ' H' h p hp => ?_)⟩
    · rw [h.2.1, List.length_map, List.length_map]
      refine Nat.le_trans (List.length_filter_le _ _) ?_
      rw [List.length_take]
      omega
    · rw [List.length_map, List.length_map]
      exact Nat.le_trans n3 (by decide)
    · obtain ⟨rfl, rfl, o, rfl⟩ := h
      rw [List.getElem?_map, List.getElem?_map] at hv
      cases hp : ps[i]? with
      | none => rw [hp] at hv; cases hv
      | some p =>
        rw [hp] at hv
        cases hv
        refine ⟨_, rfl, rfl, _, rfl, ?_⟩
        rw [empty_eq]
        have tk1 : ps.take (i + 1) = ps.take i ++ [p] := by rw [List.take_add_one, hp]; rfl
        refine ite2 (fun h1 => ?_) (fun h1 => ?_)
        · have hpn : p ≠ [] := fun z => by
            rw [z] at h1
            exact absurd h1 (by simp)
          refine ⟨_, rfl, rfl, ?_, _, rfl⟩
          rw [tk1, List.filter_append, List.filter_cons_of_pos (by simp [hpn]), List.map_append, List.map_append]
          rfl
        · have hpn : p = [] := by
            by_cases z : p = []
            · exact z
            · refine absurd ?_ h1
              have : ¬ V.str (mkS p) = V.str (mkS []) := fun y => z (by
                injection y with y
                have := congrArg (fun q : Str => q.cps.toList) y
                exact this)
              rw [decide_eq_false this]
              rfl
          refine ⟨rfl, ?_, _, rfl⟩
          rw [tk1, List.filter_append, hpn, List.filter_cons_of_neg (by simp), List.filter_nil, List.append_nil]
    · obtain ⟨rfl, rfl, o, rfl⟩ := h
      refine q p _ (s1.upd hp) ?_
      rw [upd_same]
      have et : ps.take ((ps.map mkS).map V.str).length = ps := List.take_of_length_le (by rw [List.length_map, List.length_map]; exact Nat.le_refl _)
      rw [et, ← hc, words_of _ [] (fun _ z => nomatch z)]
      rfl
theorem sc_showP : FnScope ["paper", "within"] ["paper"] (defScope s_show_paper) := ⟨rfl, rfl, rfl, by decide +kernel, rfl, by decide +kernel, by decide +kernel⟩
theorem ok_showP {f : Addr} {fd : FuncData} {m : Nat} (F : Fun K "show_paper" "show_paper" s_show_paper f fd) (T : Txt K mg) (cw : Can P w K mg base 1 "is_whole" ["thing"] spWholeD) (cn : Can P w K mg base 2 "is_name" ["word"] spName)
    (cs : Can P w K mg base (m + 3) "show_paper" ["paper"] (spShowP m)) : FnOk P w K mg base CX0 (m + 4) f fd ["paper"] (spShowP (m + 1)) := by
  have nd_0 : List.Nodup (["part"] : List Str) := by decide +kernel
  refine F.ok sc_showP (fun vs H Q E h => ?_) (fun cdv A outer s H vs Q E hr h => ?_)
  · obtain ⟨v, n, d, rfl, _⟩ := h
    rfl
  · obtain ⟨v, n, d, rfl, pd, vp, hlen, q⟩ := h
    have r1 : Room 1 _ := hr.mono (by omega)
    have r2 : Room 2 _ := hr.mono (by omega)
    refine ⟨_, (pss_cons (ps_if (pt_val (pe_callC cw r1 (by rfl) (pa_cons (pv 0) pa_nil))) (pss_one (ps_ret (pe_callTy call_str_int (by rfl) T.str b_str (pa_cons (pv 0) pa_nil)))) pss_nil)
      (pss_cons (ps_if (pt_val (pe_callB call_isinst (by rfl) T.isi b_isi (pa_cons (pv 0) (pa_cons (pe_ty T.list (by rfl) b_list) pa_nil)))) (pss_cons (ps_set (i := 1) sc_showP.nd rfl (Or.inl rfl) (pe_bm PySem.F.plainAttrs_str PySem.F.slot_str_join PySem.F.type_str_join mt_join pe_str (pa_cons (pe_comp (N := ["part"]) (xs := 1) (js := []) rfl (compScope_of rfl) (pi_list (pv 0)) (fun _ _ _ _ => pg_name (i := 0) nd_0 rfl (Or.inl rfl)) (fun _ _ _ _ => pts_nil) (fun _ _ _ _ => pe_callC cs hr (by rfl) (pa_cons (pv 0) pa_nil))) pa_nil)))
      (pss_one (ps_ret (pe_join (pj_cons pe_str (pj_cons (pe_fmt (pv 1)) (pj_cons pe_str pj_nil))) (by decide))))) pss_nil)
      (pss_cons (ps_if (pt_val (pe_callC cn r2 (by rfl) (pa_cons (pv 0) pa_nil))) (pss_one (ps_ret (pv 0))) pss_nil)
      (pss_one ps_never)))), ?_⟩
    obtain ⟨t, ty, kl, ks⟩ := PD.ty (K := K) pd
    refine ⟨_, rfl, v, n, d, rfl, pd, _, rfl, ?_⟩
    rcases vp.get with ⟨h1, h2⟩ | ⟨m', ds, em, rfl, hvs⟩
    · cases d <;> try (cases h1; done)
      · rename_i i
        have ev := pd.int_of
        subst ev
        have hlog : i.natAbs.log2 < 1920 := by
          rcases atom_at h2 with ⟨_, e⟩ | ⟨_, hk, e⟩
          · cases e
          · have : i = valL (shA (.int i)) := by injection e
            rw [this]
            exact num_log hk
        refine iteT ⟨_, rfl, i, rfl, hlog, ?_⟩
        have z := q H (Same.refl _)
        rw [show_at rfl] at z
        have e : mkS (shA (.int i)) = numT i := cps_mkS _
        rw [e] at z
        exact z
      · rename_i x
        obtain ⟨x', rfl, e⟩ := pd.str_of rfl
        cases e
        have hn : nameB x = true := by
          rcases atom_at h2 with ⟨hn, _⟩ | ⟨_, _, e⟩
          · have : mkS (shA (.str x)) = x := cps_mkS _
            rw [this] at hn
            exact hn
          · cases e
        refine iteF ⟨_, rfl, _, "list", t, _, rfl, ty, kl, _, rfl, iteF ⟨_, rfl, x, rfl, ?_, fun H1 s1 => ⟨_, rfl, ?_⟩⟩⟩
        · have := name_len hn
          exact Nat.le_trans this.2 (by decide)
        · rw [hn]
          refine iteT ⟨_, rfl, ?_⟩
          have z := q H1 s1
          rw [show_at rfl] at z
          have e : mkS (shA (.str x)) = x := cps_mkS _
          rw [e] at z
          exact z
    · have em : m' = m := by omega
      subst em
      obtain ⟨n', a, xs, rfl, rfl, ha, pr⟩ := pd.list_of
      have hxl : xs.length = ds.length := Paired.length pr
      have hw : wgt ds ≤ 40000 := by
        rw [show_list, List.length_cons, List.length_append, List.length_singleton] at hlen
        cases ds with
        | nil => exact Nat.zero_le _
        | cons d ds =>
          rw [showJ_cons, List.length_append, showR_len] at hlen
          rw [wgt_cons]
          omega
      have hdl : ∀ ds : List PyData, ds.length ≤ wgt ds := fun ds => by
        induction ds with
        | nil => exact Nat.le_refl _
        | cons d ds ih => rw [wgt_cons, List.length_cons]; omega
      have hdm : ∀ (ds : List PyData) (d : PyData), d ∈ ds → (showP shA d).length ≤ wgt ds := fun ds d hd => by
        induction ds with
        | nil => cases hd
        | cons e ds ih =>
          rw [wgt_cons]
          rcases List.mem_cons.mp hd with rfl | hd
          · omega
          · have := ih hd
            omega
      have hsum : ∀ ds : List PyData, ((ds.map fun d => mkS (showP shA d)).map (·.length)).sum + (ds.map fun d => mkS (showP shA d)).length ≤ wgt ds := fun ds => by
        induction ds with
        | nil => exact Nat.le_refl _
        | cons e ds ih =>
          rw [wgt_cons, List.map_cons, List.map_cons, List.sum_cons, List.length_cons, mkS_len]
          omega
      have hmany : ds.length ≤ 40000 := Nat.le_trans (hdl ds) hw
      refine iteF ⟨_, rfl, _, "list", t, _, rfl, ty, kl, _, rfl, iteT ⟨rfl, ?_⟩⟩
      refine ⟨_, rfl, a, rfl, ⟨_, SqL.of ha⟩, comp_list (K := K) (ys := xs) (fun i acc σ' H' => Same H H' ∧ acc = (ds.take i).map (fun d => V.str (mkS (showP shA d))) ∧ ∃ o, σ' = [o])
        ⟨Same.refl _, rfl, none, rfl⟩ (fun i acc σ' H' h => ?_) (by rw [hxl]; exact Nat.le_trans hmany (by decide)) (fun i acc σ' H' _ h => SqL.of (h.1 _ _ ha)) (fun i x acc σ' H' hx h => ?_) (fun acc σ' H' h p hp => ?_)⟩
      · rw [h.2.1, List.length_map, List.length_take]
        omega
      · obtain ⟨s1, rfl, o, rfl⟩ := h
        obtain ⟨d, hd, pdx⟩ := pair_get pr hx
        refine ⟨_, rfl, x, n', d, rfl, pdx.same s1, hvs d (List.mem_of_getElem? hd), Nat.le_trans (hdm ds d (List.mem_of_getElem? hd)) hw, fun H2 s2 => ⟨s1.trans s2, ?_, _, rfl⟩⟩
        rw [List.take_add_one, hd, List.map_append]
        rfl
      · obtain ⟨s1, rfl, o, rfl⟩ := h
        refine ⟨_, p, ds.map fun d => mkS (showP shA d), rfl, rfl, SqL.of ?_, by decide +kernel, Nat.le_trans (hsum ds) (Nat.le_trans hw (by decide)), ?_⟩
        · rw [upd_same, hxl, List.take_of_length_le (Nat.le_refl _), List.map_map]
          rfl
        rw [join_show]
        have hj : (mkS (showJ shA ds)).length ≤ 40000 := by
          rw [mkS_len]
          exact Nat.le_trans (showJ_len ds) hw
        refine ⟨_, rfl, by decide +kernel, _, rfl, .inl ⟨_, rfl, Nat.le_trans hj (by decide), _, rfl, Nat.le_trans hj (by decide), _, rfl, by decide +kernel, ?_⟩⟩
        have z := q _ (s1.upd (o := .lst ((ds.take xs.length).map fun d => V.str (mkS (showP shA d)))) hp)
        have e : ("[" : Str) ++ (mkS (showJ shA ds) ++ (("]" : Str) ++ Str.empty)) = mkS (showP shA (.list ds)) := by
          refine str_ext ?_
          rw [cps_app, cps_app, cps_app, open_eq, shut_eq]
          show [91] ++ (showJ shA ds ++ ([93] ++ [])) = showP shA (.list ds)
          rw [show_list]
          rfl
        rw [← e] at z
        exact z
theorem ok_showP0 {f : Addr} {fd : FuncData} (F : Fun K "show_paper" "show_paper" s_show_paper f fd) (T : Txt K mg) (cw : Can P w K mg base 1 "is_whole" ["thing"] spWholeD) (cn : Can P w K mg base 2 "is_name" ["word"] spName) : FnOk P w K mg base CX0 3 f fd ["paper"] (spShowP 0) := by
  refine F.ok sc_showP (fun vs H Q E h => ?_) (fun cdv A outer s H vs Q E hr h => ?_)
  · obtain ⟨v, n, d, rfl, _⟩ := h
    rfl
  · obtain ⟨v, n, d, rfl, pd, vp, hlen, q⟩ := h
    have r1 : Room 1 _ := hr.mono (by omega)
    refine ⟨_, (pss_cons (ps_if (pt_val (pe_callC cw r1 (by rfl) (pa_cons (pv 0) pa_nil))) (pss_one (ps_ret (pe_callTy call_str_int (by rfl) T.str b_str (pa_cons (pv 0) pa_nil)))) pss_nil)
      (pss_cons (ps_if (pt_val (pe_callB call_isinst (by rfl) T.isi b_isi (pa_cons (pv 0) (pa_cons (pe_ty T.list (by rfl) b_list) pa_nil)))) pss_never pss_nil)
      (pss_cons (ps_if (pt_val (pe_callC cn hr (by rfl) (pa_cons (pv 0) pa_nil))) (pss_one (ps_ret (pv 0))) pss_nil)
      (pss_one ps_never)))), ?_⟩
    obtain ⟨t, ty, kl, ks⟩ := PD.ty (K := K) pd
    refine ⟨_, rfl, v, n, d, rfl, pd, _, rfl, ?_⟩
    rcases vp.get with ⟨h1, h2⟩ | ⟨m', ds, em, _⟩
    · cases d <;> try (cases h1; done)
      · rename_i i
        have ev := pd.int_of
        subst ev
        have hlog : i.natAbs.log2 < 1920 := by
          rcases atom_at h2 with ⟨_, e⟩ | ⟨_, hk, e⟩
          · cases e
          · have : i = valL (shA (.int i)) := by injection e
            rw [this]
            exact num_log hk
        refine iteT ⟨_, rfl, i, rfl, hlog, ?_⟩
        have z := q H (Same.refl _)
        rw [show_at rfl] at z
        have e : mkS (shA (.int i)) = numT i := cps_mkS _
        rw [e] at z
        exact z
      · rename_i x
        obtain ⟨x', rfl, e⟩ := pd.str_of rfl
        cases e
        have hn : nameB x = true := by
          rcases atom_at h2 with ⟨hn, _⟩ | ⟨_, _, e⟩
          · have : mkS (shA (.str x)) = x := cps_mkS _
            rw [this] at hn
            exact hn
          · cases e
        refine iteF ⟨_, rfl, _, "list", t, _, rfl, ty, kl, _, rfl, iteF ⟨_, rfl, x, rfl, ?_, fun H1 s1 => ⟨_, rfl, ?_⟩⟩⟩
        · have := name_len hn
          exact Nat.le_trans this.2 (by decide)
        · rw [hn]
          refine iteT ⟨_, rfl, ?_⟩
          have z := q H1 s1
          rw [show_at rfl] at z
          have e : mkS (shA (.str x)) = x := cps_mkS _
          rw [e] at z
          exact z
    · omega
theorem can_showP (hS : ∃ f fd, Fun K "show_paper" "show_paper" s_show_paper f fd ∧ mg "show_paper" = some (.ref f)) (T : Txt K mg) (cw : Can P w K mg base 1 "is_whole" ["thing"] spWholeD) (cn : Can P w K mg base 2 "is_name" ["word"] spName) :
    ∀ m : Nat, Can P w K mg base (m + 3) "show_paper" ["paper"] (spShowP m)
  | 0 => by
    obtain ⟨f, fd, F, hm⟩ := hS
    exact ⟨f, fd, ok_showP0 F T cw cn, hm, F.kp, F.binds fun _ _ _ _ _ _ us hl => match us, hl with | [_], _ => rfl⟩
  | m + 1 => by
    have ih := can_showP hS T cw cn m
    obtain ⟨f, fd, F, hm⟩ := hS
    exact ⟨f, fd, ok_showP F T cw cn ih, hm, F.kp, F.binds fun _ _ _ _ _ _ us hl => match us, hl with | [_], _ => rfl⟩
theorem sc_rPaper : FnScope ["text", "papers"] ["text"] (defScope s_read_paper) := ⟨rfl, rfl, rfl, by decide +kernel, rfl, by decide +kernel, by decide +kernel⟩
theorem ok_rPaper {f : Addr} {fd : FuncData} (F : Fun K "read_paper" "read_paper" s_read_paper f fd) (T : Txt K mg) (R : Ecs K mg ct) (cr : CanX P w K mg base 4 "read_words" ["words"] (spWordsX ct)) (cp : Can P w K mg base 1 "split_text" ["text"] spSplit) (cs : Can P w K mg base 63 "show_paper" ["paper"] (spShowP 60)) :
    FnOk P w K mg base (CXF P w) 64 f fd ["text"] (spPaperX ct) := by
  refine F.okX sc_rPaper (fun vs H Q E h => ?_) (fun cdv A outer s H vs Q E hr W h => ?_)
  · obtain ⟨x, rfl, _⟩ := h
    rfl
  · obtain ⟨x, rfl, hx, q, qE⟩ := h
    have r1 : Room 1 _ := hr.mono (by decide)
    have r4 : Room 4 _ := hr.mono (by decide)
    refine ⟨_, (pss_cons (ps_set (i := 1) sc_rPaper.nd rfl (Or.inl rfl) (pe_callX cr W r4 (by rfl) (pa_cons (pe_callC cp r1 (by rfl) (pa_cons (pv 0) pa_nil)) pa_nil)))
      (pss_cons (ps_if (PW.pt (pw_or (pt_cmpR op_ne (pe_callB call_len_seq (by rfl) T.len b_len (pa_cons (pv 1) pa_nil)) pe_int (nomark _)) (pw_or1 (pt_cmpR op_ne (pe_callC cs hr (by rfl) (pa_cons (pe_ix ix_list (pv 1) pe_int (fun _ _ => by rfl)) pa_nil)) (pv 0) (nomark _))))) (pss_one (ps_raise W rfl (by rfl) R.mt R.ex PySem.F.excBase_ValueError (pa_cons pe_str pa_nil))) pss_nil)
      (pss_one (ps_ret (pe_ix ix_list (pv 1) pe_int (fun _ _ => by rfl)))))), ?_⟩
    have ewl : ((wordsL x.cps.toList).map mkS).map (fun x => x.cps.toList) = wordsL x.cps.toList := by
      rw [List.map_map]
      exact List.map_id _
    refine ⟨_, rfl, x, rfl, hx, fun l H1 s1 hl => ⟨l, (wordsL x.cps.toList).map mkS, rfl, hl, words_ok hx, ?_, fun fs f0 run last flen r vs H2 s2 hr2 pr => ?_, fun run H2 s2 => qE ?_ _ (s1.trans s2)⟩⟩
    · have := words_len x.cps.toList
      rw [len_eq] at this
      have := hx.1
      rw [List.length_map]
      omega
    · rw [ewl] at run
      have hvl : vs.length = f0.length := Paired.length pr
      refine ⟨_, rfl, r, _, rfl, .inl (SqL.of hr2), rfl, _, rfl, ?_⟩
      by_cases h1 : f0.length = 1
      · obtain ⟨d, rfl⟩ : ∃ d, f0 = [d] := by
          match f0, h1 with
          | [d], _ => exact ⟨d, rfl⟩
        obtain ⟨v, rfl⟩ : ∃ v, vs = [v] := by
          match vs, hvl with
          | [v], _ => exact ⟨v, rfl⟩
        cases pr with
        | cons pd _ =>
        have v0 : FV shA atomL [[]] := ⟨(fun _ z => nomatch z), by decide, trivial⟩
        have fv := loose_fv atom_ok v0 (List.cons_ne_nil _ _) run
        have vd : VP shA atomL 60 d := fv_last fv.1 last d List.mem_cons_self
        have hs : (showP shA d).length ≤ 40000 := by
          have h2 := phi_run run
          have h3 := phi_last last
          have h4 := words_sum x.cps.toList
          rw [len_eq] at h4
          have h5 : phi [[]] = 2 := rfl
          have h6 := hx.1
          have h7 : wgt [d] = (showP shA d).length + 1 + 0 := rfl
          omega
        refine iteFb (by rfl) ⟨_, rfl, r, _, _, v, rfl, rfl, SqL.of hr2, atI_nat (j := 0) rfl, v, 60, d, rfl, pd, vd, hs, fun H3 s3 => ⟨_, rfl, rfl, _, rfl, ?_⟩⟩
        by_cases he : showP shA d = x.cps.toList
        · refine iteFb ?_ ⟨_, rfl, r, _, _, v, rfl, rfl, SqL.of (s3 _ _ hr2), atI_nat (j := 0) rfl, q d v H3 ⟨fs, run, last, he⟩ vd ((s1.trans s2).trans s3) (pd.same s3)⟩
          have : V.str (mkS (showP shA d)) = V.str x := by rw [he, cps_mkS]
          rw [decide_eq_true this]
          rfl
        · refine iteTb ?_ ⟨(by show 1 ≤ sizeLine; decide), qE (fun d' hd' => ?_) _ ((s1.trans s2).trans s3)⟩
          · have : ¬ V.str (mkS (showP shA d)) = V.str x := fun z => he (by
              injection z with z
              rw [← z]
              rfl)
            rw [decide_eq_false this]
            rfl
          · obtain ⟨fs', run', last', sh'⟩ := hd'
            rw [run] at run'
            cases run'
            rw [last] at last'
            cases last'
            exact he sh'
      · refine iteTb ?_ (iteT ⟨(by show 1 ≤ sizeLine; decide), qE (fun d' hd' => ?_) _ (s1.trans s2)⟩)
        · have : ¬ V.int (vs.length : Int) = V.int 1 := fun z => by
            injection z with z
            omega
          rw [decide_eq_false this]
          rfl
        · obtain ⟨fs', run', last', sh'⟩ := hd'
          rw [run] at run'
          cases run'
          rw [last] at last'
          cases last'
          exact h1 rfl
    · rintro d ⟨fs, run', _, _⟩
      rw [ewl, run'] at run
      cases run
end
end Net

namespace Net
open PySem L2 L2.Tx
/-! ### the law's own reader: words and parts -/
theorem eqv_nil (ds : List PyData) : PyData.eqv (.list ds) (.list []) = ds.isEmpty := by
  cases ds with
  | nil => simp [PyData.eqv, PyData.eqvAll]
  | cons d ds => simp [PyData.eqv, PyData.eqvAll]
theorem same_put {H H' : Hp} {l : Addr} {o : HO} (s : Same H H') (hl : H l = none) : Same H (upd H' l o) := fun b ob e => by
  rw [upd_ne (ne_of_none e hl)]
  exact s _ _ e
section
variable {P : Program} {w : World} {K : PySem.W.Frag} {mg : Str → Option Value} {base : Heap}
end
end Net

namespace Net
open PySem L2 L2.Tx
/-! ### open lists that lie in one another -/
def upV : Option Addr → List V
  | none => []
  | some a => [.ref a]
def FrL (H : Hp) (A : List Addr) : Option Addr → List Addr → Fr → Prop
  | _, [], [] => True
  | up, r :: rs, f :: fs => (∃ vs, H r = some (.lst (vs ++ upV up)) ∧ Paired (PD (Wi H A) (60 - rs.length)) vs f) ∧ FrL H A (some r) rs fs
  | _, _, _ => False
theorem FrL.len {H : Hp} {A : List Addr} : ∀ {up : Option Addr} {rs : List Addr} {fs : Fr}, FrL H A up rs fs → rs.length = fs.length
  | _, [], [], _ => rfl
  | _, _ :: _, _ :: _, h => congrArg (· + 1) h.2.len
  | _, [], _ :: _, h => h.elim
  | _, _ :: _, [], h => h.elim
theorem FrL.has {H : Hp} {A : List Addr} : ∀ {up : Option Addr} {rs : List Addr} {fs : Fr}, FrL H A up rs fs → ∀ r ∈ rs, ∃ vs, H r = some (.lst vs)
  | _, [], _, _, _, h => nomatch h
  | _, _ :: _, [], h, _, _ => h.elim
  | _, r :: rs, f :: fs, h, x, hx => by
    rcases List.mem_cons.mp hx with rfl | hx
    · obtain ⟨⟨vs, e, _⟩, _⟩ := h
      exact ⟨_, e⟩
    · exact h.2.has x hx
theorem FrL.move {H H' : Hp} {A A' : List Addr} (s : Same (Wi H A) (Wi H' A')) : ∀ {up : Option Addr} {rs : List Addr} {fs : Fr}, (∀ r ∈ rs, ∀ vs, H r = some (.lst vs) → H' r = some (.lst vs)) → FrL H A up rs fs → FrL H' A' up rs fs
  | _, [], [], _, _ => True.intro
  | _, [], _ :: _, _, h => h.elim
  | _, _ :: _, [], _, h => h.elim
  | _, r :: rs, f :: fs, k, h => by
    obtain ⟨⟨vs, e, p⟩, t⟩ := h
    exact ⟨⟨vs, k r List.mem_cons_self _ e, L2.Paired.mapP p fun _ _ z => PD.same s z⟩, t.move s fun x hx => k x (List.mem_cons_of_mem _ hx)⟩
structure LkAt (H : Hp) (st : Addr) (rs : List Addr) (fs : Fr) : Prop where
  u : H st = some (.lst (rs.map V.ref).reverse)
  nd : (st :: rs).Nodup
  fr : FrL H (st :: rs) none rs fs
section
variable {H H' : Hp} {st r r0 : Addr} {rs : List Addr} {fs : Fr} {f : List PyData}
theorem LkAt.first (h1 : H st = some (.lst [.ref r])) (h2 : H r = some (.lst [])) : LkAt H st [r] [[]] :=
  ⟨h1, by
    have : st ≠ r := fun z => by rw [z, h2] at h1; cases h1
    simp [this], ⟨⟨[], h2, .nil⟩, True.intro⟩⟩
/-- the topmost one's contents -/
theorem LkAt.top (U : LkAt H st (r :: rs) (f :: fs)) : ∃ vs, H r = some (.lst vs) ∧ Paired (PD (Wi H (st :: r :: rs)) (60 - rs.length)) vs f := by
  obtain ⟨⟨vs, e, p⟩, _⟩ := U.fr
  rw [show vs ++ upV none = vs from List.append_nil _] at e
  exact ⟨vs, e, p⟩
/-- one more list begun within the topmost -/
theorem LkAt.push {vs : List V} (U : LkAt H st (r :: rs) (f :: fs)) (hv : H r = some (.lst vs)) (h0 : H r0 = none) :
    LkAt (upd (upd (upd H r0 (.lst [])) r (.lst (vs ++ [.ref r0]))) st (.lst (((r :: rs).map V.ref).reverse ++ [.ref r0]))) st (r0 :: r :: rs) ([] :: f :: fs)
      ∧ Same (Wi H (st :: r :: rs)) (Wi (upd (upd (upd H r0 (.lst [])) r (.lst (vs ++ [.ref r0]))) st (.lst (((r :: rs).map V.ref).reverse ++ [.ref r0]))) (st :: r0 :: r :: rs)) := by
  obtain ⟨n1, n2⟩ := List.nodup_cons.mp U.nd
  obtain ⟨n3, _⟩ := List.nodup_cons.mp n2
  have s0 : st ≠ r0 := ne_of_none U.u h0
  have r00 : r ≠ r0 := ne_of_none hv h0
  have sr : st ≠ r := fun z => n1 (by rw [z]; exact List.mem_cons_self)
  have nx : ∀ x ∈ rs, x ≠ r0 := fun x hx => by
    obtain ⟨ws, e⟩ := U.fr.2.has x hx
    exact ne_of_none e h0
  have nr : ∀ x ∈ rs, x ≠ r := fun x hx z => n3 (z ▸ hx)
  have ns : ∀ x ∈ rs, x ≠ st := fun x hx z => n1 (List.mem_cons_of_mem _ (z ▸ hx))
  have s : Same (Wi H (st :: r :: rs)) (Wi (upd (upd (upd H r0 (.lst [])) r (.lst (vs ++ [.ref r0]))) st (.lst (((r :: rs).map V.ref).reverse ++ [.ref r0]))) (st :: r0 :: r :: rs)) := fun b o e => by
    have hb := Wi.no e
    rw [Wi.eq hb] at e
    have b1 : b ≠ st := fun z => hb (by rw [z]; exact List.mem_cons_self)
    have b2 : b ≠ r0 := ne_of_none e h0
    have b3 : b ≠ r := fun z => hb (by rw [z]; exact List.mem_cons_of_mem _ List.mem_cons_self)
    have b4 : b ∉ st :: r0 :: r :: rs := fun z => by
      rcases List.mem_cons.mp z with z | z
      · exact b1 z
      · rcases List.mem_cons.mp z with z | z
        · exact b2 z
        · exact hb (List.mem_cons_of_mem _ z)
    rw [Wi.eq b4, upd_ne b1, upd_ne b3, upd_ne b2]
    exact e
  obtain ⟨⟨vs', e, p⟩, t⟩ := U.fr
  rw [show vs' ++ upV none = vs' from List.append_nil _, hv] at e
  cases e
  refine ⟨⟨by rw [upd_same]; simp, ?_, ⟨[], ?_, .nil⟩, ⟨vs, ?_, L2.Paired.mapP p fun _ _ z => PD.same s z⟩, t.move s fun x hx ws ex => ?_⟩, s⟩
  · refine List.nodup_cons.mpr ⟨fun z => ?_, List.nodup_cons.mpr ⟨fun z => ?_, n2⟩⟩
    · rcases List.mem_cons.mp z with z | z
      · exact s0 z
      · exact n1 z
    · rcases List.mem_cons.mp z with z | z
      · exact r00 z.symm
      · exact nx r0 z rfl
  · rw [upd_ne (Ne.symm s0), upd_ne (Ne.symm r00), upd_same]
    rfl
  · rw [upd_ne (Ne.symm sr), upd_same]
    rfl
  · rw [upd_ne (ns x hx), upd_ne (nr x hx), upd_ne (nx x hx)]
    exact ex
theorem LkAt.add {d : PyData} {v : V} {vs : List V} (U : LkAt H st (r :: rs) (f :: fs)) (hv : H r = some (.lst vs)) (pd : PD (Wi H (st :: r :: rs)) (60 - rs.length) v d) :
    LkAt (upd H r (.lst (vs ++ [v]))) st (r :: rs) ((f ++ [d]) :: fs) ∧ Same (Wi H (st :: r :: rs)) (Wi (upd H r (.lst (vs ++ [v]))) (st :: r :: rs)) := by
  have s : Same (Wi H (st :: r :: rs)) (Wi (upd H r (.lst (vs ++ [v]))) (st :: r :: rs)) := Wi.upd_ (List.mem_cons_of_mem _ List.mem_cons_self)
  obtain ⟨n1, n2⟩ := List.nodup_cons.mp U.nd
  obtain ⟨n3, _⟩ := List.nodup_cons.mp n2
  have nu : st ≠ r := fun z => n1 (by rw [z]; exact List.mem_cons_self)
  obtain ⟨⟨vs', e, p⟩, t⟩ := U.fr
  rw [show vs' ++ upV none = vs' from List.append_nil _, hv] at e
  cases e
  refine ⟨⟨by rw [upd_ne nu]; exact U.u, U.nd, ⟨vs ++ [v], by rw [upd_same]; exact congrArg (fun z => some (HO.lst z)) (List.append_nil _).symm, ?_⟩, t.move s fun x hx ws e => by rw [upd_ne (fun z : x = r => n3 (z ▸ hx))]; exact e⟩, s⟩
  exact Paired.snoc (L2.Paired.mapP p fun _ _ z => PD.same s z) (PD.same s pd)
theorem LkAt.close {r2 : Addr} {b : List PyData} (U : LkAt H st (r :: r2 :: rs) (f :: b :: fs)) (few : rs.length + 2 ≤ 61) :
    LkAt (upd H st (.lst ((r2 :: rs).map V.ref).reverse)) st (r2 :: rs) ((b ++ [.list f]) :: fs) ∧ Same (Wi H (st :: r :: r2 :: rs)) (Wi (upd H st (.lst ((r2 :: rs).map V.ref).reverse)) (st :: r2 :: rs)) := by
  obtain ⟨n1, n2⟩ := List.nodup_cons.mp U.nd
  obtain ⟨n3, n4⟩ := List.nodup_cons.mp n2
  have u1 : st ≠ r := fun z => n1 (by rw [z]; exact List.mem_cons_self)
  have u2 : st ≠ r2 := fun z => n1 (by rw [z]; exact List.mem_cons_of_mem _ List.mem_cons_self)
  have s : Same (Wi H (st :: r :: r2 :: rs)) (Wi (upd H st (.lst ((r2 :: rs).map V.ref).reverse)) (st :: r2 :: rs)) := fun c o e => by
    have hb := Wi.no e
    rw [Wi.eq hb] at e
    have b1 : c ≠ st := fun z => hb (by rw [z]; exact List.mem_cons_self)
    have b3 : c ∉ st :: r2 :: rs := fun z => by
      rcases List.mem_cons.mp z with z | z
      · exact b1 z
      · exact hb (List.mem_cons_of_mem _ (List.mem_cons_of_mem _ z))
    rw [Wi.eq b3, upd_ne b1]
    exact e
  obtain ⟨⟨vs, e, p⟩, ⟨vs2, e2, p2⟩, t⟩ := U.fr
  rw [show vs ++ upV none = vs from List.append_nil _] at e
  have hr : Wi (upd H st (.lst ((r2 :: rs).map V.ref).reverse)) (st :: r2 :: rs) r = some (.lst vs) := by
    have : r ∉ st :: r2 :: rs := fun z => by
      rcases List.mem_cons.mp z with z | z
      · exact u1 z.symm
      · exact n3 z
    rw [Wi.eq this, upd_ne (Ne.symm u1)]
    exact e
  obtain ⟨m, hm⟩ : ∃ m, 60 - rs.length = m + 1 := ⟨60 - rs.length - 1, by omega⟩
  have hm' : 60 - (r2 :: rs).length = m := by rw [List.length_cons]; omega
  refine ⟨⟨upd_same, List.nodup_cons.mpr ⟨fun z => n1 (List.mem_cons_of_mem _ z), n4⟩, ⟨vs2 ++ [.ref r], ?_, ?_⟩, ?_⟩, s⟩
  · rw [upd_ne (Ne.symm u2), e2]
    exact congrArg (fun z => some (HO.lst z)) (List.append_nil _).symm
  · refine Paired.snoc (L2.Paired.mapP p2 fun _ _ z => PD.same s z) ?_
    rw [hm]
    refine .inl ⟨vs, f, hr, rfl, ?_⟩
    rw [hm'] at p
    exact L2.Paired.mapP p fun _ _ z => PD.same s z
  · exact t.move s fun x hx ws ex => by
      rw [upd_ne (fun z : x = st => n1 (List.mem_cons_of_mem _ (List.mem_cons_of_mem _ (z ▸ hx))))]
      exact ex
end
section
variable {P : Program} {w : World} {K : PySem.W.Frag} {mg : Str → Option Value} {base : Heap}
end
end Net

namespace L2
open PySem PySem.Spec PyProof.Rows
def CBig (i j : Int) : Prop := i.natAbs < 2 ^ 3000 ∧ j.natAbs < 2 ^ 3000
theorem bits_big {i : Int} (h : i.natAbs < 2 ^ 3000) : Builtin.Int.intBits i ≤ 3000 := by
  unfold Builtin.Int.intBits
  by_cases e : (i == 0) = true
  · rw [if_pos e]; exact Nat.zero_le _
  · rw [if_neg e]
    have hn : i.natAbs ≠ 0 := fun z => e (by simpa using z)
    exact (Nat.log2_lt hn).mpr h
theorem CBig.ok {i j : Int} (h : CBig i j) : IntMulOk i j := by
  have h1 := bits_big h.1
  have h2 := bits_big h.2
  unfold IntMulOk
  have hz : Builtin.Int.intTooBig (Builtin.Int.intBits i + Builtin.Int.intBits j) = false := by
    unfold Builtin.Int.intTooBig
    refine decide_eq_false fun z => ?_
    have hb : (10000 : Int) ≤ bitsLine := by decide
    omega
  rw [hz, Bool.and_false]
  exact Bool.false_ne_true
section
variable {X : Cx}
theorem op_mulG : OpR X (binaryOp .Mult) (rI CBig fun i j => .int (i * j)) := opI fun _ _ _ _ _ _ _ hc q => mul_int q hc.ok
end
end L2
namespace Net
open PySem L2 L2.Tx
/-! ### the law's papers -/
def spNm : Sp := fun vs H Q _ => ∃ (c : Int), vs = [.int c] ∧ ∀ x, nameB x = true → Q (.str x) H
/-- a paper of the law's own: names and numbers of 121 signs at most -/
def LawAt (d : PyData) : Prop := (∃ x, d = .str x ∧ nameB x = true) ∨ ∃ i : Int, d = .int i ∧ -(10 ^ 120) < i ∧ i < 10 ^ 120
def LP : Nat → PyData → Prop
  | 0, .list _ => False
  | n + 1, .list ds => ∀ x ∈ ds, LP n x
  | _, d => LawAt d
theorem LP.at {n : Nat} {d : PyData} (h : LawAt d) : LP n d := by
  cases n <;> cases d <;> first | exact h | (rcases h with ⟨x, e, _⟩ | ⟨i, e, _⟩ <;> cases e)
theorem LP.up : ∀ {n : Nat} {d : PyData}, LP n d → LP (n + 1) d
  | 0, .list _, h => h.elim
  | n + 1, .list ds, h => fun x hx => LP.up (h x hx)
  | 0, .int _, h => h
  | _ + 1, .int _, h => h
  | 0, .none, h => h
  | 0, .bool _, h => h
  | 0, .str _, h => h
  | 0, .tuple _, h => h
  | 0, .dict _, h => h
  | _ + 1, .dict _, h => h
  | _ + 1, .none, h => h
  | _ + 1, .bool _, h => h
  | _ + 1, .str _, h => h
  | _ + 1, .tuple _, h => h
mutual
/-- how many things a paper has -/
def nod : PyData → Nat
  | .list ds => 1 + nodL ds
  | .none => 1
  | .bool _ => 1
  | .int _ => 1
  | .str _ => 1
  | .tuple _ => 1
  | .dict _ => 1
def nodL : List PyData → Nat
  | [] => 0
  | d :: ds => nod d + nodL ds
end
theorem nod_list (ds : List PyData) : nod (.list ds) = 1 + nodL ds := by unfold nod; rfl
theorem nodL_cons (d : PyData) (ds : List PyData) : nodL (d :: ds) = nod d + nodL ds := by conv => lhs; unfold nodL
theorem nodL_nil : nodL [] = 0 := by unfold nodL; rfl
theorem nodL_snoc (d : PyData) : ∀ ds : List PyData, nodL (ds ++ [d]) = nodL ds + nod d
  | [] => by rw [List.nil_append, nodL_cons, nodL_nil]; omega
  | e :: ds => by rw [List.cons_append, nodL_cons, nodL_snoc d ds, nodL_cons]; omega
theorem nod_pos (d : PyData) : 1 ≤ nod d := by
  cases d <;> first | (unfold nod; exact Nat.le_refl _) | (rw [nod_list]; omega)
theorem nod_at {d : PyData} (h : LawAt d) : nod d = 1 := by
  rcases h with ⟨x, rfl, _⟩ | ⟨i, rfl, _⟩
  · unfold nod; rfl
  · unfold nod; rfl
theorem nodL_len (ds : List PyData) : ds.length ≤ nodL ds := by
  induction ds with
  | nil => exact Nat.zero_le _
  | cons d ds ih =>
    rw [nodL_cons, List.length_cons]
    have := nod_pos d
    omega
/-- what is open: all of it of the law's own kind, all in all k things -/
def FrP (fs : Fr) : Prop := ∀ f ∈ fs, ∀ d ∈ f, ∃ n, LP n d
def nodF (fs : Fr) : Nat := (fs.map fun f => 1 + nodL f).sum
theorem lp_all : ∀ {ds : List PyData}, (∀ d ∈ ds, ∃ n, LP n d) → ∃ n, ∀ d ∈ ds, LP n d
  | [], _ => ⟨0, fun _ h => nomatch h⟩
  | d :: ds, h => by
    obtain ⟨n, hn⟩ := h d List.mem_cons_self
    obtain ⟨m, hm⟩ := lp_all fun x hx => h x (List.mem_cons_of_mem _ hx)
    have up : ∀ {a : Nat} {x : PyData} (k : Nat), LP a x → LP (a + k) x := fun {a x} k z => by
      induction k with
      | zero => exact z
      | succ k ih => exact LP.up ih
    refine ⟨n + m, fun x hx => ?_⟩
    rcases List.mem_cons.mp hx with rfl | hx
    · exact up m hn
    · have := up n (hm x hx)
      rw [Nat.add_comm] at this
      exact this
def spPaper : Sp := fun vs H Q _ => ∃ (cl : Addr) (ns : List Int), vs = [.ref cl] ∧ H cl = some (.lst (ns.map V.int)) ∧ ns.length ≤ 59 ∧ ∀ v d n H', Same H H' → PD H' 61 v d → LP n d → (∃ r, v = .ref r) → nod d ≤ 60 → Q v H'
section
variable {P : Program} {w : World} {K : PySem.W.Frag} {mg : Str → Option Value} {base : Heap}
abbrev Nnm : List Str := ["_law_cell", "_law_letters", "_law_number", "_law_start", "_law_name_here"]
theorem sc_nm : FnScope Nnm ["_law_cell"] (defScope s_l_name) := ⟨rfl, rfl, rfl, by decide +kernel, rfl, by decide +kernel, by decide +kernel⟩
theorem nameB_eq12 (x : Str) : nameB x = (decide (1 ≤ x.length) && decide (x.length ≤ 12) && x.cps.toList.all smallB) := rfl
theorem abc_len : abc.length = 26 := by decide +kernel
theorem ok_nm {f : Addr} {fd : FuncData} (F : Fun K "_law_name" "_law_name" s_l_name f fd) (cm : Can P w K mg base 1 "_law_mixed" ["_law_cell", "_law_k"] spMixed) : FnOk P w K mg base CX0 2 f fd ["_law_cell"] spNm := by
  refine F.ok sc_nm (fun vs H Q E h => ?_) (fun cdv A outer s H vs Q E hr h => ?_)
  · obtain ⟨c, rfl, _⟩ := h
    rfl
  · obtain ⟨c, rfl, q⟩ := h
    refine ⟨_, (pss_cons (ps_set (i := 1) sc_nm.nd rfl (Or.inl rfl) pe_str)
      (pss_cons (ps_set (i := 2) sc_nm.nd rfl (Or.inl rfl) (pe_callC cm hr (by rfl) (pa_cons (pv 0) (pa_cons pe_int pa_nil))))
      (pss_cons (ps_set (i := 3) sc_nm.nd rfl (Or.inl rfl) (pe_op op_mod (pv 2) pe_int))
      (pss_cons (ps_set (i := 4) sc_nm.nd rfl (Or.inl rfl) (pe_slice sl_str (pv 1) (po_some (pv 3)) (po_some (pe_op op_add (pe_op op_add (pv 3) pe_int) (pe_op op_mod (pe_op op_fdiv (pv 2) pe_int) pe_int)))))
      (pss_one (ps_ret (pe_slice sl_str (pe_op op_add_str (pv 4) (pe_ix ix_str (pv 1) (pe_op op_mod (pe_op op_fdiv (pv 2) pe_int) pe_int) (fun _ _ => by rfl))) po_none (po_some pe_int)))))))), ?_⟩
    have l26 : ("abcdefghijklmnopqrstuvwxyz" : Str) = abc := rfl
    have sz : (100 : Nat) ≤ sizeLine := by decide
    refine ⟨_, rfl, c, 1, rfl, by decide, by decide, fun n hn => ⟨_, rfl, _, _, rfl, rfl, (by show (0 : Int) < 26; decide), ?_⟩⟩
    obtain ⟨a, ha, ea⟩ : ∃ a : Nat, a < 26 ∧ n % 26 = (a : Int) := ⟨(n % 26).toNat, by omega, by omega⟩
    obtain ⟨b, hb, eb⟩ : ∃ b : Nat, b < 12 ∧ n / 26 % 12 = (b : Int) := ⟨(n / 26 % 12).toNat, by omega, by omega⟩
    obtain ⟨c2, hc2, ec2⟩ : ∃ b : Nat, b < 26 ∧ n / 312 % 26 = (b : Int) := ⟨(n / 312 % 26).toNat, by omega, by omega⟩
    obtain ⟨z, hz⟩ : ∃ z, abc.cps.toList[c2]? = some z := ⟨abc.cps.toList[c2]'(by rw [len_eq, abc_len]; exact hc2), List.getElem?_eq_getElem _⟩
    rw [l26]
    dsimp only
    rw [ea]
    refine ⟨_, rfl, _, rfl, _, rfl, _, rfl, _, _, rfl, rfl, _, rfl, _, _, rfl, rfl, ⟨by decide, by decide⟩, _, _, rfl, rfl, (by show (0 : Int) < 12; decide), _, _, rfl, rfl, _, rfl, _, rfl, by rw [abc_len]; omega, ?_⟩
    dsimp only
    rw [eb]
    have e1 : (Txt.slice abc (some (a : Int)) (some ((a : Int) + 1 + (b : Int)))).cps.toList = (abc.cps.toList.drop a).take (1 + b) := by
      have : (a : Int) + 1 + (b : Int) = ((a + 1 + b : Nat) : Int) := by omega
      rw [this, slice_list abc (by rw [abc_len]; omega) (by omega)]
      congr 1
      omega
    have e1l : 1 ≤ (Txt.slice abc (some (a : Int)) (some ((a : Int) + 1 + (b : Int)))).length ∧ (Txt.slice abc (some (a : Int)) (some ((a : Int) + 1 + (b : Int)))).length ≤ 26 := by
      rw [← len_eq, e1, List.length_take, List.length_drop, len_eq, abc_len]
      omega
    generalize Txt.slice abc (some (a : Int)) (some ((a : Int) + 1 + (b : Int))) = x1 at e1 e1l
    refine ⟨_, rfl, _, rfl, _, rfl, _, _, rfl, rfl, ⟨by decide, by decide⟩, _, _, rfl, rfl, (by show (0 : Int) < 26; decide), abc, _, z, rfl, rfl, by rw [abc_len]; omega, ?_, _, _, rfl, rfl, ?_, _, rfl, _, rfl, ?_, ?_⟩
    · rw [ec2]
      exact atI_nat hz
    · show x1.length + 1 ≤ sizeLine
      omega
    · show (x1 ++ (⟨#[z]⟩ : Str)).length ≤ sizeLine
      rw [str_len_app]
      show x1.length + 1 ≤ sizeLine
      omega
    · have ex : (Txt.slice (x1 ++ (⟨#[z]⟩ : Str)) none (some 12)).cps.toList = ((abc.cps.toList.drop a).take (1 + b) ++ [z]).take 12 := by
        rw [show (12 : Int) = ((12 : Nat) : Int) from rfl, slice_to, cps_app, e1]
      have hab : ∀ y ∈ abc.cps.toList, smallB y = true := fun y hy => by
        rw [← mem_abc]
        exact decide_eq_true hy
      refine q _ ?_
      rw [nameB_eq12, ← len_eq, ex]
      have hl : 1 ≤ (((abc.cps.toList.drop a).take (1 + b) ++ [z]).take 12).length ∧ (((abc.cps.toList.drop a).take (1 + b) ++ [z]).take 12).length ≤ 12 := by
        rw [List.length_take, List.length_append, List.length_singleton]
        omega
      rw [decide_eq_true hl.1, decide_eq_true hl.2]
      show List.all _ _ = true
      rw [List.all_eq_true]
      intro y hy
      have hy := List.mem_of_mem_take hy
      rcases List.mem_append.mp hy with hy | hy
      · exact hab y (List.mem_of_mem_drop (List.mem_of_mem_take hy))
      · rw [List.mem_singleton.mp hy]
        exact hab z (List.mem_of_getElem? hz)
end
end Net

namespace Net
open PySem L2 L2.Tx
/-! ### the law's papers: made -/
theorem big_lt {i : Int} (h1 : -(10 ^ 121) < i) (h2 : i < 10 ^ 121) : i.natAbs < 2 ^ 3000 := by
  have h3 : (10 : Nat) ^ 121 ≤ 2 ^ 3000 := by
    have z : ((10 : Nat) ^ 11) ^ 11 ≤ (2 ^ 40) ^ 11 := Nat.pow_le_pow_left (by decide) _
    rw [← Nat.pow_mul, ← Nat.pow_mul] at z
    exact Nat.le_trans z (Nat.pow_le_pow_right (by decide) (by decide))
  have h5 : i.natAbs < 10 ^ 121 := by omega
  exact Nat.lt_of_lt_of_le h5 h3
structure PI3 (H0 : Hp) (H : Hp) (st : Addr) (rs : List Addr) (fs : Fr) (i : Nat) : Prop where
  u : LkAt H st rs fs
  s : Same H0 (Wi H (st :: rs))
  ne : fs ≠ []
  few : fs.length ≤ i + 1
  lp : FrP fs
  nod : nodF fs ≤ i + 1
theorem nodF_cons (f : List PyData) (fs : Fr) : nodF (f :: fs) = 1 + nodL f + nodF fs := rfl
theorem nodF_len {f : List PyData} : ∀ {fs : Fr}, f ∈ fs → f.length ≤ nodF fs
  | [], h => nomatch h
  | g :: fs, h => by
    rw [nodF_cons]
    rcases List.mem_cons.mp h with rfl | h
    · have := nodL_len f
      omega
    · have := nodF_len h
      omega
theorem FrP.close {top b : List PyData} {r : Fr} (h : FrP (top :: b :: r)) : FrP ((b ++ [.list top]) :: r) := fun f hf d hd => by
  rcases List.mem_cons.mp hf with rfl | hf
  · rcases List.mem_append.mp hd with hd | hd
    · exact h b (List.mem_cons_of_mem _ List.mem_cons_self) d hd
    · rw [List.mem_singleton.mp hd]
      obtain ⟨n, hn⟩ := lp_all (h top List.mem_cons_self)
      exact ⟨n + 1, hn⟩
  · exact h f (List.mem_cons_of_mem _ (List.mem_cons_of_mem _ hf)) d hd
/-- all that is open closed -/
theorem lk_all {H : Hp} : ∀ {rs : List Addr} {fs : Fr} {up : Option Addr} {A : List Addr} {k : Nat}, FrL H A up rs fs → FrP fs → rs.length ≤ 60 → (∀ a, up = some a → ∃ d, PD H (61 - rs.length) (.ref a) d ∧ (∃ n, LP n d) ∧ nod d ≤ k) → rs ≠ [] → ∃ r d, rs.getLast? = some r ∧ PD H 61 (.ref r) d ∧ (∃ n, LP n d) ∧ nod d ≤ nodF fs + k
  | [], _, _, _, _, _, _, _, _, h => absurd rfl h
  | r :: rs, [], _, _, _, h, _, _, _, _ => h.elim
  | r :: rs, f :: fs, up, A, k, h, lp, few, hup, _ => by
    obtain ⟨⟨vs, e, p⟩, t⟩ := h
    have p' : Paired (PD H (60 - rs.length)) vs f := L2.Paired.mapP p fun _ _ z => PD.same Wi.in_ z
    have few' : rs.length + 1 ≤ 60 := few
    have e61 : 61 - (r :: rs).length = 60 - rs.length := by rw [List.length_cons]; omega
    obtain ⟨ds, hds, hlp, hnod⟩ : ∃ ds, Paired (PD H (60 - rs.length)) (vs ++ upV up) ds ∧ (∀ d ∈ ds, ∃ n, LP n d) ∧ nodL ds ≤ nodL f + k := by
      cases up with
      | none => exact ⟨f, by rw [show vs ++ upV none = vs from List.append_nil _]; exact p', lp f List.mem_cons_self, Nat.le_add_right _ _⟩
      | some a =>
        obtain ⟨d, pd, hl, hn⟩ := hup a rfl
        rw [e61] at pd
        refine ⟨f ++ [d], Paired.snoc p' pd, fun x hx => ?_, by rw [nodL_snoc]; omega⟩
        rcases List.mem_append.mp hx with hx | hx
        · exact lp f List.mem_cons_self x hx
        · rw [List.mem_singleton.mp hx]
          exact hl
    have pr : PD H (60 - rs.length + 1) (.ref r) (.list ds) := .inl ⟨_, ds, e, rfl, hds⟩
    obtain ⟨n, hn⟩ := lp_all hlp
    have lpr : ∃ n, LP n (.list ds) := ⟨n + 1, hn⟩
    have nodr : nod (.list ds) ≤ 1 + nodL f + k := by rw [nod_list]; omega
    cases rs with
    | nil =>
      cases fs with
      | nil => exact ⟨r, _, rfl, pr, lpr, by rw [nodF_cons]; show _ ≤ 1 + nodL f + 0 + k; omega⟩
      | cons _ _ => exact t.elim
    | cons r2 rs =>
      obtain ⟨x, d, e1, e2, e3, e4⟩ := lk_all (k := 1 + nodL f + k) t (fun g hg => lp g (List.mem_cons_of_mem _ hg)) (by omega) (fun a ha => by
        cases ha
        refine ⟨_, ?_, lpr, nodr⟩
        rw [show 61 - (r2 :: rs).length = 60 - (r2 :: rs).length + 1 by omega]
        exact pr) (List.cons_ne_nil _ _)
      refine ⟨x, d, by simpa using e1, e2, e3, ?_⟩
      rw [nodF_cons]
      omega
section
variable {P : Program} {w : World} {K : PySem.W.Frag} {mg : Str → Option Value} {base : Heap}
abbrev Npap : List Str := ["_law_cells", "_law_most", "_law_stack", "_law_cell", "_law_number", "_law_way", "_law_one"]
theorem sc_pap : FnScope Npap ["_law_cells"] (defScope s_l_paper) := ⟨rfl, rfl, rfl, by decide +kernel, rfl, by decide +kernel, by decide +kernel⟩
/-- a name or a number put into the topmost one -/
theorem PI3.add {H0 H : Hp} {st r : Addr} {rs : List Addr} {g : List PyData} {fs : Fr} {i : Nat} {vs : List V} {v : V} {d : PyData} (I : PI3 H0 H st (r :: rs) (g :: fs) i) (hv : H r = some (.lst vs)) (ha : LawAt d) (pd : ∀ H' n, PD H' n v d) : PI3 H0 (upd H r (.lst (vs ++ [v]))) st (r :: rs) ((g ++ [d]) :: fs) (i + 1) := by
  obtain ⟨U, s⟩ := I.u.add hv (pd _ _)
  refine ⟨U, I.s.trans s, List.cons_ne_nil _ _, Nat.le_succ_of_le I.few, fun f hf x hx => ?_, ?_⟩
  · rcases List.mem_cons.mp hf with rfl | hf
    · rcases List.mem_append.mp hx with hx | hx
      · exact I.lp g List.mem_cons_self x hx
      · rw [List.mem_singleton.mp hx]
        exact ⟨0, LP.at ha⟩
    · exact I.lp f (List.mem_cons_of_mem _ hf) x hx
  · have := I.nod
    rw [nodF_cons] at this ⊢
    rw [nodL_snoc, nod_at ha]
    omega
theorem ok_pap {f : Addr} {fd : FuncData} (F : Fun K "_law_paper" "_law_paper" s_l_paper f fd) (T : Txt K mg) (cm : Can P w K mg base 1 "_law_mixed" ["_law_cell", "_law_k"] spMixed) (cn : Can P w K mg base 2 "_law_name" ["_law_cell"] spNm) : FnOk P w K mg base CX0 3 f fd ["_law_cells"] spPaper := by
  refine F.ok sc_pap (fun vs H Q E h => ?_) (fun cdv A outer s H vs Q E hr h => ?_)
  · obtain ⟨cl, ns, rfl, _⟩ := h
    rfl
  · obtain ⟨cl, ns, rfl, hcl, h30, q⟩ := h
    have r1 : Room 1 _ := hr.mono (by decide)
    refine ⟨_, (pss_cons (ps_set (i := 1) sc_pap.nd rfl (Or.inl rfl) (pe_op op_mulG (pe_op op_pow pe_int pe_int) (pe_op op_pow pe_int pe_int)))
      (pss_cons (ps_set (i := 2) sc_pap.nd rfl (Or.inl rfl) (pe_lst (pa_cons (pe_lst pa_nil) pa_nil)))
      (pss_cons (ps_for PassesOwn.never rfl (pi_list (pv 0)) (pg_name (i := 3) sc_pap.nd rfl (Or.inl rfl))
          (pss_cons (ps_set (i := 4) sc_pap.nd rfl (Or.inl rfl) (pe_callC cm r1 (by rfl) (pa_cons (pv 3) (pa_cons pe_int pa_nil))))
      (pss_cons (ps_set (i := 5) sc_pap.nd rfl (Or.inl rfl) (pe_op op_mod (pv 4) pe_int))
      (pss_one (ps_if (pt_cmpR op_eq (pv 5) pe_int (nomark _)) (pss_one (ps_expr (pe_bm PySem.F.plainAttrs_list PySem.F.slot_list_append PySem.F.type_list_append mt_append (pe_ix ix_list (pv 2) (pe_un un_neg pe_int) (fun _ _ => by rfl)) (pa_cons (pe_callC cn hr (by rfl) (pa_cons (pv 3) pa_nil)) pa_nil)))) (pss_one (ps_if (pt_cmpR op_eq (pv 5) pe_int (nomark _)) (pss_one (ps_expr (pe_bm PySem.F.plainAttrs_list PySem.F.slot_list_append PySem.F.type_list_append mt_append (pe_ix ix_list (pv 2) (pe_un un_neg pe_int) (fun _ _ => by rfl)) (pa_cons (pe_op op_sub (pe_op op_mod (pe_op op_fdiv (pv 4) pe_int) pe_int) pe_int) pa_nil)))) (pss_one (ps_if (pt_cmpR op_eq (pv 5) pe_int (nomark _)) (pss_one (ps_expr (pe_bm PySem.F.plainAttrs_list PySem.F.slot_list_append PySem.F.type_list_append mt_append (pe_ix ix_list (pv 2) (pe_un un_neg pe_int) (fun _ _ => by rfl)) (pa_cons (pe_op op_add (pe_op op_sub (pe_op op_mod (pv 3) (pe_op op_sub (pe_op op_mul pe_int (pv 1)) pe_int)) (pv 1)) pe_int) pa_nil)))) (pss_one (ps_if (PW.pt (pw_and (pt_cmpR op_eq (pv 5) pe_int (nomark _)) (pw_and1 (pt_cmpR op_gt (pe_callB call_len_seq (by rfl) T.len b_len (pa_cons (pv 2) pa_nil)) pe_int (nomark _))))) (pss_one (ps_expr (pe_bm0 PySem.F.plainAttrs_list PySem.F.slot_list_pop PySem.F.type_list_pop mt_pop (pv 2)))) (pss_cons (ps_set (i := 6) sc_pap.nd rfl (Or.inl rfl) (pe_lst pa_nil))
      (pss_cons (ps_expr (pe_bm PySem.F.plainAttrs_list PySem.F.slot_list_append PySem.F.type_list_append mt_append (pe_ix ix_list (pv 2) (pe_un un_neg pe_int) (fun _ _ => by rfl)) (pa_cons (pv 6) pa_nil)))
      (pss_one (ps_expr (pe_bm PySem.F.plainAttrs_list PySem.F.slot_list_append PySem.F.type_list_append mt_append (pv 2) (pa_cons (pv 6) pa_nil)))))))))))))))))
      (pss_one (ps_ret (pe_ix ix_list (pv 2) pe_int (fun _ _ => by rfl))))))), ?_⟩
    refine ⟨_, _, rfl, rfl, ⟨by decide, by decide, by decide⟩, _, _, rfl, rfl, ⟨by decide, by decide, by decide⟩, _, _, rfl, rfl, ⟨big_lt (by decide) (by decide), big_lt (by decide) (by decide)⟩, ?_⟩
    have hM : (10 : Int) ^ (60 : Int).toNat * 10 ^ (60 : Int).toNat = 10 ^ 120 := by decide
    dsimp only
    rw [hM]
    generalize hMM : (10 : Int) ^ 120 = M
    refine ⟨by decide, fun r0 h0 => ⟨(by show 1 ≤ sizeLine; decide), fun st hst => ?_⟩⟩
    have s0 : Same H (upd (upd H r0 (.lst [])) st (.lst [.ref r0])) := (Same.new h0).upd hst
    have nu : r0 ≠ st := ne_of_none (upd_same (H := H) (a := r0)) hst
    have U0 : LkAt (upd (upd H r0 (.lst [])) st (.lst [.ref r0])) st [r0] [[]] := LkAt.first upd_same (by rw [upd_ne nu]; exact upd_same)
    have sW0 : Same H (Wi (upd (upd H r0 (.lst [])) st (.lst [.ref r0])) [st, r0]) := Wi.free s0 fun a ha => by
      rcases List.mem_cons.mp ha with rfl | ha
      · exact (Same.new h0).free hst
      · rw [List.mem_singleton.mp ha]
        exact h0
    generalize upd (upd H r0 (.lst [])) st (.lst [.ref r0]) = H0 at U0 sW0
    have psz : (1000 : Nat) < sizeLine := by decide
    refine ⟨_, rfl, cl, rfl, ⟨_, SqL.of (Wi.in_ _ _ (sW0 _ _ hcl))⟩, for_list (K := K) (a := cl) (xs := ns.map V.int) (fun i σ' H' => i ≤ ns.length ∧ ∃ (rs : List Addr) (fs : Fr) (o3 o4 o5 o6 : Option V), σ' = [some (.ref cl), some (.int M), some (.ref st), o3, o4, o5, o6] ∧ PI3 H H' st rs fs i)
      ⟨Nat.zero_le _, [r0], [[]], none, none, none, none, rfl, U0, sW0, List.cons_ne_nil _ _, by decide, fun f hf d hd => by rw [List.mem_singleton.mp hf] at hd; exact (nomatch hd), by show 1 + nodL [] + 0 ≤ 1; rw [nodL_nil]; decide⟩ (fun i σ' H' _ h => by
        obtain ⟨_, rs, fs, o3, o4, o5, o6, _, I⟩ := h
        exact SqL.of (Wi.in_ _ _ (I.s _ _ hcl))) (fun i v σ' H' hv h => ?_) (fun σ' H' h => ?_)⟩
    · obtain ⟨hi, rs, fs, o3, o4, o5, o6, rfl, I⟩ := h
      rw [List.getElem?_map] at hv
      cases hx : ns[i]? with
      | none => rw [hx] at hv; cases hv
      | some c =>
        rw [hx] at hv
        cases hv
        have hi' : i < ns.length := (List.getElem?_eq_some_iff.mp hx).1
        have hl := I.u.fr.len
        refine ⟨_, rfl, c, 0, rfl, by decide, by decide, fun n hn => ⟨_, rfl, _, _, rfl, rfl, (by show (0 : Int) < 6; decide), ?_⟩⟩
        match rs, fs, I, hl with
        | [], [], I, _ => exact absurd rfl I.ne
        | [], _ :: _, _, hl => cases hl
        | _ :: _, [], _, hl => cases hl
        | r :: rs, g :: fs, I, hl =>
          obtain ⟨vs, ev, pv'⟩ := I.u.top
          have hvl : vs.length = g.length := Paired.length pv'
          have hgl : g.length ≤ i + 1 := Nat.le_trans (nodF_len List.mem_cons_self) I.nod
          refine ⟨_, rfl, rfl, _, rfl, ite2 (fun _ => ?_) (fun _ => ?_)⟩
          · refine ⟨_, rfl, _, rfl, st, _, _, .ref r, rfl, rfl, SqL.of I.u.u, last_ref r rs, .inl ⟨rfl, _, SqL.of ev⟩, _, rfl, c, rfl, fun x hx => ⟨r, vs, _, rfl, rfl, ev, by omega, ?_⟩⟩
            exact ⟨hi', r :: rs, (g ++ [.str x]) :: fs, _, _, _, _, rfl, I.add ev (.inl ⟨x, rfl, hx⟩) fun H' n => by cases n <;> exact ⟨strOk_of hx, rfl⟩⟩
          · refine ⟨_, rfl, rfl, _, rfl, ite2 (fun _ => ?_) (fun _ => ?_)⟩
            · refine ⟨_, rfl, _, rfl, st, _, _, .ref r, rfl, rfl, SqL.of I.u.u, last_ref r rs, .inl ⟨rfl, _, SqL.of ev⟩, _, rfl, _, _, rfl, rfl, ⟨by decide, by decide⟩, _, _, rfl, rfl, (by show (0 : Int) < 23; decide), _, _, rfl, rfl, r, vs, _, rfl, rfl, ev, by omega, ?_⟩
              have hb : -11 ≤ n / 6 % 23 - 11 ∧ n / 6 % 23 - 11 ≤ 11 := by omega
              exact ⟨hi', r :: rs, (g ++ [.int (n / 6 % 23 - 11)]) :: fs, _, _, _, _, rfl, I.add ev (.inr ⟨_, rfl, by omega, by omega⟩) fun H' n => by cases n <;> rfl⟩
            · refine ⟨_, rfl, rfl, _, rfl, ite2 (fun _ => ?_) (fun _ => ?_)⟩
              · refine ⟨_, rfl, _, rfl, st, _, _, .ref r, rfl, rfl, SqL.of I.u.u, last_ref r rs, .inl ⟨rfl, _, SqL.of ev⟩, _, rfl, _, rfl, _, _, rfl, rfl, .inl ⟨by decide, by decide⟩, _, _, rfl, rfl, _, _, rfl, rfl, (by show (0 : Int) < 2 * M - 1; omega), _, rfl, _, _, rfl, rfl, _, _, rfl, rfl, r, vs, _, rfl, rfl, ev, by omega, ?_⟩
                have hb : -M < c % (2 * M - 1) - M + 1 ∧ c % (2 * M - 1) - M + 1 < M := by
                  have h1 := Int.emod_nonneg c (b := 2 * M - 1) (by omega)
                  have h2 := Int.emod_lt_of_pos c (b := 2 * M - 1) (by omega)
                  omega
                exact ⟨hi', r :: rs, (g ++ [.int (c % (2 * M - 1) - M + 1)]) :: fs, _, _, _, _, rfl, I.add ev (.inr ⟨_, rfl, by rw [hMM]; exact hb.1, by rw [hMM]; exact hb.2⟩) fun H' n => by cases n <;> rfl⟩
              · have push : ∃ (Z : Prop), Z := ⟨True, trivial⟩
                refine ⟨_, rfl, rfl, _, rfl, ite2 (fun _ => ?_) (fun _ => iteF ?_)⟩
                · refine ⟨_, rfl, st, _, rfl, .inl (SqL.of I.u.u), _, _, rfl, rfl, _, rfl, ite2 (fun h2 => ?_) (fun _ => ?_)⟩
                  · have h2 : (1 : Int) < (((r :: rs).map V.ref).reverse.length : Nat) := of_decide_eq_true h2
                    rw [List.length_reverse, List.length_map] at h2
                    match rs, fs, I, hl, h2 with
                    | [], _, _, _, h2 => exact absurd h2 (by simp)
                    | r2 :: rs, [], _, hl, _ => cases hl
                    | r2 :: rs, b :: fs, I, hl, h2 =>
                      have er : ((r :: r2 :: rs).map V.ref).reverse = ((r2 :: rs).map V.ref).reverse ++ [.ref r] := by simp
                      have few := I.few
                      simp only [List.length_cons] at few hl
                      obtain ⟨U4, s4⟩ := I.u.close (by omega)
                      refine ⟨_, rfl, .inl ⟨rfl, _, SqL.of I.u.u⟩, st, _, .ref r, rfl, rfl, I.u.u, by rw [er]; simp, ?_⟩
                      rw [er, List.dropLast_concat]
                      refine ⟨hi', r2 :: rs, (b ++ [.list g]) :: fs, _, _, _, _, rfl, U4, I.s.trans s4, List.cons_ne_nil _ _, by simp only [List.length_cons]; omega, I.lp.close, ?_⟩
                      have := I.nod
                      rw [nodF_cons, nodF_cons] at this
                      rw [nodF_cons, nodL_snoc, nod_list]
                      omega
                  · refine ⟨by decide, fun r9 h9 => ?_⟩
                    have nsr : st ≠ r := fun z => (List.nodup_cons.mp I.u.nd).1 (by rw [z]; exact List.mem_cons_self)
                    have u9 := (Same.new (o := .lst []) h9) _ _ I.u.u
                    have e9 := (Same.new (o := .lst []) h9) _ _ ev
                    refine ⟨_, rfl, _, rfl, st, _, _, .ref r, rfl, rfl, SqL.of u9, last_ref r rs, .inl ⟨rfl, _, SqL.of e9⟩, _, rfl, r, vs, _, rfl, rfl, e9, by omega, ?_⟩
                    have u10 : (upd (upd H' r9 (.lst [])) r (.lst (vs ++ [.ref r9]))) st = some (.lst ((r :: rs).map V.ref).reverse) := by rw [upd_ne nsr]; exact u9
                    refine ⟨_, rfl, .inl ⟨rfl, _, SqL.of u10⟩, _, rfl, st, _, _, rfl, rfl, u10, ?_, ?_⟩
                    · rw [List.length_reverse, List.length_map, hl]
                      have := I.few
                      omega
                    · obtain ⟨U4, s4⟩ := I.u.push ev h9
                      have few := I.few
                      have hnod := I.nod
                      refine ⟨hi', r9 :: r :: rs, [] :: g :: fs, _, _, _, _, rfl, U4, I.s.trans s4, List.cons_ne_nil _ _, by simp only [List.length_cons] at few ⊢; omega, fun f' hf' x hx => ?_, ?_⟩
                      · rcases List.mem_cons.mp hf' with rfl | hf'
                        · exact nomatch hx
                        · exact I.lp f' hf' x hx
                      · rw [nodF_cons, nodL_nil]
                        omega
                · refine ⟨by decide, fun r9 h9 => ?_⟩
                  have nsr : st ≠ r := fun z => (List.nodup_cons.mp I.u.nd).1 (by rw [z]; exact List.mem_cons_self)
                  have u9 := (Same.new (o := .lst []) h9) _ _ I.u.u
                  have e9 := (Same.new (o := .lst []) h9) _ _ ev
                  refine ⟨_, rfl, _, rfl, st, _, _, .ref r, rfl, rfl, SqL.of u9, last_ref r rs, .inl ⟨rfl, _, SqL.of e9⟩, _, rfl, r, vs, _, rfl, rfl, e9, by omega, ?_⟩
                  have u10 : (upd (upd H' r9 (.lst [])) r (.lst (vs ++ [.ref r9]))) st = some (.lst ((r :: rs).map V.ref).reverse) := by rw [upd_ne nsr]; exact u9
                  refine ⟨_, rfl, .inl ⟨rfl, _, SqL.of u10⟩, _, rfl, st, _, _, rfl, rfl, u10, ?_, ?_⟩
                  · rw [List.length_reverse, List.length_map, hl]
                    have := I.few
                    omega
                  · obtain ⟨U4, s4⟩ := I.u.push ev h9
                    have few := I.few
                    have hnod := I.nod
                    refine ⟨hi', r9 :: r :: rs, [] :: g :: fs, _, _, _, _, rfl, U4, I.s.trans s4, List.cons_ne_nil _ _, by simp only [List.length_cons] at few ⊢; omega, fun f' hf' x hx => ?_, ?_⟩
                    · rcases List.mem_cons.mp hf' with rfl | hf'
                      · exact nomatch hx
                      · exact I.lp f' hf' x hx
                    · rw [nodF_cons, nodL_nil]
                      omega
    · obtain ⟨_, rs, fs, o3, o4, o5, o6, rfl, I⟩ := h
      have hl := I.u.fr.len
      rw [List.length_map] at I
      have few := I.few
      have hrs : rs ≠ [] := fun z => by
        rw [z] at hl
        exact I.ne (List.length_eq_zero_iff.mp hl.symm)
      obtain ⟨r, d, e1, e2, ⟨n, e3⟩, e4⟩ := lk_all (k := 0) I.u.fr I.lp (by omega) (fun a ha => nomatch ha) hrs
      refine ⟨_, rfl, st, _, _, .ref r, rfl, rfl, SqL.of I.u.u, ?_, q _ d n H' (I.s.trans Wi.in_) e2 e3 ⟨_, rfl⟩ (by have := I.nod; omega)⟩
      refine atI_nat (j := 0) ?_
      rw [← List.head?_eq_getElem?, List.head?_reverse, List.getLast?_map, e1]
      rfl
end
end Net

namespace L2
open PySem PySem.Spec PyProof.Rows
section
variable {X : Cx}
def rStrA (K : PySem.W.Frag) : List V → Hp → VK → Prop := fun xs H Q => (∃ (a : Addr) (n : Nat) (d : PyData), xs = [.ref a] ∧ n ≤ 100 ∧ RdD K H n (.ref a) d ∧ d.showable = true ∧ d.shown.length ≤ sizeLine ∧ Q (.str d.shown) H) ∨ (∃ i : Int, xs = [.int i] ∧ i.natAbs.log2 < 1920 ∧ Q (.str (Tx.numT i)) H) ∨ ∃ x, xs = [.str x] ∧ Q (.str x) H
theorem call_strA (hg : X.A.guards = some []) (hu : X.A.units + 200 < cLine) : CallR X (.type "str") (rStrA X.K) := by
  intro pins s σ H xs us Q I r h
  rcases h with ⟨a, n, d, rfl, hn, rd, h1, h3, q⟩ | ⟨i, rfl, hi, q⟩ | ⟨x, rfl, q⟩
  · obtain ⟨u, rfl, ru⟩ := vals1 r
    cases ru
    obtain ⟨⟨as, rs⟩, hcl, hd⟩ := rd.reads I n _ _ _ rfl
    have h2 := PyData.hasDict_of_canLay d hcl
    refine str_of_reads rs h1 (fun z => by rw [h2] at z; cases z) hg (by omega) (fun _ _ z => z) (fun h' u tk hk => ?_) h3
    exact ⟨.str d.shown, H, I.kept hk, ⟨_, rfl⟩, q⟩
  · exact call_str_int pins s σ H _ us Q I r ⟨i, rfl, hi, q⟩
  · obtain ⟨u, rfl, t, rfl⟩ := vals1 r
    exact PySem.P.str_of_str ⟨.str x, H, I, ⟨_, rfl⟩, q⟩
end
end L2
namespace Net
open PySem L2 L2.Tx
/-! ### the law's papers: their texts -/
theorem LP.get {n : Nat} {d : PyData} (h : LP n d) : LawAt d ∨ ∃ m ds, n = m + 1 ∧ d = .list ds ∧ ∀ x ∈ ds, LP m x := by
  cases n with
  | zero => cases d <;> first | exact .inl h | exact h.elim
  | succ n => cases d <;> first | exact .inl h | exact .inr ⟨n, _, rfl, rfl, h⟩
theorem int_facts {i : Int} (h1 : -(10 ^ 120) < i) (h2 : i < 10 ^ 120) : (numT i).length ≤ 121 ∧ i.natAbs.log2 < 1920 := by
  have hn : i.natAbs < 10 ^ 120 := by omega
  constructor
  · rw [← len_eq]
    cases i with
    | ofNat m =>
      show (numT (m : Int)).cps.toList.length ≤ 121
      rw [numT_nat]
      have := dg_len (m := m) (k := 120) (by decide) (by simpa using hn)
      omega
    | negSucc m =>
      rw [numT_neg, List.length_cons]
      have := dg_len (m := m + 1) (k := 120) (by decide) (by simpa using hn)
      omega
  · have h3 : (10 : Nat) ^ 120 < 2 ^ 400 := by
      have z : ((10 : Nat) ^ 3) ^ 40 < (2 ^ 10) ^ 40 := Nat.pow_lt_pow_left (by decide) (by decide)
      rw [← Nat.pow_mul, ← Nat.pow_mul] at z
      exact z
    by_cases h0 : i.natAbs = 0
    · rw [h0]; decide
    · have := (Nat.log2_lt h0).mpr (Nat.lt_trans hn h3)
      omega
theorem sh_atom {d : PyData} (h : LawAt d) : d.showable = true ∧ d.shown.length ≤ 130 ∧ (showP shA d).length ≤ 121 ∧ ∀ c ∈ showP shA d, c < 1114112 := by
  rcases h with ⟨x, rfl, hx⟩ | ⟨i, rfl, h1, h2⟩
  · have hs := name_signs hx
    have hl := name_len hx
    refine ⟨by simp only [PyData.showable], ?_, ?_, fun c hc => ?_⟩
    · simp only [PyData.shown]
      have := StrLaws.reprText_len x fun c hc => by
        have := hs c hc
        have h8 : (200 : Nat) < 16 ^ 8 := by decide
        omega
      omega
    · rw [show_at rfl]
      show x.cps.toList.length ≤ 121
      rw [len_eq]
      omega
    · rw [show_at rfl] at hc
      have := hs c hc
      omega
  · obtain ⟨f1, f2⟩ := int_facts h1 h2
    refine ⟨by simp only [PyData.showable]; exact decide_eq_true f2, ?_, ?_, fun c hc => ?_⟩
    · simp only [PyData.shown]
      exact Nat.le_trans f1 (by decide)
    · rw [show_at rfl]
      show (numT i).cps.toList.length ≤ 121
      rw [len_eq]
      exact f1
    · rw [show_at rfl] at hc
      have hc : c ∈ (numT i).cps.toList := hc
      have : c = 45 ∨ (48 ≤ c ∧ c ≤ 57) := by
        cases i with
        | ofNat m =>
          have hc : c ∈ (numT (m : Int)).cps.toList := hc
          rw [numT_nat] at hc
          exact .inr (dg_digits m c hc)
        | negSucc m =>
          rw [numT_neg] at hc
          rcases List.mem_cons.mp hc with z | z
          · exact .inl z
          · exact .inr (dg_digits _ c z)
      omega
theorem text_sum : ∀ (ts : List Str) (k : Nat) (acc : Str), (textFrom k acc ts).length ≤ acc.length + (ts.map fun t => t.length + 2).sum
  | [], _, acc => by show acc.length ≤ acc.length + 0; omega
  | t :: r, k, acc => by
    have ih := text_sum r (k + 1) (acc ++ (if k > 0 then ", " else "" : String) ++ t)
    have h2 : (acc ++ (Str.ofString (if k > 0 then ", " else "")) ++ t).length ≤ acc.length + (t.length + 2) := by
      rw [str_len_app, str_len_app]
      have : (Str.ofString (if k > 0 then ", " else "")).length ≤ 2 := by split <;> decide +kernel
      omega
    show (textFrom (k + 1) _ r).length ≤ _
    refine Nat.le_trans ih ?_
    rw [List.map_cons, List.sum_cons]
    omega
/-- how long the texts are -/
theorem sh_lp : ∀ (n : Nat) (d : PyData), LP n d → d.showable = true ∧ d.shown.length + 2 ≤ 132 * nod d ∧ (showP shA d).length + 1 ≤ 124 * nod d ∧ ∀ c ∈ showP shA d, c < 1114112
  | n, d, h => by
    rcases h.get with h1 | ⟨m, ds, rfl, rfl, h1⟩
    · obtain ⟨a, b, c, e⟩ := sh_atom h1
      rw [nod_at h1]
      exact ⟨a, by omega, by omega, e⟩
    · have all : ∀ ds : List PyData, (∀ x ∈ ds, LP m x) → PyData.showableAll ds = true ∧ ((PyData.shownAll ds).map fun t => t.length + 2).sum ≤ 132 * nodL ds ∧ wgt ds ≤ 124 * nodL ds ∧ ∀ c ∈ showR shA ds, c < 1114112 := fun ds => by
        induction ds with
        | nil =>
          intro _
          refine ⟨by simp [PyData.showableAll], by simp [PyData.shownAll], Nat.zero_le _, fun c hc => ?_⟩
          rw [showR_nil] at hc
          cases hc
        | cons x r ih =>
          intro hx
          obtain ⟨a1, a2, a3, a4⟩ := sh_lp m x (hx x List.mem_cons_self)
          obtain ⟨b1, b2, b3, b4⟩ := ih fun y hy => hx y (List.mem_cons_of_mem _ hy)
          refine ⟨by simp only [PyData.showableAll, a1, b1]; rfl, ?_, ?_, fun c hc => ?_⟩
          · simp only [PyData.shownAll, List.map_cons, List.sum_cons]
            rw [nodL_cons]
            omega
          · rw [wgt_cons, nodL_cons]
            omega
          · rw [showR_cons] at hc
            rcases List.mem_cons.mp hc with rfl | hc
            · decide
            · rcases List.mem_append.mp hc with hc | hc
              · exact a4 c hc
              · exact b4 c hc
      obtain ⟨b1, b2, b3, b4⟩ := all ds h1
      refine ⟨by simp only [PyData.showable]; exact b1, ?_, ?_, fun c hc => ?_⟩
      · simp only [PyData.shown]
        unfold listText
        rw [str_len_app]
        have := text_sum (PyData.shownAll ds) 0 "["
        have e1 : (Str.ofString "[").length = 1 := by decide +kernel
        have e2 : (Str.ofString "]").length = 1 := by decide +kernel
        rw [e1] at this
        rw [e2, nod_list]
        omega
      · have := showL_len ds
        rw [nod_list]
        omega
      · rw [show_list] at hc
        rcases List.mem_cons.mp hc with rfl | hc
        · decide
        · rcases List.mem_append.mp hc with hc | hc
          · cases ds with
            | nil => rw [showJ_nil] at hc; cases hc
            | cons x r => exact b4 c (by rw [showR_cons, ← showJ_cons]; exact List.mem_cons_of_mem _ hc)
          · rw [List.mem_singleton.mp hc]
            decide
theorem nodL_take : ∀ (ds : List PyData) (k : Nat), nodL (ds.take k) ≤ nodL ds
  | [], k => by rw [List.take_nil]; exact Nat.le_refl _
  | d :: ds, 0 => by rw [List.take_zero, nodL_nil]; exact Nat.zero_le _
  | d :: ds, k + 1 => by
    rw [List.take_succ_cons, nodL_cons, nodL_cons]
    have := nodL_take ds k
    omega
theorem showJ_fits {n k : Nat} {ds : List PyData} (h : ∀ x ∈ ds, LP n x) (hn : nodL ds ≤ 60) : (showJ shA (ds.take k)).length ≤ 7600 ∧ ∀ c ∈ showJ shA (ds.take k), c < 1114112 := by
  have lp : LP (n + 1) (.list (ds.take k)) := fun x hx => h x (List.mem_of_mem_take hx)
  obtain ⟨_, _, a3, a4⟩ := sh_lp _ _ lp
  have hk : nodL (ds.take k) ≤ nodL ds := nodL_take ds k
  rw [show_list] at a3 a4
  refine ⟨?_, fun c hc => a4 c (List.mem_cons_of_mem _ (List.mem_append_left _ hc))⟩
  rw [nod_list, List.length_cons, List.length_append] at a3
  omega
structure Rw (H0 H : Hp) (r : Addr) (v : V) (d : PyData) (k : Nat) (t : List Nat) : Prop where
  at_ : H r = some (.lst [v, .int k, .str (mkS t)])
  pd : PD H0 61 v d
  lp : ∃ n, LP n d
  nod : nod d ≤ 60
  ok : ∀ c ∈ t, c < 1114112
  len : t.length ≤ 7600
abbrev Rq := V × PyData × Nat
def RwAt (H0 H : Hp) : Option PyData → List Addr → List Rq → Prop
  | _, [], [] => True
  | none, r :: rs, q :: qs => (∃ t, Rw H0 H r q.1 q.2.1 q.2.2 t ∧ ((∃ ds, q.2.1 = .list ds ∧ q.2.2 ≤ ds.length ∧ t = showJ shA (ds.take q.2.2)) ∨ LawAt q.2.1)) ∧ RwAt H0 H (some q.2.1) rs qs
  | some d', r :: rs, q :: qs => (∃ t ds, Rw H0 H r q.1 q.2.1 q.2.2 t ∧ q.2.1 = .list ds ∧ 1 ≤ q.2.2 ∧ ds[q.2.2 - 1]? = some d' ∧ t = showJ shA (ds.take (q.2.2 - 1))) ∧ RwAt H0 H (some q.2.1) rs qs
  | _, _, _ => False
theorem Rw.move {H0 H H' : Hp} {r : Addr} {v : V} {d : PyData} {k : Nat} {t : List Nat} (w : Rw H0 H r v d k t) (e : H' r = H r) : Rw H0 H' r v d k t := ⟨e.trans w.at_, w.pd, w.lp, w.nod, w.ok, w.len⟩
theorem RwAt.move {H0 H H' : Hp} : ∀ {o : Option PyData} {rs : List Addr} {qs : List Rq}, (∀ r ∈ rs, H' r = H r) → RwAt H0 H o rs qs → RwAt H0 H' o rs qs
  | none, [], [], _, _ => True.intro
  | some _, [], [], _, _ => True.intro
  | none, [], _ :: _, _, h => h.elim
  | some _, [], _ :: _, _, h => h.elim
  | none, _ :: _, [], _, h => h.elim
  | some _, _ :: _, [], _, h => h.elim
  | none, r :: rs, q :: qs, k, h => by
    obtain ⟨⟨t, w, z⟩, t2⟩ := h
    exact ⟨⟨t, w.move (k r List.mem_cons_self), z⟩, t2.move fun x hx => k x (List.mem_cons_of_mem _ hx)⟩
  | some _, r :: rs, q :: qs, k, h => by
    obtain ⟨⟨t, ds, w, z⟩, t2⟩ := h
    exact ⟨⟨t, ds, w.move (k r List.mem_cons_self), z⟩, t2.move fun x hx => k x (List.mem_cons_of_mem _ hx)⟩
theorem RwAt.has {H0 H : Hp} : ∀ {o : Option PyData} {rs : List Addr} {qs : List Rq}, RwAt H0 H o rs qs → ∀ r ∈ rs, ∃ v d k t, Rw H0 H r v d k t
  | none, [], _, _, _, h => nomatch h
  | some _, [], _, _, _, h => nomatch h
  | none, _ :: _, [], h, _, _ => h.elim
  | some _, _ :: _, [], h, _, _ => h.elim
  | none, r :: rs, q :: qs, h, x, hx => by
    obtain ⟨⟨t, w, z⟩, t2⟩ := h
    rcases List.mem_cons.mp hx with rfl | hx
    · exact ⟨_, _, _, _, w⟩
    · exact t2.has x hx
  | some _, r :: rs, q :: qs, h, x, hx => by
    obtain ⟨⟨t, ds, w, z⟩, t2⟩ := h
    rcases List.mem_cons.mp hx with rfl | hx
    · exact ⟨_, _, _, _, w⟩
    · exact t2.has x hx
theorem RwAt.len {H0 H : Hp} : ∀ {o : Option PyData} {rs : List Addr} {qs : List Rq}, RwAt H0 H o rs qs → rs.length = qs.length
  | none, [], [], _ => rfl
  | some _, [], [], _ => rfl
  | none, [], _ :: _, h => h.elim
  | some _, [], _ :: _, h => h.elim
  | none, _ :: _, [], h => h.elim
  | some _, _ :: _, [], h => h.elim
  | none, _ :: _, _ :: _, h => congrArg (· + 1) h.2.len
  | some _, _ :: _, _ :: _, h => congrArg (· + 1) h.2.len
/-- a row as data -/
theorem Rw.data {H0 H : Hp} {r : Addr} {v : V} {d : PyData} {k : Nat} {t : List Nat} (w : Rw H0 H r v d k t) (s : Same H0 H) : PD H 62 (.ref r) (.list [d, .int k, .str (mkS t)]) := by
  refine .inl ⟨_, _, w.at_, rfl, .cons (w.pd.same s) (.cons rfl (.cons ⟨?_, rfl⟩ .nil))⟩
  unfold PyData.strOk
  rw [Array.all_eq_true']
  intro c hc
  have := w.ok c (by simpa [mkS] using hc)
  simpa using this
def wkQ (q : Rq) : Nat := match q.2.1 with | .list ds => 2 * nodL (ds.drop q.2.2) + 1 | _ => 1
def wkS (qs : List Rq) : Nat := (qs.map wkQ).sum
theorem wkS_cons (q : Rq) (qs : List Rq) : wkS (q :: qs) = wkQ q + wkS qs := rfl
theorem wkQ_pos (q : Rq) : 1 ≤ wkQ q := by
  unfold wkQ
  split <;> omega
theorem wkQ_new (v : V) {d : PyData} {n : Nat} (h : LP n d) : wkQ (v, d, 0) + 1 = 2 * nod d := by
  rcases h.get with h1 | ⟨m, ds, rfl, rfl, h1⟩
  · rw [nod_at h1]
    rcases h1 with ⟨x, rfl, _⟩ | ⟨i, rfl, _⟩ <;> rfl
  · rw [nod_list]
    show 2 * nodL (ds.drop 0) + 1 + 1 = _
    rw [List.drop_zero]
    omega
theorem wkQ_step {v : V} {ds : List PyData} {k : Nat} {d : PyData} (h : ds[k]? = some d) : wkQ (v, .list ds, k) = wkQ (v, .list ds, k + 1) + 2 * nod d := by
  obtain ⟨hk, e⟩ := List.getElem?_eq_some_iff.mp h
  show 2 * nodL (ds.drop k) + 1 = 2 * nodL (ds.drop (k + 1)) + 1 + 2 * nod d
  rw [List.drop_eq_getElem_cons hk, nodL_cons, e]
  omega
def spPtext : Sp := fun vs H Q _ => ∃ (v : V) (d : PyData) (n : Nat), vs = [v] ∧ PD H 61 v d ∧ LP n d ∧ nod d ≤ 60 ∧ ∀ H', Same H H' → Q (.str (mkS (showP shA d))) H'
theorem and_last {b : Bool} {A B T : Prop} (hB : B) (hT : b = true → B → T) : if b = true then T else (if false = true then A else B) := by
  cases b with
  | true => exact iteT (hT rfl hB)
  | false => exact iteF (iteF hB)
theorem mem_nod {d : PyData} : ∀ {ds : List PyData}, d ∈ ds → nod d ≤ nodL ds
  | [], h => nomatch h
  | e :: ds, h => by
    rw [nodL_cons]
    rcases List.mem_cons.mp h with rfl | h
    · omega
    · have := mem_nod h
      omega
section
variable {P : Program} {w : World} {K : PySem.W.Frag} {mg : Str → Option Value} {base : Heap}
abbrev Nptx : List Str := ["_law_paper_here", "_law_rows", "_law_top", "_law_text"]
theorem sc_ptx : FnScope Nptx ["_law_paper_here"] (defScope s_l_paper_text) := ⟨rfl, rfl, rfl, by decide +kernel, rfl, by decide +kernel, by decide +kernel⟩
theorem ok_ptx {f : Addr} {fd : FuncData} (F : Fun K "_law_paper_text" "_law_paper_text" s_l_paper_text f fd) (T : Txt K mg) : FnOk P w K mg base CX0 1 f fd ["_law_paper_here"] spPtext := by
  refine F.ok sc_ptx (fun vs H Q E h => ?_) (fun cdv A outer s H vs Q E hr h => ?_)
  · obtain ⟨v, d, n, rfl, _⟩ := h
    rfl
  · obtain ⟨v0, d0, n0, rfl, pd0, lp0, hn0, q⟩ := h
    have hU := hr.units
    have hu : (_ : Around).units + 200 < cLine := hr.un
    refine ⟨_, (pss_cons (ps_set (i := 1) sc_ptx.nd rfl (Or.inl rfl) (pe_lst (pa_cons (pe_lst (pa_cons (pv 0) (pa_cons pe_int (pa_cons pe_str pa_nil)))) pa_nil)))
      (pss_one (ps_while PassesOwn.never (pt_val pe_bl)
          (pss_cons (ps_set (i := 2) sc_ptx.nd rfl (Or.inl rfl) (pe_ix ix_list (pv 1) (pe_un un_neg pe_int) (fun _ _ => by rfl)))
      (pss_one (ps_if (PW.pt (pw_and (pt_val (pe_callB call_isinst (by rfl) T.isi b_isi (pa_cons (pe_ix ix_list (pv 2) pe_int (fun _ _ => by rfl)) (pa_cons (pe_ty T.list (by rfl) b_list) pa_nil)))) (pw_and1 (pt_cmpR op_lt (pe_ix ix_list (pv 2) pe_int (fun _ _ => by rfl)) (pe_callB call_len_seq (by rfl) T.len b_len (pa_cons (pe_ix ix_list (pv 2) pe_int (fun _ _ => by rfl)) pa_nil)) (nomark _))))) (pss_cons (ps_expr (pe_bm PySem.F.plainAttrs_list PySem.F.slot_list_append PySem.F.type_list_append mt_append (pv 1) (pa_cons (pe_lst (pa_cons (pe_ix ix_list (pe_ix ix_list (pv 2) pe_int (fun _ _ => by rfl)) (pe_ix ix_list (pv 2) pe_int (fun _ _ => by rfl)) (fun _ _ => by rfl)) (pa_cons pe_int (pa_cons pe_str pa_nil)))) pa_nil)))
      (pss_one (ps_asg (pe_op op_add (pe_ix ix_list (pv 2) pe_int (fun _ _ => by rfl)) pe_int) (pg_sub (pv 2) pe_int set_list)))) (pss_cutE (ps_set (i := 3) sc_ptx.nd rfl (Or.inl rfl) (pe_callTy (call_strA hr.gd hu) (by rfl) T.str b_str (pa_cons (pe_ix ix_list (pv 2) pe_int (fun _ _ => by rfl)) pa_nil)))
      (pss_cutE (ps_if (pt_val (pe_callB call_isinst (by rfl) T.isi b_isi (pa_cons (pe_ix ix_list (pv 2) pe_int (fun _ _ => by rfl)) (pa_cons (pe_ty T.list (by rfl) b_list) pa_nil)))) (pss_one (ps_set (i := 3) sc_ptx.nd rfl (Or.inl rfl) (pe_op op_add_str (pe_op op_add_str pe_str (pe_ix ix_list (pv 2) pe_int (fun _ _ => by rfl))) pe_str))) pss_nil)
      (pss_cons (ps_expr (pe_bm0 PySem.F.plainAttrs_list PySem.F.slot_list_pop PySem.F.type_list_pop mt_pop (pv 1)))
      (pss_cons (ps_if (pt_cmpR (op_eqD hU) (pv 1) (pe_lst pa_nil) (nomark _)) (pss_one (ps_ret (pv 3))) pss_nil)
      (pss_cutE (ps_if (pt_cmpR op_gt (pe_ix ix_list (pe_ix ix_list (pv 1) (pe_un un_neg pe_int) (fun _ _ => by rfl)) pe_int (fun _ _ => by rfl)) pe_int (nomark _)) (pss_one (ps_asg (pe_op op_add_str (pe_ix ix_list (pe_ix ix_list (pv 1) (pe_un un_neg pe_int) (fun _ _ => by rfl)) pe_int (fun _ _ => by rfl)) pe_str) (pg_sub (pe_ix ix_list (pv 1) (pe_un un_neg pe_int) (fun _ _ => by rfl)) pe_int set_list))) pss_nil)
      (pss_one (ps_asg (pe_op op_add_str (pe_ix ix_list (pe_ix ix_list (pv 1) (pe_un un_neg pe_int) (fun _ _ => by rfl)) pe_int (fun _ _ => by rfl)) (pv 3)) (pg_sub (pe_ix ix_list (pv 1) (pe_un un_neg pe_int) (fun _ _ => by rfl)) pe_int set_list)))))))))))))), ?_⟩
    have psz : (20000 : Nat) < sizeLine := by decide
    refine ⟨_, rfl, (by show 3 ≤ sizeLine; decide), fun r0 h0 => ⟨(by show 1 ≤ sizeLine; decide), fun rl hrl => ?_⟩⟩
    have nu : r0 ≠ rl := ne_of_none (upd_same (H := H) (a := r0)) hrl
    have hrl0 : H rl = none := (Same.new h0).free hrl
    rw [empty_eq]
    have s0 : Same H (upd (upd H r0 (.lst [v0, .int 0, .str (mkS [])])) rl (.lst [.ref r0])) := (Same.new h0).upd hrl
    have e0 : (upd (upd H r0 (.lst [v0, .int 0, .str (mkS [])])) rl (.lst [.ref r0])) r0 = some (.lst [v0, .int (0 : Nat), .str (mkS [])]) := by rw [upd_ne nu]; exact upd_same
    have er0 : (upd (upd H r0 (.lst [v0, .int 0, .str (mkS [])])) rl (.lst [.ref r0])) rl = some (.lst [.ref r0]) := upd_same
    generalize upd (upd H r0 (.lst [v0, .int 0, .str (mkS [])])) rl (.lst [.ref r0]) = H1 at s0 e0 er0
    have first : ∀ {d : PyData} {n : Nat}, LP n d → (∃ ds, d = .list ds ∧ 0 ≤ ds.length ∧ ([] : List Nat) = showJ shA (ds.take 0)) ∨ LawAt d := fun {d n} h => by
      rcases h.get with z | ⟨m, ds, _, rfl, _⟩
      · exact .inr z
      · exact .inl ⟨ds, rfl, Nat.zero_le _, by rw [List.take_zero, showJ_nil]⟩
    refine ⟨fun m σ' H' => ∃ (rs : List Addr) (qs : List Rq) (o2 o3 : Option V), σ' = [some v0, some (.ref rl), o2, o3] ∧ m = wkS qs ∧ wkS qs ≤ 130 ∧ Same H H' ∧ H' rl = some (.lst (rs.map V.ref).reverse) ∧ (rl :: rs).Nodup ∧ (∀ a ∈ rl :: rs, H a = none) ∧ RwAt H H' none rs qs ∧ rs ≠ [] ∧ (qs.map fun q => q.2.1).getLast? = some d0, ⟨_, [r0], [(v0, d0, 0)], none, none, rfl, rfl, (by have := wkQ_new v0 lp0; rw [wkS_cons]; show wkQ (v0, d0, 0) + 0 ≤ 130; omega), s0, er0, by simp [Ne.symm nu], fun a ha => by
        rcases List.mem_cons.mp ha with rfl | ha
        · exact hrl0
        · rw [List.mem_singleton.mp ha]
          exact h0, ⟨⟨[], ⟨e0, pd0, ⟨n0, lp0⟩, hn0, fun _ z => (nomatch z), Nat.zero_le _⟩, first lp0⟩, True.intro⟩, List.cons_ne_nil _ _, rfl⟩, ?_⟩
    rintro m σ' H' ⟨rs, qs, o2, o3, rfl, rfl, hwk, sH, erl, nd, fresh, R, hne, hroot⟩
    match rs, qs, R, hne, erl, nd, fresh, hwk, hroot with
    | [], _, _, hne, _, _, _, _, _ => exact absurd rfl hne
    | _ :: _, [], R, _, _, _, _, _, _ => exact R.elim
    | r :: rs, (v, d, k) :: qs, R, _, erl, nd, fresh, hwk, hroot =>
      obtain ⟨⟨t, w, hk⟩, R2⟩ := R
      have hl := R2.len
      obtain ⟨n1, n2⟩ := List.nodup_cons.mp nd
      obtain ⟨n3, _⟩ := List.nodup_cons.mp n2
      have nrl : rl ≠ r := fun z => n1 (by rw [z]; exact List.mem_cons_self)
      have pdv := w.pd.same sH
      obtain ⟨ty, hty, kl, ks⟩ := PD.ty (K := K) pdv
      have a0 : atI [v, V.int k, .str (mkS t)] 0 = some v := atI_nat (j := 0) rfl
      have a1 : atI [v, V.int k, .str (mkS t)] 1 = some (.int k) := atI_nat (j := 1) rfl
      have a2 : atI [v, V.int k, .str (mkS t)] 2 = some (.str (mkS t)) := atI_nat (j := 2) rfl
      obtain ⟨n, lpd⟩ := w.lp
      obtain ⟨sh1, sh2, sh3, sh4⟩ := sh_lp n d lpd
      have hnod : nod d ≤ 60 := w.nod
      refine ⟨_, rfl, iteT ⟨fun σ2 H2 => ∃ (rs2 : List Addr) (qs2 : List Rq) (o2 o3 : Option V), σ2 = [some v0, some (.ref rl), o2, o3] ∧ wkS qs2 < wkS ((v, d, k) :: qs) ∧ Same H H2 ∧ H2 rl = some (.lst (rs2.map V.ref).reverse) ∧ (rl :: rs2).Nodup ∧ (∀ a ∈ rl :: rs2, H a = none) ∧ RwAt H H2 none rs2 qs2 ∧ rs2 ≠ [] ∧ (qs2.map fun q => q.2.1).getLast? = some d0, fun σ2 H2 ⟨rs2, qs2, o2, o3, z1, z2, z3⟩ => ⟨_, z2, rs2, qs2, o2, o3, z1, rfl, Nat.le_trans (Nat.le_of_lt z2) hwk, z3⟩, ?_⟩⟩
      refine ⟨_, rfl, _, rfl, rl, _, _, .ref r, rfl, rfl, SqL.of erl, last_ref r rs, ?_⟩
      refine ⟨_, rfl, r, _, _, v, rfl, rfl, SqL.of w.at_, a0, v, "list", ty, _, rfl, hty, kl, _, rfl, ?_⟩
      have hrl0 : H rl = none := fresh rl List.mem_cons_self
      have hr0 : H r = none := fresh r (List.mem_cons_of_mem _ List.mem_cons_self)
      by_cases hpush : ∃ ds d', d = .list ds ∧ ds[k]? = some d'
      · obtain ⟨ds, d', rfl, hd'⟩ := hpush
        obtain ⟨m', a, xs, em, rfl, ha0, pr⟩ := w.pd.list_of
        obtain rfl : m' = 60 := by omega
        have ha := sH _ _ ha0
        have hkl : k < ds.length := (List.getElem?_eq_some_iff.mp hd').1
        have hxl : xs.length = ds.length := Paired.length pr
        obtain ⟨v', hv'⟩ : ∃ v', xs[k]? = some v' := ⟨xs[k]'(by omega), List.getElem?_eq_getElem _⟩
        obtain ⟨d2, hd2, pd'⟩ := pair_get pr hv'
        rw [hd'] at hd2
        cases hd2
        have hdm : d' ∈ ds := List.mem_of_getElem? hd'
        obtain ⟨n', lpd'⟩ : ∃ n', LP n' d' := by
          rcases lpd.get with z | ⟨m, ds', _, e, z⟩
          · rcases z with ⟨x, e, _⟩ | ⟨i, e, _⟩ <;> cases e
          · cases e
            exact ⟨m, z d' hdm⟩
        have nodd' : nod d' ≤ 60 := by
          rw [nod_list] at hnod
          have := mem_nod hdm
          omega
        have ht : t = showJ shA (ds.take k) := by
          rcases hk with ⟨dsx, e, _, z⟩ | z
          · cases e
            exact z
          · rcases z with ⟨x, e, _⟩ | ⟨i, e, _⟩ <;> cases e
        refine iteT ⟨_, rfl, r, _, _, _, rfl, rfl, SqL.of w.at_, a1, _, rfl, r, _, _, _, rfl, rfl, SqL.of w.at_, a0, a, _, rfl, .inl (SqL.of ha), _, _, rfl, rfl, _, rfl, iteTb (decide_eq_true (by rw [hxl]; omega)) ?_⟩
        refine ⟨_, rfl, .inl ⟨rfl, _, SqL.of erl⟩, _, rfl, r, _, _, _, rfl, rfl, SqL.of w.at_, a0, _, rfl, r, _, _, _, rfl, rfl, SqL.of w.at_, a1, a, _, _, v', rfl, rfl, SqL.of ha, atI_nat hv', (by show 3 ≤ sizeLine; decide), fun r9 h9 => ?_⟩
        have nr9 : r ≠ r9 := ne_of_none w.at_ h9
        have nl9 : rl ≠ r9 := ne_of_none erl h9
        have n9 : ∀ x ∈ rs, x ≠ r9 := fun x hx => by
          obtain ⟨_, _, _, _, w'⟩ := R2.has x hx
          exact ne_of_none w'.at_ h9
        have hH9 : H r9 = none := sH.free h9
        have few : rs.length ≤ 130 := by
          have h1 : ∀ qs : List Rq, qs.length ≤ wkS qs := fun qs => by
            induction qs with
            | nil => exact Nat.zero_le _
            | cons q qs ih =>
              rw [wkS_cons, List.length_cons]
              have := wkQ_pos q
              omega
          have := h1 qs
          rw [wkS_cons] at hwk
          omega
        refine ⟨rl, _, _, rfl, rfl, (Same.new h9) _ _ erl, ?_, ?_⟩
        · rw [List.length_reverse, List.length_map, List.length_cons]
          omega
        have wr : (upd (upd H' r9 (.lst [v', .int 0, .str (mkS [])])) rl (.lst (((r :: rs).map V.ref).reverse ++ [.ref r9]))) r = some (.lst [.ref a, .int k, .str (mkS t)]) := by
          rw [upd_ne (Ne.symm nrl), upd_ne nr9]
          exact w.at_
        refine ⟨_, rfl, r, _, _, _, rfl, rfl, SqL.of wr, a1, _, _, rfl, rfl, _, rfl, r, _, _, 1, rfl, rfl, wr, rfl, ?_⟩
        refine ⟨r9 :: r :: rs, (v', d', 0) :: (.ref a, .list ds, k + 1) :: qs, _, _, rfl, ?_, same_put (same_put (sH.upd h9) hrl0) hr0, ?_, ?_, fun x hx => ?_, ⟨⟨[], ⟨?_, pd'.up, ⟨n', lpd'⟩, nodd', fun _ z => (nomatch z), Nat.zero_le _⟩, first lpd'⟩, ⟨t, ds, ⟨?_, w.pd, w.lp, w.nod, w.ok, w.len⟩, rfl, Nat.succ_le_succ (Nat.zero_le _), by rw [Nat.add_sub_cancel]; exact hd', by rw [Nat.add_sub_cancel]; exact ht⟩, R2.move fun x hx => ?_⟩, List.cons_ne_nil _ _, by simpa using hroot⟩
        · have h1 := wkQ_new v' lpd'
          have h2 := wkQ_step (v := .ref a) hd'
          rw [wkS_cons, wkS_cons, wkS_cons]
          omega
        · rw [upd_ne nrl, upd_same]
          simp
        · refine List.nodup_cons.mpr ⟨fun z => ?_, List.nodup_cons.mpr ⟨fun z => ?_, n2⟩⟩
          · rcases List.mem_cons.mp z with z | z
            · exact nl9 z
            · exact n1 z
          · rcases List.mem_cons.mp z with z | z
            · exact nr9 z.symm
            · exact n9 r9 z rfl
        · rcases List.mem_cons.mp hx with rfl | hx
          · exact hrl0
          · rcases List.mem_cons.mp hx with rfl | hx
            · exact hH9
            · exact fresh x (List.mem_cons_of_mem _ hx)
        · rw [upd_ne (Ne.symm nr9), upd_ne (Ne.symm nl9), upd_same]
          rfl
        · rw [upd_same]
          rfl
        · rw [upd_ne (fun z : x = r => n3 (z ▸ hx)), upd_ne (fun z : x = rl => n1 (List.mem_cons_of_mem _ (z ▸ hx))), upd_ne (n9 x hx)]
      · -- the end of a row
        have hcase : LawAt d ∨ ∃ ds, d = .list ds ∧ k = ds.length ∧ t = showJ shA ds := by
          rcases hk with ⟨ds, e, h1, h2⟩ | z
          · refine .inr ⟨ds, e, ?_, ?_⟩
            · refine Nat.le_antisymm h1 (Nat.not_lt.mp fun z => hpush ⟨ds, ds[k], e, List.getElem?_eq_getElem z⟩)
            · have hkl : ds.length ≤ k := Nat.not_lt.mp fun z => hpush ⟨ds, ds[k], e, List.getElem?_eq_getElem z⟩
              rw [List.take_of_length_le hkl] at h2
              exact h2
          · exact .inl z
        have notL : LawAt d → isL d = false := fun z => by rcases z with ⟨x, rfl, _⟩ | ⟨i, rfl, _⟩ <;> rfl
        refine and_last ?_ (fun hb hB => ?_)
        rotate_left
        · rcases hcase with z | ⟨ds, rfl, hkl, _⟩
          · rw [notL z] at hb
            cases hb
          · obtain ⟨m', a, xs, em, rfl, ha0, pr⟩ := w.pd.list_of
            have hxl : xs.length = ds.length := Paired.length pr
            exact ⟨_, rfl, r, _, _, _, rfl, rfl, SqL.of w.at_, a1, _, rfl, r, _, _, _, rfl, rfl, SqL.of w.at_, a0, a, _, rfl, .inl (SqL.of (sH _ _ ha0)), _, _, rfl, rfl, _, rfl, iteFb (decide_eq_false (by rw [hxl]; omega)) hB⟩
        have lt : (showP shA d).length ≤ 7440 := by omega
        refine ⟨fun σ2 H2 => H' = H2 ∧ ∃ y, σ2 = [some v0, some (.ref rl), some (.ref r), some (.str y)] ∧ (LawAt d → y = mkS (showP shA d)), ?_, ?_⟩
        · refine ⟨_, rfl, r, _, _, v, rfl, rfl, SqL.of w.at_, a0, ?_⟩
          rcases hcase with z | ⟨ds, rfl, _, _⟩
          · rcases z with ⟨x, rfl, hx⟩ | ⟨i, rfl, h1, h2⟩
            · obtain ⟨x', rfl, e⟩ := w.pd.str_of rfl
              cases e
              exact .inr (.inr ⟨x, rfl, rfl, x, rfl, fun _ => by rw [show_at rfl]; exact (cps_mkS x).symm⟩)
            · have ev := w.pd.int_of
              subst ev
              exact .inr (.inl ⟨i, rfl, (int_facts h1 h2).2, rfl, _, rfl, fun _ => by rw [show_at rfl]; exact (cps_mkS (numT i)).symm⟩)
          · obtain ⟨m', a, xs, em, rfl, ha0, pr⟩ := w.pd.list_of
            refine .inl ⟨a, 61, .list ds, rfl, by decide, pdv.rd, sh1, ?_, rfl, _, rfl, fun z => ?_⟩
            · have : (132 * 60 : Nat) ≤ sizeLine := by decide
              omega
            · rcases z with ⟨x, e, _⟩ | ⟨i, e, _⟩ <;> cases e
        rintro σ2 H2 ⟨rfl, y, rfl, hy⟩
        refine ⟨fun σ2 H2 => H' = H2 ∧ σ2 = [some v0, some (.ref rl), some (.ref r), some (.str (mkS (showP shA d)))], ?_, ?_⟩
        · refine ⟨_, rfl, r, _, _, v, rfl, rfl, SqL.of w.at_, a0, v, "list", ty, _, rfl, hty, kl, _, rfl, ?_⟩
          rcases hcase with z | ⟨ds, rfl, _, ht⟩
          · rw [notL z, hy z]
            exact iteF ⟨rfl, rfl⟩
          · have tl := w.len
            have l1 : ("[" : Str).length = 1 := by decide +kernel
            have l2 : ("]" : Str).length = 1 := by decide +kernel
            refine iteT ⟨_, rfl, r, _, _, _, rfl, rfl, SqL.of w.at_, a2, _, _, rfl, rfl, ?_, _, _, rfl, rfl, ?_, rfl, ?_⟩
            · rw [mkS_len, l1]
              omega
            · rw [str_len_app, mkS_len, l1, l2]
              omega
            · have e : ("[" : Str) ++ mkS t ++ ("]" : Str) = mkS (showP shA (.list ds)) := by
                refine str_ext ?_
                rw [cps_app, cps_app, open_eq, shut_eq, ht]
                show [91] ++ showJ shA ds ++ [93] = showP shA (.list ds)
                rw [show_list]
                rfl
              rw [← e]
              rfl
        rintro σ2 H2 ⟨rfl, rfl⟩
        have er : ((r :: rs).map V.ref).reverse = (rs.map V.ref).reverse ++ [.ref r] := by simp
        refine ⟨_, rfl, .inl ⟨rfl, _, SqL.of erl⟩, rl, _, .ref r, rfl, rfl, erl, by rw [er]; simp, ?_⟩
        rw [er, List.dropLast_concat]
        have R3 : RwAt H (upd H' rl (.lst (rs.map V.ref).reverse)) (some d) rs qs := R2.move fun x hx => by rw [upd_ne (fun z : x = rl => n1 (List.mem_cons_of_mem _ (z ▸ hx)))]
        have s3 : Same H (upd H' rl (.lst (rs.map V.ref).reverse)) := same_put sH hrl0
        have e3 : (upd H' rl (.lst (rs.map V.ref).reverse)) rl = some (.lst (rs.map V.ref).reverse) := upd_same
        generalize upd H' rl (.lst (rs.map V.ref).reverse) = H3 at R3 s3 e3
        have okt : okX (mkS (showP shA d)) := ⟨by rw [mkS_len]; omega, fun c hc => sh4 c hc⟩
        refine ⟨_, rfl, by decide, fun p2 hp2 => ?_⟩
        have s4 : Same H3 (upd H3 p2 (.lst [])) := Same.new hp2
        have e4 : (upd H3 p2 (.lst [])) p2 = some (.lst []) := upd_same
        generalize upd H3 p2 (.lst []) = H4 at s4 e4
        have R4 : RwAt H H4 (some d) rs qs := R3.move fun x hx => by
          obtain ⟨_, _, _, _, w'⟩ := R3.has x hx
          rw [w'.at_]
          exact s4 _ _ w'.at_
        obtain ⟨rd, hrd⟩ : ∃ ds, Paired (PD H4 62) ((rs.map V.ref).reverse) ds := by
          have : ∀ l : List Addr, (∀ x ∈ l, x ∈ rs) → ∃ ds, Paired (PD H4 62) (l.map V.ref) ds := fun l => by
            induction l with
            | nil => intro _; exact ⟨[], .nil⟩
            | cons x l ih =>
              intro hx
              obtain ⟨ds, p⟩ := ih fun y hy => hx y (List.mem_cons_of_mem _ hy)
              obtain ⟨_, _, _, _, w'⟩ := R4.has x (hx x List.mem_cons_self)
              exact ⟨_ :: ds, .cons (w'.data (s3.trans s4)) p⟩
          obtain ⟨ds, p⟩ := this rs.reverse fun x hx => List.mem_reverse.mp hx
          rw [List.map_reverse] at p
          exact ⟨ds, p⟩
        refine ⟨63, .list rd, .list [], by decide, .inl ⟨_, rd, SqL.of (s4 _ _ e3), rfl, L2.Paired.mapP hrd fun _ _ z => z.rd⟩, .inl ⟨[], [], SqL.of e4, rfl, .nil⟩, _, rfl, ?_⟩
        show if PyData.eqv _ _ = true then _ else _
        rw [eqv_nil]
        have hrdl : rd.length = rs.length := by
          have := Paired.length hrd
          rw [List.length_reverse, List.length_map] at this
          exact this.symm
        match rs, qs, R4, hl, e3, nd, n1, n2, n3, fresh, hrdl, hwk, hroot with
        | [], [], _, _, _, _, _, _, _, _, hrdl, _, hroot =>
          have : rd = [] := List.length_eq_zero_iff.mp hrdl
          rw [this]
          have hdd : d = d0 := by simpa using hroot
          subst hdd
          exact iteT ⟨_, rfl, q _ (s3.trans s4)⟩
        | [], _ :: _, _, hl, _, _, _, _, _, _, _, _, _ => cases hl
        | _ :: _, [], _, hl, _, _, _, _, _, _, _, _, _ => cases hl
        | r2 :: rs, (v2, dd2, k2) :: qs, R4, hl, e3, nd, n1, n2, n3, fresh, hrdl, hwk, hroot =>
          obtain ⟨⟨t2, ds2, w2, edd, hk1, hd2, ht2⟩, R5⟩ := R4
          have edd : dd2 = .list ds2 := edd
          subst edd
          have hk1 : 1 ≤ k2 := hk1
          have hd2 : ds2[k2 - 1]? = some d := hd2
          have ht2 : t2 = showJ shA (ds2.take (k2 - 1)) := ht2
          have w2 : Rw H H4 r2 v2 (.list ds2) k2 t2 := w2
          have hne : rd.isEmpty = false := by
            cases rd with
            | nil => cases hrdl
            | cons _ _ => rfl
          rw [hne]
          have e5 := s4 _ _ e3
          have hk2 : k2 - 1 < ds2.length := (List.getElem?_eq_some_iff.mp hd2).1
          have n12 : rl ≠ r2 := fun z => n1 (by rw [z]; exact List.mem_cons_of_mem _ List.mem_cons_self)
          have hr2 : H r2 = none := fresh r2 (List.mem_cons_of_mem _ (List.mem_cons_of_mem _ List.mem_cons_self))
          have nrs : r2 ∉ rs := (List.nodup_cons.mp (List.nodup_cons.mp n2).2).1
          have b0 : ∀ t : List Nat, atI [v2, V.int k2, .str (mkS t)] 1 = some (.int k2) := fun t => atI_nat (j := 1) rfl
          have b2 : ∀ t : List Nat, atI [v2, V.int k2, .str (mkS t)] 2 = some (.str (mkS t)) := fun t => atI_nat (j := 2) rfl
          have l32 : (" " : Str).length = 1 := by decide +kernel
          have tl2 := w2.len
          obtain ⟨nn, lp2⟩ := w2.lp
          obtain ⟨mm, hlp2⟩ : ∃ m, ∀ x ∈ ds2, LP m x := by
            rcases lp2.get with z | ⟨m, ds', _, e, z⟩
            · rcases z with ⟨x, e, _⟩ | ⟨i, e, _⟩ <;> cases e
            · cases e
              exact ⟨m, z⟩
          have hn2 : nodL ds2 ≤ 60 := by
            have := w2.nod
            rw [nod_list] at this
            omega
          have step : ds2.take k2 = ds2.take (k2 - 1) ++ [d] := by
            have e : k2 = (k2 - 1) + 1 := by omega
            rw [e, List.take_add_one, hd2]
            rfl
          -- a blank where it is not the first
          refine iteF ⟨fun σ2 H6 => ∃ t6, σ2 = [some v0, some (.ref rl), some (.ref r), some (.str (mkS (showP shA d)))] ∧ Same H H6 ∧ (∀ x, x ≠ r2 → H6 x = H4 x) ∧ H6 r2 = some (.lst [v2, .int k2, .str (mkS t6)]) ∧ t6 ++ showP shA d = showJ shA (ds2.take k2) ∧ t6.length ≤ 7601, ?_, ?_⟩
          · refine ⟨_, rfl, _, rfl, rl, _, _, .ref r2, rfl, rfl, SqL.of e5, last_ref r2 rs, r2, _, _, _, rfl, rfl, SqL.of w2.at_, b0 t2, _, _, rfl, rfl, _, rfl, ite2 (fun h1 => ?_) (fun h1 => ⟨t2, rfl, s3.trans s4, fun _ _ => rfl, w2.at_, ?_, by omega⟩)⟩
            · have h1 : (1 : Int) < k2 := of_decide_eq_true h1
              refine ⟨_, rfl, _, rfl, rl, _, _, .ref r2, rfl, rfl, SqL.of e5, last_ref r2 rs, r2, _, _, _, rfl, rfl, SqL.of w2.at_, b2 t2, _, _, rfl, rfl, ?_, _, rfl, _, rfl, rl, _, _, .ref r2, rfl, rfl, SqL.of e5, last_ref r2 rs, r2, _, _, 2, rfl, rfl, w2.at_, rfl, t2 ++ [32], rfl, same_put (s3.trans s4) hr2, fun x hx => upd_ne hx, ?_, ?_, ?_⟩
              · rw [mkS_len, l32]
                omega
              · rw [upd_same]
                have e : mkS t2 ++ (" " : Str) = mkS (t2 ++ [32]) := str_ext (by rw [cps_app, blank_eq]; rfl)
                show some (HO.lst [v2, .int k2, .str (mkS t2 ++ (" " : Str))]) = _
                rw [e]
              · rw [step, showJ_snoc, if_neg, ht2, List.append_assoc]
                · rfl
                · intro z
                  have := congrArg List.length z
                  rw [List.length_take, List.length_nil] at this
                  omega
              · rw [List.length_append, List.length_singleton]
                omega
            · have h1 : ¬ (1 : Int) < k2 := fun z => h1 (decide_eq_true z)
              have k1 : k2 = 1 := by omega
              rw [step, showJ_snoc, if_pos (by rw [k1]; rfl), ht2, k1]
              show showJ shA (ds2.take 0) ++ _ = _
              rw [List.take_zero, showJ_nil]
              rfl
          · rintro σ6 H6 ⟨t6, rfl, s6, oth, e6, et6, l6⟩
            have e7 : H6 rl = some (.lst ((r2 :: rs).map V.ref).reverse) := by rw [oth rl n12]; exact e5
            obtain ⟨j1, j2⟩ := showJ_fits (k := k2) hlp2 hn2
            refine ⟨_, rfl, _, rfl, rl, _, _, .ref r2, rfl, rfl, SqL.of e7, last_ref r2 rs, r2, _, _, _, rfl, rfl, SqL.of e6, b2 t6, _, rfl, _, _, rfl, rfl, ?_, _, rfl, _, rfl, rl, _, _, .ref r2, rfl, rfl, SqL.of e7, last_ref r2 rs, r2, _, _, 2, rfl, rfl, e6, rfl, ?_⟩
            · rw [mkS_len, mkS_len]
              omega
            refine ⟨r2 :: rs, (v2, .list ds2, k2) :: qs, _, _, rfl, ?_, same_put s6 hr2, ?_, ?_, fun x hx => ?_, ⟨⟨showJ shA (ds2.take k2), ⟨?_, w2.pd, w2.lp, w2.nod, j2, j1⟩, .inl ⟨ds2, rfl, by show k2 ≤ ds2.length; omega, rfl⟩⟩, R5.move fun x hx => ?_⟩, List.cons_ne_nil _ _, by simpa using hroot⟩
            · rw [wkS_cons (v, d, k)]
              have := wkQ_pos (v, d, k)
              omega
            · rw [upd_ne n12]
              exact e7
            · exact List.nodup_cons.mpr ⟨fun z => n1 (List.mem_cons_of_mem _ z), (List.nodup_cons.mp n2).2⟩
            · rcases List.mem_cons.mp hx with rfl | hx
              · exact hrl0
              · exact fresh x (List.mem_cons_of_mem _ (List.mem_cons_of_mem _ hx))
            · rw [upd_same]
              have e : mkS t6 ++ mkS (showP shA d) = mkS (showJ shA (ds2.take k2)) := str_ext (by rw [cps_app]; exact et6)
              show some (HO.lst [v2, .int k2, .str (mkS t6 ++ mkS (showP shA d))]) = _
              rw [e]
            · rw [upd_ne (fun z : x = r2 => nrs (z ▸ hx)), oth x (fun z => nrs (z ▸ hx))]
end
end Net

namespace Net
open PySem L2 L2.Tx
/-! ### two papers are the same -/
abbrev Sq := Addr × V × V × PyData
structure Sm (H H' : Hp) (q : Sq) : Prop where
  at_ : H' q.1 = some (.tup [q.2.1, q.2.2.1])
  l : PD H 61 q.2.1 q.2.2.2
  r : PD H 61 q.2.2.1 q.2.2.2
  vp : ∃ k, VP shA atomL k q.2.2.2
theorem Sm.same {H H1 H2 : Hp} {q : Sq} (w : Sm H H1 q) (s : Same H1 H2) : Sm H H2 q := ⟨s _ _ w.at_, w.l, w.r, w.vp⟩
def nodT (qs : List Sq) : Nat := (qs.map fun q => nod q.2.2.2).sum
theorem nodT_cons (q : Sq) (qs : List Sq) : nodT (q :: qs) = nod q.2.2.2 + nodT qs := rfl
theorem nodT_app : ∀ (a b : List Sq), nodT (a ++ b) = nodT a + nodT b
  | [], b => by show nodT b = 0 + nodT b; omega
  | q :: a, b => by rw [List.cons_append, nodT_cons, nodT_app a b, nodT_cons]; omega
theorem nodT_ds : ∀ {L : List Sq} {ds : List PyData}, L.map (fun q => q.2.2.2) = ds → nodT L = nodL ds
  | [], ds, h => by rw [← h]; show 0 = nodL []; rw [nodL_nil]
  | q :: L, ds, h => by rw [← h, List.map_cons, nodL_cons, nodT_cons, nodT_ds rfl]
theorem nodT_len (qs : List Sq) : qs.length ≤ nodT qs := by
  induction qs with
  | nil => exact Nat.zero_le _
  | cons q qs ih =>
    rw [nodT_cons, List.length_cons]
    have := nod_pos q.2.2.2
    omega
def spSame : Sp := fun vs H Q _ => ∃ (v u : V) (d : PyData) (k : Nat), vs = [v, u] ∧ PD H 61 v d ∧ PD H 61 u d ∧ VP shA atomL k d ∧ nod d ≤ 20000 ∧ ∀ H', Same H H' → Q (.bl true) H'
section
variable {P : Program} {w : World} {K : PySem.W.Frag} {mg : Str → Option Value} {base : Heap}
abbrev Nsame : List Str := ["_law_one", "_law_other", "_law_pairs", "_law_at", "_law_left", "_law_right"]
theorem sc_same : FnScope Nsame ["_law_one", "_law_other"] (defScope s_l_same) := ⟨rfl, rfl, rfl, by decide +kernel, rfl, by decide +kernel, by decide +kernel⟩
theorem ok_same {f : Addr} {fd : FuncData} (F : Fun K "_law_same" "_law_same" s_l_same f fd) (T : Txt K mg) : FnOk P w K mg base CX0 1 f fd ["_law_one", "_law_other"] spSame := by
  have nd_0 : List.Nodup (["_law_k", "_law_left", "_law_right"] : List Str) := by decide +kernel
  refine F.ok sc_same (fun vs H Q E h => ?_) (fun cdv A outer s H vs Q E hr h => ?_)
  · obtain ⟨v, u, d, k, rfl, _⟩ := h
    rfl
  · obtain ⟨v, u, d, k, rfl, pv0, pu0, vp0, hn, q⟩ := h
    refine ⟨_, (pss_cons (ps_set (i := 2) sc_same.nd rfl (Or.inl rfl) (pe_lst (pa_cons (pe_tup (pa_cons (pv 0) (pa_cons (pv 1) pa_nil))) pa_nil)))
      (pss_cons (ps_set (i := 3) sc_same.nd rfl (Or.inl rfl) pe_int)
      (pss_cons (ps_while PassesOwn.never (pt_cmpR op_lt (pv 3) (pe_callB call_len_seq (by rfl) T.len b_len (pa_cons (pv 2) pa_nil)) (nomark _))
          (pss_cons (ps_asg (pe_ix ix_list (pv 2) (pv 3) (fun _ _ => by rfl)) (pg_tup rfl (pgs_cons (pg_name (i := 4) sc_same.nd rfl (Or.inr rfl)) (pgs_cons (pg_name (i := 5) sc_same.nd rfl (Or.inr rfl)) pgs_nil))))
      (pss_cons (ps_set (i := 3) sc_same.nd rfl (Or.inl rfl) (pe_op op_add (pv 3) pe_int))
      (pss_one (ps_if (pt_val (pe_callB call_isinst (by rfl) T.isi b_isi (pa_cons (pv 5) (pa_cons (pe_ty T.list (by rfl) b_list) pa_nil)))) (pss_cons (ps_if (PW.pt (pw_or (pt_not (pt_val (pe_callB call_isinst (by rfl) T.isi b_isi (pa_cons (pv 4) (pa_cons (pe_ty T.list (by rfl) b_list) pa_nil))))) (pw_or1 (pt_cmpR op_ne (pe_callB call_len_seq (by rfl) T.len b_len (pa_cons (pv 4) pa_nil)) (pe_callB call_len_seq (by rfl) T.len b_len (pa_cons (pv 5) pa_nil)) (nomark _))))) (pss_one (ps_ret pe_bl)) pss_nil)
      (pss_one (ps_set (i := 2) sc_same.nd rfl (Or.inl rfl) (pe_op op_cat (pv 2) (pe_comp (N := ["_law_k", "_law_left", "_law_right"]) (xs := 1) (js := [4, 5]) rfl (compScope_of rfl) (pi_range1 rfl T.range (pa_cons (pe_callB call_len_seq (by rfl) T.len b_len (pa_cons (pv 4) pa_nil)) pa_nil)) (fun _ _ _ _ => pg_name (i := 0) nd_0 rfl (Or.inl rfl)) (fun _ _ _ _ => pts_nil) (fun _ _ _ _ => pe_tup (pa_cons (pe_ix (ix_listK K (by rfl)) (pv 1) (pv 0) (fun _ _ => by rfl)) (pa_cons (pe_ix (ix_listK K (by rfl)) (pv 2) (pv 0) (fun _ _ => by rfl)) pa_nil)))))))) (pss_one (ps_if (PW.pt (pw_or (pt_val (pe_callB call_isinst (by rfl) T.isi b_isi (pa_cons (pv 4) (pa_cons (pe_ty T.list (by rfl) b_list) pa_nil)))) (pw_or (pt_val (pe_callB call_isinst (by rfl) T.isi b_isi (pa_cons (pv 4) (pa_cons (pe_ty T.bool (by rfl) b_bool) pa_nil)))) (pw_or1 (pt_cmpR op_ne (pv 4) (pv 5) (nomark _)))))) (pss_one (ps_ret pe_bl)) (pss_one (ps_if (pt_cmpR op_ne (pe_callB call_isinst (by rfl) T.isi b_isi (pa_cons (pv 5) (pa_cons (pe_ty T.str (by rfl) b_str) pa_nil))) (pe_callB call_isinst (by rfl) T.isi b_isi (pa_cons (pv 4) (pa_cons (pe_ty T.str (by rfl) b_str) pa_nil))) (nomark _)) (pss_one (ps_ret pe_bl)) pss_nil)))))))))
      (pss_one (ps_ret pe_bl))))), ?_⟩
    have psz : (50000 : Nat) < sizeLine := by decide
    refine ⟨_, rfl, _, rfl, (by show 2 ≤ sizeLine; decide), fun t0 ht0 => ⟨(by show 1 ≤ sizeLine; decide), fun p0 hp0 => ?_⟩⟩
    have nt : t0 ≠ p0 := ne_of_none (upd_same (H := H) (a := t0)) hp0
    have s0 : Same H (upd (upd H t0 (.tup [v, u])) p0 (.lst [.ref t0])) := (Same.new ht0).upd hp0
    have et0 : (upd (upd H t0 (.tup [v, u])) p0 (.lst [.ref t0])) t0 = some (.tup [v, u]) := by rw [upd_ne nt]; exact upd_same
    have ep0 : (upd (upd H t0 (.tup [v, u])) p0 (.lst [.ref t0])) p0 = some (.lst [.ref t0]) := upd_same
    generalize upd (upd H t0 (.tup [v, u])) p0 (.lst [.ref t0]) = H0 at s0 et0 ep0
    refine ⟨fun m σ' H' => ∃ (pl : Addr) (xs : List V) (todo : List Sq) (o4 o5 : Option V), σ' = [some v, some u, some (.ref pl), some (.int xs.length), o4, o5] ∧ m = nodT todo ∧ H' pl = some (.lst (xs ++ todo.map fun q => V.ref q.1)) ∧ Same H H' ∧ (∀ q ∈ todo, Sm H H' q) ∧ xs.length + nodT todo ≤ 20000,
      ⟨_, p0, [], [(t0, v, u, d)], none, none, rfl, rfl, ep0, s0, fun q hq => by rw [List.mem_singleton.mp hq]; exact ⟨et0, pv0, pu0, k, vp0⟩, by show 0 + (nod d + 0) ≤ 20000; omega⟩, ?_⟩
    rintro m σ' H' ⟨pl, xs, todo, o4, o5, rfl, rfl, epl, sH, ok, bnd⟩
    refine ⟨_, rfl, _, rfl, pl, _, rfl, .inl (SqL.of epl), _, _, rfl, rfl, _, rfl, ?_⟩
    rw [List.length_append, List.length_map]
    cases todo with
    | nil =>
      refine iteFb (decide_eq_false (by simp)) ?_
      exact q H' sH
    | cons e rest =>
      obtain ⟨t, l, r, d1⟩ := e
      have w := ok _ List.mem_cons_self
      have wat : H' t = some (.tup [l, r]) := w.at_
      have wl : PD H' 61 l d1 := PD.same sH w.l
      have wr : PD H' 61 r d1 := PD.same sH w.r
      obtain ⟨kk, vpd⟩ := w.vp
      have vpd : VP shA atomL kk d1 := vpd
      rw [nodT_cons] at bnd
      refine iteTb (decide_eq_true (by simp only [List.length_cons]; omega)) ⟨fun σ2 H2 => ∃ (pl : Addr) (xs2 : List V) (todo : List Sq) (o4 o5 : Option V), σ2 = [some v, some u, some (.ref pl), some (.int xs2.length), o4, o5] ∧ nodT todo < nodT ((t, l, r, d1) :: rest) ∧ H2 pl = some (.lst (xs2 ++ todo.map fun q => V.ref q.1)) ∧ Same H H2 ∧ (∀ q ∈ todo, Sm H H2 q) ∧ xs2.length + nodT todo ≤ 20000, fun σ2 H2 ⟨pl, xs2, todo, o4, o5, z1, z2, z3⟩ => ⟨_, z2, pl, xs2, todo, o4, o5, z1, rfl, z3⟩, ?_⟩
      have hat : atI (xs ++ ((t, l, r, d1) :: rest).map fun q : Sq => V.ref q.1) (xs.length : Int) = some (.ref t) := atI_nat (by rw [List.getElem?_append_right (Nat.le_refl _), Nat.sub_self]; rfl)
      refine ⟨_, rfl, _, rfl, pl, _, _, .ref t, rfl, rfl, SqL.of epl, hat, t, _, rfl, SqT.of wat, rfl, _, _, rfl, _, _, rfl, rfl, ?_⟩
      refine ⟨_, rfl, _, _, rfl, rfl, ?_⟩
      obtain ⟨ty1, h11, h12, h13⟩ := PD.ty (K := K) wl
      obtain ⟨ty2, h21, h22, h23⟩ := PD.ty (K := K) wr
      obtain ⟨ty3, h31, h32, h33⟩ := PD.tyI (K := K) wl
      have exs : (xs ++ [V.ref t]).length = xs.length + 1 := by simp
      have eint : (V.int ((xs.length : Int) + 1)) = V.int ((xs ++ [V.ref t]).length : Nat) := by rw [exs]; rfl
      refine ⟨_, rfl, r, "list", ty2, _, rfl, h21, h22, _, rfl, ?_⟩
      rcases vpd.get with ⟨h1, h2⟩ | ⟨m', ds, rfl, rfl, hvs⟩
      · have n1 : nod d1 = 1 := by cases d1 <;> first | (unfold nod; rfl) | cases h1
        have eL : isL d1 = false := by cases d1 <;> first | rfl | cases h1
        have eB : isB d1 = false := by cases d1 <;> first | rfl | cases h1
        have elr : l = r := by
          cases d1 <;> try (cases h1; done)
          · rw [PD.int_of wl, PD.int_of wr]
          · obtain ⟨x1, e1, e2⟩ := PD.str_of wl rfl
            obtain ⟨x2, e3, e4⟩ := PD.str_of wr rfl
            cases e2
            cases e4
            rw [e1, e3]
        have hsc : scal l l = true := by
          cases d1 <;> try (cases h1; done)
          · rw [PD.int_of wl]; rfl
          · obtain ⟨x1, e1, e2⟩ := PD.str_of wl rfl
            rw [e1]; rfl
        have n1' : nod (t, l, r, d1).2.2.2 = 1 := n1
        rw [n1'] at bnd
        have fin : ∃ (pl' : Addr) (xs2 : List V) (todo : List Sq) (o4' o5' : Option V), [some v, some u, some (.ref pl), some (.int ((xs.length : Int) + 1)), some l, some r] = [some v, some u, some (.ref pl'), some (.int xs2.length), o4', o5'] ∧ nodT todo < nodT ((t, l, r, d1) :: rest) ∧ H' pl' = some (.lst (xs2 ++ todo.map fun q => V.ref q.1)) ∧ Same H H' ∧ (∀ q ∈ todo, Sm H H' q) ∧ xs2.length + nodT todo ≤ 20000 := by
          refine ⟨pl, xs ++ [.ref t], rest, _, _, by rw [eint], ?_, ?_, sH, fun q hq => ok q (List.mem_cons_of_mem _ hq), by rw [exs]; omega⟩
          · rw [nodT_cons, n1']
            omega
          · rw [epl, List.append_assoc]
            rfl
        rw [eL]
        refine iteF ⟨_, rfl, l, "list", ty1, _, rfl, h11, h12, _, rfl, ?_⟩
        rw [eL]
        refine iteF ⟨_, rfl, l, "bool", ty3, _, rfl, h31, h33, _, rfl, ?_⟩
        rw [eB]
        subst elr
        refine iteF ⟨_, rfl, _, rfl, hsc, _, rfl, iteFb (by rw [decide_eq_true rfl]; rfl) ?_⟩
        refine ⟨_, rfl, l, "str", ty2, _, rfl, h21, h23, _, rfl, l, "str", ty1, _, rfl, h11, h13, rfl, _, rfl, iteFb (by rw [decide_eq_true rfl]; rfl) ?_⟩
        exact fin
      · obtain ⟨n1, a, xl, e1, rfl, ha0, pl1⟩ := PD.list_of w.l
        obtain ⟨n2, b, xr, e2, rfl, hb0, pr1⟩ := PD.list_of w.r
        obtain rfl : n1 = 60 := by omega
        obtain rfl : n2 = 60 := by omega
        have ha := sH _ _ ha0
        have hb := sH _ _ hb0
        have ll : xl.length = ds.length := Paired.length pl1
        have lr : xr.length = ds.length := Paired.length pr1
        have nd1 : nod (t, V.ref a, V.ref b, PyData.list ds).2.2.2 = 1 + nodL ds := nod_list ds
        have hdl := nodL_len ds
        rw [nd1] at bnd
        refine iteT ⟨_, rfl, _, "list", ty1, _, rfl, h11, h12, _, rfl, iteF ⟨_, rfl, a, _, rfl, .inl (SqL.of ha), _, rfl, b, _, rfl, .inl (SqL.of hb), rfl, _, rfl, iteFb (by rw [ll, lr, decide_eq_true rfl]; rfl) ?_⟩⟩
        refine ⟨_, rfl, _, rfl, a, _, rfl, .inl (SqL.of ha), _, rfl, by omega, by omega, comp_range (n := xl.length) (fun i acc σ2 H2 => Same H' H2 ∧ ∃ (L : List Sq) (o : Option V), acc = L.map (fun q => V.ref q.1) ∧ L.map (fun q => q.2.2.2) = ds.take i ∧ (∀ q ∈ L, Sm H H2 q) ∧ σ2 = [o, some (.ref a), some (.ref b)])
          ⟨Same.refl _, [], none, rfl, rfl, fun _ z => (nomatch z), rfl⟩ (fun i acc σ2 H2 h => ?_) (by omega) (fun i acc σ2 H2 hi h => ?_) (fun acc σ2 H2 h p hp => ?_)⟩
        · obtain ⟨_, L, o, rfl, eL, _, _⟩ := h
          have := congrArg List.length eL
          rw [List.length_map, List.length_take] at this
          rw [List.length_map]
          omega
        · obtain ⟨s2, L, o, rfl, eL, okL, rfl⟩ := h
          obtain ⟨x1, hx1⟩ : ∃ x, xl[i]? = some x := ⟨xl[i], List.getElem?_eq_getElem hi⟩
          obtain ⟨x2, hx2⟩ : ∃ x, xr[i]? = some x := ⟨xr[i]'(by omega), List.getElem?_eq_getElem _⟩
          obtain ⟨dd, hdd, pd1⟩ := pair_get pl1 hx1
          obtain ⟨dd2, hdd2, pd2⟩ := pair_get pr1 hx2
          rw [hdd] at hdd2
          cases hdd2
          refine ⟨_, rfl, _, rfl, a, _, _, x1, rfl, rfl, SqL.of (s2 _ _ ha), ?_, _, rfl, _, rfl, b, _, _, x2, rfl, rfl, SqL.of (s2 _ _ hb), ?_, (by show 2 ≤ sizeLine; decide), fun t9 ht9 => ⟨s2.upd ht9, L ++ [(t9, x1, x2, dd)], _, by rw [List.map_append]; rfl, ?_, fun q hq => ?_, rfl⟩⟩
          · rw [Int.zero_add]
            exact atI_nat hx1
          · rw [Int.zero_add]
            exact atI_nat hx2
          · rw [List.map_append, eL, List.take_add_one, hdd]
            rfl
          · rcases List.mem_append.mp hq with hq | hq
            · exact (okL q hq).same (Same.new ht9)
            · rw [List.mem_singleton.mp hq]
              exact ⟨upd_same, pd1.up, pd2.up, m', hvs dd (List.mem_of_getElem? hdd)⟩
        · obtain ⟨s2, L, o, rfl, eL, okL, rfl⟩ := h
          rw [ll, List.take_of_length_le (Nat.le_refl _)] at eL
          have eN := nodT_ds eL
          have lL := nodT_len L
          have lrest := nodT_len rest
          have s3 : Same H' (upd H2 p (.lst (L.map fun q => V.ref q.1))) := s2.upd hp
          have e3 : (upd H2 p (.lst (L.map fun q => V.ref q.1))) p = some (.lst (L.map fun q => V.ref q.1)) := upd_same
          have okL3 : ∀ q ∈ L, Sm H (upd H2 p (.lst (L.map fun q => V.ref q.1))) q := fun q hq => (okL q hq).same (Same.new hp)
          generalize upd H2 p (.lst (L.map fun q => V.ref q.1)) = H3 at s3 e3 okL3
          refine ⟨pl, p, _, _, rfl, rfl, s3 _ _ epl, e3, ?_, fun p9 hp9 => ?_⟩
          · rw [List.length_append, List.length_map, List.length_map, List.length_cons]
            omega
          · refine ⟨p9, xs ++ [.ref t], rest ++ L, _, _, by rw [← eint]; rfl, ?_, ?_, (sH.trans s3).upd hp9, fun q hq => ?_, ?_⟩
            · rw [nodT_app, nodT_cons, nd1, eN]
              omega
            · rw [upd_same, List.map_append, List.map_cons]
              simp [List.append_assoc]
            · rcases List.mem_append.mp hq with hq | hq
              · exact ((ok q (List.mem_cons_of_mem _ hq)).same s3).same (Same.new hp9)
              · exact (okL3 q hq).same (Same.new hp9)
            · rw [exs, nodT_app, eN]
              omega
end
end Net

namespace Net
open PySem L2 L2.Tx
/-! ### papers with texts of any kind in them -/
def MX : Nat → PyData → Prop
  | 0, .list _ => False
  | n + 1, .list ds => ∀ x ∈ ds, MX n x
  | _, .int i => i.natAbs.log2 < 1920
  | _, .str x => x.length ≤ 1000
  | _, _ => False
def okP : Nat → PyData → Bool
  | 0, .list _ => false
  | n + 1, .list ds => ds.all (okP n)
  | _, .int _ => true
  | _, .str x => nameB x
  | _, _ => false
theorem MX.get {n : Nat} {d : PyData} (h : MX n d) : (∃ i, d = .int i ∧ i.natAbs.log2 < 1920) ∨ (∃ x, d = .str x ∧ x.length ≤ 1000) ∨ ∃ m ds, n = m + 1 ∧ d = .list ds ∧ ∀ x ∈ ds, MX m x := by
  cases n with
  | zero => cases d <;> first | exact .inl ⟨_, rfl, h⟩ | exact .inr (.inl ⟨_, rfl, h⟩) | exact h.elim
  | succ n => cases d <;> first | exact .inl ⟨_, rfl, h⟩ | exact .inr (.inl ⟨_, rfl, h⟩) | exact .inr (.inr ⟨n, _, rfl, rfl, h⟩) | exact h.elim
theorem okP_int (n : Nat) (i : Int) : okP n (.int i) = true := by cases n <;> rfl
theorem okP_str (n : Nat) (x : Str) : okP n (.str x) = nameB x := by cases n <;> rfl
def spShowX (ct : Addr) (m : Nat) : Sp := fun vs H Q E => ∃ (v : V) (n : Nat) (d : PyData), vs = [v] ∧ PD H n v d ∧ MX m d ∧ (showP shA d).length ≤ 40000 ∧ (okP m d = true → ∀ H', Same H H' → Q (.str (mkS (showP shA d))) H') ∧ (okP m d = false → ∀ H', Same H H' → E (.ref ct) none H')
section
variable {P : Program} {w : World} {K : PySem.W.Frag} {mg : Str → Option Value} {base : Heap} {ct : Addr}
theorem ok_showX0 {f : Addr} {fd : FuncData} (F : Fun K "show_paper" "show_paper" s_show_paper f fd) (T : Txt K mg) (R : Ecs K mg ct) (cw : Can P w K mg base 1 "is_whole" ["thing"] spWholeD) (cn : Can P w K mg base 2 "is_name" ["word"] spName) : FnOk P w K mg base (CXF P w) 3 f fd ["paper"] (spShowX ct 0) := by
  refine F.okX sc_showP (fun vs H Q E h => ?_) (fun cdv A outer s H vs Q E hr W h => ?_)
  · obtain ⟨v, n, d, rfl, _⟩ := h
    rfl
  · obtain ⟨v, n, d, rfl, pd, mx, hlen, q, qE⟩ := h
    have r1 : Room 1 _ := hr.mono (by omega)
    have r2 : Room 2 _ := hr.mono (by omega)
    refine ⟨_, (pss_cons (ps_if (pt_val (pe_callC cw r1 (by rfl) (pa_cons (pv 0) pa_nil))) (pss_one (ps_ret (pe_callTy call_str_int (by rfl) T.str b_str (pa_cons (pv 0) pa_nil)))) pss_nil)
      (pss_cons (ps_if (pt_val (pe_callB call_isinst (by rfl) T.isi b_isi (pa_cons (pv 0) (pa_cons (pe_ty T.list (by rfl) b_list) pa_nil)))) pss_never pss_nil)
      (pss_cons (ps_if (pt_val (pe_callC cn r2 (by rfl) (pa_cons (pv 0) pa_nil))) (pss_one (ps_ret (pv 0))) pss_nil)
      (pss_one (ps_raise W rfl (by rfl) R.mt R.ex PySem.F.excBase_ValueError (pa_cons pe_str pa_nil)))))), ?_⟩
    obtain ⟨t, ty, kl, ks⟩ := PD.ty (K := K) pd
    refine ⟨_, rfl, v, n, d, rfl, pd, _, rfl, ?_⟩
    rcases mx.get with ⟨i, rfl, hlog⟩ | ⟨x, rfl, hxl⟩ | ⟨m', ds, em, rfl, hvs⟩
    · have ev := pd.int_of
      subst ev
      refine iteT ⟨_, rfl, i, rfl, hlog, ?_⟩
      have z := q (okP_int _ i) H (Same.refl _)
      rw [show_at rfl] at z
      have e : mkS (shA (.int i)) = numT i := cps_mkS _
      rw [e] at z
      exact z
    · obtain ⟨x', rfl, e⟩ := pd.str_of rfl
      cases e
      refine iteF ⟨_, rfl, _, "list", t, _, rfl, ty, kl, _, rfl, iteF ⟨_, rfl, x, rfl, Nat.le_trans hxl (by decide), fun H1 s1 => ⟨_, rfl, ?_⟩⟩⟩
      cases hn : nameB x with
      | true =>
        refine iteT ⟨_, rfl, ?_⟩
        have z := q (by rw [okP_str]; exact hn) H1 s1
        rw [show_at rfl] at z
        have e : mkS (shA (.str x)) = x := cps_mkS _
        rw [e] at z
        exact z
      | false => exact iteF ⟨(by show 1 ≤ sizeLine; decide), qE (by rw [okP_str]; exact hn) H1 s1⟩
    · omega
theorem ok_showX {f : Addr} {fd : FuncData} {m : Nat} (F : Fun K "show_paper" "show_paper" s_show_paper f fd) (T : Txt K mg) (R : Ecs K mg ct) (cw : Can P w K mg base 1 "is_whole" ["thing"] spWholeD) (cn : Can P w K mg base 2 "is_name" ["word"] spName)
    (cs : CanX P w K mg base (m + 3) "show_paper" ["paper"] (spShowX ct m)) : FnOk P w K mg base (CXF P w) (m + 4) f fd ["paper"] (spShowX ct (m + 1)) := by
  have nd_0 : List.Nodup (["part"] : List Str) := by decide +kernel
  refine F.okX sc_showP (fun vs H Q E h => ?_) (fun cdv A outer s H vs Q E hr W h => ?_)
  · obtain ⟨v, n, d, rfl, _⟩ := h
    rfl
  · obtain ⟨v, n, d, rfl, pd, mx, hlen, q, qE⟩ := h
    have r1 : Room 1 _ := hr.mono (by omega)
    have r2 : Room 2 _ := hr.mono (by omega)
    refine ⟨_, (pss_cons (ps_if (pt_val (pe_callC cw r1 (by rfl) (pa_cons (pv 0) pa_nil))) (pss_one (ps_ret (pe_callTy call_str_int (by rfl) T.str b_str (pa_cons (pv 0) pa_nil)))) pss_nil)
      (pss_cons (ps_if (pt_val (pe_callB call_isinst (by rfl) T.isi b_isi (pa_cons (pv 0) (pa_cons (pe_ty T.list (by rfl) b_list) pa_nil)))) (pss_cons (ps_set (i := 1) sc_showP.nd rfl (Or.inl rfl) (pe_bm PySem.F.plainAttrs_str PySem.F.slot_str_join PySem.F.type_str_join mt_join pe_str (pa_cons (pe_compX (N := ["part"]) (xs := 1) (js := []) wantsC_def rfl (compScope_of rfl) (pi_list (pv 0)) (fun _ _ _ _ => pg_name (i := 0) nd_0 rfl (Or.inl rfl)) (fun _ _ _ _ => pts_nil) (fun _ _ _ _ => pex_call cs hr (by rfl) (pa_cons (pv 0) pa_nil))) pa_nil)))
      (pss_one (ps_ret (pe_join (pj_cons pe_str (pj_cons (pe_fmt (pv 1)) (pj_cons pe_str pj_nil))) (by decide))))) pss_nil)
      (pss_cons (ps_if (pt_val (pe_callC cn r2 (by rfl) (pa_cons (pv 0) pa_nil))) (pss_one (ps_ret (pv 0))) pss_nil)
      (pss_one (ps_raise W rfl (by rfl) R.mt R.ex PySem.F.excBase_ValueError (pa_cons pe_str pa_nil)))))), ?_⟩
    obtain ⟨t, ty, kl, ks⟩ := PD.ty (K := K) pd
    refine ⟨_, rfl, v, n, d, rfl, pd, _, rfl, ?_⟩
    rcases mx.get with ⟨i, rfl, hlog⟩ | ⟨x, rfl, hxl⟩ | ⟨m', ds, em, rfl, hvs⟩
    · have ev := pd.int_of
      subst ev
      refine iteT ⟨_, rfl, i, rfl, hlog, ?_⟩
      have z := q (okP_int _ i) H (Same.refl _)
      rw [show_at rfl] at z
      have e : mkS (shA (.int i)) = numT i := cps_mkS _
      rw [e] at z
      exact z
    · obtain ⟨x', rfl, e⟩ := pd.str_of rfl
      cases e
      refine iteF ⟨_, rfl, _, "list", t, _, rfl, ty, kl, _, rfl, iteF ⟨_, rfl, x, rfl, Nat.le_trans hxl (by decide), fun H1 s1 => ⟨_, rfl, ?_⟩⟩⟩
      cases hn : nameB x with
      | true =>
        refine iteT ⟨_, rfl, ?_⟩
        have z := q (by rw [okP_str]; exact hn) H1 s1
        rw [show_at rfl] at z
        have e : mkS (shA (.str x)) = x := cps_mkS _
        rw [e] at z
        exact z
      | false => exact iteF ⟨(by show 1 ≤ sizeLine; decide), qE (by rw [okP_str]; exact hn) H1 s1⟩
    · have em : m' = m := by omega
      subst em
      obtain ⟨n', a, xs, rfl, rfl, ha, pr⟩ := pd.list_of
      have hxl : xs.length = ds.length := Paired.length pr
      have hw : wgt ds ≤ 40000 := by
        rw [show_list, List.length_cons, List.length_append, List.length_singleton] at hlen
        cases ds with
        | nil => exact Nat.zero_le _
        | cons d ds =>
          rw [showJ_cons, List.length_append, showR_len] at hlen
          rw [wgt_cons]
          omega
      have hdl : ∀ ds : List PyData, ds.length ≤ wgt ds := fun ds => by
        induction ds with
        | nil => exact Nat.le_refl _
        | cons d ds ih => rw [wgt_cons, List.length_cons]; omega
      have hdm : ∀ (ds : List PyData) (d : PyData), d ∈ ds → (showP shA d).length ≤ wgt ds := fun ds d hd => by
        induction ds with
        | nil => cases hd
        | cons e ds ih =>
          rw [wgt_cons]
          rcases List.mem_cons.mp hd with rfl | hd
          · omega
          · have := ih hd
            omega
      have hsum : ∀ ds : List PyData, ((ds.map fun d => mkS (showP shA d)).map (·.length)).sum + (ds.map fun d => mkS (showP shA d)).length ≤ wgt ds := fun ds => by
        induction ds with
        | nil => exact Nat.le_refl _
        | cons e ds ih =>
          rw [wgt_cons, List.map_cons, List.map_cons, List.sum_cons, List.length_cons, mkS_len]
          omega
      have hmany : ds.length ≤ 40000 := Nat.le_trans (hdl ds) hw
      refine iteF ⟨_, rfl, _, "list", t, _, rfl, ty, kl, _, rfl, iteT ⟨rfl, ?_⟩⟩
      refine ⟨_, rfl, a, rfl, ⟨_, SqL.of ha⟩, comp_list (K := K) (ys := xs) (fun i acc σ' H' => Same H H' ∧ acc = (ds.take i).map (fun d => V.str (mkS (showP shA d))) ∧ ((ds.take i).all (okP m') = true) ∧ ∃ o, σ' = [o])
        ⟨Same.refl _, rfl, rfl, none, rfl⟩ (fun i acc σ' H' h => ?_) (by rw [hxl]; exact Nat.le_trans hmany (by decide)) (fun i acc σ' H' _ h => SqL.of (h.1 _ _ ha)) (fun i x acc σ' H' hx h => ?_) (fun acc σ' H' h p hp => ?_)⟩
      · rw [h.2.1, List.length_map, List.length_take]
        omega
      · obtain ⟨s1, rfl, hok, o, rfl⟩ := h
        obtain ⟨d, hd, pdx⟩ := pair_get pr hx
        refine ⟨_, rfl, x, n', d, rfl, pdx.same s1, hvs d (List.mem_of_getElem? hd), Nat.le_trans (hdm ds d (List.mem_of_getElem? hd)) hw, fun hk H2 s2 => ⟨s1.trans s2, ?_, ?_, _, rfl⟩, fun hk H2 s2 => qE ?_ H2 (s1.trans s2)⟩
        · rw [List.take_add_one, hd, List.map_append]
          rfl
        · rw [List.take_add_one, hd, List.all_append, hok]
          show (true && ((okP m' d) && true)) = true
          rw [hk]
          rfl
        · show ds.all (okP m') = false
          refine Bool.eq_false_iff.mpr fun z => ?_
          have := List.all_eq_true.mp z d (List.mem_of_getElem? hd)
          rw [hk] at this
          cases this
      · obtain ⟨s1, rfl, hok, o, rfl⟩ := h
        rw [hxl, List.take_of_length_le (Nat.le_refl _)] at hok
        refine ⟨_, p, ds.map fun d => mkS (showP shA d), rfl, rfl, SqL.of ?_, by decide +kernel, Nat.le_trans (hsum ds) (Nat.le_trans hw (by decide)), ?_⟩
        · rw [upd_same, hxl, List.take_of_length_le (Nat.le_refl _), List.map_map]
          rfl
        rw [join_show]
        have hj : (mkS (showJ shA ds)).length ≤ 40000 := by
          rw [mkS_len]
          exact Nat.le_trans (showJ_len ds) hw
        refine ⟨_, rfl, by decide +kernel, _, rfl, .inl ⟨_, rfl, Nat.le_trans hj (by decide), _, rfl, Nat.le_trans hj (by decide), _, rfl, by decide +kernel, ?_⟩⟩
        have z := q hok _ (s1.upd (o := .lst ((ds.take xs.length).map fun d => V.str (mkS (showP shA d)))) hp)
        have e : ("[" : Str) ++ (mkS (showJ shA ds) ++ (("]" : Str) ++ Str.empty)) = mkS (showP shA (.list ds)) := by
          refine str_ext ?_
          rw [cps_app, cps_app, cps_app, open_eq, shut_eq]
          show [91] ++ (showJ shA ds ++ ([93] ++ [])) = showP shA (.list ds)
          rw [show_list]
          rfl
        rw [← e] at z
        exact z
theorem can_showX (hS : ∃ f fd, Fun K "show_paper" "show_paper" s_show_paper f fd ∧ mg "show_paper" = some (.ref f)) (T : Txt K mg) (R : Ecs K mg ct) (cw : Can P w K mg base 1 "is_whole" ["thing"] spWholeD) (cn : Can P w K mg base 2 "is_name" ["word"] spName) :
    ∀ m : Nat, CanX P w K mg base (m + 3) "show_paper" ["paper"] (spShowX ct m)
  | 0 => by
    obtain ⟨f, fd, F, hm⟩ := hS
    exact ⟨f, fd, ok_showX0 F T R cw cn, hm, F.kp, F.binds fun _ _ _ _ _ _ us hl => match us, hl with | [_], _ => rfl⟩
  | m + 1 => by
    have ih := can_showX hS T R cw cn m
    obtain ⟨f, fd, F, hm⟩ := hS
    exact ⟨f, fd, ok_showX F T R cw cn ih, hm, F.kp, F.binds fun _ _ _ _ _ _ us hl => match us, hl with | [_], _ => rfl⟩
end
end Net

namespace L2
open PySem PySem.Spec PyProof.Rows
theorem pa_k {X : Cx} {c : Const} {k : Nat} {pos : Pos} {es : List Expr} {te : TE} {t : TA} (ha : PE X (.Constant c k pos) te) (hr : PA X es t) : PA X (.Constant c k pos :: es) (tCons te t) := pa_cons ha hr
end L2
namespace Net
open PySem L2 L2.Tx
/-! ### papers as texts -/
structure Ecs2 (K : PySem.W.Frag) (mg : Str → Option Value) (ct cc : Addr) (cs : Nat → Addr) : Prop where
  m0 : mg "NoName" = some (.ref (cs 0))
  m1 : mg "Twice" = some (.ref (cs 1))
  m2 : mg "SamePlace" = some (.ref (cs 2))
  m3 : mg "NoWidth" = some (.ref (cs 3))
  m4 : mg "NoTie" = some (.ref (cs 4))
  m5 : mg "TooMany" = some (.ref (cs 5))
  m7 : mg "NoPlace" = some (.ref (cs 7))
  m8 : mg "NoClaim" = some (.ref (cs 8))
  m9 : mg "NoLine" = some (.ref (cs 9))
  mc : mg "CourtError" = some (.ref cc)
  val : mg "ValueError" = none
  kit : ExcKit K ct
  k0 : PySem.W.kitOne K (.ref ct) (.ref (cs 0)) = some false
  k1 : PySem.W.kitOne K (.ref ct) (.ref (cs 1)) = some false
  k2 : PySem.W.kitOne K (.ref ct) (.ref (cs 2)) = some false
  k3 : PySem.W.kitOne K (.ref ct) (.ref (cs 3)) = some false
  k4 : PySem.W.kitOne K (.ref ct) (.ref (cs 4)) = some false
  k5 : PySem.W.kitOne K (.ref ct) (.ref (cs 5)) = some false
  k6 : PySem.W.kitOne K (.ref ct) (.ref ct) = some true
  k7 : PySem.W.kitOne K (.ref ct) (.ref (cs 7)) = some false
  k8 : PySem.W.kitOne K (.ref ct) (.ref (cs 8)) = some false
  k9 : PySem.W.kitOne K (.ref ct) (.ref (cs 9)) = some false
  kv : PySem.W.kitOne K (.ref ct) (.type "ValueError") = some true
  xm : PySem.W.exmOne K (.ref ct) (.ref cc) = some true
def spIs (ct : Addr) : Sp := fun vs H Q _ => ∃ (a : Addr), vs = [.ref a, .int 6] ∧ H a = some (excO a (.ref ct)) ∧ ∀ H', Same H H' → Q (.bl true) H'
theorem rd_bools {K : PySem.W.Frag} {H : Hp} {l : Addr} {bs : List Bool} (h : H l = some (.lst (bs.map V.bl))) : RdD K H 2 (.ref l) (.list (bs.map PyData.bool)) := by
  refine .inl ⟨_, _, SqL.of h, rfl, ?_⟩
  clear h
  induction bs with
  | nil => exact .nil
  | cons x r ih => exact .cons rfl ih
theorem b_val : bootBuiltins "ValueError" = some (.type "ValueError") := by decide +kernel
theorem num_is {i : Int} (h1 : -(10 ^ 120) < i) (h2 : i < 10 ^ 120) : numOk (numT i).cps.toList = true ∧ valL (numT i).cps.toList = i := by
  have hn : i.natAbs < 10 ^ 120 := by omega
  cases i with
  | ofNat m =>
    show numOk (numT (m : Int)).cps.toList = true ∧ valL (numT (m : Int)).cps.toList = (m : Int)
    rw [numT_nat]
    have dl := dg_len (m := m) (k := 120) (by decide) (by simpa using hn)
    have dn := dg_ne m
    have dd := dg_digits m
    have d0 : (dg m)[0]? ≠ some 45 := fun z => by
      have := dd 45 (List.mem_of_getElem? z)
      omega
    have ef : figsOf (dg m) = dg m := by
      cases e : dg m with
      | nil => exact absurd e dn
      | cons c r =>
        show (if c = 45 then r else c :: r) = _
        rw [if_neg]
        intro z
        rw [e, z] at d0
        exact d0 rfl
    refine ⟨?_, ?_⟩
    · rw [numOk_eq, ef, decide_eq_true dl, decide_eq_true (p := 1 ≤ (dg m).length) (List.length_pos_iff.mpr dn), all_figB dd]
      show (true && !(_ && _)) = true
      by_cases z : (dg m)[0]? = some 48
      · have hm := dg_zero z
        have e : dg m = [48] := by rw [hm]; exact dg_one (by decide)
        rw [decide_eq_false (p := dg m ≠ [48]) (fun y => y e), Bool.and_false]
        rfl
      · rw [decide_eq_false z]
        rfl
    · unfold valL
      rw [if_neg d0, ef, val_dg]
  | negSucc m =>
    rw [numT_neg]
    have dl := dg_len (m := m + 1) (k := 120) (by decide) (by simpa using hn)
    have dn := dg_ne (m + 1)
    have dd := dg_digits (m + 1)
    have ef : figsOf (45 :: dg (m + 1)) = dg (m + 1) := by show (if (45 : Nat) = 45 then dg (m + 1) else 45 :: dg (m + 1)) = _; rw [if_pos rfl]
    refine ⟨?_, ?_⟩
    · rw [numOk_eq, ef, decide_eq_true dl, decide_eq_true (p := 1 ≤ (dg (m + 1)).length) (List.length_pos_iff.mpr dn), all_figB dd]
      have z : ¬ (dg (m + 1))[0]? = some 48 := fun z => by
        have := dg_zero z
        omega
      rw [decide_eq_false z]
      rfl
    · unfold valL
      rw [if_pos (show (45 :: dg (m + 1))[0]? = some 45 from rfl), ef, val_dg]
      rfl
theorem at_atom {d : PyData} (h : LawAt d) : isAt d = true ∧ atomL (shA d) = some d := by
  rcases h with ⟨x, rfl, hx⟩ | ⟨i, rfl, h1, h2⟩
  · refine ⟨rfl, ?_⟩
    show atomL x.cps.toList = _
    unfold atomL
    rw [cps_mkS, if_pos hx]
  · refine ⟨rfl, ?_⟩
    show atomL (numT i).cps.toList = _
    obtain ⟨a, b⟩ := num_is h1 h2
    have hno : ¬ nameB (mkS (numT i).cps.toList) = true := fun z => by
      obtain ⟨n1, n2, _⟩ := name_mk z
      obtain ⟨c, hc⟩ := List.exists_mem_of_length_pos (show 0 < (numT i).cps.toList.length by omega)
      have := n1 c hc
      have := num_signs a c hc
      omega
    unfold atomL
    rw [if_neg hno, if_pos a, b]
theorem VP.up {m : Nat} {d : PyData} : ∀ {k : Nat}, VP shA atomL k d → VP shA atomL (k + m) d := fun {k} h => by
  induction k generalizing d with
  | zero =>
    rcases h.get with ⟨a, b⟩ | ⟨_, _, e, _⟩
    · exact VP.at a b
    · omega
  | succ k ih =>
    rcases h.get with ⟨a, b⟩ | ⟨k', ds, e, rfl, hx⟩
    · exact VP.at a b
    · have : k' = k := by omega
      subst this
      rw [show k' + 1 + m = (k' + m) + 1 by omega]
      exact fun x hx' => ih (hx x hx')
theorem vp_lp : ∀ (n : Nat) (d : PyData), LP n d → VP shA atomL (nod d) d
  | n, d, h => by
    rcases h.get with h1 | ⟨m, ds, rfl, rfl, h1⟩
    · obtain ⟨a, b⟩ := at_atom h1
      exact VP.at a b
    · rw [nod_list, Nat.add_comm]
      show ∀ x ∈ ds, VP shA atomL (nodL ds) x
      intro x hx
      have := vp_lp m x (h1 x hx)
      have hle := mem_nod hx
      have e : nodL ds = nod x + (nodL ds - nod x) := by omega
      rw [e]
      exact this.up
theorem vp60 {n : Nat} {d : PyData} (h : LP n d) (hn : nod d ≤ 60) : VP shA atomL 60 d := by
  have := (vp_lp n d h).up (m := 60 - nod d)
  rw [show nod d + (60 - nod d) = 60 by omega] at this
  exact this
/-- what is shown is read again -/
theorem reads_show {d : PyData} (h : VP shA atomL 60 d) : Reads (mkS (showP shA d)) d := by
  refine (readers_same atom_ok).mp ⟨false, ?_⟩
  have e : partA [] (mkS (showP shA d)).cps.toList = toksP shA d := by
    have := part_show atom_ok 60 d [] h (.inl rfl)
    rw [List.append_nil] at this
    show partA [] (showP shA d) = _
    rw [this]
    show toksP shA d ++ flushW [] = _
    unfold flushW
    rw [if_pos rfl, List.append_nil]
  rw [e, strict_show atom_ok 60 d [[]] h (.inl rfl) (by decide)]
  rfl
def badL : List Str := ["", "abcdefghijklm", "Ann", "a1", "a b", "[]", "-", "5", "X"]
theorem badL_ok : ∀ x ∈ badL, nameB x = false ∧ x.length ≤ 20 ∧ PyData.strOk x = true := by decide +kernel
def spNoName : Sp := fun vs H Q _ => ∃ (n : Int), vs = [.int n] ∧ ∀ x H', Same H H' → nameB x = false → x.length ≤ 20 → PyData.strOk x = true → Q (.str x) H'
def spCaught (ct : Addr) : Sp := fun vs H Q _ => ∃ (v : V) (n : Nat) (d : PyData), vs = [v] ∧ PD H n v d ∧ MX 61 d ∧ okP 61 d = false ∧ (showP shA d).length ≤ 40000 ∧ ∀ a H', Same H H' → H' a = some (excO a (.ref ct)) → Q (.ref a) H'
def spRound : Sp := fun vs H Q _ => ∃ (v : V) (d : PyData) (n : Nat), vs = [v] ∧ PD H 61 v d ∧ LP n d ∧ nod d ≤ 60 ∧ ∀ H', Same H H' → Q (.bl true) H'
section
variable {P : Program} {w : World} {K : PySem.W.Frag} {mg : Str → Option Value} {base : Heap} {ct cc : Addr} {cs : Nat → Addr}
theorem sc_is : FnScope ["_law_caught_here", "_law_at", "_law_told"] ["_law_caught_here", "_law_at"] (defScope s_l_is) := ⟨rfl, rfl, rfl, by decide +kernel, rfl, by decide +kernel, by decide +kernel⟩
theorem ok_is {f : Addr} {fd : FuncData} (F : Fun K "_law_is" "_law_is" s_l_is f fd) (T : Txt K mg) (R : Ecs K mg ct) (R2 : Ecs2 K mg ct cc cs) : FnOk P w K mg base CX0 1 f fd ["_law_caught_here", "_law_at"] (spIs ct) := by
  refine F.ok sc_is (fun vs H Q E h => ?_) (fun cdv A outer s H vs Q E hr h => ?_)
  · obtain ⟨a, rfl, _⟩ := h
    rfl
  · obtain ⟨a, rfl, ha, q⟩ := h
    have hu := hr.units
    have g0 : GlobIs mg "NoName" (.ref (cs 0)) := ⟨_, R2.m0, rfl⟩
    have g1 : GlobIs mg "Twice" (.ref (cs 1)) := ⟨_, R2.m1, rfl⟩
    have g2 : GlobIs mg "SamePlace" (.ref (cs 2)) := ⟨_, R2.m2, rfl⟩
    have g3 : GlobIs mg "NoWidth" (.ref (cs 3)) := ⟨_, R2.m3, rfl⟩
    have g4 : GlobIs mg "NoTie" (.ref (cs 4)) := ⟨_, R2.m4, rfl⟩
    have g5 : GlobIs mg "TooMany" (.ref (cs 5)) := ⟨_, R2.m5, rfl⟩
    have g6 : GlobIs mg "NoText" (.ref ct) := ⟨_, R.mt, rfl⟩
    have g7 : GlobIs mg "NoPlace" (.ref (cs 7)) := ⟨_, R2.m7, rfl⟩
    have g8 : GlobIs mg "NoClaim" (.ref (cs 8)) := ⟨_, R2.m8, rfl⟩
    have g9 : GlobIs mg "NoLine" (.ref (cs 9)) := ⟨_, R2.m9, rfl⟩
    refine ⟨_, (pss_cons (ps_set (i := 2) sc_is.nd rfl (Or.inl rfl) (pe_lst (pa_cons (pe_callB call_isinstX (by rfl) T.isi b_isi (pa_cons (pv 0) (pa_cons (pe_globC g0 (by rfl)) pa_nil))) (pa_cons (pe_callB call_isinstX (by rfl) T.isi b_isi (pa_cons (pv 0) (pa_cons (pe_globC g1 (by rfl)) pa_nil))) (pa_cons (pe_callB call_isinstX (by rfl) T.isi b_isi (pa_cons (pv 0) (pa_cons (pe_globC g2 (by rfl)) pa_nil))) pa_nil)))))
      (pss_cons (ps_set (i := 2) sc_is.nd rfl (Or.inl rfl) (pe_op op_cat (pv 2) (pe_lst (pa_cons (pe_callB call_isinstX (by rfl) T.isi b_isi (pa_cons (pv 0) (pa_cons (pe_globC g3 (by rfl)) pa_nil))) (pa_cons (pe_callB call_isinstX (by rfl) T.isi b_isi (pa_cons (pv 0) (pa_cons (pe_globC g4 (by rfl)) pa_nil))) (pa_cons (pe_callB call_isinstX (by rfl) T.isi b_isi (pa_cons (pv 0) (pa_cons (pe_globC g5 (by rfl)) pa_nil))) pa_nil))))))
      (pss_cons (ps_set (i := 2) sc_is.nd rfl (Or.inl rfl) (pe_op op_cat (pv 2) (pe_lst (pa_cons (pe_callB call_isinstX (by rfl) T.isi b_isi (pa_cons (pv 0) (pa_cons (pe_globC g6 (by rfl)) pa_nil))) (pa_cons (pe_callB call_isinstX (by rfl) T.isi b_isi (pa_cons (pv 0) (pa_cons (pe_globC g7 (by rfl)) pa_nil))) (pa_cons (pe_callB call_isinstX (by rfl) T.isi b_isi (pa_cons (pv 0) (pa_cons (pe_globC g8 (by rfl)) pa_nil))) pa_nil))))))
      (pss_cons (ps_set (i := 2) sc_is.nd rfl (Or.inl rfl) (pe_op op_cat (pv 2) (pe_lst (pa_cons (pe_callB call_isinstX (by rfl) T.isi b_isi (pa_cons (pv 0) (pa_cons (pe_globC g9 (by rfl)) pa_nil))) pa_nil))))
      (pss_cons (ps_if (pt_cmpR (op_neD hu) (pv 2) (pe_comp (N := ["_law_k", "_law_at"]) (xs := 1) (js := [1]) rfl (compScope_of rfl) (pi_range1 rfl T.range (pa_cons pe_int pa_nil))
          (fun _ _ _ _ => pg_name (i := 0) (show List.Nodup (["_law_k", "_law_at"] : List Str) by decide +kernel) rfl (Or.inl rfl)) (fun _ _ _ _ => pts_nil) (fun _ _ _ _ => pe_cmpR op_eq (pv 0) (pv 1) (nomark _))) (nomark _))
        (pss_one (ps_ret pe_bl)) pss_nil)
      (pss_one (ps_ret (pe_or (pe_and (pe_cmpR op_eq (pv 1) pe_int (nomark _)) (pe_one (pe_cmp (pc_isN (pv 0))))) (pe_one (pe_callB call_isinstXT (by rfl) T.isi b_isi (pa_cons (pv 0) (pa_cons (pe_ty R2.val (by rfl) b_val) pa_nil)))))))))))), ?_⟩
    refine ⟨_, rfl, a, _, _, _, rfl, ha, R2.kit, R2.k0, _, rfl, a, _, _, _, rfl, ha, R2.kit, R2.k1, _, rfl, a, _, _, _, rfl, ha, R2.kit, R2.k2, (by show 3 ≤ sizeLine; decide), fun l1 hl1 => ?_⟩
    have s1 : Same H (upd H l1 (.lst ([false, false, false].map V.bl))) := Same.new hl1
    have e1 : (upd H l1 (.lst ([false, false, false].map V.bl))) l1 = some (.lst ([false, false, false].map V.bl)) := upd_same
    change tSeq _ _ _ _ (upd H l1 (.lst ([false, false, false].map V.bl)))
    generalize upd H l1 (.lst ([false, false, false].map V.bl)) = H1 at s1 e1
    have a1 := s1 _ _ ha
    refine ⟨_, rfl, _, rfl, a, _, _, _, rfl, a1, R2.kit, R2.k3, _, rfl, a, _, _, _, rfl, a1, R2.kit, R2.k4, _, rfl, a, _, _, _, rfl, a1, R2.kit, R2.k5, (by show 3 ≤ sizeLine; decide), fun l2 hl2 => ?_⟩
    refine ⟨l1, l2, _, _, rfl, rfl, (Same.new hl2) _ _ e1, upd_same, (by show 3 + 3 ≤ sizeLine; decide), fun l3 hl3 => ?_⟩
    have s3 : Same H (upd (upd H1 l2 (.lst ([false, false, false].map V.bl))) l3 (.lst ([false, false, false, false, false, false].map V.bl))) := (s1.upd hl2).upd hl3
    have e3 : (upd (upd H1 l2 (.lst ([false, false, false].map V.bl))) l3 (.lst ([false, false, false, false, false, false].map V.bl))) l3 = some (.lst ([false, false, false, false, false, false].map V.bl)) := upd_same
    change tSeq _ _ _ _ (upd (upd H1 l2 (.lst ([false, false, false].map V.bl))) l3 (.lst ([false, false, false, false, false, false].map V.bl)))
    generalize upd (upd H1 l2 (.lst ([false, false, false].map V.bl))) l3 (.lst ([false, false, false, false, false, false].map V.bl)) = H3 at s3 e3
    have a3 := s3 _ _ ha
    refine ⟨_, rfl, _, rfl, a, _, _, _, rfl, a3, R2.kit, R2.k6, _, rfl, a, _, _, _, rfl, a3, R2.kit, R2.k7, _, rfl, a, _, _, _, rfl, a3, R2.kit, R2.k8, (by show 3 ≤ sizeLine; decide), fun l4 hl4 => ?_⟩
    refine ⟨l3, l4, _, _, rfl, rfl, (Same.new hl4) _ _ e3, upd_same, (by show 6 + 3 ≤ sizeLine; decide), fun l5 hl5 => ?_⟩
    have s5 : Same H (upd (upd H3 l4 (.lst ([true, false, false].map V.bl))) l5 (.lst ([false, false, false, false, false, false, true, false, false].map V.bl))) := (s3.upd hl4).upd hl5
    have e5 : (upd (upd H3 l4 (.lst ([true, false, false].map V.bl))) l5 (.lst ([false, false, false, false, false, false, true, false, false].map V.bl))) l5 = some (.lst ([false, false, false, false, false, false, true, false, false].map V.bl)) := upd_same
    change tSeq _ _ _ _ (upd (upd H3 l4 (.lst ([true, false, false].map V.bl))) l5 (.lst ([false, false, false, false, false, false, true, false, false].map V.bl)))
    generalize upd (upd H3 l4 (.lst ([true, false, false].map V.bl))) l5 (.lst ([false, false, false, false, false, false, true, false, false].map V.bl)) = H5 at s5 e5
    have a5 := s5 _ _ ha
    refine ⟨_, rfl, _, rfl, a, _, _, _, rfl, a5, R2.kit, R2.k9, (by show 1 ≤ sizeLine; decide), fun l6 hl6 => ?_⟩
    refine ⟨l5, l6, _, _, rfl, rfl, (Same.new hl6) _ _ e5, upd_same, (by show 9 + 1 ≤ sizeLine; decide), fun l7 hl7 => ?_⟩
    have s7 : Same H (upd (upd H5 l6 (.lst ([false].map V.bl))) l7 (.lst ([false, false, false, false, false, false, true, false, false, false].map V.bl))) := (s5.upd hl6).upd hl7
    have e7 : (upd (upd H5 l6 (.lst ([false].map V.bl))) l7 (.lst ([false, false, false, false, false, false, true, false, false, false].map V.bl))) l7 = some (.lst ([false, false, false, false, false, false, true, false, false, false].map V.bl)) := upd_same
    change tSeq _ _ _ _ (upd (upd H5 l6 (.lst ([false].map V.bl))) l7 (.lst ([false, false, false, false, false, false, true, false, false, false].map V.bl)))
    generalize upd (upd H5 l6 (.lst ([false].map V.bl))) l7 (.lst ([false, false, false, false, false, false, true, false, false, false].map V.bl)) = H7 at s7 e7
    have a7 := s7 _ _ ha
    refine ⟨_, rfl, 10, rfl, by decide, by decide, comp_range (n := (10 : Int).toNat) (fun i acc σ' H' => i ≤ 10 ∧ H' = H7 ∧ acc = ((List.range i).map fun (j : Nat) => decide (V.int (0 + (j : Int)) = V.int 6)).map V.bl ∧ ∃ o, σ' = [o, some (.int 6)])
      ⟨Nat.zero_le _, rfl, rfl, none, rfl⟩ (fun i acc σ' H' h => ?_) (by decide) (fun i acc σ' H' hi h => ?_) (fun acc σ' H' h p hp => ?_)⟩
    · obtain ⟨_, _, rfl, _⟩ := h
      simp
    · obtain ⟨h0, rfl, rfl, o, rfl⟩ := h
      have hi10 : i < 10 := hi
      refine ⟨_, rfl, _, rfl, rfl, by omega, rfl, ?_, _, rfl⟩
      rw [List.range_succ, List.map_append, List.map_append]
      rfl
    obtain ⟨_, rfl, rfl, o, rfl⟩ := h
    have sp := s7.upd (o := .lst (((List.range (10 : Int).toNat).map fun (j : Nat) => decide (V.int (0 + (j : Int)) = V.int 6)).map V.bl)) hp
    have ap := sp _ _ ha
    refine ⟨2, _, _, by decide, rd_bools ((Same.new hp) _ _ e7), rd_bools upd_same, _, rfl, iteFb (by decide +kernel) ?_⟩
    exact ⟨_, rfl, rfl, false, rfl, iteF ⟨false, rfl, iteF ⟨_, rfl, a, _, _, _, rfl, ap, R2.kit, R2.kv, q _ sp⟩⟩⟩
theorem sc_nn11 : FnScope ["_law_number"] ["_law_number"] (defScope s_l_no_name) := ⟨rfl, rfl, rfl, by decide +kernel, rfl, by decide +kernel, by decide +kernel⟩
theorem ok_nn11 {f : Addr} {fd : FuncData} (F : Fun K "_law_no_name" "_law_no_name" s_l_no_name f fd) : FnOk P w K mg base CX0 1 f fd ["_law_number"] spNoName := by
  refine F.ok sc_nn11 (fun vs H Q E h => ?_) (fun cdv A outer s H vs Q E hr h => ?_)
  · obtain ⟨n, rfl, _⟩ := h
    rfl
  · obtain ⟨n, rfl, q⟩ := h
    refine ⟨_, (pss_one (ps_ret (@pe_ix _ _ _ _ _ _ _ ix_list (@pe_lst _ _ _ _ (@pa_k _ _ _ _ _ _ _ pe_str (@pa_k _ _ _ _ _ _ _ pe_str (@pa_k _ _ _ _ _ _ _ pe_str (@pa_k _ _ _ _ _ _ _ pe_str (@pa_k _ _ _ _ _ _ _ pe_str (@pa_k _ _ _ _ _ _ _ pe_str (@pa_k _ _ _ _ _ _ _ pe_str (@pa_k _ _ _ _ _ _ _ pe_str (@pa_k _ _ _ _ _ _ _ pe_str pa_nil)))))))))) (pe_op op_mod (pv 0) pe_int) (fun _ _ => by rfl)))), ?_⟩
    refine ⟨(by show 9 ≤ sizeLine; decide), fun l hl => ?_⟩
    obtain ⟨j, hj, ej⟩ : ∃ j : Nat, j < 9 ∧ n % 9 = (j : Int) := ⟨(n % 9).toNat, by omega, by omega⟩
    obtain ⟨x, hx⟩ : ∃ x, badL[j]? = some x := ⟨badL[j]'hj, List.getElem?_eq_getElem _⟩
    obtain ⟨b1, b2, b3⟩ := badL_ok x (List.mem_of_getElem? hx)
    refine ⟨_, rfl, _, _, rfl, rfl, (by show (0 : Int) < 9; decide), l, badL.map V.str, _, .str x, rfl, rfl, SqL.of upd_same, ?_, q x _ (Same.new hl) b1 b2 b3⟩
    rw [ej]
    exact atI_nat (by rw [List.getElem?_map, hx]; rfl)
abbrev Ncau : List Str := ["_law_paper_here", "_law_caught_here", "e"]
theorem sc_cau : FnScope Ncau ["_law_paper_here"] (defScope s_l_caught) := ⟨rfl, rfl, rfl, by decide +kernel, rfl, by decide +kernel, by decide +kernel⟩
theorem ok_cau {f : Addr} {fd : FuncData} (F : Fun K "_law_caught" "_law_caught" s_l_caught f fd) (R2 : Ecs2 K mg ct cc cs) (cx : CanX P w K mg base 64 "show_paper" ["paper"] (spShowX ct 61)) : FnOk P w K mg base CX0 65 f fd ["_law_paper_here"] (spCaught ct) := by
  refine F.ok sc_cau (fun vs H Q E h => ?_) (fun cdv A outer s H vs Q E hr h => ?_)
  · obtain ⟨v, n, d, rfl, _⟩ := h
    rfl
  · obtain ⟨v, n, d, rfl, pd, mx, hno, hl, q⟩ := h
    refine ⟨_, (pss_cons (ps_set (i := 1) sc_cau.nd rfl (Or.inl rfl) pe_non)
      (pss_cons (ps_tryAs (i := 2) rfl rfl sc_cau.nd rfl rfl (by rfl) R2.mc (psx_expr (pex_call cx hr (by rfl) (pa_cons (pv 0) pa_nil))) (fun v => (pss_one (ps_set (i := 1) sc_cau.nd rfl (Or.inl rfl) (pv 2)))))
      (pss_one (ps_ret (pv 1))))), ?_⟩
    refine ⟨_, rfl, v, n, d, rfl, pd, mx, hl, fun z => ?_, fun _ H' s' => ⟨R2.xm, fun a ha => ?_⟩⟩
    · rw [hno] at z
      cases z
    · exact ⟨_, rfl, _, rfl, q a _ (s'.upd ha) upd_same⟩
abbrev Nrnd : List Str := ["_law_paper_here", "_law_text", "_law_found"]
theorem sc_rnd : FnScope Nrnd ["_law_paper_here"] (defScope s_l_round) := ⟨rfl, rfl, rfl, by decide +kernel, rfl, by decide +kernel, by decide +kernel⟩
theorem ok_rnd {f : Addr} {fd : FuncData} (F : Fun K "_law_round" "_law_round" s_l_round f fd) (T : Txt K mg) (cshow : Can P w K mg base 63 "show_paper" ["paper"] (spShowP 60)) (cpt : Can P w K mg base 1 "_law_paper_text" ["_law_paper_here"] spPtext) (cr : CanX P w K mg base 64 "read_paper" ["text"] (spPaperX ct)) (csm : Can P w K mg base 1 "_law_same" ["_law_one", "_law_other"] spSame) :
    FnOk P w K mg base CX0 65 f fd ["_law_paper_here"] spRound := by
  refine F.ok sc_rnd (fun vs H Q E h => ?_) (fun cdv A outer s H vs Q E hr h => ?_)
  · obtain ⟨v, d, n, rfl, _⟩ := h
    rfl
  · obtain ⟨v, d, n, rfl, pd, lp, hn, q⟩ := h
    have r1 : Room 1 _ := hr.mono (by decide)
    have r63 : Room 63 _ := hr.mono (by decide)
    have vp := vp60 lp hn
    obtain ⟨_, _, l1, l2⟩ := sh_lp n d lp
    have okx : okX (mkS (showP shA d)) := ⟨by rw [mkS_len]; omega, fun c hc => l2 c hc⟩
    refine ⟨_, (pss_cons (ps_set (i := 1) sc_rnd.nd rfl (Or.inl rfl) (pe_callC cshow r63 (by rfl) (pa_cons (pv 0) pa_nil)))
      (pss_cons (ps_if (PW.pt (pw_or (pt_not (pt_val (pe_callB call_isinst (by rfl) T.isi b_isi (pa_cons (pv 1) (pa_cons (pe_ty T.str (by rfl) b_str) pa_nil))))) (pw_or1 (pt_cmpR op_ne (pv 1) (pe_callC cpt r1 (by rfl) (pa_cons (pv 0) pa_nil)) (nomark _))))) (pss_one (ps_ret pe_bl)) pss_nil)
      (pss_cons (ps_set (i := 2) sc_rnd.nd rfl (Or.inl rfl) (pe_callX0 cr hr (by rfl) (pa_cons (pv 1) pa_nil)))
      (pss_one (ps_ret (pe_and (pe_callC csm r1 (by rfl) (pa_cons (pv 2) (pa_cons (pv 0) pa_nil))) (pe_one (pe_cmpR op_eq (pe_callC cshow r63 (by rfl) (pa_cons (pv 2) pa_nil)) (pv 1) (nomark _))))))))), ?_⟩
    refine ⟨_, rfl, v, 61, d, rfl, pd, vp, by omega, fun H1 s1 => ?_⟩
    refine ⟨_, rfl, _, "str", _, true, rfl, .str _, rfl, true, rfl, iteF ⟨_, rfl, _, rfl, v, d, n, rfl, pd.same s1, lp, hn, fun H2 s2 => ⟨rfl, _, rfl, iteFb (by rw [decide_eq_true rfl]; rfl) ?_⟩⟩⟩
    refine ⟨_, rfl, _, rfl, okx, fun d' v2 H3 hrd vp2 s3 pd2 => ?_, fun z => absurd (reads_show vp) (z d)⟩
    have hdd : d' = d := by
      obtain ⟨fs, a1, a2, _⟩ := hrd
      obtain ⟨fs', b1, b2, _⟩ := reads_show vp
      rw [a1] at b1
      cases b1
      rw [a2] at b2
      cases b2
      rfl
    subst hdd
    have s03 := (s1.trans s2).trans s3
    refine ⟨_, rfl, _, rfl, v2, v, d', 60, rfl, pd2.up, pd.same s03, vp, by omega, fun H4 s4 => ⟨_, rfl, iteT ⟨_, rfl, v2, 60, d', rfl, pd2.same s4, vp, by omega, fun H5 s5 => ⟨_, rfl, rfl, ?_⟩⟩⟩⟩
    rw [decide_eq_true rfl]
    exact q H5 ((s03.trans s4).trans s5)
end
end Net

namespace Net
open PySem L2 L2.Tx
/-! ### a list within a paper is written to -/
inductive Rc (H : Hp) (b : Addr) : V → Prop
  | here : Rc H b (.ref b)
  | step {a c : Addr} {ys : List V} : H a = some (.lst ys) → V.ref c ∈ ys → Rc H b (.ref c) → Rc H b (.ref a)
theorem Rc.same {H H' : Hp} (s : Same H H') {b : Addr} {v : V} (h : Rc H b v) : Rc H' b v := by
  induction h with
  | here => exact .here
  | step e m _ ih => exact .step (s _ _ e) m ih
theorem Rc.down {H : Hp} {b c : Addr} {v : V} {ys : List V} (h : Rc H b v) (e : H b = some (.lst ys)) (m : V.ref c ∈ ys) : Rc H c v := by
  induction h with
  | here => exact .step e m .here
  | step e1 m1 _ ih => exact .step e1 m1 ih
theorem MX.of_at {n : Nat} {d : PyData} (h : LawAt d) : MX n d := by
  rcases h with ⟨x, rfl, hx⟩ | ⟨i, rfl, h1, h2⟩
  · have h12 := (name_len hx).2
    have : x.length ≤ 1000 := by omega
    cases n <;> exact this
  · have := (int_facts h1 h2).2
    cases n <;> exact this
theorem wgt_ins (e : PyData) : ∀ (ds : List PyData) (k : Nat), wgt (ds.take k ++ e :: ds.drop k) = wgt ds + ((showP shA e).length + 1)
  | ds, 0 => by
    show wgt (e :: ds) = _
    rw [wgt_cons]
    omega
  | [], k + 1 => by
    show wgt [e] = _
    rw [wgt_cons]
    omega
  | d :: ds, k + 1 => by
    show wgt (d :: (ds.take k ++ e :: ds.drop k)) = _
    rw [wgt_cons, wgt_ins e ds k, wgt_cons]
    omega
theorem pair_ins {F : V → PyData → Prop} {v : V} {e : PyData} (hv : F v e) : ∀ {xs : List V} {ds : List PyData} (k : Nat), Paired F xs ds → Paired F (xs.take k ++ v :: xs.drop k) (ds.take k ++ e :: ds.drop k)
  | _, _, 0, p => .cons hv p
  | _, _, k + 1, .nil => .cons hv .nil
  | _, _, k + 1, .cons a p => .cons a (pair_ins hv k p)
theorem erase_ins {α : Type} (v : α) : ∀ (xs : List α) (k : Nat), k ≤ xs.length → (xs.take k ++ v :: xs.drop k).eraseIdx k = xs ∧ (xs.take k ++ v :: xs.drop k)[k]? = some v ∧ (xs.take k ++ v :: xs.drop k).length = xs.length + 1
  | xs, 0, _ => ⟨rfl, rfl, rfl⟩
  | [], k + 1, h => absurd h (by simp)
  | x :: xs, k + 1, h => by
    obtain ⟨a, b, c⟩ := erase_ins v xs k (by simpa using h)
    refine ⟨?_, ?_, ?_⟩
    · show x :: (xs.take k ++ v :: xs.drop k).eraseIdx k = _
      rw [a]
    · exact b
    · show (xs.take k ++ v :: xs.drop k).length + 1 = xs.length + 1 + 1
      rw [c]
theorem show_lst_le (ds : List PyData) : (showP shA (.list ds)).length ≤ wgt ds + 2 := by
  rw [show_list, List.length_cons, List.length_append, List.length_singleton]
  have := showJ_len ds
  omega
theorem lp_ref {H : Hp} {n m : Nat} {a : Addr} {d : PyData} (p : PD H n (.ref a) d) (l : LP m d) : ∃ n' m' ys ds, n = n' + 1 ∧ m = m' + 1 ∧ d = .list ds ∧ H a = some (.lst ys) ∧ Paired (PD H n') ys ds ∧ ∀ x ∈ ds, LP m' x := by
  cases n with
  | zero => exact p.elim
  | succ n =>
    rcases p with ⟨ys, ds, e, rfl, pr⟩ | ⟨ys, ds, e, rfl, pr⟩
    · rcases l.get with h | ⟨m', ds', rfl, e2, h⟩
      · rcases h with ⟨x, e2, _⟩ | ⟨i, e2, _⟩ <;> cases e2
      · cases e2
        exact ⟨n, m', ys, ds, rfl, rfl, rfl, e, pr, h⟩
    · rcases l.get with h | ⟨m', ds', rfl, e2, h⟩
      · rcases h with ⟨x, e2, _⟩ | ⟨i, e2, _⟩ <;> cases e2
      · cases e2
/-- after a text that is no name has been put into a list of the paper -/
theorem ins_pd {H : Hp} {b : Addr} {xs : List V} {k : Nat} {x : Str} (hb : H b = some (.lst xs)) (hx : nameB x = false) (xl : x.length ≤ 20) (xo : PyData.strOk x = true) :
    ∀ (n m : Nat) (v : V) (d : PyData), PD H n v d → LP m d → ∃ d', PD (upd H b (.lst (xs.take k ++ .str x :: xs.drop k))) n v d' ∧ MX n d' ∧ (showP shA d').length + 1 ≤ 146 * nod d ∧ (Rc H b v → okP n d' = false) := by
  intro n
  induction n with
  | zero =>
    intro m v d p l
    rcases l.get with h | ⟨m', ds, rfl, rfl, h⟩
    · have hs := (sh_atom h).2.2.1
      refine ⟨d, ?_, .of_at h, by rw [nod_at h]; omega, fun r => ?_⟩
      · cases v <;> first | exact p | exact p.elim
      · cases r <;> exact p.elim
    · obtain ⟨_, _, _, e, _⟩ := p.list_of
      cases e
  | succ n ih =>
    intro m v d p l
    rcases l.get with h | ⟨m', ds, rfl, rfl, h⟩
    · have hs := (sh_atom h).2.2.1
      have hno : ∀ a, v ≠ .ref a := fun a z => by
        subst z
        obtain ⟨_, _, _, _, _, _, e, _⟩ := lp_ref p l
        subst e
        rcases h with ⟨x, e2, _⟩ | ⟨i, e2, _⟩ <;> cases e2
      refine ⟨d, ?_, .of_at h, by rw [nod_at h]; omega, fun r => ?_⟩
      · cases v <;> first | exact p | exact p.elim | exact absurd rfl (hno _)
      · cases r <;> exact absurd rfl (hno _)
    · obtain ⟨n', a, ys, e0, rfl, ha, pr⟩ := p.list_of
      cases e0
      obtain ⟨ds', q1, q2, q3, q4⟩ : ∃ ds', Paired (PD (upd H b (.lst (xs.take k ++ .str x :: xs.drop k))) n) ys ds' ∧ (∀ z ∈ ds', MX n z) ∧ wgt ds' ≤ 146 * nodL ds ∧ ∀ y ∈ ys, Rc H b y → ds'.all (okP n) = false := by
        clear ha p l
        induction pr with
        | nil => exact ⟨[], .nil, fun _ h => (nomatch h), by rw [nodL_nil]; exact Nat.le_refl _, fun _ h => (nomatch h)⟩
        | @cons y e ys es py pr ih2 =>
          obtain ⟨e', a1, a2, a3, a4⟩ := ih m' y e py (h e List.mem_cons_self)
          obtain ⟨es', b1, b2, b3, b4⟩ := ih2 fun z hz => h z (List.mem_cons_of_mem _ hz)
          refine ⟨e' :: es', .cons a1 b1, fun z hz => ?_, ?_, fun z hz r => ?_⟩
          · rcases List.mem_cons.mp hz with rfl | hz
            · exact a2
            · exact b2 z hz
          · rw [wgt_cons, nodL_cons]
            omega
          · rw [List.all_cons]
            rcases List.mem_cons.mp hz with rfl | hz
            · rw [a4 r, Bool.false_and]
            · rw [b4 z hz r, Bool.and_false]
      have hnod : nod (.list ds) = 1 + nodL ds := nod_list ds
      by_cases hab : a = b
      · subst hab
        rw [hb] at ha
        cases ha
        refine ⟨.list (ds'.take k ++ .str x :: ds'.drop k), .inl ⟨_, _, upd_same, rfl, pair_ins (by cases n <;> exact ⟨xo, rfl⟩) k q1⟩, fun z hz => ?_, ?_, fun _ => ?_⟩
        · rcases List.mem_append.mp hz with hz | hz
          · exact q2 z (List.mem_of_mem_take hz)
          · rcases List.mem_cons.mp hz with rfl | hz
            · have : x.length ≤ 1000 := by omega
              cases n <;> exact this
            · exact q2 z (List.mem_of_mem_drop hz)
        · have h1 := show_lst_le (ds'.take k ++ .str x :: ds'.drop k)
          rw [wgt_ins] at h1
          have h2 : (showP shA (.str x)).length = x.length := by
            rw [show_at rfl]
            exact len_eq x
          omega
        · show (ds'.take k ++ .str x :: ds'.drop k).all (okP n) = false
          rw [List.all_append, List.all_cons, okP_str, hx, Bool.false_and, Bool.and_false]
      · refine ⟨.list ds', .inl ⟨_, _, by rw [upd_ne hab]; exact ha, rfl, q1⟩, q2, ?_, fun r => ?_⟩
        · have h1 := show_lst_le ds'
          omega
        · cases r with
          | here => exact absurd rfl hab
          | step e mm r =>
            rw [ha] at e
            cases e
            exact q4 _ mm r
end Net

namespace Net
open PySem L2 L2.Tx
def spLaw (K : PySem.W.Frag) : Sp := fun vs H Q _ => ∃ (a : Addr) (ns : List Int), vs = [.ref a] ∧ SqL K H a (ns.map V.int) ∧ ns.length ≤ 63 ∧ ∀ H', Q (.bl true) H'
theorem lists_of {H : Hp} {n : Nat} {acc : List V} {es : List PyData} (pr : Paired (PD H n) acc es) (h : ∀ e ∈ es, isL e = true) {j : Nat} {v : V} (e : acc[j]? = some v) : ∃ c ds, v = .ref c ∧ es[j]? = some (.list ds) ∧ PD H n (.ref c) (.list ds) := by
  obtain ⟨d, ed, pd⟩ := pair_get pr e
  have := h d (List.mem_of_getElem? ed)
  obtain ⟨ds, rfl⟩ : ∃ ds, d = .list ds := by cases d <;> first | exact ⟨_, rfl⟩ | cases this
  obtain ⟨_, c, _, _, rfl, _⟩ := pd.list_of
  exact ⟨c, ds, rfl, ed, pd⟩
section
variable {P : Program} {w : World} {K : PySem.W.Frag} {mg : Str → Option Value} {base : Heap} {ct : Addr}
abbrev Nlaw : List Str := ["_law_script", "_law_paper_here", "_law_kept_text", "_law_one", "_law_number", "_law_into", "_law_k", "_law_inner", "_law_at"]
theorem sc_law11 : FnScope Nlaw ["_law_script"] (defScope s_law) := ⟨rfl, rfl, rfl, by decide +kernel, rfl, by decide +kernel, by decide +kernel⟩
theorem ok_law11 {f : Addr} {fd : FuncData} (F : Fun K "law" "law" s_law f fd) (T : Txt K mg) (cpa : Can P w K mg base 3 "_law_paper" ["_law_cells"] spPaper) (cpt : Can P w K mg base 1 "_law_paper_text" ["_law_paper_here"] spPtext) (crd : Can P w K mg base 65 "_law_round" ["_law_paper_here"] spRound) (cm : Can P w K mg base 1 "_law_mixed" ["_law_cell", "_law_k"] spMixed) (cce : Can P w K mg base 1 "_law_cell_at" ["_law_script", "_law_k"] (spCell K))
    (cnn : Can P w K mg base 1 "_law_no_name" ["_law_number"] spNoName) (cau : Can P w K mg base 65 "_law_caught" ["_law_paper_here"] (spCaught ct)) (cis : Can P w K mg base 1 "_law_is" ["_law_caught_here", "_law_at"] (spIs ct)) :
    FnOk P w K mg base CX0 66 f fd ["_law_script"] (spLaw K) := by
  have nd_0 : List.Nodup (["_law_one"] : List Str) := by decide +kernel
  refine F.ok sc_law11 (fun vs H Q E h => ?_) (fun cdv A outer s H vs Q E hr h => ?_)
  · obtain ⟨a, ns, rfl, _⟩ := h
    rfl
  · obtain ⟨a, ns, rfl, hS, h63, q⟩ := h
    have r1 : Room 1 _ := hr.mono (by decide)
    have r3 : Room 3 _ := hr.mono (by decide)
    have hu := hr.units
    have psz : (20000 : Nat) < sizeLine := by decide
    refine ⟨_, (pss_cons (ps_set (i := 1) sc_law11.nd rfl (Or.inl rfl) (pe_callC cpa r3 (by rfl) (pa_cons (pe_slice sl_list (pv 0) po_none (po_some pe_int)) pa_nil)))
      (pss_cons (ps_set (i := 2) sc_law11.nd rfl (Or.inl rfl) (pe_callC cpt r1 (by rfl) (pa_cons (pv 1) pa_nil)))
      (pss_cons (ps_if (PW.pt (pw_or (pt_not (pt_val (pe_callC crd hr (by rfl) (pa_cons (pv 1) pa_nil)))) (pw_or1 (pt_cmpR op_ne (pe_callC cpt r1 (by rfl) (pa_cons (pv 1) pa_nil)) (pv 2) (nomark _))))) (pss_one (ps_ret pe_bl)) pss_nil)
      (pss_cons (ps_for PassesOwn.never rfl (pi_list (pv 1)) (pg_name (i := 3) sc_law11.nd rfl (Or.inl rfl))
          (pss_one (ps_if (pt_not (pt_val (pe_callC crd hr (by rfl) (pa_cons (pv 3) pa_nil)))) (pss_one (ps_ret pe_bl)) pss_nil)))
      (pss_cons (ps_set (i := 4) sc_law11.nd rfl (Or.inl rfl) (pe_callC cm r1 (by rfl) (pa_cons (pe_callC cce r1 (by rfl) (pa_cons (pv 0) (pa_cons pe_int pa_nil))) (pa_cons pe_int pa_nil))))
      (pss_cons (ps_set (i := 5) sc_law11.nd rfl (Or.inl rfl) (pv 1))
      (pss_cons (ps_for PassesOwn.never rfl (pi_range1 rfl T.range (pa_cons (pe_op op_mod (pe_op op_fdiv (pv 4) pe_int) pe_int) pa_nil)) (pg_name (i := 6) sc_law11.nd rfl (Or.inl rfl))
          (pss_cons (ps_comp (j := 7) (N := ["_law_one"]) (xs := 1) (js := []) rfl sc_law11.nd rfl rfl (compScope_of rfl) (pi_list (pv 5)) (fun _ _ _ _ => pg_name (i := 0) nd_0 rfl (Or.inl rfl)) (fun _ _ _ _ => pts_one (pt_val (pe_callB (call_isinstK K (by rfl)) (by rfl) T.isi b_isi (pa_cons (pv 0) (pa_cons (pe_ty T.list (by rfl) b_list) pa_nil))))) (fun _ _ _ _ => pv 0) rfl)
      (pss_one (ps_if (pt_cmpR (op_neD hu) (pv 7) (pe_lst pa_nil) (nomark _)) (pss_one (ps_set (i := 5) sc_law11.nd rfl (Or.inl rfl) (pe_ix ix_list (pv 7) (pe_op op_mod (pe_op op_fdiv (pv 4) pe_int) (pe_callB call_len_seq (by rfl) T.len b_len (pa_cons (pv 7) pa_nil))) (fun _ _ => by rfl)))) pss_nil))))
      (pss_cons (ps_set (i := 8) sc_law11.nd rfl (Or.inl rfl) (pe_op op_mod (pe_op op_fdiv (pv 4) pe_int) (pe_op op_add (pe_callB call_len_seq (by rfl) T.len b_len (pa_cons (pv 5) pa_nil)) pe_int)))
      (pss_cons (ps_expr (pe_bm PySem.F.plainAttrs_list PySem.F.slot_list_insert PySem.F.type_list_insert mt_insert (pv 5) (pa_cons (pv 8) (pa_cons (pe_callC cnn r1 (by rfl) (pa_cons (pv 4) pa_nil)) pa_nil))))
      (pss_cons (ps_if (PW.pt (pw_or (pt_not (pt_val (pe_callC cis r1 (by rfl) (pa_cons (pe_callC cau hr (by rfl) (pa_cons (pv 1) pa_nil)) (pa_cons pe_int pa_nil))))) (pw_or1 (pt_not (pt_val (pe_callC cis r1 (by rfl) (pa_cons (pe_callC cau hr (by rfl) (pa_cons (pe_callC cnn r1 (by rfl) (pa_cons (pe_op op_fdiv (pv 4) pe_int) pa_nil)) pa_nil)) (pa_cons pe_int pa_nil)))))))) (pss_one (ps_ret pe_bl)) pss_nil)
      (pss_cons (ps_expr (pe_bm PySem.F.plainAttrs_list PySem.F.slot_list_pop PySem.F.type_list_pop mt_popAt (pv 5) (pa_cons (pv 8) pa_nil)))
      (pss_one (ps_ret (pe_and (pe_callC crd hr (by rfl) (pa_cons (pv 1) pa_nil)) (pe_one (pe_cmpR op_eq (pe_callC cpt r1 (by rfl) (pa_cons (pv 1) pa_nil)) (pv 2) (nomark _))))))))))))))))), ?_⟩
    refine ⟨_, rfl, _, rfl, a, _, rfl, hS, fun p hp => ?_⟩
    obtain ⟨ns', en, hn'⟩ : ∃ ns' : List Int, cutV (ns.map V.int) none (some 59) = ns'.map V.int ∧ ns'.length ≤ 59 := by
      refine ⟨ns.take (min 59 ns.length), ?_, by rw [List.length_take]; omega⟩
      unfold cutV
      rw [show (some (59 : Int)) = some ((59 : Nat) : Int) from rfl, HT.sIx_nat, HT.sIx_none, List.drop_zero, Nat.sub_zero, List.length_map, List.map_take]
    rw [en]
    refine ⟨p, ns', rfl, upd_same, hn', fun v d n H1 s1 pd lp hv nd => ?_⟩
    obtain ⟨r, rfl⟩ := hv
    have s01 : Same H H1 := (Same.new hp).trans s1
    clear en hn' s1
    obtain ⟨n', m', ys, ds, e61, em, rfl, hr1, pr, lps⟩ := lp_ref pd lp
    obtain rfl : n' = 60 := by omega
    refine ⟨_, rfl, .ref r, _, n, rfl, pd, lp, nd, fun H2 s2 => ?_⟩
    refine ⟨_, rfl, .ref r, _, n, rfl, pd.same s2, lp, nd, fun H3 s3 => ⟨_, rfl, iteF ⟨_, rfl, .ref r, _, n, rfl, pd.same (s2.trans s3), lp, nd, fun H4 s4 => ⟨_, rfl, rfl, _, rfl, iteFb (by rw [decide_eq_true rfl]; rfl) ?_⟩⟩⟩⟩
    have s14 := (s2.trans s3).trans s4
    clear s2 s3 s4 H2 H3
    have hylen : ys.length = ds.length := Paired.length pr
    have hdlen := nodL_len ds
    have hnl := nod_list ds
    refine ⟨_, rfl, r, rfl, ⟨_, SqL.of (s14 _ _ hr1)⟩, for_list (K := K) (a := r) (xs := ys) (fun i σ' H' => (∃ o3, σ' = [some (.ref a), some (.ref r), some (.str (mkS (showP shA (.list ds)))), o3, none, none, none, none, none]) ∧ Same H1 H') ⟨⟨none, rfl⟩, s14⟩ (fun i σ' H' _ h => SqL.of (h.2 _ _ hr1)) (fun i v σ' H' hv h => ?_) (fun σ' H' h => ?_)⟩
    · obtain ⟨⟨o3, rfl⟩, t1⟩ := h
      obtain ⟨e, he, px⟩ := pair_get pr hv
      have hmem := List.mem_of_getElem? he
      have hno := mem_nod hmem
      exact ⟨_, rfl, v, e, m', rfl, (px.same t1).up, lps e hmem, by omega, fun H5 s5 => ⟨_, rfl, iteF ⟨⟨_, rfl⟩, t1.trans s5⟩⟩⟩
    obtain ⟨⟨o3, rfl⟩, t1⟩ := h
    clear s14
    refine ⟨_, rfl, a, ns, 0, rfl, (s01.trans t1).seq hS, by decide, fun c => ⟨c, 2, rfl, by decide, by decide, fun num hnum => ?_⟩⟩
    refine ⟨_, rfl, ?_⟩
    refine ⟨_, rfl, _, _, rfl, rfl, ⟨by decide, by decide⟩, _, _, rfl, rfl, (by show (0 : Int) < 4; decide), _, rfl, by omega, by omega, ?_⟩
    refine for_range (n := (num / 9 % 4).toNat) (fun i σ' H' => ∃ (b : Addr) (o6 o7 : Option V) (nb mb : Nat) (bs : List PyData), σ' = [some (.ref a), some (.ref r), some (.str (mkS (showP shA (.list ds)))), o3, some (.int num), some (.ref b), o6, o7, none] ∧ Same H1 H' ∧ Rc H' b (.ref r) ∧ PD H' nb (.ref b) (.list bs) ∧ nb ≤ 61 ∧ LP mb (.list bs) ∧ nod (.list bs) ≤ 60)
      ⟨r, none, none, 61, n, ds, rfl, t1, .here, pd.same t1, Nat.le_refl _, lp, nd⟩ (fun i σ' H' hi h => ?_) (fun σ' H' h => ?_)
    · obtain ⟨b, o6, o7, nb, mb, bs, rfl, t2, rc, pb, hnb, lb, hbn⟩ := h
      obtain ⟨nc, mc, zs, bs', enb, emb, ebs, hb, prb, lbs⟩ := lp_ref pb lb
      cases ebs
      have hzl : zs.length = bs.length := Paired.length prb
      have hbl := nodL_len bs
      have hbn' := nod_list bs
      refine ⟨_, rfl, b, rfl, ⟨_, SqL.of hb⟩, comp_list (K := K) (ys := zs) (fun j acc σ2 H2 => H2 = H' ∧ (∃ es, Paired (PD H' nc) acc es ∧ (∀ e ∈ es, isL e = true) ∧ ∀ e ∈ es, e ∈ bs) ∧ (∀ y ∈ acc, y ∈ zs) ∧ acc.length ≤ j ∧ ∃ o, σ2 = [o])
        ⟨rfl, ⟨[], .nil, fun _ h => (nomatch h), fun _ h => (nomatch h)⟩, fun _ h => (nomatch h), Nat.le_refl _, none, rfl⟩ (fun j acc σ2 H2 h => h.2.2.2.1) (by omega) (fun j acc σ2 H2 _ h => by rw [h.1]; exact SqL.of hb) (fun j y acc σ2 H2 hy h => ?_) (fun acc σ2 H2 h pp hpp => ?_)⟩
      · obtain ⟨rfl, ⟨es, pe, ee, eb⟩, az, al, o, rfl⟩ := h
        obtain ⟨dy, edy, pdy⟩ := pair_get prb hy
        obtain ⟨t2, ty2, kl, _⟩ := PD.ty (K := K) pdy
        refine ⟨_, rfl, y, "list", t2, isL dy, rfl, ty2, kl, _, rfl, ?_⟩
        cases es' : isL dy with
        | false => exact iteF ⟨rfl, ⟨es, pe, ee, eb⟩, az, Nat.le_succ_of_le al, _, rfl⟩
        | true =>
          refine iteT ⟨_, rfl, rfl, ⟨es ++ [dy], Paired.snoc pe pdy, fun e he => ?_, fun e he => ?_⟩, fun z hz => ?_, by rw [List.length_append]; exact Nat.succ_le_succ al, _, rfl⟩
          · rcases List.mem_append.mp he with he | he
            · exact ee e he
            · rw [List.mem_singleton.mp he]; exact es'
          · rcases List.mem_append.mp he with he | he
            · exact eb e he
            · rw [List.mem_singleton.mp he]; exact List.mem_of_getElem? edy
          · rcases List.mem_append.mp hz with hz | hz
            · exact az z hz
            · rw [List.mem_singleton.mp hz]; exact List.mem_of_getElem? hy
      · obtain ⟨rfl, ⟨es, pe, ee, eb⟩, az, al, o, rfl⟩ := h
        have z3 := Same.new (o := .lst acc) hpp
        have e3 : (upd H2 pp (.lst acc)) pp = some (.lst acc) := upd_same
        change tSeq _ _ _ _ (upd H2 pp (.lst acc)) at *
        generalize upd H2 pp (.lst acc) = H3 at z3 e3
        have hal : acc.length = es.length := Paired.length pe
        refine ⟨_, rfl, (by show 0 ≤ sizeLine; exact Nat.zero_le _), fun l4 hl4 => ?_⟩
        have z4 := Same.new (o := .lst []) hl4
        have e4 : (upd H3 l4 (.lst [])) l4 = some (.lst []) := upd_same
        have e34 := z4 _ _ e3
        have z24 := z3.trans z4
        generalize upd H3 l4 (.lst []) = H4' at z4 e4 e34 z24
        have pda : PD H4' (nc + 1) (.ref pp) (.list es) := .inl ⟨acc, es, e34, rfl, L2.Paired.mapP pe fun _ _ h => PD.same z24 h⟩
        have pdn : PD H4' (nc + 1) (.ref l4) (.list []) := .inl ⟨[], [], e4, rfl, .nil⟩
        refine ⟨nc + 1, _, _, by omega, pda.rd, pdn.rd, _, rfl, ?_⟩
        cases es with
        | nil => exact iteFb (by rfl) ⟨b, _, _, nb, mb, bs, rfl, t2.trans z24, rc.same z24, pb.same z24, hnb, lb, hbn⟩
        | cons e0 es =>
          refine iteTb (by rfl) ?_
          have hpos : 0 < acc.length := by rw [hal]; exact Nat.succ_pos _
          obtain ⟨j, hj, ej⟩ : ∃ j : Nat, j < acc.length ∧ num / 36 % (acc.length : Int) = (j : Int) := ⟨(num / 36 % (acc.length : Int)).toNat, by
            have h1 := Int.emod_nonneg (num / 36) (b := (acc.length : Int)) (by omega)
            have h2 := Int.emod_lt_of_pos (num / 36) (b := (acc.length : Int)) (by omega)
            omega, by
            have h1 := Int.emod_nonneg (num / 36) (b := (acc.length : Int)) (by omega)
            omega⟩
          have hje : acc[j]? = some acc[j] := List.getElem?_eq_getElem hj
          obtain ⟨c', cs', ec, ecs, pc⟩ := lists_of pe ee hje
          refine ⟨_, rfl, _, rfl, _, _, rfl, rfl, ⟨by decide, by decide⟩, _, rfl, pp, _, rfl, .inl (SqL.of e34), _, _, rfl, rfl, (by show (0 : Int) < (acc.length : Int); omega), pp, _, _, .ref c', rfl, rfl, SqL.of e34, ?_, ?_⟩
          · rw [ej]
            exact atI_nat (by rw [hje, ec])
          · have hcm := eb _ (List.mem_of_getElem? ecs)
            have hcn := mem_nod hcm
            refine ⟨c', _, _, nc, mc, cs', rfl, t2.trans z24, (rc.same z24).down (z24 _ _ hb) (az _ (List.mem_of_getElem? (by rw [hje, ec]))), pc.same z24, by omega, lbs _ hcm, by omega⟩
    obtain ⟨b, o6, o7, nb, mb, bs, rfl, t2, rc, pb, hnb, lb, hbn⟩ := h
    obtain ⟨nc, mc, zs, bs', enb, emb, ebs, hb, prb, lbs⟩ := lp_ref pb lb
    cases ebs
    have hzl : zs.length = bs.length := Paired.length prb
    have hbl := nodL_len bs
    have hbn' := nod_list bs
    refine ⟨_, rfl, _, _, rfl, rfl, ⟨by decide, by decide⟩, _, rfl, b, _, rfl, .inl (SqL.of hb), _, _, rfl, rfl, _, _, rfl, rfl, (by show (0 : Int) < (zs.length : Int) + 1; omega), ?_⟩
    obtain ⟨j, hj, ej⟩ : ∃ j : Nat, j ≤ zs.length ∧ num / 300 % ((zs.length : Int) + 1) = (j : Int) := ⟨(num / 300 % ((zs.length : Int) + 1)).toNat, by
      have h1 := Int.emod_nonneg (num / 300) (b := (zs.length : Int) + 1) (by omega)
      have h2 := Int.emod_lt_of_pos (num / 300) (b := (zs.length : Int) + 1) (by omega)
      omega, by
      have h1 := Int.emod_nonneg (num / 300) (b := (zs.length : Int) + 1) (by omega)
      omega⟩
    dsimp only
    rw [ej]
    refine ⟨_, rfl, .inl ⟨rfl, _, SqL.of hb⟩, _, rfl, _, rfl, num, rfl, fun x H6 s6 hx xl xo => ?_⟩
    have hb6 := s6 _ _ hb
    obtain ⟨i1, i2, i3⟩ := erase_ins (V.str x) zs j hj
    refine ⟨b, zs, (j : Int), .str x, rfl, rfl, hb6, by omega, by omega, by omega, ?_⟩
    rw [Int.toNat_natCast]
    have pd6 := pd.same (t2.trans s6)
    obtain ⟨d', p1, mx, hlen, hok⟩ := ins_pd (k := j) hb6 hx xl xo 61 n (.ref r) (.list ds) pd6 lp
    have hok := hok (rc.same s6)
    have eb7 : (upd H6 b (.lst (zs.take j ++ .str x :: zs.drop j))) b = some (.lst (zs.take j ++ .str x :: zs.drop j)) := upd_same
    have hoth : ∀ y o, y ≠ b → H6 y = some o → (upd H6 b (.lst (zs.take j ++ .str x :: zs.drop j))) y = some o := fun y o hy h => by rw [upd_ne hy]; exact h
    generalize upd H6 b (.lst (zs.take j ++ .str x :: zs.drop j)) = H7 at p1 eb7 hoth
    refine ⟨_, rfl, .ref r, 61, d', rfl, p1, mx, hok, by omega, fun ea H8 s8 he => ⟨ea, rfl, he, fun H9 s9 => ⟨_, rfl, iteF ?_⟩⟩⟩
    refine ⟨_, rfl, _, _, rfl, rfl, ⟨by decide, by decide⟩, _, rfl, fun x2 H10 s10 hx2 xl2 xo2 => ⟨.str x2, 0, .str x2, rfl, ⟨xo2, rfl⟩, (show x2.length ≤ 1000 by omega), hx2, ?_, fun eb H11 s11 he2 => ⟨eb, rfl, he2, fun H12 s12 => ⟨_, rfl, iteF ?_⟩⟩⟩⟩
    · rw [show_at rfl]
      show x2.cps.toList.length ≤ 40000
      rw [len_eq]
      omega
    have s7 := (((s8.trans s9).trans s10).trans s11).trans s12
    have eb12 := s7 _ _ eb7
    refine ⟨_, rfl, .inl ⟨rfl, _, SqL.of eb12⟩, _, rfl, b, _, (j : Int), j, .str x, rfl, rfl, eb12, by omega, by omega, ?_, i2, ?_⟩
    · rw [i3]
      unfold seqIndex?
      simp
      omega
    rw [i1]
    have s6n : Same H6 (upd H12 b (.lst zs)) := fun y o h => by
      by_cases hy : y = b
      · subst hy
        rw [hb6] at h
        cases h
        exact upd_same
      · rw [upd_ne hy]
        exact s7 _ _ (hoth y o hy h)
    have pdn := pd6.same s6n
    generalize upd H12 b (.lst zs) = H13 at pdn
    refine ⟨_, rfl, .ref r, _, n, rfl, pdn, lp, nd, fun H14 s14 => ⟨_, rfl, iteT ⟨_, rfl, .ref r, _, n, rfl, pdn.same s14, lp, nd, fun H15 s15 => ⟨_, rfl, rfl, ?_⟩⟩⟩⟩
    rw [decide_eq_true rfl]
    exact q H15
end
end Net

namespace Net
open PySem L2
theorem kib1 (K : PySem.W.Frag) : PySem.W.kitOne K (.type "int") (.type "bool") = some false := by
  first | rfl | kernel_rfl
/-! ### what the top has written -/
structure Fn (K : PySem.W.Frag) (mg : Str → Option Value) (x : Str) (st : Stmt) : Prop where
  ex : ∃ f fd, Fun K x x st f fd ∧ mg x = some (.ref f)
theorem fn_mk {K : PySem.W.Frag} {h : Heap} {mg : Str → Option Value} {x : Str} {st : Stmt} {f : Addr} {oc : Value} {od an : Option Addr} {osl : Array (Option Value)} {kV doc pm cdv ct : Value} (X : K.In h) (G : h.Ns mainGlobals mg) (a : PySem.W.nsIn K mainGlobals x = some (some (.ref f)))
    (l : K.lookup f = some ⟨oc, od, .func (PySem.W.fnOf x x (defArgs st) (defBody st) (defScope st) .none kV doc pm an cdv ct), osl⟩) (c : PySem.W.codeIn K cdv x = true) (k : PySem.W.keepIn K (.ref f) = true) : Fn K mg x st :=
  ⟨f, _, fun_mk l c k, PySem.W.mg_of X G a⟩
section
variable {P : Program} {w : World} {K : PySem.W.Frag} {mg : Str → Option Value} {base : Heap} {C : Addr} {k : Nat} {x qual : Str} {st : Stmt} {ps : List Str} {sp : Sp}
theorem Fn.can (F : Fn K mg x st) (ok : ∀ f fd, Fun K x x st f fd → FnOk P w K mg base CX0 k f fd ps sp)
    (h : ∀ (kV doc pm : Value) (an : Option Addr) (cdv ct : Value) (us : List Value), us.length = ps.length → bindArgs (PySem.W.fnOf x x (defArgs st) (defBody st) (defScope st) .none kV doc pm an cdv ct) ⟨us, []⟩ = pure (ps.zip us)) : Can P w K mg base k x ps sp := by
  obtain ⟨f, fd, G, m⟩ := F.ex
  exact ⟨f, fd, ok f fd G, m, G.kp, G.binds h⟩
end
theorem Fn.canX {P : Program} {w : World} {K : PySem.W.Frag} {mg : Str → Option Value} {base : Heap} {k : Nat} {x : Str} {st : Stmt} {ps : List Str} {sp : Sp} (F : Fn K mg x st) (ok : ∀ f fd, Fun K x x st f fd → FnOk P w K mg base (CXF P w) k f fd ps sp)
    (h : ∀ (kV doc pm : Value) (an : Option Addr) (cdv ct : Value) (us : List Value), us.length = ps.length → bindArgs (PySem.W.fnOf x x (defArgs st) (defBody st) (defScope st) .none kV doc pm an cdv ct) ⟨us, []⟩ = pure (ps.zip us)) : CanX P w K mg base k x ps sp := by
  obtain ⟨f, fd, G, m⟩ := F.ex
  exact ⟨f, fd, ok f fd G, m, G.kp, G.binds h⟩
structure All (K : PySem.W.Frag) (mg : Str → Option Value) : Prop where
  T : Txt K mg
  errs : ∃ (ct cc : Addr) (cs : Nat → Addr), Ecs K mg ct ∧ Ecs2 K mg ct cc cs
  made : Fn K mg "is_made_of" s_is_made_of
  name : Fn K mg "is_name" s_is_name
  whole : Fn K mg "is_whole" s_is_whole
  rnum : Fn K mg "read_number" s_read_number
  shw : Fn K mg "show_paper" s_show_paper
  rpaper : Fn K mg "read_paper" s_read_paper
  splt : Fn K mg "split_text" s_split_text
  rwords : Fn K mg "read_words" s_read_words
  clos : Fn K mg "close_last" s_close_last
  rword : Fn K mg "read_word" s_read_word
  cell : Fn K mg "_law_cell_at" s_l_cell_at
  mixed : Fn K mg "_law_mixed" s_l_mixed
  nm : Fn K mg "_law_name" s_l_name
  pap : Fn K mg "_law_paper" s_l_paper
  ptx : Fn K mg "_law_paper_text" s_l_paper_text
  sam : Fn K mg "_law_same" s_l_same
  is_ : Fn K mg "_law_is" s_l_is
  nnm : Fn K mg "_law_no_name" s_l_no_name
  cau : Fn K mg "_law_caught" s_l_caught
  rnd : Fn K mg "_law_round" s_l_round
theorem law_ok {P : Program} {w : World} {K : PySem.W.Frag} {mg : Str → Option Value} {base : Heap} {f : Addr} {fd : FuncData} (A : All K mg) (F : Fun K "law" "law" s_law f fd) : FnOk P w K mg base CX0 66 f fd ["_law_script"] (spLaw K) := by
  have T := A.T
  obtain ⟨ct, cc, cs, R, R2⟩ := A.errs
  have made : Can P w K mg base 1 _ _ _ := A.made.can (fun f fd F => ok_made F T) fun _ _ _ _ _ _ us hl => match us, hl with | [_, _], _ => rfl
  have name : Can P w K mg base 2 _ _ _ := A.name.can (fun f fd F => ok_name F T made) fun _ _ _ _ _ _ us hl => match us, hl with | [_], _ => rfl
  have whole : Can P w K mg base 1 _ _ _ := A.whole.can (fun f fd F => ok_wholeD F T) fun _ _ _ _ _ _ us hl => match us, hl with | [_], _ => rfl
  have rnum : CanX P w K mg base 2 _ _ _ := A.rnum.canX (fun f fd F => ok_readNum F T R made) fun _ _ _ _ _ _ us hl => match us, hl with | [_, _], _ => rfl
  have rword : CanX P w K mg base 3 _ _ _ := A.rword.canX (fun f fd F => ok_readWord F T name rnum) fun _ _ _ _ _ _ us hl => match us, hl with | [_], _ => rfl
  have clos : CanX P w K mg base 1 _ _ _ := A.clos.canX (fun f fd F => ok_close F T R) fun _ _ _ _ _ _ us hl => match us, hl with | [_], _ => rfl
  have rwords : CanX P w K mg base 4 _ _ _ := A.rwords.canX (fun f fd F => ok_rWords F T R clos rword) fun _ _ _ _ _ _ us hl => match us, hl with | [_], _ => rfl
  have splt : Can P w K mg base 1 _ _ _ := A.splt.can (fun f fd F => ok_split F T) fun _ _ _ _ _ _ us hl => match us, hl with | [_], _ => rfl
  have shw : Can P w K mg base 63 _ _ _ := can_showP A.shw.ex T whole name 60
  have rpaper : CanX P w K mg base 64 _ _ _ := A.rpaper.canX (fun f fd F => ok_rPaper F T R rwords splt shw) fun _ _ _ _ _ _ us hl => match us, hl with | [_], _ => rfl
  have cell : Can P w K mg base 1 _ _ _ := A.cell.can (fun f fd F => ok_cell F T) fun _ _ _ _ _ _ us hl => match us, hl with | [_, _], _ => rfl
  have mixed : Can P w K mg base 1 _ _ _ := A.mixed.can (fun f fd F => ok_mixed F T) fun _ _ _ _ _ _ us hl => match us, hl with | [_, _], _ => rfl
  have nm : Can P w K mg base 2 _ _ _ := A.nm.can (fun f fd F => ok_nm F mixed) fun _ _ _ _ _ _ us hl => match us, hl with | [_], _ => rfl
  have pap : Can P w K mg base 3 _ _ _ := A.pap.can (fun f fd F => ok_pap F T mixed nm) fun _ _ _ _ _ _ us hl => match us, hl with | [_], _ => rfl
  have ptx : Can P w K mg base 1 _ _ _ := A.ptx.can (fun f fd F => ok_ptx F T) fun _ _ _ _ _ _ us hl => match us, hl with | [_], _ => rfl
  have sam : Can P w K mg base 1 _ _ _ := A.sam.can (fun f fd F => ok_same F T) fun _ _ _ _ _ _ us hl => match us, hl with | [_, _], _ => rfl
  have is_ : Can P w K mg base 1 _ _ _ := A.is_.can (fun f fd F => ok_is F T R R2) fun _ _ _ _ _ _ us hl => match us, hl with | [_, _], _ => rfl
  have nnm : Can P w K mg base 1 _ _ _ := A.nnm.can (fun f fd F => ok_nn11 F) fun _ _ _ _ _ _ us hl => match us, hl with | [_], _ => rfl
  have shx : CanX P w K mg base 64 _ _ _ := can_showX A.shw.ex T R whole name 61
  have cau : Can P w K mg base 65 _ _ _ := A.cau.can (fun f fd F => ok_cau F R2 shx) fun _ _ _ _ _ _ us hl => match us, hl with | [_], _ => rfl
  have rnd : Can P w K mg base 65 _ _ _ := A.rnd.can (fun f fd F => ok_rnd F T shw ptx rpaper sam) fun _ _ _ _ _ _ us hl => match us, hl with | [_], _ => rfl
  exact ok_law11 F T pap ptx rnd mixed cell nnm cau is_
end Net

namespace Net
open PySem L2
theorem all_mk {l : PySem.W.OpenLaw} {w : World} {K : PySem.W.Frag} {h : Heap} {mg : Str → Option Value} {fa : Addr} {f0 : Addr} {od0 an0 : Option Addr} {sl0 : Array (Option Value)} {oc0 kV0 dc0 pm0 cd0 ct0 : Value} {f1 : Addr} {od1 an1 : Option Addr} {sl1 : Array (Option Value)} {oc1 kV1 dc1 pm1 cd1 ct1 : Value} {f2 : Addr} {od2 an2 : Option Addr} {sl2 : Array (Option Value)} {oc2 kV2 dc2 pm2 cd2 ct2 : Value} {f3 : Addr} {od3 an3 : Option Addr} {sl3 : Array (Option Value)} {oc3 kV3 dc3 pm3 cd3 ct3 : Value} {f4 : Addr} {od4 an4 : Option Addr} {sl4 : Array (Option Value)} {oc4 kV4 dc4 pm4 cd4 ct4 : Value} {f5 : Addr} {od5 an5 : Option Addr} {sl5 : Array (Option Value)} {oc5 kV5 dc5 pm5 cd5 ct5 : Value} {f6 : Addr} {od6 an6 : Option Addr} {sl6 : Array (Option Value)} {oc6 kV6 dc6 pm6 cd6 ct6 : Value} {f7 : Addr} {od7 an7 : Option Addr} {sl7 : Array (Option Value)} {oc7 kV7 dc7 pm7 cd7 ct7 : Value} {f8 : Addr} {od8 an8 : Option Addr} {sl8 : Array (Option Value)} {oc8 kV8 dc8 pm8 cd8 ct8 : Value} {f9 : Addr} {od9 an9 : Option Addr} {sl9 : Array (Option Value)} {oc9 kV9 dc9 pm9 cd9 ct9 : Value} {f10 : Addr} {od10 an10 : Option Addr} {sl10 : Array (Option Value)} {oc10 kV10 dc10 pm10 cd10 ct10 : Value} {f11 : Addr} {od11 an11 : Option Addr} {sl11 : Array (Option Value)} {oc11 kV11 dc11 pm11 cd11 ct11 : Value} {f12 : Addr} {od12 an12 : Option Addr} {sl12 : Array (Option Value)} {oc12 kV12 dc12 pm12 cd12 ct12 : Value} {f13 : Addr} {od13 an13 : Option Addr} {sl13 : Array (Option Value)} {oc13 kV13 dc13 pm13 cd13 ct13 : Value} {f14 : Addr} {od14 an14 : Option Addr} {sl14 : Array (Option Value)} {oc14 kV14 dc14 pm14 cd14 ct14 : Value} {f15 : Addr} {od15 an15 : Option Addr} {sl15 : Array (Option Value)} {oc15 kV15 dc15 pm15 cd15 ct15 : Value} {f16 : Addr} {od16 an16 : Option Addr} {sl16 : Array (Option Value)} {oc16 kV16 dc16 pm16 cd16 ct16 : Value} {f17 : Addr} {od17 an17 : Option Addr} {sl17 : Array (Option Value)} {oc17 kV17 dc17 pm17 cd17 ct17 : Value} {f18 : Addr} {od18 an18 : Option Addr} {sl18 : Array (Option Value)} {oc18 kV18 dc18 pm18 cd18 ct18 : Value} {f19 : Addr} {od19 an19 : Option Addr} {sl19 : Array (Option Value)} {oc19 kV19 dc19 pm19 cd19 ct19 : Value} {fL : Addr} {odL anL : Option Addr} {slL : Array (Option Value)} {ocL kVL dcL pmL cdL ctL : Value} {cc : Addr} {e0 : Addr} {d0 : Addr} {d1 : Addr} {d2 : Addr} {d3 : Addr} {d4 : Addr} {d5 : Addr} {d6 : Addr} {d7 : Addr} {d8 : Addr} {vS : Value} {vN : Value} {vP : Value} {vM : Value} {vD : Value}
    (X : K.In h) (G : h.Ns mainGlobals mg) (hfa : mg "law" = some (.ref fa))
    (a0 : PySem.W.nsIn K mainGlobals "is_made_of" = some (some (.ref f0)))
    (l0 : K.lookup f0 = some ⟨oc0, od0, .func (PySem.W.fnOf "is_made_of" "is_made_of" (defArgs s_is_made_of) (defBody s_is_made_of) (defScope s_is_made_of) .none kV0 dc0 pm0 an0 cd0 ct0), sl0⟩) (c0 : PySem.W.codeIn K cd0 "is_made_of" = true) (k0 : PySem.W.keepIn K (.ref f0) = true)
    (a1 : PySem.W.nsIn K mainGlobals "is_name" = some (some (.ref f1)))
    (l1 : K.lookup f1 = some ⟨oc1, od1, .func (PySem.W.fnOf "is_name" "is_name" (defArgs s_is_name) (defBody s_is_name) (defScope s_is_name) .none kV1 dc1 pm1 an1 cd1 ct1), sl1⟩) (c1 : PySem.W.codeIn K cd1 "is_name" = true) (k1 : PySem.W.keepIn K (.ref f1) = true)
    (a2 : PySem.W.nsIn K mainGlobals "is_whole" = some (some (.ref f2)))
    (l2 : K.lookup f2 = some ⟨oc2, od2, .func (PySem.W.fnOf "is_whole" "is_whole" (defArgs s_is_whole) (defBody s_is_whole) (defScope s_is_whole) .none kV2 dc2 pm2 an2 cd2 ct2), sl2⟩) (c2 : PySem.W.codeIn K cd2 "is_whole" = true) (k2 : PySem.W.keepIn K (.ref f2) = true)
    (a3 : PySem.W.nsIn K mainGlobals "read_number" = some (some (.ref f3)))
    (l3 : K.lookup f3 = some ⟨oc3, od3, .func (PySem.W.fnOf "read_number" "read_number" (defArgs s_read_number) (defBody s_read_number) (defScope s_read_number) .none kV3 dc3 pm3 an3 cd3 ct3), sl3⟩) (c3 : PySem.W.codeIn K cd3 "read_number" = true) (k3 : PySem.W.keepIn K (.ref f3) = true)
    (a4 : PySem.W.nsIn K mainGlobals "show_paper" = some (some (.ref f4)))
    (l4 : K.lookup f4 = some ⟨oc4, od4, .func (PySem.W.fnOf "show_paper" "show_paper" (defArgs s_show_paper) (defBody s_show_paper) (defScope s_show_paper) .none kV4 dc4 pm4 an4 cd4 ct4), sl4⟩) (c4 : PySem.W.codeIn K cd4 "show_paper" = true) (k4 : PySem.W.keepIn K (.ref f4) = true)
    (a5 : PySem.W.nsIn K mainGlobals "read_paper" = some (some (.ref f5)))
    (l5 : K.lookup f5 = some ⟨oc5, od5, .func (PySem.W.fnOf "read_paper" "read_paper" (defArgs s_read_paper) (defBody s_read_paper) (defScope s_read_paper) .none kV5 dc5 pm5 an5 cd5 ct5), sl5⟩) (c5 : PySem.W.codeIn K cd5 "read_paper" = true) (k5 : PySem.W.keepIn K (.ref f5) = true)
    (a6 : PySem.W.nsIn K mainGlobals "split_text" = some (some (.ref f6)))
    (l6 : K.lookup f6 = some ⟨oc6, od6, .func (PySem.W.fnOf "split_text" "split_text" (defArgs s_split_text) (defBody s_split_text) (defScope s_split_text) .none kV6 dc6 pm6 an6 cd6 ct6), sl6⟩) (c6 : PySem.W.codeIn K cd6 "split_text" = true) (k6 : PySem.W.keepIn K (.ref f6) = true)
    (a7 : PySem.W.nsIn K mainGlobals "read_words" = some (some (.ref f7)))
    (l7 : K.lookup f7 = some ⟨oc7, od7, .func (PySem.W.fnOf "read_words" "read_words" (defArgs s_read_words) (defBody s_read_words) (defScope s_read_words) .none kV7 dc7 pm7 an7 cd7 ct7), sl7⟩) (c7 : PySem.W.codeIn K cd7 "read_words" = true) (k7 : PySem.W.keepIn K (.ref f7) = true)
    (a8 : PySem.W.nsIn K mainGlobals "close_last" = some (some (.ref f8)))
    (l8 : K.lookup f8 = some ⟨oc8, od8, .func (PySem.W.fnOf "close_last" "close_last" (defArgs s_close_last) (defBody s_close_last) (defScope s_close_last) .none kV8 dc8 pm8 an8 cd8 ct8), sl8⟩) (c8 : PySem.W.codeIn K cd8 "close_last" = true) (k8 : PySem.W.keepIn K (.ref f8) = true)
    (a9 : PySem.W.nsIn K mainGlobals "read_word" = some (some (.ref f9)))
    (l9 : K.lookup f9 = some ⟨oc9, od9, .func (PySem.W.fnOf "read_word" "read_word" (defArgs s_read_word) (defBody s_read_word) (defScope s_read_word) .none kV9 dc9 pm9 an9 cd9 ct9), sl9⟩) (c9 : PySem.W.codeIn K cd9 "read_word" = true) (k9 : PySem.W.keepIn K (.ref f9) = true)
    (a10 : PySem.W.nsIn K mainGlobals "_law_cell_at" = some (some (.ref f10)))
    (l10 : K.lookup f10 = some ⟨oc10, od10, .func (PySem.W.fnOf "_law_cell_at" "_law_cell_at" (defArgs s_l_cell_at) (defBody s_l_cell_at) (defScope s_l_cell_at) .none kV10 dc10 pm10 an10 cd10 ct10), sl10⟩) (c10 : PySem.W.codeIn K cd10 "_law_cell_at" = true) (k10 : PySem.W.keepIn K (.ref f10) = true)
    (a11 : PySem.W.nsIn K mainGlobals "_law_mixed" = some (some (.ref f11)))
    (l11 : K.lookup f11 = some ⟨oc11, od11, .func (PySem.W.fnOf "_law_mixed" "_law_mixed" (defArgs s_l_mixed) (defBody s_l_mixed) (defScope s_l_mixed) .none kV11 dc11 pm11 an11 cd11 ct11), sl11⟩) (c11 : PySem.W.codeIn K cd11 "_law_mixed" = true) (k11 : PySem.W.keepIn K (.ref f11) = true)
    (a12 : PySem.W.nsIn K mainGlobals "_law_name" = some (some (.ref f12)))
    (l12 : K.lookup f12 = some ⟨oc12, od12, .func (PySem.W.fnOf "_law_name" "_law_name" (defArgs s_l_name) (defBody s_l_name) (defScope s_l_name) .none kV12 dc12 pm12 an12 cd12 ct12), sl12⟩) (c12 : PySem.W.codeIn K cd12 "_law_name" = true) (k12 : PySem.W.keepIn K (.ref f12) = true)
    (a13 : PySem.W.nsIn K mainGlobals "_law_paper" = some (some (.ref f13)))
    (l13 : K.lookup f13 = some ⟨oc13, od13, .func (PySem.W.fnOf "_law_paper" "_law_paper" (defArgs s_l_paper) (defBody s_l_paper) (defScope s_l_paper) .none kV13 dc13 pm13 an13 cd13 ct13), sl13⟩) (c13 : PySem.W.codeIn K cd13 "_law_paper" = true) (k13 : PySem.W.keepIn K (.ref f13) = true)
    (a14 : PySem.W.nsIn K mainGlobals "_law_paper_text" = some (some (.ref f14)))
    (l14 : K.lookup f14 = some ⟨oc14, od14, .func (PySem.W.fnOf "_law_paper_text" "_law_paper_text" (defArgs s_l_paper_text) (defBody s_l_paper_text) (defScope s_l_paper_text) .none kV14 dc14 pm14 an14 cd14 ct14), sl14⟩) (c14 : PySem.W.codeIn K cd14 "_law_paper_text" = true) (k14 : PySem.W.keepIn K (.ref f14) = true)
    (a15 : PySem.W.nsIn K mainGlobals "_law_same" = some (some (.ref f15)))
    (l15 : K.lookup f15 = some ⟨oc15, od15, .func (PySem.W.fnOf "_law_same" "_law_same" (defArgs s_l_same) (defBody s_l_same) (defScope s_l_same) .none kV15 dc15 pm15 an15 cd15 ct15), sl15⟩) (c15 : PySem.W.codeIn K cd15 "_law_same" = true) (k15 : PySem.W.keepIn K (.ref f15) = true)
    (a16 : PySem.W.nsIn K mainGlobals "_law_is" = some (some (.ref f16)))
    (l16 : K.lookup f16 = some ⟨oc16, od16, .func (PySem.W.fnOf "_law_is" "_law_is" (defArgs s_l_is) (defBody s_l_is) (defScope s_l_is) .none kV16 dc16 pm16 an16 cd16 ct16), sl16⟩) (c16 : PySem.W.codeIn K cd16 "_law_is" = true) (k16 : PySem.W.keepIn K (.ref f16) = true)
    (a17 : PySem.W.nsIn K mainGlobals "_law_no_name" = some (some (.ref f17)))
    (l17 : K.lookup f17 = some ⟨oc17, od17, .func (PySem.W.fnOf "_law_no_name" "_law_no_name" (defArgs s_l_no_name) (defBody s_l_no_name) (defScope s_l_no_name) .none kV17 dc17 pm17 an17 cd17 ct17), sl17⟩) (c17 : PySem.W.codeIn K cd17 "_law_no_name" = true) (k17 : PySem.W.keepIn K (.ref f17) = true)
    (a18 : PySem.W.nsIn K mainGlobals "_law_caught" = some (some (.ref f18)))
    (l18 : K.lookup f18 = some ⟨oc18, od18, .func (PySem.W.fnOf "_law_caught" "_law_caught" (defArgs s_l_caught) (defBody s_l_caught) (defScope s_l_caught) .none kV18 dc18 pm18 an18 cd18 ct18), sl18⟩) (c18 : PySem.W.codeIn K cd18 "_law_caught" = true) (k18 : PySem.W.keepIn K (.ref f18) = true)
    (a19 : PySem.W.nsIn K mainGlobals "_law_round" = some (some (.ref f19)))
    (l19 : K.lookup f19 = some ⟨oc19, od19, .func (PySem.W.fnOf "_law_round" "_law_round" (defArgs s_l_round) (defBody s_l_round) (defScope s_l_round) .none kV19 dc19 pm19 an19 cd19 ct19), sl19⟩) (c19 : PySem.W.codeIn K cd19 "_law_round" = true) (k19 : PySem.W.keepIn K (.ref f19) = true)
    (aL : PySem.W.nsIn K mainGlobals "law" = some (some (.ref fL))) (lL : K.lookup fL = some ⟨ocL, odL, .func (PySem.W.fnOf "law" "law" (defArgs s_law) (defBody s_law) (defScope s_law) .none kVL dcL pmL anL cdL ctL), slL⟩) (cL : PySem.W.codeIn K cdL "law" = true) (kL : PySem.W.keepIn K (.ref fL) = true)
    (z_all : PySem.W.nsIn K mainGlobals "all" = some none)
    (z_isinstance : PySem.W.nsIn K mainGlobals "isinstance" = some none)
    (z_str : PySem.W.nsIn K mainGlobals "str" = some none)
    (z_int : PySem.W.nsIn K mainGlobals "int" = some none)
    (z_bool : PySem.W.nsIn K mainGlobals "bool" = some none)
    (z_list : PySem.W.nsIn K mainGlobals "list" = some none)
    (z_tuple : PySem.W.nsIn K mainGlobals "tuple" = some none)
    (z_len : PySem.W.nsIn K mainGlobals "len" = some none)
    (z_range : PySem.W.nsIn K mainGlobals "range" = some none)
    (z_abs : PySem.W.nsIn K mainGlobals "abs" = some none)
    (z_enumerate : PySem.W.nsIn K mainGlobals "enumerate" = some none)
    (z_min : PySem.W.nsIn K mainGlobals "min" = some none)
    (m0 : PySem.W.nsIn K mainGlobals "NoText" = some (some (.ref e0)))
    (md0 : PySem.W.nsIn K mainGlobals "NoName" = some (some (.ref d0)))
    (md1 : PySem.W.nsIn K mainGlobals "Twice" = some (some (.ref d1)))
    (md2 : PySem.W.nsIn K mainGlobals "SamePlace" = some (some (.ref d2)))
    (md3 : PySem.W.nsIn K mainGlobals "NoWidth" = some (some (.ref d3)))
    (md4 : PySem.W.nsIn K mainGlobals "NoTie" = some (some (.ref d4)))
    (md5 : PySem.W.nsIn K mainGlobals "TooMany" = some (some (.ref d5)))
    (md6 : PySem.W.nsIn K mainGlobals "NoPlace" = some (some (.ref d6)))
    (md7 : PySem.W.nsIn K mainGlobals "NoClaim" = some (some (.ref d7)))
    (md8 : PySem.W.nsIn K mainGlobals "NoLine" = some (some (.ref d8)))
    (mcc : PySem.W.nsIn K mainGlobals "CourtError" = some (some (.ref cc)))
    (mve : PySem.W.nsIn K mainGlobals "ValueError" = some none)
    (hn0 : PySem.W.specialIn K (.builtin "object.__class__") "__get__" = some (some (.builtin "getset_descriptor.__get__")))
    (tk0 : PySem.W.takesIn K (.builtin "object.__class__") = some true)
    (x0 : PySem.W.excIn K e0 [.type "ValueError", .type "Exception", .type "BaseException", .type "object"] "ValueError.__new__" = true)
    (xm0 : PySem.W.exmOne K (.ref e0) (.ref cc) = some true)
    (kv0 : PySem.W.kitOne K (.ref e0) (.type "ValueError") = some true)
    (k0_0 : PySem.W.kitOne K (.ref e0) (.ref e0) = some true)
    (kd0_0 : PySem.W.kitOne K (.ref e0) (.ref d0) = some false)
    (kd0_1 : PySem.W.kitOne K (.ref e0) (.ref d1) = some false)
    (kd0_2 : PySem.W.kitOne K (.ref e0) (.ref d2) = some false)
    (kd0_3 : PySem.W.kitOne K (.ref e0) (.ref d3) = some false)
    (kd0_4 : PySem.W.kitOne K (.ref e0) (.ref d4) = some false)
    (kd0_5 : PySem.W.kitOne K (.ref e0) (.ref d5) = some false)
    (kd0_6 : PySem.W.kitOne K (.ref e0) (.ref d6) = some false)
    (kd0_7 : PySem.W.kitOne K (.ref e0) (.ref d7) = some false)
    (kd0_8 : PySem.W.kitOne K (.ref e0) (.ref d8) = some false)
    (ga0 : PySem.W.findIn K (.ref e0) "__getattribute__" = some (some (.builtin "BaseException.__getattribute__")))
    (gt0 : PySem.W.findIn K (.ref e0) "__getattr__" = some none)
    (cl0 : PySem.W.findIn K (.ref e0) "__class__" = some (some (.builtin "object.__class__")))
    (mo0 : PySem.W.mroIn K e0 (.type "object") = some true)
    (mb0 : PySem.W.mroIn K e0 (.type "BaseException") = some true)
    (gS : PySem.W.nsIn K mainGlobals "SMALL_LETTERS" = some (some vS)) (rS : RelV (.str abc) vS)
    (gN : PySem.W.nsIn K mainGlobals "LONGEST_NAME" = some (some vN)) (rN : RelV (.int 12) vN)
    (gP : PySem.W.nsIn K mainGlobals "FIGURES" = some (some vP)) (rP : RelV (.str "0123456789") vP)
    (gM : PySem.W.nsIn K mainGlobals "MOST_FIGURES" = some (some vM)) (rM : RelV (.int 120) vM)
    (gD : PySem.W.nsIn K mainGlobals "MOST_DEEP" = some (some vD)) (rD : RelV (.int 60) vD) :
    ∃ fd : FuncData, (∀ (s : Shared) (v : Value), BindsTo s fd ⟨[v], []⟩ [("_law_script", v)]) ∧ ∀ base : Heap, K.In base → base.Ns mainGlobals mg → FnOk l.prog w K mg base CX0 66 fa fd ["_law_script"] (spLaw K) := by
  have e := hfa.symm.trans (PySem.W.mg_of X G aL)
  cases e
  have T : Txt K mg := { all := PySem.W.mg_none_of X G z_all, isi := PySem.W.mg_none_of X G z_isinstance, str := PySem.W.mg_none_of X G z_str, int := PySem.W.mg_none_of X G z_int, bool := PySem.W.mg_none_of X G z_bool, list := PySem.W.mg_none_of X G z_list, tuple := PySem.W.mg_none_of X G z_tuple, len := PySem.W.mg_none_of X G z_len, range := PySem.W.mg_none_of X G z_range, abs := PySem.W.mg_none_of X G z_abs, enum := PySem.W.mg_none_of X G z_enumerate, min := PySem.W.mg_none_of X G z_min, small := ⟨vS, PySem.W.mg_of X G gS, rS⟩, longest := ⟨vN, PySem.W.mg_of X G gN, rN⟩, figs := ⟨vP, PySem.W.mg_of X G gP, rP⟩, mostF := ⟨vM, PySem.W.mg_of X G gM, rM⟩, deep := ⟨vD, PySem.W.mg_of X G gD, rD⟩, kIB := kib1 K }
  have A : All K mg := { T := T, errs := ⟨e0, cc, (fun i => match i with | 0 => d0 | 1 => d1 | 2 => d2 | 3 => d3 | 4 => d4 | 5 => d5 | 7 => d6 | 8 => d7 | _ => d8), ⟨PySem.W.mg_of X G m0, x0⟩, ⟨PySem.W.mg_of X G md0, PySem.W.mg_of X G md1, PySem.W.mg_of X G md2, PySem.W.mg_of X G md3, PySem.W.mg_of X G md4, PySem.W.mg_of X G md5, PySem.W.mg_of X G md6, PySem.W.mg_of X G md7, PySem.W.mg_of X G md8, PySem.W.mg_of X G mcc, PySem.W.mg_none_of X G mve, ⟨ga0, gt0, cl0, hn0, tk0, mo0, mb0⟩, kd0_0, kd0_1, kd0_2, kd0_3, kd0_4, kd0_5, k0_0, kd0_6, kd0_7, kd0_8, kv0, xm0⟩⟩, made := fn_mk X G a0 l0 c0 k0, name := fn_mk X G a1 l1 c1 k1, whole := fn_mk X G a2 l2 c2 k2, rnum := fn_mk X G a3 l3 c3 k3, shw := fn_mk X G a4 l4 c4 k4, rpaper := fn_mk X G a5 l5 c5 k5, splt := fn_mk X G a6 l6 c6 k6, rwords := fn_mk X G a7 l7 c7 k7, clos := fn_mk X G a8 l8 c8 k8, rword := fn_mk X G a9 l9 c9 k9, cell := fn_mk X G a10 l10 c10 k10, mixed := fn_mk X G a11 l11 c11 k11, nm := fn_mk X G a12 l12 c12 k12, pap := fn_mk X G a13 l13 c13 k13, ptx := fn_mk X G a14 l14 c14 k14, sam := fn_mk X G a15 l15 c15 k15, is_ := fn_mk X G a16 l16 c16 k16, nnm := fn_mk X G a17 l17 c17 k17, cau := fn_mk X G a18 l18 c18 k18, rnd := fn_mk X G a19 l19 c19 k19 }
  exact ⟨PySem.W.fnOf "law" "law" (defArgs s_law) (defBody s_law) (defScope s_law) .none kVL dcL pmL anL cdL ctL, fun s v => .of_eq rfl, fun base _ _ => law_ok A (fun_mk lL cL kL)⟩
theorem walk {l : PySem.W.OpenLaw} {q : Program} {loose : List Str} {XP : (Str → Option Value) → Heap → Prop} {YP : World → Heap → Prop} {d : DefRec} {K : Params → PySem.W.Frag} (hn : l.most = some 63) (hdf : d.params.defaults = [])
    (hY : ∀ (w : World) (h : Heap), YP w h → (K w.params).In h)
    (F : ∀ (w : World) (mg : Str → Option Value) (fa : Addr) (h : Heap), (K w.params).In h → h.Ns mainGlobals mg → mg d.name = some (.ref fa) →
      ∃ fd : FuncData, (∀ (s : Shared) (u : Value), BindsTo s fd ⟨[u], []⟩ [("_law_script", u)]) ∧ ∀ base : Heap, (K w.params).In base → base.Ns mainGlobals mg → FnOk l.prog w (K w.params) mg base CX0 66 fa fd ["_law_script"] (spLaw (K w.params))) :
    PySem.W.WalkO q loose XP YP l.row.toRowW d [] (fun f vs => PySem.call f vs) :=
  L2.walk_of (n := 63) (k := 66) (x := "_law_script") (CX := fun _ => CX0) (sp := fun w => spLaw (K w.params)) hn (by decide) hdf ⟨rfl, by decide, by decide, rfl⟩ hY F (fun _ _ a ns hl _ hS => ⟨a, ns, rfl, hS, hl, fun _ => rfl⟩) fun _ _ _ _ _ z => z
end Net
def PySem.W.Fast.tw17660484545343088720 : Nat := 0
def PySem.W.Fast.tw1644993853768238606 : Nat := 0
def PySem.W.Fast.tw18077384238234917141 : Nat := 0
def PySem.W.Fast.tw8304007964733848912 : Nat := 0
def PySem.W.Fast.tw13067638987152093506 : Nat := 0
def PySem.W.Fast.tw16639353130149587011 : Nat := 0
def PySem.W.Fast.tw9326396359287403761 : Nat := 0
def PySem.W.Fast.tw11749236878300897909 : Nat := 0
def PySem.W.Fast.tw17939286554783983189 : Nat := 0
def PySem.W.Fast.tw926756521302208760 : Nat := 0
def PySem.W.Fast.tw17364784544657343520 : Nat := 0
def PySem.W.Fast.tw11422609635940533301 : Nat := 0
def PySem.W.Fast.tw3220341770075054623 : Nat := 0
def PySem.W.Fast.tw3804181674935321358 : Nat := 0
def PySem.W.Fast.tw15700557346554492288 : Nat := 0
def PySem.W.Fast.tw14988968553546761531 : Nat := 0
def PySem.W.Fast.tw529110136206645249 : Nat := 0
def PySem.W.Fast.tw6447250899277279026 : Nat := 0
def PySem.W.Fast.tw4318796125181954152 : Nat := 0
def PySem.W.Fast.tw9102826426042743771 : Nat := 0
def PySem.W.Fast.tw2544099505306027443 : Nat := 0
def PySem.W.Fast.tw10679862587736487634 : Nat := 0
def PySem.W.Fast.tw11740698511300809505 : Nat := 0
def PySem.W.Fast.tw2364700868233528069 : Nat := 0
def PySem.W.Fast.tw14989700228324130894 : Nat := 0
def PySem.W.Fast.tw17728738467032831450 : Nat := 0
def PySem.W.Fast.tw11984844934166405655 : Nat := 0
def PySem.W.Fast.tw17461372307548159328 : Nat := 0
def PySem.W.Fast.tw13104541771464996306 : Nat := 0
def PySem.W.Fast.tw12070478615582744152 : Nat := 0
def PySem.W.Fast.tw3344153038844611529 : Nat := 0
def PySem.W.Fast.tw6003403596995773998 : Nat := 0
def PySem.W.Fast.tw15848589931661369240 : Nat := 0
def PySem.W.Fast.tw11358485855744718090 : Nat := 0
def PySem.W.Fast.tw1474117785482728835 : Nat := 0
def PySem.W.Fast.tw9132924091625091032 : Nat := 0
def PySem.W.Fast.tw6542893471899939072 : Nat := 0
def PySem.W.Fast.tw2501444228442898873 : Nat := 0
def PySem.W.Fast.tw2369234998538706397 : Nat := 0
def PySem.W.Fast.tw7913115512451499251 : Nat := 0
def PySem.W.Fast.tw5294996874904363274 : Nat := 0
def PySem.W.Fast.tw11165194060045520034 : Nat := 0
def PySem.W.Fast.tw8061148927338069294 : Nat := 0
def PySem.W.Fast.tw3901383119282830359 : Nat := 0
def PySem.W.Fast.tw4643846693507029849 : Nat := 0
def PySem.W.Fast.tw5018569309423691605 : Nat := 0
def PySem.W.Fast.tw15003228789765472859 : Nat := 0
def PySem.W.Fast.tw11368618823368255622 : Nat := 0
def PySem.W.Fast.tw1090358278264190591 : Nat := 0
def PySem.W.Fast.tw16276580351340451040 : Nat := 0
def PySem.W.Fast.tw10262389521714915671 : Nat := 0
def PySem.W.Fast.tw1305522795685442458 : Nat := 0
def PySem.W.Fast.tw14312924201507839074 : Nat := 0
def PySem.W.Fast.tw10073274210425959251 : Nat := 0
def PySem.W.Fast.tw1940917871784314645 : Nat := 0
def PySem.W.Fast.tw6189783166874498903 : Nat := 0
def PySem.W.Fast.tw9210846336587687574 : Nat := 0
def PySem.W.Fast.tw17536937725001543093 : Nat := 0
def PySem.W.Fast.tw12452224066360657126 : Nat := 0
def PySem.W.Fast.tw6145969558074776182 : Nat := 0
def PySem.W.Fast.tw4340403552162635610 : Nat := 0
def PySem.W.Fast.tw6213305628077449287 : Nat := 0
def PySem.W.Fast.tw12921485684046896642 : Nat := 0
def PySem.W.Fast.tw12388479010904241725 : Nat := 0
def PySem.W.Fast.tw15721760829289236724 : Nat := 0
def PySem.W.Fast.tw1500523272532324506 : Nat := 0
def PySem.W.Fast.tw5800993693468945363 : Nat := 0
def PySem.W.Fast.tw827722113617809420 : Nat := 0
def PySem.W.Fast.tw9692465398637075250 : Nat := 0
def PySem.W.Fast.tw8895502771295035776 : Nat := 0
def PySem.W.Fast.tw14711231295928574788 : Nat := 0
def PySem.W.Fast.tw2893402153092183053 : Nat := 0
def PySem.W.Fast.tw5602151897510926333 : Nat := 0
def PySem.W.Fast.tw8525057636833837321 : Nat := 0
def PySem.W.Fast.tw4327266784013668270 : Nat := 0
def PySem.W.Fast.tw1860636128035615269 : Nat := 0
def PySem.W.Fast.tw11765125240275310677 : Nat := 0
def PySem.W.Fast.tw10019572648841783520 : Nat := 0
def PySem.W.Fast.tw2622225552818749930 : Nat := 0
def PySem.W.Fast.tw6557259426275434567 : Nat := 0
def PySem.W.Fast.tw12384152079384439621 : Nat := 0
def PySem.W.Fast.tw15211127152880579262 : Nat := 0
def PySem.W.Fast.tw11571619094317640990 : Nat := 0
def PySem.W.Fast.tw434878671769798632 : Nat := 0
def PySem.W.Fast.tw11261276571179322649 : Nat := 0
def PySem.W.Fast.tw16559112857268665561 : Nat := 0
def PySem.W.Fast.tw12471152137996833129 : Nat := 0
def PySem.W.Fast.tw2575140848859116223 : Nat := 0
def PySem.W.Fast.tw9439614490365310796 : Nat := 0
def PySem.W.Fast.tw4619925053697424870 : Nat := 0
def PySem.W.Fast.tw11015389320293548602 : Nat := 0
def PySem.W.Fast.tw17505986243538293306 : Nat := 0
def PySem.W.Fast.tw2851038628289428736 : Nat := 0
def PySem.W.Fast.tw8624574544555853679 : Nat := 0
def PySem.W.Fast.tw14337738250303921594 : Nat := 0
def PySem.W.Fast.tw20797901710010889 : Nat := 0
def PySem.W.Fast.tw8063677476342523081 : Nat := 0
def PySem.W.Fast.tw12687414302606679640 : Nat := 0
def PySem.W.Fast.tw9640385814202316721 : Nat := 0
def PySem.W.Fast.tw10504169730967649041 : Nat := 0
def PySem.W.Fast.tw16767491760804792929 : Nat := 0
def PySem.W.Fast.tw11456410481314233273 : Nat := 0
def PySem.W.Fast.tw9317189668176247525 : Nat := 0
def PySem.W.Fast.tw1051924382284289335 : Nat := 0
def PySem.W.Fast.tw523289535109659777 : Nat := 0
def PySem.W.Fast.tw9378466049145095563 : Nat := 0
def PySem.W.Fast.tw10316667735909179925 : Nat := 0
def PySem.W.Fast.tw8395808248746675397 : Nat := 0
def PySem.W.Fast.tw3046295395571419603 : Nat := 0
def PySem.W.Fast.tw9495492020679657187 : Nat := 0
def PySem.W.Fast.tw5156452994634461990 : Nat := 0
def PySem.W.Fast.tw6255617991073048910 : Nat := 0
def PySem.W.Fast.tw10721557670458623963 : Nat := 0
def PySem.W.Fast.tw3647427053077410708 : Nat := 0
def PySem.W.Fast.tw11585563527753239297 : Nat := 0
def PySem.W.Fast.tw4344414450528692974 : Nat := 0
def PySem.W.Fast.tw7261996350430392003 : Nat := 0
def PySem.W.Fast.tw734140950412594515 : Nat := 0
def PySem.W.Fast.tw7790191643039351504 : Nat := 0
def PySem.W.Fast.tw5452538294465268404 : Nat := 0
def PySem.W.Fast.tw9520644319596234189 : Nat := 0
def PySem.W.Fast.tw14946191566131149440 : Nat := 0
def PySem.W.Fast.tw11320448308458161273 : Nat := 0
def PySem.W.Fast.tw2113926826847434988 : Nat := 0
def PySem.W.Fast.tw12783441968365011907 : Nat := 0
def PySem.W.Fast.tw545282569663712942 : Nat := 0
def PySem.W.Fast.tw3327736479200470222 : Nat := 0
def PySem.W.Fast.tw1987042745999808261 : Nat := 0
def PySem.W.Fast.tw4234763894406490593 : Nat := 0
def PySem.W.Fast.tw15986457112737242187 : Nat := 0
def PySem.W.Fast.tw15179126751534020115 : Nat := 0
def PySem.W.Fast.tw5890408326687254348 : Nat := 0
def PySem.W.Fast.tw15441541162688826335 : Nat := 0
def PySem.W.Fast.tw17030682119844709993 : Nat := 0
def PySem.W.Fast.tw4451192671218198959 : Nat := 0
def PySem.W.Fast.tw5713905439773387763 : Nat := 0
def PySem.W.Fast.tw13037724907875542015 : Nat := 0
def PySem.W.Fast.tw3191235912688995734 : Nat := 0
def PySem.W.Fast.tw11758193948628940539 : Nat := 0
def PySem.W.Fast.tw950350150513150862 : Nat := 0
def PySem.W.Fast.tw16070567430318967053 : Nat := 0
def PySem.W.Fast.tw14699117013632306360 : Nat := 0
def PySem.W.Fast.tw3753246950875271464 : Nat := 0
def PySem.W.Fast.tw14680847259408898341 : Nat := 0
def PySem.W.Fast.tw17581287586439089250 : Nat := 0
def PySem.W.Fast.tw4939099666427343416 : Nat := 0
def PySem.W.Fast.tw16761002270002615795 : Nat := 0
def PySem.W.Fast.tw12370387942490157600 : Nat := 0
def PySem.W.Fast.tw12994519446664417185 : Nat := 0
def PySem.W.Fast.tw4316567285314133342 : Nat := 0
def PySem.W.Fast.tw18045960923006473148 : Nat := 0
def PySem.W.Fast.tw17765110731948608381 : Nat := 0
def PySem.W.Fast.tw5254197998105964303 : Nat := 0
def PySem.W.Fast.tw3654060905051676243 : Nat := 0
def PySem.W.Fast.tw13879090741458643813 : Nat := 0
def PySem.W.Fast.tw18026044231567801186 : Nat := 0
def PySem.W.Fast.tw17066740550951665481 : Nat := 0
def PySem.W.Fast.tw6964929416352241788 : Nat := 0
def PySem.W.Fast.tw16069704822014842108 : Nat := 0
def PySem.W.Fast.tw5107838127276318953 : Nat := 0
def PySem.W.Fast.tw856041532110853129 : Nat := 0
def PySem.W.Fast.tw15806344557196633554 : Nat := 0
def PySem.W.Fast.tw696271964433940287 : Nat := 0
def PySem.W.Fast.tw1156476094611906561 : Nat := 0
def PySem.W.Fast.tw5447102535448618254 : Nat := 0
def PySem.W.Fast.tw15604125300180292643 : Nat := 0
def PySem.W.Fast.tw5872712785199260814 : Nat := 0
def PySem.W.Fast.tw8525434074694986388 : Nat := 0
def PySem.W.Fast.tw9173009826264960343 : Nat := 0
def PySem.W.Fast.tw12506446049848616307 : Nat := 0
def PySem.W.Fast.tw11018416630390472399 : Nat := 0
def PySem.W.Fast.tw9667058065338965633 : Nat := 0
def PySem.W.Fast.tw11824251139143235543 : Nat := 0
def PySem.W.Fast.tw11134175993749730927 : Nat := 0
def PySem.W.Fast.tw9814206493081805236 : Nat := 0
def PySem.W.Fast.tw10087308355206872611 : Nat := 0
def PySem.W.Fast.tw304197285662913016 : Nat := 0
def PySem.W.Fast.tw17261308486348826516 : Nat := 0
def PySem.W.Fast.tw14774732026967318539 : Nat := 0
def PySem.W.Fast.tw5283166614070492091 : Nat := 0
def PySem.W.Fast.tw9642979642189278944 : Nat := 0
def PySem.W.Fast.tw11364495296298290249 : Nat := 0
def PySem.W.Fast.tw2208715281125657907 : Nat := 0
def PySem.W.Fast.tw16127003492777187989 : Nat := 0
def PySem.W.Fast.tw11120189142959561934 : Nat := 0
def PySem.W.Fast.tw3855306293546417535 : Nat := 0
def PySem.W.Fast.tw16510773600928972456 : Nat := 0
def PySem.W.Fast.tw14696496296287646469 : Nat := 0
def PySem.W.Fast.tw7091412417449105141 : Nat := 0
def PySem.W.Fast.tw13219363231307798481 : Nat := 0
def PySem.W.Fast.tw14941573714447466699 : Nat := 0
def PySem.W.Fast.tw1786235361906546318 : Nat := 0
def PySem.W.Fast.tw12291509091877278125 : Nat := 0
def PySem.W.Fast.tw3657946479003265054 : Nat := 0
def PySem.W.Fast.tw5757801391843627064 : Nat := 0
def PySem.W.Fast.tw14114697478998223286 : Nat := 0
def PySem.W.Fast.tw7278848706689266060 : Nat := 0
def PySem.W.Fast.tw5080186559058527593 : Nat := 0
def PySem.W.Fast.tw14334514861270363229 : Nat := 0
def PySem.W.Fast.tw9794170391836319500 : Nat := 0
def PySem.W.Fast.tw4196870499070400616 : Nat := 0
def PySem.W.Fast.tw5592455387536227473 : Nat := 0
def PySem.W.Fast.tw13739558462429200126 : Nat := 0
def PySem.W.Fast.tw12226197843300558587 : Nat := 0
def PySem.W.Fast.tw13701711411631517713 : Nat := 0
def PySem.W.Fast.tw3454765226150493445 : Nat := 0
def PySem.W.Fast.tw2096462730046718001 : Nat := 0
def PySem.W.Fast.tw2802495009494715793 : Nat := 0
def PySem.W.Fast.tw17626304141973376084 : Nat := 0
def PySem.W.Fast.tw14661016901961397518 : Nat := 0
def PySem.W.Fast.tw3848572715198311901 : Nat := 0
def PySem.W.Fast.tw7437603973602230152 : Nat := 0
def PySem.W.Fast.tw16965990424325746394 : Nat := 0
def PySem.W.Fast.tw9309782789601967617 : Nat := 0
def PySem.W.Fast.tw2518368144960619848 : Nat := 0
def PySem.W.Fast.tw6830812369755829691 : Nat := 0
def PySem.W.Fast.tw1427422679648309071 : Nat := 0
def PySem.W.Fast.tw3218626244291249684 : Nat := 0
def PySem.W.Fast.tw700448748734577686 : Nat := 0
def PySem.W.Fast.tw14029046022396240923 : Nat := 0
def PySem.W.Fast.tw14027215962426294291 : Nat := 0
def PySem.W.Fast.tw875899079609864652 : Nat := 0
def PySem.W.Fast.tw13297292239105878557 : Nat := 0
def PySem.W.Fast.tw8088119020689850193 : Nat := 0
def PySem.W.Fast.tw10613641437460891985 : Nat := 0
def PySem.W.Fast.tw17573327950983591311 : Nat := 0
def PySem.W.Fast.tw13042915368365623030 : Nat := 0
def PySem.W.Fast.tw11295243257543057575 : Nat := 0
def PySem.W.Fast.tw5147652959192728398 : Nat := 0
def PySem.W.Fast.tw5887455951026382510 : Nat := 0
def PySem.W.Fast.tw16566752546801195254 : Nat := 0
def PySem.W.Fast.tw3492387595022307492 : Nat := 0
def PySem.W.Fast.tw1198760391143372096 : Nat := 0
def PySem.W.Fast.tw935865624019014222 : Nat := 0
def PySem.W.Fast.tw14978124902876220893 : Nat := 0
def PySem.W.Fast.tw4449134911719648024 : Nat := 0
def PySem.W.Fast.tw3484554409307412935 : Nat := 0
def PySem.W.Fast.tw10982510950602346618 : Nat := 0
def PySem.W.Fast.tw4105654469816739631 : Nat := 0
def PySem.W.Fast.tw6783612204880308961 : Nat := 0
def PySem.W.Fast.tw5750403501618938910 : Nat := 0
def PySem.W.Fast.tw3389039772561328616 : Nat := 0
def PySem.W.Fast.tw4873360120315936752 : Nat := 0
def PySem.W.Fast.tw14800895325598618288 : Nat := 0
def PySem.W.Fast.tw9626966090904029603 : Nat := 0
def PySem.W.Fast.tw1835806050028738724 : Nat := 0
def PySem.W.Fast.tw7176428431180294698 : Nat := 0
def PySem.W.Fast.tw5090444774553546484 : Nat := 0
def PySem.W.Fast.tw9519890881224066166 : Nat := 0
def PySem.W.Fast.tw9132886976120716272 : Nat := 0
def PySem.W.Fast.tw5357863188400053792 : Nat := 0
def PySem.W.Fast.tw15805944576421634462 : Nat := 0
def PySem.W.Fast.tw3491298575738043688 : Nat := 0
def PySem.W.Fast.tw15394503184073715604 : Nat := 0
def PySem.W.Fast.tw5646135403403768055 : Nat := 0
def PySem.W.Fast.tw2858570658106435961 : Nat := 0
def PySem.W.Fast.tw7733584773220113056 : Nat := 0
def PySem.W.Fast.tw4268264714128291138 : Nat := 0
def PySem.W.Fast.tw11128809229344053433 : Nat := 0
def PySem.W.Fast.tw11804058937930284787 : Nat := 0
def PySem.W.Fast.tw14270003443749778534 : Nat := 0
def PySem.W.Fast.tw10823259430445386722 : Nat := 0
def PySem.W.Fast.tw774303255816209102 : Nat := 0
def PySem.W.Fast.tw1819211013825461835 : Nat := 0
def PySem.W.Fast.tw6560468863268550989 : Nat := 0
def PySem.W.Fast.tw9150992778004616013 : Nat := 0
def PySem.W.Fast.tw10368526892925455545 : Nat := 0
def PySem.W.Fast.tw190837692264017044 : Nat := 0
def PySem.W.Fast.tw3032307548950689493 : Nat := 0
def PySem.W.Fast.tw8133977061420053159 : Nat := 0
def PySem.W.Fast.tw4788797621265567621 : Nat := 0
def PySem.W.Fast.tw12941792303846736804 : Nat := 0
def PySem.W.Fast.tw17446540205345231280 : Nat := 0
def PySem.W.Fast.tw1616624113192694226 : Nat := 0
def PySem.W.Fast.tw18374526947430796286 : Nat := 0
def PySem.W.Fast.tw9245873588880143442 : Nat := 0
def PySem.W.Fast.tw16661933558905066004 : Nat := 0
def PySem.W.Fast.tw10664170321177420543 : Nat := 0
def PySem.W.Fast.tw5676677846008086343 : Nat := 0
def PySem.W.Fast.tw6201275918552694581 : Nat := 0
def PySem.W.Fast.tw233260283455092146 : Nat := 0
def PySem.W.Fast.tw6957305815477905557 : Nat := 0
def PySem.W.Fast.tw7226786750270221602 : Nat := 0
def PySem.W.Fast.tw4002253947027312608 : Nat := 0
def PySem.W.Fast.tw14807810765550681556 : Nat := 0
def PySem.W.Fast.tw11816328705939280763 : Nat := 0
def PySem.W.Fast.tw395843344782629041 : Nat := 0
def PySem.W.Fast.tw6494886128662995662 : Nat := 0
def PySem.W.Fast.tw16209610849593149344 : Nat := 0
def PySem.W.Fast.tw8410753344267666516 : Nat := 0
def PySem.W.Fast.tw8813187849869569204 : Nat := 0
def PySem.W.Fast.tw6795721274707063008 : Nat := 0
def PySem.W.Fast.tw4080735235023242319 : Nat := 0
def PySem.W.Fast.tw2312743027286900493 : Nat := 0
def PySem.W.Fast.tw11629655614019700735 : Nat := 0
def PySem.W.Fast.tw9028637360105299441 : Nat := 0
def PySem.W.Fast.tw5700753401237078905 : Nat := 0
def PySem.W.Fast.tw6959885513503323359 : Nat := 0
def PySem.W.Fast.tw17876485856924272001 : Nat := 0
def PySem.W.Fast.tw16836507529023457886 : Nat := 0
def PySem.W.Fast.tw13239172423148153702 : Nat := 0
def PySem.W.Fast.tw5382954238543342666 : Nat := 0

open PySem PySem.W PyProof.Rows
set_option maxRecDepth 100000 in
set_option maxHeartbeats 0 in
theorem PySem.Challenge.cw_netcourt_k11_papers_as_texts_holds : PySem.Challenge.rw_netcourt_k11_papers_as_texts.Holds := by
  w_on; o_law; k_head; (case hw => w_witness2)
  k_fill
  first | refine Net.walk (l := PySem.Challenge.rw_netcourt_k11_papers_as_texts) rfl rfl (fun w h Y => PySem.W.kIn_of Y) ?F | refine Net.walk (l := PySem.Challenge.rw_netcourt_k11_papers_as_texts) rfl rfl (fun w h Y => PySem.W.km_in_of Y) ?F
  case F =>
    intro w mg fa h KX G hmg
    refine' Net.all_mk KX G hmg ?a0 ?l0 ?c0 ?k0 ?a1 ?l1 ?c1 ?k1 ?a2 ?l2 ?c2 ?k2 ?a3 ?l3 ?c3 ?k3 ?a4 ?l4 ?c4 ?k4 ?a5 ?l5 ?c5 ?k5 ?a6 ?l6 ?c6 ?k6 ?a7 ?l7 ?c7 ?k7 ?a8 ?l8 ?c8 ?k8 ?a9 ?l9 ?c9 ?k9 ?a10 ?l10 ?c10 ?k10 ?a11 ?l11 ?c11 ?k11 ?a12 ?l12 ?c12 ?k12 ?a13 ?l13 ?c13 ?k13 ?a14 ?l14 ?c14 ?k14 ?a15 ?l15 ?c15 ?k15 ?a16 ?l16 ?c16 ?k16 ?a17 ?l17 ?c17 ?k17 ?a18 ?l18 ?c18 ?k18 ?a19 ?l19 ?c19 ?k19 ?aL ?lL ?cL ?kL ?z_all ?z_isinstance ?z_str ?z_int ?z_bool ?z_list ?z_tuple ?z_len ?z_range ?z_abs ?z_enumerate ?z_min ?m0 ?md0 ?md1 ?md2 ?md3 ?md4 ?md5 ?md6 ?md7 ?md8 ?mcc ?mve ?hn0 ?tk0 ?x0 ?xm0 ?kv0 ?k0_0 ?kd0_0 ?kd0_1 ?kd0_2 ?kd0_3 ?kd0_4 ?kd0_5 ?kd0_6 ?kd0_7 ?kd0_8 ?ga0 ?gt0 ?cl0 ?mo0 ?mb0 ?gS ?rS ?gN ?rN ?gP ?rP ?gM ?rM ?gD ?rD
    (case a0 => k_is)
    (case l0 => k_is)
    (case c0 => k_is)
    (case k0 => k_is)
    (case a1 => k_is)
    (case l1 => k_is)
    (case c1 => k_is)
    (case k1 => k_is)
    (case a2 => k_is)
    (case l2 => k_is)
    (case c2 => k_is)
    (case k2 => k_is)
    (case a3 => k_is)
    (case l3 => k_is)
    (case c3 => k_is)
    (case k3 => k_is)
    (case a4 => k_is)
    (case l4 => k_is)
    (case c4 => k_is)
    (case k4 => k_is)
    (case a5 => k_is)
    (case l5 => k_is)
    (case c5 => k_is)
    (case k5 => k_is)
    (case a6 => k_is)
    (case l6 => k_is)
    (case c6 => k_is)
    (case k6 => k_is)
    (case a7 => k_is)
    (case l7 => k_is)
    (case c7 => k_is)
    (case k7 => k_is)
    (case a8 => k_is)
    (case l8 => k_is)
    (case c8 => k_is)
    (case k8 => k_is)
    (case a9 => k_is)
    (case l9 => k_is)
    (case c9 => k_is)
    (case k9 => k_is)
    (case a10 => k_is)
    (case l10 => k_is)
    (case c10 => k_is)
    (case k10 => k_is)
    (case a11 => k_is)
    (case l11 => k_is)
    (case c11 => k_is)
    (case k11 => k_is)
    (case a12 => k_is)
    (case l12 => k_is)
    (case c12 => k_is)
    (case k12 => k_is)
    (case a13 => k_is)
    (case l13 => k_is)
    (case c13 => k_is)
    (case k13 => k_is)
    (case a14 => k_is)
    (case l14 => k_is)
    (case c14 => k_is)
    (case k14 => k_is)
    (case a15 => k_is)
    (case l15 => k_is)
    (case c15 => k_is)
    (case k15 => k_is)
    (case a16 => k_is)
    (case l16 => k_is)
    (case c16 => k_is)
    (case k16 => k_is)
    (case a17 => k_is)
    (case l17 => k_is)
    (case c17 => k_is)
    (case k17 => k_is)
    (case a18 => k_is)
    (case l18 => k_is)
    (case c18 => k_is)
    (case k18 => k_is)
    (case a19 => k_is)
    (case l19 => k_is)
    (case c19 => k_is)
    (case k19 => k_is)
    (case aL => k_is)
    (case lL => k_is)
    (case cL => k_is)
    (case kL => k_is)
    (case z_all => k_is)
    (case z_isinstance => k_is)
    (case z_str => k_is)
    (case z_int => k_is)
    (case z_bool => k_is)
    (case z_list => k_is)
    (case z_tuple => k_is)
    (case z_len => k_is)
    (case z_range => k_is)
    (case z_abs => k_is)
    (case z_enumerate => k_is)
    (case z_min => k_is)
    (case m0 => k_is)
    (case md0 => k_is)
    (case md1 => k_is)
    (case md2 => k_is)
    (case md3 => k_is)
    (case md4 => k_is)
    (case md5 => k_is)
    (case md6 => k_is)
    (case md7 => k_is)
    (case md8 => k_is)
    (case mcc => k_is)
    (case mve => k_is)
    (case hn0 => k_is)
    (case tk0 => k_is)
    (case x0 => k_exc)
    (case xm0 => kts_exm)
    (case kv0 => kit_is)
    (case k0_0 => kit_is)
    (case kd0_0 => kit_is)
    (case kd0_1 => kit_is)
    (case kd0_2 => kit_is)
    (case kd0_3 => kit_is)
    (case kd0_4 => kit_is)
    (case kd0_5 => kit_is)
    (case kd0_6 => kit_is)
    (case kd0_7 => kit_is)
    (case kd0_8 => kit_is)
    (case ga0 => k_is)
    (case gt0 => k_is)
    (case cl0 => k_is)
    (case mo0 => k_is)
    (case mb0 => k_is)
    (case gS => k_is)
    (case rS => exact ⟨_, rfl⟩)
    (case gN => k_is)
    (case rN => exact ⟨_, rfl⟩)
    (case gP => k_is)
    (case rP => exact ⟨_, rfl⟩)
    (case gM => k_is)
    (case rM => exact ⟨_, rfl⟩)
    (case gD => k_is)
    (case rD => exact ⟨_, rfl⟩)
