import PyProof.Rows.All
import Wide.All
import OpenK.AllK
import Wide.FinOn
import Lean
import PyProof.EqAt
import PyProof.EqKinds
import PyProof.TupleCall
import PySem.Challenge.RW_netcourt_k32_costs_looked_at
set_option Elab.async false
set_option linter.all false
set_option maxRecDepth 100000
namespace L2
open PySem PySem.Spec PyProof.Rows
abbrev Key := Sum Int Str
def keyIs : Key → Value → Bool
 | .inl k, v => Value.isInt k v
 | .inr x, v => Value.isStrOf x v
def keyH (w : World) : Key → Int
 | .inl k => hashInt k
 | .inr x => hashStr w x
theorem keyIs_shape : ∀ {k : Key} {v : Value}, keyIs k v = true → (∃ i t, k = Sum.inl i ∧ v = Value.int i t) ∨ (∃ x t, k = Sum.inr x ∧ v = Value.str x t)
 | .inl i, v, h => by
  obtain ⟨t, e⟩ := Value.isInt_shape (k := i) (v := v) h
  exact .inl ⟨i, t, rfl, e⟩
 | .inr x, v, h => by
  obtain ⟨t, e⟩ := Value.isStrOf_shape (x := x) (v := v) h
  exact .inr ⟨x, t, rfl, e⟩
theorem keyIs_int (i : Int) (t : Tok) : keyIs (.inl i) (.int i t) = true := by simp [keyIs, Value.isInt]
theorem keyIs_str (x : Str) (t : Tok) : keyIs (.inr x) (.str x t) = true := by simp [keyIs, Value.isStrOf]
theorem key_ll (a b : Int) : decide ((Sum.inl a : Key) = Sum.inl b) = (a == b) := by
 by_cases e : a = b
 ·subst e; simp
 ·have h : ¬ (Sum.inl a : Key) = Sum.inl b := fun q => e (Sum.inl.inj q)
  rw [decide_eq_false h]
  exact (beq_eq_false_iff_ne.mpr e).symm
theorem key_rr (a b : Str) : decide ((Sum.inr a : Key) = Sum.inr b) = decide (a = b) := by
 by_cases e : a = b
 ·subst e; simp
 ·have h : ¬ (Sum.inr a : Key) = Sum.inr b := fun q => e (Sum.inr.inj q)
  rw [decide_eq_false h, decide_eq_false e]
theorem key_lr (a : Int) (b : Str) : decide ((Sum.inl a : Key) = Sum.inr b) = false := decide_eq_false (fun q => nomatch q)
theorem key_rl (a : Str) (b : Int) : decide ((Sum.inr a : Key) = Sum.inl b) = false := decide_eq_false (fun q => nomatch q)
def mixKind (prog : Program) (w : World) : PySem.KeyKind prog w Key where
 is := keyIs
 hash := keyH w
 inj := fun v a b ha hb => by
  rcases keyIs_shape ha with ⟨i, t, rfl, rfl⟩ | ⟨x, t, rfl, rfl⟩
  ·rcases keyIs_shape hb with ⟨j, u, rfl, e⟩ | ⟨y, u, rfl, e⟩
   ·injection e with e1 _; rw [e1]
   ·exact nomatch e
  ·rcases keyIs_shape hb with ⟨j, u, rfl, e⟩ | ⟨y, u, rfl, e⟩
   ·exact nomatch e
   ·injection e with e1 _; rw [e1]
 byValue := fun k v h => by
  rcases keyIs_shape h with ⟨i, t, rfl, rfl⟩ | ⟨x, t, rfl, rfl⟩ <;> rfl
 pyHash := fun hv h => by
  rcases keyIs_shape hv with ⟨i, t, rfl, rfl⟩ | ⟨x, t, rfl, rfl⟩
  ·exact wpAny_pyHash_int h
  ·exact wpAny_pyHash_str h
 eqBool := fun hu hv h => by
  rcases keyIs_shape hu with ⟨i, t, rfl, rfl⟩ | ⟨x, t, rfl, rfl⟩
  ·rcases keyIs_shape hv with ⟨j, u, rfl, rfl⟩ | ⟨y, u, rfl, rfl⟩
   ·rw [key_ll] at h; exact wpAny_eqBool_int h
   ·rw [key_lr] at h; exact SeqAt.EqAt.int_str i t y u _ _ _ _ h
  ·rcases keyIs_shape hv with ⟨j, u, rfl, rfl⟩ | ⟨y, u, rfl, rfl⟩
   ·rw [key_rl] at h; exact SeqAt.EqAt.str_int x t j u _ _ _ _ h
   ·rw [key_rr] at h; exact wpAny_eqBool_str h
 «strs» := fun k x t v h => by
  rcases keyIs_shape h with ⟨i, u, rfl, e⟩ | ⟨y, u, rfl, e⟩
  ·exact nomatch e
  ·injection e with e1 _
   subst e1
   cases v <;> rfl
theorem mixKind_int (prog : Program) (w : World) (i : Int) (t : Tok) : (mixKind prog w).is (.inl i) (.int i t) = true := keyIs_int i t
theorem mixKind_str (prog : Program) (w : World) (x : Str) (t : Tok) : (mixKind prog w).is (.inr x) (.str x t) = true := keyIs_str x t
end L2
namespace L2
open PySem PySem.Spec PyProof.Rows
inductive V where
 | non | bl (b : Bool) | int (i : Int) | str (x : Str) | byt (b : Array UInt8) | flt (b : UInt64) | ref (a : Addr) | ty (n : String)
 deriving DecidableEq
def RelV : V → Value → Prop
 | .non, u => u = Value.none
 | .bl b, u => u = Value.bool b
 | .int i, u => ∃ t, u = Value.int i t
 | .str x, u => ∃ t, u = Value.str x t
 | .byt b, u => ∃ t, u = Value.bytes b t
 | .flt b, u => ∃ t, u = Value.float b t
 | .ref a, u => u = Value.ref a
 | .ty n, u => u = Value.type n
abbrev Vals : List V → List Value → Prop := Paired RelV
theorem Vals.length {xs : List V} {us : List Value} (r : Vals xs us) : xs.length = us.length := Paired.length r
theorem Vals.get : ∀ {xs : List V} {us : List Value} {i : Nat} {x : V}, Vals xs us → xs[i]? = some x → ∃ u, us[i]? = some u ∧ RelV x u
 | _, _, _, _, .nil, e => by simp at e
 | _, _, 0, _, .cons r _, e => by simp at e; subst e; exact ⟨_, rfl, r⟩
 | _, _, i + 1, x, .cons _ t, e => by
  obtain ⟨u, h1, h2⟩ := Vals.get (i := i) (x := x) t (by simpa using e)
  exact ⟨u, by simpa using h1, h2⟩
theorem Vals.set {x : V} {u : Value} (r : RelV x u) : ∀ {xs : List V} {us : List Value} (i : Nat), Vals xs us → Vals (xs.set i x) (us.set i u)
 | _, _, _, .nil => .nil
 | _, _, 0, .cons _ t => .cons r t
 | _, _, i + 1, .cons q t => .cons q (Vals.set r i t)
theorem Vals.append : ∀ {xs ys : List V} {us ws : List Value}, Vals xs us → Vals ys ws → Vals (xs ++ ys) (us ++ ws)
 | _, _, _, _, .nil, s => s
 | _, _, _, _, .cons r t, s => .cons r (Vals.append t s)
theorem Vals.take : ∀ {xs : List V} {us : List Value} (n : Nat), Vals xs us → Vals (xs.take n) (us.take n)
 | _, _, 0, _ => .nil
 | _, _, _ + 1, .nil => .nil
 | _, _, n + 1, .cons r t => .cons r (Vals.take n t)
theorem Vals.drop : ∀ {xs : List V} {us : List Value} (n : Nat), Vals xs us → Vals (xs.drop n) (us.drop n)
 | _, _, 0, r => r
 | _, _, _ + 1, .nil => .nil
 | _, _, n + 1, .cons _ t => Vals.drop n t
def RelO : Option V → Option Value → Prop
 | some v, some u => RelV v u
 | none, none => True
 | _, _ => False
def KV {κ : Type} : List (κ × V) → List (κ × Value) → Prop := Paired fun (p : κ × V) (q : κ × Value) => p.1 = q.1 ∧ RelV p.2 q.2
def kV : Key → V
 | .inl i => .int i
 | .inr x => .str x
inductive HO where
 | lst (xs : List V)
 | tup (xs : List V)
 | dK (kvs : List (Key × V)) | dT (kvs : List (List Key × V))
 | set (S : Int → Bool) (n : Nat)
 | ins (C dx : Addr) (fs : List (Str × V))
 | own (x : Addr)
 | xd (fs : List (Str × V))
 | met (f x : Addr)
 | rng (lo hi : Int)
 | frz (o : Obj) (u : HO)
 | tbl (ps : Array Value)
 | ext (φ : Heap → Prop)
abbrev Hp := Addr → Option HO
def upd (H : Hp) (a : Addr) (o : HO) : Hp := fun b => if b = a then some o else H b
theorem upd_same {H : Hp} {a : Addr} {o : HO} : upd H a o a = some o := by unfold upd; rw [if_pos rfl]
theorem upd_ne {H : Hp} {a b : Addr} {o : HO} (h : b ≠ a) : upd H a o b = H b := by unfold upd; rw [if_neg h]
theorem ne_of {H : Hp} {a b : Addr} {o u : HO} (h : H a = some o) (h' : H b = some u) (d : o ≠ u) : a ≠ b := by
 intro e; subst e; rw [h] at h'; exact d (Option.some.inj h')
theorem ne_of_none {H : Hp} {a b : Addr} {o : HO} (h : H a = some o) (h' : H b = none) : a ≠ b := by
 intro e; subst e; rw [h] at h'; cases h'
section
variable (P : Program) (w : World)
def ObjOk (H : Hp) (h : Heap) (a : Addr) : HO → Prop
 | .lst xs => xs.length ≤ sizeLine ∧ ∃ (its : List Value) (n : Nat), Vals xs its ∧ h.get? a = some { cls := .type "list", data := .seq its.toArray n }
 | .tup xs => xs.length ≤ sizeLine ∧ ∃ its : List Value, Vals xs its ∧ IsTup h a its.toArray
 | .dK kvs => kvs.length ≤ sizeLine ∧ (a == sysModules) = false ∧ ∃ vs, KV kvs vs ∧ h.DictOf (mixKind P w) a vs
 | .dT kvs => kvs.length ≤ sizeLine ∧ (a == sysModules) = false ∧ ∃ xs : List (List Key × Addr × Value),
   Paired (fun (p : List Key × V) (q : List Key × Addr × Value) => p.1 = q.1 ∧ H q.2.1 = some (.tup (p.1.map kV)) ∧ RelV p.2 q.2.2) kvs xs ∧
   ∃ o es ep, h.get? a = some o ∧ o.ExactDict ∧ o.data = .dict es ep ∧ es.toList = xs.map (entryOfKey (tupleKind (mixKind P w))) ∧ (xs.map (·.1)).Nodup
 | .set S n => h.SetOf (intKind P w) a S n
 | .ins C dx fs => H dx = some (.own a) ∧ fs.length ≤ 1000 ∧ dx ≠ a ∧ h.get? a = some (PySem.W.instObj C dx) ∧
   ∃ mA, h.Ns1 dx mA ∧ (∀ f, RelO (fs.lookup f) (mA f)) ∧ PySem.Within mA (fs.map (·.1))
 | .own _ => ∃ o, h.get? a = some o
 | .xd fs => ∃ mA, h.Ns1 a mA ∧ ∀ f, RelO (fs.lookup f) (mA f)
 | .rng lo hi => ∃ t u v, h.get? a = some { cls := .type "range", data := .fields #[.int lo t, .int hi u, .int 1 v] }
 | .frz o u => h.get? a = some o ∧ ObjOk H h a u
 | .tbl ps => h.get? a = some { cls := .none, data := .fields ps }
 | .met f x => h.get? a = some (PySem.W.methodObj (.ref f) (.ref x))
 | .ext φ => φ h ∧ (∃ o, h.get? a = some o) ∧ ∀ h1 h2 : Heap, φ h1 → (∀ o, h1.get? a = some o → h2.get? a = some o) → φ h2
def HOk (H : Hp) (h : Heap) : Prop := ∀ a o, H a = some o → ObjOk P w H h a o
end
section
variable {P : Program} {w : World} {H H' : Hp} {h h' : Heap} {a : Addr} {o : HO}
theorem ObjOk.lt (x : ObjOk P w H h a o) : a < h.objs.size := by
 cases o with
 | lst xs => obtain ⟨_, _, _, _, e⟩ := x; exact Heap.lt_size e
 | tup xs => obtain ⟨_, _, _, p⟩ := x; exact p.lt
 | dK kvs => obtain ⟨_, _, _, _, o, _, _, e, _⟩ := x; exact Heap.lt_size e
 | dT kvs => obtain ⟨_, _, _, _, o, _, _, e, _⟩ := x; exact Heap.lt_size e
 | set S n => obtain ⟨o, _, _, _, e, _⟩ := x; exact Heap.lt_size e
 | ins C dx fs => obtain ⟨_, _, _, e, _⟩ := x; exact Heap.lt_size e
 | own y => obtain ⟨_, e⟩ := x; exact Heap.lt_size e
 | xd fs => obtain ⟨_, ⟨_, _, _, e, _⟩, _⟩ := x; exact Heap.lt_size e
 | rng lo hi => obtain ⟨_, _, _, e⟩ := x; exact Heap.lt_size e
 | frz ob u => obtain ⟨e, _⟩ := x; exact Heap.lt_size e
 | tbl ps => exact Heap.lt_size (show h.get? a = some _ from x)
 | met f y => exact Heap.lt_size (show h.get? a = some _ from x)
 | ext φ => obtain ⟨_, ⟨_, e⟩, _⟩ := x; exact Heap.lt_size e
theorem Paired.mapP {α β : Type} {F G : α → β → Prop} : ∀ {l₁ : List α} {l₂ : List β}, Paired F l₁ l₂ → (∀ a b, F a b → G a b) → Paired G l₁ l₂
 | _, _, .nil, _ => .nil
 | _, _, .cons r t, f => .cons (f _ _ r) (Paired.mapP t f)
theorem ObjOk.stay (x : ObjOk P w H h a o) (k : ∀ b u, (b = a ∨ H b = some (.own a)) → h.get? b = some u → h'.get? b = some u)
  (ho : ∀ b, H b = some (.own a) → H' b = some (.own a)) (ht : ∀ b xs, H b = some (.tup xs) → H' b = some (.tup xs)) : ObjOk P w H' h' a o := by
 induction o with
 | lst xs => obtain ⟨z, its, n, r, e⟩ := x; exact ⟨z, its, n, r, k _ _ (.inl rfl) e⟩
 | tup xs => obtain ⟨z, its, r, ob, e, c⟩ := x; exact ⟨z, its, r, ob, k _ _ (.inl rfl) e, c⟩
 | dK kvs => obtain ⟨z, y, vs, r, ob, es, ep, e, c⟩ := x; exact ⟨z, y, vs, r, ob, es, ep, k _ _ (.inl rfl) e, c⟩
 | dT kvs =>
  obtain ⟨z, y, xs, r, ob, es, ep, e, c⟩ := x
  exact ⟨z, y, xs, Paired.mapP r fun p q z => ⟨z.1, ht _ _ z.2.1, z.2.2⟩, ob, es, ep, k _ _ (.inl rfl) e, c⟩
 | set S n => obtain ⟨ob, es, ep, t, e, c⟩ := x; exact ⟨ob, es, ep, t, k _ _ (.inl rfl) e, c⟩
 | ins C dx fs =>
  obtain ⟨d, z, ne, e, mA, ⟨od, es, ep, e2, c⟩, r⟩ := x
  exact ⟨ho _ d, z, ne, k _ _ (.inl rfl) e, mA, ⟨od, es, ep, k _ _ (.inr d) e2, c⟩, r⟩
 | own y => obtain ⟨ob, e⟩ := x; exact ⟨ob, k _ _ (.inl rfl) e⟩
 | xd fs => obtain ⟨mA, ⟨od, es, ep, e, c⟩, r⟩ := x; exact ⟨mA, ⟨od, es, ep, k _ _ (.inl rfl) e, c⟩, r⟩
 | rng lo hi => obtain ⟨t, u, v, e⟩ := x; exact ⟨t, u, v, k _ _ (.inl rfl) e⟩
 | frz ob u ih => obtain ⟨e, q⟩ := x; exact ⟨k _ _ (.inl rfl) e, ih q⟩
 | tbl ps =>
  have e : h.get? a = some { cls := .none, data := .fields ps } := x
  show h'.get? a = some { cls := .none, data := .fields ps }
  exact k a _ (.inl rfl) e
 | met f y =>
  have e : h.get? a = some (PySem.W.methodObj (.ref f) (.ref y)) := x
  show h'.get? a = some (PySem.W.methodObj (.ref f) (.ref y))
  exact k a _ (.inl rfl) e
 | ext φ => obtain ⟨p, ⟨o, e⟩, st⟩ := x; exact ⟨st _ _ p fun o q => k _ _ (.inl rfl) q, ⟨o, k _ _ (.inl rfl) e⟩, st⟩
theorem HOk.lt (x : HOk P w H h) (e : H a = some o) : a < h.objs.size := (x a o e).lt
theorem HOk.fresh (x : HOk P w H h) (e : h.objs.size ≤ a) : H a = none := by
 cases q : H a with
 | none => rfl
 | some u => exact absurd (Nat.lt_of_lt_of_le (x.lt q) e) (Nat.lt_irrefl _)
theorem HOk.kept (x : HOk P w H h) (k : ∀ b u, h.get? b = some u → h'.get? b = some u) : HOk P w H h' := fun a o e =>
 (x a o e).stay (fun b u _ q => k b u q) (fun _ q => q) fun _ _ q => q
theorem HOk.laid (x : HOk P w H h) (k : ∀ b u, h.get? b = some u → h'.get? b = some u) (hp : h.objs.size ≤ a) (new : ObjOk P w (upd H a o) h' a o) : HOk P w (upd H a o) h' := fun b u e => by
 have hn := x.fresh hp
 by_cases hb : b = a
 ·subst hb; rw [upd_same] at e; cases e; exact new
 ·rw [upd_ne hb] at e
  exact (x b u e).stay (fun c v _ q => k c v q) (fun c q => by rw [upd_ne (ne_of_none q hn)]; exact q) fun c xs q => by rw [upd_ne (ne_of_none q hn)]; exact q
end
def Rd (H : Hp) (a : Addr) (u : HO) : Prop := H a = some u ∨ ∃ o, H a = some (.frz o u)
theorem Rd.ok {P : Program} {w : World} {H : Hp} {h : Heap} {a : Addr} {u : HO} (r : Rd H a u) (x : HOk P w H h) : ObjOk P w H h a u := by
 rcases r with r | ⟨o, r⟩
 ·exact x a u r
 ·obtain ⟨_, q⟩ := x a _ r
  exact q
def Mut : Option HO → Prop
 | some (.lst _) => True
 | some (.dK _) => True
 | some (.dT _) => True
 | some (.set _ _) => True
 | some (.ins _ _ _) => True
 | some (.ext _) => True
 | _ => False
section
variable {P : Program} {w : World} {H : Hp} {h h' : Heap} {x e : Addr} {o' : HO}
theorem HOk.write (ok : HOk P w H h) (mu : Mut (H x)) (he : e = x ∨ H e = some (.own x)) (k : ∀ b u, b ≠ e → h.get? b = some u → h'.get? b = some u) (heo : ∃ u, h'.get? e = some u)
  (new : ObjOk P w (upd H x o') h' x o') : HOk P w (upd H x o') h' := fun b u q => by
 have nown : ∀ c y, H c = some (.own y) → c ≠ x := fun c y r z => by subst z; rw [r] at mu; exact mu
 have ntup : ∀ c xs, H c = some (.tup xs) → c ≠ x := fun c xs r z => by subst z; rw [r] at mu; exact mu
 by_cases hb : b = x
 ·subst hb; rw [upd_same] at q; cases q; exact new
 ·rw [upd_ne hb] at q
  by_cases hbe : b = e
  ·have q' : H b = some (.own x) := by
    rcases he with z | z
    ·exact absurd (hbe.trans z) hb
    ·rw [hbe]; exact z
   rw [q] at q'; cases q'
   obtain ⟨v, hv⟩ := heo
   exact ⟨v, by rw [hbe]; exact hv⟩
  ·refine (ok b u q).stay (fun c v hc r => k c v ?_ r) (fun c r => by rw [upd_ne (nown c b r)]; exact r) fun c xs r => by rw [upd_ne (ntup c xs r)]; exact r
   rcases hc with rfl | hc
   ·exact hbe
   ·rintro rfl
    rcases he with z | z
    ·exact nown c b hc z
    ·rw [hc] at z; cases z; exact hb rfl
end
structure Un (fs ex : List Addr) (H H' : Hp) (h h' : Heap) : Prop where
 keep : ∀ b o, h.get? b = some o → H b = none → b ∉ fs → b ∉ ex → h'.get? b = some o
 slot : ∀ b o, h.get? b = some o → H b = none → b ∈ fs → b ∉ ex → ∃ sl, h'.get? b = some { o with slots := sl }
 free : ∀ b o, h.get? b = some o → H b = none → b ∉ ex → H' b = none
 there : ∀ b o, h.get? b = some o → b ∉ ex → ∃ o', h'.get? b = some o'
 tups : ∀ b xs, H b = some (.tup xs) → H' b = some (.tup xs)
 frzs : ∀ b o u, H b = some (.frz o u) → H' b = some (.frz o u)
 tbls : ∀ b ps, H b = some (.tbl ps) → ∃ more, H' b = some (.tbl (ps ++ more))
section
variable {fs fs' ex ex' : List Addr} {H H1 H2 : Hp} {h h1 h2 h' : Heap} {a x e : Addr} {o : HO}
theorem Un.any (u : Un fs ex H H1 h h1) {b : Addr} {ob : Obj} (q : h.get? b = some ob) (n : H b = none) (hx : b ∉ ex) : ∃ sl, h1.get? b = some { ob with slots := sl } := by
 by_cases hb : b ∈ fs
 ·exact u.slot b ob q n hb hx
 ·exact ⟨ob.slots, u.keep b ob q n hb hx⟩
theorem Un.kept (k : ∀ b u, h.get? b = some u → h'.get? b = some u) : Un fs ex H H h h' :=
 ⟨fun b ob q _ _ _ => k b ob q, fun b ob q _ _ _ => ⟨ob.slots, k b ob q⟩, fun _ _ _ n _ => n, fun b ob q _ => ⟨ob, k b ob q⟩, fun _ _ q => q, fun _ _ _ q => q, fun _ ps q => ⟨#[], by rw [q]; simp⟩⟩
theorem Un.refl : Un fs ex H H h h := Un.kept fun _ _ q => q
theorem Un.laid (k : ∀ b u, h.get? b = some u → h'.get? b = some u) (hp : h.objs.size ≤ a) (hn : H a = none) : Un fs ex H (upd H a o) h h' where
 keep := fun b u q _ _ _ => k b u q
 slot := fun b u q _ _ _ => ⟨u.slots, k b u q⟩
 free := fun b u q n _ => by rw [upd_ne (Nat.ne_of_lt (Nat.lt_of_lt_of_le (Heap.lt_size q) hp))]; exact n
 there := fun b u q _ => ⟨u, k b u q⟩
 tups := fun b xs q => by rw [upd_ne (ne_of_none q hn)]; exact q
 frzs := fun b u xs q => by rw [upd_ne (ne_of_none q hn)]; exact q
 tbls := fun b ps q => ⟨#[], by rw [upd_ne (ne_of_none q hn), q]; simp⟩
theorem Un.write (mu : Mut (H x)) (he : e = x ∨ H e = some (.own x)) (k : ∀ b u, b ≠ e → h.get? b = some u → h'.get? b = some u) (heo : ∃ u, h'.get? e = some u) : Un fs ex H (upd H x o) h h' := by
 have hx : ∀ b, H b = none → b ≠ x := fun b n z => by subst z; rw [n] at mu; exact mu
 have hb : ∀ b, H b = none → b ≠ e := fun b n z => by
  subst z
  rcases he with r | r
  ·exact hx b n r
  ·rw [n] at r; cases r
 have hm : ∀ b u, H b = some u → ¬ Mut (some u) → b ≠ x := fun b u q nm z => by subst z; rw [q] at mu; exact nm mu
 refine ⟨fun b u q n _ _ => k b u (hb b n) q, fun b u q n _ _ => ⟨u.slots, k b u (hb b n) q⟩, fun b u q n _ => by rw [upd_ne (hx b n)]; exact n, fun b u q _ => ?_,
  fun b xs q => by rw [upd_ne (hm b _ q fun z => z)]; exact q, fun b u xs q => by rw [upd_ne (hm b _ q fun z => z)]; exact q, fun b ps q => ⟨#[], by rw [upd_ne (hm b _ q fun z => z), q]; simp⟩⟩
 by_cases hbe : b = e
 ·subst hbe; exact heo
 ·exact ⟨u, k b u hbe q⟩
end
def trk (h : Heap) (H : Hp) : List Addr := (List.range h.objs.size).filter fun a => (H a).isSome
def hidT (h : Heap) (H : Hp) : Heap := PySem.W.hideAll h (trk h H)
theorem hidT_size (h : Heap) (H : Hp) : (hidT h H).objs.size = h.objs.size := PySem.W.hideAll_size _ _
theorem hidT_get {h : Heap} {H : Hp} {b : Addr} {o : Obj} (e : h.get? b = some o) (n : H b = none) : (hidT h H).get? b = some o :=
 PySem.W.hideAll_get _ e fun hm => by
  have q : (H b).isSome = true := (List.mem_filter.mp hm).2
  rw [n] at q; simp at q
theorem of_hidT {h : Heap} {H : Hp} {b : Addr} {o : Obj} (e : (hidT h H).get? b = some o) : h.get? b = some o ∧ H b = none := by
 have e' : h.get? b = some o := PySem.W.of_hideAll (trk h H) e
 refine ⟨e', ?_⟩
 cases q : H b with
 | none => rfl
 | some x =>
  have hm : b ∈ trk h H := List.mem_filter.mpr ⟨List.mem_range.mpr (Heap.lt_size e'), by simp [q]⟩
  have z : (hidT h H).get? b = none := PySem.W.hideAll_none (trk h H) hm
  rw [z] at e; cases e
end L2
namespace L2
open PySem PySem.Spec PyProof.Rows
structure Mod (K : PySem.W.Frag) (mg : Str → Option Value) (base : Heap) : Prop where
 kin : K.In base
 glob : base.Ns mainGlobals mg
 blt : ∃ mb, base.Ns builtinsNs mb ∧ ∀ x : Str, x ≠ "__name__" → mb x = bootBuiltins x
 nolimit : base.NoLimit
structure Cx where
 prog : Program
 w : World
 K : PySem.W.Frag
 mg : Str → Option Value
 base : Heap
 A : Around
 N : List Str
 s₀ : Shared
 H₀ : Hp
 env : Env
 outer : List Env
 stack : List Env
 ex : List Addr
 fn : Str → Bool
 calm : Bool
 pn : List (Addr × Obj)
 xe : Value → Shared → Prop
def frs (l : List Env) : List Addr := l.filterMap (·.frame)
abbrev Cx.fs (X : Cx) : List Addr := frs X.outer
def Vis (sc : Scope) (x : Str) : Prop := sc.names.lookup x = some .local ∨ sc.names.lookup x = some .cell ∨ sc.names.lookup x = some .free
def Loc (sc : Scope) (x : Str) : Prop := sc.names.lookup x = some .local ∨ sc.names.lookup x = some .cell
def Look (env : Env) (h : Heap) (m : Str → Option Value) (x : Str) (u : Value) : Prop :=
 (env.kindOf x = some .local ∧ m x = some u) ∨ ((env.kindOf x = some .cell ∨ env.kindOf x = some .free) ∧ ∃ c, env.cells.lookup x = some c ∧ h.IsCell c (some u))
structure Cx.Ok (X : Cx) : Prop where
 mod : Mod X.K X.mg X.base
 kind : X.env.scope.kind = .function
 glob : X.env.globals = mainGlobals
 blt : X.env.builtins = builtinsNs
 above : X.s₀.heap.objs.size ≤ X.env.locals
 inj : ∀ x y c, X.env.cells.lookup x = some c → X.env.cells.lookup y = some c → x = y
 has : ∀ x, (X.env.kindOf x = some .cell ∨ X.env.kindOf x = some .free) → ∃ c, X.env.cells.lookup x = some c
 cab : ∀ x c, X.fn x = true → X.env.cells.lookup x = some c → X.s₀.heap.objs.size ≤ c
 hd : X.calm = true → X.A.handled = none
 frames : X.A.frames = some X.stack
 stk : X.stack = X.outer ∨ (X.stack = X.env :: X.outer ∧ X.env.frame = some X.env.locals)
 exf : ∀ b ∈ X.ex, b ≠ X.env.locals ∧ ∀ x c, X.env.cells.lookup x = some c → c ≠ b
 bs : ∀ b o, X.base.get? b = some o → X.s₀.heap.get? b = some o ∧ X.H₀ b = none
 bsz : X.base.objs.size ≤ X.s₀.heap.objs.size
 noex : ∀ b o, X.base.get? b = some o → b ∉ X.ex
 exfs : ∀ b ∈ X.ex, b ∉ X.fs
 funs : X.s₀.heap.FunFrames X.base X.outer
 frf : ∀ b ∈ X.fs, X.H₀ b = none
structure Inv (X : Cx) (pins : List (Addr × Obj)) (σ : List (Option V)) (H : Hp) (s : Shared) : Prop where
 ok : X.Ok
 os : s.os = X.s₀.os
 bare : AllBare s.gens
 base : Un X.fs X.ex X.H₀ H X.s₀.heap s.heap
 loc : ∃ m, s.heap.Ns X.env.locals m ∧ ∀ (i : Nat) (x : Str) (v : V), X.N[i]? = some x → σ[i]? = some (some v) → Vis X.env.scope x → ∃ u, RelV v u ∧ Look X.env s.heap m x u
 cell : ∀ x c, X.env.cells.lookup x = some c → ∃ v, s.heap.IsCell c v
 free : H X.env.locals = none
 freeC : ∀ x c, X.env.cells.lookup x = some c → H c = none
 pin : ∀ p ∈ X.pn ++ pins, s.heap.get? p.1 = some p.2 ∧ H p.1 = none ∧ p.1 ≠ X.env.locals ∧ p.1 ∉ X.fs ∧ ∀ v, p.2.data ≠ .cell v
 hok : HOk X.prog X.w H s.heap
 len : σ.length = X.N.length
section
variable {X : Cx} {pins : List (Addr × Obj)} {σ : List (Option V)} {H H' : Hp} {s : Shared} {h' : Heap}
theorem Cx.Ok.nofr (ok : X.Ok) {b : Addr} {o : Obj} (e : X.base.get? b = some o) : b ∉ X.fs := fun hb => by
 have := (ok.funs.mem hb).1
 rw [e] at this; cases this
theorem Inv.bs (I : Inv X pins σ H s) : ∀ b o, X.base.get? b = some o → s.heap.get? b = some o ∧ H b = none := fun b o e =>
 ⟨I.base.keep b o (I.ok.bs b o e).1 (I.ok.bs b o e).2 (I.ok.nofr e) (I.ok.noex b o e), I.base.free b o (I.ok.bs b o e).1 (I.ok.bs b o e).2 (I.ok.noex b o e)⟩
theorem Inv.bk (I : Inv X pins σ H s) : ∀ b o, X.base.get? b = some o → s.heap.get? b = some o := fun b o e => (I.bs b o e).1
theorem Inv.mod (I : Inv X pins σ H s) : Mod X.K X.mg X.base := I.ok.mod
theorem Inv.kIn (I : Inv X pins σ H s) : X.K.In s.heap := I.ok.mod.kin.keeps I.bk
theorem Inv.lt (I : Inv X pins σ H s) : X.env.locals < s.heap.objs.size := let ⟨_, hn, _⟩ := I.loc; hn.lt
theorem Inv.sz (I : Inv X pins σ H s) : X.s₀.heap.objs.size ≤ s.heap.objs.size := Nat.le_trans I.ok.above (Nat.le_of_lt I.lt)
theorem Inv.nofs (I : Inv X pins σ H s) {a : Addr} (h : s.heap.objs.size ≤ a) : a ∉ X.fs := fun hb => by
 obtain ⟨_, o, ho, _⟩ := I.ok.funs.mem hb
 exact absurd (Nat.lt_of_lt_of_le (Heap.lt_size ho) (Nat.le_trans I.sz h)) (Nat.lt_irrefl _)
theorem Inv.cne (I : Inv X pins σ H s) : ∀ x c, X.env.cells.lookup x = some c → c ≠ X.env.locals := fun x c e z => by
 obtain ⟨v, o, ho, hd⟩ := I.cell x c e
 obtain ⟨m, ⟨o', es, ep, ho', hd', _⟩, _⟩ := I.loc
 rw [z, ho'] at ho; cases ho; rw [hd'] at hd; cases hd
theorem Inv.funs (I : Inv X pins σ H s) : s.heap.FunFrames X.base X.outer := by
 have all : ∀ (l : List Env), (∀ b ∈ frs l, b ∈ X.fs) → X.s₀.heap.FunFrames X.base l → s.heap.FunFrames X.base l := by
  intro l
  induction l with
  | nil => intro _ _; trivial
  | cons env r ih =>
   intro hs hl
   obtain ⟨hk, ⟨L, o, hf, hn, ho, hd⟩, hr⟩ := hl
   have hL : L ∈ X.fs := hs L (by unfold frs; rw [List.filterMap_cons, hf]; exact List.mem_cons_self)
   obtain ⟨sl, e⟩ := I.base.slot L o ho (I.ok.frf L hL) hL fun z => I.ok.exfs L z hL
   exact ⟨hk, ⟨L, _, hf, hn, e, hd⟩, ih (fun b hb => hs b (by unfold frs; rw [List.filterMap_cons, hf]; exact List.mem_cons_of_mem _ hb)) hr⟩
 exact all X.outer (fun _ hb => hb) I.ok.funs
theorem Inv.stack (I : Inv X pins σ H s) : s.heap.FunFrames X.base X.stack := by
 rcases I.ok.stk with e | ⟨e, hf⟩
 ·rw [e]; exact I.funs
 ·rw [e]
  obtain ⟨m, hn, _⟩ := I.loc
  refine .cons (by rw [I.ok.kind]; decide) hf hn ?_ I.funs
  exact Heap.get?_none_of_le (Nat.le_trans I.ok.bsz I.ok.above)
theorem Inv.stkSub (I : Inv X pins σ H s) : ∀ b ∈ frs X.stack, b ∈ X.env.locals :: X.fs := fun b hb => by
 rcases I.ok.stk with e | ⟨e, hf⟩
 ·rw [e] at hb; exact List.mem_cons_of_mem _ hb
 ·rw [e] at hb
  unfold frs at hb
  rw [List.filterMap_cons, hf] at hb
  exact hb
theorem Inv.stkFree (I : Inv X pins σ H s) : ∀ b ∈ frs X.stack, H b = none := fun b hb => by
 rcases List.mem_cons.mp (I.stkSub b hb) with e | hb
 ·rw [e]; exact I.free
 ·obtain ⟨_, o, ho, _⟩ := I.ok.funs.mem hb
  exact I.base.free b o ho (I.ok.frf b hb) fun z => I.ok.exfs b z hb
theorem Inv.step {g' : Array GenState} {t' : Nat} {d' : Drawn} {ch : List Addr} (I : Inv X pins σ H s)
  (hch : ∀ b ∈ ch, (b ∈ X.ex ∨ X.s₀.heap.objs.size ≤ b) ∧ b ≠ X.env.locals ∧ (∀ x c, X.env.cells.lookup x = some c → c ≠ b) ∧ ∀ p ∈ X.pn ++ pins, p.1 ≠ b)
  (keep : ∀ b o, b ≠ X.env.locals → b ∉ X.fs → b ∉ ch → s.heap.get? b = some o → H b = none → h'.get? b = some o)
  (slot : ∀ b o, b ≠ X.env.locals → b ∈ X.fs → b ∉ ch → s.heap.get? b = some o → H b = none → ∃ sl, h'.get? b = some { o with slots := sl }) (free : ∀ b o, b ∉ ch → s.heap.get? b = some o → H b = none → H' b = none)
  (there : ∀ b o, b ∉ ch → s.heap.get? b = some o → ∃ o', h'.get? b = some o')
  (tups : ∀ b xs, H b = some (.tup xs) → H' b = some (.tup xs)) (frzs : ∀ b o u, H b = some (.frz o u) → H' b = some (.frz o u)) (tbls : ∀ b ps, H b = some (.tbl ps) → ∃ more, H' b = some (.tbl (ps ++ more)))
  (ns : ∀ m, s.heap.Ns X.env.locals m → h'.Ns X.env.locals m) (hok : HOk X.prog X.w H' h') (hg : AllBare g') :
  Inv X pins σ H' { s with heap := h', gens := g', drawn := d', toks := t' } := by
 have neL : ∀ b o, X.s₀.heap.get? b = some o → b ≠ X.env.locals := fun b o e => Nat.ne_of_lt (Nat.lt_of_lt_of_le (Heap.lt_size e) I.ok.above)
 have neC : ∀ b o, X.s₀.heap.get? b = some o → b ∉ X.ex → b ∉ ch := fun b o e hx hb => by
  rcases (hch b hb).1 with z | z
  ·exact hx z
  ·exact absurd (Nat.lt_of_lt_of_le (Heap.lt_size e) z) (Nat.lt_irrefl _)
 have cellK : ∀ x c, X.env.cells.lookup x = some c → ∀ v, s.heap.IsCell c v → h'.IsCell c v := fun x c e v ⟨o, ho, hd⟩ => by
  have nch : c ∉ ch := fun z => (hch c z).2.2.1 x c e rfl
  by_cases hc : c ∈ X.fs
  ·obtain ⟨sl, q⟩ := slot c o (I.cne x c e) hc nch ho (I.freeC x c e)
   exact ⟨_, q, hd⟩
  ·exact ⟨o, keep c o (I.cne x c e) hc nch ho (I.freeC x c e), hd⟩
 refine ⟨I.ok, I.os, hg, ⟨fun b o e n hb hx => ?_, fun b o e n hb hx => ?_, fun b o e n hx => ?_, fun b o e hx => ?_, fun b xs e => tups b xs (I.base.tups b xs e), fun b o xs e => frzs b o xs (I.base.frzs b o xs e), fun b ps e => ?_⟩, ?_, fun x c e => ?_, ?_, fun x c e => ?_, fun p hp => ?_, hok, I.len⟩
 ·exact keep b o (neL b o e) hb (neC b o e hx) (I.base.keep b o e n hb hx) (I.base.free b o e n hx)
 ·obtain ⟨sl, e1⟩ := I.base.slot b o e n hb hx
  obtain ⟨sl', e2⟩ := slot b _ (neL b o e) hb (neC b o e hx) e1 (I.base.free b o e n hx)
  exact ⟨sl', e2⟩
 ·obtain ⟨o', e1⟩ := I.base.there b o e hx
  exact free b o' (neC b o e hx) e1 (I.base.free b o e n hx)
 ·obtain ⟨o', e1⟩ := I.base.there b o e hx
  exact there b o' (neC b o e hx) e1
 ·obtain ⟨m1, e1⟩ := I.base.tbls b ps e
  obtain ⟨m2, e2⟩ := tbls b _ e1
  exact ⟨m1 ++ m2, by rw [e2, Array.append_assoc]⟩
 ·obtain ⟨m, hn, hl⟩ := I.loc
  refine ⟨m, ns m hn, fun i x v e1 e2 e3 => ?_⟩
  obtain ⟨u, r, l⟩ := hl i x v e1 e2 e3
  refine ⟨u, r, ?_⟩
  rcases l with l | ⟨k, c, e, z⟩
  ·exact .inl l
  ·exact .inr ⟨k, c, e, cellK x c e _ z⟩
 ·obtain ⟨v, z⟩ := I.cell x c e
  exact ⟨v, cellK x c e v z⟩
 ·obtain ⟨m, ⟨o, _, _, ho, _⟩, _⟩ := I.loc
  exact free _ o (fun z => (hch _ z).2.1 rfl) ho I.free
 ·obtain ⟨v, o, ho, hd⟩ := I.cell x c e
  exact free c o (fun z => (hch c z).2.2.1 x c e rfl) ho (I.freeC x c e)
 ·obtain ⟨e, n, ne, nf, d⟩ := I.pin p hp
  have nch : p.1 ∉ ch := fun z => (hch p.1 z).2.2.2 p hp rfl
  exact ⟨keep p.1 p.2 ne nf nch e n, free p.1 p.2 nch e n, ne, nf, d⟩
theorem Inv.un {t' : Nat} (I : Inv X pins σ H s) (u : Un X.fs [] H H' s.heap h') (hok : HOk X.prog X.w H' h') : Inv X pins σ H' { s with heap := h', toks := t' } := by
 obtain ⟨m, ⟨o, es, ep, ho, r⟩, _⟩ := id I.loc
 obtain ⟨sl, hL⟩ := u.any ho I.free (by simp)
 exact I.step (g' := s.gens) (d' := s.drawn) (ch := []) (fun _ z => nomatch z) (fun b o _ hb _ e n => u.keep b o e n hb (by simp)) (fun b o _ hb _ e n => u.slot b o e n hb (by simp)) (fun b o _ e n => u.free b o e n (by simp)) (fun b o _ e => u.there b o e (by simp)) u.tups u.frzs u.tbls (fun m' hm => by
  obtain ⟨o', es', ep', ho', r'⟩ := hm
  rw [ho] at ho'; cases ho'
  exact ⟨_, es', ep', hL, r'⟩) hok I.bare
theorem Inv.call {g' : Array GenState} {t' : Nat} {d' : Drawn} {ch : List Addr} (I : Inv X pins σ H s) (u : Un (frs X.stack) ch H H' s.heap h') (hok : HOk X.prog X.w H' h') (hg : AllBare g')
  (hch : ∀ b ∈ ch, (b ∈ X.ex ∨ X.s₀.heap.objs.size ≤ b) ∧ b ≠ X.env.locals ∧ (∀ x c, X.env.cells.lookup x = some c → c ≠ b) ∧ ∀ p ∈ X.pn ++ pins, p.1 ≠ b) :
  Inv X pins σ H' { s with heap := h', gens := g', drawn := d', toks := t' } := by
 obtain ⟨m, ⟨o, es, ep, ho, r⟩, _⟩ := id I.loc
 obtain ⟨sl, hL⟩ := u.any ho I.free fun z => (hch _ z).2.1 rfl
 exact I.step (ch := ch) hch (fun b o hL hb hc e n => u.keep b o e n (fun z => (List.mem_cons.mp (I.stkSub b z)).elim hL hb) hc) (fun b o _ _ hc e n => u.any e n hc) (fun b o hc e n => u.free b o e n hc) (fun b o hc e => u.there b o e hc) u.tups u.frzs u.tbls (fun m' hm => by
  obtain ⟨o', es', ep', ho', r'⟩ := hm
  rw [ho] at ho'; cases ho'
  exact ⟨_, es', ep', hL, r'⟩) hok hg
theorem Inv.turned {t' : Nat} {it : Addr} (I : Inv X pins σ H s) (k : ∀ b o, b ≠ it → s.heap.get? b = some o → h'.get? b = some o) (hn : H it = none) (hL : it ≠ X.env.locals)
  (h1 : it ∈ X.ex ∨ X.s₀.heap.objs.size ≤ it) (h2 : ∀ x c, X.env.cells.lookup x = some c → c ≠ it) (h3 : ∀ p ∈ X.pn ++ pins, p.1 ≠ it) : Inv X pins σ H { s with heap := h', toks := t' } := by
 have nit : ∀ b u, H b = some u → b ≠ it := fun b u e z => by rw [z, hn] at e; cases e
 refine I.step (g' := s.gens) (d' := s.drawn) (ch := [it]) (fun b hb => ?_) (fun b o _ _ hc e _ => k b o (fun z => hc (by simp [z])) e) (fun b o _ _ hc e _ => ⟨o.slots, k b o (fun z => hc (by simp [z])) e⟩) (fun _ _ _ _ n => n)
  (fun b o hc e => ⟨o, k b o (fun z => hc (by simp [z])) e⟩) (fun _ _ e => e) (fun _ _ _ e => e) (fun b ps e => ⟨#[], by rw [e]; simp⟩) (fun m hm => ?_) (fun b u e => ?_) I.bare
 ·have e : b = it := by simpa using hb
  subst e
  exact ⟨h1, hL, h2, h3⟩
 ·obtain ⟨o, es, ep, ho, r⟩ := hm
  exact ⟨o, es, ep, k _ o (Ne.symm hL) ho, r⟩
 ·refine (I.hok b u e).stay (fun c v hc q => k c v ?_ q) (fun _ q => q) fun _ _ q => q
  rcases hc with z | z
  ·rw [z]; exact nit b u e
  ·exact nit c _ z
theorem Inv.tok (I : Inv X pins σ H s) (t : Nat) : Inv X pins σ H { s with toks := t } := I.un (h' := s.heap) (t' := t) Un.refl I.hok
theorem Inv.kept {t' : Nat} (I : Inv X pins σ H s) (k : ∀ b u, s.heap.get? b = some u → h'.get? b = some u) : Inv X pins σ H { s with heap := h', toks := t' } := I.un (Un.kept k) (I.hok.kept k)
theorem Inv.laid {a : Addr} {o : HO} {t' : Nat} (I : Inv X pins σ H s) (k : ∀ b u, s.heap.get? b = some u → h'.get? b = some u) (hp : s.heap.objs.size ≤ a) (new : ObjOk X.prog X.w (upd H a o) h' a o) :
  Inv X pins σ (upd H a o) { s with heap := h', toks := t' } := I.un (Un.laid k hp (I.hok.fresh hp)) (I.hok.laid k hp new)
theorem Inv.write {x e : Addr} {o : HO} {t' : Nat} (I : Inv X pins σ H s) (mu : Mut (H x)) (he : e = x ∨ H e = some (.own x)) (k : ∀ b u, b ≠ e → s.heap.get? b = some u → h'.get? b = some u) (heo : ∃ u, h'.get? e = some u)
  (new : ObjOk X.prog X.w (upd H x o) h' x o) : Inv X pins σ (upd H x o) { s with heap := h', toks := t' } := I.un (Un.write mu he k heo) (I.hok.write mu he k heo new)
theorem Inv.pins_of {pins' : List (Addr × Obj)} (I : Inv X pins σ H s) (h : ∀ p ∈ pins', s.heap.get? p.1 = some p.2 ∧ H p.1 = none ∧ p.1 ≠ X.env.locals ∧ p.1 ∉ X.fs ∧ ∀ v, p.2.data ≠ .cell v) : Inv X pins' σ H s :=
 ⟨I.ok, I.os, I.bare, I.base, I.loc, I.cell, I.free, I.freeC, fun p hp => (List.mem_append.mp hp).elim (fun z => I.pin p (List.mem_append_left _ z)) (h p), I.hok, I.len⟩
theorem nodup_ix {N : List Str} (hN : N.Nodup) {i j : Nat} {x : Str} (a : N[i]? = some x) (b : N[j]? = some x) : i = j := by
 obtain ⟨h1, e1⟩ := List.getElem?_eq_some_iff.mp a
 obtain ⟨h2, e2⟩ := List.getElem?_eq_some_iff.mp b
 exact (List.getElem_inj hN).mp (e1.trans e2.symm)
theorem store_ok2 {M : Model} {A : Around} {E : Value → Shared → Prop} {i : Nat} {x : Str} {v : V} {u : Value} {Q : Unit → Shared → Prop} (I : Inv X pins σ H s) (hN : X.N.Nodup) (hi : X.N[i]? = some x) (hx : Loc X.env.scope x) (r : RelV v u)
  (h : ∀ s', Inv X pins (σ.set i (some v)) H s' → (∃ a, Heap.SameBut a s.heap s'.heap ∧ (a = X.env.locals ∨ X.env.cells.lookup x = some a)) → Q () s') (hf : X.fn x = true ∨ X.env.scope.names.lookup x = some .local := by first | exact .inl rfl | exact .inr rfl | assumption) : wpAny M A (storeName X.env x u) Q E s := by
 obtain ⟨m, hn, hl⟩ := id I.loc
 have hcls : (X.env.scope.kind == .class || (X.env.scope.kind == .module && X.env.locals != X.env.globals)) = false := by rw [I.ok.kind]; rfl
 have hiσ : i < σ.length := by rw [I.len]; exact (List.getElem?_eq_some_iff.mp hi).1
 have cne := I.cne
 have tracked : ∀ {a : Addr} {h' : Heap}, (∃ o, s.heap.get? a = some o ∧ H a = none) → Heap.SameBut a s.heap h' → HOk X.prog X.w H h' := fun {a h'} ha hs b ob e => by
  obtain ⟨_, _, hfree⟩ := ha
  refine (I.hok b ob e).stay (fun c w' hc q => (hs.2 c ?_).trans q) (fun _ q => q) fun _ _ q => q
  rintro rfl
  rcases hc with rfl | hc
  ·rw [hfree] at e; cases e
  ·rw [hfree] at hc; cases hc
 rcases hx with hk | hk
 ·refine wpAny_storeName_local hk hn (fun h' hn' hs => ?_) hcls
  obtain ⟨oL, _, _, hoL, _⟩ := id hn
  refine h _ ⟨I.ok, I.os, I.bare, ⟨fun b o e n hb hx => ?_, fun b o e n hb hx => ?_, I.base.free, fun b o e hx => ?_, I.base.tups, I.base.frzs, I.base.tbls⟩, ⟨_, hn', fun j y v' e1 e2 e3 => ?_⟩, fun y c e => ?_, I.free, I.freeC, fun p hp => ?_, tracked ⟨oL, hoL, I.free⟩ hs, by simpa using I.len⟩ ⟨_, hs, .inl rfl⟩
  ·exact (hs.2 b (Nat.ne_of_lt (Nat.lt_of_lt_of_le (Heap.lt_size e) I.ok.above))).trans (I.base.keep b o e n hb hx)
  ·obtain ⟨sl, e1⟩ := I.base.slot b o e n hb hx
   exact ⟨sl, (hs.2 b (Nat.ne_of_lt (Nat.lt_of_lt_of_le (Heap.lt_size e) I.ok.above))).trans e1⟩
  ·obtain ⟨o', e1⟩ := I.base.there b o e hx
   exact ⟨o', (hs.2 b (Nat.ne_of_lt (Nat.lt_of_lt_of_le (Heap.lt_size e) I.ok.above))).trans e1⟩
  ·by_cases hj : j = i
   ·subst hj
    rw [hi] at e1; cases e1
    rw [List.getElem?_set_self hiσ] at e2
    cases e2
    exact ⟨u, r, .inl ⟨hk, by simp⟩⟩
   ·rw [List.getElem?_set_ne (Ne.symm hj)] at e2
    obtain ⟨u', r', q⟩ := hl j y v' e1 e2 e3
    refine ⟨u', r', ?_⟩
    rcases q with ⟨k, e⟩ | ⟨k, c, e, z⟩
    ·refine .inl ⟨k, ?_⟩
     have : y ≠ x := fun e => hj (nodup_ix hN e1 (e ▸ hi))
     simp [this, e]
    ·exact .inr ⟨k, c, e, z.sameBut hs (cne y c e)⟩
  ·obtain ⟨w', z⟩ := I.cell y c e
   exact ⟨w', z.sameBut hs (cne y c e)⟩
  ·obtain ⟨e, n, ne, nf, d⟩ := I.pin p hp
   exact ⟨(hs.2 p.1 ne).trans e, n, ne, nf, d⟩
 ·have hfn : X.fn x = true := by
   rcases hf with z | z
   ·exact z
   ·rw [z] at hk; cases hk
  obtain ⟨c, hc⟩ := I.ok.has x (.inl hk)
  obtain ⟨w', z⟩ := I.cell x c hc
  refine wpAny_storeName_cell I.ok.kind hk hc z (fun h' hc' hs => ?_)
  obtain ⟨oc, hoc, hocd⟩ := id z
  refine h { s with heap := h' } ⟨I.ok, I.os, I.bare, ⟨fun b o e n hb hx => ?_, fun b o e n hb hx => ?_, I.base.free, fun b o e hx => ?_, I.base.tups, I.base.frzs, I.base.tbls⟩, ⟨m, hn.sameBut hs (Ne.symm (cne x c hc)), fun j y v' e1 e2 e3 => ?_⟩, fun y c' e => ?_, I.free, I.freeC, fun p hp => ?_, tracked ⟨oc, hoc, I.freeC x c hc⟩ hs, by simpa using I.len⟩ ⟨c, hs, .inr hc⟩
  ·exact (hs.2 b (Nat.ne_of_lt (Nat.lt_of_lt_of_le (Heap.lt_size e) (I.ok.cab x c hfn hc)))).trans (I.base.keep b o e n hb hx)
  ·obtain ⟨sl, e1⟩ := I.base.slot b o e n hb hx
   exact ⟨sl, (hs.2 b (Nat.ne_of_lt (Nat.lt_of_lt_of_le (Heap.lt_size e) (I.ok.cab x c hfn hc)))).trans e1⟩
  ·obtain ⟨o', e1⟩ := I.base.there b o e hx
   exact ⟨o', (hs.2 b (Nat.ne_of_lt (Nat.lt_of_lt_of_le (Heap.lt_size e) (I.ok.cab x c hfn hc)))).trans e1⟩
  ·by_cases hj : j = i
   ·subst hj
    rw [hi] at e1; cases e1
    rw [List.getElem?_set_self hiσ] at e2
    cases e2
    exact ⟨u, r, .inr ⟨.inl hk, c, hc, hc'⟩⟩
   ·rw [List.getElem?_set_ne (Ne.symm hj)] at e2
    obtain ⟨u', r', q⟩ := hl j y v' e1 e2 e3
    refine ⟨u', r', ?_⟩
    rcases q with q | ⟨k, c', e, z'⟩
    ·exact .inl q
    ·refine .inr ⟨k, c', e, z'.sameBut hs ?_⟩
     rintro rfl
     exact hj (nodup_ix hN e1 (I.ok.inj _ _ _ e hc ▸ hi))
  ·by_cases hcc : c' = c
   ·subst hcc; exact ⟨_, hc'⟩
   ·obtain ⟨w2, z2⟩ := I.cell y c' e
    exact ⟨w2, z2.sameBut hs hcc⟩
  ·obtain ⟨e, n, ne, nf, d⟩ := I.pin p hp
   refine ⟨(hs.2 p.1 ?_).trans e, n, ne, nf, d⟩
   intro q
   rw [q, hoc] at e
   have q' : oc = p.2 := Option.some.inj e
   exact d w' (by rw [← q']; exact hocd)
theorem store_ok {M : Model} {A : Around} {E : Value → Shared → Prop} {i : Nat} {x : Str} {v : V} {u : Value} {Q : Unit → Shared → Prop} (I : Inv X pins σ H s) (hN : X.N.Nodup) (hi : X.N[i]? = some x) (hx : Loc X.env.scope x) (r : RelV v u)
  (h : ∀ s', Inv X pins (σ.set i (some v)) H s' → Q () s') (hf : X.fn x = true ∨ X.env.scope.names.lookup x = some .local := by first | exact .inl rfl | exact .inr rfl | assumption) : wpAny M A (storeName X.env x u) Q E s :=
 store_ok2 I hN hi hx r (fun s' I' _ => h s' I') hf
theorem Inv.call' {s' : Shared} {ch : List Addr} (I : Inv X pins σ H s) (ho : s'.os = s.os) (u : Un (frs X.stack) ch H H' s.heap s'.heap) (hok : HOk X.prog X.w H' s'.heap) (hg : AllBare s'.gens)
  (hch : ∀ b ∈ ch, (b ∈ X.ex ∨ X.s₀.heap.objs.size ≤ b) ∧ b ≠ X.env.locals ∧ (∀ x c, X.env.cells.lookup x = some c → c ≠ b) ∧ ∀ p ∈ X.pn ++ pins, p.1 ≠ b) : Inv X pins σ H' s' := by
 obtain ⟨h', g', d', t', o'⟩ := s'
 have e : o' = s.os := ho
 subst e
 exact I.call (g' := g') (t' := t') (d' := d') u hok hg hch
end
abbrev XK := Value → Option Addr → Hp → Prop
abbrev St := List (Option V)
abbrev VK := V → Hp → Prop
abbrev TE := St → Hp → VK → Prop
abbrev TT := St → Hp → (Bool → Hp → Prop) → Prop
abbrev TA := St → Hp → (List V → Hp → Prop) → Prop
structure Ends where
 nx : St → Hp → Prop
 rt : VK
 bk : St → Hp → Prop := fun _ _ => False
 ct : St → Hp → Prop := fun _ _ => False
abbrev TS := Ends → St → Hp → Prop
def EP (X : Cx) (pins : List (Addr × Obj)) (σ : St) (Q : VK) (u : Value) (s' : Shared) : Prop := ∃ v H', Inv X pins σ H' s' ∧ RelV v u ∧ Q v H'
def TP (X : Cx) (pins : List (Addr × Obj)) (σ : St) (Q : Bool → Hp → Prop) (b : Bool) (s' : Shared) : Prop := ∃ H', Inv X pins σ H' s' ∧ Q b H'
def AP (X : Cx) (pins : List (Addr × Obj)) (σ : St) (Q : List V → Hp → Prop) (us : List Value) (s' : Shared) : Prop := ∃ vs H', Inv X pins σ H' s' ∧ Vals vs us ∧ Q vs H'
def SP (X : Cx) (pins : List (Addr × Obj)) (D : Ends) (f : Flow) (s' : Shared) : Prop :=
 match f with
 | .next => ∃ σ' H', Inv X pins σ' H' s' ∧ D.nx σ' H'
 | .brk => ∃ σ' H', Inv X pins σ' H' s' ∧ D.bk σ' H'
 | .cont => ∃ σ' H', Inv X pins σ' H' s' ∧ D.ct σ' H'
 | .ret u => ∃ v σ' H', Inv X pins σ' H' s' ∧ RelV v u ∧ D.rt v H'
def PE (X : Cx) (e : Expr) (t : TE) : Prop :=
 ∀ (pins : List (Addr × Obj)) (s : Shared) (σ : St) (H : Hp) (Q : VK), Inv X pins σ H s → t σ H Q → wpAny (model X.prog X.w) X.A (eval e X.env) (EP X pins σ Q) X.xe s
def PT (X : Cx) (e : Expr) (t : TT) : Prop :=
 ∀ (pins : List (Addr × Obj)) (s : Shared) (σ : St) (H : Hp) (Q : Bool → Hp → Prop), Inv X pins σ H s → t σ H Q → wpAny (model X.prog X.w) X.A (isTrue e X.env (eval e X.env)) (TP X pins σ Q) X.xe s
def PW (X : Cx) (e : Expr) (t : TT) : Prop :=
 ∀ (whole : Sem Value) (pins : List (Addr × Obj)) (s : Shared) (σ : St) (H : Hp) (Q : Bool → Hp → Prop), Inv X pins σ H s → t σ H Q → wpAny (model X.prog X.w) X.A (isTrue e X.env whole) (TP X pins σ Q) X.xe s
theorem PW.pt {X : Cx} {e : Expr} {t : TT} (h : PW X e t) : PT X e t := h _
def PA (X : Cx) (es : List Expr) (t : TA) : Prop :=
 ∀ (pos : Pos) (pins : List (Addr × Obj)) (s : Shared) (σ : St) (H : Hp) (Q : List V → Hp → Prop), Inv X pins σ H s → t σ H Q → wpAny (model X.prog X.w) X.A (spliced (backTo pos (starEach es X.env))) (AP X pins σ Q) X.xe s
def PS (X : Cx) (st : Stmt) (t : TS) : Prop :=
 ∀ (pins : List (Addr × Obj)) (s : Shared) (σ : St) (H : Hp) (D : Ends), Inv X pins σ H s → t D σ H → wpAny (model X.prog X.w) X.A (exec st X.env) (SP X pins D) X.xe s
def PSs (X : Cx) (st : List Stmt) (t : TS) : Prop :=
 ∀ (pins : List (Addr × Obj)) (s : Shared) (σ : St) (H : Hp) (D : Ends), Inv X pins σ H s → t D σ H → wpAny (model X.prog X.w) X.A (execs st X.env) (SP X pins D) X.xe s
theorem thn {α : Type} {t : Sem α} {Q Q' : α → Shared → Prop} {M : Model} {A : Around} {E : Value → Shared → Prop} {s : Shared} (h : wpAny M A t Q E s) (hQ : ∀ a s, Q a s → Q' a s) : wpAny M A t Q' E s := wpAny_mono h hQ fun _ _ x => x
end L2
namespace L2
open PySem PySem.Spec PyProof.Rows
section
variable {X : Cx}
def tVar (i : Nat) : TE := fun σ H Q => ∃ v, σ[i]? = some (some v) ∧ Q v H
def tC (v : V) : TE := fun _ H Q => Q v H
theorem pe_var {i : Nat} {x : Str} {pos : Pos} (hN : X.N[i]? = some x) (hv : Vis X.env.scope x) (hd : (x == ("__debug__" : Str)) = false := by decide) (hcd : (x == ("__classdict__" : Str)) = false := by decide) : PE X (.Name x pos) (tVar i) := by
 intro pins s σ H Q I h
 obtain ⟨v, e, h⟩ := h
 obtain ⟨m, hn, hl⟩ := I.loc
 obtain ⟨u, r, l⟩ := hl i x v hN e hv
 have fin : EP X pins σ Q u s := ⟨v, H, I, r, h⟩
 rcases l with ⟨hk, hm⟩ | ⟨hk, c, hc, hcell⟩
 ·exact wpAny_Name (wpAny_loadName_local I.ok.kind hk hn hm fin) hd
 ·rcases hk with hk | hk
  ·exact wpAny_Name (wpAny_loadName_cell I.ok.kind hk hc hcell fin) hd
  ·exact wpAny_Name (wpAny_loadName_free I.ok.kind hk hc hcell fin hcd) hd
theorem pe_int {i j pos} : PE X (.Constant (.int i) j pos) (tC (.int i)) := fun _ _ _ H _ I h => wpAny_Constant_int ⟨.int i, H, I.tok _, ⟨_, rfl⟩, h⟩
theorem pe_bl {b j pos} : PE X (.Constant (.bool b) j pos) (tC (.bl b)) := fun _ _ _ H _ I h => Constant_bool ⟨.bl b, H, I, rfl, h⟩
theorem pe_non {j pos} : PE X (.Constant .none j pos) (tC .non) := fun _ _ _ H _ I h => Constant_none ⟨.non, H, I, rfl, h⟩
theorem pe_str {x j pos} : PE X (.Constant (.str x) j pos) (tC (.str x)) := fun _ _ _ H _ I h => Calls.Constant_str ⟨.str x, H, I.tok _, ⟨_, rfl⟩, h⟩
def Gl (X : Cx) (x : Str) : Prop := X.env.kindOf x = some .globalImplicit
theorem ld_glob {E : Value → Shared → Prop} {pins : List (Addr × Obj)} {s : Shared} {σ : St} {H : Hp} {x : Str} {u : Value} {pos : Pos} {Q : Value → Shared → Prop} (I : Inv X pins σ H s) (hg : Gl X x) (hm : X.mg x = some u) (h : Q u s)
  (hd : (x == ("__debug__" : Str)) = false := by decide) : wpAny (model X.prog X.w) X.A (eval (.Name x pos) X.env) Q E s :=
 Calls.Name_function_global I.ok.kind hg (Calls.loadGlobal_global (by rw [I.ok.glob]; exact I.mod.glob.keeps I.bk) hm h) hd
theorem ld_blt {E : Value → Shared → Prop} {pins : List (Addr × Obj)} {s : Shared} {σ : St} {H : Hp} {x : Str} {u : Value} {pos : Pos} {Q : Value → Shared → Prop} (I : Inv X pins σ H s) (hg : Gl X x) (hm : X.mg x = none) (hv : bootBuiltins x = some u) (h : Q u s)
  (hn : x ≠ "__name__" := by decide) (hd : (x == ("__debug__" : Str)) = false := by decide) : wpAny (model X.prog X.w) X.A (eval (.Name x pos) X.env) Q E s := by
 obtain ⟨mb, h1, h2⟩ := I.mod.blt
 exact Calls.Name_function_global I.ok.kind hg (Calls.loadGlobal_builtin (by rw [I.ok.glob]; exact I.mod.glob.keeps I.bk) hm (by rw [I.ok.blt]; exact h1.keeps I.bk) ((h2 x hn).trans hv) h) hd
theorem pe_glob {x : Str} {v : V} {u : Value} {pos : Pos} (hg : Gl X x) (hm : X.mg x = some u) (r : RelV v u) (hd : (x == ("__debug__" : Str)) = false := by decide) : PE X (.Name x pos) (tC v) :=
 fun _ _ _ H _ I h => ld_glob I hg hm ⟨v, H, I, r, h⟩ hd
theorem pe_bltn {x : Str} {v : V} {u : Value} {pos : Pos} (hg : Gl X x) (hm : X.mg x = none) (hv : bootBuiltins x = some u) (r : RelV v u) (hn : x ≠ "__name__" := by decide) (hd : (x == ("__debug__" : Str)) = false := by decide) : PE X (.Name x pos) (tC v) :=
 fun _ _ _ H _ I h => ld_blt I hg hm hv ⟨v, H, I, r, h⟩ hn hd
variable {a b : Expr} {ta tb : TE} {pos : Pos}
def PC (X : Cx) (op : CmpOp) (a b : Expr) (t : TE) : Prop :=
 ∀ (pins : List (Addr × Obj)) (s : Shared) (σ : St) (H : Hp) (Q : VK), Inv X pins σ H s → t σ H Q →
  wpAny (model X.prog X.w) X.A (eval a X.env) (fun v s₁ => wpAny (model X.prog X.w) X.A (eval b X.env) (fun u s₂ => wpAny (model X.prog X.w) X.A (compareOp op v u) (EP X pins σ Q) X.xe s₂) X.xe s₁) X.xe s
theorem nobehind (b : Expr) {op : CmpOp} (h : op ≠ .In) (h2 : op ≠ .NotIn) : behindInMarks op b = false := by
 have e1 : (op == CmpOp.In) = false := by cases op <;> first | rfl | exact absurd rfl h
 have e2 : (op == CmpOp.NotIn) = false := by cases op <;> first | rfl | exact absurd rfl h2
 cases b <;> simp [behindInMarks, e1, e2]
def tIsN (ta : TE) : TE := fun σ H Q => ta σ H fun x H1 => Q (.bl (decide (x = .non))) H1
theorem RelV.none_iff {x : V} {v : Value} (r : RelV x v) : (v == Value.none) = decide (x = .non) := by
 cases x with
 | non => cases r; rfl
 | bl _ => cases r; rfl
 | int _ => obtain ⟨t, rfl⟩ := r; rfl
 | str _ => obtain ⟨t, rfl⟩ := r; rfl
 | byt _ => obtain ⟨t, rfl⟩ := r; rfl
 | flt _ => obtain ⟨t, rfl⟩ := r; rfl
 | ref _ => cases r; rfl
 | ty _ => cases r; rfl
theorem pc_isN {j pos'} (ha : PE X a ta) : PC X .Is a (.Constant .none j pos') (tIsN ta) := by
 intro pins s σ H Q I h
 refine thn (ha pins s σ H _ I h) fun v s1 ⟨x, H1, I1, r1, q1⟩ => ?_
 exact Constant_none (is_none_gen ⟨.bl _, H1, I1, by rw [r1.none_iff]; rfl, q1⟩)
def tB (t : TE) : TT := fun σ H Q => t σ H fun x H1 => ∃ c, x = .bl c ∧ Q c H1
theorem pe_cmp {op : CmpOp} {t : TE} (h : PC X op a b t) (h1 : behindInMarks op b = false := by first | exact nobehind _ (by decide) (by decide) | rfl) : PE X (.Compare a [op] [b] pos) t := fun pins s σ H Q I hw => wpAny_Compare1 (h pins s σ H Q I hw) h1
theorem pt_cmp {op : CmpOp} {t : TE} (h : PC X op a b t) (h1 : behindInMarks op b = false := by first | exact nobehind _ (by decide) (by decide) | rfl) : PT X (.Compare a [op] [b] pos) (tB t) := by
 intro pins s σ H Q I hw
 refine wpAny_isTrue_Compare1 (thn (h pins s σ H _ I hw) fun v s1 h1 => thn h1 fun u s2 h2 => thn h2 fun c s3 ⟨x, H1, I1, r1, q1⟩ => ?_) h1
 obtain ⟨d, rfl, q⟩ := q1
 cases r1
 exact wpAny_truthy_bool ⟨H1, I1, q⟩
theorem pt_val {e : Expr} {t : TE} (h : PE X e t) (he : ∀ whole, isTrue e X.env whole = (do let v ← whole; standAt e.pos; holding [v] (truthy v)) := by intro _; rfl) : PT X e (tB t) := by
 intro pins s σ H Q I hw
 refine isTrue_plain (thn (h pins s σ H _ I hw) fun v s1 ⟨x, H1, I1, r1, q1⟩ => ?_) (he _)
 obtain ⟨d, rfl, q⟩ := q1
 cases r1
 exact wpAny_truthy_bool ⟨H1, I1, q⟩
variable {tA tB' : TT} {rest : List Expr}
def tAnd (t u : TT) : TT := fun σ H Q => t σ H fun c H1 => if c = true then u σ H1 Q else Q false H1
def tOr (t u : TT) : TT := fun σ H Q => t σ H fun c H1 => if c = true then Q true H1 else u σ H1 Q
def tNot (t : TT) : TT := fun σ H Q => t σ H fun c H1 => Q (!c) H1
theorem pw_and1 (ha : PT X a tA) : PW X (.BoolOp .And [a] pos) tA := by
 intro wh pins s σ H Q I h
 refine isTrue_and (thn (ha pins s σ H Q I h) fun c s1 e => ?_)
 cases c with
 | true => exact isTrue_and_nil e
 | false => exact e
theorem pw_or1 (ha : PT X a tA) : PW X (.BoolOp .Or [a] pos) tA := by
 intro wh pins s σ H Q I h
 refine isTrue_or (thn (ha pins s σ H Q I h) fun c s1 e => ?_)
 cases c with
 | false => exact isTrue_or_nil e
 | true => exact e
theorem pw_and (ha : PT X a tA) (hb : PW X (.BoolOp .And (b :: rest) pos) tB') : PW X (.BoolOp .And (a :: b :: rest) pos) (tAnd tA tB') := by
 intro wh pins s σ H Q I h
 refine isTrue_and (thn (ha pins s σ H _ I h) fun c s1 ⟨H1, I1, q1⟩ => ?_)
 cases c with
 | true => exact hb wh pins s1 σ H1 Q I1 q1
 | false => exact ⟨H1, I1, q1⟩
theorem pw_or (ha : PT X a tA) (hb : PW X (.BoolOp .Or (b :: rest) pos) tB') : PW X (.BoolOp .Or (a :: b :: rest) pos) (tOr tA tB') := by
 intro wh pins s σ H Q I h
 refine isTrue_or (thn (ha pins s σ H _ I h) fun c s1 ⟨H1, I1, q1⟩ => ?_)
 cases c with
 | true => exact ⟨H1, I1, q1⟩
 | false => exact hb wh pins s1 σ H1 Q I1 q1
theorem pt_not (ha : PT X a tA) : PT X (.UnaryOp .Not a pos) (tNot tA) := by
 intro pins s σ H Q I h
 exact isTrue_not (ha pins s σ H (fun c H1 => Q (!c) H1) I h)
def tAndV (ta tb : TE) : TE := fun σ H Q => ta σ H fun x H1 => ∃ c, x = .bl c ∧ if c = true then tb σ H1 Q else Q (.bl false) H1
def tOrV (ta tb : TE) : TE := fun σ H Q => ta σ H fun x H1 => ∃ c, x = .bl c ∧ if c = true then Q (.bl true) H1 else tb σ H1 Q
def tNotV (ta : TE) : TE := fun σ H Q => ta σ H fun x H1 => ∃ c, x = .bl c ∧ Q (.bl (!c)) H1
theorem pe_one {op} {t : TE} (h : PE X a t) : PE X (.BoolOp op [a] pos) t := fun pins s σ H Q I hw => BoolOp_one (h pins s σ H Q I hw)
theorem pe_and (ha : PE X a ta) (hb : PE X (.BoolOp .And (b :: rest) pos) tb) : PE X (.BoolOp .And (a :: b :: rest) pos) (tAndV ta tb) := by
 intro pins s σ H Q I h
 refine BoolOp_and (thn (ha pins s σ H _ I h) fun v s1 ⟨x, H1, I1, r1, q1⟩ => ?_)
 obtain ⟨c, rfl, q1⟩ := q1
 cases r1
 refine wpAny_truthy_bool ?_
 cases c with
 | true => exact hb pins s1 σ H1 Q I1 q1
 | false => exact ⟨.bl false, H1, I1, rfl, q1⟩
theorem pe_or (ha : PE X a ta) (hb : PE X (.BoolOp .Or (b :: rest) pos) tb) : PE X (.BoolOp .Or (a :: b :: rest) pos) (tOrV ta tb) := by
 intro pins s σ H Q I h
 refine BoolOp_or (thn (ha pins s σ H _ I h) fun v s1 ⟨x, H1, I1, r1, q1⟩ => ?_)
 obtain ⟨c, rfl, q1⟩ := q1
 cases r1
 refine wpAny_truthy_bool ?_
 cases c with
 | false => exact hb pins s1 σ H1 Q I1 q1
 | true => exact ⟨.bl true, H1, I1, rfl, q1⟩
theorem pe_not (ha : PE X a ta) : PE X (.UnaryOp .Not a pos) (tNotV ta) := by
 intro pins s σ H Q I h
 refine UnaryOp_ (thn (ha pins s σ H _ I h) fun v s1 ⟨x, H1, I1, r1, q1⟩ => ?_)
 obtain ⟨c, rfl, q1⟩ := q1
 cases r1
 exact not_of (wpAny_truthy_bool ⟨.bl (!c), H1, I1, rfl, q1⟩)
def tIf (t : TT) (ta tb : TE) : TE := fun σ H Q => t σ H fun c H1 => if c = true then ta σ H1 Q else tb σ H1 Q
theorem pe_ifExp {c : Expr} (hc : PT X c tA) (ha : PE X a ta) (hb : PE X b tb) : PE X (.IfExp c a b pos) (tIf tA ta tb) := by
 intro pins s σ H Q I h
 refine wpAny_IfExp (thn (hc pins s σ H _ I h) fun d s1 ⟨H1, I1, q1⟩ => ?_)
 cases d with
 | true => exact ha pins s1 σ H1 Q I1 q1
 | false => exact hb pins s1 σ H1 Q I1 q1
end
end L2
namespace L2
open PySem PySem.Spec PyProof.Rows
def SqL (K : PySem.W.Frag) (H : Hp) (a : Addr) (xs : List V) : Prop :=
 Rd H a (.lst xs) ∨
  ∃ (o : Obj) (its : Array Value) (n : Nat), K.lookup a = some o ∧ o.cls = .type "list" ∧ o.dict = none ∧ o.data = .seq its n ∧ its.size ≤ sizeLine ∧ Vals xs its.toList
def SqT (K : PySem.W.Frag) (H : Hp) (a : Addr) (xs : List V) : Prop :=
 Rd H a (.tup xs) ∨
  ∃ (o : Obj) (its : Array Value) (n : Nat), K.lookup a = some o ∧ o.cls = .type "tuple" ∧ o.data = .seq its n ∧ its.size ≤ sizeLine ∧ Vals xs its.toList
def absV : Value → Option V
 | .none => some .non
 | .bool b => some (.bl b)
 | .int i _ => some (.int i)
 | .str x _ => some (.str x)
 | .bytes b _ => some (.byt b)
 | .float b _ => some (.flt b)
 | .ref a => some (.ref a)
 | .type n => some (.ty n)
 | _ => none
theorem RelV.abs {x : V} {u : Value} (r : RelV x u) : absV u = some x := by
 cases x with
 | non => cases r; rfl
 | bl _ => cases r; rfl
 | int _ => obtain ⟨t, rfl⟩ := r; rfl
 | str _ => obtain ⟨t, rfl⟩ := r; rfl
 | byt _ => obtain ⟨t, rfl⟩ := r; rfl
 | flt _ => obtain ⟨t, rfl⟩ := r; rfl
 | ref _ => cases r; rfl
 | ty _ => cases r; rfl
theorem RelV.inj {x y : V} {u : Value} (r : RelV x u) (q : RelV y u) : x = y := Option.some.inj (r.abs.symm.trans q.abs)
theorem Vals.inj : ∀ {xs ys : List V} {us : List Value}, Vals xs us → Vals ys us → xs = ys
 | _, _, _, .nil, .nil => rfl
 | _, _, _, .cons r t, .cons r' t' => by rw [r.inj r', Vals.inj t t']
section
variable {X : Cx} {pins : List (Addr × Obj)} {σ : St} {H : Hp} {s : Shared} {a : Addr} {xs ys : List V}
theorem SqL.of {K : PySem.W.Frag} (h : H a = some (.lst xs)) : SqL K H a xs := .inl (.inl h)
theorem SqT.of {K : PySem.W.Frag} (h : H a = some (.tup xs)) : SqT K H a xs := .inl (.inl h)
theorem Inv.list (I : Inv X pins σ H s) (h : SqL X.K H a xs) : ∃ its : List Value, Vals xs its ∧ PlainL s.heap a its.toArray ∧ xs.length ≤ sizeLine := by
 rcases h with h | ⟨o, its, n, hk, hc, hd, hs, hz, r⟩
 ·obtain ⟨z, its, n, r, e⟩ := h.ok I.hok
  exact ⟨its, r, ⟨_, n, e, rfl, rfl, rfl⟩, z⟩
 ·refine ⟨its.toList, r, ⟨o, n, I.kIn a o hk, hc, hd, by simpa using hs⟩, ?_⟩
  have e := r.length
  simp only [Array.length_toList] at e
  omega
theorem Inv.tuple (I : Inv X pins σ H s) (h : SqT X.K H a xs) : ∃ its : List Value, Vals xs its ∧ IsTup s.heap a its.toArray ∧ xs.length ≤ sizeLine := by
 rcases h with h | ⟨o, its, n, hk, hc, hs, hz, r⟩
 ·obtain ⟨z, its, r, p⟩ := h.ok I.hok
  exact ⟨its, r, p, z⟩
 ·refine ⟨its.toList, r, ⟨o, I.kIn a o hk, hc, n, by simpa using hs⟩, ?_⟩
  have e := r.length
  simp only [Array.length_toList] at e
  omega
theorem Inv.list_inj (I : Inv X pins σ H s) (h : SqL X.K H a xs) (h' : SqL X.K H a ys) : xs = ys := by
 obtain ⟨its, r, ⟨o, n, e, _, _, d⟩, _⟩ := I.list h
 obtain ⟨its', r', ⟨o', n', e', _, _, d'⟩, _⟩ := I.list h'
 rw [e] at e'; cases e'
 rw [d] at d'
 injection d' with d1 _
 have : its = its' := by simpa using congrArg Array.toList d1
 subst this
 exact r.inj r'
theorem Inv.tuple_inj (I : Inv X pins σ H s) (h : SqT X.K H a xs) (h' : SqT X.K H a ys) : xs = ys := by
 obtain ⟨its, r, ⟨o, e, _, n, d⟩, _⟩ := I.tuple h
 obtain ⟨its', r', ⟨o', e', _, n', d'⟩, _⟩ := I.tuple h'
 rw [e] at e'; cases e'
 rw [d] at d'
 injection d' with d1 _
 have : its = its' := by simpa using congrArg Array.toList d1
 subst this
 exact r.inj r'
end
abbrev Cx.wish (X : Cx) (E : Value → Shared → Prop) : Cx := { X with xe := E }
abbrev Cx.nox (X : Cx) : Cx := X.wish fun _ _ => False
theorem Cx.Ok.wish {X : Cx} (ok : X.Ok) (E : Value → Shared → Prop) : (X.wish E).Ok :=
 ⟨ok.mod, ok.kind, ok.glob, ok.blt, ok.above, ok.inj, ok.has, ok.cab, ok.hd, ok.frames, ok.stk, ok.exf, ok.bs, ok.bsz, ok.noex, ok.exfs, ok.funs, ok.frf⟩
theorem Cx.Ok.unwish {X : Cx} {E : Value → Shared → Prop} (ok : (X.wish E).Ok) : X.Ok :=
 ⟨ok.mod, ok.kind, ok.glob, ok.blt, ok.above, ok.inj, ok.has, ok.cab, ok.hd, ok.frames, ok.stk, ok.exf, ok.bs, ok.bsz, ok.noex, ok.exfs, ok.funs, ok.frf⟩
section
variable {X : Cx} {pins : List (Addr × Obj)} {σ : St} {H : Hp} {s : Shared} {E : Value → Shared → Prop}
theorem Inv.wish (I : Inv X pins σ H s) (E : Value → Shared → Prop) : Inv (X.wish E) pins σ H s := ⟨I.ok.wish E, I.os, I.bare, I.base, I.loc, I.cell, I.free, I.freeC, I.pin, I.hok, I.len⟩
theorem Inv.unwish (I : Inv (X.wish E) pins σ H s) : Inv X pins σ H s := ⟨I.ok.unwish, I.os, I.bare, I.base, I.loc, I.cell, I.free, I.freeC, I.pin, I.hok, I.len⟩
theorem SP.unwish {D : Ends} {f : Flow} {s' : Shared} (h : SP (X.wish E) pins D f s') : SP X pins D f s' := by
 cases f with
 | next => obtain ⟨σ', H', I, q⟩ := h; exact ⟨σ', H', I.unwish, q⟩
 | brk => obtain ⟨σ', H', I, q⟩ := h; exact ⟨σ', H', I.unwish, q⟩
 | cont => obtain ⟨σ', H', I, q⟩ := h; exact ⟨σ', H', I.unwish, q⟩
 | ret u => obtain ⟨v, σ', H', I, r, q⟩ := h; exact ⟨v, σ', H', I.unwish, r, q⟩
theorem PSs.nox {st : List Stmt} {t : TS} (h : PSs X.nox st t) : PSs X st t := fun pins s σ H D I hw =>
 wpAny_mono (h pins s σ H D (I.wish _) hw) (fun _ _ q => q.unwish) fun _ _ z => False.elim z
end
section
variable {X : Cx} {st : Stmt} {rest : List Stmt} {t u : TS} {e : Expr} {te : TE} {pos : Pos}
def tNext : TS := fun D σ H => D.nx σ H
def tSeq (t u : TS) : TS := fun D σ H => t { D with nx := u D } σ H
theorem pss_nil : PSs X [] tNext := fun _ _ σ H _ I h => wpAny_execs_nil ⟨σ, H, I, h⟩
theorem pss_cons (h1 : PS X st t) (h2 : PSs X rest u) : PSs X (st :: rest) (tSeq t u) := by
 intro pins s σ H D I h
 refine wpAny_execs_cons (thn (h1 pins s σ H { D with nx := u D } I h) fun f s1 q => ?_)
 cases f with
 | next =>
  obtain ⟨σ', H', I', q⟩ := q
  exact h2 pins s1 σ' H' D I' q
 | ret v => exact q
 | brk => exact q
 | cont => exact q
theorem pss_one (h1 : PS X st t) : PSs X [st] t := by
 intro pins s σ H D I h
 refine wpAny_execs_cons (thn (h1 pins s σ H D I h) fun f s1 q => ?_)
 cases f with
 | next => exact wpAny_execs_nil q
 | ret v => exact q
 | brk => exact q
 | cont => exact q
theorem Inv.quiet {pins : List (Addr × Obj)} {σ : St} {H : Hp} {s : Shared} (I : Inv X pins σ H s) : interactive X.env = false := by simp [interactive, I.ok.kind]
def tDrop (te : TE) : TS := fun D σ H => te σ H fun _ H1 => D.nx σ H1
theorem ps_expr (he : PE X e te) (hs : swapsWith e none pos.line X.env = pure false := by rfl) : PS X (.Expr e pos) (tDrop te) := by
 intro pins s σ H D I h
 exact wpAny_Expr_any (thn (he pins s σ H _ I h) fun v s1 ⟨x, H1, I1, r1, q1⟩ => ⟨σ, H1, I1, q1⟩) I.quiet hs
def tRet (te : TE) : TS := fun D σ H => te σ H D.rt
theorem ps_ret (he : PE X e te) : PS X (.Return (some e) pos) (tRet te) := by
 intro pins s σ H D I h
 exact wpAny_Return_some (thn (he pins s σ H _ I h) fun v s1 ⟨x, H1, I1, r1, q1⟩ => ⟨x, σ, H1, I1, r1, q1⟩)
def tIfS (c : TT) (t u : TS) : TS := fun D σ H => c σ H fun b H1 => if b = true then t D σ H1 else u D σ H1
theorem ps_if {c : Expr} {a b : List Stmt} {tc : TT} (hc : PT X c tc) (ha : PSs X a t) (hb : PSs X b u) : PS X (.If c a b pos) (tIfS tc t u) := by
 intro pins s σ H D I h
 refine wpAny_If (thn (hc pins s σ H _ I h) fun d s1 ⟨H1, I1, q1⟩ => ?_)
 cases d with
 | true => exact ha pins s1 σ H1 D I1 q1
 | false => exact hb pins s1 σ H1 D I1 q1
def tNever : TS := fun _ _ _ => False
theorem ps_never : PS X st tNever := fun _ _ _ _ _ _ h => h.elim
theorem pss_never {sts : List Stmt} : PSs X sts tNever := fun _ _ _ _ _ _ h => h.elim
end
abbrev TG := V → St → Hp → (St → Hp → Prop) → Prop
abbrev TGs := List V → St → Hp → (St → Hp → Prop) → Prop
def PG (X : Cx) (target : Expr) (t : TG) : Prop :=
 ∀ (pins : List (Addr × Obj)) (s : Shared) (σ : St) (H : Hp) (v : V) (u : Value) (Q : St → Hp → Prop), Inv X pins σ H s → RelV v u → t v σ H Q →
  wpAny (model X.prog X.w) X.A (assign target X.env u) (fun _ s' => ∃ σ' H', Inv X pins σ' H' s' ∧ Q σ' H') X.xe s
def PGs (X : Cx) (ts : List Expr) (t : TGs) : Prop :=
 ∀ (pins : List (Addr × Obj)) (s : Shared) (σ : St) (H : Hp) (vs : List V) (us : List Value) (Q : St → Hp → Prop), Inv X pins σ H s → Vals vs us → t vs σ H Q →
  wpAny (model X.prog X.w) X.A (assignInOrder ((assignEach ts X.env).map (·.2)) us) (fun _ s' => ∃ σ' H', Inv X pins σ' H' s' ∧ Q σ' H') X.xe s
abbrev TSet := V → V → V → Hp → (Hp → Prop) → Prop
def PSet (X : Cx) (t : TSet) : Prop :=
 ∀ (pins : List (Addr × Obj)) (s : Shared) (σ : St) (H : Hp) (o i v : V) (ov iv u : Value) (Q : Hp → Prop), Inv X pins σ H s → RelV o ov → RelV i iv → RelV v u → t o i v H Q →
  wpAny (model X.prog X.w) X.A (setItem ov iv u) (fun _ s' => ∃ H', Inv X pins σ H' s' ∧ Q H') X.xe s
abbrev TIp := V → V → Hp → VK → Prop
def PIp (X : Cx) (op : Operator) (t : TIp) : Prop :=
 ∀ (pins : List (Addr × Obj)) (s : Shared) (σ : St) (H : Hp) (x y : V) (v u : Value) (Q : VK), Inv X pins σ H s → RelV x v → RelV y u → t x y H Q →
  wpAny (model X.prog X.w) X.A (inplaceOp op v u) (EP X pins σ Q) X.xe s
section
variable {X : Cx} {pos : Pos}
def gName (i : Nat) : TG := fun v σ H Q => Q (σ.set i (some v)) H
theorem pg_name {i : Nat} {x : Str} (hN : X.N.Nodup) (hi : X.N[i]? = some x) (hx : Loc X.env.scope x) (hf : X.fn x = true ∨ X.env.scope.names.lookup x = some .local := by first | exact .inl rfl | exact .inr rfl | assumption) : PG X (.Name x pos) (gName i) := by
 intro pins s σ H v u Q I r h
 exact wpAny_assign_Name (store_ok I hN hi hx r (fun s' I' => ⟨_, H, I', h⟩) hf)
def gNil : TGs := fun vs σ H Q => vs = [] ∧ Q σ H
def gCons (t : TG) (u : TGs) : TGs := fun vs σ H Q => ∃ v r, vs = v :: r ∧ t v σ H fun σ' H' => u r σ' H' Q
theorem pgs_nil : PGs X [] gNil := by
 intro pins s σ H vs us Q I r h
 obtain ⟨e, h⟩ := h
 subst e
 cases r
 exact assignInOrder_nil ⟨σ, H, I, h⟩
theorem pgs_cons {e : Expr} {es : List Expr} {t : TG} {u : TGs} (h1 : PG X e t) (h2 : PGs X es u)
  (hs : (assignEach (e :: es) X.env).map (·.2) = assign e X.env :: (assignEach es X.env).map (·.2) := by rfl) : PGs X (e :: es) (gCons t u) := by
 intro pins s σ H vs us Q I r h
 obtain ⟨v, vr, e1, h⟩ := h
 subst e1
 cases r with
 | cons r rr =>
  rw [hs]
  refine assignInOrder_cons (thn (h1 pins s σ H _ _ _ I r h) fun _ s1 ⟨σ1, H1, I1, q1⟩ => ?_)
  exact h2 pins s1 σ1 H1 _ _ Q I1 rr q1
def gTup (K : PySem.W.Frag) (n : Nat) (t : TGs) : TG := fun v σ H Q => ∃ a xs, v = .ref a ∧ SqT K H a xs ∧ xs.length = n ∧ t xs σ H Q
theorem pg_tup {es : List Expr} {k : Nat} {t : TGs} {n : Nat} (hc : X.calm = true) (h : PGs X es t)
  (hn : (assignEach es X.env).length = n := by rfl) (hst : (assignEach es X.env).findIdx? (·.1) = none := by rfl) : PG X (.Tuple es k pos) (gTup X.K n t) := by
 intro pins s σ H v u Q I r hw
 obtain ⟨a, xs, e1, hq, hl, hw⟩ := hw
 subst e1
 cases r
 obtain ⟨its, rv, ht, hz⟩ := I.tuple hq
 refine assign_Tuple_tuple (I.ok.hd hc) ht (by simp [hn, ← hl, rv.length]) hst fun h' hx => ?_
 have I1 : Inv X pins σ H { s with heap := h' } := I.kept (t' := s.toks) fun b o e => hx b o (Nat.ne_of_lt (Heap.lt_size e)) e
 exact h pins _ σ H xs _ Q I1 (by simpa using rv) hw
def gSub (to ti : TE) (t : TSet) : TG := fun v σ H Q => to σ H fun o H1 => ti σ H1 fun i H2 => t o i v H2 fun H3 => Q σ H3
theorem pg_sub {o i : Expr} {to ti : TE} {t : TSet} (ho : PE X o to) (hi : PE X i ti) (hs : PSet X t)
  (ha : ∀ v, assign (.Subscript o i pos) X.env v = (do
   let ov ← holding [v] (eval o X.env)
   let iv ← holding [v, ov] (eval i X.env)
   standAt pos
   holding [v, ov, iv] (setItem ov iv v)
   release [v, ov, iv] []) := by intro _; rfl) : PG X (.Subscript o i pos) (gSub to ti t) := by
 intro pins s σ H v u Q I r h
 rw [ha]
 refine wpAny_bind (wpAny_holding (thn (ho pins s σ H _ I h) fun ov s1 ⟨x, H1, I1, r1, q1⟩ => ?_))
 refine wpAny_bind (wpAny_holding (thn (hi pins s1 σ H1 _ I1 q1) fun iv s2 ⟨y, H2, I2, r2, q2⟩ => ?_))
 refine wpAny_bind (wpAny_standAt (wpAny_bind (wpAny_holding (thn (hs pins s2 σ H2 x y v ov iv u _ I2 r1 r2 r q2) fun _ s3 ⟨H3, I3, q3⟩ => ?_))))
 exact wpAny_release ⟨σ, H3, I3, q3⟩
def tAsg (te : TE) (g : TG) : TS := fun D σ H => te σ H fun x H1 => g x σ H1 D.nx
theorem ps_asg {tg e : Expr} {te : TE} {g : TG} (he : PE X e te) (hg : PG X tg g) (hs : swapsWithSole [tg] e pos.line X.env = pure false := by rfl) (hw : swappedStores [tg] e X.env = pure none := by rfl)
  (h1 : (assignEach [tg] X.env).map (·.2) = [assign tg X.env] := by rfl) : PS X (.Assign [tg] e pos) (tAsg te g) := by
 intro pins s σ H D I h
 refine wpAny_Assign_stores (thn (he pins s σ H _ I h) fun v s1 ⟨x, H1, I1, r1, q1⟩ => ?_) hs hw
 rw [h1]
 exact thn (hg pins s1 σ H1 x v _ I1 r1 q1) fun _ s2 q => q
theorem ps_set {i : Nat} {x : Str} {e : Expr} {te : TE} {pos' : Pos} (hN : X.N.Nodup) (hi : X.N[i]? = some x) (hx : Loc X.env.scope x) (he : PE X e te) (hs : swapsWith e (some (.Name x pos')) pos.line X.env = pure false := by rfl) (hf : X.fn x = true ∨ X.env.scope.names.lookup x = some .local := by first | exact .inl rfl | exact .inr rfl | assumption) :
  PS X (.Assign [.Name x pos'] e pos) (tAsg te (gName i)) := by
 intro pins s σ H D I h
 refine wpAny_Assign_Name (thn (he pins s σ H _ I h) fun v s1 ⟨y, H1, I1, r1, q1⟩ => ?_) hs
 exact store_ok I1 hN hi hx r1 (fun s2 I2 => ⟨_, H1, I2, q1⟩) hf
def tAug (i : Nat) (te : TE) (ti : TIp) : TS := fun D σ H => ∃ x, σ[i]? = some (some x) ∧ te σ H fun y H1 => ti x y H1 fun z H2 => D.nx (σ.set i (some z)) H2
theorem ps_aug {i : Nat} {x : Str} {e : Expr} {te : TE} {op : Operator} {ti : TIp} {pos' : Pos} (hN : X.N.Nodup) (hi : X.N[i]? = some x) (hx : Loc X.env.scope x) (he : PE X e te) (ho : PIp X op ti) (hf : X.fn x = true ∨ X.env.scope.names.lookup x = some .local := by first | exact .inl rfl | exact .inr rfl | assumption) :
  PS X (.AugAssign (.Name x pos') op e pos) (tAug i te ti) := by
 intro pins s σ H D I h
 obtain ⟨v, e1, h⟩ := h
 obtain ⟨m, hn, hl⟩ := I.loc
 have vis : Vis X.env.scope x := by rcases hx with k | k; exact .inl k; exact .inr (.inl k)
 obtain ⟨u, r, l⟩ := hl i x v hi e1 vis
 refine wpAny_AugAssign_Name ?_
 have go : wpAny (model X.prog X.w) X.A (eval e X.env) (fun w s₂ => wpAny (model X.prog X.w) X.A (inplaceOp op u w) (fun r s₃ => wpAny (model X.prog X.w) X.A (storeName X.env x r) (fun _ => SP X pins D .next) X.xe s₃) X.xe s₂) X.xe s := by
  refine thn (he pins s σ H _ I h) fun w s1 ⟨y, H1, I1, r1, q1⟩ => ?_
  refine thn (ho pins s1 σ H1 v y u w _ I1 r r1 q1) fun z s2 ⟨zv, H2, I2, r2, q2⟩ => ?_
  exact store_ok I2 hN hi hx r2 (fun s3 I3 => ⟨_, H2, I3, q2⟩) hf
 rcases l with ⟨hk, hm⟩ | ⟨hk, c, hc, hcell⟩
 ·exact wpAny_loadName_local I.ok.kind hk hn hm go
 ·rcases hk with hk | hk
  ·exact wpAny_loadName_cell I.ok.kind hk hc hcell go
  ·rcases hx with k | k
   ·have : X.env.scope.names.lookup x = some .free := hk
    rw [k] at this; cases this
   ·have : X.env.scope.names.lookup x = some .free := hk
    rw [k] at this; cases this
def ipI (f : Int → Int → Int) : TIp := fun x y H Q => ∃ i j, x = .int i ∧ y = .int j ∧ Q (.int (f i j)) H
theorem ip_add : PIp X .Add (ipI fun i j => i + j) := by
 intro pins s σ H x y v u Q I r1 r2 h
 obtain ⟨i, j, e1, e2, q⟩ := h
 subst e1; subst e2
 obtain ⟨t, rfl⟩ := r1
 obtain ⟨t', rfl⟩ := r2
 exact iadd_int ⟨.int _, H, I.tok _, ⟨_, rfl⟩, q⟩
end
section
variable {X : Cx} {pos : Pos}
def tWhile (c : TT) (tb : TS) : TS := fun D σ H => ∃ W : Nat → St → Hp → Prop, (∃ m, W m σ H) ∧ ∀ m σ H, W m σ H →
 c σ H fun b H1 => if b = true then ∃ N : St → Hp → Prop, (∀ σ' H', N σ' H' → ∃ m', m' < m ∧ W m' σ' H') ∧ tb { D with nx := N, ct := N, bk := D.nx } σ H1 else D.nx σ H1
theorem ps_while {c : Expr} {body : List Stmt} {tc : TT} {tb : TS} (hp : PassesOwn (model X.prog X.w) X.A X.env X.xe) (hc : PT X c tc) (hb : PSs X body tb) : PS X (.While c body [] pos) (tWhile tc tb) := by
 intro pins s σ H D I h
 obtain ⟨W, ⟨m0, w0⟩, turn⟩ := h
 refine wpAny_While (codeAny_whileLoop (fun n s' => ∃ σ' H', Inv X pins σ' H' s' ∧ W n σ' H') ?_ m0 ⟨σ, H, I, w0⟩)
 rintro n s1 ⟨σ1, H1, I1, w1⟩
 refine wpAny_passesOwn hp (thn (hc pins s1 σ1 H1 _ I1 (turn n σ1 H1 w1)) fun b s2 ⟨H2, I2, q2⟩ => ?_)
 cases b with
 | true =>
  obtain ⟨N, hN, q2⟩ := q2
  rw [if_pos rfl]
  refine wpAny_passesOwn hp (thn (hb pins s2 σ1 H2 _ I2 q2) fun f s3 q3 => ?_)
  cases f with
  | next =>
   obtain ⟨σ3, H3, I3, n3⟩ := q3
   obtain ⟨m', hm, w3⟩ := hN σ3 H3 n3
   exact ⟨m', hm, σ3, H3, I3, w3⟩
  | cont =>
   obtain ⟨σ3, H3, I3, n3⟩ := q3
   obtain ⟨m', hm, w3⟩ := hN σ3 H3 n3
   exact ⟨m', hm, σ3, H3, I3, w3⟩
  | brk => exact q3
  | ret v => exact q3
 | false =>
  rw [if_neg Bool.false_ne_true]
  exact wpAny_execs_nil ⟨σ1, H2, I2, q2⟩
end
structure It where
 go : Nat → Hp → Prop
 yld : Nat → Hp → V → Hp → Prop
 stop : Nat → Hp → Prop
def FpOk (X : Cx) (pins : List (Addr × Obj)) (H : Hp) (b : Addr) : Prop :=
 H b = none ∧ b ≠ X.env.locals ∧ b ∉ X.fs ∧ (b ∈ X.ex ∨ X.s₀.heap.objs.size ≤ b) ∧ (∀ x c, X.env.cells.lookup x = some c → c ≠ b) ∧ ∀ p ∈ X.pn ++ pins, p.1 ≠ b
theorem Inv.fpOk {X : Cx} {pins : List (Addr × Obj)} {σ : St} {H H' : Hp} {s : Shared} {b : Addr} (I : Inv X pins σ H s) (hb : s.heap.objs.size ≤ b) (hn : H' b = none) : FpOk X pins H' b := by
 refine ⟨hn, Nat.ne_of_gt (Nat.lt_of_lt_of_le I.lt hb), I.nofs hb, .inr (Nat.le_trans I.sz hb), fun x c e z => ?_, fun p hp z => ?_⟩
 ·obtain ⟨v, q⟩ := I.cell x c e
  exact absurd (Nat.lt_of_lt_of_le q.lt (by rw [z]; exact hb)) (Nat.lt_irrefl _)
 ·exact absurd (Nat.lt_of_lt_of_le (Heap.lt_size (I.pin p hp).1) (by rw [z]; exact hb)) (Nat.lt_irrefl _)
structure Turn (P : Program) (w : World) (K : PySem.W.Frag) (tg : Expr) (J : It) (fp : List Addr) (it : Addr) (tn : Nat → Heap → Prop) : Prop where
 mem : it ∈ fp
 obj : ∀ i h, tn i h → ∀ b ∈ fp, ∃ o, h.get? b = some o ∧ ∀ v, o.data ≠ .cell v
 keep : ∀ i h h', tn i h → (∀ b ∈ fp, ∀ o, h.get? b = some o → h'.get? b = some o) → tn i h'
 item : ∀ (X : Cx), X.prog = P → X.w = w → X.K = K → X.calm = true → ∀ (i : Nat) (pins : List (Addr × Obj)) (s : Shared) (σ : St) (H : Hp) (E : Value → Shared → Prop), Inv X pins σ H s → (∀ b ∈ fp, FpOk X pins H b) → tn i s.heap → J.go i H →
  wpAny (model P w) X.A (pyNext (.ref it)) (fun r s1 => ∃ u, r = some u ∧
   wpAny (model P w) X.A (letOwnedTupleGo tg (.ref it) u) (fun _ s2 => ∃ x H', Inv X pins σ H' s2 ∧ RelV x u ∧ J.yld i H x H' ∧ tn (i + 1) s2.heap ∧ ∀ b ∈ fp, H' b = none) E s1) E s
 done : ∀ (X : Cx), X.prog = P → X.w = w → X.K = K → X.calm = true → ∀ (i : Nat) (pins : List (Addr × Obj)) (s : Shared) (σ : St) (H : Hp) (E : Value → Shared → Prop), Inv X pins σ H s → (∀ b ∈ fp, FpOk X pins H b) → tn i s.heap → J.stop i H →
  wpAny (model P w) X.A (pyNext (.ref it)) (fun r s1 => r = none ∧ Inv X pins σ H s1) E s
 self : ∀ (A : Around) (i : Nat) (s : Shared) (Q : Value → Shared → Prop) (E : Value → Shared → Prop), tn i s.heap → Q (.ref it) s → wpAny (model P w) A (pyIter (.ref it)) Q E s
abbrev TI := St → Hp → (It → Hp → Prop) → Prop
def PIE (X : Cx) (pins : List (Addr × Obj)) (σ : St) (tg : Expr) (R : It → Hp → Prop) (itv : Value) (s2 : Shared) : Prop :=
 ∃ (it : Addr) (fp : List Addr) (tn : Nat → Heap → Prop) (J : It) (H' : Hp), itv = .ref it ∧ Inv X pins σ H' s2 ∧ Turn X.prog X.w X.K tg J fp it tn ∧ tn 0 s2.heap ∧ (∀ b ∈ fp, FpOk X pins H' b) ∧ R J H'
def PI (X : Cx) (tg iter : Expr) (wi : TI) : Prop :=
 ∀ (pins : List (Addr × Obj)) (s : Shared) (σ : St) (H : Hp) (R : It → Hp → Prop), Inv X pins σ H s → wi σ H R →
  wpAny (model X.prog X.w) X.A (eval iter X.env) (fun v s1 => wpAny (model X.prog X.w) X.A (pyIter v) (PIE X pins σ tg R) X.xe s1) X.xe s
theorem go_of {M : Model} {A : Around} {E : Value → Shared → Prop} {s : Shared} {tg : Expr} {it : Addr} {u : Value} {o : Obj} {n : String} {vs : Array Value} {Q : Unit → Shared → Prop} (ho : s.heap.get? it = some o) (hc : o.cls = .type n) (hd : o.data = .fields vs)
    (hn : ["enumerate", "zip", "dict_itemiterator", "dict_reverseitemiterator", "odict_iterator", "itertools.zip_longest", "itertools.pairwise"].contains n = false) (hQ : Q () s) : wpAny M A (letOwnedTupleGo tg (.ref it) u) Q E s := by
  unfold letOwnedTupleGo
  cases tg <;> first
    | exact wpAny_pure hQ
    | (cases u <;> first
        | exact wpAny_pure hQ
        | (refine wpAny_bind (wpAny_load ho ?_)
           rw [hc, hd]
           show wpAny M A (if (["enumerate", "zip", "dict_itemiterator", "dict_reverseitemiterator", "odict_iterator", "itertools.zip_longest", "itertools.pairwise"].contains n && vs[0]? == some (rawInt _)) = true then _ else _) Q E s
           rw [if_neg (by intro h; rw [hn, Bool.false_and] at h; cases h)]
           exact wpAny_pure hQ))
def Itl (K : PySem.W.Frag) (a : Addr) : It :=
 ⟨fun i H => ∃ xs x, SqL K H a xs ∧ xs[i]? = some x, fun i H x H' => H' = H ∧ ∀ xs, SqL K H a xs → xs[i]? = some x, fun i H => ∃ xs, SqL K H a xs ∧ xs.length ≤ i⟩
def Itt (K : PySem.W.Frag) (a : Addr) : It :=
 ⟨fun i H => ∃ xs x, SqT K H a xs ∧ xs[i]? = some x, fun i H x H' => H' = H ∧ ∀ xs, SqT K H a xs → xs[i]? = some x, fun i H => ∃ xs, SqT K H a xs ∧ xs.length ≤ i⟩
def Itr (lo : Int) (n : Nat) : It := ⟨fun i _ => i < n, fun i H x H' => H' = H ∧ x = .int (lo + i), fun i _ => n ≤ i⟩
theorem turn_list {P : Program} {w : World} {K : PySem.W.Frag} {tg : Expr} (a it : Addr) : Turn P w K tg (Itl K a) [it] it (fun i h => h.IsListIter it a i) where
 mem := by simp
 obj := fun i h st b hb => by
  have e : b = it := by simpa using hb
  subst e
  obtain ⟨o, e, c, d⟩ := st
  exact ⟨o, e, fun v z => by rw [d] at z; cases z⟩
 keep := fun i h h' st k => st.at fun o e => k it (by simp) o e
 item := by
  intro X hP hw hK hc i pins s σ H E I hf st hg
  subst hP hw hK
  obtain ⟨xs, x, hq, hx⟩ := hg
  obtain ⟨its, rv, p, hz⟩ := I.list hq
  obtain ⟨u, hu, ru⟩ := rv.get hx
  obtain ⟨f0, f1, f2, f3, f4, f5⟩ := hf it (by simp)
  refine wpAny_pyNext_list_item st p.isList (x := u) (by simpa using hu) fun h' st' sb => ?_
  have I1 : Inv X pins σ H { s with heap := h' } := I.turned (t' := s.toks) (fun b o hb e => (sb.2 b hb).trans e) f0 f1 f3 f4 f5
  obtain ⟨o, e, c, d⟩ := id st'
  exact ⟨u, rfl, go_of (s := { s with heap := h' }) e c d (by decide) ⟨x, H, I1, ru, ⟨rfl, fun ys hy => by rw [I.list_inj hy hq]; exact hx⟩, st', fun b hb => (hf b hb).1⟩⟩
 done := by
  intro X hP hw hK hc i pins s σ H E I hf st hg
  subst hP hw hK
  obtain ⟨xs, hq, hx⟩ := hg
  obtain ⟨its, rv, p, hz⟩ := I.list hq
  obtain ⟨f0, f1, f2, f3, f4, f5⟩ := hf it (by simp)
  have hl := rv.length
  exact wpAny_pyNext_list_end (I.ok.hd hc) st p.isList (by simp; omega) fun h' eb => ⟨rfl, I.turned (t' := s.toks) (fun b o hb e => eb b o hb e) f0 f1 f3 f4 f5⟩
 self := fun _ _ _ _ _ st h => wpAny_pyIter_listiter st h
theorem turn_tuple {P : Program} {w : World} {K : PySem.W.Frag} {tg : Expr} (a it : Addr) : Turn P w K tg (Itt K a) [it] it (fun i h => h.IsTupleIter it a i) where
 mem := by simp
 obj := fun i h st b hb => by
  have e : b = it := by simpa using hb
  subst e
  obtain ⟨o, e, c, d⟩ := st
  exact ⟨o, e, fun v z => by rw [d] at z; cases z⟩
 keep := fun i h h' st k => st.at fun o e => k it (by simp) o e
 item := by
  intro X hP hw hK hc i pins s σ H E I hf st hg
  subst hP hw hK
  obtain ⟨xs, x, hq, hx⟩ := hg
  obtain ⟨its, rv, p, hz⟩ := I.tuple hq
  obtain ⟨u, hu, ru⟩ := rv.get hx
  obtain ⟨f0, f1, f2, f3, f4, f5⟩ := hf it (by simp)
  refine wpAny_pyNext_tuple_item st (show s.heap.IsTuple a its.toArray from p) (x := u) (by simpa using hu) fun h' st' sb => ?_
  have I1 : Inv X pins σ H { s with heap := h' } := I.turned (t' := s.toks) (fun b o hb e => (sb.2 b hb).trans e) f0 f1 f3 f4 f5
  obtain ⟨o, e, c, d⟩ := id st'
  exact ⟨u, rfl, go_of (s := { s with heap := h' }) e c d (by decide) ⟨x, H, I1, ru, ⟨rfl, fun ys hy => by rw [I.tuple_inj hy hq]; exact hx⟩, st', fun b hb => (hf b hb).1⟩⟩
 done := by
  intro X hP hw hK hc i pins s σ H E I hf st hg
  subst hP hw hK
  obtain ⟨xs, hq, hx⟩ := hg
  obtain ⟨its, rv, p, hz⟩ := I.tuple hq
  obtain ⟨f0, f1, f2, f3, f4, f5⟩ := hf it (by simp)
  have hl := rv.length
  exact wpAny_pyNext_tuple_end (I.ok.hd hc) st (show s.heap.IsTuple a its.toArray from p) (by simp; omega) fun h' eb => ⟨rfl, I.turned (t' := s.toks) (fun b o hb e => eb b o hb e) f0 f1 f3 f4 f5⟩
 self := fun _ _ _ _ _ st h => wpAny_pyIter_tupleiter st h
theorem turn_range {P : Program} {w : World} {K : PySem.W.Frag} {tg : Expr} (it : Addr) (lo : Int) (n : Nat) : Turn P w K tg (Itr lo n) [it] it (fun i h => IsRangeIter h it (lo + (i : Nat) * 1) ((n : Int) - (i : Nat)) 1) where
 mem := by simp
 obj := fun i h st b hb => by
  have e : b = it := by simpa using hb
  subst e
  exact ⟨_, st, fun v z => by
   have z' : Data.fields _ = Data.cell v := z
   cases z'⟩
 keep := fun i h h' st k => k it (by simp) _ st
 item := by
  intro X hP hw hK hc i pins s σ H E I hf st hg
  subst hP hw hK
  obtain ⟨f0, f1, f2, f3, f4, f5⟩ := hf it (by simp)
  have W := Walks.range (prog := X.prog) (w := X.w) (I.ok.hd hc) it lo 1 n
  refine W.item i s _ _ hg st fun v h' tk hv st' kk => ?_
  obtain ⟨t, rfl⟩ := hv
  have I1 : Inv X pins σ H { s with heap := h', toks := tk } := I.turned (fun b o hb e => kk b o (by simpa using hb) e) f0 f1 f3 f4 f5
  refine ⟨_, rfl, go_of (s := { s with heap := h', toks := tk }) (n := "range_iterator") st' rfl rfl (by decide) ⟨.int (lo + i), H, I1, ⟨t, ?_⟩, ⟨rfl, rfl⟩, st', fun b hb => (hf b hb).1⟩⟩
  rw [Int.mul_one]
 done := by
  intro X hP hw hK hc i pins s σ H E I hf st hg
  subst hP hw hK
  obtain ⟨f0, f1, f2, f3, f4, f5⟩ := hf it (by simp)
  exact wpAny_pyNext_range_end (I.ok.hd hc) st (by have : n ≤ i := hg; omega) fun h' eb => ⟨rfl, I.turned (t' := s.toks) (fun b o hb e => eb b o hb e) f0 f1 f3 f4 f5⟩
 self := fun _ _ _ _ _ st h => wpAny_pyIter_rangeiter st h
end L2
namespace L2
open PySem PySem.Spec PyProof.Rows
section
variable {X : Cx} {tg : Expr}
def iList (K : PySem.W.Frag) (tl : TE) : TI := fun σ H R => tl σ H fun x H1 => ∃ a, x = .ref a ∧ (∃ xs, SqL K H1 a xs) ∧ R (Itl K a) H1
def iTup (K : PySem.W.Frag) (tl : TE) : TI := fun σ H R => tl σ H fun x H1 => ∃ a, x = .ref a ∧ (∃ xs, SqT K H1 a xs) ∧ R (Itt K a) H1
theorem pi_list {l : Expr} {tl : TE} (hl : PE X l tl) : PI X tg l (iList X.K tl) := by
 intro pins s σ H R I h
 refine thn (hl pins s σ H _ I h) fun v s1 ⟨x, H1, I1, r1, q1⟩ => ?_
 obtain ⟨a, e, ⟨xs, hq⟩, q⟩ := q1
 subst e
 cases r1
 obtain ⟨its, rv, p, hz⟩ := I1.list hq
 refine wpAny_pyIter_list p.isList ?_
 refine ⟨s1.heap.objs.size, [s1.heap.objs.size], _, _, H1, rfl, I1.kept (t' := s1.toks) fun b o e => Heap.get?_push_of_some _ e, turn_list a _, ⟨_, Heap.get?_push_size _ rfl, rfl, rfl⟩, fun b hb => ?_, q⟩
 have e : b = s1.heap.objs.size := by simpa using hb
 subst e
 exact I1.fpOk (Nat.le_refl _) (I1.hok.fresh (Nat.le_refl _))
theorem pi_tup {l : Expr} {tl : TE} (hl : PE X l tl) : PI X tg l (iTup X.K tl) := by
 intro pins s σ H R I h
 refine thn (hl pins s σ H _ I h) fun v s1 ⟨x, H1, I1, r1, q1⟩ => ?_
 obtain ⟨a, e, ⟨xs, hq⟩, q⟩ := q1
 subst e
 cases r1
 obtain ⟨its, rv, p, hz⟩ := I1.tuple hq
 refine wpAny_pyIter_tuple (show s1.heap.IsTuple a its.toArray from p) ?_
 refine ⟨s1.heap.objs.size, [s1.heap.objs.size], _, _, H1, rfl, I1.kept (t' := s1.toks) fun b o e => Heap.get?_push_of_some _ e, turn_tuple a _, ⟨_, Heap.get?_push_size _ rfl, rfl, rfl⟩, fun b hb => ?_, q⟩
 have e : b = s1.heap.objs.size := by simpa using hb
 subst e
 exact I1.fpOk (Nat.le_refl _) (I1.hok.fresh (Nat.le_refl _))
theorem range_it {pins : List (Addr × Obj)} {σ : St} {H : Hp} {s : Shared} {R : It → Hp → Prop} {E : Value → Shared → Prop} {lo hi : Int} {t u v : Tok} {tk : Nat} (I : Inv X pins σ H s) (h1 : -(2 ^ 62) ≤ lo) (h2 : lo < 2 ^ 62) (h3 : -(2 ^ 62) ≤ hi) (h4 : hi < 2 ^ 62)
  (q : R (Itr lo (hi - lo).toNat) H) : wpAny (model X.prog X.w) X.A (pyIter (.ref s.heap.objs.size)) (PIE X pins σ tg R) E { s with heap := s.heap.push { cls := .type "range", data := .fields #[.int lo t, .int hi u, .int 1 v] }, toks := tk } := by
 refine wpAny_pyIter_range (IsRange.new ..) (small_one h1 h2 h3 h4) ?_
 have I1 : Inv X pins σ H { s with heap := s.heap.push { cls := .type "range", data := .fields #[.int lo t, .int hi u, .int 1 v] }, toks := tk } := I.kept fun b o e => Heap.get?_push_of_some _ e
 refine ⟨(s.heap.push { cls := .type "range", data := .fields #[.int lo t, .int hi u, .int 1 v] }).objs.size, [(s.heap.push { cls := .type "range", data := .fields #[.int lo t, .int hi u, .int 1 v] }).objs.size], _, _, H, rfl,
  I1.kept (t' := tk) fun b o e => Heap.get?_push_of_some _ e, turn_range _ lo (hi - lo).toNat, ?_, fun b hb => ?_, q⟩
 ·have e1 : lo + ((0 : Nat) : Int) * 1 = lo := by simp
  have e2 : (((hi - lo).toNat : Nat) : Int) - ((0 : Nat) : Int) = Builtin.Range.rangeSize lo hi 1 := by rw [rangeSize_one]; split <;> omega
  show IsRangeIter _ _ (lo + ((0 : Nat) : Int) * 1) ((((hi - lo).toNat : Nat) : Int) - ((0 : Nat) : Int)) 1
  rw [e1, e2]
  exact Heap.get?_push_size _ rfl
 ·have e : b = (s.heap.push { cls := .type "range", data := .fields #[.int lo t, .int hi u, .int 1 v] }).objs.size := by simpa using hb
  subst e
  exact I1.fpOk (Nat.le_refl _) (I1.hok.fresh (Nat.le_refl _))
def iRng1 (ta : TA) : TI := fun σ H R => ta σ H fun vs H1 => ∃ j : Int, vs = [.int j] ∧ -(2 ^ 62) ≤ j ∧ j < 2 ^ 62 ∧ R (Itr 0 j.toNat) H1
theorem pi_range1 {a : Expr} {ta : TA} {p pos : Pos} (hg : Gl X "range") (hm : X.mg "range" = none) (ha : PA X [a] ta) (hs : starEach [a] X.env = [(false, eval a X.env)] := by rfl) : PI X tg (.Call (.Name "range" p) [a] [] pos) (iRng1 ta) := by
 intro pins s σ H R I h
 refine Call_ (ld_blt I hg hm boot_range (PyProof.Rows.callWith_type1 (thn (ha pos pins s σ H _ I h) fun us s1 ⟨vs, H1, I1, r1, q1⟩ => ?_) hs rfl))
 obtain ⟨j, e, q1, q2, q⟩ := q1
 subst e
 cases r1 with
 | cons r rr =>
  cases rr
  obtain ⟨t, rfl⟩ := r
  exact call_range_1 (range_it I1 (by omega) (by omega) q1 q2 (by simpa using q))
def tFor (wi : TI) (g : TG) (tb : TS) : TS := fun D σ H => wi σ H fun J H1 => ∃ W : Nat → Nat → St → Hp → Prop, (∃ m, W 0 m σ H1) ∧ ∀ i m σ H, W i m σ H →
 (J.stop i H ∧ D.nx σ H) ∨ (J.go i H ∧ ∃ N : St → Hp → Prop, (∀ σ' H', N σ' H' → ∃ m', m' < m ∧ W (i + 1) m' σ' H') ∧ ∀ x H', J.yld i H x H' → g x σ H' fun σ2 H2 => tb { D with nx := N, ct := N, bk := D.nx } σ2 H2)
def pinsAt (fp : List Addr) (h : Heap) : List (Addr × Obj) := fp.filterMap fun b => (h.get? b).map fun o => (b, o)
theorem mem_pinsAt {fp : List Addr} {h : Heap} {b : Addr} {o : Obj} (hb : b ∈ fp) (e : h.get? b = some o) : (b, o) ∈ pinsAt fp h := List.mem_filterMap.mpr ⟨b, hb, by rw [e]; rfl⟩
theorem of_pinsAt {fp : List Addr} {h : Heap} {p : Addr × Obj} (hp : p ∈ pinsAt fp h) : p.1 ∈ fp ∧ h.get? p.1 = some p.2 := by
 obtain ⟨b, hb, e⟩ := List.mem_filterMap.mp hp
 cases q : h.get? b with
 | none => rw [q] at e; cases e
 | some o =>
  rw [q] at e
  have e' : (b, o) = p := Option.some.inj e
  subst e'
  exact ⟨hb, q⟩
theorem Inv.pinned {pins : List (Addr × Obj)} {σ : St} {H : Hp} {s : Shared} {fp : List Addr} (I : Inv X pins σ H s) (hf : ∀ b ∈ fp, FpOk X pins H b) (ho : ∀ b ∈ fp, ∃ o, s.heap.get? b = some o ∧ ∀ v, o.data ≠ .cell v) : Inv X (pins ++ pinsAt fp s.heap) σ H s :=
 I.pins_of fun p hp => (List.mem_append.mp hp).elim (fun z => I.pin p (List.mem_append_right _ z)) fun z => by
  obtain ⟨hb, e⟩ := of_pinsAt z
  obtain ⟨f0, f1, f2, _⟩ := hf p.1 hb
  obtain ⟨o, e', d⟩ := ho p.1 hb
  rw [e] at e'; cases e'
  exact ⟨e, f0, f1, f2, d⟩
theorem Inv.unpinned {pins pl : List (Addr × Obj)} {σ : St} {H : Hp} {s : Shared} (I : Inv X (pins ++ pl) σ H s) : Inv X pins σ H s := I.pins_of fun p hp => I.pin p (List.mem_append_right _ (List.mem_append_left _ hp))
theorem ps_for {iter : Expr} {body : List Stmt} {wi : TI} {g : TG} {tb : TS} {pos : Pos} (hp : PassesOwn (model X.prog X.w) X.A X.env X.xe) (hc : X.calm = true) (hi : PI X tg iter wi) (hg : PG X tg g) (hb : PSs X body tb)
  (hs : ∀ x, foldedSetIterable iter X.env x = pure x := by intro _; rfl) : PS X (.For tg iter body [] pos) (tFor wi g tb) := by
 intro pins s σ H D I h
 refine wpAny_For (thn (hi pins s σ H _ I h) fun v s1 h1 => thn h1 fun itv s2 h2 => ?_) hs
 obtain ⟨it, fp, tn, J, H2, e, I2, T, st2, f2, W, ⟨m0, w0⟩, turn⟩ := h2
 subst e
 have stat : ∀ {H' : Hp}, (∀ b ∈ fp, H' b = none) → ∀ b ∈ fp, FpOk X pins H' b := fun hn b hb => ⟨hn b hb, (f2 b hb).2⟩
 refine codeAny_forLoop_any (fun n s' => ∃ i σ' H', Inv X pins σ' H' s' ∧ tn i s'.heap ∧ (∀ b ∈ fp, H' b = none) ∧ W i n σ' H') ?_ m0 ⟨0, σ, H2, I2, st2, fun b hb => (f2 b hb).1, w0⟩
 rintro n s3 ⟨i, σ3, H3, I3, st3, fr3, w3⟩
 rcases turn i n σ3 H3 w3 with ⟨stop, qn⟩ | ⟨go, N, hN, step⟩
 ·refine wpAny_passesOwn hp (thn (T.done X rfl rfl rfl hc i pins s3 σ3 H3 X.xe I3 (stat fr3) st3 stop) fun r s4 ⟨hr, I4⟩ => ?_)
  subst hr
  exact wpAny_execs_nil ⟨σ3, H3, I4, qn⟩
 ·refine wpAny_passesOwn hp (thn (T.item X rfl rfl rfl hc i pins s3 σ3 H3 X.xe I3 (stat fr3) st3 go) fun r s4 ⟨u, hr, h4⟩ => ?_)
  subst hr
  refine wpAny_passesOwn hp (thn h4 fun _ s5 ⟨x, H5, I5, r5, y5, st5, fr5⟩ => ?_)
  have I5' := I5.pinned (stat fr5) (T.obj _ _ st5)
  refine wpAny_passesOwn hp (thn (hg _ s5 σ3 H5 x u _ I5' r5 (step x H5 y5)) fun _ s6 ⟨σ6, H6, I6, q6⟩ => ?_)
  refine wpAny_passesOwn hp (thn (hb _ s6 σ6 H6 _ I6 q6) fun f s7 q7 => ?_)
  have again : ∀ {σ7 : St} {H7 : Hp}, Inv X (pins ++ pinsAt fp s5.heap) σ7 H7 s7 → N σ7 H7 → ∃ m, m < n ∧ ∃ i σ' H', Inv X pins σ' H' s7 ∧ tn i s7.heap ∧ (∀ b ∈ fp, H' b = none) ∧ W i m σ' H' := fun {σ7 H7} I7 n7 => by
   obtain ⟨m', hm, w7⟩ := hN σ7 H7 n7
   refine ⟨m', hm, i + 1, σ7, H7, I7.unpinned, T.keep _ _ _ st5 fun b hb o e => (I7.pin (b, o) (List.mem_append_right _ (List.mem_append_right _ (mem_pinsAt hb e)))).1, fun b hb => ?_, w7⟩
   obtain ⟨o, e, d⟩ := T.obj _ _ st5 b hb
   exact (I7.pin (b, o) (List.mem_append_right _ (List.mem_append_right _ (mem_pinsAt hb e)))).2.1
  cases f with
  | next => obtain ⟨σ7, H7, I7, n7⟩ := q7; exact again I7 n7
  | cont => obtain ⟨σ7, H7, I7, n7⟩ := q7; exact again I7 n7
  | brk => obtain ⟨σ7, H7, I7, q7⟩ := q7; exact ⟨σ7, H7, I7.unpinned, q7⟩
  | ret v => obtain ⟨x7, σ7, H7, I7, r7, q7⟩ := q7; exact ⟨x7, σ7, H7, I7.unpinned, r7, q7⟩
end
theorem for_list {K : PySem.W.Frag} {a : Addr} {xs : List V} {g : TG} {tb : TS} {D : Ends} {σ : St} {H : Hp} (Pv : Nat → St → Hp → Prop) (h0 : Pv 0 σ H) (hl : ∀ i σ H, i ≤ xs.length → Pv i σ H → SqL K H a xs)
  (hs : ∀ i x σ H, xs[i]? = some x → Pv i σ H → g x σ H fun σ2 H2 => tb { D with nx := Pv (i + 1), ct := Pv (i + 1), bk := D.nx } σ2 H2) (hd : ∀ σ H, Pv xs.length σ H → D.nx σ H) :
  ∃ W : Nat → Nat → St → Hp → Prop, (∃ m, W 0 m σ H) ∧ ∀ i m σ H, W i m σ H →
   ((Itl K a).stop i H ∧ D.nx σ H) ∨ ((Itl K a).go i H ∧ ∃ N : St → Hp → Prop, (∀ σ' H', N σ' H' → ∃ m', m' < m ∧ W (i + 1) m' σ' H') ∧ ∀ x H', (Itl K a).yld i H x H' → g x σ H' fun σ2 H2 => tb { D with nx := N, ct := N, bk := D.nx } σ2 H2) := by
 refine ⟨fun i m σ H => m = xs.length - i ∧ i ≤ xs.length ∧ Pv i σ H, ⟨xs.length, by simp, Nat.zero_le _, h0⟩, ?_⟩
 rintro i m σ H ⟨rfl, hi, p⟩
 have q := hl i σ H hi p
 by_cases hlt : i < xs.length
 ·refine .inr ⟨⟨xs, xs[i], q, by simp [hlt]⟩, Pv (i + 1), fun σ' H' p' => ⟨xs.length - (i + 1), by omega, rfl, hlt, p'⟩, fun x H' y => ?_⟩
  obtain ⟨e, y⟩ := y
  subst e
  exact hs i x σ _ (y xs q) p
 ·have e : i = xs.length := by omega
  subst e
  exact .inl ⟨⟨xs, q, Nat.le_refl _⟩, hd σ H p⟩
theorem for_tup {K : PySem.W.Frag} {a : Addr} {xs : List V} {g : TG} {tb : TS} {D : Ends} {σ : St} {H : Hp} (Pv : Nat → St → Hp → Prop) (h0 : Pv 0 σ H) (hl : ∀ i σ H, i ≤ xs.length → Pv i σ H → SqT K H a xs)
  (hs : ∀ i x σ H, xs[i]? = some x → Pv i σ H → g x σ H fun σ2 H2 => tb { D with nx := Pv (i + 1), ct := Pv (i + 1), bk := D.nx } σ2 H2) (hd : ∀ σ H, Pv xs.length σ H → D.nx σ H) :
  ∃ W : Nat → Nat → St → Hp → Prop, (∃ m, W 0 m σ H) ∧ ∀ i m σ H, W i m σ H →
   ((Itt K a).stop i H ∧ D.nx σ H) ∨ ((Itt K a).go i H ∧ ∃ N : St → Hp → Prop, (∀ σ' H', N σ' H' → ∃ m', m' < m ∧ W (i + 1) m' σ' H') ∧ ∀ x H', (Itt K a).yld i H x H' → g x σ H' fun σ2 H2 => tb { D with nx := N, ct := N, bk := D.nx } σ2 H2) := by
 refine ⟨fun i m σ H => m = xs.length - i ∧ i ≤ xs.length ∧ Pv i σ H, ⟨xs.length, by simp, Nat.zero_le _, h0⟩, ?_⟩
 rintro i m σ H ⟨rfl, hi, p⟩
 have q := hl i σ H hi p
 by_cases hlt : i < xs.length
 ·refine .inr ⟨⟨xs, xs[i], q, by simp [hlt]⟩, Pv (i + 1), fun σ' H' p' => ⟨xs.length - (i + 1), by omega, rfl, hlt, p'⟩, fun x H' y => ?_⟩
  obtain ⟨e, y⟩ := y
  subst e
  exact hs i x σ _ (y xs q) p
 ·have e : i = xs.length := by omega
  subst e
  exact .inl ⟨⟨xs, q, Nat.le_refl _⟩, hd σ H p⟩
theorem for_range {lo : Int} {n : Nat} {g : TG} {tb : TS} {D : Ends} {σ : St} {H : Hp} (Pv : Nat → St → Hp → Prop) (h0 : Pv 0 σ H)
  (hs : ∀ i σ H, i < n → Pv i σ H → g (.int (lo + i)) σ H fun σ2 H2 => tb { D with nx := Pv (i + 1), ct := Pv (i + 1), bk := D.nx } σ2 H2) (hd : ∀ σ H, Pv n σ H → D.nx σ H) :
  ∃ W : Nat → Nat → St → Hp → Prop, (∃ m, W 0 m σ H) ∧ ∀ i m σ H, W i m σ H →
   ((Itr lo n).stop i H ∧ D.nx σ H) ∨ ((Itr lo n).go i H ∧ ∃ N : St → Hp → Prop, (∀ σ' H', N σ' H' → ∃ m', m' < m ∧ W (i + 1) m' σ' H') ∧ ∀ x H', (Itr lo n).yld i H x H' → g x σ H' fun σ2 H2 => tb { D with nx := N, ct := N, bk := D.nx } σ2 H2) := by
 refine ⟨fun i m σ H => m = n - i ∧ i ≤ n ∧ Pv i σ H, ⟨n, by simp, Nat.zero_le _, h0⟩, ?_⟩
 rintro i m σ H ⟨rfl, hi, p⟩
 by_cases hlt : i < n
 ·refine .inr ⟨hlt, Pv (i + 1), fun σ' H' p' => ⟨n - (i + 1), by omega, rfl, hlt, p'⟩, fun x H' y => ?_⟩
  obtain ⟨e, y⟩ := y
  subst e y
  exact hs i σ _ hlt p
 ·have e : i = n := by omega
  subst e
  exact .inl ⟨Nat.le_refl _, hd σ H p⟩
end L2
namespace L2
open PySem PySem.Spec PyProof.Rows
abbrev R2 := V → V → Hp → VK → Prop
def OpR (X : Cx) (f : Value → Value → Sem Value) (r : R2) : Prop :=
 ∀ (pins : List (Addr × Obj)) (s : Shared) (σ : St) (H : Hp) (x y : V) (v u : Value) (Q : VK), Inv X pins σ H s → RelV x v → RelV y u → r x y H Q →
  wpAny (model X.prog X.w) X.A (f v u) (EP X pins σ Q) X.xe s
def UnR (X : Cx) (f : Value → Sem Value) (r : V → Hp → VK → Prop) : Prop :=
 ∀ (pins : List (Addr × Obj)) (s : Shared) (σ : St) (H : Hp) (x : V) (v : Value) (Q : VK), Inv X pins σ H s → RelV x v → r x H Q →
  wpAny (model X.prog X.w) X.A (f v) (EP X pins σ Q) X.xe s
def CallR (X : Cx) (f : Value) (r : List V → Hp → VK → Prop) : Prop :=
 ∀ (pins : List (Addr × Obj)) (s : Shared) (σ : St) (H : Hp) (xs : List V) (us : List Value) (Q : VK), Inv X pins σ H s → Vals xs us → r xs H Q →
  wpAny (model X.prog X.w) X.A (call f us) (EP X pins σ Q) X.xe s
def tOp (r : R2) (ta tb : TE) : TE := fun σ H Q => ta σ H fun x H1 => tb σ H1 fun y H2 => r x y H2 Q
def tUn (r : V → Hp → VK → Prop) (ta : TE) : TE := fun σ H Q => ta σ H fun x H1 => r x H1 Q
def rI (C : Int → Int → Prop) (g : Int → Int → V) : R2 := fun x y H Q => ∃ i j, x = .int i ∧ y = .int j ∧ C i j ∧ Q (g i j) H
def rI0 (g : Int → Int → V) : R2 := fun x y H Q => ∃ i j, x = .int i ∧ y = .int j ∧ Q (g i j) H
def rU (g : Int → V) : V → Hp → VK → Prop := fun x H Q => ∃ i, x = .int i ∧ Q (g i) H
section
variable {X : Cx} {a b c : Expr} {ta tb tc : TE} {pos : Pos}
theorem binT (ha : PE X a ta) (hb : PE X b tb) {pins : List (Addr × Obj)} {s : Shared} {σ : St} {H : Hp} {R : V → V → Hp → Prop} (I : Inv X pins σ H s)
  (h : ta σ H fun x H1 => tb σ H1 fun y H2 => R x y H2) {Q : Value → Shared → Prop} {f : Value → Value → Sem Value}
  (hf : ∀ v u s2 x y H2, Inv X pins σ H2 s2 → RelV x v → RelV y u → R x y H2 → wpAny (model X.prog X.w) X.A (f v u) Q X.xe s2) :
  wpAny (model X.prog X.w) X.A (eval a X.env) (fun v s₁ => wpAny (model X.prog X.w) X.A (eval b X.env) (fun u s₂ => wpAny (model X.prog X.w) X.A (f v u) Q X.xe s₂) X.xe s₁) X.xe s := by
 refine thn (ha pins s σ H _ I h) fun v s1 ⟨x, H1, I1, r1, q1⟩ => ?_
 refine thn (hb pins s1 σ H1 _ I1 q1) fun u s2 ⟨y, H2, I2, r2, q2⟩ => ?_
 exact hf v u s2 x y H2 I2 r1 r2 q2
theorem pe_op {op : Operator} {r : R2} (ho : OpR X (binaryOp op) r) (ha : PE X a ta) (hb : PE X b tb) : PE X (.BinOp a op b pos) (tOp r ta tb) := by
 intro pins s σ H Q I h
 exact wpAny_BinOp (binT ha hb I h fun v u s2 x y H2 I2 rx ry q => ho pins s2 σ H2 x y v u Q I2 rx ry q)
theorem pe_un {op : UnaryOp} {r : V → Hp → VK → Prop} (ho : UnR X (unaryOp op) r) (ha : PE X a ta) : PE X (.UnaryOp op a pos) (tUn r ta) := by
 intro pins s σ H Q I h
 exact UnaryOp_ (thn (ha pins s σ H _ I h) fun v s1 ⟨x, H1, I1, r1, q1⟩ => ho pins s1 σ H1 x v Q I1 r1 q1)
theorem opI {f : Value → Value → Sem Value} {C : Int → Int → Prop} {g : Int → Int → Int}
  (rule : ∀ (i j : Int) (t u : Tok) (s : Shared) (Q : Value → Shared → Prop) (E : Value → Shared → Prop), C i j → Q (.int (g i j) s.toks) { s with toks := s.toks + 1 } → wpAny (model X.prog X.w) X.A (f (.int i t) (.int j u)) Q E s) :
  OpR X f (rI C fun i j => .int (g i j)) := by
 intro pins s σ H x y v u Q I rx ry h
 obtain ⟨i, j, rfl, rfl, hc, q⟩ := h
 obtain ⟨t, rfl⟩ := rx
 obtain ⟨t', rfl⟩ := ry
 exact rule i j t t' s _ _ hc ⟨.int (g i j), H, I.tok _, ⟨_, rfl⟩, q⟩
theorem opI0 {f : Value → Value → Sem Value} {g : Int → Int → Int}
  (rule : ∀ (i j : Int) (t u : Tok) (s : Shared) (Q : Value → Shared → Prop) (E : Value → Shared → Prop), Q (.int (g i j) s.toks) { s with toks := s.toks + 1 } → wpAny (model X.prog X.w) X.A (f (.int i t) (.int j u)) Q E s) :
  OpR X f (rI0 fun i j => .int (g i j)) := by
 intro pins s σ H x y v u Q I rx ry h
 obtain ⟨i, j, rfl, rfl, q⟩ := h
 obtain ⟨t, rfl⟩ := rx
 obtain ⟨t', rfl⟩ := ry
 exact rule i j t t' s _ _ ⟨.int (g i j), H, I.tok _, ⟨_, rfl⟩, q⟩
theorem opB0 {f : Value → Value → Sem Value} {g : Int → Int → Bool}
  (rule : ∀ (i j : Int) (t u : Tok) (s : Shared) (Q : Value → Shared → Prop) (E : Value → Shared → Prop), Q (.bool (g i j)) s → wpAny (model X.prog X.w) X.A (f (.int i t) (.int j u)) Q E s) :
  OpR X f (rI0 fun i j => .bl (g i j)) := by
 intro pins s σ H x y v u Q I rx ry h
 obtain ⟨i, j, rfl, rfl, q⟩ := h
 obtain ⟨t, rfl⟩ := rx
 obtain ⟨t', rfl⟩ := ry
 exact rule i j t t' s _ _ ⟨.bl (g i j), H, I, rfl, q⟩
def CDiv (i j : Int) : Prop := 0 < j ∧ j < 1073741824
def CPow (i j : Int) : Prop := 0 ≤ j ∧ j ≤ 1000000 ∧ i.natAbs < 2 ^ 64
def CMul (i j : Int) : Prop := (-(2 ^ 64) < i ∧ i < 2 ^ 64) ∨ (-(2 ^ 64) < j ∧ j < 2 ^ 64)
theorem CMul.ok {i j : Int} (h : CMul i j) : IntMulOk i j := by
 rcases h with ⟨h1, h2⟩ | ⟨h1, h2⟩
 ·exact .of_left (intBits_le_64 h1 h2)
 ·exact .of_right (intBits_le_64 h1 h2)
theorem op_add : OpR X (binaryOp .Add) (rI0 fun i j => .int (i + j)) := opI0 fun _ _ _ _ _ _ _ q => add_int q
theorem op_sub : OpR X (binaryOp .Sub) (rI0 fun i j => .int (i - j)) := opI0 fun _ _ _ _ _ _ _ q => sub_int q
theorem op_mul : OpR X (binaryOp .Mult) (rI CMul fun i j => .int (i * j)) := opI fun _ _ _ _ _ _ _ hc q => mul_int q hc.ok
theorem op_fdiv : OpR X (binaryOp .FloorDiv) (rI CDiv fun i j => .int (i / j)) := opI fun i j _ _ _ _ _ hc q => by
 have h1 : (0 : Int) < j := hc.1
 have h2 : j < 1073741824 := hc.2
 exact floordiv_int (by omega) (by rw [Int.fdiv_eq_ediv_of_nonneg i (by omega)]; exact q) (.inl (PyProof.noPylong_small (by omega)))
theorem op_mod : OpR X (binaryOp .Mod) (rI (fun _ j => 0 < j) fun i j => .int (i % j)) := opI fun i j _ _ _ _ _ hc q => by
 have h1 : (0 : Int) < j := hc
 exact mod_int' (by omega) (by rw [Int.fmod_eq_emod_of_nonneg i (by omega)]; exact q)
theorem op_pow : OpR X (binaryOp .Pow) (rI CPow fun i j => .int (i ^ j.toNat)) := opI fun _ _ _ _ _ _ _ hc q => pow_int_small hc.1 hc.2.1 hc.2.2 q
theorem unI {f : Value → Sem Value} {g : Int → Int}
  (rule : ∀ (i : Int) (t : Tok) (s : Shared) (Q : Value → Shared → Prop) (E : Value → Shared → Prop), Q (.int (g i) s.toks) { s with toks := s.toks + 1 } → wpAny (model X.prog X.w) X.A (f (.int i t)) Q E s) :
  UnR X f (rU fun i => .int (g i)) := by
 intro pins s σ H x v Q I rx h
 obtain ⟨i, rfl, q⟩ := h
 obtain ⟨t, rfl⟩ := rx
 exact rule i t s _ _ ⟨.int (g i), H, I.tok _, ⟨_, rfl⟩, q⟩
theorem un_neg : UnR X (unaryOp .USub) (rU fun i => .int (-i)) := unI fun _ _ _ _ _ q => neg_int q
end
def scal : V → V → Bool
 | .non, .non => true | .non, .int _ => true | .int _, .non => true | .non, .bl _ => true | .bl _, .non => true | .non, .str _ => true | .str _, .non => true
 | .int _, .int _ => true | .bl _, .bl _ => true | .str _, .str _ => true | .byt _, .byt _ => true
 | .int _, .str _ => true | .str _, .int _ => true | .bl _, .str _ => true | .str _, .bl _ => true
 | _, _ => false
def rEq : R2 := fun x y H Q => scal x y = true ∧ Q (.bl (decide (x = y))) H
def rNe : R2 := fun x y H Q => scal x y = true ∧ Q (.bl (!decide (x = y))) H
theorem dec_int {i j : Int} : decide (V.int i = V.int j) = (i == j) := by
 rw [Bool.eq_iff_iff]
 simp
theorem dec_bl {i j : Bool} : decide (V.bl i = V.bl j) = (i == j) := by
 rw [Bool.eq_iff_iff]
 simp
theorem dec_str {i j : Str} : decide (V.str i = V.str j) = (i == j) := by
 rw [Bool.eq_iff_iff]
 simp
theorem dec_byt {i j : Array UInt8} : decide (V.byt i = V.byt j) = (i.toList == j.toList) := by
 rw [Bool.eq_iff_iff]
 cases i
 cases j
 simp
section
variable {X : Cx} {a b c : Expr} {ta tb tc : TE} {pos : Pos}
theorem fin_bl {pins : List (Addr × Obj)} {σ : St} {H : Hp} {s : Shared} {Q : VK} {k k' : Bool} (I : Inv X pins σ H s) (q : Q (.bl k) H) (e : k = k') : EP X pins σ Q (.bool k') s := by
 subst e
 exact ⟨.bl k, H, I, rfl, q⟩
theorem op_eq : OpR X (compareOp .Eq) rEq := by
 intro pins s σ H x y v u Q I rx ry h
 obtain ⟨hs, q⟩ := h
 cases x with
 | non =>
  cases rx
  cases y with
  | non => cases ry; exact PySem.EqNone.eq_none_none (fin_bl I q (by simp))
  | bl j => cases ry; exact PySem.EqNone.eq_none_bool (fin_bl I q (by simp))
  | int j => obtain ⟨t', rfl⟩ := ry; exact PySem.EqNone.eq_none_int (fin_bl I q (by simp))
  | str j => obtain ⟨t', rfl⟩ := ry; exact PySem.EqNone.eq_none_str (fin_bl I q (by simp))
  | _ => exact absurd (show false = true from hs) Bool.false_ne_true
 | bl i =>
  cases rx
  cases y with
  | non => cases ry; exact PySem.EqNone.eq_bool_none (fin_bl I q (by simp))
  | bl j => cases ry; exact eq_bool (fin_bl I q dec_bl)
  | str j => obtain ⟨t', rfl⟩ := ry; exact PySem.EqMixed.eq_bool_str (fin_bl I q (by simp))
  | _ => exact absurd (show false = true from hs) Bool.false_ne_true
 | int i =>
  obtain ⟨t, rfl⟩ := rx
  cases y with
  | non => cases ry; exact PySem.EqNone.eq_int_none (fin_bl I q (by simp))
  | int j => obtain ⟨t', rfl⟩ := ry; exact eq_int (fin_bl I q dec_int)
  | str j => obtain ⟨t', rfl⟩ := ry; exact PySem.EqMixed.eq_int_str (fin_bl I q (by simp))
  | _ => exact absurd (show false = true from hs) Bool.false_ne_true
 | str i =>
  obtain ⟨t, rfl⟩ := rx
  cases y with
  | non => cases ry; exact PySem.EqNone.eq_str_none (fin_bl I q (by simp))
  | bl j => cases ry; exact PySem.EqMixed.eq_str_bool (fin_bl I q (by simp))
  | int j => obtain ⟨t', rfl⟩ := ry; exact PySem.EqMixed.eq_str_int (fin_bl I q (by simp))
  | str j => obtain ⟨t', rfl⟩ := ry; exact eq_str (fin_bl I q dec_str)
  | _ => exact absurd (show false = true from hs) Bool.false_ne_true
 | byt i =>
  obtain ⟨t, rfl⟩ := rx
  cases y with
  | byt j => obtain ⟨t', rfl⟩ := ry; exact PySem.W.eq_bytes (fin_bl I q dec_byt)
  | _ => exact absurd (show false = true from hs) Bool.false_ne_true
 | _ => cases y <;> exact absurd (show false = true from hs) Bool.false_ne_true
theorem op_ne : OpR X (compareOp .NotEq) rNe := by
 intro pins s σ H x y v u Q I rx ry h
 obtain ⟨hs, q⟩ := h
 cases x with
 | non =>
  cases rx
  cases y with
  | non => cases ry; exact PySem.EqNone.ne_none_none (fin_bl I q (by simp))
  | bl j => cases ry; exact PySem.EqNone.ne_none_bool (fin_bl I q (by simp))
  | int j => obtain ⟨t', rfl⟩ := ry; exact PySem.EqNone.ne_none_int (fin_bl I q (by simp))
  | str j => obtain ⟨t', rfl⟩ := ry; exact PySem.EqNone.ne_none_str (fin_bl I q (by simp))
  | _ => exact absurd (show false = true from hs) Bool.false_ne_true
 | bl i =>
  cases rx
  cases y with
  | non => cases ry; exact PySem.EqNone.ne_bool_none (fin_bl I q (by simp))
  | bl j => cases ry; exact ne_bool (fin_bl I q (congrArg not dec_bl))
  | str j => obtain ⟨t', rfl⟩ := ry; exact PySem.EqMixed.ne_bool_str (fin_bl I q (by simp))
  | _ => exact absurd (show false = true from hs) Bool.false_ne_true
 | int i =>
  obtain ⟨t, rfl⟩ := rx
  cases y with
  | non => cases ry; exact PySem.EqNone.ne_int_none (fin_bl I q (by simp))
  | int j => obtain ⟨t', rfl⟩ := ry; exact ne_int (fin_bl I q (congrArg not dec_int))
  | str j => obtain ⟨t', rfl⟩ := ry; exact PySem.EqMixed.ne_int_str (fin_bl I q (by simp))
  | _ => exact absurd (show false = true from hs) Bool.false_ne_true
 | str i =>
  obtain ⟨t, rfl⟩ := rx
  cases y with
  | non => cases ry; exact PySem.EqNone.ne_str_none (fin_bl I q (by simp))
  | bl j => cases ry; exact PySem.EqMixed.ne_str_bool (fin_bl I q (by simp))
  | int j => obtain ⟨t', rfl⟩ := ry; exact PySem.EqMixed.ne_str_int (fin_bl I q (by simp))
  | str j => obtain ⟨t', rfl⟩ := ry; exact ne_str (fin_bl I q (congrArg not dec_str))
  | _ => exact absurd (show false = true from hs) Bool.false_ne_true
 | byt i =>
  obtain ⟨t, rfl⟩ := rx
  cases y with
  | byt j => obtain ⟨t', rfl⟩ := ry; exact PySem.W.ne_bytes (fin_bl I q (congrArg not dec_byt))
  | _ => exact absurd (show false = true from hs) Bool.false_ne_true
 | _ => cases y <;> exact absurd (show false = true from hs) Bool.false_ne_true
theorem op_lt : OpR X (compareOp .Lt) (rI0 fun i j => .bl (decide (i < j))) := opB0 fun _ _ _ _ _ _ _ q => lt_int q
theorem op_le : OpR X (compareOp .LtE) (rI0 fun i j => .bl (decide (i ≤ j))) := opB0 fun _ _ _ _ _ _ _ q => le_int q
theorem op_gt : OpR X (compareOp .Gt) (rI0 fun i j => .bl (decide (j < i))) := opB0 fun _ _ _ _ _ _ _ q => gt_int q
theorem op_in_str : OpR X (compareOp .In) (fun x y H Q => ∃ i j, x = .str i ∧ y = .str j ∧ Q (.bl (!(Builtin.Str.occurrences j i 0 j.length 1).isEmpty)) H) := by
 intro pins s σ H x y v u Q I rx ry h
 obtain ⟨i, j, rfl, rfl, q⟩ := h
 obtain ⟨t, rfl⟩ := rx
 obtain ⟨t', rfl⟩ := ry
 exact in_str (fin_bl I q rfl)
theorem nomark (b : Expr) {op : CmpOp} (h : op ≠ .In := by decide) (h2 : op ≠ .NotIn := by decide) : behindInMarks op b = false := by
 have e1 : (op == CmpOp.In) = false := by cases op <;> first | rfl | exact absurd rfl h
 have e2 : (op == CmpOp.NotIn) = false := by cases op <;> first | rfl | exact absurd rfl h2
 cases b <;> simp [behindInMarks, e1, e2]
theorem pe_cmpR {op : CmpOp} {r : R2} (ho : OpR X (compareOp op) r) (ha : PE X a ta) (hb : PE X b tb) (hm : behindInMarks op b = false) : PE X (.Compare a [op] [b] pos) (tOp r ta tb) := by
 intro pins s σ H Q I h
 exact wpAny_Compare1 (binT ha hb I h fun v u s2 x y H2 I2 rx ry q => ho pins s2 σ H2 x y v u Q I2 rx ry q) hm
def tTest (t : TE) : TT := fun σ H Q => t σ H fun x H' => ∃ k, x = .bl k ∧ Q k H'
theorem pt_cmpR {op : CmpOp} {r : R2} (ho : OpR X (compareOp op) r) (ha : PE X a ta) (hb : PE X b tb) (hm : behindInMarks op b = false) : PT X (.Compare a [op] [b] pos) (tTest (tOp r ta tb)) := by
 intro pins s σ H Q I h
 refine wpAny_isTrue_Compare1 (thn (ha pins s σ H _ I h) fun v s1 ⟨x, H1, I1, r1, q1⟩ => thn (hb pins s1 σ H1 _ I1 q1) fun u s2 ⟨y, H2, I2, r2, q2⟩ =>
  thn (ho pins s2 σ H2 x y v u _ I2 r1 r2 q2) fun c s3 ⟨z, H3, I3, r3, k, e, q3⟩ => ?_) hm
 subst e
 cases r3
 exact wpAny_truthy_bool ⟨H3, I3, q3⟩
def tChain (r r' : R2) (ta tb tc : TE) : TE := fun σ H Q => ta σ H fun x H1 => tb σ H1 fun y H2 => r x y H2 fun z H3 => ∃ k, z = .bl k ∧
 (if k = true then tc σ H3 fun w' H4 => r' y w' H4 Q else Q (.bl false) H3)
theorem pe_chain {op op' : CmpOp} {r r' : R2} (ho : OpR X (compareOp op) r) (ho' : OpR X (compareOp op') r') (ha : PE X a ta) (hb : PE X b tb) (hc : PE X c tc)
  (hm : lastMarks [op, op'] [b, c] = false := by with_unfolding_all rfl) : PE X (.Compare a [op, op'] [b, c] pos) (tChain r r' ta tb tc) := by
 intro pins s σ H Q I h
 refine Compare_chain (thn (ha pins s σ H _ I h) fun v s1 ⟨x, H1, I1, r1, q1⟩ => chain_link (thn (hb pins s1 σ H1 _ I1 q1) fun u s2 ⟨y, H2, I2, r2, q2⟩ =>
  thn (ho pins s2 σ H2 x y v u _ I2 r1 r2 q2) fun d s3 ⟨z, H3, I3, r3, k, e, q3⟩ => ?_)) hm
 subst e
 cases r3
 refine wpAny_truthy_bool ?_
 cases k with
 | false => exact ite_ff ⟨.bl false, H3, I3, rfl, q3⟩
 | true => exact ite_tt (chain_last (thn (hc pins s3 σ H3 _ I3 q3) fun w' s4 ⟨z', H4, I4, r4, q4⟩ => ho' pins s4 σ H4 y z' u w' Q I4 r2 r4 q4))
theorem line63 : (sizeLine : Nat) < 2 ^ 63 := by rw [sizeLine_eq]; decide
theorem op_add_str : OpR X (binaryOp .Add) (fun x y H Q => ∃ i j, x = .str i ∧ y = .str j ∧ i.length + j.length ≤ sizeLine ∧ Q (.str (i ++ j)) H) := by
 intro pins s σ H x y v u Q I rx ry h
 obtain ⟨i, j, rfl, rfl, hz, q⟩ := h
 obtain ⟨t, rfl⟩ := rx
 obtain ⟨t', rfl⟩ := ry
 exact add_str (fun t' tk => ⟨.str (i ++ j), H, I.tok _, ⟨_, rfl⟩, q⟩) hz
theorem vals1 {x : V} {us : List Value} (r : Vals [x] us) : ∃ u, us = [u] ∧ RelV x u := by
 cases r with
 | cons r1 r2 => cases r2; exact ⟨_, rfl, r1⟩
theorem vals2 {x y : V} {us : List Value} (r : Vals [x, y] us) : ∃ u w', us = [u, w'] ∧ RelV x u ∧ RelV y w' := by
 cases r with
 | cons r1 r2 =>
  cases r2 with
  | cons r3 r4 => cases r4; exact ⟨_, _, rfl, r1, r3⟩
theorem call_max2 (hc : X.calm = true) : CallR X (.builtin "max") (fun xs H Q => ∃ i j, xs = [.int i, .int j] ∧ Q (.int (if j > i then j else i)) H) := by
 intro pins s σ H xs us Q I r h
 obtain ⟨i, j, rfl, q⟩ := h
 obtain ⟨u, w', rfl, ⟨t, rfl⟩, ⟨t', rfl⟩⟩ := vals2 r
 refine max_two_ints (I.ok.hd hc) fun h' tk k => ⟨_, H, I.kept k, ?_, q⟩
 by_cases hj : j > i
 ·rw [if_pos hj, if_pos hj]; exact ⟨_, rfl⟩
 ·rw [if_neg hj, if_neg hj]; exact ⟨_, rfl⟩
theorem call_min2 (hc : X.calm = true) : CallR X (.builtin "min") (fun xs H Q => ∃ i j, xs = [.int i, .int j] ∧ Q (.int (if j < i then j else i)) H) := by
 intro pins s σ H xs us Q I r h
 obtain ⟨i, j, rfl, q⟩ := h
 obtain ⟨u, w', rfl, ⟨t, rfl⟩, ⟨t', rfl⟩⟩ := vals2 r
 refine min_two_ints (I.ok.hd hc) fun h' tk k => ⟨_, H, I.kept k, ?_, q⟩
 by_cases hj : j < i
 ·rw [if_pos hj, if_pos hj]; exact ⟨_, rfl⟩
 ·rw [if_neg hj, if_neg hj]; exact ⟨_, rfl⟩
end
end L2
namespace L2
open PySem PySem.Spec PyProof.Rows
structure ObjM (h : Heap) (x dx C : Addr) (mA : Str → Option Value) : Prop where
 obj : h.get? x = some (PySem.W.instObj C dx)
 ns : h.Ns1 dx mA
 ne : dx ≠ x
theorem lookIn_ns {h : Heap} {dx : Addr} {mA : Str → Option Value} (n : h.Ns1 dx mA) : ∃ od, h.get? dx = some od ∧ ∀ name, PySem.W.lookIn name od = some (mA name) := by
 obtain ⟨o, es, ep, ho, hd, hk, _, hm⟩ := n
 refine ⟨o, ho, fun name => ?_⟩
 have e := hm name
 unfold nsFind findBy at e
 rw [← Array.find?_toList] at e
 unfold PySem.W.lookIn
 rw [hd]
 dsimp only
 split
 ·rename_i y q
  rw [q] at e
  exact congrArg some e
 ·rename_i q
  rw [q] at e
  have a : es.toList.any (·.refKey) = false := by
   rw [List.any_eq_false]
   intro y hy
   obtain ⟨z, t, hkey⟩ := hk y (Array.mem_toList_iff.mp hy)
   simp [DictEntry.refKey, hkey]
  have a' : ¬ es.toList.any (·.refKey) = true := by rw [a]; exact Bool.false_ne_true
  rw [if_neg a']
  exact congrArg some e
theorem ObjM.look {h : Heap} {x dx C : Addr} {mA : Str → Option Value} (I : ObjM h x dx C mA) : ∃ od, PySem.W.InstAt h x (PySem.W.instObj C dx) C (some od) ∧ ∀ name, PySem.W.lookIn name od = some (mA name) :=
 let ⟨od, ho, hl⟩ := lookIn_ns I.ns
 ⟨od, ⟨I.obj, rfl, rfl, ho⟩, hl⟩
section
variable {prog : Program} {w : World} {A : Around} {E : Value → Shared → Prop} {s : Shared} {K : PySem.W.Frag} {x dx C f : Addr} {mA : Str → Option Value} {name : Str} {v : Value}
theorem get_map {expr : Bool} {Q : Value → Shared → Prop} (X : K.In s.heap) (I : ObjM s.heap x dx C mA) (hg : PySem.W.plainGet K C name = true) (hh : PySem.W.hasDictIn K C = true)
  (ha : PySem.W.findIn K (.ref C) name = some none) (hv : mA name = some v) (hv' : PySem.W.handedIn v = true) (h : Q v { s with toks := s.toks + 1 }) :
  wpAny (model prog w) A (getAttr (.ref x) name expr) Q E s := by
 obtain ⟨od, J, hl⟩ := I.look
 exact PySem.W.get_value X J (PySem.W.plainGet_of hg).1 (PySem.W.findObj_own hh ha rfl (by rw [hl, hv])) hv' h
theorem get_meth {pl : Sem Bool} {Q : Value × List Value → Shared → Prop} (X : K.In s.heap) (I : ObjM s.heap x dx C mA) (hg : PySem.W.plainGet K C name = true)
  (hf : PySem.W.findIn K (.ref C) name = some (some (.ref f))) (ht : PySem.W.isFn K (.ref f) = true) (hv : mA name = none) (h : Q (.ref f, [.ref x]) s) :
  wpAny (model prog w) A (getMethod (.ref x) name pl) Q E s := by
 obtain ⟨od, J, hl⟩ := I.look
 exact PySem.W.method_fn X J (PySem.W.plainGet_of hg).1 (PySem.W.plainGet_of hg).2 hf (beq_iff_eq.mp ht) (by show (PySem.W.lookIn name od).map (·.isSome) = some false; rw [hl, hv]; rfl) h
theorem set_map {ns : List Str} {Q : Unit → Shared → Prop} (X : K.In s.heap) (I : ObjM s.heap x dx C mA)
  (hs : PySem.W.findIn K (.ref C) "__setattr__" = some (some (.builtin "object.__setattr__"))) (hp : PySem.W.plainOver K C = true) (ht : PySem.W.takerIn K C name = some none) (hh : PySem.W.hasDictIn K C = true)
  (hw : PySem.Within mA ns) (hsz : ns.length ≤ sizeLine)
  (h : ∀ h', ObjM h' x dx C (fun y => if y = name then some v else mA y) → Heap.SameBut dx s.heap h' → Q () { s with heap := h', toks := s.toks + 2 }) :
  wpAny (model prog w) A (setAttr (.ref x) name v) Q E s := by
 obtain ⟨od, J, hl⟩ := I.look
 refine PySem.W.set_plain X J hs (PySem.W.osa_open (s := { s with toks := s.toks + 1 }) (r := none) X J hp ht fun b => ?_)
 obtain ⟨cd, hc, hd'⟩ := PySem.W.any_some hh
 have hx : s.heap.get? x = some ⟨.ref C, some dx, .plain, #[]⟩ := I.obj
 refine wpAny_bind (wpAny_pure (wpAny_bind (wpAny_bind (wpAny_loadPart hx (wpAny_bind (PySem.W.Looks.here (s := { s with toks := s.toks + 1 }) (PySem.W.looks_clsIn X hc) ?_))))))
 rw [hd']
 refine wpAny_pure (a := some dx) (wpAny_bind (wpAny_pure (wpAny_bind ?_)))
 refine wpAny_nsSet1 (s := { s with toks := s.toks + 1 }) I.ns fun h' hn2 hs2 => ?_
 obtain ⟨oD, esD, epD, hoD, hdD, hcD⟩ := hn2.count (PySem.Within.cons name v hw)
 refine wpAny_bind (wpAny_lookBehind hoD (by rw [hdD]; exact pastItsLine_dict (Nat.le_trans hcD (by rw [List.length_cons]; omega))) ?_)
 exact wpAny_pure (h _ ⟨(hs2.2 _ (Ne.symm I.ne)).trans I.obj, hn2, I.ne⟩ hs2)
theorem make_map {R : Result → Shared → Prop} {vs : List Value} {kw : List (Str × Value)} (X : K.In s.heap) (hm : PySem.W.makesIn K C = true)
  (hi : PySem.W.findIn K (.ref C) "__init__" = some (some (.ref f))) (hf : PySem.W.typeIn K (.ref f) = some (.type "function"))
  (h : codeAny (model prog w) (A.under (.builtin "type.__call__" ⟨.ref C :: vs, kw⟩)) (.call (.ref f) ⟨.ref (s.heap.objs.size + 1) :: vs, kw⟩) (PySem.W.InitBack (s.heap.objs.size + 1) R)
   { s with heap := (s.heap.push PySem.W.emptyDict).push (PySem.W.instObj C s.heap.objs.size) }) :
  codeAny (model prog w) A (.call (.ref C) ⟨vs, kw⟩) R s := by
 obtain ⟨hh, g, d, t, os⟩ := s
 exact PySem.W.make_core (PySem.W.makes_of X hm) (PySem.W.looks_findIn X hi) (fun self => PySem.W.bind_fn X self hf) (.inl rfl) h
end
def putF (f : Str) (v : V) : List (Str × V) → List (Str × V)
 | [] => [(f, v)]
 | (g, x) :: r => if g = f then (g, v) :: r else (g, x) :: putF f v r
theorem lookup_putF (f g : Str) (v : V) : ∀ fs : List (Str × V), (putF f v fs).lookup g = if g = f then some v else fs.lookup g
 | [] => by
  show List.lookup g [(f, v)] = _
  by_cases h : g = f
  ·have hb : (g == f) = true := beq_iff_eq.mpr h
   simp only [List.lookup, hb, if_pos h]
  ·have hb : (g == f) = false := beq_eq_false_iff_ne.mpr h
   simp only [List.lookup, hb, if_neg h]
 | (k, x) :: r => by
  have ih := lookup_putF f g v r
  rw [show putF f v ((k, x) :: r) = (if k = f then (k, v) :: r else (k, x) :: putF f v r) from rfl]
  by_cases hk : k = f
  ·rw [if_pos hk]
   by_cases h : g = k
   ·have hb : (g == k) = true := beq_iff_eq.mpr h
    simp only [List.lookup, hb, if_pos (h.trans hk)]
   ·have hb : (g == k) = false := beq_eq_false_iff_ne.mpr h
    simp only [List.lookup, hb, if_neg (fun e : g = f => h (e.trans hk.symm))]
  ·rw [if_neg hk]
   by_cases h : g = k
   ·have hb : (g == k) = true := beq_iff_eq.mpr h
    simp only [List.lookup, hb, if_neg (fun e : g = f => hk (h.symm.trans e))]
   ·have hb : (g == k) = false := beq_eq_false_iff_ne.mpr h
    simp only [List.lookup, hb]
    exact ih
theorem keys_putF (f : Str) (v : V) : ∀ fs : List (Str × V), f ∈ (putF f v fs).map (·.1) ∧ ∀ g, g ∈ fs.map (·.1) → g ∈ (putF f v fs).map (·.1)
 | [] => ⟨by simp [putF], fun g h => by simp at h⟩
 | (k, x) :: r => by
  obtain ⟨i1, i2⟩ := keys_putF f v r
  rw [show putF f v ((k, x) :: r) = (if k = f then (k, v) :: r else (k, x) :: putF f v r) from rfl]
  by_cases hk : k = f
  ·rw [if_pos hk]
   subst hk
   exact ⟨by simp, fun g h => by simpa using h⟩
  ·rw [if_neg hk]
   refine ⟨?_, fun g h => ?_⟩
   ·rw [List.map_cons]
    exact List.mem_cons_of_mem _ i1
   ·rw [List.map_cons] at h ⊢
    rcases List.mem_cons.mp h with e | e
    ·exact List.mem_cons.mpr (.inl e)
    ·exact List.mem_cons_of_mem _ (i2 g e)
theorem length_putF (f : Str) (v : V) : ∀ fs : List (Str × V), (putF f v fs).length ≤ fs.length + 1
 | [] => by simp [putF]
 | (k, x) :: r => by
  have ih := length_putF f v r
  rw [show putF f v ((k, x) :: r) = (if k = f then (k, v) :: r else (k, x) :: putF f v r) from rfl]
  by_cases hk : k = f
  ·rw [if_pos hk, List.length_cons, List.length_cons]; omega
  ·rw [if_neg hk, List.length_cons, List.length_cons]; omega
theorem RelO.some_of {v : V} {o : Option Value} (r : RelO (some v) o) : ∃ u, o = some u ∧ RelV v u := by
 cases o with
 | none => exact (show False from r).elim
 | some u => exact ⟨u, rfl, r⟩
theorem RelO.none_of {o : Option Value} (r : RelO none o) : o = none := by
 cases o with
 | none => rfl
 | some u => exact (show False from r).elim
theorem handed_of {v : V} {u : Value} (r : RelV v u) : PySem.W.handedIn u = true := by
 cases v with
 | non => cases (show u = Value.none from r); rfl
 | bl b => cases (show u = Value.bool b from r); rfl
 | int i => obtain ⟨t, e⟩ := (show ∃ t, u = Value.int i t from r); cases e; rfl
 | str x => obtain ⟨t, e⟩ := (show ∃ t, u = Value.str x t from r); cases e; rfl
 | byt b => obtain ⟨t, e⟩ := (show ∃ t, u = Value.bytes b t from r); cases e; rfl
 | flt b => obtain ⟨t, e⟩ := (show ∃ t, u = Value.float b t from r); cases e; rfl
 | ref a => cases (show u = Value.ref a from r); rfl
 | ty n => cases (show u = Value.type n from r); rfl
section
variable {P : Program} {w : World} {H H' : Hp} {h h' : Heap} {a C dx : Addr} {fs fs' : List (Str × V)}
theorem ins_get (hok : HOk P w H h) (e : H a = some (.ins C dx fs)) : ∃ mA, ObjM h a dx C mA ∧ (∀ f, RelO (fs.lookup f) (mA f)) ∧ PySem.Within mA (fs.map (·.1)) ∧ fs.length ≤ 1000 ∧ H dx = some (.own a) := by
 obtain ⟨d, z, ne, ob, mA, n, r, q⟩ := (show ObjOk P w H h a (.ins C dx fs) from hok a _ e)
 exact ⟨mA, ⟨ob, n, ne⟩, r, q, z, d⟩
end
structure Cls (K : PySem.W.Frag) (C : Addr) : Prop where
 pg : PySem.W.plainGet K C Str.empty = true
 hd : PySem.W.hasDictIn K C = true
 po : PySem.W.plainOver K C = true
 sa : PySem.W.findIn K (.ref C) "__setattr__" = some (some (.builtin "object.__setattr__"))
theorem Cls.get {K : PySem.W.Frag} {C : Addr} (c : Cls K C) (f : Str) : PySem.W.plainGet K C f = true := c.pg
def NoAttr (K : PySem.W.Frag) (C : Addr) (f : Str) : Prop := PySem.W.findIn K (.ref C) f = some none
theorem NoAttr.taker {K : PySem.W.Frag} {C : Addr} {f : Str} (n : NoAttr K C f) : PySem.W.takerIn K C f = some none := by
 unfold PySem.W.takerIn
 rw [show PySem.W.findIn K (.ref C) f = some none from n]
 rfl
structure Meth (K : PySem.W.Frag) (C : Addr) (m : Str) (f : Addr) : Prop where
 at_ : PySem.W.findIn K (.ref C) m = some (some (.ref f))
 fn : PySem.W.isFn K (.ref f) = true
 kp : PySem.W.keepIn K (.ref f) = true
section
variable {X : Cx} {pins : List (Addr × Obj)} {σ : St} {H : Hp} {s : Shared} {a C dx : Addr} {fs : List (Str × V)} {f : Str} {v : V} {A : Around} {E : Value → Shared → Prop}
theorem getattr_ok {b : Bool} {Q : Value → Shared → Prop} (I : Inv X pins σ H s) (e : H a = some (.ins C dx fs)) (c : Cls X.K C) (n : NoAttr X.K C f) (l : fs.lookup f = some v)
  (h : ∀ u s', Inv X pins σ H s' → RelV v u → Q u s') : wpAny (model X.prog X.w) A (getAttr (.ref a) f b) Q E s := by
 obtain ⟨mA, O, r, _, _, _⟩ := ins_get I.hok e
 obtain ⟨u, hu, ru⟩ := RelO.some_of (v := v) (o := mA f) (by rw [← l]; exact r f)
 exact get_map I.kIn O (c.get f) c.hd n hu (handed_of ru) (h u _ (I.tok _) ru)
theorem getmeth_ok {m : Str} {g : Addr} {pl : Sem Bool} {Q : Value × List Value → Shared → Prop} (I : Inv X pins σ H s) (e : H a = some (.ins C dx fs)) (c : Cls X.K C) (k : Meth X.K C m g) (l : fs.lookup m = none)
  (h : Q (.ref g, [.ref a]) s) : wpAny (model X.prog X.w) A (getMethod (.ref a) m pl) Q E s := by
 obtain ⟨mA, O, r, _, _, _⟩ := ins_get I.hok e
 have hn : mA m = none := RelO.none_of (by rw [← l]; exact r m)
 exact get_meth I.kIn O (c.get m) k.at_ k.fn hn h
theorem setattr_ok {y : V} {u : Value} {Q : Unit → Shared → Prop} (I : Inv X pins σ H s) (e : H a = some (.ins C dx fs)) (c : Cls X.K C) (n : NoAttr X.K C f) (hl : fs.length < 1000) (ry : RelV y u)
  (h : ∀ s', Inv X pins σ (upd H a (.ins C dx (putF f y fs))) s' → Q () s') : wpAny (model X.prog X.w) A (setAttr (.ref a) f u) Q E s := by
 obtain ⟨mA, O, r, wi, _, ho⟩ := ins_get I.hok e
 have hz : (fs.map (·.1)).length ≤ sizeLine := by rw [List.length_map, sizeLine_eq]; omega
 refine set_map I.kIn O c.sa c.po n.taker c.hd wi hz fun h' O' sb => h _ ?_
 have hd : ∃ o, h'.get? dx = some o := let ⟨o, _, _, e', _⟩ := O'.ns; ⟨o, e'⟩
 refine I.write (x := a) (e := dx) (by rw [e]; exact True.intro) (.inr ho) (fun b q hb z => (sb.2 b hb).trans z) hd ?_
 refine ⟨by rw [upd_ne O.ne]; exact ho, ?_, O.ne, O'.obj, _, O'.ns, fun g => ?_, fun g hg => ?_⟩
 ·have := length_putF f y fs; omega
 ·show RelO ((putF f y fs).lookup g) (if g = f then some u else mA g)
  rw [lookup_putF]
  by_cases q : g = f
  ·rw [if_pos q, if_pos q]; exact ry
  ·rw [if_neg q, if_neg q]; exact r g
 ·by_cases q : g = f
  ·rw [q]; exact (keys_putF f y fs).1
  ·refine (keys_putF f y fs).2 g (wi g fun z => hg ?_)
   show (if g = f then some u else mA g) = none
   rw [if_neg q]; exact z
theorem Inv.made (I : Inv X pins σ H s) : Inv X pins σ (upd (upd H s.heap.objs.size (.own (s.heap.objs.size + 1))) (s.heap.objs.size + 1) (.ins C s.heap.objs.size []))
  { s with heap := (s.heap.push PySem.W.emptyDict).push (PySem.W.instObj C s.heap.objs.size) } := by
 have e1 : (s.heap.push PySem.W.emptyDict).get? s.heap.objs.size = some PySem.W.emptyDict := Heap.get?_push_size s.heap rfl
 have e2 : ((s.heap.push PySem.W.emptyDict).push (PySem.W.instObj C s.heap.objs.size)).get? (s.heap.objs.size + 1) = some (PySem.W.instObj C s.heap.objs.size) := by
  have := Heap.get?_push_size (s.heap.push PySem.W.emptyDict) (o := PySem.W.instObj C s.heap.objs.size) rfl
  rwa [Heap.size_push] at this
 have e3 : (s.heap.push PySem.W.emptyDict).Ns s.heap.objs.size (fun _ => none) := ⟨PySem.W.emptyDict, #[], _, e1, rfl, (fun e he => absurd he (by simp)), fun _ => rfl⟩
 have I1 := I.laid (a := s.heap.objs.size) (o := .own (s.heap.objs.size + 1)) (h' := s.heap.push PySem.W.emptyDict) (t' := s.toks) (fun b u q => Heap.get?_push_of_some _ q) (Nat.le_refl _) ⟨_, e1⟩
 refine I1.laid (a := s.heap.objs.size + 1) (o := .ins C s.heap.objs.size []) (t' := s.toks) (fun b u q => Heap.get?_push_of_some _ q) (Nat.le_of_eq (Heap.size_push _ _)) ?_
 have ne : s.heap.objs.size ≠ s.heap.objs.size + 1 := Nat.ne_of_lt (Nat.lt_succ_self _)
 refine ⟨by rw [upd_ne ne, upd_same], Nat.zero_le _, ne, e2, fun _ => none, (Heap.Ns1.of_empty e3).at fun o q => Heap.get?_push_of_some _ q, fun _ => True.intro, fun y hy => absurd rfl hy⟩
theorem attr_of {prog : Program} {w : World} {env : Env} {e : Expr} {f : Str} {pos : Pos} {s : Shared} {Q : Value → Shared → Prop} (hb : attributeBase e f env (eval e env) = eval e env)
  (h : wpAny (model prog w) A (eval e env) (fun o s₁ => wpAny (model prog w) A (getAttr o f true) Q E s₁) E s) : wpAny (model prog w) A (eval (.Attribute e f pos) env) Q E s :=
 Attribute_any_ h (by rw [arm_eval_Attribute, hb])
end
def tFld (K : PySem.W.Frag) (ta : TE) (f : Str) : TE := fun σ H Q => ta σ H fun x H1 => ∃ a C dx fs v, x = .ref a ∧ H1 a = some (.ins C dx fs) ∧ Cls K C ∧ NoAttr K C f ∧ fs.lookup f = some v ∧ Q v H1
def sFld (K : PySem.W.Frag) (ta tv : TE) (f : Str) : TS := fun D σ H => tv σ H fun y H1 => ta σ H1 fun x H2 => ∃ a C dx fs, x = .ref a ∧ H2 a = some (.ins C dx fs) ∧ Cls K C ∧ NoAttr K C f ∧ fs.length < 1000 ∧
 D.nx σ (upd H2 a (.ins C dx (putF f y fs)))
section
variable {X : Cx} {o e value : Expr} {f : Str} {pos pos' tpos : Pos} {ta tv : TE}
theorem pe_fld (he : PE X e ta) (hb : attributeBase e f X.env (eval e X.env) = eval e X.env) : PE X (.Attribute e f pos) (tFld X.K ta f) := by
 intro pins s σ H Q I h
 refine attr_of hb (thn (he pins s σ H _ I h) fun u s1 ⟨x, H1, I1, rx, a, C, dx, fs, v, ex, ea, c, n, l, q⟩ => ?_)
 subst ex
 obtain rfl : u = Value.ref a := rx
 exact getattr_ok I1 ea c n l fun u' s2 I2 ru => ⟨v, H1, I2, ru, q⟩
theorem ps_fld (ha : PE X o ta) (hv : PE X value tv) (hs : swapsWith value (some (.Attribute o f pos')) pos.line X.env = pure false) : PS X (.Assign [.Attribute o f pos'] value pos) (sFld X.K ta tv f) := by
 intro pins s σ H D I h
 refine plainObj_wpAny_Assign_Attribute (thn (hv pins s σ H _ I h) fun u s1 ⟨y, H1, I1, ry, q⟩ => thn (ha pins s1 σ H1 _ I1 q) fun ov s2 ⟨x, H2, I2, rx, a, C, dx, fs, ex, ea, c, n, l, q2⟩ => ?_) hs
 subst ex
 obtain rfl : ov = Value.ref a := rx
 exact setattr_ok I2 ea c n l ry fun s3 I3 => ⟨σ, _, I3, q2⟩
end
section
variable {X : Cx} {pins : List (Addr × Obj)} {σ : St} {H : Hp} {s : Shared} {A : Around} {E : Value → Shared → Prop} {Q : Value → Shared → Prop} {c : Value} {b : Bool}
inductive TyOf (K : PySem.W.Frag) (H : Hp) : V → Value → Prop where
 | non : TyOf K H .non (.type "NoneType")
 | bl (x : Bool) : TyOf K H (.bl x) (.type "bool")
 | int (i : Int) : TyOf K H (.int i) (.type "int")
 | str (x : Str) : TyOf K H (.str x) (.type "str")
 | flt (x : UInt64) : TyOf K H (.flt x) (.type "float")
 | lst {a : Addr} {xs : List V} (e : H a = some (.lst xs)) : TyOf K H (.ref a) (.type "list")
 | frz {a : Addr} {o : Obj} {xs : List V} (e : H a = some (.frz o (.lst xs))) : TyOf K H (.ref a) (.type "list")
 | tup {a : Addr} {xs : List V} (e : H a = some (.tup xs)) : TyOf K H (.ref a) (.type "tuple")
 | dK {a : Addr} {kvs : List (Key × V)} (e : H a = some (.dK kvs)) : TyOf K H (.ref a) (.type "dict")
 | dT {a : Addr} {kvs : List (List Key × V)} (e : H a = some (.dT kvs)) : TyOf K H (.ref a) (.type "dict")
 | ins {a C dx : Addr} {fs : List (Str × V)} (e : H a = some (.ins C dx fs)) (cl : Cls K C) (ha : PySem.W.findIn K (.ref C) "__class__" = some (some (.builtin "object.__class__")))
   (hn : PySem.W.specialIn K (.builtin "object.__class__") "__get__" = some (some (.builtin "getset_descriptor.__get__"))) (htk : PySem.W.takesIn K (.builtin "object.__class__") = some true)
   (hm : PySem.W.mroIn K C (.type "object") = some true) : TyOf K H (.ref a) (.ref C)
theorem isinst_ok {x : V} {u t : Value} (I : Inv X pins σ H s) (rx : RelV x u) (ty : TyOf X.K H x t) (e : PySem.W.kitOne X.K t c = some b) (h : ∀ tk, Q (.bool b) { s with toks := tk }) :
  wpAny (model X.prog X.w) A (call (.builtin "isinstance") [u, c]) Q E s := by
 cases ty with
 | non => cases (show u = Value.none from rx); exact PySem.W.kia_one PySem.W.kitx_none I.kIn True.intro e (fun z => nomatch z) h
 | bl y => cases (show u = Value.bool y from rx); exact PySem.W.kia_one PySem.W.kitx_bool I.kIn True.intro e (fun z => nomatch z) h
 | int i => obtain ⟨t, q⟩ := (show ∃ t, u = Value.int i t from rx); cases q; exact PySem.W.kia_one PySem.W.kitx_int I.kIn True.intro e (fun z => nomatch z) h
 | str y => obtain ⟨t, q⟩ := (show ∃ t, u = Value.str y t from rx); cases q; exact PySem.W.kia_one PySem.W.kitx_str I.kIn True.intro e (fun z => nomatch z) h
 | flt y => obtain ⟨t, q⟩ := (show ∃ t, u = Value.float y t from rx); cases q; exact PySem.W.kia_one PySem.W.kitx_float I.kIn True.intro e (fun z => nomatch z) h
 | @lst a xs ea =>
  cases (show u = Value.ref a from rx)
  obtain ⟨_, _, n, _, h1⟩ := (show ObjOk X.prog X.w H s.heap a (.lst xs) from I.hok a _ ea)
  exact PySem.W.kia_one PySem.W.kitx_list I.kIn ⟨_, h1, rfl⟩ e (fun z => nomatch z) h
 | @frz a ob xs ea =>
  cases (show u = Value.ref a from rx)
  obtain ⟨_, _, _, n, _, h1⟩ := (show ObjOk X.prog X.w H s.heap a (.frz ob (.lst xs)) from I.hok a _ ea)
  exact PySem.W.kia_one PySem.W.kitx_list I.kIn ⟨_, h1, rfl⟩ e (fun z => nomatch z) h
 | @tup a xs ea =>
  cases (show u = Value.ref a from rx)
  obtain ⟨_, _, _, p⟩ := (show ObjOk X.prog X.w H s.heap a (.tup xs) from I.hok a _ ea)
  obtain ⟨o, h1, h2, _⟩ := p
  exact PySem.W.kia_one PySem.W.kitx_tuple I.kIn ⟨o, h1, h2⟩ e (fun z => nomatch z) h
 | @dK a kvs ea =>
  cases (show u = Value.ref a from rx)
  obtain ⟨_, _, vs, _, p⟩ := (show ObjOk X.prog X.w H s.heap a (.dK kvs) from I.hok a _ ea)
  obtain ⟨o, es, ep, h1, h2, _⟩ := p
  exact PySem.W.kia_one PySem.W.kitx_dict I.kIn ⟨o, h1, h2.1⟩ e (fun z => nomatch z) h
 | @dT a kvs ea =>
  cases (show u = Value.ref a from rx)
  obtain ⟨_, _, xs, _, o, es, ep, h1, h2, _⟩ := (show ObjOk X.prog X.w H s.heap a (.dT kvs) from I.hok a _ ea)
  exact PySem.W.kia_one PySem.W.kitx_dict I.kIn ⟨o, h1, h2.1⟩ e (fun z => nomatch z) h
 | @ins a C dx fs ea cl ha hn htk hm =>
  cases (show u = Value.ref a from rx)
  obtain ⟨mA, O, _⟩ := ins_get I.hok ea
  obtain ⟨od, J, _⟩ := O.look
  exact PySem.W.kia_one (PySem.W.kitx_own (cl.get _) cl.hd ha hn htk hm) I.kIn J e (fun z => nomatch z) h
end
end L2
namespace L2
open PySem PySem.Spec PyProof.Rows
structure Room (k : Nat) (A : Around) : Prop where
 hd : A.handled = none
 dp : A.depth + 3 * k + 5 < recursionLimit
 un : A.units + 16 * k + 200 < cLine
theorem Room.mono {j k : Nat} {A : Around} (r : Room k A) (h : j ≤ k) : Room j A := ⟨r.hd, by have := r.dp; omega, by have := r.un; omega⟩
theorem Room.deeper {k : Nat} {A : Around} (r : Room (k + 1) A) (env : Env) : Room k (A.deeper env) :=
 ⟨r.hd, by have := r.dp; show A.depth + 1 + 3 * k + 5 < _; omega, by have := r.un; show A.units + 3 + 16 * k + 200 < _; omega⟩
theorem make_depth {A : Around} {C : Addr} {us : List Value} {kw : List (Str × Value)} : (A.under (.builtin "type.__call__" ⟨.ref C :: us, kw⟩)).depth = A.depth + 1 := by
 first | rfl | simp [Around.under, Code.weight, Code.isCreation, Code.isGuard, Code.isCaller, Code.frames, Code.isFrame, guardIds]
theorem make_units {A : Around} {C : Addr} {us : List Value} {kw : List (Str × Value)} : (A.under (.builtin "type.__call__" ⟨.ref C :: us, kw⟩)).units = A.units + 1 := by
 first | rfl | simp [Around.under, Code.cUnits, Code.frames, Code.isFrame]
theorem Room.make {k : Nat} {A : Around} (r : Room (k + 1) A) (C : Addr) (us : List Value) (kw : List (Str × Value)) : Room k (A.under (.builtin "type.__call__" ⟨.ref C :: us, kw⟩)) :=
 ⟨r.hd, by have := r.dp; rw [make_depth]; omega, by have := r.un; rw [make_units]; omega⟩
theorem Room.depth {k : Nat} {A : Around} (r : Room k A) : A.depth < recursionLimit := by have := r.dp; omega
theorem Room.units {k : Nat} {A : Around} (r : Room k A) : A.units + 64 < cLine := by have := r.un; omega
def tNil : TA := fun _ H Q => Q [] H
def tCons (ta : TE) (tr : TA) : TA := fun σ H Q => ta σ H fun x H1 => tr σ H1 fun xs H2 => Q (x :: xs) H2
section
variable {X : Cx} {e : Expr} {es : List Expr} {te : TE} {t : TA} {pos : Pos}
theorem pa_nil : PA X [] tNil := fun _ _ _ _ H Q I h => Calls.spliced_nil ⟨[], H, I, .nil, h⟩
theorem pa_cons (ha : PE X e te) (hr : PA X es t) (hs : starEach (e :: es) X.env = (false, eval e X.env) :: starEach es X.env := by rfl) : PA X (e :: es) (tCons te t) := by
 intro pos pins s σ H Q I h
 rw [hs]
 show wpAny _ _ (spliced ((false, eval e X.env) :: backTo pos (starEach es X.env))) _ _ s
 refine Calls.spliced_cons (thn (ha pins s σ H _ I h) fun u s1 ⟨x, H1, I1, r1, q1⟩ => ?_)
 exact thn (hr pos pins s1 σ H1 _ I1 q1) fun us s2 ⟨xs, H2, I2, r2, q2⟩ => ⟨x :: xs, H2, I2, .cons r1 r2, q2⟩
def tTup (t : TA) : TE := fun σ H Q => t σ H fun xs H1 => xs.length ≤ sizeLine ∧ ∀ p, H1 p = none → Q (.ref p) (upd H1 p (.tup xs))
def tLst (t : TA) : TE := fun σ H Q => t σ H fun xs H1 => xs.length ≤ sizeLine ∧ ∀ p, H1 p = none → Q (.ref p) (upd H1 p (.lst xs))
theorem pe_tup {x1} (h : PA X es t) : PE X (.Tuple es x1 pos) (tTup t) := by
 intro pins s σ H Q I hq
 refine wpAny_Tuple_spliced (thn (h pos pins s σ H _ I hq) fun us s1 ⟨xs, H1, I1, r, z, q⟩ => ⟨by rw [← r.length]; exact z, ?_⟩)
 have hf : H1 s1.heap.objs.size = none := I1.hok.fresh (Nat.le_refl _)
 refine ⟨.ref s1.heap.objs.size, upd H1 s1.heap.objs.size (.tup xs), I1.laid (t' := s1.toks) (fun b u e => Heap.get?_push_of_some _ e) (Nat.le_refl _) ?_, rfl, q _ hf⟩
 exact ⟨z, us, r, ⟨_, Heap.get?_push_size _ rfl, rfl, _, rfl⟩⟩
theorem pe_lst (h : PA X es t) : PE X (.List es pos) (tLst t) := by
 intro pins s σ H Q I hq
 refine wpAny_List_spliced (thn (h pos pins s σ H _ I hq) fun us s1 ⟨xs, H1, I1, r, z, q⟩ => ⟨by rw [← r.length]; exact z, ?_⟩)
 have hf : H1 s1.heap.objs.size = none := I1.hok.fresh (Nat.le_refl _)
 refine ⟨.ref s1.heap.objs.size, upd H1 s1.heap.objs.size (.lst xs), I1.laid (t' := s1.toks) (fun b u e => Heap.get?_push_of_some _ e) (Nat.le_refl _) ?_, rfl, q _ hf⟩
 exact ⟨z, us, 0, r, Heap.get?_push_size _ rfl⟩
end
abbrev Sp := List V → Hp → VK → XK → Prop
abbrev CXT := List Env → Hp → Shared → XK → Value → Shared → Prop
structure Env0 (P : Program) (w : World) (K : PySem.W.Frag) (mg : Str → Option Value) (base : Heap) (A : Around) (outer : List Env) (s : Shared) (H : Hp) : Prop where
 frames : A.frames = some outer
 mod : Mod K mg base
 bs : ∀ b o, base.get? b = some o → s.heap.get? b = some o ∧ H b = none
 bsz : base.objs.size ≤ s.heap.objs.size
 funs : s.heap.FunFrames base outer
 frf : ∀ b ∈ frs outer, H b = none
 hok : HOk P w H s.heap
 bare : AllBare s.gens
def CE (outer : List Env) (P : Program) (w : World) (H : Hp) (s : Shared) (Q : VK) (u : Value) (s' : Shared) : Prop :=
 ∃ v H', s'.os = s.os ∧ AllBare s'.gens ∧ Un (frs outer) [] H H' s.heap s'.heap ∧ HOk P w H' s'.heap ∧ RelV v u ∧ Q v H'
def CR (CX : CXT) (outer : List Env) (P : Program) (w : World) (H : Hp) (s : Shared) (Q : VK) (E : XK) (r : Result) (s' : Shared) : Prop :=
 match r with
 | .ok (.ret u) => CE outer P w H s Q u s'
 | .ok _ => False
 | .error e => CX outer H s E e s'
structure FnOk (P : Program) (w : World) (K : PySem.W.Frag) (mg : Str → Option Value) (base : Heap) (CX : CXT) (k : Nat) (f : Addr) (fd : FuncData) (ps : List Str) (sp : Sp) : Prop where
 len : ∀ vs H Q E, sp vs H Q E → vs.length = ps.length
 run : ∀ (A : Around) (outer : List Env) (s : Shared) (H : Hp) (args : Args) (us : List Value) (vs : List V) (Q : VK) (E : XK), Room k A → Env0 P w K mg base A outer s H → BindsTo s fd args (ps.zip us) → Vals vs us → sp vs H Q E →
  codeAny (model P w) A (.call (.ref f) args) (CR CX outer P w H s Q E) s
theorem Env0.make {P : Program} {w : World} {K : PySem.W.Frag} {mg : Str → Option Value} {base : Heap} {A : Around} {outer : List Env} {s : Shared} {H : Hp} (e : Env0 P w K mg base A outer s H) (C : Addr) (us : List Value) (kw : List (Str × Value)) :
  Env0 P w K mg base (A.under (.builtin "type.__call__" ⟨.ref C :: us, kw⟩)) outer s H := ⟨by first | exact e.frames | (simpa [Around.under, Code.envs, Code.isFrame, pushEnvs] using e.frames), e.mod, e.bs, e.bsz, e.funs, e.frf, e.hok, e.bare⟩
section
variable {X : Cx} {pins : List (Addr × Obj)} {σ : St} {H : Hp} {s s' : Shared}
theorem Inv.env0 (I : Inv X pins σ H s) : Env0 X.prog X.w X.K X.mg X.base X.A X.stack s H :=
 ⟨I.ok.frames, I.ok.mod, I.bs, Nat.le_trans I.ok.bsz I.sz, I.stack, I.stkFree, I.hok, I.bare⟩
theorem Inv.after {Q : VK} {u : Value} (I : Inv X pins σ H s) (h : CE X.stack X.prog X.w H s Q u s') : EP X pins σ Q u s' := by
 obtain ⟨v, H', os, bare, un, hok, r, q⟩ := h
 obtain ⟨hh, g, d, t, os'⟩ := s'
 obtain rfl : os' = s.os := os
 exact ⟨v, H', I.call (h' := hh) (g' := g) (d' := d) (t' := t) (ch := []) un hok bare (fun b z => absurd z (by simp)), r, q⟩
end
def tCall (sp : Sp) (dvs : List V) (E : XK) (t : TA) : TE := fun σ H Q => t σ H fun vs H1 => sp (vs ++ dvs) H1 Q E
def tMeth (C : Addr) (m : Str) (sp : Sp) (dvs : List V) (E : XK) (ta : TE) (t : TA) : TE := fun σ H Q => ta σ H fun x H1 => ∃ a dx fs, x = .ref a ∧ H1 a = some (.ins C dx fs) ∧ fs.lookup m = none ∧
 t σ H1 fun vs H2 => sp (x :: (vs ++ dvs)) H2 Q E
def tMake (C : Addr) (sp : Sp) (dvs : List V) (E : XK) (t : TA) : TE := fun σ H Q => t σ H fun vs H1 => ∀ x dx, H1 x = none → H1 dx = none → dx ≠ x →
 sp (.ref x :: (vs ++ dvs)) (upd (upd H1 dx (.own x)) x (.ins C dx [])) (fun v H2 => v = .non ∧ Q (.ref x) H2) E
def Binds (K : PySem.W.Frag) (fd : FuncData) (ps : List Str) (ds : List Value) : Prop :=
 ∀ (s : Shared) (us : List Value), K.In s.heap → (us ++ ds).length = ps.length → BindsTo s fd ⟨us, []⟩ (ps.zip (us ++ ds))
theorem Binds.all {K : PySem.W.Frag} {fd : FuncData} {ps : List Str} (h : ∀ us : List Value, us.length = ps.length → bindArgs fd ⟨us, []⟩ = pure (ps.zip us)) : Binds K fd ps [] := fun s us _ hl => by
 rw [List.append_nil] at hl ⊢
 exact .of_eq (h us hl)
def Passes (CX : CXT) (X : Cx) (E : XK) : Prop := ∀ (pins : List (Addr × Obj)) (σ : St) (H : Hp) (s : Shared) (e : Value) (s' : Shared), Inv X pins σ H s → CX X.stack H s E e s' → X.xe e s'
section
variable {X : Cx} {CX : CXT} {k : Nat} {f C : Addr} {fd : FuncData} {ps : List Str} {sp : Sp} {dvs : List V} {ds : List Value} {E : XK} {x m : Str} {p pos apos : Pos} {e o : Expr} {es : List Expr} {ta : TE} {t : TA}
theorem run_fn {pins : List (Addr × Obj)} {σ : St} {H : Hp} {s : Shared} {Q : VK} {us : List Value} {vs : List V} (F : FnOk X.prog X.w X.K X.mg X.base CX k f fd ps sp) (hr : Room k X.A) (hb : Binds X.K fd ps ds) (hd : Vals dvs ds) (hx : Passes CX X E)
  (I : Inv X pins σ H s) (r : Vals vs us) (h : sp (vs ++ dvs) H Q E) : wpAny (model X.prog X.w) X.A (call (.ref f) us) (EP X pins σ Q) X.xe s := by
 have r2 : Vals (vs ++ dvs) (us ++ ds) := r.append hd
 have hl : (us ++ ds).length = ps.length := by rw [← r2.length]; exact F.len _ _ _ _ h
 refine wpAny_call (codeAny_mono (F.run X.A X.stack s H ⟨us, []⟩ (us ++ ds) (vs ++ dvs) Q E hr I.env0 (hb s us I.kIn hl) r2 h) fun r s' hq => ?_)
 cases r with
 | error e => exact hx pins σ H s e s' I hq
 | ok fl =>
  cases fl with
  | ret u => exact I.after hq
  | next => exact False.elim hq
  | brk => exact False.elim hq
  | cont => exact False.elim hq
theorem pe_call (F : FnOk X.prog X.w X.K X.mg X.base CX k f fd ps sp) (hr : Room k X.A) (hg : Gl X x) (hm : X.mg x = some (.ref f)) (hk : PySem.W.keepIn X.K (.ref f) = true) (hb : Binds X.K fd ps ds) (hd : Vals dvs ds) (hx : Passes CX X E)
  (ha : PA X (e :: es) t) (hdb : (x == ("__debug__" : Str)) = false := by decide) (he : starEach (e :: es) X.env = (false, eval e X.env) :: starEach es X.env := by rfl) (hpl : (backTo pos (starEach es X.env)).any (·.1) = false := by rfl) :
  PE X (.Call (.Name x p) (e :: es) [] pos) (tCall sp dvs E t) := by
 intro pins s σ H Q I h
 refine wpAny_Call_Name_kw (ld_glob I hg hm ?_ hdb)
 refine PySem.W.callWith_K (h₀ := X.base) I.ok.mod.kin hk (thn (ha pos pins s σ H _ I h) fun us s1 ⟨vs, H1, I1, r, q⟩ => ⟨I1.kIn, ?_⟩) he hpl
 exact run_fn F hr hb hd hx I1 r q
theorem pe_meth {pl : Sem Bool} (he : PE X o ta) (c : Cls X.K C) (hm : Meth X.K C m f) (F : FnOk X.prog X.w X.K X.mg X.base CX k f fd ps sp) (hr : Room k X.A) (hb : Binds X.K fd ps ds) (hd : Vals dvs ds) (hx : Passes CX X E) (ha : PA X (e :: es) t)
  (hst : starEach (e :: es) X.env = (false, eval e X.env) :: starEach es X.env := by rfl) (hpl : (backTo pos (starEach es X.env)).any (·.1) = false := by rfl)
  (ht : eval (.Call (.Attribute o m apos) (e :: es) [] pos) X.env = (do
   let ov ← eval o X.env
   standAt apos.atName
   let (f, first) ← holding [ov] (getMethod ov m pl)
   callWith pos f first (backTo pos (starEach (e :: es) X.env)) (backToKw pos (keywordEach [] X.env))) := by rfl) :
  PE X (.Call (.Attribute o m apos) (e :: es) [] pos) (tMeth C m sp dvs E ta t) := by
 intro pins s σ H Q I h
 refine PySem.W.methodCall_KW (pl := pl) (thn (he pins s σ H _ I h) fun u s1 ⟨x, H1, I1, rx, a, dx, fs, ex, ea, l, q⟩ => ?_) ht
 subst ex
 obtain rfl : u = Value.ref a := rx
 refine getmeth_ok I1 ea c hm l ?_
 refine PySem.W.callWith_K (first := [.ref a]) (h₀ := X.base) I.ok.mod.kin hm.kp (thn (ha pos pins s1 σ H1 _ I1 q) fun us s2 ⟨vs, H2, I2, r, q2⟩ => ⟨I2.kIn, ?_⟩) hst hpl
 exact run_fn (us := .ref a :: us) (vs := .ref a :: vs) F hr hb hd hx I2 (.cons rfl r) q2
theorem pe_meth0 {pl : Sem Bool} (he : PE X o ta) (c : Cls X.K C) (hm : Meth X.K C m f) (F : FnOk X.prog X.w X.K X.mg X.base CX k f fd ps sp) (hr : Room k X.A) (hb : Binds X.K fd ps ds) (hd : Vals dvs ds) (hx : Passes CX X E)
  (ht : eval (.Call (.Attribute o m apos) [] [] pos) X.env = (do
   let ov ← eval o X.env
   standAt apos.atName
   let (f, first) ← holding [ov] (getMethod ov m pl)
   callWith pos f first (backTo pos (starEach [] X.env)) (backToKw pos (keywordEach [] X.env))) := by rfl) :
  PE X (.Call (.Attribute o m apos) [] [] pos) (tMeth C m sp dvs E ta tNil) := by
 intro pins s σ H Q I h
 refine PySem.W.methodCall_KW (pl := pl) (thn (he pins s σ H _ I h) fun u s1 ⟨x, H1, I1, rx, a, dx, fs, ex, ea, l, q⟩ => ?_) ht
 subst ex
 obtain rfl : u = Value.ref a := rx
 refine getmeth_ok I1 ea c hm l ?_
 exact PySem.W.callWith_K0 (first := [.ref a]) I1.kIn hm.kp (run_fn (us := [.ref a]) (vs := [.ref a]) F hr hb hd hx I1 (.cons rfl .nil) q)
structure Mk (K : PySem.W.Frag) (C f : Addr) : Prop where
 makes : PySem.W.makesIn K C = true
 init : PySem.W.findIn K (.ref C) "__init__" = some (some (.ref f))
 fn : PySem.W.isFn K (.ref f) = true
 kp : PySem.W.keepIn K (.ref C) = true
theorem run_make {pins : List (Addr × Obj)} {σ : St} {H : Hp} {s : Shared} {Q : VK} {us : List Value} {vs : List V} (M : Mk X.K C f) (F : FnOk X.prog X.w X.K X.mg X.base CX k f fd ps sp) (hr : Room (k + 1) X.A) (hb : Binds X.K fd ps ds) (hd : Vals dvs ds)
  (hx : Passes CX X E) (I : Inv X pins σ H s) (r : Vals vs us)
  (h : ∀ x dx, H x = none → H dx = none → dx ≠ x → sp (.ref x :: (vs ++ dvs)) (upd (upd H dx (.own x)) x (.ins C dx [])) (fun v H2 => v = .non ∧ Q (.ref x) H2) E) :
  wpAny (model X.prog X.w) X.A (call (.ref C) us) (EP X pins σ Q) X.xe s := by
 have hq := h (s.heap.objs.size + 1) s.heap.objs.size (I.hok.fresh (Nat.le_succ _)) (I.hok.fresh (Nat.le_refl _)) (Nat.ne_of_lt (Nat.lt_succ_self _))
 have I2 := Inv.made (C := C) I
 have r2 : Vals (V.ref (s.heap.objs.size + 1) :: (vs ++ dvs)) (Value.ref (s.heap.objs.size + 1) :: (us ++ ds)) := .cons rfl (r.append hd)
 have hl : (Value.ref (s.heap.objs.size + 1) :: us ++ ds).length = ps.length := by
  have e := r2.length
  rw [F.len _ _ _ _ hq] at e
  exact e.symm
 refine wpAny_call (make_map (f := f) I.kIn M.makes M.init (beq_iff_eq.mp M.fn) (codeAny_mono (F.run _ X.stack _ _ ⟨Value.ref (s.heap.objs.size + 1) :: us, []⟩ (Value.ref (s.heap.objs.size + 1) :: (us ++ ds)) _ _ E (hr.make C us [])
  (I2.env0.make C us []) (hb _ (Value.ref (s.heap.objs.size + 1) :: us) I2.kIn hl) r2 hq) fun r s' hq' => ?_))
 cases r with
 | error e => exact hx pins σ _ _ e s' I2 hq'
 | ok fl =>
  cases fl with
  | ret u =>
   obtain ⟨v, H', I3, rv, ev, q3⟩ := I2.after hq'
   subst ev
   exact ⟨rv, ⟨V.ref (s.heap.objs.size + 1), H', I3, rfl, q3⟩⟩
  | next => exact False.elim hq'
  | brk => exact False.elim hq'
  | cont => exact False.elim hq'
theorem pe_make0 (M : Mk X.K C f) (F : FnOk X.prog X.w X.K X.mg X.base CX k f fd ps sp) (hr : Room (k + 1) X.A) (hg : Gl X x) (hm : X.mg x = some (.ref C)) (hb : Binds X.K fd ps ds) (hd : Vals dvs ds) (hx : Passes CX X E)
  (hdb : (x == ("__debug__" : Str)) = false := by decide) : PE X (.Call (.Name x p) [] [] pos) (tMake C sp dvs E tNil) := by
 intro pins s σ H Q I h
 refine wpAny_Call_Name_kw (ld_glob I hg hm ?_ hdb)
 exact PySem.W.callWith_K0 I.kIn M.kp (run_make (us := []) M F hr hb hd hx I .nil h)
end
section
variable {X : Cx} {CX : CXT} {k : Nat} {f C : Addr} {fd : FuncData} {ps ks : List Str} {sp : Sp} {E : XK} {x m : Str} {p pos apos kpos : Pos} {e o : Expr} {es : List Expr} {kws : List Keyword} {te ta : TE} {t tk : TA} {nm : Option Str}
variable {g : List Value → List Value → List Value} {gV : List V → List V → List V}
end
structure FnScope (N P : List Str) (sc : Scope) : Prop where
 kind : sc.kind = .function
 co : sc.isCoroutine = false
 gen : sc.isGenerator = false
 nd : N.Nodup
 pre : N.take P.length = P
 par : ∀ x ∈ P, sc.names.lookup x = some .local ∨ sc.names.lookup x = some .cell
 nofree : ∀ y ∈ sc.names, y.2 ≠ .free
theorem bindL_out {kindOf : Str → Option NameKind} {x : Str} : ∀ {binds : List (Str × Value)} {m : Str → Option Value}, (∀ v, (x, v) ∉ binds) → bindL kindOf binds m x = m x
 | [], _, _ => rfl
 | (n, v) :: r, m, h => by
  unfold bindL
  rw [bindL_out fun w hw => h w (List.mem_cons_of_mem _ hw)]
  split
  ·have : x ≠ n := by rintro rfl; exact h v List.mem_cons_self
   simp [this]
  ·rfl
theorem bindC_out {kindOf : Str → Option NameKind} {x : Str} : ∀ {binds : List (Str × Value)} {m : Str → Option Value}, (∀ v, (x, v) ∉ binds) → bindC kindOf binds m x = m x
 | [], _, _ => rfl
 | (n, v) :: r, m, h => by
  unfold bindC
  rw [bindC_out fun w hw => h w (List.mem_cons_of_mem _ hw)]
  split
  ·rfl
  ·have : x ≠ n := by rintro rfl; exact h v List.mem_cons_self
   simp [this]
theorem bindL_get {kindOf : Str → Option NameKind} {x : Str} {v : Value} : ∀ {P : List Str} {vs : List Value} {i : Nat} {m : Str → Option Value}, P.Nodup → P[i]? = some x → vs[i]? = some v → kindOf x = some .local →
  bindL kindOf (P.zip vs) m x = some v
 | [], _, _, _, _, h, _, _ => by simp at h
 | _ :: _, [], _, _, _, _, h, _ => by simp at h
 | p :: P, w :: vs, 0, m, nd, h1, h2, hk => by
  simp at h1 h2; subst h1; subst h2
  show bindL kindOf ((p, w) :: P.zip vs) m p = _
  unfold bindL
  rw [bindL_out fun v hv => (List.nodup_cons.mp nd).1 (List.of_mem_zip hv).1, if_pos hk]
  simp
 | p :: P, w :: vs, i + 1, m, nd, h1, h2, hk => by
  show bindL kindOf ((p, w) :: P.zip vs) m x = _
  unfold bindL
  exact bindL_get (i := i) (List.nodup_cons.mp nd).2 (by simpa using h1) (by simpa using h2) hk
theorem bindC_get {kindOf : Str → Option NameKind} {x : Str} {v : Value} : ∀ {P : List Str} {vs : List Value} {i : Nat} {m : Str → Option Value}, P.Nodup → P[i]? = some x → vs[i]? = some v → kindOf x ≠ some .local →
  bindC kindOf (P.zip vs) m x = some v
 | [], _, _, _, _, h, _, _ => by simp at h
 | _ :: _, [], _, _, _, _, h, _ => by simp at h
 | p :: P, w :: vs, 0, m, nd, h1, h2, hk => by
  simp at h1 h2; subst h1; subst h2
  show bindC kindOf ((p, w) :: P.zip vs) m p = _
  unfold bindC
  rw [bindC_out fun v hv => (List.nodup_cons.mp nd).1 (List.of_mem_zip hv).1, if_neg hk]
  simp
 | p :: P, w :: vs, i + 1, m, nd, h1, h2, hk => by
  show bindC kindOf ((p, w) :: P.zip vs) m x = _
  unfold bindC
  exact bindC_get (i := i) (List.nodup_cons.mp nd).2 (by simpa using h1) (by simpa using h2) hk
def start (N : List Str) (vs : List V) : St := vs.map some ++ List.replicate (N.length - vs.length) none
def cxOf (CX : CXT) (P : Program) (w : World) (K : PySem.W.Frag) (mg : Str → Option Value) (base : Heap) (N : List Str) (qual : Str) (scope : Scope) (f : Addr) (cd : Value) (A : Around) (outer : List Env) (s : Shared) (H : Hp) (E : XK) : Cx where
 prog := P
 w := w
 K := K
 mg := mg
 base := base
 A := A.deeper (envOfC qual scope s.heap.objs.size f cd)
 N := N
 s₀ := s
 H₀ := H
 env := envOfC qual scope s.heap.objs.size f cd
 outer := outer
 stack := envOfC qual scope s.heap.objs.size f cd :: outer
 ex := []
 calm := true
 fn := fun _ => true
 pn := []
 xe := fun e s' => wpAny (model P w) (A.deeper (envOfC qual scope s.heap.objs.size f cd)) (leaving (envOfC qual scope s.heap.objs.size f cd) e) (fun _ s'' => CX outer H s E e s'') (fun e' s'' => CX outer H s E e' s'') s'
theorem cell_has {sc : Scope} {n : Nat} {x : Str} (h : sc.names.lookup x = some .cell) : ∃ c, (cellsFrom n sc.names []).lookup x = some c := by
 have q := PySem.W.cellsFrom_some sc.names n [] (.inl h)
 exact Option.isSome_iff_exists.mp q
theorem inv_start {CX : CXT} {P : Program} {w : World} {K : PySem.W.Frag} {mg : Str → Option Value} {base : Heap} {N ps : List Str} {qual : Str} {scope : Scope} {f : Addr} {cd : Value} {A : Around} {outer : List Env} {s s1 : Shared} {H : Hp} {E : XK} {us : List Value} {vs : List V}
  (S : FnScope N ps scope) (hd : A.handled = none) (e0 : Env0 P w K mg base A outer s H) (hl : vs.length = ps.length) (r : Vals vs us)
  (x : InCallC s s.heap.objs.size (bindL (envOfC qual scope s.heap.objs.size f cd).kindOf (ps.zip us) fun _ => none) (cellsFrom (s.heap.objs.size + 1) scope.names []) (bindC (envOfC qual scope s.heap.objs.size f cd).kindOf (ps.zip us) fun _ => none) s1) :
  Inv (cxOf CX P w K mg base N qual scope f cd A outer s H E) [] (start N vs) H s1 := by
 have hpl : ps.length ≤ N.length := by have := congrArg List.length S.pre; rw [List.length_take] at this; omega
 obtain ⟨h1, tk, rfl, hk⟩ := x.done
 have noA : ∀ b : Addr, b ∉ (cxOf CX P w K mg base N qual scope f cd A outer s H E).ex := fun b z => absurd (show b ∈ ([] : List Addr) from z) (by simp)
 refine ⟨⟨e0.mod, S.kind, rfl, rfl, Nat.le_refl _, fun y z c h1 h2 => ?_, fun y hy => ?_, fun y c _ h => ?_, fun _ => hd, Around.frames_deeper e0.frames, .inr ⟨rfl, rfl⟩, fun b z => absurd z (noA b), e0.bs, e0.bsz, fun b _ _ => noA b, fun b z => absurd z (noA b), e0.funs, e0.frf⟩,
  rfl, e0.bare, Un.kept hk, ⟨_, x.toInCall.ns, fun i y v h1 h2 h3 => ?_⟩, fun y c h => ⟨_, x.cell y c h⟩, e0.hok.fresh (Nat.le_refl _), fun y c h => ?_, fun p hp => absurd (show p ∈ ([] : List (Addr × Obj)) from hp) (by simp), e0.hok.kept hk, ?_⟩
 ·exact name_of_addr x.apart (PySem.mem_of_lookup h1) (PySem.mem_of_lookup h2)
 ·have hy : scope.names.lookup y = some .cell ∨ scope.names.lookup y = some .free := hy
  rcases hy with hy | hy
  ·exact cell_has hy
  ·exact absurd rfl (S.nofree _ (PySem.mem_of_lookup hy))
 ·exact Nat.le_of_lt (x.above y c (PySem.mem_of_lookup h))
 ·have hi : i < vs.length := by
   unfold start at h2
   by_cases hi : i < vs.length
   ·exact hi
   ·rw [List.getElem?_append_right (by simpa using hi)] at h2
    rw [List.getElem?_replicate] at h2
    split at h2 <;> cases h2
  have ha : vs[i]? = some v := by
   unfold start at h2
   rw [List.getElem?_append_left (by simpa using hi), List.getElem?_map] at h2
   cases e : vs[i]? with
   | none => rw [e] at h2; cases h2
   | some a => rw [e] at h2; cases h2; rfl
  obtain ⟨u, hu, rv⟩ := r.get ha
  have hp : ps[i]? = some y := by
   rw [← S.pre, List.getElem?_take_of_lt (by omega)]; exact h1
  have ndP : ps.Nodup := by rw [← S.pre]; exact S.nd.sublist (List.take_sublist _ _)
  refine ⟨u, rv, ?_⟩
  rcases S.par y (List.mem_of_getElem? hp) with k | k
  ·exact .inl ⟨k, bindL_get ndP hp hu k⟩
  ·obtain ⟨c, e⟩ := cell_has (n := s.heap.objs.size + 1) k
   refine .inr ⟨.inl k, c, e, ?_⟩
   have q := x.cell y c e
   rw [bindC_get ndP hp hu (by show scope.names.lookup y ≠ _; rw [k]; decide)] at q
   exact q
 ·exact e0.hok.fresh (Nat.le_of_lt (x.above y c (PySem.mem_of_lookup h)))
 ·unfold start
  show _ = N.length
  rw [List.length_append, List.length_map, List.length_replicate]
  omega
theorem fn_of {CX : CXT} {P : Program} {w : World} {K : PySem.W.Frag} {mg : Str → Option Value} {base : Heap} {k : Nat} {f : Addr} {name qual : Str} {params : Arguments} {body : List Stmt} {scope : Scope} {dV kV doc pm cdv ct oc : Value} {an od : Option Addr}
  {osl : Array (Option Value)} {N ps : List Str} {sp : Sp} (lk : K.lookup f = some ⟨oc, od, .func (PySem.W.fnOf name qual params body scope dV kV doc pm an cdv ct), osl⟩) (hcd : PySem.W.codeIn K cdv qual = true) (S : FnScope N ps scope)
  (len : ∀ vs H Q E, sp vs H Q E → vs.length = ps.length)
  (hbody : ∀ (A : Around) (outer : List Env) (s : Shared) (H : Hp) (vs : List V) (Q : VK) (E : XK), Room k (A.deeper (envOfC qual scope s.heap.objs.size f cdv)) → sp vs H Q E →
   ∃ t, PSs (cxOf CX P w K mg base N qual scope f cdv A outer s H E) body t ∧ t { nx := fun _ H' => Q .non H', rt := Q } (start N vs) H) :
  FnOk P w K mg base CX (k + 1) f (PySem.W.fnOf name qual params body scope dV kV doc pm an cdv ct) ps sp := by
 refine ⟨len, fun A outer s H args us vs Q E hr e0 hb r hsp => ?_⟩
 have hl := len _ _ _ _ hsp
 have KX : K.In s.heap := e0.mod.kin.keeps fun b o e => (e0.bs b o e).1
 have lim : s.heap.NoLimit := e0.mod.nolimit.keeps fun b o e => (e0.bs b o e).1
 have hkind : ∀ y ∈ ps.zip us, scope.names.lookup y.1 = some .local ∨ (scope.names.lookup y.1 = some .cell ∧ ((cellsFrom (s.heap.objs.size + 1) scope.names []).lookup y.1).isSome = true) := fun ⟨n, v⟩ hy => by
  rcases S.par n (List.of_mem_zip hy).1 with q | q
  ·exact .inl q
  ·exact .inr ⟨q, PySem.W.cellsFrom_some _ _ _ (.inl q)⟩
 refine codeAny_call_function hr.depth (KX _ _ lk) rfl S.co S.gen rfl (PySem.W.codeRec_of KX hcd) (hb _ _ _ _ ?_)
 refine wpAny_newFunctionEnv_cells S.kind hkind fun env he s1 x => ?_
 subst he
 refine ⟨lim.keeps x.toInCall.keep, codeAny_func ?_⟩
 obtain ⟨t, ht, hq⟩ := hbody A outer s H vs Q E (hr.deeper _) hsp
 have I : Inv (cxOf CX P w K mg base N qual scope f cdv A outer s H E) [] (start N vs) H s1 := inv_start S hr.hd e0 hl r x
 refine wpAny_mono (ht [] s1 (start N vs) H _ I hq) (fun fl s' hs => ?_) fun e s' hs => hs
 have fin : ∀ {σ' : St} {H' : Hp} {v : V} {u : Value}, Inv (cxOf CX P w K mg base N qual scope f cdv A outer s H E) [] σ' H' s' → RelV v u → Q v H' → CE outer P w H s Q u s' :=
  fun {σ' H' v u} J rv q => ⟨v, H', J.os, J.bare, J.base, J.hok, rv, q⟩
 cases fl with
 | ret u =>
  obtain ⟨v, σ', H', J, rv, q⟩ := hs
  exact fin J rv q
 | next =>
  obtain ⟨σ', H', J, q⟩ := hs
  exact fin (v := V.non) (u := Value.none) J rfl q
 | brk =>
  obtain ⟨_, _, _, q⟩ := hs
  exact False.elim q
 | cont =>
  obtain ⟨_, _, _, q⟩ := hs
  exact False.elim q
end L2
namespace L2
open PySem PySem.Spec PyProof.Rows
section
variable {X : Cx} {x : Str} {p pos : Pos} {e : Expr} {es : List Expr} {t : TA} {id T : String} {r : List V → Hp → VK → Prop}
def tCB (r : List V → Hp → VK → Prop) (t : TA) : TE := fun σ H Q => t σ H fun vs H1 => r vs H1 Q
theorem pe_callB (hc : CallR X (.builtin id) r) (hg : Gl X x) (hm : X.mg x = none) (hv : bootBuiltins x = some (.builtin id)) (ha : PA X (e :: es) t) (hn : x ≠ "__name__" := by decide) (hdb : (x == ("__debug__" : Str)) = false := by decide)
  (he : starEach (e :: es) X.env = (false, eval e X.env) :: starEach es X.env := by rfl) (hpl : (backTo pos (starEach es X.env)).any (·.1) = false := by rfl) : PE X (.Call (.Name x p) (e :: es) [] pos) (tCB r t) := by
 intro pins s σ H Q I h
 refine wpAny_Call_Name_kw (ld_blt I hg hm hv ?_ hn hdb)
 exact PyProof.Rows.callWith_builtin1 (thn (ha pos pins s σ H _ I h) fun us s1 ⟨vs, H1, I1, r1, q1⟩ => hc pins s1 σ H1 vs us Q I1 r1 q1) he hpl
theorem pe_callTy (hc : CallR X (.type T) r) (hg : Gl X x) (hm : X.mg x = none) (hv : bootBuiltins x = some (.type T)) (ha : PA X (e :: es) t) (hn : x ≠ "__name__" := by decide) (hdb : (x == ("__debug__" : Str)) = false := by decide)
  (he : starEach (e :: es) X.env = (false, eval e X.env) :: starEach es X.env := by rfl) (hpl : (backTo pos (starEach es X.env)).any (·.1) = false := by rfl) : PE X (.Call (.Name x p) (e :: es) [] pos) (tCB r t) := by
 intro pins s σ H Q I h
 refine wpAny_Call_Name_kw (ld_blt I hg hm hv ?_ hn hdb)
 exact PyProof.Rows.callWith_type1 (thn (ha pos pins s σ H _ I h) fun us s1 ⟨vs, H1, I1, r1, q1⟩ => hc pins s1 σ H1 vs us Q I1 r1 q1) he hpl
end
end L2
namespace L2
open PySem PySem.Spec PyProof.Rows
section
variable {κ : Type} [DecidableEq κ]
def valV (kvs : List (κ × V)) (k : κ) : Option V := (kvs.find? fun kv => decide (kv.1 = k)).map (·.2)
def putK (kvs : List (κ × V)) (k : κ) (v : V) : List (κ × V) :=
 if (kvs.any fun kv => decide (kv.1 = k)) = true then kvs.map (fun kv => if kv.1 = k then (kv.1, v) else kv) else kvs ++ [(k, v)]
theorem valV_pos {p : κ × V} {r : List (κ × V)} {k : κ} (e : p.1 = k) : valV (p :: r) k = some p.2 := by simp [valV, List.find?_cons, e]
theorem valV_neg {p : κ × V} {r : List (κ × V)} {k : κ} (e : ¬ p.1 = k) : valV (p :: r) k = valV r k := by simp [valV, List.find?_cons, e]
theorem valV_any (k : κ) : ∀ kvs : List (κ × V), (kvs.any fun kv => decide (kv.1 = k)) = (valV kvs k).isSome
 | [] => rfl
 | p :: r => by
  rw [List.any_cons]
  by_cases e : p.1 = k
  ·simp only [valV_pos e, decide_eq_true e, Bool.true_or, Option.isSome_some]
  ·rw [valV_neg e, decide_eq_false e, Bool.false_or]; exact valV_any k r
theorem valV_map (k j : κ) (y : V) : ∀ kvs : List (κ × V), valV (kvs.map fun kv => if kv.1 = k then (kv.1, y) else kv) j = (valV kvs j).map fun x => if j = k then y else x
 | [] => rfl
 | p :: r => by
  have ih := valV_map k j y r
  rw [List.map_cons]
  by_cases h : p.1 = k
  ·rw [if_pos h]
   by_cases e : p.1 = j
   ·rw [valV_pos (p := (p.1, y)) e, valV_pos e, Option.map_some, if_pos (e.symm.trans h)]
   ·rw [valV_neg (p := (p.1, y)) e, valV_neg e, ih]
  ·rw [if_neg h]
   by_cases e : p.1 = j
   ·rw [valV_pos (p := p) e, valV_pos e, Option.map_some, if_neg (fun z => h (e.trans z))]
   ·rw [valV_neg (p := p) e, valV_neg e, ih]
theorem valV_snoc (k j : κ) (y : V) : ∀ kvs : List (κ × V), valV kvs k = none → valV (kvs ++ [(k, y)]) j = if j = k then some y else valV kvs j
 | [], _ => by
  by_cases e : k = j
  ·rw [if_pos e.symm]; exact valV_pos (p := (k, y)) e
  ·rw [if_neg (fun z => e z.symm)]; exact valV_neg (p := (k, y)) e
 | p :: r, hn => by
  rw [List.cons_append]
  have hk : ¬ p.1 = k := fun z => by rw [valV_pos z] at hn; cases hn
  rw [valV_neg hk] at hn
  have ih := valV_snoc k j y r hn
  by_cases e : p.1 = j
  ·rw [valV_pos e, valV_pos e, if_neg (fun z => hk (e.trans z))]
  ·rw [valV_neg e, valV_neg e, ih]
theorem valV_put (kvs : List (κ × V)) (k j : κ) (y : V) : valV (putK kvs k y) j = if j = k then some y else valV kvs j := by
 unfold putK
 by_cases a : (kvs.any fun kv => decide (kv.1 = k)) = true
 ·rw [if_pos a, valV_map]
  rw [valV_any] at a
  by_cases e : j = k
  ·obtain ⟨x, hx⟩ := Option.isSome_iff_exists.mp a
   rw [if_pos e, e, hx, Option.map_some, if_pos rfl]
  ·rw [if_neg e]
   cases valV kvs j with
   | none => rfl
   | some x => rw [Option.map_some, if_neg e]
 ·rw [if_neg a]
  refine valV_snoc k j y kvs ?_
  rw [valV_any] at a
  cases q : valV kvs k with
  | none => rfl
  | some x => rw [q] at a; exact (a rfl).elim
theorem length_putK (kvs : List (κ × V)) (k : κ) (v : V) : (putK kvs k v).length ≤ kvs.length + 1 := by
 unfold putK
 split
 ·rw [List.length_map]; omega
 ·rw [List.length_append, List.length_cons, List.length_nil]; omega
theorem putK_new {kvs : List (κ × V)} {k : κ} (v : V) (h : valV kvs k = none) : putK kvs k v = kvs ++ [(k, v)] := by
 unfold putK
 rw [valV_any, h]
 exact if_neg (by decide)
theorem RelO.isSome_eq {o : Option V} {u : Option Value} (r : RelO o u) : o.isSome = u.isSome := by
 cases o with
 | none => cases u with
  | none => rfl
  | some _ => exact (show False from r).elim
 | some _ => cases u with
  | none => exact (show False from r).elim
  | some _ => rfl
theorem RelO.getD {o : Option V} {u : Option Value} {d : V} {d' : Value} (r : RelO o u) (rd : RelV d d') : RelV (o.getD d) (u.getD d') := by
 cases o with
 | none => cases u with
  | none => exact rd
  | some _ => exact (show False from r).elim
 | some _ => cases u with
  | none => exact (show False from r).elim
  | some _ => exact r
theorem KV.val {kvs : List (κ × V)} {vs : List (κ × Value)} (r : KV kvs vs) (k : κ) : RelO (valV kvs k) (valueAt vs k) := by
 unfold KV at r
 induction r with
 | nil => exact True.intro
 | @cons p q ps qs h t ih =>
  obtain ⟨h1, h2⟩ := h
  by_cases e : p.1 = k
  ·have e' : q.1 = k := h1.symm.trans e
   have b : valueAt (q :: qs) k = some q.2 := by simp [valueAt, List.find?_cons, e']
   rw [valV_pos e, b]; exact h2
  ·have e' : ¬ q.1 = k := fun z => e (h1.trans z)
   have b : valueAt (q :: qs) k = valueAt qs k := by simp [valueAt, List.find?_cons, e']
   rw [valV_neg e, b]; exact ih
theorem KV.any {kvs : List (κ × V)} {vs : List (κ × Value)} (r : KV kvs vs) (k : κ) : (kvs.any fun kv => decide (kv.1 = k)) = vs.any fun kv => decide (kv.1 = k) := by
 unfold KV at r
 induction r with
 | nil => rfl
 | cons h t ih => rw [List.any_cons, List.any_cons, ih, h.1]
theorem KV.repl {kvs : List (κ × V)} {vs : List (κ × Value)} (r : KV kvs vs) (k : κ) {y : V} {u : Value} (ry : RelV y u) :
  KV (kvs.map fun kv => if kv.1 = k then (kv.1, y) else kv) (vs.map fun kv => if kv.1 = k then (kv.1, u) else kv) := by
 unfold KV at r ⊢
 induction r with
 | nil => exact .nil
 | @cons p q ps qs h t ih =>
  rw [List.map_cons, List.map_cons]
  refine .cons ?_ ih
  obtain ⟨h1, h2⟩ := h
  by_cases e : p.1 = k
  ·rw [if_pos e, if_pos (h1.symm.trans e)]; exact ⟨h1, ry⟩
  ·rw [if_neg e, if_neg (fun z => e (h1.trans z))]; exact ⟨h1, h2⟩
theorem KV.put {kvs : List (κ × V)} {vs : List (κ × Value)} (r : KV kvs vs) (k : κ) {y : V} {u : Value} (ry : RelV y u) : KV (putK kvs k y) (stored vs k u) := by
 unfold putK stored
 rw [r.any k]
 by_cases e : (vs.any fun kv => decide (kv.1 = k)) = true
 ·rw [if_pos e, if_pos e]; exact r.repl k ry
 ·rw [if_neg e, if_neg e]; exact Paired.snoc r ⟨rfl, ry⟩
theorem KV.length {kvs : List (κ × V)} {vs : List (κ × Value)} (r : KV kvs vs) : kvs.length = vs.length := Paired.length r
end
theorem kV_is {P : Program} {w : World} {k : Key} {u : Value} (r : RelV (kV k) u) : (mixKind P w).is k u = true := by
 cases k with
 | inl i => obtain ⟨t, e⟩ := (show ∃ t, u = Value.int i t from r); subst e; exact mixKind_int P w i t
 | inr x => obtain ⟨t, e⟩ := (show ∃ t, u = Value.str x t from r); subst e; exact mixKind_str P w x t
theorem items_are {P : Program} {w : World} : ∀ {ks : List Key} {us : List Value}, Vals (ks.map kV) us → ItemsAre (mixKind P w) ks us
 | [], _, r => by rw [List.map_nil] at r; cases r; exact .nil
 | k :: ks, _, r => by
  rw [List.map_cons] at r
  cases r with
  | cons h t => exact .cons (kV_is h) (items_are t)
abbrev KT (H : Hp) : List (List Key × V) → List (List Key × Addr × Value) → Prop := Paired fun p q => p.1 = q.1 ∧ H q.2.1 = some (.tup (p.1.map kV)) ∧ RelV p.2 q.2.2
theorem KT.val {H : Hp} {kvs : List (List Key × V)} {xs : List (List Key × Addr × Value)} (r : KT H kvs xs) (k : List Key) : RelO (valV kvs k) ((atKey xs k).map (·.2)) := by
 induction r with
 | nil => exact True.intro
 | @cons p q ps qs h t ih =>
  obtain ⟨h1, _, h2⟩ := h
  by_cases e : p.1 = k
  ·have e' : q.1 = k := h1.symm.trans e
   have b : atKey (q :: qs) k = some q.2 := by simp [atKey, List.find?_cons, e']
   rw [valV_pos e, b]; exact h2
  ·have e' : ¬ q.1 = k := fun z => e (h1.trans z)
   have b : atKey (q :: qs) k = atKey qs k := by simp [atKey, List.find?_cons, e']
   rw [valV_neg e, b]; exact ih
theorem KT.repl {H : Hp} {kvs : List (List Key × V)} {xs : List (List Key × Addr × Value)} (r : KT H kvs xs) (k : List Key) {y : V} {u : Value} (ry : RelV y u) :
  KT H (kvs.map fun kv => if kv.1 = k then (kv.1, y) else kv) (xs.map (putAt k u)) := by
 induction r with
 | nil => exact .nil
 | @cons p q ps qs h t ih =>
  rw [List.map_cons, List.map_cons]
  refine .cons ?_ ih
  obtain ⟨h1, h2, h3⟩ := h
  unfold putAt
  by_cases e : p.1 = k
  ·rw [if_pos e, if_pos (h1.symm.trans e)]; exact ⟨h1, h2, ry⟩
  ·rw [if_neg e, if_neg (fun z => e (h1.trans z))]; exact ⟨h1, h2, h3⟩
theorem KT.put {H : Hp} {kvs : List (List Key × V)} {xs : List (List Key × Addr × Value)} (r : KT H kvs xs) (k : List Key) {b : Addr} {y : V} {u : Value} (hb : H b = some (.tup (k.map kV))) (ry : RelV y u) :
  KT H (putK kvs k y) (storedH xs k b u) := by
 have e : (kvs.any fun kv => decide (kv.1 = k)) = (atKey xs k).isSome := by
  rw [valV_any, (r.val k).isSome_eq, Option.isSome_map]
 unfold putK storedH
 rw [e]
 by_cases q : (atKey xs k).isSome = true
 ·rw [if_pos q, if_pos q]; exact r.repl k ry
 ·rw [if_neg q, if_neg q]; exact Paired.snoc r ⟨rfl, hb, ry⟩
theorem KT.keeps {H H' : Hp} {kvs : List (List Key × V)} {xs : List (List Key × Addr × Value)} (r : KT H kvs xs) (ht : ∀ b ys, H b = some (.tup ys) → H' b = some (.tup ys)) : KT H' kvs xs :=
 Paired.mapP r fun _ _ z => ⟨z.1, ht _ _ z.2.1, z.2.2⟩
section
variable {P : Program} {w : World} {H : Hp} {h : Heap} {a : Addr}
theorem rd_of {u : HO} (ok : HOk P w H h) (e : Rd H a u) : ObjOk P w H h a u := e.ok ok
theorem dk_rd {kvs : List (Key × V)} (ok : HOk P w H h) (e : Rd H a (.dK kvs)) : kvs.length ≤ sizeLine ∧ (a == sysModules) = false ∧ ∃ vs, KV kvs vs ∧ h.DictOf (mixKind P w) a vs :=
 show ObjOk P w H h a (.dK kvs) from rd_of ok e
theorem dk_of {kvs : List (Key × V)} (ok : HOk P w H h) (e : H a = some (.dK kvs)) : kvs.length ≤ sizeLine ∧ (a == sysModules) = false ∧ ∃ vs, KV kvs vs ∧ h.DictOf (mixKind P w) a vs := dk_rd ok (.inl e)
theorem key_of {ks : List Key} (ok : HOk P w H h) (e : H a = some (.tup (ks.map kV))) : (tupleKind (mixKind P w)).is h ks a := by
 obtain ⟨_, its, r, o, h1, h2, n, h3⟩ := (show ObjOk P w H h a (.tup (ks.map kV)) from ok a _ e)
 exact ⟨o, its.toArray, n, h1, h2, h3, by simpa using items_are r⟩
theorem dt_rd {kvs : List (List Key × V)} (ok : HOk P w H h) (e : Rd H a (.dT kvs)) : kvs.length ≤ sizeLine ∧ (a == sysModules) = false ∧
  ∃ xs, KT H kvs xs ∧ h.DictOfH (tupleKind (mixKind P w)) a xs := by
 obtain ⟨z, y, xs, r, o, es, ep, h1, h2, h3, h4, h5⟩ := (show ObjOk P w H h a (.dT kvs) from rd_of ok e)
 refine ⟨z, y, xs, r, o, es, ep, h1, h2, h3, h4, fun x hx => ?_, h5⟩
 have all : ∀ {l : List (List Key × V)} {m : List (List Key × Addr × Value)}, KT H l m → ∀ x ∈ m, (tupleKind (mixKind P w)).is h x.1 x.2.1 := by
  intro l m q
  induction q with
  | nil => intro x hx; exact nomatch hx
  | @cons p q ps qs hq t ih =>
   intro x hx
   rcases List.mem_cons.mp hx with e | hx
   ·subst e
    exact key_of ok (by rw [← hq.1]; exact hq.2.1)
   ·exact ih x hx
 exact all r x hx
theorem dt_of {kvs : List (List Key × V)} (ok : HOk P w H h) (e : H a = some (.dT kvs)) : kvs.length ≤ sizeLine ∧ (a == sysModules) = false ∧
  ∃ xs, KT H kvs xs ∧ h.DictOfH (tupleKind (mixKind P w)) a xs := dt_rd ok (.inl e)
end
def DGet (H : Hp) (a : Addr) (y : V) (r : Option V) : Prop :=
 (∃ kvs k, Rd H a (.dK kvs) ∧ y = kV k ∧ r = valV kvs k) ∨ ∃ kvs k b, Rd H a (.dT kvs) ∧ y = .ref b ∧ H b = some (.tup (k.map kV)) ∧ r = valV kvs k
def DPut (H : Hp) (a : Addr) (y v : V) (H' : Hp) : Prop :=
 (∃ kvs k, H a = some (.dK kvs) ∧ y = kV k ∧ kvs.length < sizeLine ∧ H' = upd H a (.dK (putK kvs k v))) ∨
 ∃ kvs k b, H a = some (.dT kvs) ∧ y = .ref b ∧ H b = some (.tup (k.map kV)) ∧ kvs.length < sizeLine ∧ H' = upd H a (.dT (putK kvs k v))
theorem DGet.k {H : Hp} {a : Addr} {kvs : List (Key × V)} {k : Key} (e : H a = some (.dK kvs)) : DGet H a (kV k) (valV kvs k) := .inl ⟨kvs, k, .inl e, rfl, rfl⟩
theorem DPut.k {H : Hp} {a : Addr} {kvs : List (Key × V)} {k : Key} {v : V} (e : H a = some (.dK kvs)) (hl : kvs.length < sizeLine) : DPut H a (kV k) v (upd H a (.dK (putK kvs k v))) := .inl ⟨kvs, k, e, rfl, hl, rfl⟩
section
variable {X : Cx} {pins : List (Addr × Obj)} {σ : St} {H : Hp} {s : Shared} {a : Addr} {y v : V} {u r : Value} {o : Option V} {A : Around} {E : Value → Shared → Prop}
theorem Inv.big (I : Inv X pins σ H s) : sysModules < s.heap.objs.size := by
 have h : mainGlobals < s.heap.objs.size := (I.mod.glob.keeps I.bk).lt
 exact Nat.lt_trans (by decide) h
theorem d_getItem {Q : Value → Shared → Prop} (hu : A.units + 1 < cLine) (I : Inv X pins σ H s) (g : DGet H a y (some v)) (ry : RelV y u) (h : ∀ w' s', Inv X pins σ H s' → RelV v w' → Q w' s') :
  wpAny (model X.prog X.w) A (getItem (.ref a) u) Q E s := by
 rcases g with ⟨kvs, k, e, ey, l⟩ | ⟨kvs, k, b, e, ey, eb, l⟩
 ·subst ey
  obtain ⟨z, hd, vs, rel, dd⟩ := dk_rd I.hok e
  obtain ⟨w', hw, rw'⟩ := RelO.some_of (v := v) (o := valueAt vs k) (by rw [l]; exact rel.val k)
  exact wpAny_getItem_of (kV_is ry) dd.mapOf hw (h w' _ (I.tok _) rw')
 ·subst ey
  cases (show u = Value.ref b from ry)
  obtain ⟨z, hd, xs, rel, dd⟩ := dt_rd I.hok e
  obtain ⟨w', hw, rw'⟩ := RelO.some_of (v := v) (o := (atKey xs k).map (·.2)) (by rw [l]; exact rel.val k)
  obtain ⟨p, hp, hp2⟩ := Option.map_eq_some_iff.mp hw
  refine wpAny_getItem_heap (tupleKind_room_in1 hu) (key_of I.hok eb) dd hp ?_
  rw [hp2]
  exact h w' _ (I.tok _) rw'
theorem d_in {Q : Value → Shared → Prop} (hu : A.units + 1 < cLine) (I : Inv X pins σ H s) (g : DGet H a y o) (ry : RelV y u) (h : ∀ s', Inv X pins σ H s' → Q (.bool o.isSome) s') :
  wpAny (model X.prog X.w) A (compareOp .In u (.ref a)) Q E s := by
 rcases g with ⟨kvs, k, e, ey, l⟩ | ⟨kvs, k, b, e, ey, eb, l⟩
 ·subst ey
  obtain ⟨z, hd, vs, rel, dd⟩ := dk_rd I.hok e
  refine wpAny_in_of (kV_is ry) hd dd.mapOf ?_
  rw [← (rel.val k).isSome_eq, ← l]
  exact h _ (I.tok _)
 ·subst ey
  cases (show u = Value.ref b from ry)
  obtain ⟨z, hd, xs, rel, dd⟩ := dt_rd I.hok e
  refine wpAny_in_heap (tupleKind_room_in1 hu) (key_of I.hok eb) hd dd ?_
  have q := (rel.val k).isSome_eq
  rw [Option.isSome_map] at q
  rw [← q, ← l]
  exact h _ (I.tok _)
theorem d_notIn {Q : Value → Shared → Prop} (hu : A.units + 1 < cLine) (I : Inv X pins σ H s) (g : DGet H a y o) (ry : RelV y u) (h : ∀ s', Inv X pins σ H s' → Q (.bool (!o.isSome)) s') :
  wpAny (model X.prog X.w) A (compareOp .NotIn u (.ref a)) Q E s := by
 rcases g with ⟨kvs, k, e, ey, l⟩ | ⟨kvs, k, b, e, ey, eb, l⟩
 ·subst ey
  obtain ⟨z, hd, vs, rel, dd⟩ := dk_rd I.hok e
  refine wpAny_notIn_of (kV_is ry) hd dd.mapOf ?_
  rw [← (rel.val k).isSome_eq, ← l]
  exact h _ (I.tok _)
 ·subst ey
  cases (show u = Value.ref b from ry)
  obtain ⟨z, hd, xs, rel, dd⟩ := dt_rd I.hok e
  refine wpAny_notIn_heap (tupleKind_room_in1 hu) (key_of I.hok eb) hd dd ?_
  have q := (rel.val k).isSome_eq
  rw [Option.isSome_map] at q
  rw [← q, ← l]
  exact h _ (I.tok _)
theorem d_write {h' : Heap} {t' : Nat} {ob : HO} (I : Inv X pins σ H s) (mu : Mut (H a)) (hs : Heap.SameBut a s.heap h') (he : ∃ q, h'.get? a = some q) (new : ObjOk X.prog X.w (upd H a ob) h' a ob) :
  Inv X pins σ (upd H a ob) { s with heap := h', toks := t' } :=
 I.write (x := a) (e := a) mu (.inl rfl) (fun b q hb z => (hs.2 b hb).trans z) he new
theorem dk_new {P : Program} {w : World} {H' : Hp} {h' : Heap} {kvs : List (Key × V)} {vs : List (Key × Value)} (z : kvs.length ≤ sizeLine) (hd : (a == sysModules) = false) (rel : KV kvs vs) (dd : h'.DictOf (mixKind P w) a vs) :
  ObjOk P w H' h' a (.dK kvs) := ⟨z, hd, vs, rel, dd⟩
theorem d_setItem {H' : Hp} {Q : Unit → Shared → Prop} (hu : A.units + 1 < cLine) (I : Inv X pins σ H s) (g : DPut H a y v H') (ry : RelV y u) (rv : RelV v r) (h : ∀ s', Inv X pins σ H' s' → Q () s') :
  wpAny (model X.prog X.w) A (setItem (.ref a) u r) Q E s := by
 rcases g with ⟨kvs, k, e, ey, l, eH⟩ | ⟨kvs, k, b, e, ey, eb, l, eH⟩
 ·subst ey eH
  obtain ⟨z, hd, vs, rel, dd⟩ := dk_of I.hok e
  have hz : vs.length ≤ sizeLine := by rw [← rel.length]; exact z
  have hl : (putK kvs k v).length ≤ sizeLine := by have := length_putK kvs k v; omega
  refine wpAny_setItem_pairs (hsz := hz) (kV_is ry) dd fun h' dd' hs => h _ ?_
  have he : ∃ q, h'.get? a = some q := let ⟨q, _, _, hq, _⟩ := dd'; ⟨q, hq⟩
  exact d_write I (by rw [e]; exact True.intro) hs he (dk_new hl hd (rel.put k rv) dd')
 ·subst ey eH
  cases (show u = Value.ref b from ry)
  obtain ⟨z, hd, xs, rel, dd⟩ := dt_of I.hok e
  have hz : xs.length ≤ sizeLine := by rw [← Paired.length rel]; exact z
  have hl : (putK kvs k v).length ≤ sizeLine := by have := length_putK kvs k v; omega
  refine wpAny_setItem_heap (hsz := hz) (tupleKind_room_in1 hu) (key_of I.hok eb) dd fun h' dd' hs => h _ ?_
  obtain ⟨q, es, ep, hq, h2, h3, h4, _, h5⟩ := dd'
  refine d_write I (by rw [e]; exact True.intro) hs ⟨q, hq⟩ ⟨hl, hd, _, (rel.put k eb rv).keeps fun c ys ec => ?_, q, es, ep, hq, h2, h3, h4, h5⟩
  rw [upd_ne (ne_of ec e (fun z => nomatch z))]
  exact ec
end
section
variable {X : Cx} {pins : List (Addr × Obj)} {σ : St} {H : Hp} {s : Shared} {a : Addr} {kvs : List (Key × V)} {k : Key} {u : Value} {A : Around} {E : Value → Shared → Prop}
theorem d_len {Q : Value → Shared → Prop} (I : Inv X pins σ H s) (e : Rd H a (.dK kvs)) (h : ∀ t s', Inv X pins σ H s' → Q (.int kvs.length t) s') : wpAny (model X.prog X.w) A (call (.builtin "len") [.ref a]) Q E s := by
 obtain ⟨z, hd, vs, rel, dd⟩ := dk_rd I.hok e
 refine call_len_dict hd dd (by rw [← rel.length]; rw [sizeLine_eq] at z; omega) ?_
 rw [← rel.length]
 exact h _ _ (I.tok _)
end
def NoSl (i : Expr) : Prop := ∀ ov iv, subscripted i false ov iv = operate [ov, iv] (getItem ov iv)
theorem subD_of {prog : Program} {w : World} {A : Around} {E : Value → Shared → Prop} {s : Shared} {env : Env} {value slice : Expr} {pos : Pos} {T id : String} {Q : Value → Shared → Prop}
  (hl : typeLookup (.type T) "__getitem__" = pure (some (.builtin id))) (hs : NoSl slice)
  (h : wpAny (model prog w) A (eval value env) (fun o s₁ => wpAny (model prog w) A (eval slice env) (fun i s₂ => s₂.TypeIs o T ∧ wpAny (model prog w) A (getItem o i) Q E s₂) E s₁) E s) :
  wpAny (model prog w) A (eval (.Subscript value slice pos) env) Q E s := by
 refine Subscript_ (wpAny_mono h (fun o s₁ h₁ => wpAny_mono h₁ (fun i s₂ h₂ => ?_) fun _ _ x => x) fun _ _ x => x)
 obtain ⟨hT, h₂⟩ := h₂
 unfold subscriptTail
 refine wpAny_bind ?_
 rw [getitemInPython_of_ne hT.not_modules]
 refine wpAny_bind (wpAny_specialOf hT hl ?_)
 have fin : wpAny (model prog w) A (subscripted slice false o i) (fun r s₃ => wpAny (model prog w) A (letTemporaryGo value o r >>= fun _ => pure r) Q E s₃) E s₂ := by
  rw [hs o i]
  exact wpAny_operating (wpAny_mono h₂ (fun r s₃ h₃ => wpAny_bind (wpAny_letTemporaryGo (wpAny_pure h₃))) fun _ _ x => x)
 first
  | exact wpAny_pure (wpAny_bind fin)
  | exact wpAny_bind (wpAny_pure (wpAny_bind fin))
  | exact wpAny_bind fin
theorem dict_typeIs {X : Cx} {pins : List (Addr × Obj)} {σ : St} {H : Hp} {s : Shared} {a : Addr} {y : V} {o : Option V} (I : Inv X pins σ H s) (g : DGet H a y o) : s.TypeIs (.ref a) "dict" := by
 rcases g with ⟨kvs, k, e, _, _⟩ | ⟨kvs, k, b, e, _, _, _⟩
 ·obtain ⟨_, _, vs, _, dd⟩ := dk_rd I.hok e
  exact dd.typeIs
 ·obtain ⟨_, _, xs, _, dd⟩ := dt_rd I.hok e
  exact dd.typeIs
def tDGet (td ty : TE) : TE := fun σ H Q => td σ H fun x H1 => ty σ H1 fun y H2 => ∃ a v, x = .ref a ∧ DGet H2 a y (some v) ∧ Q v H2
def tDIn (ty td : TE) : TE := fun σ H Q => ty σ H fun y H1 => td σ H1 fun x H2 => ∃ a o, x = .ref a ∧ DGet H2 a y o ∧ Q (.bl o.isSome) H2
def tDNotIn (ty td : TE) : TE := fun σ H Q => ty σ H fun y H1 => td σ H1 fun x H2 => ∃ a o, x = .ref a ∧ DGet H2 a y o ∧ Q (.bl (!o.isSome)) H2
def sDPut (td ty tv : TE) : TS := fun D σ H => tv σ H fun v H1 => td σ H1 fun x H2 => ty σ H2 fun y H3 => ∃ a H4, x = .ref a ∧ DPut H3 a y v H4 ∧ D.nx σ H4
section
variable {X : Cx} {o i e value : Expr} {pos pos' tpos : Pos} {td ty tv : TE}
theorem pe_dget (hu : X.A.units + 1 < cLine) (ho : PE X o td) (hi : PE X i ty) (hs : NoSl i) : PE X (.Subscript o i pos) (tDGet td ty) := by
 intro pins s σ H Q I h
 refine subD_of PySem.F.slot_dict_getitem.lookup hs (thn (ho pins s σ H _ I h) fun u s1 ⟨x, H1, I1, rx, q1⟩ => thn (hi pins s1 σ H1 _ I1 q1) fun iv s2 ⟨y, H2, I2, ry, a, v, ex, g, q2⟩ => ?_)
 subst ex
 obtain rfl : u = Value.ref a := rx
 exact ⟨dict_typeIs I2 g, d_getItem hu I2 g ry fun w' s3 I3 rw' => ⟨v, H2, I3, rw', q2⟩⟩
theorem pc_din (hu : X.A.units + 1 < cLine) (hi : PE X i ty) (ho : PE X o td) : PC X .In i o (tDIn ty td) := by
 intro pins s σ H Q I h
 refine thn (hi pins s σ H _ I h) fun iv s1 ⟨y, H1, I1, ry, q1⟩ => thn (ho pins s1 σ H1 _ I1 q1) fun u s2 ⟨x, H2, I2, rx, a, ov, ex, g, q2⟩ => ?_
 subst ex
 obtain rfl : u = Value.ref a := rx
 exact d_in hu I2 g ry fun s3 I3 => ⟨.bl ov.isSome, H2, I3, rfl, q2⟩
theorem pc_dnotin (hu : X.A.units + 1 < cLine) (hi : PE X i ty) (ho : PE X o td) : PC X .NotIn i o (tDNotIn ty td) := by
 intro pins s σ H Q I h
 refine thn (hi pins s σ H _ I h) fun iv s1 ⟨y, H1, I1, ry, q1⟩ => thn (ho pins s1 σ H1 _ I1 q1) fun u s2 ⟨x, H2, I2, rx, a, ov, ex, g, q2⟩ => ?_
 subst ex
 obtain rfl : u = Value.ref a := rx
 exact d_notIn hu I2 g ry fun s3 I3 => ⟨.bl (!ov.isSome), H2, I3, rfl, q2⟩
theorem ps_dput (hu : X.A.units + 1 < cLine) (ho : PE X o td) (hi : PE X i ty) (hv : PE X value tv) (hs : swapsWith value (some (.Subscript o i pos')) pos.line X.env = pure false) :
  PS X (.Assign [.Subscript o i pos'] value pos) (sDPut td ty tv) := by
 intro pins s σ H D I h
 refine wpAny_Assign_Subscript (thn (hv pins s σ H _ I h) fun r s1 ⟨v, H1, I1, rv, q1⟩ => thn (ho pins s1 σ H1 _ I1 q1) fun u s2 ⟨x, H2, I2, rx, q2⟩ => thn (hi pins s2 σ H2 _ I2 q2) fun iv s3 ⟨y, H3, I3, ry, a, H4, ex, g, q3⟩ => ?_) hs
 subst ex
 obtain rfl : u = Value.ref a := rx
 exact d_setItem hu I3 g ry rv fun s4 I4 => ⟨σ, H4, I4, q3⟩
end
theorem dk_empty {P : Program} {w : World} {H : Hp} (h : Heap) (hb : sysModules < h.objs.size) : ObjOk P w H (h.push { cls := .type "dict", data := .dict #[] }) h.objs.size (.dK []) :=
 ⟨Nat.zero_le _, beq_eq_false_iff_ne.mpr (Ne.symm (Nat.ne_of_lt hb)), [], .nil, Heap.DictOf.new h⟩
def tDNewK : TE := fun _ H Q => ∀ p, H p = none → Q (.ref p) (upd H p (.dK []))
section
variable {X : Cx} {pos : Pos}
theorem pe_dnewK : PE X (.Dict [] [] pos) tDNewK := fun pins s σ H Q I h =>
 wpAny_Dict_empty ⟨.ref s.heap.objs.size, _, I.laid (a := s.heap.objs.size) (o := .dK []) (t' := s.toks) (fun _ _ q => Heap.get?_push_of_some _ q) (Nat.le_refl _) (dk_empty s.heap I.big), rfl, h _ (I.hok.fresh (Nat.le_refl _))⟩
end
def tPairs : List (TE × TE) → St → Hp → (List (V × V) → Hp → Prop) → Prop
 | [], _, H, Q => Q [] H
 | (tk, tv) :: r, σ, H, Q => tk σ H fun x H1 => tv σ H1 fun y H2 => tPairs r σ H2 fun ps H3 => Q ((x, y) :: ps) H3
abbrev VV : List (V × V) → List (Value × Value) → Prop := Paired fun p q => RelV p.1 q.1 ∧ RelV p.2 q.2
def PPs (X : Cx) (pos : Pos) (keys : List (Option Expr)) (values : List Expr) (trs : List (TE × TE)) : Prop :=
 ∀ (pins : List (Addr × Obj)) (s : Shared) (σ : St) (H : Hp) (Q : List (V × V) → Hp → Prop), Inv X pins σ H s → tPairs trs σ H Q →
  wpAny (model X.prog X.w) X.A (evalPairs (pairTrees keys values X.env pos)) (fun vs s' => ∃ ps H', Inv X pins σ H' s' ∧ VV ps vs ∧ Q ps H') X.xe s
theorem pps_nil {X : Cx} {pos : Pos} : PPs X pos [] [] [] := fun pins s σ H Q I h => pairTrees_nil_walk ⟨[], H, I, .nil, h⟩
theorem pps_cons {X : Cx} {pos : Pos} {k v : Expr} {ks : List (Option Expr)} {vs : List Expr} {tk tv : TE} {trs : List (TE × TE)} (hk : PE X k tk) (hv : PE X v tv) (hr : PPs X pos ks vs trs) :
  PPs X pos (some k :: ks) (v :: vs) ((tk, tv) :: trs) := fun pins s σ H Q I h =>
 pairTrees_cons_walk (thn (hk pins s σ H _ I h) fun u s1 ⟨x, H1, I1, rx, q1⟩ => thn (hv pins s1 σ H1 _ I1 q1) fun w2 s2 ⟨y, H2, I2, ry, q2⟩ =>
  thn (hr pins s2 σ H2 _ I2 q2) fun ws s3 ⟨ps, H3, I3, rel, q3⟩ => ⟨(x, y) :: ps, H3, I3, .cons ⟨rx, ry⟩ rel, q3⟩)
def mergeK (kvs more : List (Key × V)) : List (Key × V) := more.foldl (fun acc kv => putK acc kv.1 kv.2) kvs
theorem KV.merge : ∀ {more : List (Key × V)} {rs : List (Key × Value)} {kvs : List (Key × V)} {vs : List (Key × Value)}, KV more rs → KV kvs vs → KV (mergeK kvs more) (merged vs rs) := by
 intro more rs kvs vs r
 unfold KV at r
 induction r generalizing kvs vs with
 | nil => intro q; exact q
 | @cons p q ps qs h t ih =>
  intro r0
  have e : KV (putK kvs p.1 p.2) (stored vs q.1 q.2) := by
   have := r0.put p.1 h.2
   rw [← h.1]; exact this
  exact ih e
theorem length_mergeK : ∀ (more kvs : List (Key × V)), (mergeK kvs more).length ≤ kvs.length + more.length
 | [], kvs => by show kvs.length ≤ kvs.length + 0; omega
 | p :: r, kvs => by
  have h1 := length_mergeK r (putK kvs p.1 p.2)
  have h2 := length_putK kvs p.1 p.2
  show (mergeK (putK kvs p.1 p.2) r).length ≤ _
  rw [List.length_cons]; omega
theorem carries_of {P : Program} {w : World} : ∀ {kvs : List (Key × V)} {ws : List (Value × Value)}, VV (kvs.map fun kv => (kV kv.1, kv.2)) ws → ∃ rs, Carries (mixKind P w) ws rs ∧ KV kvs rs
 | [], _, r => by rw [List.map_nil] at r; cases r; exact ⟨[], True.intro, .nil⟩
 | p :: kvs, _, r => by
  rw [List.map_cons] at r
  cases r with
  | @cons a b as bs h t =>
   obtain ⟨rs, c, q⟩ := carries_of (P := P) (w := w) t
   obtain ⟨b1, b2⟩ := b
   exact ⟨(p.1, b2) :: rs, ⟨kV_is h.1, rfl, c⟩, .cons ⟨rfl, h.2⟩ q⟩
def tDisp (trs : List (TE × TE)) : TE := fun σ H Q => ∀ p, H p = none → tPairs trs σ (upd H p (.dK [])) fun ps H2 => H2 p = some (.dK []) ∧ ∃ kvs : List (Key × V), ps = kvs.map (fun kv => (kV kv.1, kv.2)) ∧ kvs.length ≤ 15 ∧ Q (.ref p) (upd H2 p (.dK (mergeK [] kvs)))
theorem pe_disp {X : Cx} {pos : Pos} {keys : List (Option Expr)} {values : List Expr} {trs : List (TE × TE)} (h : PPs X pos keys values trs) (hall : keys.all (·.isSome) = true) (hl : keys.length = values.length) (h0 : keys ≠ [])
  (h15 : keys.length ≤ 15) : PE X (.Dict keys values pos) (tDisp trs) := by
 intro pins s σ H Q I q
 have hn := I.hok.fresh (Nat.le_refl s.heap.objs.size)
 have I1 := I.laid (a := s.heap.objs.size) (o := .dK []) (h' := s.heap.push { cls := .type "dict", data := .dict #[] }) (t' := s.toks) (fun _ _ q => Heap.get?_push_of_some _ q) (Nat.le_refl _) (dk_empty s.heap I.big)
 refine wpAny_Dict_walk (knd := mixKind X.prog X.w) hall hl h0 h15 (thn (h pins _ σ _ _ I1 (q _ hn)) fun ws s2 ⟨ps, H2, I2, rel, e, kvs, ep, lk, q2⟩ => ?_)
 subst ep
 obtain ⟨rs, c, rk⟩ := carries_of (P := X.prog) (w := X.w) rel
 obtain ⟨z, hd, vs0, r0, dd⟩ := dk_of I2.hok e
 cases r0
 refine ⟨rs, c, dd, fun h' dd' hs => ⟨.ref s.heap.objs.size, _, ?_, rfl, q2⟩⟩
 have hz : (mergeK [] kvs).length ≤ sizeLine := by
  have h1 := length_mergeK kvs []
  rw [List.length_nil] at h1
  rw [sizeLine_eq]; omega
 have he : ∃ q, h'.get? s.heap.objs.size = some q := let ⟨q, _, _, hq, _⟩ := dd'; ⟨q, hq⟩
 exact d_write I2 (by rw [e]; exact True.intro) hs he (dk_new hz hd (rk.merge .nil) dd')
structure M2 (X : Cx) (o : Expr) (m : Str) (apos : Pos) (e f : Expr) (cpos : Pos) : Prop where
 base : attributeBase o m X.env (eval o X.env) = eval o X.env
 few : ((backTo cpos (starEach [e, f] X.env)).all (fun x => !x.1) && (backToKw cpos (keywordEach [] X.env)).all (fun x => x.1.isSome)
  && decide (([e, f] : List Expr).length + ([] : List Keyword).length + (if ([] : List Keyword).isEmpty then 0 else 1) < 30)) = true
 line : (apos.endLine == cpos.line) = true
 trees : backTo cpos (starEach [e, f] X.env) = [(false, eval e X.env), (false, eval f X.env)]
def IsD (H : Hp) (a : Addr) : Prop := (∃ kvs, Rd H a (.dK kvs)) ∨ ∃ kvs, Rd H a (.dT kvs)
theorem isD_at {X : Cx} {pins : List (Addr × Obj)} {σ : St} {H : Hp} {s : Shared} {a : Addr} (I : Inv X pins σ H s) (d : IsD H a) :
  s.TypeIs (.ref a) "dict" ∧ (∀ b, Value.ref a = .ref b → ∃ ob, s.heap.get? b = some ob ∧ ob.dict = none) ∧ (a == sysModules) = false := by
 rcases d with ⟨kvs, e⟩ | ⟨kvs, e⟩
 ·obtain ⟨_, hd, vs, _, dd⟩ := dk_rd I.hok e
  refine ⟨dd.typeIs, fun b q => ?_, hd⟩
  cases q
  obtain ⟨ob, _, _, h1, h2, _⟩ := dd
  exact ⟨ob, h1, h2.2.1⟩
 ·obtain ⟨_, hd, xs, _, dd⟩ := dt_rd I.hok e
  refine ⟨dd.typeIs, fun b q => ?_, hd⟩
  cases q
  obtain ⟨ob, _, _, h1, h2, _⟩ := dd
  exact ⟨ob, h1, h2.2.1⟩
section
variable {X : Cx} {pins : List (Addr × Obj)} {σ : St} {H : Hp} {s : Shared} {a : Addr} {y d : V} {u r : Value} {o : Option V} {A : Around} {E : Value → Shared → Prop}
theorem d_get2 {Q : Value → Shared → Prop} (hu : A.units + 1 < cLine) (I : Inv X pins σ H s) (g : DGet H a y o) (ry : RelV y u) (rd : RelV d r) (h : ∀ w' s', Inv X pins σ H s' → RelV (o.getD d) w' → Q w' s') :
  wpAny (model X.prog X.w) A (call (.builtin "dict.get") [.ref a, u, r]) Q E s := by
 rcases g with ⟨kvs, k, e, ey, l⟩ | ⟨kvs, k, b, e, ey, eb, l⟩
 ·subst ey
  obtain ⟨z, hd, vs, rel, dd⟩ := dk_rd I.hok e
  refine call_meetsIn PySem.F.slot_dict_get dd.typeIs PySem.F.entry_dict_get (PySem.F.args_dict_get_3 _ _ _) (meets_dict_get_default (mixKind X.prog X.w) a (kV_is ry) hd r) ⟨_, dd.mapOf, h _ _ (I.tok _) ?_⟩
  rw [l]
  exact (rel.val k).getD rd
 ·subst ey
  cases (show u = Value.ref b from ry)
  obtain ⟨z, hd, xs, rel, dd⟩ := dt_rd I.hok e
  refine call_meetsIn PySem.F.slot_dict_get dd.typeIs PySem.F.entry_dict_get (PySem.F.args_dict_get_3 _ _ _) (meetsH_dict_get_default (tupleKind (mixKind X.prog X.w)) a b hd r) ⟨tupleKind_room_in1 hu, k, xs, key_of I.hok eb, dd, h _ _ (I.tok _) ?_⟩
  rw [l]
  exact (rel.val k).getD rd
end
def tDGet2 (td ty tx : TE) : TE := fun σ H Q => td σ H fun x H1 => ∃ a, x = .ref a ∧ IsD H1 a ∧ ty σ H1 fun y H2 => tx σ H2 fun z H3 => ∃ o, DGet H3 a y o ∧ Q (o.getD z) H3
section
variable {X : Cx} {o e f : Expr} {apos cpos : Pos} {td ty tx : TE}
theorem pe_dget2 (hu : X.A.units + 1 < cLine) (ho : PE X o td) (he : PE X e ty) (hf : PE X f tx) (m : M2 X o "get" apos e f cpos) : PE X (.Call (.Attribute o "get" apos) [e, f] [] cpos) (tDGet2 td ty tx) := by
 intro pins s σ H Q I h
 refine wpAny_Call_method m.base m.few m.line PySem.F.plainAttrs_dict PySem.F.slot_dict_get PySem.F.type_dict_get (thn (ho pins s σ H _ I h) fun u s1 ⟨x, H1, I1, rx, a, ex, d, q1⟩ => ?_)
 subst ex
 obtain rfl : u = Value.ref a := rx
 obtain ⟨t1, t2, _⟩ := isD_at I1 d
 refine ⟨t1, t2, ?_⟩
 rw [m.trees]
 refine Calls.callWith_builtin rfl (Calls.evalArgs_plain (Calls.spliced_cons (thn (he pins s1 σ H1 _ I1 q1) fun iv s2 ⟨y, H2, I2, ry, q2⟩ =>
  Calls.spliced_cons (thn (hf pins s2 σ H2 _ I2 q2) fun fv s3 ⟨z, H3, I3, rz, ov, g, q3⟩ => Calls.spliced_nil ?_))))
 exact d_get2 hu I3 g ry rz fun w' s4 I4 rw' => ⟨_, H3, I4, rw', q3⟩
end
section
variable {X : Cx} {pins : List (Addr × Obj)} {σ : St} {H : Hp} {s : Shared} {a : Addr} {kvs : List (Key × V)} {A : Around} {E : Value → Shared → Prop}
end
section
variable {X : Cx} {pins : List (Addr × Obj)} {σ : St} {H : Hp} {s : Shared} {a : Addr} {y : V} {u : Value} {A : Around} {E : Value → Shared → Prop}
end
end L2
namespace HT
open PySem PyProof.Rows
section
open PySem.SeqAt
open PySem.AutoSeq1 (wpAny_loadPart')
open PySem.MeetsSeq PySem.MeetsSeq2 PySem.MeetsSeq3
end
section
variable {prog : Program} {w : World} {A : Around} {E : Value → Shared → Prop} {s : Shared}
def sIx (n d : Nat) : Option Int → Nat
 | none => d
 | some v => if v < 0 then (v + (n : Int)).toNat else min v.toNat n
theorem sIx_none (n d : Nat) : sIx n d none = d := rfl
theorem sIx_nat (n d k : Nat) : sIx n d (some (k : Int)) = min k n := by
 show (if (k : Int) < 0 then ((k : Int) + (n : Int)).toNat else min (k : Int).toNat n) = min k n
 rw [if_neg (by omega), Int.toNat_natCast]
end
end HT
namespace L2
open PySem PySem.Spec PyProof.Rows
abbrev TO := St → Hp → (Option Int → Hp → Prop) → Prop
def PO (X : Cx) (e : Option Expr) (t : TO) : Prop :=
 ∀ (pins : List (Addr × Obj)) (s : Shared) (σ : St) (H : Hp) (Q : Option Int → Hp → Prop), Inv X pins σ H s → t σ H Q →
  wpAny (model X.prog X.w) X.A (evalPart e X.env) (fun u s' => ∃ o H', Inv X pins σ H' s' ∧ IsPart u o ∧ Q o H') X.xe s
def tNoPart : TO := fun _ H Q => Q none H
def tPart (t : TE) : TO := fun σ H Q => t σ H fun x H1 => ∃ i, x = .int i ∧ Q (some i) H1
theorem intsAre_of {ns : List Int} : ∀ {us : List Value}, Vals (ns.map V.int) us → IntsAre us ns := by
 induction ns with
 | nil => intro us r; rw [List.map_nil] at r; cases r; exact .nil
 | cons n ns ih =>
  intro us r
  rw [List.map_cons] at r
  cases r with
  | cons r1 r2 =>
   obtain ⟨t, e⟩ := r1
   subst e
   exact .cons n t (ih r2)
section
variable {X : Cx} {e : Expr} {te : TE} {lo hi : Option Expr} {tl th : TO} {pos p2 : Pos}
theorem po_none : PO X none tNoPart := by
 intro pins s σ H Q I h
 rw [evalPart_none]
 exact wpAny_pure ⟨none, H, I, .none, h⟩
theorem po_some (h : PE X e te) : PO X (some e) (tPart te) := by
 intro pins s σ H Q I hw
 rw [evalPart_some]
 refine thn (h pins s σ H _ I hw) fun u s1 ⟨x, H1, I1, r1, q1⟩ => ?_
 obtain ⟨i, rfl, q⟩ := q1
 obtain ⟨t, rfl⟩ := r1
 exact ⟨some i, H1, I1, .int i t, q⟩
def SlR (X : Cx) (r : V → Option Int → Option Int → Hp → VK → Prop) : Prop :=
 ∀ (pins : List (Addr × Obj)) (s : Shared) (σ : St) (H : Hp) (x : V) (v vl vu : Value) (lo hi : Option Int) (sl : Addr) (Q : VK), Inv X pins σ H s → RelV x v → s.heap.IsSliceOf sl vl vu .none → IsPart vl lo → IsPart vu hi → r x lo hi H Q →
  ∃ T id, typeLookup (.type T) "__getitem__" = pure (some (.builtin id)) ∧ s.TypeIs v T ∧ wpAny (model X.prog X.w) X.A (getItem v (.ref sl)) (EP X pins σ Q) X.xe s
def tSl (r : V → Option Int → Option Int → Hp → VK → Prop) (te : TE) (tl th : TO) : TE := fun σ H Q => te σ H fun x H1 => tl σ H1 fun l H2 => th σ H2 fun u H3 => r x l u H3 Q
theorem pe_slice {r : V → Option Int → Option Int → Hp → VK → Prop} (hr : SlR X r) (he : PE X e te) (hl : PO X lo tl) (hu : PO X hi th) : PE X (.Subscript e (.Slice lo hi none p2) pos) (tSl r te tl th) := by
 intro pins s σ H Q I h
 refine Subscript_ (thn (he pins s σ H _ I h) fun v s1 ⟨x, H1, I1, r1, q1⟩ => ?_)
 refine wpAny_Slice (thn (hl pins s1 σ H1 _ I1 q1) fun vl s2 ⟨l, H2, I2, pl, q2⟩ => thn (hu pins s2 σ H2 _ I2 q2) fun vu s3 ⟨u, H3, I3, pu, q3⟩ => ?_)
 rw [evalPart_none]
 refine wpAny_pure ?_
 have I4 : Inv X pins σ H3 { s3 with heap := s3.heap.push { cls := .type "slice", data := .fields #[vl, vu, .none] } } := I3.kept (t' := s3.toks) fun b ob q => Heap.get?_push_of_some _ q
 obtain ⟨T, id, hT, ht, hg⟩ := hr pins { s3 with heap := s3.heap.push { cls := .type "slice", data := .fields #[vl, vu, .none] } } σ H3 x v vl vu l u s3.heap.objs.size Q I4 r1 (Heap.IsSliceOf.new ..) pl pu q3
 show wpAny (model X.prog X.w) X.A (subscriptTail e (.Slice lo hi none p2) v (.ref s3.heap.objs.size)) (EP X pins σ Q) X.xe { s3 with heap := s3.heap.push { cls := .type "slice", data := .fields #[vl, vu, .none] } }
 exact tail_any (ops := [.ref s3.heap.objs.size, v]) ht hT hg (by with_unfolding_all rfl)
def cutV (xs : List V) (lo hi : Option Int) : List V := (xs.drop (HT.sIx xs.length 0 lo)).take (HT.sIx xs.length xs.length hi - HT.sIx xs.length 0 lo)
theorem cutV_length (xs : List V) (lo hi : Option Int) : (cutV xs lo hi).length ≤ xs.length := by
 unfold cutV
 rw [List.length_take, List.length_drop]
 omega
end
end L2
namespace L2
open PySem PySem.Spec PyProof.Rows
def ixN (n : Nat) (i : Int) : Option Nat := if 0 ≤ i then (if i < n then some i.toNat else none) else if -(n : Int) ≤ i then some (i + n).toNat else none
def atI {α : Type} (xs : List α) (i : Int) : Option α := (ixN xs.length i).bind fun j => xs[j]?
theorem ixN_seq {n : Nat} {i : Int} {j : Nat} (h : ixN n i = some j) : seqIndex? i n = some j ∧ j < n ∧ -(n : Int) ≤ i ∧ i < n := by
 unfold ixN at h
 by_cases h0 : 0 ≤ i
 ·rw [if_pos h0] at h
  by_cases h1 : i < n
  ·rw [if_pos h1] at h
   have e : i.toNat = j := Option.some.inj h
   exact ⟨by rw [seqIndex_of h0 h1, e], by omega, by omega, h1⟩
  ·rw [if_neg h1] at h; cases h
 ·rw [if_neg h0] at h
  by_cases h1 : -(n : Int) ≤ i
  ·rw [if_pos h1] at h
   have e : (i + n).toNat = j := Option.some.inj h
   exact ⟨by rw [seqIndex_neg (by omega) h1, e], by omega, h1, by omega⟩
  ·rw [if_neg h1] at h; cases h
theorem atI_get {α : Type} {xs : List α} {i : Int} {v : α} (h : atI xs i = some v) : ∃ j, seqIndex? i xs.length = some j ∧ xs[j]? = some v ∧ j < xs.length ∧ -(xs.length : Int) ≤ i ∧ i < xs.length := by
 unfold atI at h
 cases e : ixN xs.length i with
 | none => rw [e] at h; cases h
 | some j =>
  rw [e] at h
  obtain ⟨h1, h2, h3, h4⟩ := ixN_seq e
  exact ⟨j, h1, h, h2, h3, h4⟩
theorem atI_nat {α : Type} {xs : List α} {j : Nat} {v : α} (h : xs[j]? = some v) : atI xs (j : Int) = some v := by
 have hj : j < xs.length := (List.getElem?_eq_some_iff.mp h).1
 have e : ixN xs.length (j : Int) = some j := by
  unfold ixN
  rw [if_pos (by omega), if_pos (by omega)]; simp
 unfold atI; rw [e]; exact h
theorem atI_last {α : Type} (xs : List α) (v : α) : atI (xs ++ [v]) (-1) = some v := by
 have hl : (xs ++ [v]).length = xs.length + 1 := by simp
 have e : ixN (xs ++ [v]).length (-1) = some xs.length := by
  unfold ixN
  rw [hl, if_neg (by decide), if_pos (by omega)]
  congr 1
  omega
 unfold atI
 rw [e]
 show (xs ++ [v])[xs.length]? = some v
 simp
def PlainIx (b : Expr) : Prop := ∀ o i, subscripted b false o i = operate [o, i] (getItem o i)
def IxR (X : Cx) (r : R2) : Prop :=
 ∀ (value slice : Expr) (pins : List (Addr × Obj)) (s : Shared) (σ : St) (H : Hp) (x y : V) (v u : Value) (Q : VK), Inv X pins σ H s → RelV x v → RelV y u → r x y H Q →
  subscripted slice false v u = operate [v, u] (getItem v u) → wpAny (model X.prog X.w) X.A (subscriptTail value slice v u) (EP X pins σ Q) X.xe s
def MtR (X : Cx) (id : String) (r : V → List V → Hp → VK → Prop) : Prop :=
 ∀ (pins : List (Addr × Obj)) (s : Shared) (σ : St) (H : Hp) (x : V) (xs : List V) (v : Value) (us : List Value) (Q : VK), Inv X pins σ H s → RelV x v → Vals xs us → r x xs H Q →
  wpAny (model X.prog X.w) X.A (call (.builtin id) (v :: us)) (EP X pins σ Q) X.xe s
section
variable {X : Cx} {a b : Expr} {ta tb : TE} {pos : Pos}
theorem pe_ix {r : R2} (hr : IxR X r) (ha : PE X a ta) (hb : PE X b tb) (hs : PlainIx b) : PE X (.Subscript a b pos) (tOp r ta tb) := by
 intro pins s σ H Q I h
 exact Subscript_ (binT ha hb I h fun v u s2 x y H2 I2 rx ry q => hr a b pins s2 σ H2 x y v u Q I2 rx ry q (hs _ _))
def rIxL (K : PySem.W.Frag) : R2 := fun x y H Q => ∃ p xs i v, x = .ref p ∧ y = .int i ∧ SqL K H p xs ∧ atI xs i = some v ∧ Q v H
def rIxT (K : PySem.W.Frag) : R2 := fun x y H Q => ∃ p xs i v, x = .ref p ∧ y = .int i ∧ SqT K H p xs ∧ atI xs i = some v ∧ Q v H
def rIxS : R2 := fun x y H Q => ∃ z i c, x = .str z ∧ y = .int i ∧ z.length ≤ sizeLine ∧ atI z.cps.toList i = some c ∧ Q (.str ⟨#[c]⟩) H
theorem ix_list : IxR X (rIxL X.K) := by
 intro value slice pins s σ H x y v u Q I rx ry h hs
 obtain ⟨p, xs, i, z, rfl, rfl, hq, he, q⟩ := h
 cases rx
 obtain ⟨t, rfl⟩ := ry
 obtain ⟨its, r, pl, hz⟩ := I.list hq
 obtain ⟨j, h1, h2, h3, h4, h5⟩ := atI_get he
 obtain ⟨w, ew, rw'⟩ := r.get h2
 have hl := r.length
 have hn := line63
 have fin : EP X pins σ Q w s := ⟨z, H, I, rw', q⟩
 by_cases h0 : 0 ≤ i
 ·have hj : i.toNat = j := by
   rw [seqIndex_of h0 h5] at h1
   exact Option.some.inj h1
  exact item_listR pl.isList h0 (by omega) (by rw [hj]; simpa using ew) fin hs
 ·have hj : (i + (its.toArray.size : Int)).toNat = j := by
   rw [seqIndex_neg (by omega) h4] at h1
   rw [List.size_toArray, ← hl]
   exact Option.some.inj h1
  exact subscriptTail_builtinR (x := w) pl.isList.typeIs slot_list_getitem.lookup
   (wpAny_getItem_list_neg (Q := fun r s' => r = w ∧ EP X pins σ Q r s') pl.isList (by omega) (by rw [List.size_toArray] <;> omega) (by omega) (by rw [hj]; simpa using ew) ⟨rfl, fin⟩) hs
theorem ix_tup : IxR X (rIxT X.K) := by
 intro value slice pins s σ H x y v u Q I rx ry h hs
 obtain ⟨p, xs, i, z, rfl, rfl, hq, he, q⟩ := h
 cases rx
 obtain ⟨t, rfl⟩ := ry
 obtain ⟨its, r, pl, hz⟩ := I.tuple hq
 obtain ⟨j, h1, h2, h3, h4, h5⟩ := atI_get he
 obtain ⟨w, ew, rw'⟩ := r.get h2
 have hl := r.length
 have hn := line63
 have fin : EP X pins σ Q w s := ⟨z, H, I, rw', q⟩
 exact subscriptTail_builtinR (x := w) pl.typeIs slot_tuple_getitem.lookup
  (getItem_tuple (j := j) (Q := fun r s' => r = w ∧ EP X pins σ Q r s') pl (by omega) (by omega) (by rw [List.size_toArray, ← hl]; exact h1) (by simpa using ew) ⟨rfl, fin⟩) hs
theorem ix_str : IxR X rIxS := by
 intro value slice pins s σ H x y v u Q I rx ry h hs
 obtain ⟨z, i, c, rfl, rfl, hz, he, q⟩ := h
 obtain ⟨t, rfl⟩ := rx
 obtain ⟨t', rfl⟩ := ry
 obtain ⟨j, h1, h2, h3, h4, h5⟩ := atI_get he
 have hl : z.cps.toList.length = z.length := by simp [Str.length]
 rw [hl] at h1 h4 h5
 have hn := line63
 exact tail_any (typeIs_str s z t) slot_str_getitem.lookup (getItem_str (c := c) (by
  have e1 : decide (i < -(2 ^ 63 : Int)) = false := decide_eq_false (by omega)
  have e2 : decide (i ≥ 2 ^ 63) = false := decide_eq_false (by omega)
  rw [e1, e2, Bool.or_false]) (by rw [h1]; simpa using h2) ⟨.str ⟨#[c]⟩, H, I.tok _, ⟨_, rfl⟩, q⟩) hs
theorem mapSeq_set (its : List Value) (n j : Nat) (u : Value) : Obj.mapSeq (·.setIfInBounds j u) { cls := .type "list", data := .seq its.toArray n } = { cls := .type "list", data := .seq (its.set j u).toArray n } := by
 simp [Obj.mapSeq]
theorem Inv.lst {pins : List (Addr × Obj)} {σ : St} {H : Hp} {s : Shared} {p : Addr} {xs : List V} (I : Inv X pins σ H s) (h : H p = some (.lst xs)) :
  ∃ (its : List Value) (n : Nat), Vals xs its ∧ s.heap.get? p = some { cls := .type "list", data := .seq its.toArray n } ∧ xs.length ≤ sizeLine := by
 obtain ⟨z, its, n, r, e⟩ := I.hok p _ h
 exact ⟨its, n, r, e, z⟩
theorem Inv.lstUpd {pins : List (Addr × Obj)} {σ : St} {H : Hp} {s : Shared} {p : Addr} {xs ys : List V} {its its' : List Value} {n n' : Nat} {f : Obj → Obj} (I : Inv X pins σ H s) (h : H p = some (.lst xs))
  (ho : s.heap.get? p = some { cls := .type "list", data := .seq its.toArray n }) (hf : f { cls := .type "list", data := .seq its.toArray n } = { cls := .type "list", data := .seq its'.toArray n' }) (r : Vals ys its') (hz : ys.length ≤ sizeLine) (t : Nat) :
  Inv X pins σ (upd H p (.lst ys)) { s with heap := s.heap.update p f, toks := t } := by
 have e : (s.heap.update p f).get? p = some { cls := .type "list", data := .seq its'.toArray n' } := by
  rw [Heap.get?_update_self f ho (by rw [hf] <;> rfl), hf]
 refine I.write (x := p) (e := p) (by rw [h]; trivial) (.inl rfl) (fun b u hb q => (Heap.get?_update_other _ _ (Ne.symm hb)).trans q) ⟨_, e⟩ ?_
 exact ⟨hz, its', n', r, e⟩
def rSetL : V → V → V → Hp → (Hp → Prop) → Prop := fun o i v H Q => ∃ p xs k j, o = .ref p ∧ i = .int k ∧ H p = some (.lst xs) ∧ ixN xs.length k = some j ∧ Q (upd H p (.lst (xs.set j v)))
theorem set_list : PSet X rSetL := by
 intro pins s σ H o i v ov iv u Q I ro ri rv h
 obtain ⟨p, xs, k, j, rfl, rfl, hp, hj, q⟩ := h
 cases ro
 obtain ⟨t, rfl⟩ := ri
 obtain ⟨its, n, r, ho, hz⟩ := I.lst hp
 obtain ⟨h1, h2, h3, h4⟩ := ixN_seq hj
 have hl := r.length
 have hn := line63
 have I' : Inv X pins σ (upd H p (.lst (xs.set j v))) { s with heap := s.heap.update p (Obj.mapSeq (·.setIfInBounds j u)) } :=
  I.lstUpd hp ho (mapSeq_set its n j u) (r.set rv j) (by rw [List.length_set]; exact hz) s.toks
 by_cases h0 : 0 ≤ k
 ·have hk : k.toNat = j := by
   rw [seqIndex_of h0 h4] at h1
   exact Option.some.inj h1
  exact PySem.W.ki_setAt ho h0 (by omega) (by rw [List.size_toArray, ← hl]; exact h4) (by rw [hk]; exact ⟨_, I', q⟩)
 ·have hk : (k + (its.toArray.size : Int)).toNat = j := by
   rw [seqIndex_neg (by omega) h3] at h1
   rw [List.size_toArray, ← hl]
   exact Option.some.inj h1
  exact PySem.W.ki_setBack ho (by omega) (by rw [List.size_toArray, ← hl]; exact h3) (by omega) (by rw [hk]; exact ⟨_, I', q⟩)
theorem slice_bounds (lo hi : Option Int) (n : Nat) : (sliceBounds lo hi none n).1 = ((HT.sIx n 0 lo : Nat) : Int) ∧ (sliceBounds lo hi none n).2.1 = ((HT.sIx n n hi : Nat) : Int) ∧ (sliceBounds lo hi none n).2.2 = 1 := by
 refine ⟨?_, ?_, rfl⟩
 ·cases lo with
  | none => simp [sliceBounds, HT.sIx]
  | some i =>
   simp only [sliceBounds, HT.sIx, Option.getD_none, show (1 : Int) > 0 by decide, if_true]
   by_cases h : i < 0
   ·simp only [h, if_true] <;> omega
   ·simp only [h, if_false] <;> omega
 ·cases hi with
  | none => simp [sliceBounds, HT.sIx]
  | some i =>
   simp only [sliceBounds, HT.sIx, Option.getD_none, show (1 : Int) > 0 by decide, if_true]
   by_cases h : i < 0
   ·simp only [h, if_true] <;> omega
   ·simp only [h, if_false] <;> omega
theorem slicePick_cut (its : List Value) (lo hi : Option Int) : slicePick its.toArray lo hi none = ((its.drop (HT.sIx its.length 0 lo)).take (HT.sIx its.length its.length hi - HT.sIx its.length 0 lo)).toArray := by
 obtain ⟨h1, h2, h3⟩ := slice_bounds lo hi its.toArray.size
 unfold slicePick
 rw [h1, h2, h3]
 simp only [sliceRange_one, pick_run, List.size_toArray] <;> rfl
def rSlL (K : PySem.W.Frag) : V → Option Int → Option Int → Hp → VK → Prop := fun x lo hi H Q => ∃ a xs, x = .ref a ∧ SqL K H a xs ∧ ∀ p, H p = none → Q (.ref p) (upd H p (.lst (cutV xs lo hi)))
theorem sl_list : SlR X (rSlL X.K) := by
 intro pins s σ H x v vl vu lo hi sl Q I rx hs pl pu h
 obtain ⟨a, xs, rfl, hx, q⟩ := h
 cases rx
 obtain ⟨its, r, ht, hz⟩ := I.list hx
 have hlen := r.length
 refine ⟨"list", _, slot_list_getitem.lookup, ht.isList.typeIs, ?_⟩
 refine wpAny_getItem_list_slice ht.isList hs pl pu .none (by simp) ?_ (by rw [List.size_toArray] <;> omega)
 rw [slicePick_cut, ← hlen]
 refine ⟨.ref s.heap.objs.size, _, I.laid (t' := s.toks) (o := .lst (cutV xs lo hi)) (fun b ob q => Heap.get?_push_of_some _ q) (Nat.le_refl _) ?_, rfl, q _ (I.hok.fresh (Nat.le_refl _))⟩
 exact ⟨Nat.le_trans (cutV_length xs lo hi) hz, _, 0, (r.drop (HT.sIx xs.length 0 lo)).take (HT.sIx xs.length xs.length hi - HT.sIx xs.length 0 lo), Heap.get?_push_size _ rfl⟩
def flatV : V → Bool
 | .non => true
 | .bl _ => true
 | .int _ => true
 | .str _ => true
 | _ => false
def eqV : V → V → Bool
 | .non, .non => true
 | .bl a, .bl b => a == b
 | .bl a, .int b => (if a then 1 else 0) == b
 | .int a, .bl b => a == (if b then 1 else 0)
 | .int a, .int b => a == b
 | .str a, .str b => a == b
 | _, _ => false
theorem eqAt_V {A : Around} {s : Shared} {y x : V} {u v : Value} (ry : RelV y u) (rx : RelV x v) (fy : flatV y = true) (fx : flatV x = true) : SeqAt.EqAt A s u v (eqV y x) := by
 cases y with
 | non =>
  cases ry
  cases x with
  | non => cases rx; exact SeqAt.EqAt.same _
  | bl b => cases rx; exact SeqAt.EqAt.none_bool b
  | int b => obtain ⟨t, rfl⟩ := rx; exact SeqAt.EqAt.none_int b t
  | str b => obtain ⟨t, rfl⟩ := rx; exact SeqAt.EqAt.none_str b t
  | _ => exact absurd (show false = true from fx) Bool.false_ne_true
 | bl a =>
  cases ry
  cases x with
  | non => cases rx; exact SeqAt.EqAt.bool_none a
  | bl b => cases rx; exact SeqAt.EqAt.bool_bool a b
  | int b => obtain ⟨t, rfl⟩ := rx; exact SeqAt.EqAt.bool_int a b t
  | str b => obtain ⟨t, rfl⟩ := rx; exact SeqAt.EqAt.bool_str a b t
  | _ => exact absurd (show false = true from fx) Bool.false_ne_true
 | int a =>
  obtain ⟨t', rfl⟩ := ry
  cases x with
  | non => cases rx; exact SeqAt.EqAt.int_none a t'
  | bl b => cases rx; exact SeqAt.EqAt.int_bool a t' b
  | int b => obtain ⟨t, rfl⟩ := rx; exact SeqAt.EqAt.int_int a t' b t
  | str b => obtain ⟨t, rfl⟩ := rx; exact SeqAt.EqAt.int_str a t' b t
  | _ => exact absurd (show false = true from fx) Bool.false_ne_true
 | str a =>
  obtain ⟨t', rfl⟩ := ry
  cases x with
  | non => cases rx; exact SeqAt.EqAt.str_none a t'
  | bl b => cases rx; exact SeqAt.EqAt.str_bool a t' b
  | int b => obtain ⟨t, rfl⟩ := rx; exact SeqAt.EqAt.str_int a t' b t
  | str b => obtain ⟨t, rfl⟩ := rx; exact SeqAt.EqAt.str_str a t' b t
  | _ => exact absurd (show false = true from fx) Bool.false_ne_true
 | _ => exact absurd (show false = true from fy) Bool.false_ne_true
def eqU (x : V) (u : Value) : Bool := match u with
 | .none => eqV .non x
 | .bool b => eqV (.bl b) x
 | .int i _ => eqV (.int i) x
 | .str z _ => eqV (.str z) x
 | _ => false
theorem eqU_of {x y : V} {u : Value} (r : RelV y u) (f : flatV y = true) : eqU x u = eqV y x := by
 cases y with
 | non => cases r; rfl
 | bl b => cases r; rfl
 | int i => obtain ⟨t, rfl⟩ := r; rfl
 | str z => obtain ⟨t, rfl⟩ := r; rfl
 | _ => exact absurd (show false = true from f) Bool.false_ne_true
theorem any_eqU {x : V} : ∀ {xs : List V} {us : List Value}, Vals xs us → xs.all flatV = true → us.any (eqU x) = xs.any fun y => eqV y x
 | _, _, .nil, _ => rfl
 | y :: xs, u :: us, .cons r t, f => by
  rw [List.all_cons, Bool.and_eq_true] at f
  rw [List.any_cons, List.any_cons, eqU_of r f.1, any_eqU t f.2]
theorem mem_eqAt {A : Around} {s : Shared} {x : V} {v : Value} (rx : RelV x v) (fx : flatV x = true) : ∀ {xs : List V} {us : List Value}, Vals xs us → xs.all flatV = true → ∀ u ∈ us, SeqAt.EqAt A s u v (eqU x u)
 | _, _, .nil, _ => fun u hu => by cases hu
 | y :: xs, u :: us, .cons r t, f => fun u' hu => by
  rw [List.all_cons, Bool.and_eq_true] at f
  rcases List.mem_cons.mp hu with rfl | hu
  ·rw [eqU_of r f.1]; exact eqAt_V r rx f.1 fx
  ·exact mem_eqAt rx fx t f.2 u' hu
def inV (x : V) (xs : List V) : Bool := xs.any fun y => eqV y x
def rIn (K : PySem.W.Frag) (neg : Bool) : R2 := fun x y H Q => ∃ p xs, y = .ref p ∧ (SqL K H p xs ∨ SqT K H p xs) ∧ flatV x = true ∧ xs.all flatV = true ∧ Q (.bl (if neg then !inV x xs else inV x xs)) H
theorem op_in_seq : OpR X (compareOp .In) (rIn X.K false) := by
 intro pins s σ H x y v u Q I rx ry h
 obtain ⟨p, xs, rfl, hq, fx, fs, q⟩ := h
 cases ry
 rcases hq with hq | hq
 ·obtain ⟨its, r, pl, hz⟩ := I.list hq
  refine SeqAt.in_listAt (eqU x) pl.isList (fun w hw => mem_eqAt rx fx r fs w (by simpa using hw)) ⟨.bl _, H, I, rfl, ?_⟩
  rw [show its.toArray.any (eqU x) = its.any (eqU x) by simp, any_eqU r fs]
  exact q
 ·obtain ⟨its, r, pl, hz⟩ := I.tuple hq
  refine SeqAt.in_tupleAt (eqU x) pl (fun w hw => mem_eqAt rx fx r fs w (by simpa using hw)) ⟨.bl _, H, I, rfl, ?_⟩
  rw [show its.toArray.any (eqU x) = its.any (eqU x) by simp, any_eqU r fs]
  exact q
theorem op_notIn_seq : OpR X (compareOp .NotIn) (rIn X.K true) := by
 intro pins s σ H x y v u Q I rx ry h
 obtain ⟨p, xs, rfl, hq, fx, fs, q⟩ := h
 cases ry
 rcases hq with hq | hq
 ·obtain ⟨its, r, pl, hz⟩ := I.list hq
  refine SeqAt.notIn_listAt (eqU x) pl.isList (fun w hw => mem_eqAt rx fx r fs w (by simpa using hw)) ⟨.bl _, H, I, rfl, ?_⟩
  rw [show its.toArray.any (eqU x) = its.any (eqU x) by simp, any_eqU r fs]
  exact q
 ·obtain ⟨its, r, pl, hz⟩ := I.tuple hq
  refine SeqAt.notIn_tupleAt (eqU x) pl (fun w hw => mem_eqAt rx fx r fs w (by simpa using hw)) ⟨.bl _, H, I, rfl, ?_⟩
  rw [show its.toArray.any (eqU x) = its.any (eqU x) by simp, any_eqU r fs]
  exact q
theorem call_len_seq : CallR X (.builtin "len") (fun xs H Q => ∃ p ys, xs = [.ref p] ∧ (SqL X.K H p ys ∨ SqT X.K H p ys) ∧ Q (.int ys.length) H) := by
 intro pins s σ H xs us Q I r h
 obtain ⟨p, ys, rfl, hq, q⟩ := h
 obtain ⟨u, rfl, rx⟩ := vals1 r
 cases rx
 have hn := line63
 rcases hq with hq | hq
 ·obtain ⟨its, r', pl, hz⟩ := I.list hq
  have hlen := r'.length
  exact Calls.call_len_list pl.isList (by simp only [List.size_toArray] <;> omega) ⟨.int ys.length, H, I.tok _, ⟨s.toks + 1, by rw [List.size_toArray, hlen]⟩, q⟩
 ·obtain ⟨its, r', pl, hz⟩ := I.tuple hq
  have hlen := r'.length
  exact len_tuple pl (by simp only [List.size_toArray] <;> omega) ⟨.int ys.length, H, I.tok _, ⟨s.toks + 1, by rw [List.size_toArray, hlen]⟩, q⟩
theorem call_len_str : CallR X (.builtin "len") (fun xs H Q => ∃ z, xs = [.str z] ∧ z.length ≤ sizeLine ∧ Q (.int z.length) H) := by
 intro pins s σ H xs us Q I r h
 obtain ⟨z, rfl, hz, q⟩ := h
 obtain ⟨u, rfl, t, rfl⟩ := vals1 r
 have hn := line63
 exact len_str (by omega) ⟨.int z.length, H, I.tok _, ⟨_, rfl⟩, q⟩
theorem call_list_of : CallR X (.type "list") (fun xs H Q => ∃ p ys, xs = [.ref p] ∧ (SqL X.K H p ys ∨ SqT X.K H p ys) ∧ ∀ l, H l = none → Q (.ref l) (upd H l (.lst ys))) := by
 intro pins s σ H xs us Q I r h
 obtain ⟨p, ys, rfl, hq, q⟩ := h
 obtain ⟨u, rfl, rx⟩ := vals1 r
 cases rx
 have fin : ∀ (its : List Value), Vals ys its → ys.length ≤ sizeLine → ∀ (h' : Heap) (c' : Nat), (∀ b o', s.heap.get? b = some o' → h'.get? b = some o') →
   h'.get? s.heap.objs.size = some { cls := .type "list", dict := none, data := .seq its.toArray c', slots := #[] } → EP X pins σ Q (.ref s.heap.objs.size) { s with heap := h' } := fun its r' hz h' c' kp e =>
  ⟨.ref s.heap.objs.size, _, I.laid (t' := s.toks) kp (Nat.le_refl _) (show ObjOk X.prog X.w _ h' _ (.lst ys) from ⟨hz, its, c', r', e⟩), rfl, q _ (I.hok.fresh (Nat.le_refl _))⟩
 rcases hq with hq | hq
 ·obtain ⟨its, r', pl, hz⟩ := I.list hq
  have hlen := r'.length
  obtain ⟨o, ho, hc, n, hd⟩ := pl.isList
  exact call_list_seq p (.inl rfl) ho hc hd (fun h' c' kp e => fin its r' hz h' c' kp e) (by simp only [List.size_toArray] <;> omega)
 ·obtain ⟨its, r', pl, hz⟩ := I.tuple hq
  have hlen := r'.length
  obtain ⟨o, ho, hc, n, hd⟩ := pl
  exact call_list_seq p (.inr rfl) ho hc hd (fun h' c' kp e => fin its r' hz h' c' kp e) (by simp only [List.size_toArray] <;> omega)
theorem call_tuple_of : CallR X (.type "tuple") (fun xs H Q => ∃ p ys, xs = [.ref p] ∧ ((SqL X.K H p ys ∧ ∀ l, H l = none → Q (.ref l) (upd H l (.tup ys))) ∨ (SqT X.K H p ys ∧ Q (.ref p) H))) := by
 intro pins s σ H xs us Q I r h
 obtain ⟨p, ys, rfl, h⟩ := h
 obtain ⟨u, rfl, rx⟩ := vals1 r
 cases rx
 rcases h with ⟨hq, q⟩ | ⟨hq, q⟩
 ·obtain ⟨its, r', pl, hz⟩ := I.list hq
  have hlen := r'.length
  refine call_tuple_list pl.isList (fun h' kp => ?_) (by simp only [List.size_toArray] <;> omega)
  have I1 : Inv X pins σ H { s with heap := h' } := I.kept (t' := s.toks) kp
  have I2 : Inv X pins σ (upd H h'.objs.size (.tup ys)) { s with heap := h'.push { cls := .type "tuple", data := .seq its.toArray } } :=
   I1.laid (t' := s.toks) (fun b o e => Heap.get?_push_of_some _ e) (Nat.le_refl _) (show ObjOk X.prog X.w _ _ _ (.tup ys) from ⟨hz, its, r', IsTup.new _ _⟩)
  exact ⟨.ref h'.objs.size, _, I2, rfl, q _ (I1.hok.fresh (Nat.le_refl _))⟩
 ·obtain ⟨its, r', pl, hz⟩ := I.tuple hq
  exact call_tuple_same pl ⟨.ref p, H, I, rfl, q⟩
def tyV (K : PySem.W.Frag) (T : String) (x : V) (H : Hp) : Prop := match x with
 | .str _ => T = "str"
 | .int _ => T = "int"
 | .ref p => (T = "list" ∧ ∃ xs, SqL K H p xs) ∨ (T = "tuple" ∧ ∃ o, K.lookup p = some o ∧ o.cls = .type "tuple" ∧ o.dict = none) ∨
   (T = "dict" ∧ ((∃ kvs, H p = some (.dK kvs)) ∨ ∃ kvs, H p = some (.dT kvs))) ∨ (T = "set" ∧ ∃ S n, H p = some (.set S n))
 | _ => False
theorem tyV_is {pins : List (Addr × Obj)} {σ : St} {H : Hp} {s : Shared} {T : String} {x : V} {v : Value} (I : Inv X pins σ H s) (r : RelV x v) (ty : tyV X.K T x H) :
  s.TypeIs v T ∧ ∀ a, v = .ref a → ∃ ob, s.heap.get? a = some ob ∧ ob.dict = none := by
 cases x with
 | str z =>
  obtain ⟨t, rfl⟩ := r
  cases (show T = "str" from ty)
  exact ⟨typeIs_str s z t, fun _ e => nomatch e⟩
 | int i =>
  obtain ⟨t, rfl⟩ := r
  cases (show T = "int" from ty)
  exact ⟨typeIs_int s i t, fun _ e => nomatch e⟩
 | ref p =>
  cases r
  rcases ty with ⟨rfl, xs, hq⟩ | ⟨rfl, o, hk, hc, hd⟩ | ⟨rfl, hk⟩ | ⟨rfl, S, n, hk⟩
  ·obtain ⟨its, _, pl, _⟩ := I.list hq
   refine ⟨pl.isList.typeIs, fun a e => ?_⟩
   cases e
   obtain ⟨o, n, e, c, hd, _⟩ := pl
   exact ⟨o, e, hd⟩
  ·refine ⟨⟨o, I.kIn p o hk, hc⟩, fun a e => ?_⟩
   cases e
   exact ⟨o, I.kIn _ o hk, hd⟩
  ·have z : ∃ o, s.heap.get? p = some o ∧ o.ExactDict := by
    rcases hk with ⟨kvs, hk⟩ | ⟨kvs, hk⟩
    ·obtain ⟨_, _, _, _, o, _, _, e, ex, _⟩ := I.hok p _ hk
     exact ⟨o, e, ex⟩
    ·obtain ⟨_, _, _, _, o, _, _, e, ex, _⟩ := I.hok p _ hk
     exact ⟨o, e, ex⟩
   obtain ⟨o, e, ex⟩ := z
   refine ⟨⟨o, e, ex.1⟩, fun a e2 => ?_⟩
   cases e2
   exact ⟨o, e, ex.2.1⟩
  ·obtain ⟨o, _, _, _, e, ex, _⟩ := I.hok p _ hk
   refine ⟨⟨o, e, ex.1⟩, fun a e2 => ?_⟩
   cases e2
   exact ⟨o, e, ex.2.1⟩
 | _ => exact False.elim ty
def tBM0 (K : PySem.W.Frag) (T : String) (r : V → List V → Hp → VK → Prop) (to : TE) : TE := fun σ H Q => to σ H fun x H1 => tyV K T x H1 ∧ r x [] H1 Q
def tBM (K : PySem.W.Frag) (T : String) (r : V → List V → Hp → VK → Prop) (to : TE) (t : TA) : TE := fun σ H Q => to σ H fun x H1 => tyV K T x H1 ∧ t σ H1 fun xs H2 => r x xs H2 Q
variable {o e : Expr} {es : List Expr} {to : TE} {t : TA} {name : Str} {apos cpos : Pos} {T id : String} {r : V → List V → Hp → VK → Prop}
theorem pe_bm0 (pa : PlainAttrs T) (slot : Slot T name id) (hty : typeOf (.builtin id) = pure (.type "method_descriptor")) (hm : MtR X id r) (ho : PE X o to)
  (hbase : attributeBase o name X.env (eval o X.env) = eval o X.env := by rfl) (hline : (apos.endLine == cpos.line) = true := by rfl) : PE X (.Call (.Attribute o name apos) [] [] cpos) (tBM0 X.K T r to) := by
 intro pins s σ H Q I h
 refine wpAny_Call_method0_late hbase hline (thn (ho pins s σ H _ I h) fun v s1 ⟨x, H1, I1, r1, ty, q1⟩ => ?_)
 obtain ⟨h1, h2⟩ := tyV_is I1 r1 ty
 exact ⟨T, id, pa, slot, hty, h1, h2, Calls.callWith_builtin rfl (PySem.evalArgs_none (hm pins s1 σ H1 x [] v [] Q I1 r1 .nil q1))⟩
theorem pe_bm (pa : PlainAttrs T) (slot : Slot T name id) (hty : typeOf (.builtin id) = pure (.type "method_descriptor")) (hm : MtR X id r) (ho : PE X o to) (ha : PA X (e :: es) t)
  (hbase : attributeBase o name X.env (eval o X.env) = eval o X.env := by rfl)
  (hfew : ((backTo cpos (starEach (e :: es) X.env)).all (fun x => !x.1) && (backToKw cpos (keywordEach [] X.env)).all (fun x => x.1.isSome)
   && decide ((e :: es).length + ([] : List Keyword).length + (if ([] : List Keyword).isEmpty then 0 else 1) < 30)) = true := by rfl)
  (hline : (apos.endLine == cpos.line) = true := by rfl) (hs : starEach (e :: es) X.env = (false, eval e X.env) :: starEach es X.env := by rfl) (hplain : (backTo cpos (starEach es X.env)).any (·.1) = false := by rfl) :
  PE X (.Call (.Attribute o name apos) (e :: es) [] cpos) (tBM X.K T r to t) := by
 intro pins s σ H Q I h
 refine wpAny_Call_method_late hbase hfew hline rfl (thn (ho pins s σ H _ I h) fun v s1 ⟨x, H1, I1, r1, ty, q1⟩ => ?_)
 obtain ⟨h1, h2⟩ := tyV_is I1 r1 ty
 refine ⟨T, id, pa, slot, hty, h1, h2, ?_⟩
 have hA := ha cpos pins s1 σ H1 _ I1 q1
 rw [hs] at hA ⊢
 refine Calls.callWith_builtin (by show (false || (backTo cpos (starEach es X.env)).any (·.1)) = false; rw [hplain] <;> rfl) (Calls.evalArgs_plain ?_)
 exact thn hA fun us s2 ⟨vs, H2, I2, r2, q2⟩ => hm pins s2 σ H2 x vs v us Q I2 r1 r2 q2
end
end L2
namespace L2
open PySem PySem.Spec PyProof.Rows
def MtM (X : Cx) (id : String) (r : V → List V → Hp → VK → Prop) : Prop :=
 ∀ (pins : List (Addr × Obj)) (s : Shared) (σ : St) (H : Hp) (x : V) (xs : List V) (v : Value) (us : List Value) (Q : VK), Inv X pins σ H s → RelV x v → Vals xs us → r x xs H Q →
  wpAny (model X.prog X.w) X.A (call (.builtin id) (v :: us)) (EP X pins σ Q) X.xe s
theorem Vals.one : ∀ {x : V} {us : List Value}, Vals [x] us → ∃ u, us = [u] ∧ RelV x u
 | _, _, .cons r .nil => ⟨_, rfl, r⟩
section
variable {X : Cx} {pins : List (Addr × Obj)} {σ : St} {H : Hp} {s : Shared} {l b : Addr} {xs ys zs : List V}
theorem Inv.lset {its its' : List Value} {n : Nat} {f : Array Value → Array Value} {t' : Nat} (I : Inv X pins σ H s) (hH : H l = some (.lst xs))
  (e : s.heap.get? l = some { cls := .type "list", data := .seq its.toArray n }) (hf : f its.toArray = its'.toArray) (hv : Vals ys its') (hz : ys.length ≤ sizeLine) :
  Inv X pins σ (upd H l (.lst ys)) { s with heap := s.heap.update l (Obj.mapSeq f), toks := t' } := by
 have q := PySem.IsL.update e f
 rw [hf] at q
 refine I.write (x := l) (e := l) (by rw [hH]; exact trivial) (.inl rfl) (fun b' u hb hu => (Heap.get?_update_other s.heap (Obj.mapSeq f) (Ne.symm hb)).trans hu) ⟨_, q⟩ ?_
 exact ⟨hz, its', _, hv, q⟩
theorem Inv.lnew {its : List Value} {t' : Nat} (I : Inv X pins σ H s) (hv : Vals ys its) (hz : ys.length ≤ sizeLine) :
  Inv X pins σ (upd H s.heap.objs.size (.lst ys)) { s with heap := s.heap.push { cls := .type "list", data := .seq its.toArray }, toks := t' } :=
 I.laid (fun _ _ q => Heap.get?_push_of_some _ q) (Nat.le_refl _) ⟨hz, its, 0, hv, Heap.get?_push_size _ rfl⟩
theorem Inv.fresh (I : Inv X pins σ H s) : H s.heap.objs.size = none := I.hok.fresh (Nat.le_refl _)
theorem Inv.lstM (I : Inv X pins σ H s) (hH : H l = some (.lst xs)) : xs.length ≤ sizeLine ∧ ∃ (its : List Value) (n : Nat), Vals xs its ∧ xs.length = its.length ∧ s.heap.get? l = some { cls := .type "list", data := .seq its.toArray n } := by
 obtain ⟨z, its, n, r, e⟩ := I.hok l _ hH
 exact ⟨z, its, n, r, r.length, e⟩
end
section
variable {X : Cx}
def rAppend : V → List V → Hp → VK → Prop := fun x vs H Q => ∃ l xs y, x = .ref l ∧ vs = [y] ∧ H l = some (.lst xs) ∧ xs.length < sizeLine ∧ Q .non (upd H l (.lst (xs ++ [y])))
theorem mt_append : MtM X "list.append" rAppend := by
 intro pins s σ H x vs v us Q I rx rv h
 obtain ⟨l, xs, y, rfl, rfl, hH, hz, q⟩ := h
 cases rx
 obtain ⟨u, rfl, ru⟩ := rv.one
 obtain ⟨z, its, n, r, hl, e⟩ := I.lstM hH
 refine call_meets F.slot_list_append ⟨_, e, rfl⟩ F.entry_list_append (F.args_list_append_2 _ _) (PySem.list_append l its.toArray n u (by rw [List.size_toArray]; omega)) ⟨e, ?_⟩
 refine ⟨.non, _, I.lset (its' := its ++ [u]) hH e (by simp) (r.append (.cons ru .nil)) ?_, rfl, q⟩
 rw [List.length_append, List.length_singleton]
 omega
def rCat : R2 := fun x y H Q => ∃ l b xs zs, x = .ref l ∧ y = .ref b ∧ H l = some (.lst xs) ∧ H b = some (.lst zs) ∧ xs.length + zs.length ≤ sizeLine ∧ ∀ p, H p = none → Q (.ref p) (upd H p (.lst (xs ++ zs)))
theorem op_cat : OpR X (binaryOp .Add) rCat := by
 intro pins s σ H x y v u Q I rx ry h
 obtain ⟨l, b, xs, zs, rfl, rfl, hH, hB, hz, q⟩ := h
 cases rx
 cases ry
 obtain ⟨z, its, n, r, hl, e⟩ := I.lstM hH
 obtain ⟨z2, its2, n2, r2, hl2, e2⟩ := I.lstM hB
 refine PySem.P.add_list e e2 ?_ (by rw [List.size_toArray, List.size_toArray]; omega)
 have ea : its.toArray ++ its2.toArray = (its ++ its2).toArray := by simp
 rw [ea]
 exact ⟨.ref _, _, I.lnew (t' := s.toks) (r.append r2) (by rw [List.length_append]; omega), rfl, q _ I.fresh⟩
end
section
variable {prog : Program} {w : World} {A : Around} {E : Value → Shared → Prop} {s : Shared}
set_option maxRecDepth 100000 in
end
section
variable {X : Cx}
end
end L2
namespace Att
open PySem PySem.W PySem.Calls PyProof.Rows
theorem ints_of_wellAll {P : Params} {h : Heap} : ∀ (ns : List Int) (vs : List Value), WellAll P h vs (ns.map WData.int) → IntsAre vs ns := by
 intro ns
 induction ns with
 | nil =>
  intro vs w
  rw [List.map_nil] at w
  cases w
  exact .nil
 | cons n ns ih =>
  intro vs w
  rw [List.map_cons] at w
  cases w with
  | cons a b =>
   cases a
   exact .cons _ _ (ih _ b)
theorem script_of {l : OpenLaw} {n : Nat} (hn : l.most = some n) {P : Params} {h : Heap} {args : List WData} {vals : List Value}
  (hpre : l.row.toRowW.claim.pre args = true) (hwl : WellAll P h vals args) :
  ∃ a vs ns, vals = [Value.ref a] ∧ args = [WData.list (ns.map WData.int)] ∧ h.get? a = some { cls := .type "list", data := .seq vs.toArray } ∧ IntsAre vs ns ∧ ns.length ≤ n := by
 have hsh : WShape.hasAll [] args [.list .int] = true := (pre_splitW hpre).1
 have hc : l.pre.holds [] { args := args } = true := (pre_splitW hpre).2
 obtain ⟨d, r, rfl, h1, h2⟩ := hasAllW_cons hsh
 obtain rfl := hasAllW_nil h2
 obtain ⟨xs, rfl, h3⟩ := hasW_list h1
 obtain ⟨ns, rfl⟩ := items_int h3
 have hlen : ns.length ≤ n := by
  unfold OpenLaw.pre at hc
  have h4 : (WTm.not (.lt (.lit (.int (n : Int))) (.len (.arg 0)))).holds [] { args := [.list (ns.map .int)] } = true := by
   have h4 := (holds_andW hc).1
   rw [hn] at h4
   exact h4
  have h5 := condW_of h4 (w_not (w_lt w_lit (w_len_list (w_arg rfl))))
  rw [List.length_map] at h5
  refine Nat.le_of_not_lt fun q => ?_
  have q' : (n : Int) < ((ns.length : Nat) : Int) := by omega
  first
   | (rw [decide_eq_true q'] at h5; exact absurd h5 (by decide))
   | (simp at h5; omega)
 cases hwl with
 | cons w1 w2 =>
  cases w2
  cases w1 with
  | list ho hall => exact ⟨_, _, ns, rfl, rfl, ho, ints_of_wellAll ns _ hall, hlen⟩
theorem post_true (l : OpenLaw) (args : List WData) : l.row.toRowW.claim.post args (.bool true) args = true :=
 postW_of (r := l.row.toRowW) (X := (true == true))
  (show WShape.has [] (.bool true) .bool = true by first | rfl | decide | simp [WShape.has, WShape.arms, WShape.armsAll])
  (show (WTm.eq .res (.lit (.bool true))).value [] { args := args, res := some (.bool true), after := args } = some (.bool (true == true)) from w_eq_bool (w_res rfl) w_lit) rfl
theorem attach_call {l : OpenLaw} {n : Nat} {q : Program} {loose : List Str} {XP : (Str → Option Value) → Heap → Prop} {YP : World → Heap → Prop} {d : DefRec}
  (hn : l.most = some n) (hdf : d.params.defaults = [])
  (call : ∀ (w : World) (s₀ s₁ : Shared) (mg mb : Str → Option Value) (fa : Addr) (o : Obj) (pm cd doc : Value) (a : Addr) (vs : List Value) (ns : List Int),
   Ground q loose [] XP w s₀ mg mb s₁.heap → YP w s₁.heap →
   s₁.heap.get? fa = some o → o.data = .func (docDef d.name d.params d.body d.scope pm cd doc) → s₁.heap.CodeRec cd d.name → mg d.name = some (.ref fa) →
   s₁.heap.get? a = some { cls := .type "list", data := .seq vs.toArray } → IntsAre vs ns → ns.length ≤ n → s₁.gens = #[] →
   codeAny (model l.prog w) callerA (.call (.ref fa) ⟨[.ref a], []⟩) (fun r s' => r = .ok (.ret (.bool true)) ∧ OldK s₁.heap s'.heap ∧ s'.os = s₁.os ∧ AllBare s'.gens) s₁) :
  WalkO q loose XP YP l.row.toRowW d [] (fun f vs => PySem.call f vs) := by
 intro w s₀ s₁ mg mb G Y fa o pm cd doc dV kV ho hd hcd hD hmg hg args vals as hpre hlay hrd hwl hlo
 obtain rfl : dV = .none := Dflts.none hD hdf
 obtain rfl : kV = .none := Dflts.noKw hD
 obtain ⟨a, vs, ns, rfl, rfl, hobj, hints, hlen⟩ := script_of hn hpre hwl
 refine enter_call (codeAny_mono (call w s₀ s₁ mg mb fa o pm cd doc a vs ns G Y ho (fd_plain hd) hcd hmg hobj hints hlen hg) fun r s' hq => ?_)
 obtain ⟨rfl, h2, h3, h4⟩ := hq
 exact ⟨.inl ⟨.bool true, .bool true, [], rfl, fun _ => rfl, .bool true, post_true l _, fun _ => ⟨List.Pairwise.nil, fun _ hm => (nomatch hm)⟩⟩, h2, h3, h4⟩
section
variable {prog : Program} {w : World} {A : Around} {E : Value → Shared → Prop} {s : Shared} {K : Frag}
end
end Att
namespace L2
open PySem PySem.Spec PyProof.Rows
theorem vals_ints : ∀ {vs : List Value} {ns : List Int}, IntsAre vs ns → Vals (ns.map V.int) vs
 | _, _, .nil => .nil
 | _, _, .cons n t h => .cons ⟨t, rfl⟩ (vals_ints h)
def Only (H : Hp) : Prop := ∀ b, H b = none ∨ ∃ o xs, H b = some (.frz o (.lst xs))
theorem law_call {P : Program} {w : World} {K : PySem.W.Frag} {mg mb : Str → Option Value} {CX : CXT} {k : Nat} {fa a : Addr} {fd : FuncData} {x : Str} {sp : Sp} {s₁ : Shared} {vs : List Value} {ns : List Int}
  (KX : K.In s₁.heap) (hns : s₁.heap.Ns mainGlobals mg) (hb : s₁.heap.Ns builtinsNs mb) (hbb : ∀ x : Str, x ≠ "__name__" → mb x = bootBuiltins x) (hlim : s₁.heap.NoLimit) (hg : s₁.gens = #[])
  (ha : s₁.heap.get? a = some { cls := .type "list", data := .seq vs.toArray }) (hi : IntsAre vs ns) (hl : ns.length ≤ sizeLine) (hr : Room k callerA)
  (F : ∀ base : Heap, K.In base → base.Ns mainGlobals mg → FnOk P w K mg base CX k fa fd [x] sp) (hbind : ∀ (s : Shared) (u : Value), BindsTo s fd ⟨[u], []⟩ [(x, u)])
  (hsp : ∀ H : Hp, Only H → SqL K H a (ns.map V.int) → sp [.ref a] H (fun v _ => v = .bl true) fun _ _ _ => False)
  (hCX : ∀ H e s', CX [] H s₁ (fun _ _ _ => False) e s' → False) :
  codeAny (model P w) callerA (.call (.ref fa) ⟨[.ref a], []⟩) (fun r s' => r = .ok (.ret (.bool true)) ∧ OldK s₁.heap s'.heap ∧ s'.os = s₁.os ∧ AllBare s'.gens) s₁ := by
 have rv := vals_ints hi
 have lenV := hi.length
 have core : ∀ H : Hp, Only H → SqL K H a (ns.map V.int) → HOk P w H s₁.heap → (∀ b, H b ≠ none → b = a) → (H a ≠ none → K.lookup a = none) →
   codeAny (model P w) callerA (.call (.ref fa) ⟨[.ref a], []⟩) (fun r s' => r = .ok (.ret (.bool true)) ∧ OldK s₁.heap s'.heap ∧ s'.os = s₁.os ∧ AllBare s'.gens) s₁ := by
  intro H hO hS hok hA hK
  have base_of : ∀ {b : Addr} {o : Obj}, s₁.heap.get? b = some o → H b = none → (hidT s₁.heap H).get? b = some o := fun e n => hidT_get e n
  have noA : ∀ {b : Addr} {o : Obj} {es : Array DictEntry} {ep : Nat}, s₁.heap.get? b = some o → o.data = .dict es ep → H b = none := fun {b o es ep} e d => by
   cases q : H b with
   | none => rfl
   | some u =>
    have e' : b = a := hA b (by rw [q]; simp)
    subst e'
    rw [ha] at e; cases e
    have d' : Data.seq vs.toArray _ = Data.dict es ep := d
    cases d'
  have nsK : ∀ {b : Addr} {m : Str → Option Value}, s₁.heap.Ns b m → (hidT s₁.heap H).Ns b m := fun {b m} ⟨o, es, ep, e, d, r⟩ => ⟨o, es, ep, base_of e (noA e d), d, r⟩
  have hKb : K.In (hidT s₁.heap H) := fun b o e => base_of (KX b o e) (by
   cases q : H b with
   | none => rfl
   | some u =>
    have e' : b = a := hA b (by rw [q]; simp)
    subst e'
    rw [hK (by rw [q]; simp)] at e; cases e)
  have hM : Mod K mg (hidT s₁.heap H) := ⟨hKb, nsK hns, ⟨mb, nsK hb, hbb⟩, let ⟨mc, h1, h2⟩ := hlim; ⟨mc, nsK h1, h2⟩⟩
  have e0 : Env0 P w K mg (hidT s₁.heap H) callerA [] s₁ H := ⟨rfl, hM, fun b o e => of_hidT e, Nat.le_of_eq (hidT_size _ _), trivial, fun b hb => absurd (show b ∈ ([] : List Addr) from hb) (by simp), hok, .of_eq hg⟩
  refine codeAny_mono ((F _ hKb (nsK hns)).run callerA [] s₁ H ⟨[.ref a], []⟩ [.ref a] [.ref a] _ _ hr e0 (hbind s₁ (.ref a)) (.cons rfl .nil) (hsp H hO hS)) fun r s' h => ?_
  cases r with
  | error e => exact (hCX H e s' h).elim
  | ok fl =>
   cases fl with
   | next => exact False.elim h
   | brk => exact False.elim h
   | cont => exact False.elim h
   | ret u =>
    obtain ⟨v, H', os, bare, un, hok', r', q⟩ := h
    have q' : v = .bl true := q
    subst q'
    obtain rfl : u = Value.bool true := r'
    refine ⟨rfl, OldK.of_keep fun b o e => ?_, os, bare⟩
    cases q : H b with
    | none => exact un.keep b o e q (by intro z; exact absurd (show b ∈ ([] : List Addr) from z) (by simp)) (by simp)
    | some u =>
     rcases hO b with z | ⟨ob, xs, z⟩
     ·rw [q] at z; cases z
     ·have z2 := un.frzs b ob _ z
      obtain ⟨e1, _⟩ := hok b _ z
      obtain ⟨e2, _⟩ := hok' b _ z2
      rw [e] at e1; cases e1
      exact e2
 cases hk : K.lookup a with
 | some o =>
  have e := KX a o hk
  rw [ha] at e
  cases e
  refine core (fun _ => none) (fun _ => .inl rfl) (.inr ⟨_, vs.toArray, _, hk, rfl, rfl, rfl, by rw [List.size_toArray, lenV]; exact hl, by simpa using rv⟩) (fun b u z => by have z' : (none : Option HO) = some u := z; cases z') (fun b z => absurd rfl z) fun z => absurd rfl z
 | none =>
  refine core (fun b => if b = a then some (.frz { cls := .type "list", data := .seq vs.toArray } (.lst (ns.map V.int))) else none) (fun b => ?_) (.inl (.inr ⟨{ cls := .type "list", data := .seq vs.toArray }, if_pos rfl⟩)) (fun b u z => ?_) (fun b z => ?_) fun _ => hk
  ·by_cases hb : b = a
   ·exact .inr ⟨_, _, if_pos hb⟩
   ·exact .inl (if_neg hb)
  ·by_cases hb : b = a
   ·have z' := (if_pos hb).symm.trans z
    cases z'
    subst hb
    exact ⟨ha, by rw [List.length_map]; exact hl, vs, _, rv, ha⟩
   ·have z' := (if_neg hb).symm.trans z
    cases z'
  ·by_cases hb : b = a
   ·exact hb
   ·exact absurd (if_neg hb) z
end L2
namespace L2
open PySem PySem.Spec PyProof.Rows
theorem walk_of {l : PySem.W.OpenLaw} {n k : Nat} {q : Program} {loose : List Str} {XP : (Str → Option Value) → Heap → Prop} {YP : World → Heap → Prop} {d : DefRec} {K : Params → PySem.W.Frag} {CX : World → CXT} {sp : World → Sp} {x : Str}
  (hn : l.most = some n) (hn2 : n ≤ sizeLine) (hdf : d.params.defaults = []) (hr : Room k callerA)
  (hY : ∀ (w : World) (h : Heap), YP w h → (K w.params).In h)
  (F : ∀ (w : World) (mg : Str → Option Value) (fa : Addr) (h : Heap), (K w.params).In h → h.Ns mainGlobals mg → mg d.name = some (.ref fa) →
   ∃ fd : FuncData, (∀ (s : Shared) (u : Value), BindsTo s fd ⟨[u], []⟩ [(x, u)]) ∧
    ∀ base : Heap, (K w.params).In base → base.Ns mainGlobals mg → FnOk l.prog w (K w.params) mg base (CX w) k fa fd [x] (sp w))
  (hsp : ∀ (w : World) (H : Hp) (a : Addr) (ns : List Int), ns.length ≤ n → Only H → SqL (K w.params) H a (ns.map V.int) → sp w [.ref a] H (fun v _ => v = .bl true) fun _ _ _ => False)
  (hCX : ∀ (w : World) (H : Hp) (s : Shared) (e : Value) (s' : Shared), CX w [] H s (fun _ _ _ => False) e s' → False) :
  PySem.W.WalkO q loose XP YP l.row.toRowW d [] (fun f vs => PySem.call f vs) := by
 refine Att.attach_call hn hdf fun w s₀ s₁ mg mb fa o pm cd doc a vs ns G Y ho hd hcd hmg hobj hints hlen hg => ?_
 have KX := hY w _ Y
 obtain ⟨fd, hb, hF⟩ := F w mg fa _ KX G.T.g hmg
 exact law_call KX G.T.g G.T.b G.T.builtins G.T.nolimit hg hobj hints (Nat.le_trans hlen hn2) hr hF hb (fun H hO hS => hsp w H a ns hlen hO hS) fun H e s' => hCX w H s₁ e s'
end L2
namespace L2
open PySem PySem.Spec PyProof.Rows
def inClass (s : Stmt) (j : Nat) : Stmt := match s with
 | .ClassDef _ _ _ body _ _ _ _ _ _ _ => body.getD j (.Pass ⟨0, 0, 0, 0⟩)
 | _ => .Pass ⟨0, 0, 0, 0⟩
def defArgs (s : Stmt) : Arguments := match s with
 | .FunctionDef _ a _ _ _ _ _ _ _ _ => a
 | _ => { posonlyargs := [], args := [], vararg := none, kwonlyargs := [], kw_defaults := [], kwarg := none, defaults := [] }
def defBody (s : Stmt) : List Stmt := match s with
 | .FunctionDef _ _ b _ _ _ _ _ _ _ => b
 | _ => []
def defScope (s : Stmt) : Scope := match s with
 | .FunctionDef _ _ _ _ _ _ sc _ _ _ => sc
 | _ => { kind := .function, names := [], isGenerator := false, isCoroutine := false }
abbrev CX0 : CXT := fun _ _ _ _ _ _ => False
abbrev E0 : XK := fun _ _ _ => False
theorem pass0 {X : Cx} : Passes CX0 X E0 := fun _ _ _ _ _ _ _ h => h.elim
structure Fun (K : PySem.W.Frag) (x qual : Str) (st : Stmt) (f : Addr) (fd : FuncData) : Prop where
 ex : ∃ (oc : Value) (od : Option Addr) (kV doc pm : Value) (an : Option Addr) (cdv ct : Value) (osl : Array (Option Value)),
  fd = PySem.W.fnOf x qual (defArgs st) (defBody st) (defScope st) .none kV doc pm an cdv ct ∧ K.lookup f = some ⟨oc, od, .func fd, osl⟩ ∧ PySem.W.codeIn K cdv qual = true
 kp : PySem.W.keepIn K (.ref f) = true
section
variable {P : Program} {w : World} {K : PySem.W.Frag} {mg : Str → Option Value} {base : Heap}
theorem Fun.ok {x qual : Str} {st : Stmt} {f : Addr} {fd : FuncData} {N ps : List Str} {k : Nat} {sp : Sp} (F : Fun K x qual st f fd) (S : FnScope N ps (defScope st)) (len : ∀ vs H Q E, sp vs H Q E → vs.length = ps.length)
  (hbody : ∀ (cdv : Value) (A : Around) (outer : List Env) (s : Shared) (H : Hp) (vs : List V) (Q : VK) (E : XK), Room k (A.deeper (envOfC qual (defScope st) s.heap.objs.size f cdv)) → sp vs H Q E →
   ∃ t, PSs (cxOf CX0 P w K mg base N qual (defScope st) f cdv A outer s H E).nox (defBody st) t ∧ t { nx := fun _ H' => Q .non H', rt := Q } (start N vs) H) : FnOk P w K mg base CX0 (k + 1) f fd ps sp := by
 obtain ⟨oc, od, kV, doc, pm, an, cdv, ct, osl, rfl, lk, hcd⟩ := F.ex
 refine fn_of lk hcd S len fun A outer s H vs Q E hr hsp => ?_
 obtain ⟨t, h, q⟩ := hbody cdv A outer s H vs Q E hr hsp
 exact ⟨t, h.nox, q⟩
theorem Fun.binds {x qual : Str} {st : Stmt} {f : Addr} {fd : FuncData} {ps : List Str} (F : Fun K x qual st f fd)
  (h : ∀ (kV doc pm : Value) (an : Option Addr) (cdv ct : Value) (us : List Value), us.length = ps.length → bindArgs (PySem.W.fnOf x qual (defArgs st) (defBody st) (defScope st) .none kV doc pm an cdv ct) ⟨us, []⟩ = pure (ps.zip us)) : Binds K fd ps [] := by
 obtain ⟨oc, od, kV, doc, pm, an, cdv, ct, osl, rfl, lk, hcd⟩ := F.ex
 exact .all (h kV doc pm an cdv ct)
theorem fun_mk {x qual : Str} {st : Stmt} {f : Addr} {oc : Value} {od an : Option Addr} {osl : Array (Option Value)} {kV doc pm cdv ct : Value} (l : K.lookup f = some ⟨oc, od, .func (PySem.W.fnOf x qual (defArgs st) (defBody st) (defScope st) .none kV doc pm an cdv ct), osl⟩)
  (c : PySem.W.codeIn K cdv qual = true) (k : PySem.W.keepIn K (.ref f) = true) : Fun K x qual st f (PySem.W.fnOf x qual (defArgs st) (defBody st) (defScope st) .none kV doc pm an cdv ct) := ⟨⟨oc, od, kV, doc, pm, an, cdv, ct, osl, rfl, l, c⟩, k⟩
end
theorem hu_of {A : Around} {k : Nat} (hr : Room k A) : A.units + 1 < cLine := Nat.lt_of_le_of_lt (Nat.add_le_add_left (by decide : 1 ≤ 64) _) hr.units
theorem small1000 {n : Nat} (h : n ≤ 1000) : n < sizeLine := Nat.lt_of_le_of_lt h (by decide)
section
variable {X : Cx}
theorem pv (i : Nat) {x : Str} {pos : Pos} (hN : X.N[i]? = some x := by rfl) (hv : Vis X.env.scope x := by first | exact Or.inl rfl | exact Or.inr (Or.inl rfl) | exact Or.inr (Or.inr rfl)) (hd : (x == ("__debug__" : Str)) = false := by decide)
  (hcd : (x == ("__classdict__" : Str)) = false := by decide) : PE X (.Name x pos) (tVar i) := pe_var hN hv hd hcd
theorem call_lenD : CallR X (.builtin "len") (fun xs H Q => ∃ a kvs, xs = [V.ref a] ∧ H a = some (.dK kvs) ∧ Q (.int kvs.length) H) := by
 intro pins s σ H xs us Q I r h
 obtain ⟨a, kvs, rfl, ha, q⟩ := h
 obtain ⟨u, rfl, ru⟩ := vals1 r
 cases ru
 exact d_len I (.inl ha) fun t s' I' => ⟨.int kvs.length, H, I', ⟨t, rfl⟩, q⟩
end
theorem iteF {A B : Prop} (h : B) : if false = true then A else B := by
 rw [if_neg Bool.false_ne_true]
 exact h
theorem iteT {A B : Prop} (h : A) : if true = true then A else B := by
 rw [if_pos rfl]
 exact h
theorem ite2 {c A B : Prop} [Decidable c] (h1 : c → A) (h2 : ¬ c → B) : if c then A else B := by
 by_cases h : c
 ·rw [if_pos h]
  exact h1 h
 ·rw [if_neg h]
  exact h2 h
def Same (H H' : Hp) : Prop := ∀ b o, H b = some o → H' b = some o
theorem Same.refl (H : Hp) : Same H H := fun _ _ h => h
theorem Same.trans {H H1 H2 : Hp} (a : Same H H1) (b : Same H1 H2) : Same H H2 := fun c o h => b c o (a c o h)
theorem Same.free {H H' : Hp} (e : Same H H') {l : Addr} (h : H' l = Option.none) : H l = Option.none := by
 cases q : H l with
 | none => rfl
 | some o =>
  rw [e l o q] at h
  cases h
theorem Same.seq {K : PySem.W.Frag} {H H' : Hp} {a : Addr} {xs : List V} (e : Same H H') (h : SqL K H a xs) : SqL K H' a xs := by
 rcases h with (h | ⟨o, h⟩) | h
 ·exact .inl (.inl (e _ _ h))
 ·exact .inl (.inr ⟨o, e _ _ h⟩)
 ·exact .inr h
section
variable {κ : Type} [DecidableEq κ]
theorem valV_not {kvs : List (κ × V)} {k : κ} (h : valV kvs k = none) : ¬ k ∈ kvs.map (·.1) := by
 intro m
 obtain ⟨p, hp, e⟩ := List.mem_map.mp m
 have q : (kvs.any fun kv => decide (kv.1 = k)) = true := List.any_eq_true.mpr ⟨p, hp, decide_eq_true e⟩
 rw [valV_any, h] at q
 exact absurd q (by simp)
theorem valV_in {kvs : List (κ × V)} {k : κ} {v : V} (h : valV kvs k = some v) : k ∈ kvs.map (·.1) := by
 have q : (kvs.any fun kv => decide (kv.1 = k)) = true := by
  rw [valV_any, h]
  all_goals rfl
 obtain ⟨p, hp, e⟩ := List.any_eq_true.mp q
 exact List.mem_map.mpr ⟨p, hp, of_decide_eq_true e⟩
theorem nd_snoc : ∀ {l : List κ} {k : κ}, l.Nodup → ¬ k ∈ l → (l ++ [k]).Nodup
 | [], k, _, _ => by simp
 | a :: r, k, h, hk => by
  obtain ⟨h1, h2⟩ := List.nodup_cons.mp h
  show (a :: (r ++ [k])).Nodup
  refine List.nodup_cons.mpr ⟨fun m => ?_, nd_snoc h2 fun m => hk (List.mem_cons.mpr (Or.inr m))⟩
  rcases List.mem_append.mp m with q | q
  ·exact h1 q
  ·exact hk (List.mem_cons.mpr (Or.inl (List.mem_singleton.mp q).symm))
end
end L2
set_option maxHeartbeats 4000000
namespace L2
open PySem PySem.Spec PyProof.Rows
section
variable {prog : Program} {w : World} {A : Around} {R : Result → Shared → Prop} {s : Shared}
theorem compLoop_go {elt target iter : Expr} {ifs : List Expr} {scope : Scope} {pos : Pos} {it acc : Value} {env : Env} (I : Nat → Shared → Prop)
  (turn : ∀ n s, I n s → wpAny (model prog w) A (pyNext it) (fun r s₁ => match r with
   | none => R (.ok .next) s₁
   | some v => wpAny (model prog w) A (letOwnedTupleGo target it v) (fun _ s₀ => wpAny (model prog w) A (assign target env v) (fun _ s₂ =>
     wpAny (model prog w) A (forIn ifs true fun c r => if r = true then do let ok ← isTrue c env (eval c env); pure (ForInStep.yield ok) else pure (ForInStep.yield r)) (fun ok s₃ =>
      if ok = true then wpAny (model prog w) A (eval elt env) (fun x s₄ =>
       wpAny (model prog w) A (call (.builtin "list.append") [acc, x]) (fun _ s₅ => ∃ m, m < n ∧ I m s₅) (fun _ _ => False) s₄) (fun _ _ => False) s₃
      else ∃ m, m < n ∧ I m s₃) (fun _ _ => False) s₂) (fun _ _ => False) s₀) (fun _ _ => False) s₁) (fun _ _ => False) s)
  (n : Nat) (h : I n s) :
  codeAny (model prog w) A (.compLoop (.ListComp elt [⟨target, iter, ifs, 0⟩] scope pos) 0 it acc env) R s := by
 refine codeAny_loop rfl I (fun n s hI => ?_) n h
 show wpAny _ A ((compTurn (.ListComp elt [⟨target, iter, ifs, 0⟩] scope pos) 0 it acc env).onRaise (fun x => do noteFrame x env; theTreesLotGoes x)) _ _ s
 refine wpAny_noted ?_
 rw [compTurn_list]
 refine wpAny_bind (wpAny_standAt (wpAny_bind (wpAny_mono (turn n s hI) (fun r s₁ h₁ => ?_) fun _ _ h' => h'.elim)))
 cases r with
 | none => exact wpAny_pure h₁
 | some v =>
  refine wpAny_bind (wpAny_mono h₁ (fun _ s₀ h₀ => ?_) fun _ _ h' => h'.elim)
  refine wpAny_bind (wpAny_mono h₀ (fun _ s₂ h₂ => wpAny_bind (wpAny_mono h₂ (fun ok s₃ h₃ => ?_) fun _ _ h' => h'.elim)) fun _ _ h' => h'.elim)
  cases ok with
  | false => exact wpAny_pure ⟨rfl, h₃⟩
  | true =>
   exact wpAny_bind (wpAny_bind (wpAny_mono h₃ (fun x s₄ h₄ => wpAny_bind (wpAny_mono h₄ (fun _ s₅ h₅ => wpAny_pure (wpAny_pure ⟨rfl, h₅⟩)) fun _ _ h' => h'.elim)) fun _ _ h' => h'.elim))
end
theorem closure_ok {scope : Scope} {env : Env} (hf : ∀ y ∈ scope.names, y.2 = .free → ∃ c, env.cells.lookup y.1 = some c) :
  ∃ cl, closureFor scope env = pure cl ∧ (∀ x c, cl.lookup x = some c → env.cells.lookup x = some c) ∧ (∀ y ∈ scope.names, y.2 = .free → ∃ c, cl.lookup y.1 = some c) := by
 have key : ∀ (l : List (Str × NameKind)) (acc : List (Str × Addr)), (∀ y ∈ l, y.2 = .free → ∃ c, env.cells.lookup y.1 = some c) → (∀ x c, acc.lookup x = some c → env.cells.lookup x = some c) →
   ∃ cl, (forIn (m := Sem) l acc (fun (y : Str × NameKind) cs => if (y.2 == .free) = true then do let c ← cellOf env y.1; pure (ForInStep.yield ((y.1, c) :: cs)) else pure (ForInStep.yield cs))) = pure cl ∧
    (∀ x c, cl.lookup x = some c → env.cells.lookup x = some c) ∧ (∀ x, (∃ c, acc.lookup x = some c) → ∃ c, cl.lookup x = some c) ∧ (∀ y ∈ l, y.2 = .free → ∃ c, cl.lookup y.1 = some c) := by
  intro l
  induction l with
  | nil => intro acc _ ha; exact ⟨acc, rfl, ha, fun _ h => h, fun _ h => nomatch h⟩
  | cons p r ih =>
   intro acc hl ha
   obtain ⟨n, k⟩ := p
   by_cases hk : k = .free
   ·subst hk
    obtain ⟨c, hc⟩ := hl (n, .free) List.mem_cons_self rfl
    have ha' : ∀ x d, ((n, c) :: acc).lookup x = some d → env.cells.lookup x = some d := fun x d e => by
     rw [List.lookup_cons] at e
     cases hx : x == n with
     | true =>
      rw [hx] at e
      rw [eq_of_beq hx, hc]
      exact e
     | false =>
      rw [hx] at e
      exact ha x d e
    obtain ⟨cl, e1, e2, e3, e4⟩ := ih ((n, c) :: acc) (fun y hy => hl y (List.mem_cons_of_mem _ hy)) ha'
    refine ⟨cl, ?_, e2, fun x ⟨d, e⟩ => e3 x ?_, fun y hy hf => ?_⟩
    ·rw [List.forIn_cons]
     simp only [beq_self_eq_true, if_true, cellOf, hc, pure_bind]
     exact e1
    ·rw [List.lookup_cons]
     cases hx : x == n with
     | true => exact ⟨c, rfl⟩
     | false => exact ⟨d, e⟩
    ·rcases List.mem_cons.mp hy with rfl | hy
     ·exact e3 _ ⟨c, by simp⟩
     ·exact e4 y hy hf
   ·have hb : (k == NameKind.free) = false := by simpa using hk
    obtain ⟨cl, e1, e2, e3, e4⟩ := ih acc (fun y hy => hl y (List.mem_cons_of_mem _ hy)) ha
    refine ⟨cl, ?_, e2, e3, fun y hy hf => ?_⟩
    ·rw [List.forIn_cons]
     simp only [hb, Bool.false_eq_true, if_false, pure_bind]
     exact e1
    ·rcases List.mem_cons.mp hy with rfl | hy
     ·exact absurd hf hk
     ·exact e4 y hy hf
 obtain ⟨cl, e1, e2, _, e4⟩ := key scope.names [] hf (fun _ _ h => by simp at h)
 refine ⟨cl, ?_, e2, e4⟩
 unfold closureFor
 show (forIn scope.names [] _ >>= fun r => pure r) = pure cl
 rw [bind_pure]
 exact e1
theorem relabel_kind {scope : Scope} {env : Env} {x : Str} : ∀ {names : List (Str × NameKind)},
    ((names.map fun (n, k) => if (k == NameKind.free && env.scope.kind == .function && env.kindOf n == some .cell) then (n, NameKind.cell) else (n, k)).lookup x = some .cell ∨
     (names.map fun (n, k) => if (k == NameKind.free && env.scope.kind == .function && env.kindOf n == some .cell) then (n, NameKind.cell) else (n, k)).lookup x = some .free) →
    (∃ y ∈ names, y.1 = x ∧ (y.2 = .free ∨ y.2 = .cell))
  | [], h => by rcases h with h | h <;> simp at h
  | (n, k) :: r, h => by
    by_cases hx : x = n
    · subst hx
      refine ⟨(x, k), List.mem_cons_self, rfl, ?_⟩
      by_cases hc : (k == NameKind.free && env.scope.kind == .function && env.kindOf x == some .cell) = true
      · have := (Bool.and_eq_true_iff.mp (Bool.and_eq_true_iff.mp hc).1).1
        exact .inl (by simpa using this)
      · simp only [List.map_cons, hc, Bool.false_eq_true, if_false, List.lookup_cons, beq_self_eq_true] at h
        rcases h with h | h
        · exact .inr (Option.some.inj h)
        · exact .inl (Option.some.inj h)
    · have hb : (x == n) = false := by simpa using hx
      have h' : ((r.map fun (n, k) => if (k == NameKind.free && env.scope.kind == .function && env.kindOf n == some .cell) then (n, NameKind.cell) else (n, k)).lookup x = some .cell ∨
        (r.map fun (n, k) => if (k == NameKind.free && env.scope.kind == .function && env.kindOf n == some .cell) then (n, NameKind.cell) else (n, k)).lookup x = some .free) := by
        rw [List.map_cons] at h
        by_cases hc : (k == NameKind.free && env.scope.kind == .function && env.kindOf n == some .cell) = true
        · simp only [hc, if_true, List.lookup_cons, hb] at h; exact h
        · simp only [hc, Bool.false_eq_true, if_false, List.lookup_cons, hb] at h; exact h
      obtain ⟨y, hy, e⟩ := relabel_kind (scope := scope) h'
      exact ⟨y, List.mem_cons_of_mem _ hy, e⟩
def capOf (σ : St) (js : List Nat) : St := js.map fun j => (σ[j]?).getD none
def cxComp (X : Cx) (N : List Str) (scope : Scope) (cl : List (Str × Addr)) (s : Shared) (H : Hp) (ex : List Addr) : Cx :=
 { X with N := N, s₀ := s, H₀ := H, env := compEnvC scope cl s.heap.objs.size X.env, outer := X.stack, stack := X.stack, ex := ex, fn := fun _ => false, pn := [], xe := fun _ _ => False }
def PTs (X : Cx) (ifs : List Expr) (t : TT) : Prop :=
 ∀ (pins : List (Addr × Obj)) (s : Shared) (σ : St) (H : Hp) (Q : Bool → Hp → Prop), Inv X pins σ H s → t σ H Q →
  wpAny (model X.prog X.w) X.A (forIn ifs true fun c r => if r = true then do let ok ← isTrue c X.env (eval c X.env); pure (ForInStep.yield ok) else pure (ForInStep.yield r)) (TP X pins σ Q) X.xe s
def tNoTest : TT := fun _ H Q => Q true H
theorem pts_nil {X : Cx} : PTs X [] tNoTest := fun _ _ _ H _ I h => wpAny_pure ⟨H, I, h⟩
theorem pts_one {X : Cx} {c : Expr} {t : TT} (h : PT X c t) : PTs X [c] t := fun pins s σ H Q I q => wpAny_tests_one (h pins s σ H Q I q)
def compOk (N₀ : List Str) (sc₀ scope : Scope) (N : List Str) (xs : Nat) (js : List Nat) : Bool :=
 scope.kind == .function && (scope.names.all fun y => y.2 != .cell) && (scope.names.all fun y => y.2 != .local || scope.names.lookup y.1 == some .local) &&
 (scope.names.all fun y => y.2 != .free || (sc₀.names.lookup y.1 == some .cell || sc₀.names.lookup y.1 == some .free)) && N.length == xs + js.length &&
 (List.range js.length).all fun i => match js[i]?, N[xs + i]? with
  | some j, some x => N₀[j]? == some x && scope.names.lookup x == some .free
  | _, _ => false
structure CompScope (X : Cx) (scope : Scope) (N : List Str) (xs : Nat) (js : List Nat) : Prop where
 kind : scope.kind = .function
 nocell : ∀ y ∈ scope.names, y.2 ≠ .cell
 once : ∀ y ∈ scope.names, y.2 = .local → scope.names.lookup y.1 = some .local
 caught : ∀ y ∈ scope.names, y.2 = .free → X.env.kindOf y.1 = some .cell ∨ X.env.kindOf y.1 = some .free
 len : N.length = xs + js.length
 at_ : ∀ (i j : Nat) (x : Str), js[i]? = some j → N[xs + i]? = some x → X.N[j]? = some x ∧ scope.names.lookup x = some .free
theorem compScope_of {X : Cx} {scope : Scope} {N : List Str} {xs : Nat} {js : List Nat} (h : compOk X.N X.env.scope scope N xs js = true) : CompScope X scope N xs js := by
 unfold compOk at h
 simp only [Bool.and_eq_true] at h
 obtain ⟨⟨⟨⟨⟨h1, h2⟩, h3⟩, h4⟩, h5⟩, h6⟩ := h
 refine ⟨by simpa using h1, fun y hy => ?_, fun y hy e => ?_, fun y hy e => ?_, by simpa using h5, fun i j x e1 e2 => ?_⟩
 ·have := List.all_eq_true.mp h2 y hy
  simpa using this
 ·have := List.all_eq_true.mp h3 y hy
  rw [e] at this
  simpa using this
 ·have := List.all_eq_true.mp h4 y hy
  rw [e] at this
  simpa [Env.kindOf] using this
 ·have hi : i < js.length := (List.getElem?_eq_some_iff.mp e1).1
  have := List.all_eq_true.mp h6 i (List.mem_range.mpr hi)
  rw [e1, e2] at this
  simpa using this
theorem lookup_mem {α : Type} {x : Str} {k : α} : ∀ {l : List (Str × α)}, l.lookup x = some k → (x, k) ∈ l
 | [], h => by simp at h
 | (n, j) :: r, h => by
  rw [List.lookup_cons] at h
  cases hx : x == n with
  | true =>
   rw [hx] at h
   cases h
   rw [eq_of_beq hx]
   exact List.mem_cons_self
  | false =>
   rw [hx] at h
   exact List.mem_cons_of_mem _ (lookup_mem h)
theorem relabel_free {env : Env} {x : Str} : ∀ {names : List (Str × NameKind)}, names.lookup x = some .free →
    ((names.map fun (n, k) => if (k == NameKind.free && env.scope.kind == .function && env.kindOf n == some .cell) then (n, NameKind.cell) else (n, k)).lookup x = some .cell ∨
     (names.map fun (n, k) => if (k == NameKind.free && env.scope.kind == .function && env.kindOf n == some .cell) then (n, NameKind.cell) else (n, k)).lookup x = some .free)
  | [], h => by simp at h
  | (n, k) :: r, h => by
    rw [List.map_cons]
    cases hx : x == n with
    | true =>
      rw [List.lookup_cons, hx] at h
      cases h
      by_cases hc : (NameKind.free == NameKind.free && env.scope.kind == .function && env.kindOf n == some .cell) = true
      · left; simp only [hc, if_true, List.lookup_cons, hx]
      · right; simp only [hc, Bool.false_eq_true, if_false, List.lookup_cons, hx]
    | false =>
      rw [List.lookup_cons, hx] at h
      have ih := relabel_free (env := env) h
      by_cases hc : (k == NameKind.free && env.scope.kind == .function && env.kindOf n == some .cell) = true
      · simp only [hc, if_true, List.lookup_cons, hx]; exact ih
      · simp only [hc, Bool.false_eq_true, if_false, List.lookup_cons, hx]; exact ih
section
variable {X : Cx} {pins : List (Addr × Obj)} {σ : St} {H : Hp} {s : Shared} {scope : Scope} {N : List Str} {xs : Nat} {js : List Nat} {cl : List (Str × Addr)} {fp : List Addr} {o : Obj}
theorem Inv.nostk (I : Inv X pins σ H s) {a : Addr} (h : s.heap.objs.size ≤ a) : a ∉ frs X.stack := fun hb => by
 rcases List.mem_cons.mp (I.stkSub a hb) with e | hb
 ·exact absurd (Nat.lt_of_lt_of_le I.lt h) (by rw [e]; exact Nat.lt_irrefl _)
 ·exact I.nofs h hb
theorem comp_ok (I : Inv X pins σ H s) (S : CompScope X scope N xs js) (h2 : ∀ x c, cl.lookup x = some c → X.env.cells.lookup x = some c) (h4 : ∀ y ∈ scope.names, y.2 = .free → ∃ c, cl.lookup y.1 = some c)
  (hf : ∀ b ∈ fp, FpOk X pins H b) (hfo : ∀ b ∈ fp, ∃ u, s.heap.get? b = some u) :
  (cxComp X N scope cl { s with heap := s.heap.push o } H (s.heap.objs.size :: fp)).Ok := by
 have I3 : Inv X pins σ H { s with heap := s.heap.push o } := I.kept (t' := s.toks) fun b u e => Heap.get?_push_of_some _ e
 have hsz : (s.heap.push o).objs.size = s.heap.objs.size + 1 := Heap.size_push ..
 have hcl : ∀ x c, cl.lookup x = some c → c < s.heap.objs.size := fun x c e => by
  obtain ⟨v, u, hu, _⟩ := I.cell x c (h2 x c e)
  exact Heap.lt_size hu
 refine ⟨I.ok.mod, S.kind, I.ok.glob, I.ok.blt, Nat.le_refl _, fun x y c e1 e2 => I.ok.inj x y c (h2 x c e1) (h2 y c e2), fun x hx => ?_, fun x c e _ => absurd e (by simp [cxComp]), I.ok.hd, I.ok.frames, .inl rfl, fun b hb => ?_, I3.bs, Nat.le_trans I3.ok.bsz I3.sz,
  fun b u e hb => ?_, fun b hb => ?_, I3.stack, I3.stkFree⟩
 ·obtain ⟨y, hy, rfl, hk⟩ := relabel_kind (scope := scope) (env := X.env) (x := x) (names := scope.names) hx
  rcases hk with hk | hk
  ·exact h4 y hy hk
  ·exact absurd hk (S.nocell y hy)
 ·show b ≠ (s.heap.push o).objs.size ∧ _
  rcases List.mem_cons.mp hb with rfl | hb
  ·exact ⟨by rw [hsz]; exact Nat.ne_of_lt (Nat.lt_succ_self _), fun x c e => Nat.ne_of_lt (hcl x c e)⟩
  ·obtain ⟨u, hu⟩ := hfo b hb
   have := Heap.lt_size hu
   exact ⟨by rw [hsz]; exact Nat.ne_of_lt (Nat.lt_succ_of_lt this), fun x c e => (hf b hb).2.2.2.2.1 x c (h2 x c e)⟩
 ·rcases List.mem_cons.mp hb with rfl | hb
  ·exact absurd (Heap.lt_size (I.bk _ u e)) (Nat.lt_irrefl _)
  ·rcases (hf b hb).2.2.2.1 with z | z
   ·exact I.ok.noex b u e z
   ·exact absurd (Nat.lt_of_lt_of_le (Heap.lt_size e) (Nat.le_trans I.ok.bsz z)) (Nat.lt_irrefl _)
 ·rcases List.mem_cons.mp hb with rfl | hb
  ·exact I.nostk (Nat.le_refl _)
  ·intro z
   rcases List.mem_cons.mp (I.stkSub b z) with e | e
   ·exact (hf b hb).2.1 e
   ·exact (hf b hb).2.2.1 e
theorem getElem_capOf {i : Nat} {v : V} (h : (List.replicate xs none ++ capOf σ js)[i]? = some (some v)) : ∃ k j, i = xs + k ∧ js[k]? = some j ∧ σ[j]? = some (some v) := by
 by_cases hi : i < xs
 ·rw [List.getElem?_append_left (by simpa using hi)] at h
  rw [List.getElem?_replicate] at h
  split at h <;> cases h
 ·rw [List.getElem?_append_right (by simpa using Nat.le_of_not_lt hi)] at h
  rw [List.length_replicate] at h
  unfold capOf at h
  rw [List.getElem?_map] at h
  cases e : js[i - xs]? with
  | none => rw [e] at h; cases h
  | some j =>
   rw [e] at h
   refine ⟨i - xs, j, by omega, e, ?_⟩
   have h' : (σ[j]?).getD none = some v := Option.some.inj h
   cases q : σ[j]? with
   | none => rw [q] at h'; cases h'
   | some w =>
    rw [q] at h'
    exact congrArg some h'
theorem comp_inv {h₁ : Heap} {tk : Nat} (I : Inv X pins σ H s) (S : CompScope X scope N xs js) (h2 : ∀ x c, cl.lookup x = some c → X.env.cells.lookup x = some c) (h4 : ∀ y ∈ scope.names, y.2 = .free → ∃ c, cl.lookup y.1 = some c)
  (hf : ∀ b ∈ fp, FpOk X pins H b) (hfo : ∀ b ∈ fp, ∃ u, s.heap.get? b = some u) (hd : ∀ v, o.data ≠ .cell v) (ho : o.isFreed = false) {m : Str → Option Value}
  (hns : h₁.Ns (s.heap.push o).objs.size m) (k3 : ∀ b u, (s.heap.push o).get? b = some u → h₁.get? b = some u) :
  Inv (cxComp X N scope cl { s with heap := s.heap.push o } H (s.heap.objs.size :: fp)) [(s.heap.objs.size, o)] (List.replicate xs none ++ capOf σ js) H { s with heap := h₁, toks := tk } := by
 have hsz : (s.heap.push o).objs.size = s.heap.objs.size + 1 := Heap.size_push ..
 have k2 : ∀ b u, s.heap.get? b = some u → h₁.get? b = some u := fun b u e => k3 b u (Heap.get?_push_of_some _ e)
 refine ⟨comp_ok I S h2 h4 hf hfo, rfl, I.bare, Un.kept k3, ⟨m, hns, fun i x v e1 e2 e3 => ?_⟩, fun x c e => ?_, I.hok.fresh (show s.heap.objs.size ≤ (s.heap.push o).objs.size by rw [hsz]; exact Nat.le_succ _), fun x c e => I.freeC x c (h2 x c e), fun p hp => ?_, I.hok.kept k2, ?_⟩
 ·obtain ⟨k, j, rfl, hj, hσ⟩ := getElem_capOf e2
  obtain ⟨hN, hl⟩ := S.at_ k j x hj e1
  have hmem := lookup_mem hl
  have hk := S.caught _ hmem rfl
  obtain ⟨m', _, hloc⟩ := I.loc
  obtain ⟨u, r, l⟩ := hloc j x v hN hσ (by rcases hk with z | z; exact .inr (.inl z); exact .inr (.inr z))
  refine ⟨u, r, ?_⟩
  rcases l with ⟨z, _⟩ | ⟨_, c, ec, oc, hoc, hdc⟩
  ·rcases hk with q | q <;> rw [q] at z <;> cases z
  ·obtain ⟨c', ec'⟩ := h4 _ hmem rfl
   have := h2 _ _ ec'
   have e : c = c' := Option.some.inj (ec.symm.trans this)
   subst e
   exact .inr ⟨relabel_free (env := X.env) hl, c, ec', oc, k2 _ _ hoc, hdc⟩
 ·obtain ⟨v, oc, hoc, hdc⟩ := I.cell x c (h2 x c e)
  exact ⟨v, oc, k2 _ _ hoc, hdc⟩
 ·have e : p = (s.heap.objs.size, o) := by simpa [cxComp] using hp
  subst e
  exact ⟨k3 _ _ (Heap.get?_push_size _ ho), I.hok.fresh (Nat.le_refl _), (show s.heap.objs.size ≠ (s.heap.push o).objs.size by rw [hsz]; exact Nat.ne_of_lt (Nat.lt_succ_self _)), I.nostk (Nat.le_refl _), hd⟩
 ·rw [List.length_append, List.length_replicate]
  unfold capOf
  rw [List.length_map]
  exact S.len.symm
theorem comp_back {s' : Shared} {H' : Hp} {σ' : St} {its : List Value} {n : Nat} {acc : List V} (I : Inv X pins σ H s) (hf : ∀ b ∈ fp, FpOk X pins H b)
  (J : Inv (cxComp X N scope cl { s with heap := s.heap.push o } H (s.heap.objs.size :: fp)) [(s.heap.objs.size, ({ cls := .type "list", data := .seq its.toArray n } : Obj))] σ' H' s')
  (rv : Vals acc its) (hz : acc.length ≤ sizeLine) :
  Inv X pins σ (upd H' s.heap.objs.size (.lst acc)) s' ∧ FpOk X pins (upd H' s.heap.objs.size (.lst acc)) (s.heap.push o).objs.size ∧ H' s.heap.objs.size = none := by
 have hsz : (s.heap.push o).objs.size = s.heap.objs.size + 1 := Heap.size_push ..
 obtain ⟨hD, hn, _, _, _⟩ := J.pin (s.heap.objs.size, ({ cls := .type "list", data := .seq its.toArray n } : Obj)) (by simp [cxComp])
 have nd : ∀ b u, H' b = some u → b ≠ s.heap.objs.size := fun b u e => ne_of_none e hn
 have lt : ∀ b u, s.heap.get? b = some u → b ∉ fp → b ∉ s.heap.objs.size :: fp := fun b u e hb z => by
  rcases List.mem_cons.mp z with z | z
  ·exact absurd (Heap.lt_size e) (by rw [z]; exact Nat.lt_irrefl _)
  ·exact hb z
 have ps : ∀ b u, s.heap.get? b = some u → (s.heap.push o).get? b = some u := fun b u e => Heap.get?_push_of_some _ e
 refine ⟨I.call' (ch := fp) J.os ⟨fun b u e q hb hx => J.base.keep b u (ps b u e) q hb (lt b u e hx), fun b u e q hb hx => J.base.slot b u (ps b u e) q hb (lt b u e hx), fun b u e q hx => ?_, fun b u e hx => J.base.there b u (ps b u e) (lt b u e hx),
  fun b ys e => ?_, fun b u ys e => ?_, fun b ys e => ?_⟩ (fun b u e => ?_) J.bare (fun b hb => ?_), ?_, hn⟩
 ·rw [upd_ne (Nat.ne_of_lt (Heap.lt_size e))]
  exact J.base.free b u (ps b u e) q (lt b u e hx)
 ·have z := J.base.tups b ys e
  rw [upd_ne (nd _ _ z)]; exact z
 ·have z := J.base.frzs b u ys e
  rw [upd_ne (nd _ _ z)]; exact z
 ·obtain ⟨more, z⟩ := J.base.tbls b ys e
  exact ⟨more, by rw [upd_ne (nd _ _ z)]; exact z⟩
 ·by_cases hb : b = s.heap.objs.size
  ·subst hb
   rw [upd_same] at e
   cases e
   exact ⟨hz, its, n, rv, hD⟩
  ·rw [upd_ne hb] at e
   exact (J.hok b u e).stay (fun c v _ q => q) (fun c q => by rw [upd_ne (nd _ _ q)]; exact q) fun c ys q => by rw [upd_ne (nd _ _ q)]; exact q
 ·obtain ⟨_, f1, _, f3, f4, f5⟩ := hf b hb
  exact ⟨f3, f1, f4, f5⟩
 ·have I3 : Inv X pins σ H { s with heap := s.heap.push o } := I.kept (t' := s.toks) fun b u e => Heap.get?_push_of_some _ e
  refine I3.fpOk (Nat.le_refl _) ?_
  rw [upd_ne (show (s.heap.push o).objs.size ≠ s.heap.objs.size by rw [hsz]; exact Nat.succ_ne_self _)]
  exact J.free
end
def CompGoal (xs : Nat) (js : List Nat) (g : TG) (tt : TT) (te : TE) (σ : St) (Q : VK) (J : It) (H1 : Hp) : Prop :=
 ∃ W : Nat → Nat → List V → St → Hp → Prop, (∃ m, W 0 m [] (List.replicate xs none ++ capOf σ js) H1) ∧ ∀ i m acc σ' H, W i m acc σ' H →
  (J.stop i H ∧ ∀ p, H p = none → Q (.ref p) (upd H p (.lst acc))) ∨
  (J.go i H ∧ acc.length < sizeLine ∧ ∃ N : List V → St → Hp → Prop, (∀ acc' σ' H', N acc' σ' H' → ∃ m', m' < m ∧ W (i + 1) m' acc' σ' H') ∧ ∀ x H', J.yld i H x H' → g x σ' H' fun σ2 H2 => tt σ2 H2 fun b H3 =>
   if b = true then te σ2 H3 fun y H4 => N (acc ++ [y]) σ2 H4 else N acc σ2 H3)
def tComp (xs : Nat) (js : List Nat) (ti : TI) (g : TG) (tt : TT) (te : TE) : TE := fun σ H Q => ti σ H fun J H1 => CompGoal xs js g tt te σ Q J H1
section
variable {X : Cx} {scope : Scope} {N : List Str} {xs : Nat} {js : List Nat} {tg iter elt : Expr} {ifs : List Expr} {pos : Pos} {ti : TI} {g : TG} {tt : TT} {te : TE}
theorem comp_block {pins : List (Addr × Obj)} {s : Shared} {σ : St} {H : Hp} {Q : VK} {RR : Value → Addr → Result → Shared → Prop} {E : Value → Shared → Prop} {it : Addr} {fp : List Addr} {tn : Nat → Heap → Prop} {J : It} {cl : List (Str × Addr)}
  (hc : X.calm = true) (S : CompScope X scope N xs js) (hg : ∀ cl s H ex, PG (cxComp X N scope cl s H ex) tg g) (ht : ∀ cl s H ex, PTs (cxComp X N scope cl s H ex) ifs tt) (he : ∀ cl s H ex, PE (cxComp X N scope cl s H ex) elt te)
  (h2 : ∀ x c, cl.lookup x = some c → X.env.cells.lookup x = some c) (h4 : ∀ y ∈ scope.names, y.2 = .free → ∃ c, cl.lookup y.1 = some c)
  (I : Inv X pins σ H s) (T : Turn X.prog X.w X.K tg J fp it tn) (st : tn 0 s.heap) (hf : ∀ b ∈ fp, FpOk X pins H b)
  (hW : CompGoal xs js g tt te σ Q J H)
  (hR : ∀ (D C : Addr) (H' : Hp) (s' : Shared) (m : Str → Option Value), Inv X pins σ H' s' → s'.heap.Ns C m → FpOk X pins H' C → Q (.ref D) H' → RR (.ref D) C (.ok .next) s') :
  wpAny (model X.prog X.w) X.A (newList []) (fun acc s₃ => wpAny (model X.prog X.w) X.A (newFunctionEnv scope X.env.globals cl [] X.env.qual none .none (some X.env)) (fun cenv s₄ =>
   codeAny (model X.prog X.w) X.A (.compStart (.ListComp elt [⟨tg, iter, ifs, 0⟩] scope pos) 0 (.ref it) acc { cenv with scope := relabel scope X.env }) (RR acc cenv.locals) s₄) E s₃) E s := by
 refine wpAny_newObj_type (wpAny_newFunctionEnv S.nocell (by intro y hy; simp at hy) (fun h₁ hns₁ hsb₁ => ?_) S.kind)
 dsimp only at hns₁ hsb₁ ⊢
 obtain ⟨W, ⟨m0, w0⟩, turn⟩ := hW
 have hfo : ∀ b ∈ fp, ∃ u, s.heap.get? b = some u := fun b hb => let ⟨u, hu, _⟩ := T.obj _ _ st b hb; ⟨u, hu⟩
 have hsz : (s.heap.push ({ cls := .type "list", dict := none, data := .seq ([] : List Value).toArray } : Obj)).objs.size = s.heap.objs.size + 1 := Heap.size_push ..
 have k3 : ∀ b u, (s.heap.push ({ cls := .type "list", dict := none, data := .seq ([] : List Value).toArray } : Obj)).get? b = some u → h₁.get? b = some u := fun b u e =>
  (hsb₁.2 b (Nat.ne_of_lt (Heap.lt_size e))).trans (Heap.get?_push_of_some _ e)
 have B0 := comp_inv (X := X) (N := N) (xs := xs) (js := js) (tk := s.toks + ([] : List (Str × Value)).length) I S h2 h4 hf hfo (fun v z => by cases z) rfl hns₁ k3
 generalize hXc : cxComp X N scope cl { s with heap := s.heap.push ({ cls := .type "list", dict := none, data := .seq ([] : List Value).toArray } : Obj) } H (s.heap.objs.size :: fp) = Xc at B0
 have eP : Xc.prog = X.prog := by rw [← hXc]; rfl
 have eW : Xc.w = X.w := by rw [← hXc]; rfl
 have eK : Xc.K = X.K := by rw [← hXc]; rfl
 have eA : Xc.A = X.A := by rw [← hXc]; rfl
 have eC : Xc.calm = true := by rw [← hXc]; exact hc
 have eX : Xc.xe = fun _ _ => False := by rw [← hXc]; rfl
 have eE : Xc.env = compEnvC scope cl (s.heap.push ({ cls := .type "list", dict := none, data := .seq ([] : List Value).toArray } : Obj)).objs.size X.env := by rw [← hXc]; rfl
 have eF : Xc.fs = frs X.stack := by rw [← hXc]; rfl
 have eex : Xc.ex = s.heap.objs.size :: fp := by rw [← hXc]; rfl
 have hg' : PG Xc tg g := by rw [← hXc]; exact hg _ _ _ _
 have ht' : PTs Xc ifs tt := by rw [← hXc]; exact ht _ _ _ _
 have he' : PE Xc elt te := by rw [← hXc]; exact he _ _ _ _
 have ecl : ∀ x c, Xc.env.cells.lookup x = some c → X.env.cells.lookup x = some c := by rw [eE]; exact h2
 have fpk : ∀ {H' : Hp} {ob : Obj}, (∀ b ∈ fp, H' b = none) → ∀ b ∈ fp, FpOk Xc [(s.heap.objs.size, ob)] H' b := fun {H' ob} hn b hb => by
  obtain ⟨u, hu⟩ := hfo b hb
  have hlt := Heap.lt_size hu
  obtain ⟨_, f1, f2, f3, f4, f5⟩ := hf b hb
  refine ⟨hn b hb, ?_, ?_, .inl ?_, fun x c e => f4 x c (ecl x c e), fun p hp => ?_⟩
  ·rw [eE]
   show b ≠ (s.heap.push _).objs.size
   rw [hsz]; exact Nat.ne_of_lt (Nat.lt_succ_of_lt hlt)
  ·rw [eF]
   intro z
   rcases List.mem_cons.mp (I.stkSub b z) with e | e
   ·exact f1 e
   ·exact f2 e
  ·rw [eex]; exact List.mem_cons_of_mem _ hb
  ·have e : p = (s.heap.objs.size, ob) := by
    rw [← hXc] at hp
    simpa [cxComp] using hp
   subst e
   show s.heap.objs.size ≠ b
   exact Nat.ne_of_gt hlt
 have loop : ∀ s₃ : Shared, s₃ = { s with heap := h₁, toks := s.toks + ([] : List (Str × Value)).length } →
   codeAny (model X.prog X.w) X.A (.compLoop (.ListComp elt [⟨tg, iter, ifs, 0⟩] scope pos) 0 (.ref it) (.ref s.heap.objs.size) (compEnvC scope cl (s.heap.push ({ cls := .type "list", dict := none, data := .seq ([] : List Value).toArray } : Obj)).objs.size X.env))
    (RR (.ref s.heap.objs.size) (s.heap.push ({ cls := .type "list", dict := none, data := .seq ([] : List Value).toArray } : Obj)).objs.size) s₃ := by
  rintro s₃ rfl
  refine compLoop_go (fun n s' => ∃ (i : Nat) (acc : List V) (its : List Value) (c : Nat) (σ' : St) (H' : Hp), Inv Xc [(s.heap.objs.size, ({ cls := .type "list", data := .seq its.toArray c } : Obj))] σ' H' s' ∧ Vals acc its ∧ tn i s'.heap ∧
   (∀ b ∈ fp, H' b = none) ∧ acc.length ≤ sizeLine ∧ W i n acc σ' H') ?_ m0 ⟨0, [], [], 0, _, H, B0, .nil, T.keep _ _ _ st fun b _ u e => k3 b u (Heap.get?_push_of_some _ e), fun b hb => (hf b hb).1, Nat.zero_le _, w0⟩
  rintro n s3 ⟨i, acc, its, c, σ3, H3, I3, rv, st3, fr3, hz, w3⟩
  rcases turn i n acc σ3 H3 w3 with ⟨stop, qn⟩ | ⟨go, hlen, NN, hNN, step⟩
  ·have h := T.done Xc eP eW eK eC i _ s3 σ3 H3 (fun _ _ => False) I3 (fpk fr3) st3 stop
   rw [eA] at h
   refine thn h fun r s4 ⟨hr, I4⟩ => ?_
   subst hr
   rw [← hXc] at I4
   obtain ⟨a1, a2, a3⟩ := comp_back I hf I4 rv hz
   obtain ⟨mC, hmC, _⟩ := I4.loc
   exact hR _ _ _ _ mC a1 hmC a2 (qn _ a3)
  ·have h := T.item Xc eP eW eK eC i _ s3 σ3 H3 (fun _ _ => False) I3 (fpk fr3) st3 go
   rw [eA] at h
   refine thn h fun r s4 ⟨u, hr, h4⟩ => ?_
   subst hr
   refine thn h4 fun _ s5 ⟨x, H5, I5, r5, y5, st5, fr5⟩ => ?_
   have I5' := I5.pinned (fpk fr5) (T.obj _ _ st5)
   have ha := hg' _ s5 σ3 H5 x u _ I5' r5 (step x H5 y5)
   rw [eP, eW, eA, eE, eX] at ha
   refine thn ha fun _ s6 ⟨σ6, H6, I6, q6⟩ => ?_
   have hb := ht' _ s6 σ6 H6 _ I6 q6
   rw [eP, eW, eA, eE, eX] at hb
   refine thn hb fun ok s7 ⟨H7, I7, q7⟩ => ?_
   have tn' : ∀ {σ8 : St} {H8 : Hp} {s8 : Shared}, Inv Xc ([(s.heap.objs.size, ({ cls := .type "list", data := .seq its.toArray c } : Obj))] ++ pinsAt fp s5.heap) σ8 H8 s8 → tn (i + 1) s8.heap ∧ ∀ b ∈ fp, H8 b = none := fun {σ8 H8 s8} I8 => by
    refine ⟨T.keep _ _ _ st5 fun b hb o e => (I8.pin (b, o) (List.mem_append_right _ (List.mem_append_right _ (mem_pinsAt hb e)))).1, fun b hb => ?_⟩
    obtain ⟨o, e, d⟩ := T.obj _ _ st5 b hb
    exact (I8.pin (b, o) (List.mem_append_right _ (List.mem_append_right _ (mem_pinsAt hb e)))).2.1
   cases ok with
   | false =>
    obtain ⟨m', hm, w7⟩ := hNN _ _ _ q7
    obtain ⟨t1, t2⟩ := tn' I7
    exact ⟨m', hm, i + 1, acc, its, c, σ6, H7, I7.unpinned, rv, t1, t2, hz, w7⟩
   | true =>
    have hd := he' _ s7 σ6 H7 _ I7 q7
    rw [eP, eW, eA, eE, eX] at hd
    refine thn hd fun v s8 ⟨y, H8, I8, r8, q8⟩ => ?_
    obtain ⟨m', hm, w8⟩ := hNN _ _ _ q8
    obtain ⟨t1, t2⟩ := tn' I8
    have I9 := I8.unpinned
    obtain ⟨eD, nD, nC, nF, _⟩ := I9.pin (s.heap.objs.size, ({ cls := .type "list", data := .seq its.toArray c } : Obj)) (by simp)
    have hln := rv.length
    refine call_meets F.slot_list_append ⟨_, eD, rfl⟩ F.entry_list_append (F.args_list_append_2 _ _) (PySem.list_append s.heap.objs.size its.toArray c v (by rw [List.size_toArray]; omega)) ⟨eD, ?_⟩
    obtain ⟨n9, q⟩ : ∃ n9, (s8.heap.update s.heap.objs.size (Obj.mapSeq fun a => a.push v)).get? s.heap.objs.size = some ({ cls := .type "list", data := .seq (its ++ [v]).toArray n9 } : Obj) := by
     have q := PySem.IsL.update eD (fun a => a.push v)
     have ea : its.toArray.push v = (its ++ [v]).toArray := by simp
     rw [ea] at q
     exact ⟨_, q⟩
    have I10 : Inv Xc [] σ6 H8 { s8 with heap := s8.heap.update s.heap.objs.size (Obj.mapSeq fun a => a.push v) } := by
     refine (I9.pins_of (pins' := []) fun p hp => nomatch hp).turned (it := s.heap.objs.size) (t' := s8.toks) (fun b u hb e => (Heap.get?_update_other s8.heap _ (Ne.symm hb)).trans e) nD nC (.inl (by rw [eex]; exact List.mem_cons_self)) (fun x cc e => ?_) (fun p hp => ?_)
     ·obtain ⟨w0, oc, hoc, _⟩ := I.cell x cc (ecl x cc e)
      exact Nat.ne_of_lt (Heap.lt_size hoc)
     ·rw [← hXc] at hp
      exact absurd hp (by simp [cxComp])
    refine ⟨m', hm, i + 1, acc ++ [y], its ++ [v], n9, σ6, H8, I10.pins_of fun p hp => ?_, rv.append (.cons r8 .nil), T.keep _ _ _ t1 fun b hb u e => ?_, t2, by rw [List.length_append, List.length_singleton]; omega, w8⟩
    ·have e : p = (s.heap.objs.size, ({ cls := .type "list", data := .seq (its ++ [v]).toArray n9 } : Obj)) := by simpa using hp
     subst e
     exact ⟨q, nD, nC, nF, fun w z => by cases z⟩
    ·have hb' : b ≠ s.heap.objs.size := by
      obtain ⟨z, hz'⟩ := hfo b hb
      exact Nat.ne_of_lt (Heap.lt_size hz')
     exact (Heap.get?_update_other s8.heap _ (Ne.symm hb')).trans e
 exact codeAny_compStart_list (loop _ rfl) (T.self _ 0 _ _ _ (T.keep _ _ _ st fun b _ u e => k3 b u (Heap.get?_push_of_some _ e)) (loop _ rfl))
theorem pe_comp (hc : X.calm = true) (S : CompScope X scope N xs js) (hi : PI X tg iter ti) (hg : ∀ cl s H ex, PG (cxComp X N scope cl s H ex) tg g) (ht : ∀ cl s H ex, PTs (cxComp X N scope cl s H ex) ifs tt)
  (he : ∀ cl s H ex, PE (cxComp X N scope cl s H ex) elt te) (hs : ∀ x, foldedSetIterable iter X.env x = pure x := by intro _; rfl) :
  PE X (.ListComp elt [⟨tg, iter, ifs, 0⟩] scope pos) (tComp xs js ti g tt te) := by
 intro pins s σ H Q I h
 obtain ⟨cl, e1, h2, h4⟩ := closure_ok (scope := scope) (env := X.env) fun y hy e => I.ok.has y.1 (S.caught y hy e)
 rw [eval_ListComp]
 refine wpAny_comprehension_free (use := none) rfl hs e1 S.kind S.once (thn (hi pins s σ H _ I h) fun v s1 h1 => thn h1 fun itv s2 h2' => ?_)
 obtain ⟨it, fp, tn, J, H2, e, I2, T, st2, f2, hW⟩ := h2'
 subst e
 refine comp_block (RR := fun acc C => compPost (model X.prog X.w) X.A X.xe none (EP X pins σ Q) acc C) hc S hg ht he h2 h4 I2 T st2 f2 hW fun D C H' s' m I' hn hC q => ?_
 obtain ⟨f0, f1, _, f3, f4, f5⟩ := hC
 exact ⟨m, hn, fun h' hs' => ⟨.ref D, H', I'.turned (it := C) (t' := s'.toks) (fun b u hb e => (hs'.2 b hb).trans e) f0 f1 f3 f4 f5, rfl, q⟩⟩
theorem ps_comp {j : Nat} {y : Str} {py spos : Pos} (hc : X.calm = true) (hN : X.N.Nodup) (hj : X.N[j]? = some y) (hy : X.env.scope.names.lookup y = some .local) (S : CompScope X scope N xs js) (hi : PI X tg iter ti) (hg : ∀ cl s H ex, PG (cxComp X N scope cl s H ex) tg g) (ht : ∀ cl s H ex, PTs (cxComp X N scope cl s H ex) ifs tt)
  (he : ∀ cl s H ex, PE (cxComp X N scope cl s H ex) elt te)
  (hsw : swapsWith (.ListComp elt [⟨tg, iter, ifs, 0⟩] scope pos) (some (.Name y py)) spos.line X.env = pure true)
  (hs : ∀ x, foldedSetIterable iter X.env x = pure x := by intro _; rfl) :
  PS X (.Assign [.Name y py] (.ListComp elt [⟨tg, iter, ifs, 0⟩] scope pos) spos) (tAsg (tComp xs js ti g tt te) (gName j)) := by
 intro pins s σ H D I h
 obtain ⟨cl, e1, h2, h4⟩ := closure_ok (scope := scope) (env := X.env) fun y hy e => I.ok.has y.1 (S.caught y hy e)
 rw [exec_Assign_Name_used _ _ _ _ hsw]
 refine wpAny_bind (wpAny_standAt (wpAny_bind ?_))
 show wpAny _ X.A (do let _ ← comprehension (.ListComp elt [⟨tg, iter, ifs, 0⟩] scope pos) scope X.env _ (newList []) false (eval iter X.env) (some (assign (.Name y py) X.env))) _ _ s
 refine wpAny_bind (wpAny_mono (wpAny_comprehension_free (use := some (assign (.Name y py) X.env)) (Q := fun _ s' => SP X pins D .next s') rfl hs e1 S.kind S.once
  (thn (hi pins s σ H _ I h) fun v s1 h1 => thn h1 fun itv s2 h2' => ?_)) (fun _ s' hq => wpAny_pure (wpAny_pure hq)) fun _ _ e => e)
 obtain ⟨it, fp, tn, J, H2, e, I2, T, st2, f2, hW⟩ := h2'
 subst e
 refine comp_block (Q := fun x H1 => gName j x σ H1 D.nx) (RR := fun acc C => compPost (model X.prog X.w) X.A X.xe (some (assign (.Name y py) X.env)) (fun _ s' => SP X pins D .next s') acc C) hc S hg ht he h2 h4 I2 T st2 f2 hW fun A C H' s' m I' hn hC q => ?_
 obtain ⟨f0, f1, f2', f3, f4, f5⟩ := hC
 show wpAny _ X.A (assign (.Name y py) X.env (.ref A)) _ _ _
 refine wpAny_assign_Name (store_ok2 I' hN hj (.inl hy) (show RelV (.ref A) (.ref A) from rfl) (fun s'' I'' ⟨a, sb, ha⟩ => ?_) (.inr hy))
 have hCa : C ≠ a := by
  rcases ha with e | e
  ·rw [e]; exact f1
  ·exact fun z => f4 y a e z.symm
 refine ⟨m, hn.sameBut sb hCa, fun h' hs' => ?_⟩
 exact ⟨_, H', I''.turned (it := C) (t' := s''.toks) (fun b u hb e => (hs'.2 b hb).trans e) f0 f1 f3 f4 f5, q⟩
end
section
variable {K : PySem.W.Frag} {xs : Nat} {js : List Nat} {g : TG} {tt : TT} {te : TE} {σ : St} {Q : VK} {H : Hp}
theorem comp_walk {J : It} {n : Nat} (Pv : Nat → List V → St → Hp → Prop) (h0 : Pv 0 [] (List.replicate xs none ++ capOf σ js) H) (hl : ∀ i acc σ' H', Pv i acc σ' H' → acc.length ≤ i) (hz : n ≤ sizeLine)
  (hgo : ∀ i acc σ' H', i < n → Pv i acc σ' H' → J.go i H') (hst : ∀ acc σ' H', Pv n acc σ' H' → J.stop n H')
  (hs : ∀ i x acc σ' H' H2, i < n → Pv i acc σ' H' → J.yld i H' x H2 → g x σ' H2 fun σ2 H2 => tt σ2 H2 fun b H3 => if b = true then te σ2 H3 fun y H4 => Pv (i + 1) (acc ++ [y]) σ2 H4 else Pv (i + 1) acc σ2 H3)
  (hd : ∀ acc σ' H', Pv n acc σ' H' → ∀ p, H' p = none → Q (.ref p) (upd H' p (.lst acc))) : CompGoal xs js g tt te σ Q J H := by
 refine ⟨fun i m acc σ' H' => m = n - i ∧ i ≤ n ∧ Pv i acc σ' H', ⟨n, by simp, Nat.zero_le _, h0⟩, ?_⟩
 rintro i m acc σ' H' ⟨rfl, hi, p⟩
 by_cases hlt : i < n
 ·have := hl _ _ _ _ p
  exact .inr ⟨hgo i acc σ' H' hlt p, by omega, fun a s h => Pv (i + 1) a s h, fun a s h q => ⟨n - (i + 1), by omega, rfl, hlt, q⟩, fun x H2 y => hs i x acc σ' H' H2 hlt p y⟩
 ·have e : i = n := by omega
  subst e
  exact .inl ⟨hst _ _ _ p, hd _ _ _ p⟩
theorem comp_list {a : Addr} {ys : List V} (Pv : Nat → List V → St → Hp → Prop) (h0 : Pv 0 [] (List.replicate xs none ++ capOf σ js) H) (hl : ∀ i acc σ' H', Pv i acc σ' H' → acc.length ≤ i) (hz : ys.length ≤ sizeLine)
  (hq : ∀ i acc σ' H', i ≤ ys.length → Pv i acc σ' H' → SqL K H' a ys)
  (hs : ∀ i x acc σ' H', ys[i]? = some x → Pv i acc σ' H' → g x σ' H' fun σ2 H2 => tt σ2 H2 fun b H3 => if b = true then te σ2 H3 fun y H4 => Pv (i + 1) (acc ++ [y]) σ2 H4 else Pv (i + 1) acc σ2 H3)
  (hd : ∀ acc σ' H', Pv ys.length acc σ' H' → ∀ p, H' p = none → Q (.ref p) (upd H' p (.lst acc))) : CompGoal xs js g tt te σ Q (Itl K a) H :=
 comp_walk Pv h0 hl hz (fun i acc σ' H' h p => ⟨ys, ys[i], hq _ _ _ _ (Nat.le_of_lt h) p, by simp [h]⟩) (fun acc σ' H' p => ⟨ys, hq _ _ _ _ (Nat.le_refl _) p, Nat.le_refl _⟩)
  (fun i x acc σ' H' H2 h p y => by
   obtain ⟨e, y⟩ := y
   subst e
   exact hs i x acc σ' _ (y ys (hq _ _ _ _ (Nat.le_of_lt h) p)) p) hd
theorem comp_tup {a : Addr} {ys : List V} (Pv : Nat → List V → St → Hp → Prop) (h0 : Pv 0 [] (List.replicate xs none ++ capOf σ js) H) (hl : ∀ i acc σ' H', Pv i acc σ' H' → acc.length ≤ i) (hz : ys.length ≤ sizeLine)
  (hq : ∀ i acc σ' H', i ≤ ys.length → Pv i acc σ' H' → SqT K H' a ys)
  (hs : ∀ i x acc σ' H', ys[i]? = some x → Pv i acc σ' H' → g x σ' H' fun σ2 H2 => tt σ2 H2 fun b H3 => if b = true then te σ2 H3 fun y H4 => Pv (i + 1) (acc ++ [y]) σ2 H4 else Pv (i + 1) acc σ2 H3)
  (hd : ∀ acc σ' H', Pv ys.length acc σ' H' → ∀ p, H' p = none → Q (.ref p) (upd H' p (.lst acc))) : CompGoal xs js g tt te σ Q (Itt K a) H :=
 comp_walk Pv h0 hl hz (fun i acc σ' H' h p => ⟨ys, ys[i], hq _ _ _ _ (Nat.le_of_lt h) p, by simp [h]⟩) (fun acc σ' H' p => ⟨ys, hq _ _ _ _ (Nat.le_refl _) p, Nat.le_refl _⟩)
  (fun i x acc σ' H' H2 h p y => by
   obtain ⟨e, y⟩ := y
   subst e
   exact hs i x acc σ' _ (y ys (hq _ _ _ _ (Nat.le_of_lt h) p)) p) hd
theorem comp_range {lo : Int} {n : Nat} (Pv : Nat → List V → St → Hp → Prop) (h0 : Pv 0 [] (List.replicate xs none ++ capOf σ js) H) (hl : ∀ i acc σ' H', Pv i acc σ' H' → acc.length ≤ i) (hz : n ≤ sizeLine)
  (hs : ∀ i acc σ' H', i < n → Pv i acc σ' H' → g (.int (lo + i)) σ' H' fun σ2 H2 => tt σ2 H2 fun b H3 => if b = true then te σ2 H3 fun y H4 => Pv (i + 1) (acc ++ [y]) σ2 H4 else Pv (i + 1) acc σ2 H3)
  (hd : ∀ acc σ' H', Pv n acc σ' H' → ∀ p, H' p = none → Q (.ref p) (upd H' p (.lst acc))) : CompGoal xs js g tt te σ Q (Itr lo n) H :=
 comp_walk Pv h0 hl hz (fun i acc σ' H' h p => h) (fun acc σ' H' p => Nat.le_refl _)
  (fun i x acc σ' H' H2 h p y => by
   obtain ⟨e, y⟩ := y
   subst e y
   exact hs i acc σ' _ h p) hd
end
def Its (x : Str) : It := ⟨fun i _ => i < x.cps.size, fun i H v H' => H' = H ∧ ∃ c, x.cps[i]? = some c ∧ v = .str ⟨#[c]⟩, fun i _ => i = x.cps.size⟩
def iStr (tl : TE) : TI := fun σ H R => tl σ H fun v H1 => ∃ x, v = .str x ∧ R (Its x) H1
theorem comp_str {xs : Nat} {js : List Nat} {g : TG} {tt : TT} {te : TE} {σ : St} {Q : VK} {H : Hp} {x : Str} (Pv : Nat → List V → St → Hp → Prop) (h0 : Pv 0 [] (List.replicate xs none ++ capOf σ js) H) (hl : ∀ i acc σ' H', Pv i acc σ' H' → acc.length ≤ i) (hz : x.cps.size ≤ sizeLine)
  (hs : ∀ i c acc σ' H', x.cps[i]? = some c → Pv i acc σ' H' → g (.str ⟨#[c]⟩) σ' H' fun σ2 H2 => tt σ2 H2 fun b H3 => if b = true then te σ2 H3 fun y H4 => Pv (i + 1) (acc ++ [y]) σ2 H4 else Pv (i + 1) acc σ2 H3)
  (hd : ∀ acc σ' H', Pv x.cps.size acc σ' H' → ∀ p, H' p = none → Q (.ref p) (upd H' p (.lst acc))) : CompGoal xs js g tt te σ Q (Its x) H :=
 comp_walk Pv h0 hl hz (fun i acc σ' H' h p => h) (fun acc σ' H' p => rfl)
  (fun i v acc σ' H' H2 h p y => by
   obtain ⟨e, c, y1, y2⟩ := y
   subst e y2
   exact hs i c acc σ' _ y1 p) hd
def StrAt (it : Addr) (x : Str) (t : Tok) (i : Nat) (h : Heap) : Prop := h.IsStrIter it "str_ascii_iterator" x t i ∨ h.IsStrIter it "str_iterator" x t i
theorem StrAt.obj {it : Addr} {x : Str} {t : Tok} {i : Nat} {h : Heap} (st : StrAt it x t i h) : ∃ o n vs, h.get? it = some o ∧ o.cls = .type n ∧ o.data = .fields vs ∧ (n = "str_ascii_iterator" ∨ n = "str_iterator") := by
 rcases st with ⟨o, e, c, d⟩ | ⟨o, e, c, d⟩
 ·exact ⟨o, _, _, e, c, d, .inl rfl⟩
 ·exact ⟨o, _, _, e, c, d, .inr rfl⟩
theorem StrAt.go {M : Model} {A : Around} {E : Value → Shared → Prop} {s : Shared} {tg : Expr} {it : Addr} {u : Value} {x : Str} {t : Tok} {i : Nat} {Q : Unit → Shared → Prop} (st : StrAt it x t i s.heap) (hQ : Q () s) : wpAny M A (letOwnedTupleGo tg (.ref it) u) Q E s := by
 obtain ⟨o, n, vs, e, c, d, hn⟩ := st.obj
 rcases hn with rfl | rfl
 ·exact go_of e c d (by decide) hQ
 ·exact go_of e c d (by decide) hQ
theorem turn_str {P : Program} {w : World} {K : PySem.W.Frag} {tg : Expr} (it : Addr) (x : Str) (t : Tok) : Turn P w K tg (Its x) [it] it (StrAt it x t) where
 mem := by simp
 obj := fun i h st b hb => by
  have e : b = it := by simpa using hb
  subst e
  obtain ⟨o, n, vs, e, c, d, hn⟩ := st.obj
  exact ⟨o, e, fun v z => by rw [d] at z; cases z⟩
 keep := fun i h h' st k => by
  rcases st with ⟨o, e, r⟩ | ⟨o, e, r⟩
  ·exact .inl ⟨o, k it (by simp) o e, r⟩
  ·exact .inr ⟨o, k it (by simp) o e, r⟩
 item := by
  intro X hP hw hK hc i pins s σ H E I hf st hg
  subst hP hw hK
  obtain ⟨f0, f1, f2, f3, f4, f5⟩ := hf it (by simp)
  have fin : ∀ (v : Value) (h' : Heap) (tk : Nat), SignAt x i v → StrAt it x t (i + 1) h' → (∀ b o, b ∉ [it] → s.heap.get? b = some o → h'.get? b = some o) →
    ∃ u, some v = some u ∧ wpAny (model X.prog X.w) X.A (letOwnedTupleGo tg (.ref it) u) (fun _ s2 => ∃ y H', Inv X pins σ H' s2 ∧ RelV y u ∧ (Its x).yld i H y H' ∧ StrAt it x t (i + 1) s2.heap ∧ ∀ b ∈ [it], H' b = none) E { s with heap := h', toks := tk } := by
   rintro v h' tk ⟨c, u, hc', rfl⟩ st' k
   exact ⟨_, rfl, st'.go (s := { s with heap := h', toks := tk }) ⟨.str ⟨#[c]⟩, H, I.turned (t' := tk) (fun b o hb e => k b o (by simpa using hb) e) f0 f1 f3 f4 f5, ⟨_, rfl⟩, ⟨rfl, c, hc', rfl⟩, st', fun b hb => (hf b hb).1⟩⟩
  rcases st with st | st
  ·exact (Walks.strAscii (I.ok.hd hc) it x t).item i s _ _ hg st fun v h' tk hv st' k => fin v h' tk hv (.inl st') k
  ·exact (Walks.strWide (I.ok.hd hc) it x t).item i s _ _ hg st fun v h' tk hv st' k => fin v h' tk hv (.inr st') k
 done := by
  intro X hP hw hK hc i pins s σ H E I hf st hg
  subst hP hw hK
  obtain ⟨f0, f1, f2, f3, f4, f5⟩ := hf it (by simp)
  have hg' : i = x.cps.size := hg
  subst hg'
  rcases st with st | st
  ·exact (Walks.strAscii (I.ok.hd hc) it x t).done s _ _ st fun h' tk k => ⟨rfl, I.turned (t' := tk) (fun b o hb e => k b o (by simpa using hb) e) f0 f1 f3 f4 f5⟩
  ·exact (Walks.strWide (I.ok.hd hc) it x t).done s _ _ st fun h' tk k => ⟨rfl, I.turned (t' := tk) (fun b o hb e => k b o (by simpa using hb) e) f0 f1 f3 f4 f5⟩
 self := fun A i s Q E st h => by
  rcases st with st | st
  ·exact wpAny_pyIter_striter_ascii st h
  ·exact wpAny_pyIter_striter_wide st h
theorem pi_str {X : Cx} {tg l : Expr} {tl : TE} (hl : PE X l tl) : PI X tg l (iStr tl) := by
 intro pins s σ H R I h
 refine thn (hl pins s σ H _ I h) fun v s1 ⟨y, H1, I1, r1, q1⟩ => ?_
 obtain ⟨x, rfl, q⟩ := q1
 obtain ⟨t, rfl⟩ := r1
 have fin : ∀ o, StrAt s1.heap.objs.size x t 0 (s1.heap.push o) → PIE X pins σ tg R (.ref s1.heap.objs.size) { s1 with heap := s1.heap.push o } := fun o st => by
  refine ⟨s1.heap.objs.size, [s1.heap.objs.size], _, _, H1, rfl, I1.kept (t' := s1.toks) fun b o e => Heap.get?_push_of_some _ e, turn_str _ x t, st, fun b hb => ?_, q⟩
  have e : b = s1.heap.objs.size := by simpa using hb
  subst e
  exact I1.fpOk (Nat.le_refl _) (I1.hok.fresh (Nat.le_refl _))
 cases ha : x.cps.all (· < 128)
 ·exact wpAny_pyIter_wide ha (fin _ (.inr ⟨_, Heap.get?_push_size _ rfl, rfl, rfl⟩))
 ·exact wpAny_pyIter_ascii ha (fin _ (.inl ⟨_, Heap.get?_push_size _ rfl, rfl, rfl⟩))
theorem all_range (bs : List Bool) : (List.range bs.length).all (fun i => (bs[i]?).getD true) = bs.all id := by
 rw [Bool.eq_iff_iff]
 simp only [List.all_eq_true, List.mem_range, id]
 constructor
 ·intro h b hb
  obtain ⟨i, hi, e⟩ := List.mem_iff_getElem.mp hb
  have := h i hi
  rw [List.getElem?_eq_getElem hi] at this
  rw [← e]
  exact this
 ·intro h i hi
  rw [List.getElem?_eq_getElem hi]
  exact h _ (List.getElem_mem hi)
section
variable {X : Cx}
theorem call_all (hc : X.calm = true) : CallR X (.builtin "all") (fun xs H Q => ∃ (p : Addr) (bs : List Bool), xs = [.ref p] ∧ SqL X.K H p (bs.map V.bl) ∧ Q (.bl (bs.all id)) H) := by
 intro pins s σ H xs us Q I r h
 obtain ⟨p, bs, rfl, hp, q⟩ := h
 obtain ⟨u, rfl, ru⟩ := vals1 r
 cases ru
 obtain ⟨its, rv, ht, hz⟩ := I.list hp
 have hlen := rv.length
 rw [List.length_map] at hlen
 refine call_all_walk (wpAny_pyIter_list ht.isList ?_)
 have hpn : p < s.heap.objs.size := let ⟨o, n, e, _⟩ := ht; Heap.lt_size e
 refine ⟨s.heap.objs.size, [s.heap.objs.size, p], [s.heap.objs.size], its.toArray.size, (fun i v => its.toArray[i]? = some v), (fun i h => h.IsListIter s.heap.objs.size p i ∧ h.IsList p its.toArray), fun i => (bs[i]?).getD true, rfl, Walks.list (A := X.A.in1) (show X.A.in1.handled = none from I.ok.hd hc) s.heap.objs.size p (Nat.ne_of_lt hpn) its.toArray, ⟨⟨_, Heap.get?_push_size _ rfl, rfl, rfl⟩, ht.isList.at fun o e => Heap.get?_push_of_some _ e⟩, ?_, fun h' tk k => ?_⟩
 ·intro i v s' Q' E' hv hq
  have hv' : its[i]? = some v := by simpa using hv
  have hi : i < bs.length := by rw [hlen]; exact (List.getElem?_eq_some_iff.mp hv').1
  obtain ⟨u', hu', ru'⟩ := rv.get (i := i) (x := .bl bs[i]) (by simp [hi])
  rw [hv'] at hu'
  cases hu'
  cases ru'
  refine wpAny_truthy_bool ?_
  have hq' : Q' ((bs[i]?).getD true) s' := hq
  rw [List.getElem?_eq_getElem hi] at hq'
  exact hq'
 ·have e : (List.range its.toArray.size).all (fun i => (bs[i]?).getD true) = bs.all id := by
   rw [List.size_toArray, ← hlen]
   exact all_range bs
  refine ⟨.bl (bs.all id), H, I.kept (t' := tk) fun b o e => k b o ?_ (Heap.get?_push_of_some _ e), by rw [e]; rfl, q⟩
  have := Heap.lt_size e
  intro z
  rw [List.mem_singleton.mp z] at this
  exact Nat.lt_irrefl _ this
theorem call_isinst : CallR X (.builtin "isinstance") (fun xs H Q => ∃ x T t b, xs = [x, .ty T] ∧ TyOf X.K H x t ∧ PySem.W.kitOne X.K t (.type T) = some b ∧ Q (.bl b) H) := by
 intro pins s σ H xs us Q I r h
 obtain ⟨x, T, t, b, rfl, ty, e, q⟩ := h
 obtain ⟨u, v, rfl, ru, rv⟩ := vals2 r
 cases rv
 exact isinst_ok I ru ty e fun tk => ⟨.bl b, H, I.tok tk, rfl, q⟩
def rSlS : V → Option Int → Option Int → Hp → VK → Prop := fun x lo hi H Q => ∃ z, x = .str z ∧ z.length ≤ sizeLine ∧ Q (.str (Txt.slice z lo hi)) H
theorem sl_str : SlR X rSlS := by
 intro pins s σ H x v vl vu lo hi sl Q I rx hs pl pu h
 obtain ⟨z, rfl, hz, q⟩ := h
 obtain ⟨t, rfl⟩ := rx
 refine ⟨"str", _, F.slot_str_getitem.lookup, typeIs_str _ _ _, ?_⟩
 have fin : ∀ t' k, EP X pins σ Q (.str (Txt.slice z lo hi) t') { s with toks := k } := fun t' k => ⟨.str _, H, I.tok k, ⟨t', rfl⟩, q⟩
 obtain ⟨o, ho, hc, hd⟩ := hs
 cases pl with
 | none =>
  cases pu with
  | none => exact wpAny_getItem_str_slice (l := none) (u := none) (st := none) ⟨o, ho, hc, hd⟩ rfl (post_val_or_str ⟨Nat.le_trans (Txt.slice_le z _ _) hz, fin⟩)
  | int j uj => exact wpAny_getItem_str_slice (l := none) (u := some (j, uj)) (st := none) ⟨o, ho, hc, hd⟩ rfl (post_val_or_str ⟨Nat.le_trans (Txt.slice_le z _ _) hz, fin⟩)
 | int i ui =>
  cases pu with
  | none => exact wpAny_getItem_str_slice (l := some (i, ui)) (u := none) (st := none) ⟨o, ho, hc, hd⟩ rfl (post_val_or_str ⟨Nat.le_trans (Txt.slice_le z _ _) hz, fin⟩)
  | int j uj => exact wpAny_getItem_str_slice (l := some (i, ui)) (u := some (j, uj)) (st := none) ⟨o, ho, hc, hd⟩ rfl (post_val_or_str ⟨Nat.le_trans (Txt.slice_le z _ _) hz, fin⟩)
def valView (a d : Addr) : HO := .ext fun h => h.IsValuesView a d
theorem mt_values : MtR X "dict.values" (fun x vs H Q => ∃ d kvs, x = .ref d ∧ vs = [] ∧ Rd H d (.dK kvs) ∧ ∀ p, H p = none → Q (.ref p) (upd H p (valView p d))) := by
 intro pins s σ H x xs v us Q I rx rv h
 obtain ⟨d, kvs, rfl, rfl, hd, q⟩ := h
 cases rx
 cases rv
 obtain ⟨z, hs, vs, rel, dd⟩ := dk_rd I.hok hd
 refine call_meetsIn PySem.F.slot_dict_values dd.typeIs PySem.F.entry_dict_values (PySem.F.args_dict_values_1 _) (meets_dict_values (mixKind X.prog X.w) d hs) ⟨⟨vs, dd⟩, ?_⟩
 have hv : (s.heap.push ({ cls := .type "dict_values", data := .fields #[.ref d] } : Obj)).IsValuesView s.heap.objs.size d := ⟨_, Heap.get?_push_size _ rfl, rfl, rfl⟩
 refine ⟨.ref s.heap.objs.size, _, I.laid (t' := s.toks) (o := valView s.heap.objs.size d) (fun b ob e => Heap.get?_push_of_some _ e) (Nat.le_refl _) ⟨hv, ⟨_, Heap.get?_push_size _ rfl⟩, fun h1 h2 ⟨o, e, r⟩ k => ⟨o, k o e, r⟩⟩, rfl, q _ (I.hok.fresh (Nat.le_refl _))⟩
theorem vals_of_items {P : Nat → Value → Prop} {n : Nat} : ∀ {acc : List Value} (ys : List V), ItemsOf P acc.toArray n → ys.length = n → (∀ i v y, P i v → ys[i]? = some y → RelV y v) → Vals ys acc := by
 intro acc ys h hl hP
 obtain ⟨h1, h2⟩ := h
 have e1 : acc.length = ys.length := by rw [hl, ← h1]; simp
 have key : ∀ (ys : List V) (acc : List Value), acc.length = ys.length → (∀ (i : Nat) v y, acc[i]? = some v → ys[i]? = some y → RelV y v) → Vals ys acc := by
  intro ys
  induction ys with
  | nil =>
   intro acc e _
   have : acc = [] := List.eq_nil_of_length_eq_zero (by simpa using e)
   subst this
   exact .nil
  | cons y r ih =>
   intro acc e h
   cases acc with
   | nil => simp at e
   | cons v a =>
    refine .cons (h 0 v y rfl rfl) (ih a (by simpa using e) fun i v' y' e1 e2 => h (i + 1) v' y' (by simpa using e1) (by simpa using e2))
 exact key ys acc e1 fun i v y e1 e2 => hP i v y (h2 i v (by simpa using e1)) e2
theorem KV.getVal {κ : Type} {kvs : List (κ × V)} {vs : List (κ × Value)} (r : KV kvs vs) : ∀ {i : Nat} {k : κ} {x : Value} {y : κ × V}, vs[i]? = some (k, x) → kvs[i]? = some y → y.1 = k ∧ RelV y.2 x := by
 unfold KV at r
 induction r with
 | nil => intro i k x y e; simp at e
 | cons h t ih =>
  intro i k x y e1 e2
  cases i with
  | zero =>
   simp at e1 e2
   subst e2
   rw [e1] at h
   exact h
  | succ i => exact ih (by simpa using e1) (by simpa using e2)
theorem list_kdl {T : String} {r d : Addr} {P : Nat → Value → Prop} {OK : Heap → Prop} {ys : List V} {pins : List (Addr × Obj)} {s : Shared} {σ : St} {H : Hp} {Q : VK} (hc : X.calm = true) (I : Inv X pins σ H s) (Kd : PySem.W.KdlSrc X.prog X.w T r d ys.length P OK) (hok : OK s.heap) (hz : ys.length ≤ sizeLine)
  (hP : ∀ i v y, P i v → ys[i]? = some y → RelV y v) (q : ∀ l, H l = none → Q (.ref l) (upd H l (.lst ys))) : wpAny (model X.prog X.w) X.A (call (.type "list") [.ref r]) (EP X pins σ Q) X.xe s := by
 refine PySem.W.kdl_call Kd (I.ok.hd hc) hok hz fun h' tk acc' c' kp e hacc => ?_
 refine ⟨.ref s.heap.objs.size, _, I.laid (t' := tk) (o := .lst ys) kp (Nat.le_refl _) ⟨hz, acc'.toList, c', vals_of_items (acc := acc'.toList) ys (by simpa using hacc) rfl hP, by simpa using e⟩, rfl, q _ (I.hok.fresh (Nat.le_refl _))⟩
theorem call_listD (hc : X.calm = true) : CallR X (.type "list") (fun xs H Q => ∃ d kvs, xs = [.ref d] ∧ Rd H d (.dK kvs) ∧ ∀ l, H l = none → Q (.ref l) (upd H l (.lst (kvs.map fun kv => kV kv.1)))) := by
 intro pins s σ H xs us Q I r h
 obtain ⟨d, kvs, rfl, hd, q⟩ := h
 obtain ⟨u, rfl, ru⟩ := vals1 r
 cases ru
 obtain ⟨z, hs, vs, rel, dd⟩ := dk_rd I.hok hd
 obtain ⟨ep, hat⟩ := dd.dictAt
 have e := rel.length
 have Kd := PySem.W.kdl_dict (prog := X.prog) (w := X.w) (knd := mixKind X.prog X.w) (kvs := vs) (ep := ep) hs
 have el : (kvs.map fun kv => kV kv.1).length = vs.length := by rw [List.length_map, e]
 rw [← el] at Kd
 refine list_kdl (ys := kvs.map fun kv => kV kv.1) hc I Kd hat (by rw [List.length_map]; exact z) (fun i v y hv hy => ?_) q
 obtain ⟨k, x, hx, hk⟩ := hv
 rw [List.getElem?_map] at hy
 cases q2 : kvs[i]? with
 | none => rw [q2] at hy; cases hy
 | some kv =>
  rw [q2] at hy
  cases hy
  obtain ⟨e1, _⟩ := rel.getVal hx q2
  rcases keyIs_shape (show keyIs k v = true from hk) with ⟨i', t', rfl, rfl⟩ | ⟨x', t', rfl, rfl⟩
  ·show RelV (kV kv.1) _
   rw [e1]; exact ⟨t', rfl⟩
  ·show RelV (kV kv.1) _
   rw [e1]; exact ⟨t', rfl⟩
theorem call_listV (hc : X.calm = true) : CallR X (.type "list") (fun xs H Q => ∃ p d kvs, xs = [.ref p] ∧ H p = some (valView p d) ∧ Rd H d (.dK kvs) ∧ ∀ l, H l = none → Q (.ref l) (upd H l (.lst (kvs.map fun kv => kv.2)))) := by
 intro pins s σ H xs us Q I r h
 obtain ⟨p, d, kvs, rfl, hp, hd, q⟩ := h
 obtain ⟨u, rfl, ru⟩ := vals1 r
 cases ru
 obtain ⟨z, hs, vs, rel, dd⟩ := dk_rd I.hok hd
 obtain ⟨ep, hat⟩ := dd.dictAt
 have e := rel.length
 obtain ⟨hv, _, _⟩ : s.heap.IsValuesView p d ∧ _ ∧ _ := I.hok p _ hp
 have Kd := PySem.W.kdl_values (prog := X.prog) (w := X.w) (knd := mixKind X.prog X.w) (r := p) (d := d) (kvs := vs) (ep := ep)
 have el : (kvs.map fun kv => kv.2).length = vs.length := by rw [List.length_map, e]
 rw [← el] at Kd
 refine list_kdl (ys := kvs.map fun kv => kv.2) hc I Kd ⟨hv, hat⟩ (by rw [List.length_map]; exact z) (fun i v y hv hy => ?_) q
 obtain ⟨k, hx⟩ := hv
 rw [List.getElem?_map] at hy
 cases q2 : kvs[i]? with
 | none => rw [q2] at hy; cases hy
 | some kv =>
  rw [q2] at hy
  cases hy
  exact (rel.getVal hx q2).2
end
def RdD (K : PySem.W.Frag) (H : Hp) : Nat → V → PyData → Prop
 | _, .non, d => d = .none
 | _, .bl b, d => d = .bool b
 | _, .int i, d => d = .int i
 | _, .str x, d => PyData.strOk x = true ∧ d = .str x
 | n + 1, .ref a, d => (∃ xs ds, SqL K H a xs ∧ d = .list ds ∧ Paired (RdD K H n) xs ds) ∨ ∃ xs ds, SqT K H a xs ∧ d = .tuple ds ∧ Paired (RdD K H n) xs ds
 | _, _, _ => False
section
variable {X : Cx} {pins : List (Addr × Obj)} {σ : St} {H : Hp} {s : Shared}
theorem RdD.reads (I : Inv X pins σ H s) : ∀ (n : Nat) (v : V) (d : PyData) (u : Value), RdD X.K H n v d → RelV v u → (∃ as, Reads s.heap u d as) ∧ d.canLay0 = true ∧ d.depth ≤ n := by
 intro n
 induction n with
 | zero =>
  intro v d u h r
  cases v <;> simp only [RdD] at h
  ·subst h; cases r; exact ⟨⟨_, .none⟩, rfl, Nat.le_refl _⟩
  ·subst h; cases r; exact ⟨⟨_, .bool _⟩, rfl, Nat.le_refl _⟩
  ·subst h; obtain ⟨t, rfl⟩ := r; exact ⟨⟨_, .int _ _⟩, rfl, Nat.le_refl _⟩
  ·obtain ⟨h1, rfl⟩ := h; obtain ⟨t, rfl⟩ := r; exact ⟨⟨_, .str _ _⟩, h1, Nat.le_refl _⟩
 | succ n ih =>
  have all : ∀ (xs : List V) (ds : List PyData) (us : List Value), Paired (RdD X.K H n) xs ds → Vals xs us → (∃ as, ReadsAll s.heap us ds as) ∧ PyData.canLayAll0 ds = true ∧ PyData.depthAll ds ≤ n := by
   intro xs ds us p
   induction p generalizing us with
   | nil => intro r; cases r; exact ⟨⟨_, .nil⟩, rfl, Nat.zero_le _⟩
   | cons h t ih2 =>
    intro r
    cases r with
    | cons r1 r2 =>
     obtain ⟨⟨as, a1⟩, a2, a3⟩ := ih _ _ _ h r1
     obtain ⟨⟨bs, b1⟩, b2, b3⟩ := ih2 _ r2
     exact ⟨⟨_, .cons a1 b1⟩, by simp [PyData.canLayAll0, a2, b2], by simp only [PyData.depthAll]; omega⟩
  intro v d u h r
  cases v <;> simp only [RdD] at h
  ·subst h; cases r; exact ⟨⟨_, .none⟩, rfl, Nat.zero_le _⟩
  ·subst h; cases r; exact ⟨⟨_, .bool _⟩, rfl, Nat.zero_le _⟩
  ·subst h; obtain ⟨t, rfl⟩ := r; exact ⟨⟨_, .int _ _⟩, rfl, Nat.zero_le _⟩
  ·obtain ⟨h1, rfl⟩ := h; obtain ⟨t, rfl⟩ := r; exact ⟨⟨_, .str _ _⟩, h1, Nat.zero_le _⟩
  ·cases r
   rcases h with ⟨xs, ds, hq, rfl, p⟩ | ⟨xs, ds, hq, rfl, p⟩
   ·obtain ⟨its, rv, ⟨o, m, e, c, _, dd⟩, _⟩ := I.list hq
    obtain ⟨⟨as, a1⟩, a2, a3⟩ := all xs ds its p rv
    exact ⟨⟨_, .list e c dd (by simpa using a1)⟩, by simpa [PyData.canLay0] using a2, by simp only [PyData.depth]; omega⟩
   ·obtain ⟨its, rv, ⟨o, e, c, m, dd⟩, _⟩ := I.tuple hq
    obtain ⟨⟨as, a1⟩, a2, a3⟩ := all xs ds its p rv
    exact ⟨⟨_, .tuple e c dd (by simpa using a1)⟩, by simpa [PyData.canLay0] using a2, by simp only [PyData.depth]; omega⟩
def rEqD (K : PySem.W.Frag) (neg : Bool) : R2 := fun x y H Q => ∃ n dx dy, n ≤ 64 ∧ RdD K H n x dx ∧ RdD K H n y dy ∧ Q (.bl (if neg then !PyData.eqv dx dy else PyData.eqv dx dy)) H
theorem op_eqD (hu : X.A.units + 64 < cLine) : OpR X (compareOp .Eq) (rEqD X.K false) := by
 intro pins s σ H x y v u Q I rx ry h
 obtain ⟨n, dx, dy, hn, h1, h2, q⟩ := h
 obtain ⟨⟨as, a1⟩, a2, a3⟩ := RdD.reads I n x dx v h1 rx
 obtain ⟨⟨bs, b1⟩, b2, b3⟩ := RdD.reads I n y dy u h2 ry
 have sx : SeqAt.shaped dx = true := by unfold SeqAt.shaped; rw [a2, decide_eq_true (by omega)]; rfl
 have sy : SeqAt.shaped dy = true := by unfold SeqAt.shaped; rw [b2, decide_eq_true (by omega)]; rfl
 exact SeqAt.compareEq_shaped a1 b1 sx sy hu ⟨.bl _, H, I, rfl, q⟩
theorem op_neD (hu : X.A.units + 64 < cLine) : OpR X (compareOp .NotEq) (rEqD X.K true) := by
 intro pins s σ H x y v u Q I rx ry h
 obtain ⟨n, dx, dy, hn, h1, h2, q⟩ := h
 obtain ⟨⟨as, a1⟩, a2, a3⟩ := RdD.reads I n x dx v h1 rx
 obtain ⟨⟨bs, b1⟩, b2, b3⟩ := RdD.reads I n y dy u h2 ry
 have sx : SeqAt.shaped dx = true := by unfold SeqAt.shaped; rw [a2, decide_eq_true (by omega)]; rfl
 have sy : SeqAt.shaped dy = true := by unfold SeqAt.shaped; rw [b2, decide_eq_true (by omega)]; rfl
 exact SeqAt.compareNe_shaped a1 b1 sx sy hu ⟨.bl _, H, I, rfl, q⟩
end
end L2
namespace L2
open PySem PySem.Spec PyProof.Rows
structure Can (P : Program) (w : World) (K : PySem.W.Frag) (mg : Str → Option Value) (base : Heap) (k : Nat) (x : Str) (ps : List Str) (sp : Sp) : Prop where
 ex : ∃ (f : Addr) (fd : FuncData), FnOk P w K mg base CX0 k f fd ps sp ∧ mg x = some (.ref f) ∧ PySem.W.keepIn K (.ref f) = true ∧ Binds K fd ps []
structure CanM (P : Program) (w : World) (K : PySem.W.Frag) (mg : Str → Option Value) (base : Heap) (k : Nat) (C : Addr) (m : Str) (ps : List Str) (sp : Sp) : Prop where
 ex : ∃ (f : Addr) (fd : FuncData), FnOk P w K mg base CX0 k f fd ps sp ∧ Meth K C m f ∧ Binds K fd ps []
structure CanI (P : Program) (w : World) (K : PySem.W.Frag) (mg : Str → Option Value) (base : Heap) (k : Nat) (C : Addr) (ps : List Str) (sp : Sp) : Prop where
 ex : ∃ (f : Addr) (fd : FuncData), FnOk P w K mg base CX0 k f fd ps sp ∧ Mk K C f ∧ Binds K fd ps []
section
variable {P : Program} {w : World} {K : PySem.W.Frag} {mg : Str → Option Value} {base : Heap} {j k : Nat} {x m : Str} {ps : List Str} {sp sp' : Sp} {C : Addr}
end
section
variable {X : Cx} {k : Nat} {x m : Str} {ps : List Str} {sp : Sp} {C : Addr} {p pos apos : Pos} {e o : Expr} {es : List Expr} {ta : TE} {t : TA}
theorem pe_callC (c : Can X.prog X.w X.K X.mg X.base k x ps sp) (hr : Room k X.A) (hg : Gl X x) (ha : PA X (e :: es) t) (hdb : (x == ("__debug__" : Str)) = false := by decide)
  (he : starEach (e :: es) X.env = (false, eval e X.env) :: starEach es X.env := by rfl) (hpl : (backTo pos (starEach es X.env)).any (·.1) = false := by rfl) :
  PE X (.Call (.Name x p) (e :: es) [] pos) (tCall sp [] E0 t) := by
 obtain ⟨f, fd, F, hm, hk, hb⟩ := c.ex
 exact pe_call F hr hg hm hk hb .nil pass0 ha hdb he hpl
theorem pe_methC {pl : Sem Bool} (ho : PE X o ta) (c : Cls X.K C) (h : CanM X.prog X.w X.K X.mg X.base k C m ps sp) (hr : Room k X.A) (ha : PA X (e :: es) t)
  (hst : starEach (e :: es) X.env = (false, eval e X.env) :: starEach es X.env := by rfl) (hpl : (backTo pos (starEach es X.env)).any (·.1) = false := by rfl)
  (ht : eval (.Call (.Attribute o m apos) (e :: es) [] pos) X.env = (do
   let ov ← eval o X.env
   standAt apos.atName
   let (f, first) ← holding [ov] (getMethod ov m pl)
   callWith pos f first (backTo pos (starEach (e :: es) X.env)) (backToKw pos (keywordEach [] X.env))) := by rfl) :
  PE X (.Call (.Attribute o m apos) (e :: es) [] pos) (tMeth C m sp [] E0 ta t) := by
 obtain ⟨f, fd, F, hm, hb⟩ := h.ex
 exact pe_meth ho c hm F hr hb .nil pass0 ha hst hpl ht
theorem pe_methC0 {pl : Sem Bool} (ho : PE X o ta) (c : Cls X.K C) (h : CanM X.prog X.w X.K X.mg X.base k C m ps sp) (hr : Room k X.A)
  (ht : eval (.Call (.Attribute o m apos) [] [] pos) X.env = (do
   let ov ← eval o X.env
   standAt apos.atName
   let (f, first) ← holding [ov] (getMethod ov m pl)
   callWith pos f first (backTo pos (starEach [] X.env)) (backToKw pos (keywordEach [] X.env))) := by rfl) :
  PE X (.Call (.Attribute o m apos) [] [] pos) (tMeth C m sp [] E0 ta tNil) := by
 obtain ⟨f, fd, F, hm, hb⟩ := h.ex
 exact pe_meth0 ho c hm F hr hb .nil pass0 ht
theorem pe_makeC0 (h : CanI X.prog X.w X.K X.mg X.base k C ps sp) (hr : Room (k + 1) X.A) (hg : Gl X x) (hm : X.mg x = some (.ref C)) (hdb : (x == ("__debug__" : Str)) = false := by decide) :
  PE X (.Call (.Name x p) [] [] pos) (tMake C sp [] E0 tNil) := by
 obtain ⟨f, fd, F, M, hb⟩ := h.ex
 exact pe_make0 M F hr hg hm hb .nil pass0 hdb
end
def GlobIs (mg : Str → Option Value) (x : Str) (v : V) : Prop := ∃ u, mg x = some u ∧ RelV v u
theorem pe_globC {X : Cx} {x : Str} {v : V} {pos : Pos} (h : GlobIs X.mg x v) (hg : Gl X x) (hd : (x == ("__debug__" : Str)) = false := by decide) : PE X (.Name x pos) (tC v) := by
 obtain ⟨u, hm, r⟩ := h
 exact pe_glob hg hm r hd
theorem pe_ty {X : Cx} {x : Str} {T : String} {pos : Pos} (hm : X.mg x = none) (hg : Gl X x) (hv : bootBuiltins x = some (.type T)) (hn : x ≠ "__name__" := by decide) (hd : (x == ("__debug__" : Str)) = false := by decide) : PE X (.Name x pos) (tC (.ty T)) :=
 pe_bltn hg hm hv (show RelV (.ty T) (.type T) from rfl) hn hd
end L2
namespace L2
open PySem
theorem b_all : bootBuiltins "all" = some (.builtin "all") := by decide +kernel
theorem b_isi : bootBuiltins "isinstance" = some (.builtin "isinstance") := by decide +kernel
theorem b_len : bootBuiltins "len" = some (.builtin "len") := by decide +kernel
theorem b_str : bootBuiltins "str" = some (.type "str") := by decide +kernel
theorem b_int : bootBuiltins "int" = some (.type "int") := by decide +kernel
theorem b_bool : bootBuiltins "bool" = some (.type "bool") := by decide +kernel
theorem b_list : bootBuiltins "list" = some (.type "list") := by decide +kernel
theorem b_tuple : bootBuiltins "tuple" = some (.type "tuple") := by decide +kernel
theorem Same.upd {H H' : Hp} {p : Addr} {o : HO} (e : Same H H') (h : H' p = none) : Same H (L2.upd H' p o) := fun b ob z => by
 rw [upd_ne (ne_of_none (e b ob z) h)]
 exact e b ob z
theorem Same.new {H : Hp} {p : Addr} {o : HO} (h : H p = none) : Same H (L2.upd H p o) := (Same.refl H).upd h
end L2
namespace L2
open PySem
theorem slice_same (x : Str) (l u : Option Int) : Txt.slice x l u = StrLaws.sliceText x l u := rfl
theorem idx_clip (a b n : Nat) (h : n ≤ b) : Builtin.Str.strSliceIndices (some (a : Int)) (some (b : Int)) 1 n = Builtin.Str.strSliceIndices (some (a : Int)) (some (n : Int)) 1 n := by
 unfold Builtin.Str.strSliceIndices
 have e1 : ¬ ((b : Int) < 0) := by omega
 have e2 : ¬ ((n : Int) < 0) := by omega
 have e3 : min (b : Int) (n : Int) = n := by omega
 simp [e1, e2, e3]
theorem slice_list (z : Str) {a b : Nat} (ha : a ≤ z.length) (hab : a ≤ b) : (Txt.slice z (some (a : Int)) (some (b : Int))).cps.toList = (z.cps.toList.drop a).take (b - a) := by
 rw [slice_same]
 by_cases hb : b ≤ z.length
 ·rw [StrLaws.sliceText_nat z hab hb]
 ·have hb' : z.length ≤ b := by omega
  have e : StrLaws.sliceText z (some (a : Int)) (some (b : Int)) = StrLaws.sliceText z (some (a : Int)) (some (z.length : Int)) := by
   unfold StrLaws.sliceText
   rw [idx_clip a b z.length hb']
  rw [e, StrLaws.sliceText_nat z ha (Nat.le_refl _)]
  show (z.cps.toList.drop a).take (z.length - a) = _
  have hl : (z.cps.toList.drop a).length = z.length - a := by rw [List.length_drop]; rfl
  rw [List.take_of_length_le (by omega), List.take_of_length_le (by omega)]
theorem slice_to (z : Str) (b : Nat) : (Txt.slice z none (some (b : Int))).cps.toList = z.cps.toList.take b := by
 have e : Txt.slice z none (some (b : Int)) = Txt.slice z (some ((0 : Nat) : Int)) (some (b : Int)) := by
  rw [slice_same, slice_same]
  unfold StrLaws.sliceText
  rw [StrLaws.sliceIdx_none_lo]
  rfl
 rw [e, slice_list z (Nat.zero_le _) (Nat.zero_le _)]
 simp
theorem slice_from (z : Str) {a : Nat} (ha : a ≤ z.length) : (Txt.slice z (some (a : Int)) none).cps.toList = z.cps.toList.drop a := by
 have e : Txt.slice z (some (a : Int)) none = Txt.slice z (some (a : Int)) (some ((z.length : Nat) : Int)) := by
  rw [slice_same, slice_same]
  unfold StrLaws.sliceText
  rw [StrLaws.sliceIdx_none_hi]
 rw [e, slice_list z ha ha]
 have hl : (z.cps.toList.drop a).length = z.length - a := by rw [List.length_drop]; rfl
 rw [List.take_of_length_le (by omega)]
end L2
namespace L2
open PySem
def tCut (R : St → Hp → Prop) (t u : TS) : TS := fun D σ H => t { D with nx := R } σ H ∧ ∀ σ' H', R σ' H' → u D σ' H'
theorem pss_cut {X : Cx} {st : Stmt} {rest : List Stmt} {t u : TS} (R : St → Hp → Prop) (h1 : PS X st t) (h2 : PSs X rest u) : PSs X (st :: rest) (tCut R t u) := by
 intro pins s σ H D I h
 refine wpAny_execs_cons (thn (h1 pins s σ H { D with nx := R } I h.1) fun f s1 q => ?_)
 cases f with
 | next =>
  obtain ⟨σ', H', I', q⟩ := q
  exact h2 pins s1 σ' H' D I' (h.2 σ' H' q)
 | ret v => exact q
 | brk => exact q
 | cont => exact q
end L2
namespace L2
open PySem
end L2
namespace L2
open PySem
section
variable {X : Cx}
theorem pe_fldK {e : Expr} {f : Str} {pos : Pos} {ta : TE} (K : PySem.W.Frag) (hK : X.K = K) (he : PE X e ta) (hb : attributeBase e f X.env (eval e X.env) = eval e X.env) : PE X (.Attribute e f pos) (tFld K ta f) := by
 subst hK
 exact pe_fld he hb
theorem ix_tupK (K : PySem.W.Frag) (hK : X.K = K) : IxR X (rIxT K) := by
 subst hK
 exact ix_tup
theorem op_inK (K : PySem.W.Frag) (hK : X.K = K) : OpR X (compareOp .In) (rIn K false) := by
 subst hK
 exact op_in_seq
theorem op_notInK (K : PySem.W.Frag) (hK : X.K = K) : OpR X (compareOp .NotIn) (rIn K true) := by
 subst hK
 exact op_notIn_seq
theorem op_eqDK (K : PySem.W.Frag) (hK : X.K = K) (hu : X.A.units + 64 < cLine) : OpR X (compareOp .Eq) (rEqD K false) := by
 subst hK
 exact op_eqD hu
end
end L2
namespace L2
theorem iteFb {b : Bool} {A B : Prop} (h : b = false) (hB : B) : if b = true then A else B := by rw [h]; exact iteF hB
theorem iteTb {b : Bool} {A B : Prop} (h : b = true) (hA : A) : if b = true then A else B := by rw [h]; exact iteT hA
end L2
namespace L2
open PySem
def tCutE (t u : TS) : TS := fun D σ H => ∃ R : St → Hp → Prop, t { D with nx := R } σ H ∧ ∀ σ' H', R σ' H' → u D σ' H'
theorem pss_cutE {X : Cx} {st : Stmt} {rest : List Stmt} {t u : TS} (h1 : PS X st t) (h2 : PSs X rest u) : PSs X (st :: rest) (tCutE t u) := by
 intro pins s σ H D I h
 obtain ⟨R, ha, hb⟩ := h
 exact pss_cut R h1 h2 pins s σ H D I ⟨ha, hb⟩
end L2
namespace L2
open PySem
theorem cutV_to (xs : List V) {n : Nat} (h : n ≤ xs.length) : cutV xs none (some (n : Int)) = xs.take n := by
 unfold cutV
 rw [HT.sIx_nat, HT.sIx_none, Nat.min_eq_left h, List.drop_zero, Nat.sub_zero]
end L2
namespace L2
open PySem PySem.Spec PyProof.Rows
section
variable {P : Program} {w : World} {l : List Env} {H H' : Hp} {h0 h1 h2 B : Heap}
end
section
variable {X : Cx} {pins : List (Addr × Obj)} {σ : St} {H : Hp} {s s' : Shared} {E : XK} {M : Model} {E2 : Value → Shared → Prop}
end
section
variable {P : Program} {w : World} {K : PySem.W.Frag} {mg : Str → Option Value} {base : Heap}
end
section
variable {P : Program} {w : World} {K : PySem.W.Frag} {mg : Str → Option Value} {base : Heap} {j k : Nat} {x m : Str} {ps : List Str} {sp sp' : Sp} {C : Addr}
end
section
variable {X : Cx} {k : Nat} {x m : Str} {ps : List Str} {sp : Sp} {C : Addr} {p pos apos : Pos} {e o : Expr} {es : List Expr} {ta : TE} {t : TA} {E : XK}
end
section
variable {X : Cx}
end
end L2
namespace L2
open PySem
section
variable {X : Cx} {k : Nat} {x m : Str} {ps : List Str} {sp : Sp} {C : Addr} {p pos apos : Pos} {e o : Expr} {es : List Expr} {ta : TE} {t : TA}
end
end L2
namespace L2
open PySem PySem.Spec PyProof.Rows
namespace Tx
open Builtin Builtin.Str PySem.StrLaws
end Tx
end L2
namespace L2
open PySem PySem.Spec PyProof.Rows
namespace Tx
open PySem.NumText PySem.W
end Tx
section
variable {X : Cx}
end
theorem Inv.turnedL {X : Cx} {pins : List (Addr × Obj)} {σ : St} {H : Hp} {s : Shared} {h' : Heap} {t' : Nat} {fp : List Addr} (I : Inv X pins σ H s) (k : ∀ b o, b ∉ fp → s.heap.get? b = some o → h'.get? b = some o) (hf : ∀ b ∈ fp, FpOk X pins H b) :
  Inv X pins σ H { s with heap := h', toks := t' } := by
 have nf : ∀ b u, H b = some u → b ∉ fp := fun b u e z => by rw [(hf b z).1] at e; cases e
 have nL : X.env.locals ∉ fp := fun z => (hf _ z).2.1 rfl
 refine I.step (g' := s.gens) (d' := s.drawn) (ch := fp) (fun b hb => ?_) (fun b o _ _ hc e _ => k b o hc e) (fun b o _ _ hc e _ => ⟨o.slots, k b o hc e⟩) (fun _ _ _ _ n => n)
  (fun b o hc e => ⟨o, k b o hc e⟩) (fun _ _ e => e) (fun _ _ _ e => e) (fun b ps e => ⟨#[], by rw [e]; simp⟩) (fun m hm => ?_) (fun b u e => ?_) I.bare
 ·obtain ⟨_, g1, _, g3, g4, g5⟩ := hf b hb
  exact ⟨g3, g1, g4, g5⟩
 ·obtain ⟨o, es, ep, ho, r⟩ := hm
  exact ⟨o, es, ep, k _ o nL ho, r⟩
 ·refine (I.hok b u e).stay (fun c v hc q => k c v ?_ q) (fun _ q => q) fun _ _ q => q
  rcases hc with z | z
  ·rw [z]; exact nf b u e
  ·exact nf c _ z
def Ite (K : PySem.W.Frag) (a : Addr) : It :=
 ⟨fun i H => ∃ xs x, SqL K H a xs ∧ xs[i]? = some x, fun i H v H' => ∃ t, H t = none ∧ v = .ref t ∧ ∀ xs, SqL K H a xs → ∃ x, xs[i]? = some x ∧ H' = upd H t (.tup [.int i, x]), fun i H => ∃ xs, SqL K H a xs ∧ xs.length ≤ i⟩
theorem turn_enum {P : Program} {w : World} {K : PySem.W.Frag} {elts : List Expr} {k : Nat} {pos : Pos} (a e it : Addr) (ne : e ≠ it) : Turn P w K (.Tuple elts k pos) (Ite K a) [e, it] e (fun i h => (∃ old, IsEnum h e it i old) ∧ h.IsListIter it a i) where
 mem := by simp
 obj := fun i h st b hb => by
  obtain ⟨⟨old, he⟩, o, hi, hc, hd⟩ := st
  simp at hb
  rcases hb with rfl | rfl
  ·exact ⟨_, he, fun v z => by cases z⟩
  ·exact ⟨o, hi, fun v z => by rw [hd] at z; cases z⟩
 keep := fun i h h' st kp => by
  obtain ⟨⟨old, he⟩, hi⟩ := st
  exact ⟨⟨old, kp e (by simp) _ he⟩, hi.at fun o x => kp it (by simp) o x⟩
 item := by
  intro X hP hw hK hc i pins s σ H E I hf st hg
  subst hP hw hK
  obtain ⟨⟨old, he⟩, hit⟩ := st
  obtain ⟨xs, x, hq, hx⟩ := hg
  obtain ⟨its, rv, p, hz⟩ := I.list hq
  obtain ⟨u, hu, ru⟩ := rv.get hx
  have le : e < s.heap.objs.size := Heap.lt_size he
  have li : it < s.heap.objs.size := by obtain ⟨_, y, _⟩ := hit; exact Heap.lt_size y
  refine wpAny_pyNext_enum_item he hit p.isList (x := u) (by simpa using hu) ne fun h' ho hit' hT hsz hk => ⟨_, rfl, ?_⟩
  refine wpAny_letOwnedTupleGo_enum ho fun h2 he2 hs2 => ?_
  have I1 : Inv X pins σ (upd H s.heap.objs.size (.tup [.int i, x])) { s with heap := s.heap.push { cls := .type "tuple", data := .seq #[.int i s.toks, u] }, toks := s.toks + 1 } :=
   I.laid (fun b o q => Heap.get?_push_of_some _ q) (Nat.le_refl _) ⟨by show 2 ≤ sizeLine; decide, [.int i s.toks, u], .cons ⟨_, rfl⟩ (.cons ru .nil), ⟨_, Heap.get?_push_size _ rfl, rfl, _, rfl⟩⟩
  have nn : ∀ b ∈ [e, it], b ≠ s.heap.objs.size := fun b hb => by
   simp at hb
   rcases hb with rfl | rfl
   ·exact Nat.ne_of_lt le
   ·exact Nat.ne_of_lt li
  have I2 : Inv X pins σ (upd H s.heap.objs.size (.tup [.int i, x])) { s with heap := h2, toks := s.toks + 1 } := by
   refine Inv.turnedL (s := { s with heap := s.heap.push { cls := .type "tuple", data := .seq #[.int i s.toks, u] }, toks := s.toks + 1 }) I1 (h' := h2) (t' := s.toks + 1) (fp := [e, it]) (fun b o hb q => ?_) fun b hb => ?_
   ·have b1 : b ≠ e := fun z => hb (by simp [z])
    have b2 : b ≠ it := fun z => hb (by simp [z])
    refine (hs2.2 b b1).trans ?_
    rcases Heap.get?_push_cases q with ⟨z1, z2⟩ | z
    ·rw [z1, z2]; exact hT
    ·exact hk b o b1 b2 z
   ·obtain ⟨f0, f1, f2, f3, f4, f5⟩ := hf b hb
    exact ⟨by rw [upd_ne (nn b hb)]; exact f0, f1, f2, f3, f4, f5⟩
  refine ⟨.ref s.heap.objs.size, _, I2, rfl, ⟨_, I.fresh, rfl, fun ys hy => ⟨x, by rw [I.list_inj hy hq]; exact hx, rfl⟩⟩, ⟨⟨_, he2⟩, hit'.at fun o y => (hs2.2 it ne.symm).trans y⟩, fun b hb => ?_⟩
  rw [upd_ne (nn b hb)]
  exact (hf b hb).1
 done := by
  intro X hP hw hK hc i pins s σ H E I hf st hg
  subst hP hw hK
  obtain ⟨⟨old, he⟩, hit⟩ := st
  obtain ⟨xs, hq, hx⟩ := hg
  obtain ⟨its, rv, p, hz⟩ := I.list hq
  have hl := rv.length
  exact wpAny_pyNext_enum_end (I.ok.hd hc) he hit p.isList (by simp; omega) fun h' eb => ⟨rfl, I.turnedL (t' := s.toks) (fp := [e, it]) (fun b o hb y => eb b o (fun z => hb (by simp [z])) y) hf⟩
 self := fun _ _ _ _ _ st h => wpAny_pyIter_enum st.1.choose_spec h
def iEnum (K : PySem.W.Frag) (ta : TA) : TI := fun σ H R => ta σ H fun vs H1 => ∃ a, vs = [.ref a] ∧ (∃ xs, SqL K H1 a xs) ∧ R (Ite K a) H1
theorem pi_enum {X : Cx} {elts : List Expr} {k : Nat} {tpos : Pos} {l : Expr} {ta : TA} {p pos : Pos} (hg : Gl X "enumerate") (hm : X.mg "enumerate" = none) (ha : PA X [l] ta) (hs : starEach [l] X.env = [(false, eval l X.env)] := by rfl) : PI X (.Tuple elts k tpos) (.Call (.Name "enumerate" p) [l] [] pos) (iEnum X.K ta) := by
 intro pins s σ H R I h
 refine Call_ (ld_blt (u := .type "enumerate") I hg hm (by kernel_rfl) (PyProof.Rows.callWith_type1 (thn (ha pos pins s σ H _ I h) fun us s1 ⟨vs, H1, I1, r1, q1⟩ => ?_) hs rfl))
 obtain ⟨a, rfl, ⟨xs, hq⟩, q⟩ := q1
 obtain ⟨u, rfl, ru⟩ := vals1 r1
 cases ru
 obtain ⟨its, rv, pl, hz⟩ := I1.list hq
 refine call_enumerate_list pl.isList fun h' hE hI hsz hk => wpAny_pyIter_enum hE ?_
 refine ⟨s1.heap.objs.size + 1, [s1.heap.objs.size + 1, s1.heap.objs.size], _, _, H1, rfl, I1.kept (t' := s1.toks) hk, turn_enum a _ _ (Nat.succ_ne_self _), ⟨⟨_, hE⟩, hI⟩, fun b hb => ?_, q⟩
 have hb' : s1.heap.objs.size ≤ b := by
  simp at hb
  rcases hb with rfl | rfl <;> omega
 exact I1.fpOk hb' (I1.hok.fresh hb')
theorem for_enum {K : PySem.W.Frag} {a : Addr} {xs : List V} {g : TG} {tb : TS} {D : Ends} {σ : St} {H : Hp} (Pv : Nat → St → Hp → Prop) (h0 : Pv 0 σ H) (hl : ∀ i σ H, i ≤ xs.length → Pv i σ H → SqL K H a xs)
  (hs : ∀ i x σ H t, xs[i]? = some x → Pv i σ H → H t = none → g (.ref t) σ (upd H t (.tup [.int i, x])) fun σ2 H2 => tb { D with nx := Pv (i + 1), ct := Pv (i + 1), bk := D.nx } σ2 H2) (hd : ∀ σ H, Pv xs.length σ H → D.nx σ H) :
  ∃ W : Nat → Nat → St → Hp → Prop, (∃ m, W 0 m σ H) ∧ ∀ i m σ H, W i m σ H →
   ((Ite K a).stop i H ∧ D.nx σ H) ∨ ((Ite K a).go i H ∧ ∃ N : St → Hp → Prop, (∀ σ' H', N σ' H' → ∃ m', m' < m ∧ W (i + 1) m' σ' H') ∧ ∀ x H', (Ite K a).yld i H x H' → g x σ H' fun σ2 H2 => tb { D with nx := N, ct := N, bk := D.nx } σ2 H2) := by
 refine ⟨fun i m σ H => m = xs.length - i ∧ i ≤ xs.length ∧ Pv i σ H, ⟨xs.length, by simp, Nat.zero_le _, h0⟩, ?_⟩
 rintro i m σ H ⟨rfl, hi, p⟩
 have q := hl i σ H hi p
 by_cases hlt : i < xs.length
 ·refine .inr ⟨⟨xs, xs[i], q, by simp [hlt]⟩, Pv (i + 1), fun σ' H' p' => ⟨xs.length - (i + 1), by omega, rfl, hlt, p'⟩, fun x H' y => ?_⟩
  obtain ⟨t, ht, rfl, y⟩ := y
  obtain ⟨x, hx, rfl⟩ := y xs q
  exact hs i x σ H t hx p ht
 ·have e : i = xs.length := by omega
  subst e
  exact .inl ⟨⟨xs, q, Nat.le_refl _⟩, hd σ H p⟩
end L2
namespace L2
open PySem PySem.Spec PyProof.Rows
theorem dl_entry : entryFor table "dict.update.loop" = some Builtin.«dict.update.loop» := entryFor_of_fast (by kernel_rfl)
theorem dl_plain : plainId "dict.update.loop" = true := by decide +kernel
theorem keys_miss : typeLookup (.type "list") ("keys" : Str) = pure none := am_miss_of_fast (by decide +kernel)
section
variable {prog : Program} {w : World} {A : Around} {E : Value → Shared → Prop} {s : Shared}
theorem no_keys {a : Addr} {xs : Array Value} {k : Nat} {Q : Option Value → Shared → Prop} {sl : Array (Option Value)} (hx : s.heap.get? a = some { cls := .type "list", dict := none, data := .seq xs k, slots := sl }) (hA : A.handled = none)
  (h : ∀ h' tk, (∀ b o, s.heap.get? b = some o → h'.get? b = some o) → Q none { s with heap := h', toks := tk }) : wpAny (model prog w) A (getAttr? (.ref a) "keys") Q E s := by
 obtain ⟨hp, g, d, tk, os⟩ := s
 have hT : ∀ tk', (⟨hp, g, d, tk', os⟩ : Shared).TypeIs (.ref a) "list" := fun _ => ⟨_, hx, rfl⟩
 have f1 := sub_AttributeError
 have f3 := F.slot_list_getattribute.lookup
 have f4 := F.slot_list_getattribute.bind (.ref a)
 have f5 := am_list_getattr_none
 unfold getAttr? getAttrBy? getAttrBy
 repeat (any_goals (first | assumption | exact hT _ | ((with_reducible show wpAny _ _ (call (Value.builtin "list.__getattribute__") _ _) _ _ _); refine call_meets F.slot_list_getattribute (hT _) am_entry_list_getattribute (F.args_list_getattribute_2 _ _) (meets_getattribute_miss_list a xs k sl "keys" _ keys_miss (by decide +kernel)) ⟨hx, hA, fun h' tk' e hx' => ?_⟩) | wp_step))
 obtain ⟨t', u', he⟩ := hx'.there
 show wpAny _ _ (getattributeRaised _ _ _ _ _ _ _) _ _ _
 unfold getattributeRaised
 repeat (any_goals (first | assumption | wp_step))
 exact h _ _ hx'.keeps
end
section
variable {prog : Program} {w : World} {A : Around} {R : Result → Shared → Prop} {I : Addr} {fp wr : List Addr} {n : Nat} {P : Nat → Value → Prop} {St : Nat → Heap → Prop}
theorem stored_len (vs : List (Key × Value)) (k : Key) (x : Value) : (stored vs k x).length ≤ vs.length + 1 := by
 unfold stored
 split <;> simp
theorem dict_loop (W : Walks prog w A.in1 I fp wr n P St) (D : Addr) (hD : D ∉ fp) (bs : List Addr) (ks : List (Key × Value)) (hk : ks.length = n)
  (hP : ∀ (i : Nat) (v : Value), P i v → ∃ b : Addr, v = .ref b ∧ bs[i]? = some b) (hsz : n ≤ sizeLine) (hw : ∀ b ∈ bs, b ∉ wr ∧ b ≠ D) :
  ∀ (k i : Nat) (s : Shared) (vs : List (Key × Value)) (j : Int), n - i = k → i ≤ n → St i s.heap → s.heap.DictOf (mixKind prog w) D vs → vs.length ≤ i →
  (∀ (j : Nat) (b : Addr) (kv : Key × Value), bs[j]? = some b → ks[j]? = some kv → ∃ u, keyIs kv.1 u = true ∧ IsTup s.heap b #[u, kv.2]) →
  (∀ h' tk, h'.DictOf (mixKind prog w) D (merged vs (ks.drop i)) → (∀ b o, b ∉ wr → b ≠ D → s.heap.get? b = some o → h'.get? b = some o) → R (.ok (.ret .none)) { s with heap := h', toks := tk }) →
  codeAny (model prog w) A (.builtin "dict.update.loop" ⟨[.ref D, .ref I, rawInt j, .none], []⟩) R s := by
 have hDw : D ∉ wr := fun h => hD (W.sub _ h)
 intro k
 induction k with
 | zero =>
  intro i s vs j hk' hi hst hd hl hb hR
  have hin : i = n := by omega
  subst hin
  refine codeAny_builtin dl_entry ?_
  rw [Around.under_plainId dl_plain _]
  show wpAny _ A.in1 (pyNext (.ref I) >>= _) _ _ s
  refine wpAny_bind (W.done s _ _ hst fun h' tk hk2 => ?_)
  show wpAny _ A.in1 (Builtin.Dict.addKeywords D [] >>= _) _ _ _
  refine wpAny_bind (wpAny_pure ?_)
  refine wpAny_pure (hR h' tk ?_ fun b o h1 _ e => hk2 b o h1 e)
  rw [List.drop_of_length_le (by omega)]
  exact hd.at fun o e => hk2 D o hDw e
 | succ k ih =>
  intro i s vs j hk' hi hst hd hl hb hR
  have hlt : i < n := by omega
  refine codeAny_builtin dl_entry ?_
  rw [Around.under_plainId dl_plain _]
  show wpAny _ A.in1 (pyNext (.ref I) >>= _) _ _ s
  refine wpAny_bind (W.item i s _ _ hlt hst fun v h1 tk hv hst1 hk1 => ?_)
  obtain ⟨b, rfl, eb⟩ := hP i v hv
  have hi2 : i < ks.length := by omega
  have ek : ks[i]? = some ks[i] := List.getElem?_eq_getElem hi2
  obtain ⟨u, hu, ho⟩ := hb i b _ eb ek
  obtain ⟨hbw, hbD⟩ := hw b (List.mem_of_getElem? eb)
  have ho1 : IsTup h1 b #[u, ks[i].2] := let ⟨o, e, r⟩ := ho; ⟨o, hk1 b o hbw e, r⟩
  obtain ⟨o, e, c, m, dd⟩ := ho1
  have hd1 : h1.DictOf (mixKind prog w) D vs := hd.at fun o e => hk1 D o hDw e
  show wpAny _ A.in1 (holding [Value.ref b] _ >>= _) _ _ _
  refine wpAny_bind (wpAny_holding ?_)
  refine wpAny_bind (wpAny_tryCatch ?_)
  unfold Builtin.Dict.pairItems
  refine wpAny_bind (wpAny_typeOf (T := "tuple") ⟨o, e, c⟩ ?_)
  rw [if_pos (by decide)]
  refine wpAny_bind (wpAny_seqItems e dd (wpAny_pure ?_))
  show wpAny _ A.in1 (holding [u, ks[i].2] (dictSet D u ks[i].2)) _ _ _
  refine wpAny_holding (wpAny_dictSet_pairs (knd := mixKind prog w) (k := ks[i].1) hu hd1 (fun h2 hd2 hs2 => ?_) (by omega))
  refine wpAny_pure ⟨plainId_quiet dl_plain _, ?_⟩
  refine ih (i + 1) _ (stored vs ks[i].1 ks[i].2) (j + 1) (by omega) (by omega) (W.frame _ _ _ hst1 fun b hb o e => ?_) hd2 (Nat.le_trans (stored_len _ _ _) (by omega)) (fun j' b' kv' e1 e2 => ?_) fun h3 tk3 hd3 hk3 => ?_
  ·exact (hs2.2 b (fun z => hD (z ▸ hb))).trans e
  ·obtain ⟨u', hu', ⟨o', e', r'⟩⟩ := hb j' b' kv' e1 e2
   obtain ⟨q1, q2⟩ := hw b' (List.mem_of_getElem? e1)
   exact ⟨u', hu', o', (hs2.2 b' q2).trans (hk1 b' o' q1 e'), r'⟩
  ·refine hR h3 tk3 ?_ fun b' o' q1 q2 e' => hk3 b' o' q1 q2 ((hs2.2 b' q2).trans (hk1 b' o' q1 e'))
   rw [List.drop_eq_getElem_cons hi2]
   exact hd3
theorem dict_pairs {E : Value → Shared → Prop} {s : Shared} {src : Addr} {its : Array Value} {c : Nat} {sl : Array (Option Value)} {Q : Value → Shared → Prop} (hh : A.handled = none) (hs : s.heap.get? src = some { cls := .type "list", dict := none, data := .seq its c, slots := sl })
  (bs : List Addr) (ks : List (Key × Value)) (hk : ks.length = its.size) (hP : ∀ (i : Nat) (v : Value), its[i]? = some v → ∃ b : Addr, v = .ref b ∧ bs[i]? = some b) (hsz : its.size ≤ sizeLine)
  (hb : ∀ (j : Nat) (b : Addr) (kv : Key × Value), bs[j]? = some b → ks[j]? = some kv → ∃ u, keyIs kv.1 u = true ∧ IsTup s.heap b #[u, kv.2]) (hbl : bs.length = ks.length)
  (h : ∀ h' tk, h'.DictOf (mixKind prog w) s.heap.objs.size (merged [] ks) → (∀ b o, s.heap.get? b = some o → h'.get? b = some o) → Q (.ref s.heap.objs.size) { s with heap := h', toks := tk }) :
  wpAny (model prog w) A (call (.type "dict") [.ref src]) Q E s := by
 refine callType_codes (Q₁ := fun x t₁ => x = .ref s.heap.objs.size ∧ t₁ = { s with heap := s.heap.push { cls := .type "dict", data := .dict #[] } }) F.kt_called_dict (F.kt_typeCall_dict_1 _) F.entry_dict_init (kt_code_dict_new _ ⟨rfl, rfl⟩) ?_
 rintro x t₁ ⟨rfl, rfl⟩
 have eD : (s.heap.push { cls := .type "dict", data := .dict #[] }).DictOf (mixKind prog w) s.heap.objs.size [] := Heap.DictOf.new s.heap
 have hl := Heap.get?_push_of_some { cls := .type "dict", data := .dict #[] } hs
 refine ⟨eD.typeIs, F.args_dict_init_2 _ _, ?_⟩
 unfold Builtin.«dict.__init__»; refine wpAny_bind ?_; unfold Builtin.Dict.selfAndRest
 refine wpAny_bind (wpAny_notOrdered_dict eD.typeIs (show wpAny _ _ (pure (s.heap.objs.size, [Value.ref src])) _ _ _ from wpAny_pure (show wpAny _ _ (Builtin.Dict.updateFrom "dict.__init__" s.heap.objs.size (.ref src) [] .none) _ _ _ from ?_)))
 unfold Builtin.Dict.updateFrom
 refine wpAny_bind (wpAny_typeOf (T := "list") ⟨_, hl, rfl⟩ ?_)
 rw [if_pos (by decide)]
 refine wpAny_bind (no_keys hl (show A.in1.in1.handled = none from hh) fun h1 tk1 k1 => ?_)
 rw [if_pos (by rfl)]
 refine wpAny_bind (wpAny_rule ?_)
 have hl1 := k1 _ _ hl
 refine wpAny_bind (wpAny_pyIter_list (items := its) ⟨_, hl1, rfl, c, rfl⟩ ?_)
 have hlt : src < h1.objs.size := Heap.lt_size hl1
 have hsrc : src < s.heap.objs.size := Heap.lt_size hs
 have hD1 : s.heap.objs.size < h1.objs.size := by
  obtain ⟨o, _, _, e, _⟩ := eD
  exact Heap.lt_size (k1 _ _ e)
 refine wpAny_pure ⟨plainId_quiet dl_plain _, ?_⟩
 refine dict_loop (A := A.in1) (Walks.list (A := A.in1.in1) (show A.in1.in1.handled = none from hh) h1.objs.size src (Nat.ne_of_lt hlt) its) s.heap.objs.size (fun z => ?_) bs ks hk hP hsz (fun b hb' => ?_) its.size 0 _ [] 0 rfl (Nat.zero_le _)
  ⟨⟨_, Heap.get?_push_size _ rfl, rfl, rfl⟩, ⟨_, Heap.get?_push_of_some _ hl1, rfl, c, rfl⟩⟩ ?_ (Nat.le_refl _) (fun j b kv e1 e2 => ?_) fun h2 tk2 hd2 hk2 => ?_
 ·rcases List.mem_cons.mp z with z | z
  ·exact absurd z (Nat.ne_of_lt hD1)
  ·exact absurd (List.mem_singleton.mp z).symm (Nat.ne_of_lt hsrc)
 ·obtain ⟨j, hj, e⟩ := List.mem_iff_getElem.mp hb'
  obtain ⟨u, hu, ⟨o, eo, _⟩⟩ := hb j b (ks[j]'(by omega)) (by rw [List.getElem?_eq_getElem hj, e]) (List.getElem?_eq_getElem _)
  have lt := Heap.lt_size eo
  exact ⟨fun z => absurd (List.mem_singleton.mp z) (Nat.ne_of_lt (Nat.lt_trans lt hD1)), Nat.ne_of_lt lt⟩
 ·obtain ⟨o, es, ep, e, r⟩ := eD
  exact ⟨o, es, ep, Heap.get?_push_of_some _ (k1 _ _ e), r⟩
 ·obtain ⟨u, hu, ⟨o, eo, r⟩⟩ := hb j b kv e1 e2
  exact ⟨u, hu, o, Heap.get?_push_of_some _ (k1 _ _ (Heap.get?_push_of_some _ eo)), r⟩
 ·refine ⟨rfl, h h2 tk2 hd2 fun b o e => ?_⟩
  have lt := Heap.lt_size e
  exact hk2 b o (fun z => absurd (List.mem_singleton.mp z) (Nat.ne_of_lt (Nat.lt_trans lt hD1))) (Nat.ne_of_lt lt) (Heap.get?_push_of_some _ (k1 _ _ (Heap.get?_push_of_some _ e)))
end
section
variable {X : Cx}
theorem call_dictP (hc : X.calm = true) : CallR X (.type "dict") (fun xs H Q => ∃ (p : Addr) (ps : List (Addr × Key × V)), xs = [.ref p] ∧ SqL X.K H p (ps.map fun q => V.ref q.1) ∧ (∀ q ∈ ps, SqT X.K H q.1 [kV q.2.1, q.2.2]) ∧ ∀ l, H l = none → Q (.ref l) (upd H l (.dK (mergeK [] (ps.map (·.2)))))) := by
 intro pins s σ H xs us Q I r h
 obtain ⟨p, ps, rfl, hp, hq, q⟩ := h
 obtain ⟨u, rfl, ru⟩ := vals1 r
 cases ru
 obtain ⟨its, rv, ⟨o, n, e, c1, c2, c3⟩, hz⟩ := I.list hp
 obtain ⟨oc, od, oda, osl⟩ := o
 simp only at c1 c2 c3
 subst c1 c2 c3
 have hlen := rv.length
 rw [List.length_map] at hlen hz
 have mk : ∀ ps : List (Addr × Key × V), (∀ q ∈ ps, SqT X.K H q.1 [kV q.2.1, q.2.2]) → ∃ ks : List (Key × Value), KV (ps.map (·.2)) ks ∧ ∀ (j : Nat) (b : Addr) (kv : Key × Value), (ps.map (·.1))[j]? = some b → ks[j]? = some kv → ∃ u, keyIs kv.1 u = true ∧ IsTup s.heap b #[u, kv.2] := by
  intro ps
  induction ps with
  | nil => intro _; exact ⟨[], .nil, fun j b kv e => by simp at e⟩
  | cons a r ih =>
   intro hq
   obtain ⟨ks, k1, k2⟩ := ih fun x hx => hq x (List.mem_cons_of_mem _ hx)
   obtain ⟨its', rv', ht', _⟩ := I.tuple (hq a List.mem_cons_self)
   obtain ⟨u1, u2, rfl, r1, r2⟩ := vals2 rv'
   refine ⟨(a.2.1, u2) :: ks, .cons ⟨rfl, r2⟩ k1, fun j b kv e1 e2 => ?_⟩
   cases j with
   | zero =>
    simp at e1 e2
    subst e1 e2
    exact ⟨u1, kV_is (P := X.prog) (w := X.w) r1, ht'⟩
   | succ j => exact k2 j b kv (by simpa using e1) (by simpa using e2)
 obtain ⟨ks, k1, k2⟩ := mk ps hq
 have kl := k1.length
 rw [List.length_map] at kl
 refine dict_pairs (I.ok.hd hc) e (ps.map (·.1)) ks (by simp; omega) (fun i v ev => ?_) (by simp; omega) k2 (by simp; omega) fun h' tk hd hk => ?_
 ·have ev' : its[i]? = some v := by simpa using ev
  have hi : i < ps.length := by rw [hlen]; exact (List.getElem?_eq_some_iff.mp ev').1
  obtain ⟨u', hu', ru'⟩ := rv.get (i := i) (x := .ref ps[i].1) (by simp [hi])
  rw [ev'] at hu'
  cases hu'
  cases ru'
  exact ⟨ps[i].1, rfl, by simp [hi]⟩
 ·have hm : KV (mergeK [] (ps.map (·.2))) (merged [] ks) := KV.merge k1 .nil
  have hz2 : (mergeK [] (ps.map (·.2))).length ≤ sizeLine := by
   have := length_mergeK (ps.map (·.2)) []
   rw [List.length_map] at this
   simp at this
   omega
  have hbig : (s.heap.objs.size == sysModules) = false := by
   have lt := I.big
   exact beq_eq_false_iff_ne.mpr (Nat.ne_of_gt lt)
  exact ⟨.ref s.heap.objs.size, _, I.laid (t' := tk) (o := .dK (mergeK [] (ps.map (·.2)))) hk (Nat.le_refl _) ⟨hz2, hbig, _, hm, hd⟩, rfl, q _ (I.hok.fresh (Nat.le_refl _))⟩
theorem call_sum (hc : X.calm = true) : CallR X (.builtin "sum") (fun xs H Q => ∃ (p : Addr) (ns : List Int), xs = [.ref p] ∧ SqL X.K H p (ns.map V.int) ∧ Q (.int ns.sum) H) := by
 intro pins s σ H xs us Q I r h
 obtain ⟨p, ns, rfl, hp, q⟩ := h
 obtain ⟨u, rfl, ru⟩ := vals1 r
 cases ru
 obtain ⟨its, rv, ht, hz⟩ := I.list hp
 have hi := intsAre_of rv
 obtain ⟨xs, hx⟩ := hi.allInts.items
 have hn : numsOf its.toArray.toList = ns := by rw [show its.toArray.toList = its from rfl, hi.numsOf]
 have hl := ht.isList
 rw [hx] at hl hn
 rw [nums_intItems] at hn
 refine sum_intListG (show X.A.handled = none from I.ok.hd hc) hl fun h' tk t' hk => ?_
 rw [preSum_eq, List.take_of_length_le (by simp), hn]
 exact ⟨.int ns.sum, H, I.kept (t' := tk) hk, ⟨t', rfl⟩, q⟩
theorem mergeK_new : ∀ (more acc : List (Key × V)), ((acc ++ more).map (·.1)).Nodup → mergeK acc more = acc ++ more
 | [], acc, _ => by simp [mergeK]
 | p :: r, acc, h => by
  have hn : ¬ (acc.any fun kv => decide (kv.1 = p.1)) = true := fun z => by
   obtain ⟨kv, h1, h2⟩ := List.any_eq_true.mp z
   rw [List.map_append, List.map_cons] at h
   have := (List.nodup_append.mp h).2.2 kv.1 (List.mem_map_of_mem h1) p.1 List.mem_cons_self
   exact this (of_decide_eq_true h2)
  have e : putK acc p.1 p.2 = acc ++ [p] := by
   unfold putK
   rw [if_neg hn]
  show mergeK (putK acc p.1 p.2) r = _
  rw [e, mergeK_new r (acc ++ [p]) (by simpa using h)]
  simp
theorem b_dict : bootBuiltins "dict" = some (.type "dict") := by decide +kernel
theorem b_sum : bootBuiltins "sum" = some (.builtin "sum") := by decide +kernel
end
theorem k_s_l (K : PySem.W.Frag) : PySem.W.kitOne K (.type "str") (.type "list") = some false := by first | rfl | kernel_rfl
theorem k_i_l (K : PySem.W.Frag) : PySem.W.kitOne K (.type "int") (.type "list") = some false := by first | rfl | kernel_rfl
theorem k_b_l (K : PySem.W.Frag) : PySem.W.kitOne K (.type "bool") (.type "list") = some false := by first | rfl | kernel_rfl
theorem k_n_l (K : PySem.W.Frag) : PySem.W.kitOne K (.type "NoneType") (.type "list") = some false := by first | rfl | kernel_rfl
theorem k_t_l (K : PySem.W.Frag) : PySem.W.kitOne K (.type "tuple") (.type "list") = some false := by first | rfl | kernel_rfl
theorem k_i_s (K : PySem.W.Frag) : PySem.W.kitOne K (.type "int") (.type "str") = some false := by first | rfl | kernel_rfl
theorem k_b_s (K : PySem.W.Frag) : PySem.W.kitOne K (.type "bool") (.type "str") = some false := by first | rfl | kernel_rfl
theorem k_n_s (K : PySem.W.Frag) : PySem.W.kitOne K (.type "NoneType") (.type "str") = some false := by first | rfl | kernel_rfl
theorem k_t_s (K : PySem.W.Frag) : PySem.W.kitOne K (.type "tuple") (.type "str") = some false := by first | rfl | kernel_rfl
theorem k_l_s (K : PySem.W.Frag) : PySem.W.kitOne K (.type "list") (.type "str") = some false := by first | rfl | kernel_rfl
end L2
namespace L2
open PySem PySem.Spec PyProof.Rows
def dedS (l : List Str) : List Str := l.foldl (fun σ v => if v ∈ σ then σ else σ ++ [v]) []
theorem ded_snoc (l : List Str) (v : Str) : dedS (l ++ [v]) = if v ∈ dedS l then dedS l else dedS l ++ [v] := by
 unfold dedS
 rw [List.foldl_append]
 rfl
theorem snoc_ind {C : List Str → Prop} (h0 : C []) (h1 : ∀ l v, C l → C (l ++ [v])) (l : List Str) : C l := by
 have key : ∀ m : List Str, C m.reverse := by
  intro m
  induction m with
  | nil => exact h0
  | cons x r ih => rw [List.reverse_cons]; exact h1 _ _ ih
 have := key l.reverse
 rwa [List.reverse_reverse] at this
theorem mem_ded {x : Str} : ∀ {l : List Str}, x ∈ dedS l ↔ x ∈ l := by
 intro l
 refine snoc_ind (C := fun l => x ∈ dedS l ↔ x ∈ l) Iff.rfl (fun l v ih => ?_) l
 rw [ded_snoc, List.mem_append, ← ih]
 split
 ·rename_i h
  constructor
  ·exact .inl
  ·rintro (z | z)
   ·exact z
   ·rw [List.mem_singleton.mp z]; exact h
 ·rw [List.mem_append]
theorem ded_len (l : List Str) : (dedS l).length ≤ l.length := by
 refine snoc_ind (C := fun l => (dedS l).length ≤ l.length) (Nat.le_refl _) (fun l v ih => ?_) l
 rw [ded_snoc, List.length_append]
 split
 ·omega
 ·rw [List.length_append]
  show (dedS l).length + 1 ≤ l.length + 1
  omega
theorem ded_nodup (l : List Str) : (dedS l).length = l.length ↔ l.Nodup := by
 refine snoc_ind (C := fun l => (dedS l).length = l.length ↔ l.Nodup) ⟨fun _ => List.nodup_nil, fun _ => rfl⟩ (fun l v ih => ?_) l
 have hl := ded_len l
 rw [ded_snoc, List.length_append]
 split
 ·rename_i h
  constructor
  ·intro z
   have : (dedS l).length = l.length + 1 := z
   omega
  ·intro z
   exact absurd rfl ((List.nodup_append.mp z).2.2 v (mem_ded.mp h) v List.mem_cons_self)
 ·rename_i h
  rw [List.length_append]
  constructor
  ·intro z
   have z' : (dedS l).length + 1 = l.length + 1 := z
   refine List.nodup_append.mpr ⟨ih.mp (by omega), by simp, fun a ha b hb e => ?_⟩
   rw [List.mem_singleton.mp hb] at e
   exact h (mem_ded.mpr (e ▸ ha))
  ·intro z
   have := ih.mpr (List.nodup_append.mp z).1
   show (dedS l).length + 1 = l.length + 1
   omega
theorem su_entry : entryFor table "set.update.loop" = some Builtin.«set.update.loop» := entryFor_of_tree (by kernel_rfl)
theorem su_plain : plainId "set.update.loop" = true := by decide +kernel
section
variable {prog : Program} {w : World} {A : Around} {R : Result → Shared → Prop} {I : Addr} {fp wr : List Addr} {n : Nat} {P : Nat → Value → Prop} {St : Nat → Heap → Prop}
def SetS (prog : Program) (w : World) (h : Heap) (a : Addr) (l : List Str) : Prop := h.SetOf (PySem.strKind prog w) a (fun x => decide (x ∈ l)) (dedS l).length
theorem SetS.at {h h' : Heap} {a : Addr} {l : List Str} (x : SetS prog w h a l) (k : ∀ o, h.get? a = some o → h'.get? a = some o) : SetS prog w h' a l :=
 let ⟨o, es, ep, t, ho, r⟩ := x; ⟨o, es, ep, t, k o ho, r⟩
theorem set_loop (W : Walks prog w A.in1 I fp wr n P St) (D : Addr) (hD : D ∉ fp) (ws : List Str) (hn : ws.length = n) (hP : ∀ (i : Nat) (v : Value), P i v → ∃ (x : Str) (t : Tok), v = .str x t ∧ ws[i]? = some x) (hb : n + 1 < scanBound) :
  ∀ (k i : Nat) (s : Shared), n - i = k → i ≤ n → St i s.heap → SetS prog w s.heap D (ws.take i) →
  (∀ h' tk, SetS prog w h' D ws → (∀ b o, b ∉ wr → b ≠ D → s.heap.get? b = some o → h'.get? b = some o) → R (.ok (.ret .none)) { s with heap := h', toks := tk }) →
  codeAny (model prog w) A (.builtin "set.update.loop" ⟨[.ref D, .ref I], []⟩) R s := by
 have hDw : D ∉ wr := fun h => hD (W.sub _ h)
 intro k
 induction k with
 | zero =>
  intro i s hk hi hst hS hR
  have hin : i = n := by omega
  refine codeAny_builtin su_entry ?_
  rw [Around.under_plainId su_plain _]
  show wpAny _ A.in1 (pyNext (.ref I) >>= _) _ _ s
  rw [hin] at hst
  refine wpAny_bind (W.done s _ _ hst fun h' tk hk2 => ?_)
  show wpAny _ A.in1 (ret Value.none) _ _ _
  refine wpAny_pure (hR h' tk ?_ fun b o q1 _ e => hk2 b o q1 e)
  have := hS.at (h' := h') fun o e => hk2 D o hDw e
  rwa [List.take_of_length_le (by omega)] at this
 | succ k ih =>
  intro i s hk hi hst hS hR
  have hlt : i < n := by omega
  refine codeAny_builtin su_entry ?_
  rw [Around.under_plainId su_plain _]
  show wpAny _ A.in1 (pyNext (.ref I) >>= _) _ _ s
  refine wpAny_bind (W.item i s _ _ hlt hst fun v h1 tk hv hst1 hk1 => ?_)
  obtain ⟨x, t, rfl, ex⟩ := hP i v hv
  have hS1 := hS.at (h' := h1) fun o e => hk1 D o hDw e
  show wpAny _ A.in1 (holding [Value.str x t] (setAdd D (.str x t)) >>= _) _ _ _
  refine wpAny_bind (wpAny_holding ?_)
  unfold setAdd
  have hx : (PySem.strKind prog w).is x (.str x t) = true := by simp [PySem.strKind, Value.isStrOf]
  refine wpAny_holding (wpAny_bind ((PySem.strKind prog w).pyHash (k := x) hx ?_))
  have hl := ded_len (ws.take i)
  have hlt2 : (ws.take i).length ≤ i := by rw [List.length_take]; omega
  refine wpAny_setAddHashed_of (knd := PySem.strKind prog w) (s := { s with heap := h1, toks := tk + 1 }) hx rfl hS1 (by omega) fun h2 hs2 hS2 => ?_
  have hS3 : SetS prog w h2 D (ws.take (i + 1)) := by
   refine SetOf_congr hS2 (fun y => ?_) ?_
   ·rw [List.take_add_one, ex]
    show (decide (y ∈ ws.take i) || decide (y = x)) = decide (y ∈ ws.take i ++ [x])
    rw [Bool.eq_iff_iff]
    simp
   ·rw [List.take_add_one, ex]
    show (if decide (x ∈ ws.take i) = true then _ else _) = (dedS (ws.take i ++ [x])).length
    rw [ded_snoc]
    by_cases e : x ∈ ws.take i
    ·rw [if_pos (by simpa using e), if_pos (mem_ded.mpr e)]
    ·rw [if_neg (by simpa using e), if_neg (fun z => e (mem_ded.mp z)), List.length_append]
     rfl
  refine wpAny_pure ⟨plainId_quiet su_plain _, ih (i + 1) _ (by omega) (by omega) (W.frame _ _ _ hst1 fun b hb o e => ?_) hS3 fun h3 tk3 hS4 hk3 => ?_⟩
  ·exact (hs2.2 b (fun z => hD (z ▸ hb))).trans e
  ·exact hR h3 tk3 hS4 fun b' o' q1 q2 e' => hk3 b' o' q1 q2 ((hs2.2 b' q2).trans (hk1 b' o' q1 e'))
theorem set_strs {E : Value → Shared → Prop} {s : Shared} {src : Addr} {its : Array Value} {ws : List Str} {Q : Value → Shared → Prop} (hh : A.handled = none) (hl : s.heap.IsList src its) (hws : ws.length = its.size)
  (hP : ∀ (i : Nat) (v : Value), its[i]? = some v → ∃ (x : Str) (t : Tok), v = .str x t ∧ ws[i]? = some x) (hb : its.size + 1 < scanBound)
  (h : ∀ h' tk, SetS prog w h' s.heap.objs.size ws → (∀ b o, s.heap.get? b = some o → h'.get? b = some o) → Q (.ref s.heap.objs.size) { s with heap := h', toks := tk }) :
  wpAny (model prog w) A (call (.type "set") [.ref src]) Q E s := by
 obtain ⟨c, tl, f0⟩ := F.called_set.mro
 have f1 := F.called_set.made
 have f2 := F.called_set.sub
 have f3 := F.called_set.notType
 have f4 := F.called_set.canCreate
 have f5 := F.typeCall_set_1 (.ref src)
 refine wpAny_call (codeAny_of_tree ?_)
 show wpAny _ _ (callAny (.type "set") _) _ _ _
 refine wpAny_pure ⟨Code.quiet_builtin _ (by decide +kernel), codeAny_builtin F.entry_type_call ?_⟩
 rw [Around.under_plain (weight_type_call_type "set" [.ref src] []) rfl]
 repeat (any_goals (first | assumption | wp_step))
 refine codeAny_mono (code_set_new_1 (.ref src) (E := E) (Q₁ := fun x t₁ => ∃ led : Bool, x = .ref s.heap.objs.size ∧ t₁ = { s with heap := s.heap.push { cls := .type "set", dict := none, data := .set #[] 0 (.fresh 0 0 led) } }) fun led => ⟨led, rfl, rfl⟩) fun r s₁ hr => ?_
 cases r with
 | error e => exact hr
 | ok fl =>
  cases fl with
  | next => exact hr.elim
  | brk => exact hr.elim
  | cont => exact hr.elim
  | ret obj =>
   obtain ⟨led, rfl, rfl⟩ := hr
   have g1 : (s.heap.push { cls := .type "set", dict := none, data := .set #[] 0 (.fresh 0 0 led) }).get? s.heap.objs.size = some { cls := .type "set", dict := none, data := .set #[] 0 (.fresh 0 0 led) } := Heap.get?_push_size _ rfl
   have g2 : Shared.TypeIs { s with heap := s.heap.push { cls := .type "set", dict := none, data := .set #[] 0 (.fresh 0 0 led) } } (.ref s.heap.objs.size) "set" := ⟨_, g1, rfl⟩
   have g3 := F.called_set.init.lookup
   have g4 := F.called_set.init.bind (.ref s.heap.objs.size)
   repeat (any_goals (first | assumption | wp_step))
   refine codeAny_mono (codeAny_call_builtin (R := wants (fun r s₂ => r = .none ∧ ∃ h' tk, s₂ = { s with heap := h', toks := tk } ∧ SetS prog w h' s.heap.objs.size ws ∧ (∀ b o, s.heap.get? b = some o → h'.get? b = some o)) E) F.called_set.init.plain F.entry_set_init (check_set_init_1 g2 ?_)) fun r₂ s₂ hr₂ => ?_
   ·obtain ⟨ol, hol, hcl, nl, hdl⟩ := hl
    obtain ⟨oc, od, oda, osl⟩ := ol
    simp only at hcl hdl
    subst hcl hdl
    have k1 := Heap.get?_push_of_some { cls := .type "set", dict := none, data := .set #[] 0 (.fresh 0 0 led) } hol
    have k2 := F.sub_list_set
    have k3 := F.sub_list_frozenset
    have k4 : (Value.type "list" == Value.type "dict") = false := by decide
    have k5 : (s.heap.push { cls := .type "set", dict := none, data := .set #[] 0 (.fresh 0 0 led) }).IsList src its := ⟨_, k1, rfl, nl, rfl⟩
    unfold Builtin.«set.__init__» noKeywords Builtin.Frozenset.updateFrom
    generalize hPI : pyIter = PI
    wp_walk
    subst hPI
    refine wpAny_pyIter_list k5 ?_
    refine wpAny_bind (wpAny_runValue ?_)
    have hlS : src < s.heap.objs.size := Heap.lt_size hol
    have sz : (s.heap.push { cls := .type "set", dict := none, data := .set #[] 0 (.fresh 0 0 led) }).objs.size = s.heap.objs.size + 1 := Heap.size_push ..
    have hneI : src ≠ (s.heap.push { cls := .type "set", dict := none, data := .set #[] 0 (.fresh 0 0 led) }).objs.size := by rw [sz]; exact Nat.ne_of_lt (Nat.lt_succ_of_lt hlS)
    refine set_loop (A := A.in1.in1) (Walks.list (A := A.in1.in1.in1) (show A.in1.in1.in1.handled = none from hh) _ src hneI its) s.heap.objs.size (fun z => ?_) ws hws hP hb its.size 0 _ rfl (Nat.zero_le _) ⟨⟨_, Heap.get?_push_size _ rfl, rfl, rfl⟩, k5.push _⟩ ?_ fun h' tk hS hk => ?_
    ·rcases List.mem_cons.mp z with z | z
     ·rw [sz] at z; exact absurd z (Nat.ne_of_lt (Nat.lt_succ_self _))
     ·exact absurd (List.mem_singleton.mp z).symm (Nat.ne_of_lt hlS)
    ·have g5 : ((s.heap.push { cls := .type "set", dict := none, data := .set #[] 0 (.fresh 0 0 led) }).push { cls := .type "list_iterator", data := .fields #[.ref src, .int 0 0] }).get? s.heap.objs.size = some { cls := .type "set", dict := none, data := .set #[] 0 (.fresh 0 0 led) } := Heap.get?_push_of_some _ g1
     exact SetOf_congr ((setObjOf_fresh (knd := PySem.strKind prog w) led).setOf g5 (by unfold scanBound; omega)) (fun _ => rfl) rfl
    ·show wpAny _ _ _ _ _ _
     refine wpAny_pure ?_
     show wpAny _ _ (ret Value.none) _ _ _
     refine wpAny_pure ⟨rfl, h', tk, rfl, hS, fun b o e => ?_⟩
     have lt := Heap.lt_size e
     refine hk b o (fun z => ?_) (Nat.ne_of_lt lt) (Heap.get?_push_of_some _ (Heap.get?_push_of_some _ e))
     have z := List.mem_singleton.mp z
     rw [sz] at z
     exact absurd z (Nat.ne_of_lt (Nat.lt_succ_of_lt lt))
   ·cases r₂ with
    | error e => exact hr₂
    | ok fl₂ =>
     cases fl₂ with
     | next => exact hr₂.elim
     | brk => exact hr₂.elim
     | cont => exact hr₂.elim
     | ret r =>
      obtain ⟨rfl, h', tk, rfl, hS', hk'⟩ := hr₂
      repeat (any_goals (first | assumption | wp_step))
      exact h _ _ hS' hk'
end
section
variable {X : Cx}
def setO (P : Program) (w : World) (a : Addr) (l : List Str) : HO := .ext fun h => SetS P w h a l
theorem call_setS (hc : X.calm = true) : CallR X (.type "set") (fun xs H Q => ∃ (p : Addr) (ws : List Str), xs = [.ref p] ∧ SqL X.K H p (ws.map V.str) ∧ ws.length + 1 < scanBound ∧ ∀ l, H l = none → Q (.ref l) (upd H l (setO X.prog X.w l ws))) := by
 intro pins s σ H xs us Q I r h
 obtain ⟨p, ws, rfl, hp, hb, q⟩ := h
 obtain ⟨u, rfl, ru⟩ := vals1 r
 cases ru
 obtain ⟨its, rv, ht, hz⟩ := I.list hp
 have hlen := rv.length
 rw [List.length_map] at hlen
 refine set_strs (I.ok.hd hc) ht.isList (by simp; omega) (fun i v ev => ?_) (by simp; omega) fun h' tk hS hk => ?_
 ·have ev' : its[i]? = some v := by simpa using ev
  have hi : i < ws.length := by rw [hlen]; exact (List.getElem?_eq_some_iff.mp ev').1
  obtain ⟨u', hu', ru'⟩ := rv.get (i := i) (x := .str ws[i]) (by simp [hi])
  rw [ev'] at hu'
  cases hu'
  obtain ⟨t, rfl⟩ := ru'
  exact ⟨ws[i], t, rfl, by simp [hi]⟩
 ·have ho : ∃ o, h'.get? s.heap.objs.size = some o := let ⟨o, _, _, _, e, _⟩ := hS; ⟨o, e⟩
  exact ⟨.ref s.heap.objs.size, _, I.laid (t' := tk) (o := setO X.prog X.w s.heap.objs.size ws) hk (Nat.le_refl _) ⟨hS, ho, fun h1 h2 x k => x.at k⟩, rfl, q _ (I.hok.fresh (Nat.le_refl _))⟩
theorem call_lenS : CallR X (.builtin "len") (fun xs H Q => ∃ (p : Addr) (ws : List Str), xs = [.ref p] ∧ H p = some (setO X.prog X.w p ws) ∧ Q (.int (dedS ws).length) H) := by
 intro pins s σ H xs us Q I r h
 obtain ⟨p, ws, rfl, hp, q⟩ := h
 obtain ⟨u, rfl, ru⟩ := vals1 r
 cases ru
 obtain ⟨⟨o, es, ep, t, ho, hex, hd, _, _, hb, hf, hn⟩, _, _⟩ : SetS X.prog X.w s.heap p ws ∧ _ ∧ _ := I.hok p _ hp
 have hbig : (scanBound : Int) < 2 ^ 63 := by decide
 refine call_len_set ho hex hd hf (by omega) ?_
 rw [hn]
 exact ⟨.int _, H, I.tok _, ⟨_, rfl⟩, q⟩
theorem b_set : bootBuiltins "set" = some (.type "set") := by decide +kernel
end
end L2
namespace L2
open PySem PySem.Spec PyProof.Rows
section
variable {prog : Program} {w : World} {A : Around} {E : Value → Shared → Prop} {s : Shared} {r : Addr}
end
section
variable {X : Cx}
end
end L2
namespace L2
open PySem PySem.Spec PyProof.Rows
section
variable {prog : Program} {w : World} {A : Around} {E : Value → Shared → Prop}
end
def rInD (K : PySem.W.Frag) (neg : Bool) : R2 := fun x y H Q => ∃ n dx ds, n ≤ 60 ∧ RdD K H n x dx ∧ RdD K H n y (.list ds) ∧ Q (.bl (if neg then !(ds.any fun d => PyData.eqv d dx) else ds.any fun d => PyData.eqv d dx)) H
theorem op_inD {X : Cx} (hu : X.A.units + 64 < cLine) : OpR X (compareOp .In) (rInD X.K false) := by
 intro pins s σ H x y v u Q I rx ry h
 obtain ⟨n, dx, ds, hn, h1, h2, q⟩ := h
 obtain ⟨⟨as, a1⟩, a2, a3⟩ := RdD.reads I n x dx v h1 rx
 obtain ⟨⟨bs, b1⟩, b2, b3⟩ := RdD.reads I n y (.list ds) u h2 ry
 exact SeqAt.in_list_reads b1 a1 b2 a2 (by have := Nat.min_le_right (PyData.depthAll ds) dx.depth; omega) ⟨.bl _, H, I, rfl, q⟩
end L2
namespace L2
open PySem PySem.Spec PyProof.Rows
theorem comp_enum {K : PySem.W.Frag} {xs : Nat} {js : List Nat} {g : TG} {tt : TT} {te : TE} {σ : St} {Q : VK} {H : Hp} {a : Addr} {ys : List V} (Pv : Nat → List V → St → Hp → Prop) (h0 : Pv 0 [] (List.replicate xs none ++ capOf σ js) H) (hl : ∀ i acc σ' H', Pv i acc σ' H' → acc.length ≤ i) (hz : ys.length ≤ sizeLine)
  (hq : ∀ i acc σ' H', i ≤ ys.length → Pv i acc σ' H' → SqL K H' a ys)
  (hs : ∀ i x acc σ' H' t, ys[i]? = some x → Pv i acc σ' H' → H' t = none → g (.ref t) σ' (upd H' t (.tup [.int i, x])) fun σ2 H2 => tt σ2 H2 fun b H3 => if b = true then te σ2 H3 fun y H4 => Pv (i + 1) (acc ++ [y]) σ2 H4 else Pv (i + 1) acc σ2 H3)
  (hd : ∀ acc σ' H', Pv ys.length acc σ' H' → ∀ p, H' p = none → Q (.ref p) (upd H' p (.lst acc))) : CompGoal xs js g tt te σ Q (Ite K a) H :=
 comp_walk Pv h0 hl hz (fun i acc σ' H' h p => ⟨ys, ys[i], hq _ _ _ _ (Nat.le_of_lt h) p, by simp [h]⟩) (fun acc σ' H' p => ⟨ys, hq _ _ _ _ (Nat.le_refl _) p, Nat.le_refl _⟩)
  (fun i x acc σ' H' H2 h p y => by
   obtain ⟨t, ht, rfl, y⟩ := y
   obtain ⟨x, hx, rfl⟩ := y ys (hq _ _ _ _ (Nat.le_of_lt h) p)
   exact hs i x acc σ' H' t hx p ht) hd
end L2
namespace L2
open PySem PySem.Spec PyProof.Rows
section
variable {X : Cx}
end
end L2
namespace L2
open PySem PySem.Spec PyProof.Rows
section
variable {X : Cx} {pins : List (Addr × Obj)} {σ : St} {H : Hp} {s : Shared} {scope : Scope} {N : List Str} {xs : Nat} {js : List Nat} {cl : List (Str × Addr)} {fp : List Addr} {o : Obj}
end
section
variable {X : Cx} {scope : Scope} {N : List Str} {xs : Nat} {js : List Nat} {tg iter elt : Expr} {ifs : List Expr} {pos : Pos} {ti : TI} {g : TG} {tt : TT} {te : TE}
end
end L2
namespace L2
open PySem PySem.Spec PyProof.Rows
theorem any_range (bs : List Bool) : (List.range bs.length).any (fun i => (bs[i]?).getD false) = bs.any id := by
 rw [Bool.eq_iff_iff]
 simp only [List.any_eq_true, List.mem_range, id]
 constructor
 ·rintro ⟨i, hi, h⟩
  rw [List.getElem?_eq_getElem hi] at h
  exact ⟨_, List.getElem_mem hi, h⟩
 ·rintro ⟨b, hb, h⟩
  obtain ⟨i, hi, e⟩ := List.mem_iff_getElem.mp hb
  refine ⟨i, hi, ?_⟩
  rw [List.getElem?_eq_getElem hi]
  show bs[i] = true
  rw [e]
  exact h
section
variable {X : Cx}
theorem call_any (hc : X.calm = true) : CallR X (.builtin "any") (fun xs H Q => ∃ (p : Addr) (bs : List Bool), xs = [.ref p] ∧ SqL X.K H p (bs.map V.bl) ∧ Q (.bl (bs.any id)) H) := by
 intro pins s σ H xs us Q I r h
 obtain ⟨p, bs, rfl, hp, q⟩ := h
 obtain ⟨u, rfl, ru⟩ := vals1 r
 cases ru
 obtain ⟨its, rv, ht, hz⟩ := I.list hp
 have hlen := rv.length
 rw [List.length_map] at hlen
 refine call_any_walk (wpAny_pyIter_list ht.isList ?_)
 have hpn : p < s.heap.objs.size := let ⟨o, n, e, _⟩ := ht; Heap.lt_size e
 refine ⟨s.heap.objs.size, [s.heap.objs.size, p], [s.heap.objs.size], its.toArray.size, (fun i v => its.toArray[i]? = some v), (fun i h => h.IsListIter s.heap.objs.size p i ∧ h.IsList p its.toArray), fun i => (bs[i]?).getD false, rfl, Walks.list (A := X.A.in1) (show X.A.in1.handled = none from I.ok.hd hc) s.heap.objs.size p (Nat.ne_of_lt hpn) its.toArray, ⟨⟨_, Heap.get?_push_size _ rfl, rfl, rfl⟩, ht.isList.at fun o e => Heap.get?_push_of_some _ e⟩, ?_, fun h' tk k => ?_⟩
 ·intro i v s' Q' E' hv hq
  have hv' : its[i]? = some v := by simpa using hv
  have hi : i < bs.length := by rw [hlen]; exact (List.getElem?_eq_some_iff.mp hv').1
  obtain ⟨u', hu', ru'⟩ := rv.get (i := i) (x := .bl bs[i]) (by simp [hi])
  rw [hv'] at hu'
  cases hu'
  cases ru'
  refine wpAny_truthy_bool ?_
  have hq' : Q' ((bs[i]?).getD false) s' := hq
  rw [List.getElem?_eq_getElem hi] at hq'
  exact hq'
 ·have e : (List.range its.toArray.size).any (fun i => (bs[i]?).getD false) = bs.any id := by
   rw [List.size_toArray, ← hlen]
   exact any_range bs
  refine ⟨.bl (bs.any id), H, I.kept (t' := tk) fun b o e => k b o ?_ (Heap.get?_push_of_some _ e), by rw [e]; rfl, q⟩
  have := Heap.lt_size e
  intro z
  rw [List.mem_singleton.mp z] at this
  exact Nat.lt_irrefl _ this
end
end L2
namespace L2
open PySem PySem.Spec PyProof.Rows
def intsV (kvs : List (Key × V)) : Prop := ∀ p ∈ kvs, ∃ i, p.2 = V.int i
def sameD (ka kb : List (Key × V)) : Bool := ka.all fun p => decide (valV kb p.1 = some p.2)
theorem sameD_cons {p : Key × V} {ka kb : List (Key × V)} : sameD (p :: ka) kb = (decide (valV kb p.1 = some p.2) && sameD ka kb) := List.all_cons ..
theorem keq_hits {A : Around} {s : Shared} {kb : List (Key × V)} {vb : List (Key × Value)} (rb : KV kb vb) (ib : intsV kb) : ∀ {ka : List (Key × V)} {va : List (Key × Value)}, KV ka va → intsV ka → PySem.W.KeqHits A s vb va (sameD ka kb) := by
 intro ka va ra
 unfold KV at ra
 induction ra with
 | nil => exact fun _ => .nil
 | @cons p q ps qs hq t ih =>
  intro ia
  obtain ⟨k, v⟩ := q
  obtain ⟨k', x⟩ := p
  obtain ⟨e1, rx⟩ := hq
  dsimp only at e1 rx
  subst e1
  obtain ⟨i, ei⟩ := ia _ List.mem_cons_self
  dsimp only at ei
  subst ei
  obtain ⟨t', rfl⟩ := rx
  rw [sameD_cons]
  have hv := rb.val k'
  cases e : valV kb k' with
  | none =>
   rw [e] at hv
   cases e2 : valueAt vb k' with
   | some z => rw [e2] at hv; exact hv.elim
   | none =>
    rw [decide_eq_false (by intro z; cases z), Bool.false_and]
    exact .miss e2
  | some y =>
   have hy : ∃ j, y = V.int j := by
    have : ∃ p ∈ kb, p.2 = y := by
     unfold valV at e
     obtain ⟨p, hp, ep⟩ := Option.map_eq_some_iff.mp e
     exact ⟨p, List.mem_of_find?_eq_some hp, ep⟩
    obtain ⟨p, hp, rfl⟩ := this
    exact ib p hp
   obtain ⟨j, rfl⟩ := hy
   rw [e] at hv
   cases e2 : valueAt vb k' with
   | none => rw [e2] at hv; exact hv.elim
   | some z =>
    rw [e2] at hv
    obtain ⟨t2, rfl⟩ := hv
    have h := PySem.W.KeqHits.hit (r := qs) e2 (SeqAt.EqAt.int_int (A := A) (s := s) i t' j t2) (ih fun p hp => ia p (List.mem_cons_of_mem _ hp))
    have ee : decide (some (V.int j) = some (V.int i)) = (i == j) := by
     by_cases z : i = j
     ·rw [decide_eq_true (by rw [z]), z]; simp
     ·rw [decide_eq_false (fun u => z (V.int.inj (Option.some.inj u)).symm)]
      simpa using z
    rw [ee]
    exact h
def rNeDict : R2 := fun x y H Q => ∃ a b ka kb, x = .ref a ∧ y = .ref b ∧ H a = some (.dK ka) ∧ H b = some (.dK kb) ∧ intsV ka ∧ intsV kb ∧ Q (.bl (!(ka.length == kb.length && sameD ka kb))) H
theorem op_neDict {X : Cx} (hu : X.A.units < cLine) : OpR X (compareOp .NotEq) rNeDict := by
 intro pins s σ H x y v u Q I rx ry h
 obtain ⟨a, b, ka, kb, rfl, rfl, ea, eb, ia, ib, q⟩ := h
 cases (show v = Value.ref a from rx)
 cases (show u = Value.ref b from ry)
 obtain ⟨_, la, va, ra, da⟩ := dk_of I.hok ea
 obtain ⟨_, lb, vb, rb, db⟩ := dk_of I.hok eb
 refine PySem.W.keq_ne la lb da db hu (fun _ => keq_hits rb ib ra ia) ?_
 rw [← ra.length, ← rb.length]
 exact ⟨.bl _, H, I, rfl, q⟩
end L2
namespace L2
open PySem PySem.Spec PyProof.Rows
def signsV (x : Str) : List V := x.cps.toList.map fun c => V.str ⟨#[c]⟩
theorem signs_pair {α : Type} {f : α → V} {g : α → Value → Prop} (h : ∀ c v, g c v → RelV (f c) v) : ∀ (cs : List α) (l : List Value), l.length = cs.length → (∀ (j : Nat) (v : Value), l[j]? = some v → ∃ c, cs[j]? = some c ∧ g c v) → Vals (cs.map f) l
 | [], [], _, _ => .nil
 | [], _ :: _, e, _ => nomatch e
 | _ :: _, [], e, _ => nomatch e
 | c :: cs, v :: l, e, hh => by
  obtain ⟨c', hc, hg⟩ := hh 0 v rfl
  have : c = c' := by simpa using hc
  subst this
  exact .cons (h _ _ hg) (signs_pair h cs l (by simpa using e) fun j u hj => by
   obtain ⟨c2, h2, h3⟩ := hh (j + 1) u (by simpa using hj)
   exact ⟨c2, by simpa using h2, h3⟩)
theorem call_tupleK {X : Cx} (K : PySem.W.Frag) (hK : X.K = K) (hc : X.calm = true) : CallR X (.type "tuple") (fun xs H Q => (∃ p ys, xs = [.ref p] ∧ SqL K H p ys ∧ ∀ l, H l = none → Q (.ref l) (upd H l (.tup ys))) ∨ ∃ x : Str, xs = [.str x] ∧ x.cps.size ≤ sizeLine ∧ ∀ l, H l = none → Q (.ref l) (upd H l (.tup (signsV x)))) := by
 subst hK
 intro pins s σ H xs us Q I r h
 rcases h with ⟨p, ys, rfl, hq, q⟩ | ⟨x, rfl, hx, q⟩
 ·exact call_tuple_of pins s σ H _ us Q I r ⟨p, ys, rfl, .inl ⟨hq, q⟩⟩
 ·obtain ⟨u, rfl, rx⟩ := vals1 r
  obtain ⟨t, rfl⟩ := rx
  refine call_tuple_str (I.ok.hd hc) x t (fun h' tk acc kp ha => ?_) hx
  have I1 : Inv X pins σ H { s with heap := h', toks := tk } := I.kept (t' := tk) kp
  have r' : Vals (signsV x) acc.toList := signs_pair (g := fun c v => ∃ u, v = Value.str ⟨#[c]⟩ u) (fun c v hg => by obtain ⟨u, rfl⟩ := hg; exact ⟨u, rfl⟩) _ _ (by simpa using ha.1) fun j v hj => by
   obtain ⟨c, u, h1, h2⟩ := ha.2 j v (by simpa using hj)
   exact ⟨c, by simpa using h1, u, h2⟩
  have I2 : Inv X pins σ (upd H h'.objs.size (.tup (signsV x))) { s with heap := h'.push { cls := .type "tuple", data := .seq acc }, toks := tk } :=
   I1.laid (t' := tk) (fun b o e => Heap.get?_push_of_some _ e) (Nat.le_refl _) (show ObjOk X.prog X.w _ _ _ (.tup (signsV x)) from ⟨by unfold signsV; rw [List.length_map]; simpa using hx, acc.toList, r', IsTup.new h' acc⟩)
  exact ⟨.ref h'.objs.size, _, I2, rfl, q _ (I1.hok.fresh (Nat.le_refl _))⟩
end L2
namespace Net
open PySem L2
def top (i : Nat) : Stmt := PySem.Challenge.pw_netcourt_k32_costs_looked_at.main.body.getD i (.Pass ⟨0, 0, 0, 0⟩)
abbrev s_is_made_of : Stmt := top 11
abbrev s_is_name : Stmt := top 12
abbrev s_is_whole : Stmt := top 13
abbrev s_is_row : Stmt := top 15
abbrev s_is_pair : Stmt := top 16
abbrev s_is_place : Stmt := top 17
abbrev s_are_unlike_places : Stmt := top 18
abbrev s_are_unlike : Stmt := top 19
abbrev s_ties_by_name : Stmt := top 20
abbrev s_is_tie : Stmt := top 21
abbrev s_walk_stops : Stmt := top 22
abbrev s_walk_end : Stmt := top 23
abbrev s_walk_cost : Stmt := top 24
abbrev s_look_plain : Stmt := top 30
abbrev s_shows_cost : Stmt := top 33
abbrev s_stretch_end : Stmt := top 34
abbrev s_shows_no_cost : Stmt := top 35
abbrev s_prices_of : Stmt := top 36
abbrev s_ties_keep_prices : Stmt := top 37
abbrev s_is_priced_above : Stmt := top 38
abbrev s_refuse_no_name : Stmt := top 48
abbrev s_refuse_no_width : Stmt := top 49
abbrev s_refuse_more : Stmt := top 50
abbrev s_Net_init : Stmt := inClass (top 51) 0
abbrev s_Net_place : Stmt := inClass (top 51) 1
abbrev s_Net_tie : Stmt := inClass (top 51) 2
abbrev s_Net_places : Stmt := inClass (top 51) 6
abbrev s_Net_ties : Stmt := inClass (top 51) 7
abbrev s_l_cell_at : Stmt := top 53
abbrev s_l_name : Stmt := top 54
abbrev s_l_parts : Stmt := top 55
abbrev s_l_net : Stmt := top 56
abbrev s_l_costs : Stmt := top 57
abbrev s_l_least : Stmt := top 58
abbrev s_l_come : Stmt := top 59
abbrev s_l_between : Stmt := top 60
abbrev s_l_truth : Stmt := top 61
abbrev s_l_bent : Stmt := top 62
abbrev s_l_stretches : Stmt := top 63
abbrev s_l_is_cheap : Stmt := top 64
abbrev s_l_prices : Stmt := top 65
abbrev s_l_is_dear : Stmt := top 66
abbrev s_l_copy : Stmt := top 67
abbrev s_l_one : Stmt := top 68
abbrev s_law : Stmt := top 69
end Net
namespace Net
open PySem L2
section
variable {D : Ends} {σ : St} {H : Hp}
theorem hide2 {t1 t2 : TS} (h : ∀ u2, t2 = u2 → (tSeq t1 u2) D σ H) : (tSeq t1 t2) D σ H := h _ rfl
theorem hide3 {t1 t2 t3 : TS} (h : ∀ u2 u3, t2 = u2 → t3 = u3 → (tSeq t1 (tSeq u2 u3)) D σ H) : (tSeq t1 (tSeq t2 t3)) D σ H := h _ _ rfl rfl
theorem hide4 {t1 t2 t3 t4 : TS} (h : ∀ u2 u3 u4, t2 = u2 → t3 = u3 → t4 = u4 → (tSeq t1 (tSeq u2 (tSeq u3 u4))) D σ H) : (tSeq t1 (tSeq t2 (tSeq t3 t4))) D σ H := h _ _ _ rfl rfl rfl
theorem hide5 {t1 t2 t3 t4 t5 : TS} (h : ∀ u2 u3 u4 u5, t2 = u2 → t3 = u3 → t4 = u4 → t5 = u5 → (tSeq t1 (tSeq u2 (tSeq u3 (tSeq u4 u5)))) D σ H) : (tSeq t1 (tSeq t2 (tSeq t3 (tSeq t4 t5)))) D σ H := h _ _ _ _ rfl rfl rfl rfl
theorem hide6 {t1 t2 t3 t4 t5 t6 : TS} (h : ∀ u2 u3 u4 u5 u6, t2 = u2 → t3 = u3 → t4 = u4 → t5 = u5 → t6 = u6 → (tSeq t1 (tSeq u2 (tSeq u3 (tSeq u4 (tSeq u5 u6))))) D σ H) : (tSeq t1 (tSeq t2 (tSeq t3 (tSeq t4 (tSeq t5 t6))))) D σ H := h _ _ _ _ _ rfl rfl rfl rfl rfl
theorem hide7 {t1 t2 t3 t4 t5 t6 t7 : TS} (h : ∀ u2 u3 u4 u5 u6 u7, t2 = u2 → t3 = u3 → t4 = u4 → t5 = u5 → t6 = u6 → t7 = u7 → (tSeq t1 (tSeq u2 (tSeq u3 (tSeq u4 (tSeq u5 (tSeq u6 u7)))))) D σ H) : (tSeq t1 (tSeq t2 (tSeq t3 (tSeq t4 (tSeq t5 (tSeq t6 t7)))))) D σ H := h _ _ _ _ _ _ rfl rfl rfl rfl rfl rfl
theorem hide8 {t1 t2 t3 t4 t5 t6 t7 t8 : TS} (h : ∀ u2 u3 u4 u5 u6 u7 u8, t2 = u2 → t3 = u3 → t4 = u4 → t5 = u5 → t6 = u6 → t7 = u7 → t8 = u8 → (tSeq t1 (tSeq u2 (tSeq u3 (tSeq u4 (tSeq u5 (tSeq u6 (tSeq u7 u8))))))) D σ H) : (tSeq t1 (tSeq t2 (tSeq t3 (tSeq t4 (tSeq t5 (tSeq t6 (tSeq t7 t8))))))) D σ H := h _ _ _ _ _ _ _ rfl rfl rfl rfl rfl rfl rfl
theorem hide9 {t1 t2 t3 t4 t5 t6 t7 t8 t9 : TS} (h : ∀ u2 u3 u4 u5 u6 u7 u8 u9, t2 = u2 → t3 = u3 → t4 = u4 → t5 = u5 → t6 = u6 → t7 = u7 → t8 = u8 → t9 = u9 → (tSeq t1 (tSeq u2 (tSeq u3 (tSeq u4 (tSeq u5 (tSeq u6 (tSeq u7 (tSeq u8 u9)))))))) D σ H) : (tSeq t1 (tSeq t2 (tSeq t3 (tSeq t4 (tSeq t5 (tSeq t6 (tSeq t7 (tSeq t8 t9)))))))) D σ H := h _ _ _ _ _ _ _ _ rfl rfl rfl rfl rfl rfl rfl rfl
end
def abc : Str := "abcdefghijklmnopqrstuvwxyz"
def smallB (c : Nat) : Bool := decide (97 ≤ c) && decide (c ≤ 122)
def nameB (x : Str) : Bool := decide (1 ≤ x.length) && decide (x.length ≤ 12) && x.cps.toList.all smallB
structure Row where
 nm : Str
 a : Str
 b : Str
 w : Int
 c : Int
def Row.tup (r : Row) : List V := [.str r.nm, .str r.a, .str r.b, .int r.w, .int r.c]
structure NS where
 pl : List Str
 ti : List Row
def NS.nil : NS := ⟨[], []⟩
def NS.nms (S : NS) : List Str := S.ti.map (·.nm)
def flds (ds dl : Addr) : List (Str × V) := putF "laid" (.ref dl) (putF "standing" (.ref ds) [])
theorem sl_ne : ¬ (("standing" : Str) = "laid") := by decide +kernel
theorem flds_st (ds dl : Addr) : (flds ds dl).lookup ("standing" : Str) = some (.ref ds) := by
 unfold flds
 rw [lookup_putF, if_neg sl_ne, lookup_putF, if_pos rfl]
theorem flds_ld (ds dl : Addr) : (flds ds dl).lookup ("laid" : Str) = some (.ref dl) := by
 unfold flds
 rw [lookup_putF, if_pos rfl]
theorem flds_no (ds dl : Addr) {m : Str} (h1 : ¬ m = "laid") (h2 : ¬ m = "standing") : (flds ds dl).lookup m = none := by
 unfold flds
 rw [lookup_putF, if_neg h1, lookup_putF, if_neg h2]
 all_goals rfl
def stKV (S : NS) : List (Key × V) := S.pl.map fun x => (Sum.inr x, V.bl true)
def ldKV (L : List (Row × Addr)) : List (Key × V) := L.map fun q => (Sum.inr q.1.nm, V.ref q.2)
def Rows (H : Hp) (L : List (Row × Addr)) (rs : List Row) : Prop := L.map (·.1) = rs ∧ ∀ q ∈ L, H q.2 = some (.tup q.1.tup)
structure NetAt (C : Addr) (H : Hp) (p ds dl : Addr) (S : NS) : Prop where
 ob : ∃ dx, H p = some (.ins C dx (flds ds dl))
 st : H ds = some (.dK (stKV S))
 ld : ∃ L, Rows H L S.ti ∧ H dl = some (.dK (ldKV L))
 ne : ds ≠ dl
def But2 (H H' : Hp) (ds dl : Addr) : Prop := ∀ b o, H b = some o → b ≠ ds → b ≠ dl → H' b = some o
def spMade : Sp := fun vs H Q _ => ∃ (x y : Str), vs = [.str x, .str y] ∧ x.length ≤ sizeLine ∧ ∀ H', Same H H' → Q (.bl (x.cps.toList.all fun c => decide (c ∈ y.cps.toList))) H'
def spName : Sp := fun vs H Q _ => ∃ (x : Str), vs = [.str x] ∧ x.length ≤ sizeLine ∧ ∀ H', Same H H' → Q (.bl (nameB x)) H'
def spWhole : Sp := fun vs H Q _ => ∃ (i : Int), vs = [.int i] ∧ Q (.bl true) H
def spRefName : Sp := fun vs H Q _ => ∃ (x : Str), vs = [.str x] ∧ nameB x = true ∧ ∀ H', Same H H' → Q .non H'
def spRefWidth : Sp := fun vs H Q _ => ∃ (i : Int), vs = [.int i] ∧ 1 ≤ i ∧ Q .non H
def spRefMore : Sp := fun vs H Q _ => ∃ (i j : Int), vs = [.int i, .int j] ∧ i ≤ j ∧ Q .non H
def spInit (C : Addr) : Sp := fun vs H Q _ => ∃ (p dx : Addr), vs = [.ref p] ∧ H p = some (.ins C dx []) ∧ ∀ (ds dl : Addr) (H' : Hp), H ds = none → H dl = none → NetAt C H' p ds dl .nil → (∀ b o, H b = some o → b ≠ p → H' b = some o) → Q .non H'
def spPlace (C : Addr) : Sp := fun vs H Q _ => ∃ (p ds dl : Addr) (S : NS) (x : Str), vs = [.ref p, .str x] ∧ NetAt C H p ds dl S ∧ nameB x = true ∧ x ∉ S.pl ∧ S.pl.length < 20 ∧
 ∀ H', NetAt C H' p ds dl ⟨S.pl ++ [x], S.ti⟩ → But2 H H' ds dl → Q .non H'
def withEnds (pl : List Str) (a b : Str) : List Str := pl ++ [a, b].filter fun x => !decide (x ∈ pl)
def spTie (C : Addr) : Sp := fun vs H Q _ => ∃ (p ds dl : Addr) (S : NS) (r : Row), vs = [.ref p, .str r.nm, .str r.a, .str r.b, .int r.w, .int r.c] ∧ NetAt C H p ds dl S ∧ nameB r.nm = true ∧ nameB r.a = true ∧ nameB r.b = true ∧ r.nm ∉ S.nms ∧ ¬ r.a = r.b ∧ 1 ≤ r.w ∧
 S.ti.length < 40 ∧ (withEnds S.pl r.a r.b).length ≤ 20 ∧ ∀ H', NetAt C H' p ds dl ⟨withEnds S.pl r.a r.b, S.ti ++ [r]⟩ → But2 H H' ds dl → Q .non H'
def spPlaces (C : Addr) : Sp := fun vs H Q _ => ∃ (p ds dl : Addr) (S : NS), vs = [.ref p] ∧ NetAt C H p ds dl S ∧ ∀ l, H l = none → Q (.ref l) (upd H l (.lst (S.pl.map V.str)))
def spTies (C : Addr) : Sp := fun vs H Q _ => ∃ (p ds dl : Addr) (S : NS), vs = [.ref p] ∧ NetAt C H p ds dl S ∧ ∀ (l : Addr) (H' : Hp) (L : List (Row × Addr)), H l = none → Same H H' → Rows H L S.ti → H' l = some (.lst (L.map fun q => V.ref q.2)) → Q (.ref l) H'
structure Txt (K : PySem.W.Frag) (mg : Str → Option Value) (C : Addr) : Prop where
 cl : Cls K C
 nS : NoAttr K C "standing"
 nL : NoAttr K C "laid"
 mgC : mg "Net" = some (.ref C)
 all : mg "all" = none
 isi : mg "isinstance" = none
 str : mg "str" = none
 int : mg "int" = none
 bool : mg "bool" = none
 list : mg "list" = none
 tuple : mg "tuple" = none
 len : mg "len" = none
 range : mg "range" = none
 abs : mg "abs" = none
 small : GlobIs mg "SMALL_LETTERS" (.str abc)
 longest : GlobIs mg "LONGEST_NAME" (.int 12)
 mostP : GlobIs mg "MOST_PLACES" (.int 20)
 mostT : GlobIs mg "MOST_TIES" (.int 40)
 kIB : PySem.W.kitOne K (.type "int") (.type "bool") = some false
section
variable {P : Program} {w : World} {K : PySem.W.Frag} {mg : Str → Option Value} {base : Heap} {C : Addr}
theorem sc_made : FnScope ["text", "signs"] ["text", "signs"] (defScope s_is_made_of) := ⟨rfl, rfl, rfl, by decide +kernel, rfl, by decide +kernel, by decide +kernel⟩
theorem ok_made {f : Addr} {fd : FuncData} (F : Fun K "is_made_of" "is_made_of" s_is_made_of f fd) (T : Txt K mg C) : FnOk P w K mg base CX0 1 f fd ["text", "signs"] spMade := by
 refine F.ok sc_made (fun vs H Q E h => ?_) (fun cdv A outer s H vs Q E hr h => ?_)
 ·obtain ⟨x, y, rfl, _⟩ := h
  rfl
 ·obtain ⟨x, y, rfl, hx, k⟩ := h
  refine ⟨_, pss_one (ps_ret (pe_callB (call_all rfl) (by rfl) T.all b_all (pa_cons (pe_comp (N := ["sign", "signs"]) (xs := 1) (js := [1]) rfl (compScope_of rfl) (pi_str (pv 0))
   (fun _ _ _ _ => pg_name (i := 0) (show List.Nodup (["sign", "signs"] : List Str) by decide +kernel) rfl (Or.inl rfl)) (fun _ _ _ _ => pts_nil) (fun _ _ _ _ => pe_cmpR op_in_str (pv 0) (pv 1) (by with_unfolding_all rfl))) pa_nil))), ?_⟩
  refine ⟨_, rfl, x, rfl, comp_str (fun i acc σ' H' => H' = H ∧ acc = (x.cps.toList.take i).map (fun c => V.bl (decide (c ∈ y.cps.toList))) ∧ ∃ o, σ' = [o, some (.str y)])
   ⟨rfl, rfl, none, rfl⟩ (fun i acc σ' H' h => ?_) hx (fun i c acc σ' H' hc h => ?_) (fun acc σ' H' h p hp => ?_)⟩
  ·rw [h.2.1, List.length_map, List.length_take]
   omega
  ·obtain ⟨rfl, rfl, o, rfl⟩ := h
   refine ⟨_, rfl, _, rfl, _, _, rfl, rfl, rfl, ?_, _, rfl⟩
   have hc' : x.cps.toList[i]? = some c := by simpa using hc
   rw [StrLaws.found_one, List.take_add_one, hc', List.map_append]
   rfl
  ·obtain ⟨rfl, rfl, o, rfl⟩ := h
   refine ⟨p, x.cps.toList.map (fun c => decide (c ∈ y.cps.toList)), rfl, SqL.of ?_, ?_⟩
   ·rw [upd_same, List.map_map, List.take_of_length_le (by simp)]
    rfl
   ·rw [List.all_map]
    exact k _ fun b ob e => by rw [upd_ne (ne_of_none e hp)]; exact e
theorem mem_abc (c : Nat) : decide (c ∈ abc.cps.toList) = smallB c := by
 have e : abc.cps.toList = (List.range 26).map (97 + ·) := by decide +kernel
 rw [e]
 unfold smallB
 rw [Bool.eq_iff_iff]
 simp only [decide_eq_true_eq, Bool.and_eq_true, List.mem_map, List.mem_range]
 constructor
 ·rintro ⟨k, h1, h2⟩
  omega
 ·intro h
  exact ⟨c - 97, by omega, by omega⟩
theorem sc_name : FnScope ["word"] ["word"] (defScope s_is_name) := ⟨rfl, rfl, rfl, by decide +kernel, rfl, by decide +kernel, by decide +kernel⟩
theorem ok_name {f : Addr} {fd : FuncData} (F : Fun K "is_name" "is_name" s_is_name f fd) (T : Txt K mg C) (c1 : Can P w K mg base 1 "is_made_of" ["text", "signs"] spMade) : FnOk P w K mg base CX0 2 f fd ["word"] spName := by
 refine F.ok sc_name (fun vs H Q E h => ?_) (fun cdv A outer s H vs Q E hr h => ?_)
 ·obtain ⟨x, rfl, _⟩ := h
  rfl
 ·obtain ⟨x, rfl, hx, k⟩ := h
  refine ⟨_, pss_cons (ps_if (pt_not (pt_val (pe_callB call_isinst (by rfl) T.isi b_isi (pa_cons (pv 0) (pa_cons (pe_ty T.str (by rfl) b_str) pa_nil))))) (pss_one (ps_ret pe_bl)) pss_nil)
   (pss_one (ps_ret (pe_and (pe_chain op_le op_le pe_int (pe_callB call_len_str (by rfl) T.len b_len (pa_cons (pv 0) pa_nil)) (pe_globC T.longest (by rfl)))
    (pe_one (pe_callC c1 hr (by rfl) (pa_cons (pv 0) (pa_cons (pe_globC T.small (by rfl)) pa_nil))))))), ?_⟩
  refine ⟨_, rfl, _, "str", _, true, rfl, .str x, rfl, true, rfl, iteF ?_⟩
  refine ⟨_, rfl, x, rfl, hx, _, _, rfl, rfl, _, rfl, ?_⟩
  refine ite2 (fun h1 => ⟨_, _, rfl, rfl, _, rfl, ite2 (fun h2 => ⟨_, rfl, x, abc, rfl, hx, fun H' s' => ?_⟩) (fun h2 => ?_)⟩) (fun h1 => ⟨_, rfl, iteF ?_⟩)
  ·have e : nameB x = (x.cps.toList.all fun c => decide (c ∈ abc.cps.toList)) := by
    unfold nameB
    rw [decide_eq_true (p := 1 ≤ x.length) (by have := of_decide_eq_true h1; omega), decide_eq_true (p := x.length ≤ 12) (by have := of_decide_eq_true h2; omega)]
    simp only [mem_abc, Bool.true_and]
   rw [← e]
   exact k H' s'
  ·have e : nameB x = false := by
    unfold nameB
    rw [decide_eq_false (p := x.length ≤ 12) (fun z => h2 (decide_eq_true (by omega)))]
    simp
   have := k H (Same.refl H)
   rw [e] at this
   exact this
  ·have e : nameB x = false := by
    unfold nameB
    rw [decide_eq_false (p := 1 ≤ x.length) (fun z => h1 (decide_eq_true (by omega)))]
    simp
   have := k H (Same.refl H)
   rw [e] at this
   exact this
theorem sc_whole : FnScope ["thing"] ["thing"] (defScope s_is_whole) := ⟨rfl, rfl, rfl, by decide +kernel, rfl, by decide +kernel, by decide +kernel⟩
theorem ok_whole {f : Addr} {fd : FuncData} (F : Fun K "is_whole" "is_whole" s_is_whole f fd) (T : Txt K mg C) : FnOk P w K mg base CX0 1 f fd ["thing"] spWhole := by
 refine F.ok sc_whole (fun vs H Q E h => ?_) (fun cdv A outer s H vs Q E hr h => ?_)
 ·obtain ⟨x, rfl, _⟩ := h
  rfl
 ·obtain ⟨x, rfl, k⟩ := h
  refine ⟨_, pss_one (ps_ret (pe_and (pe_callB call_isinst (by rfl) T.isi b_isi (pa_cons (pv 0) (pa_cons (pe_ty T.int (by rfl) b_int) pa_nil)))
   (pe_one (pe_not (pe_callB call_isinst (by rfl) T.isi b_isi (pa_cons (pv 0) (pa_cons (pe_ty T.bool (by rfl) b_bool) pa_nil))))))), ?_⟩
  exact ⟨_, rfl, _, "int", _, true, rfl, .int x, rfl, true, rfl, iteT ⟨_, rfl, _, "bool", _, false, rfl, .int x, T.kIB, false, rfl, k⟩⟩
theorem sc_refName : FnScope ["word"] ["word"] (defScope s_refuse_no_name) := ⟨rfl, rfl, rfl, by decide +kernel, rfl, by decide +kernel, by decide +kernel⟩
theorem ok_refName {f : Addr} {fd : FuncData} (F : Fun K "refuse_no_name" "refuse_no_name" s_refuse_no_name f fd) (T : Txt K mg C) (c1 : Can P w K mg base 2 "is_name" ["word"] spName) : FnOk P w K mg base CX0 3 f fd ["word"] spRefName := by
 refine F.ok sc_refName (fun vs H Q E h => ?_) (fun cdv A outer s H vs Q E hr h => ?_)
 ·obtain ⟨x, rfl, _⟩ := h
  rfl
 ·obtain ⟨x, rfl, hx, k⟩ := h
  refine ⟨_, pss_one (ps_if (pt_not (pt_val (pe_callC c1 hr (by rfl) (pa_cons (pv 0) pa_nil)))) pss_never pss_nil), ?_⟩
  refine ⟨_, rfl, x, rfl, ?_, fun H' s' => ⟨_, rfl, ?_⟩⟩
  ·have h1 : x.length ≤ 12 := by
    unfold nameB at hx
    simp at hx
    exact hx.1.2
   exact Nat.le_trans h1 (by decide)
  ·rw [hx]
   exact iteF (k H' s')
theorem sc_refWidth : FnScope ["width"] ["width"] (defScope s_refuse_no_width) := ⟨rfl, rfl, rfl, by decide +kernel, rfl, by decide +kernel, by decide +kernel⟩
theorem ok_refWidth {f : Addr} {fd : FuncData} (F : Fun K "refuse_no_width" "refuse_no_width" s_refuse_no_width f fd) (T : Txt K mg C) (c1 : Can P w K mg base 1 "is_whole" ["thing"] spWhole) : FnOk P w K mg base CX0 2 f fd ["width"] spRefWidth := by
 refine F.ok sc_refWidth (fun vs H Q E h => ?_) (fun cdv A outer s H vs Q E hr h => ?_)
 ·obtain ⟨x, rfl, _⟩ := h
  rfl
 ·obtain ⟨x, rfl, hx, k⟩ := h
  refine ⟨_, pss_one (ps_if (PW.pt (pw_or (pt_not (pt_val (pe_callC c1 hr (by rfl) (pa_cons (pv 0) pa_nil)))) (pw_or1 (pt_cmpR op_lt (pv 0) pe_int (nomark _))))) pss_never pss_nil), ?_⟩
  refine ⟨_, rfl, x, rfl, true, rfl, iteF ⟨_, rfl, _, _, rfl, rfl, _, rfl, ?_⟩⟩
  rw [decide_eq_false (by omega)]
  exact iteF k
theorem sc_refMore : FnScope ["many", "most"] ["many", "most"] (defScope s_refuse_more) := ⟨rfl, rfl, rfl, by decide +kernel, rfl, by decide +kernel, by decide +kernel⟩
theorem ok_refMore {f : Addr} {fd : FuncData} (F : Fun K "refuse_more" "refuse_more" s_refuse_more f fd) (T : Txt K mg C) : FnOk P w K mg base CX0 1 f fd ["many", "most"] spRefMore := by
 refine F.ok sc_refMore (fun vs H Q E h => ?_) (fun cdv A outer s H vs Q E hr h => ?_)
 ·obtain ⟨x, y, rfl, _⟩ := h
  rfl
 ·obtain ⟨x, y, rfl, hx, k⟩ := h
  refine ⟨_, pss_one (ps_if (pt_cmpR op_gt (pv 0) (pv 1) (nomark _)) pss_never pss_nil), ?_⟩
  refine ⟨_, rfl, _, rfl, _, _, rfl, rfl, _, rfl, ?_⟩
  rw [decide_eq_false (by omega)]
  exact iteF k
theorem sc_init : FnScope ["self"] ["self"] (defScope s_Net_init) := ⟨rfl, rfl, rfl, by decide +kernel, rfl, by decide +kernel, by decide +kernel⟩
theorem ok_init {f : Addr} {fd : FuncData} (F : Fun K "__init__" "Net.__init__" s_Net_init f fd) (T : Txt K mg C) : FnOk P w K mg base CX0 1 f fd ["self"] (spInit C) := by
 refine F.ok sc_init (fun vs H Q E h => ?_) (fun cdv A outer s H vs Q E hr h => ?_)
 ·obtain ⟨p, dx, rfl, _⟩ := h
  rfl
 ·obtain ⟨p, dx, rfl, hp, k⟩ := h
  refine ⟨_, pss_cons (ps_fld (pv 0) pe_dnewK rfl) (pss_one (ps_fld (pv 0) pe_dnewK rfl)), ?_⟩
  intro ds hds
  have n1 : p ≠ ds := ne_of_none hp hds
  refine ⟨_, rfl, p, C, dx, [], rfl, (by rw [upd_ne n1]; exact hp), T.cl, T.nS, (by show 0 < 1000; decide), ?_⟩
  intro dl hdl
  have n2 : p ≠ dl := by
   intro e
   subst e
   rw [upd_same] at hdl
   cases hdl
  have n3 : ds ≠ dl := by
   intro e
   subst e
   rw [upd_ne n1.symm, upd_same] at hdl
   cases hdl
  have hdl' : H dl = none := by
   rw [upd_ne n2.symm, upd_ne n3.symm] at hdl
   exact hdl
  refine ⟨_, rfl, p, C, dx, _, rfl, (by rw [upd_ne n2, upd_same]), T.cl, T.nL, (by show 1 < 1000; decide), ?_⟩
  refine k ds dl _ hds hdl' ⟨⟨dx, upd_same⟩, ?_, ⟨[], ⟨rfl, fun q h => nomatch h⟩, ?_⟩, n3⟩ fun b o e hb => ?_
  ·rw [upd_ne n1.symm, upd_ne n3, upd_ne n1.symm, upd_same]
   rfl
  ·rw [upd_ne n2.symm, upd_same]
   rfl
  ·rw [upd_ne hb, upd_ne (ne_of_none e hdl'), upd_ne hb, upd_ne (ne_of_none e hds)]
   exact e
theorem st_none {S : NS} {x : Str} (h : x ∉ S.pl) : valV (stKV S) (Sum.inr x : Key) = none := by
 cases e : valV (stKV S) (Sum.inr x : Key) with
 | none => rfl
 | some v =>
  have := valV_in e
  unfold stKV at this
  rw [List.map_map] at this
  obtain ⟨y, hy, e2⟩ := List.mem_map.mp this
  exact absurd (Sum.inr.inj e2 ▸ hy) h
theorem st_some {S : NS} {x : Str} (h : x ∈ S.pl) : (valV (stKV S) (Sum.inr x : Key)).isSome = true := by
 cases e : valV (stKV S) (Sum.inr x : Key) with
 | some v => rfl
 | none =>
  refine absurd ?_ (valV_not e)
  unfold stKV
  rw [List.map_map]
  exact List.mem_map.mpr ⟨x, h, rfl⟩
theorem st_in (S : NS) (x : Str) : (valV (stKV S) (Sum.inr x : Key)).isSome = decide (x ∈ S.pl) := by
 by_cases h : x ∈ S.pl
 ·rw [st_some h, decide_eq_true h]
 ·rw [st_none h, decide_eq_false h]
  rfl
theorem ld_keys {L : List (Row × Addr)} {rs : List Row} (h : L.map (·.1) = rs) : (ldKV L).map (·.1) = rs.map fun r => (Sum.inr r.nm : Key) := by
 rw [← h]
 unfold ldKV
 rw [List.map_map, List.map_map]
 rfl
theorem ld_none {L : List (Row × Addr)} {S : NS} {x : Str} (hL : L.map (·.1) = S.ti) (h : x ∉ S.nms) : valV (ldKV L) (Sum.inr x : Key) = none := by
 cases e : valV (ldKV L) (Sum.inr x : Key) with
 | none => rfl
 | some v =>
  have := valV_in e
  rw [ld_keys hL] at this
  obtain ⟨y, hy, e2⟩ := List.mem_map.mp this
  exact absurd (List.mem_map.mpr ⟨y, hy, Sum.inr.inj e2⟩) h
theorem ld_some {L : List (Row × Addr)} {S : NS} {x : Str} (hL : L.map (·.1) = S.ti) (h : x ∈ S.nms) : ∃ q ∈ L, q.1.nm = x ∧ valV (ldKV L) (Sum.inr x : Key) = some (.ref q.2) := by
 have hx : ∃ q ∈ L, q.1.nm = x := by
  unfold NS.nms at h
  rw [← hL, List.map_map] at h
  exact List.mem_map.mp h
 have key : ∀ L : List (Row × Addr), (∃ q ∈ L, q.1.nm = x) → ∃ q ∈ L, q.1.nm = x ∧ valV (ldKV L) (Sum.inr x : Key) = some (.ref q.2) := by
  intro L
  induction L with
  | nil => rintro ⟨q, h, _⟩; exact nomatch h
  | cons q r ih =>
   intro h
   by_cases e : q.1.nm = x
   ·exact ⟨q, List.mem_cons_self, e, valV_pos (congrArg Sum.inr e)⟩
   ·obtain ⟨q', h1, h2⟩ := h
    rcases List.mem_cons.mp h1 with rfl | h1
    ·exact absurd h2 e
    ·obtain ⟨q2, a1, a2, a3⟩ := ih ⟨q', h1, h2⟩
     refine ⟨q2, List.mem_cons_of_mem _ a1, a2, ?_⟩
     show valV (_ :: ldKV r) _ = _
     rw [valV_neg (fun z => e (Sum.inr.inj z))]
     exact a3
 exact key L hx
theorem sc_place : FnScope ["self", "name"] ["self", "name"] (defScope s_Net_place) := ⟨rfl, rfl, rfl, by decide +kernel, rfl, by decide +kernel, by decide +kernel⟩
theorem ok_place {f : Addr} {fd : FuncData} (F : Fun K "place" "Net.place" s_Net_place f fd) (T : Txt K mg C) (c1 : Can P w K mg base 3 "refuse_no_name" ["word"] spRefName) (c2 : Can P w K mg base 1 "refuse_more" ["many", "most"] spRefMore) :
  FnOk P w K mg base CX0 4 f fd ["self", "name"] (spPlace C) := by
 refine F.ok sc_place (fun vs H Q E h => ?_) (fun cdv A outer s H vs Q E hr h => ?_)
 ·obtain ⟨p, ds, dl, S, x, rfl, _⟩ := h
  rfl
 ·obtain ⟨p, ds, dl, S, x, rfl, N, hx, hn, hl, k⟩ := h
  have hu := hu_of hr
  refine ⟨_, pss_cons (ps_expr (pe_callC c1 hr (by rfl) (pa_cons (pv 1) pa_nil)))
   (pss_cons (ps_if (pt_cmp (pc_din hu (pv 1) (pe_fld (pv 0) rfl))) pss_never pss_nil)
   (pss_cons (ps_expr (pe_callC c2 (hr.mono (by decide)) (by rfl) (pa_cons (pe_op op_add (pe_callB call_lenD (by rfl) T.len b_len (pa_cons (pe_fld (pv 0) rfl) pa_nil)) pe_int) (pa_cons (pe_globC T.mostP (by rfl)) pa_nil))))
   (pss_one (ps_dput hu (pe_fld (pv 0) rfl) (pv 1) pe_bl rfl)))), ?_⟩
  refine ⟨_, rfl, x, rfl, hx, fun H1 s1 => ?_⟩
  obtain ⟨⟨dx, h1⟩, h2, ⟨L, ⟨r1, r2⟩, h3⟩, ne⟩ := N
  have g1 := s1 _ _ h1
  have g2 := s1 _ _ h2
  refine ⟨_, rfl, _, rfl, p, C, dx, _, _, rfl, g1, T.cl, T.nS, flds_st _ _, ds, _, rfl, DGet.k (k := Sum.inr x) g2, _, rfl, ?_⟩
  rw [st_none hn]
  refine iteF ?_
  refine ⟨_, rfl, p, C, dx, _, _, rfl, g1, T.cl, T.nS, flds_st _ _, ds, _, rfl, g2, _, _, rfl, rfl, _, _, rfl, ?_, ?_⟩
  ·unfold stKV
   rw [List.length_map]
   omega
  refine ⟨_, rfl, p, C, dx, _, _, rfl, g1, T.cl, T.nS, flds_st _ _, _, rfl, ds, _, rfl, DPut.k (k := Sum.inr x) g2 (small1000 (by unfold stKV; rw [List.length_map]; omega)), ?_⟩
  have npd : p ≠ ds := ne_of g1 g2 (by intro z; cases z)
  have e : putK (stKV S) (Sum.inr x : Key) (V.bl true) = stKV ⟨S.pl ++ [x], S.ti⟩ := by
   rw [putK_new _ (st_none hn)]
   unfold stKV
   rw [List.map_append]
   rfl
  refine k _ ⟨⟨dx, by rw [upd_ne npd]; exact g1⟩, by rw [upd_same, e], ⟨L, ⟨r1, fun q hq => ?_⟩, by rw [upd_ne ne.symm]; exact s1 _ _ h3⟩, ne⟩ fun b o z z1 z2 => by rw [upd_ne z1]; exact s1 _ _ z
  have z := s1 _ _ (r2 q hq)
  rw [upd_ne (ne_of z g2 (by intro y; cases y))]
  exact z
theorem sc_places : FnScope ["self"] ["self"] (defScope s_Net_places) := ⟨rfl, rfl, rfl, by decide +kernel, rfl, by decide +kernel, by decide +kernel⟩
theorem ok_places {f : Addr} {fd : FuncData} (F : Fun K "places" "Net.places" s_Net_places f fd) (T : Txt K mg C) : FnOk P w K mg base CX0 1 f fd ["self"] (spPlaces C) := by
 refine F.ok sc_places (fun vs H Q E h => ?_) (fun cdv A outer s H vs Q E hr h => ?_)
 ·obtain ⟨p, ds, dl, S, rfl, _⟩ := h
  rfl
 ·obtain ⟨p, ds, dl, S, rfl, ⟨⟨dx, h1⟩, h2, _, _⟩, k⟩ := h
  refine ⟨_, pss_one (ps_ret (pe_callTy (call_listD rfl) (by rfl) T.list b_list (pa_cons (pe_fld (pv 0) rfl) pa_nil))), ?_⟩
  refine ⟨_, rfl, p, C, dx, _, _, rfl, h1, T.cl, T.nS, flds_st _ _, ds, stKV S, rfl, .inl h2, fun l hl => ?_⟩
  have e : (stKV S).map (fun kv => kV kv.1) = S.pl.map V.str := by
   unfold stKV
   rw [List.map_map]
   rfl
  rw [e]
  exact k l hl
theorem sc_ties : FnScope ["self"] ["self"] (defScope s_Net_ties) := ⟨rfl, rfl, rfl, by decide +kernel, rfl, by decide +kernel, by decide +kernel⟩
theorem ok_ties {f : Addr} {fd : FuncData} (F : Fun K "ties" "Net.ties" s_Net_ties f fd) (T : Txt K mg C) : FnOk P w K mg base CX0 1 f fd ["self"] (spTies C) := by
 refine F.ok sc_ties (fun vs H Q E h => ?_) (fun cdv A outer s H vs Q E hr h => ?_)
 ·obtain ⟨p, ds, dl, S, rfl, _⟩ := h
  rfl
 ·obtain ⟨p, ds, dl, S, rfl, ⟨⟨dx, h1⟩, h2, ⟨L, R, h3⟩, _⟩, k⟩ := h
  refine ⟨_, pss_one (ps_ret (pe_callTy (call_listV rfl) (by rfl) T.list b_list (pa_cons (pe_bm0 PySem.F.plainAttrs_dict PySem.F.slot_dict_values PySem.F.type_dict_values mt_values (pe_fld (pv 0) rfl)) pa_nil))), ?_⟩
  refine ⟨_, rfl, p, C, dx, _, _, rfl, h1, T.cl, T.nL, flds_ld _ _, .inr (.inr (.inl ⟨rfl, .inl ⟨_, h3⟩⟩)), dl, ldKV L, rfl, rfl, .inl h3, fun v hv => ?_⟩
  have nv : dl ≠ v := ne_of_none h3 hv
  refine ⟨v, dl, ldKV L, rfl, upd_same, .inl (by rw [upd_ne nv]; exact h3), fun l hl => ?_⟩
  have hlv : l ≠ v := by
   intro e
   subst e
   rw [upd_same] at hl
   cases hl
  have hl' : H l = none := by rw [upd_ne hlv] at hl; exact hl
  refine k l _ L hl' ((Same.new hv).upd hl) R ?_
  rw [upd_same]
  unfold ldKV
  rw [List.map_map]
  rfl
end
end Net
namespace Net
open PySem L2
section
variable {P : Program} {w : World} {K : PySem.W.Frag} {mg : Str → Option Value} {base : Heap} {C : Addr}
theorem sc_cell : FnScope ["_law_script", "_law_k"] ["_law_script", "_law_k"] (defScope s_l_cell_at) := ⟨rfl, rfl, rfl, by decide +kernel, rfl, by decide +kernel, by decide +kernel⟩
theorem nodup_len {α : Type} [DecidableEq α] : ∀ {l m : List α}, l.Nodup → (∀ x ∈ l, x ∈ m) → l.length ≤ m.length
 | [], _, _, _ => Nat.zero_le _
 | x :: r, m, h, hs => by
  obtain ⟨h1, h2⟩ := List.nodup_cons.mp h
  have hx : x ∈ m := hs x List.mem_cons_self
  have := nodup_len (l := r) (m := m.erase x) h2 fun y hy => by
   have hne : y ≠ x := fun e => h1 (e ▸ hy)
   exact (List.mem_erase_of_ne hne).mpr (hs y (List.mem_cons_of_mem _ hy))
  rw [List.length_erase_of_mem hx] at this
  have hp : 0 < m.length := List.length_pos_of_mem hx
  rw [List.length_cons]
  omega
theorem abc_get {j : Nat} (h : j < 26) : abc.cps.toList[j]? = some (97 + j) := by
 have e : abc.cps.toList = (List.range 26).map (97 + ·) := by decide +kernel
 rw [e, List.getElem?_map, List.getElem?_range h]
 rfl
end
end Net
namespace Net
open PySem L2
theorem nodup_snoc {l : List Str} {x : Str} (h : l.Nodup) (hx : x ∉ l) : (l ++ [x]).Nodup := L2.nd_snoc h hx
theorem withEnds_eq (pl : List Str) (a b : Str) : withEnds pl a b = pl ++ ((if a ∈ pl then [] else [a]) ++ (if b ∈ pl then [] else [b])) := by
 unfold withEnds
 by_cases ha : a ∈ pl <;> by_cases hb : b ∈ pl <;> simp [ha, hb]
theorem Rows.same {H H' : Hp} {L : List (Row × Addr)} {rs : List Row} (s : Same H H') (h : Rows H L rs) : Rows H' L rs := ⟨h.1, fun q hq => s _ _ (h.2 q hq)⟩
theorem NetAt.same {C : Addr} {H H' : Hp} {p ds dl : Addr} {S : NS} (s : Same H H') (h : NetAt C H p ds dl S) : NetAt C H' p ds dl S :=
 ⟨let ⟨dx, e⟩ := h.ob; ⟨dx, s _ _ e⟩, s _ _ h.st, let ⟨L, r, e⟩ := h.ld; ⟨L, r.same s, s _ _ e⟩, h.ne⟩
theorem strOk_of {x : Str} (h : nameB x = true) : PyData.strOk x = true := by
 unfold nameB at h
 simp only [Bool.and_eq_true, List.all_eq_true] at h
 unfold PyData.strOk
 rw [Array.all_eq_true']
 intro c hc
 have := h.2 c (by simpa using hc)
 unfold smallB at this
 simp at this
 simp
 omega
def rowD (r : Row) : PyData := .tuple [.str r.nm, .str r.a, .str r.b, .int r.w, .int r.c]
theorem rd_strs {K : PySem.W.Frag} {H : Hp} {l : Addr} {ws : List Str} (h : H l = some (.lst (ws.map V.str))) (ok : ∀ x ∈ ws, nameB x = true) : RdD K H 2 (.ref l) (.list (ws.map PyData.str)) := by
 refine .inl ⟨_, _, SqL.of h, rfl, ?_⟩
 clear h
 induction ws with
 | nil => exact .nil
 | cons x r ih => exact .cons ⟨strOk_of (ok x List.mem_cons_self), rfl⟩ (ih fun y hy => ok y (List.mem_cons_of_mem _ hy))
theorem rd_rows {K : PySem.W.Frag} {H : Hp} {l : Addr} {L : List (Row × Addr)} {rs : List Row} (R : Rows H L rs) (h : H l = some (.lst (L.map fun q => V.ref q.2)))
  (ok : ∀ r ∈ rs, nameB r.nm = true ∧ nameB r.a = true ∧ nameB r.b = true) : RdD K H 2 (.ref l) (.list (rs.map rowD)) := by
 refine .inl ⟨_, _, SqL.of h, rfl, ?_⟩
 clear h
 obtain ⟨rfl, h2⟩ := R
 induction L with
 | nil => exact .nil
 | cons q r ih =>
  refine .cons (.inr ⟨_, _, SqT.of (h2 q List.mem_cons_self), rfl, ?_⟩) (ih (fun y hy => h2 y (List.mem_cons_of_mem _ hy)) fun y hy => ok y (List.mem_cons_of_mem _ hy))
  obtain ⟨a1, a2, a3⟩ := ok q.1 List.mem_cons_self
  exact .cons ⟨strOk_of a1, rfl⟩ (.cons ⟨strOk_of a2, rfl⟩ (.cons ⟨strOk_of a3, rfl⟩ (.cons rfl (.cons rfl .nil))))
theorem rd_nil {K : PySem.W.Frag} {H : Hp} {l : Addr} (h : H l = some (.lst [])) : RdD K H 2 (.ref l) (.list []) := .inl ⟨_, _, SqL.of h, rfl, .nil⟩
theorem lay_strs {ws : List Str} (ok : ∀ x ∈ ws, nameB x = true) : PyData.eqv (.list (ws.map PyData.str)) (.list (ws.map PyData.str)) = true := by
 rw [PyData.eqv]
 induction ws with
 | nil => rfl
 | cons x r ih =>
  show (PyData.eqv (.str x) (.str x) && PyData.eqvAll (r.map PyData.str) (r.map PyData.str)) = true
  rw [ih fun y hy => ok y (List.mem_cons_of_mem _ hy)]
  simp [PyData.eqv]
theorem lay_rows (rs : List Row) : PyData.eqv (.list (rs.map rowD)) (.list (rs.map rowD)) = true := by
 rw [PyData.eqv]
 induction rs with
 | nil => rfl
 | cons x r ih =>
  show (PyData.eqv (rowD x) (rowD x) && PyData.eqvAll (r.map rowD) (r.map rowD)) = true
  rw [ih]
  simp [rowD, PyData.eqv, PyData.eqvAll]
theorem eqv_nil (ds : List PyData) : PyData.eqv (.list ds) (.list []) = ds.isEmpty := by
 cases ds <;> rfl
theorem inV_str (x : Str) (ns : List Str) : inV (.str x) (ns.map V.str) = decide (x ∈ ns) := by
 unfold inV
 rw [List.any_map, Bool.eq_iff_iff]
 simp only [List.any_eq_true, Function.comp, decide_eq_true_eq, eqV]
 constructor
 ·rintro ⟨y, h1, h2⟩
  have := eq_of_beq h2
  exact this ▸ h1
 ·intro h
  exact ⟨x, h, by simp⟩
theorem flat_strs (ns : List Str) : (ns.map V.str).all flatV = true := by
 rw [List.all_map]
 exact List.all_eq_true.mpr fun _ _ => rfl
end Net
namespace Net
open PySem L2
section
variable {P : Program} {w : World} {K : PySem.W.Frag} {mg : Str → Option Value} {base : Heap} {C : Addr}
abbrev Ntie : List Str := ["self", "name", "a", "b", "width", "cost", "word", "new_places", "end"]
theorem sc_tie : FnScope Ntie ["self", "name", "a", "b", "width", "cost"] (defScope s_Net_tie) := ⟨rfl, rfl, rfl, by decide +kernel, rfl, by decide +kernel, by decide +kernel⟩
theorem ok_tie {f : Addr} {fd : FuncData} (F : Fun K "tie" "Net.tie" s_Net_tie f fd) (T : Txt K mg C) (c1 : Can P w K mg base 3 "refuse_no_name" ["word"] spRefName) (c2 : Can P w K mg base 2 "refuse_no_width" ["width"] spRefWidth) (c3 : Can P w K mg base 1 "refuse_more" ["many", "most"] spRefMore) :
  FnOk P w K mg base CX0 4 f fd ["self", "name", "a", "b", "width", "cost"] (spTie C) := by
 refine F.ok sc_tie (fun vs H Q E h => ?_) (fun cdv A outer s H vs Q E hr h => ?_)
 ·obtain ⟨p, ds, dl, S, r, rfl, _⟩ := h
  rfl
 ·obtain ⟨p, ds, dl, S, r, rfl, N, n1, n2, n3, hn, hab, hw, hl40, hl20, k⟩ := h
  have hu := hu_of hr
  refine ⟨_, pss_cons (ps_for PassesOwn.never rfl (pi_tup (pe_tup (pa_cons (pv 1) (pa_cons (pv 2) (pa_cons (pv 3) pa_nil))))) (pg_name (i := 6) sc_tie.nd rfl (Or.inl rfl)) (pss_one (ps_expr (pe_callC c1 hr (by rfl) (pa_cons (pv 6) pa_nil)))))
   (pss_cons (ps_if (pt_cmp (pc_din hu (pv 1) (pe_fld (pv 0) rfl))) pss_never pss_nil)
   (pss_cons (ps_if (pt_cmpR op_eq (pv 2) (pv 3) (nomark _)) pss_never pss_nil)
   (pss_cons (ps_expr (pe_callC c2 (hr.mono (by decide)) (by rfl) (pa_cons (pv 4) pa_nil)))
   (pss_cons (ps_comp (j := 7) (N := ["end", "self"]) (xs := 1) (js := [0]) rfl sc_tie.nd rfl rfl (compScope_of rfl) (pi_tup (pe_tup (pa_cons (pv 2) (pa_cons (pv 3) pa_nil)))) (fun _ _ _ _ => pg_name (i := 0) (show List.Nodup (["end", "self"] : List Str) by decide +kernel) rfl (Or.inl rfl))
    (fun _ _ _ _ => pts_one (pt_cmp (pc_dnotin hu (pv 0) (pe_fldK K (by rfl) (pv 1) (by rfl))))) (fun _ _ _ _ => pv 0) rfl)
   (pss_cons (ps_expr (pe_callC c3 (hr.mono (by decide)) (by rfl) (pa_cons (pe_op op_add (pe_callB call_lenD (by rfl) T.len b_len (pa_cons (pe_fld (pv 0) rfl) pa_nil)) pe_int) (pa_cons (pe_globC T.mostT (by rfl)) pa_nil))))
   (pss_cons (ps_expr (pe_callC c3 (hr.mono (by decide)) (by rfl) (pa_cons (pe_op op_add (pe_callB call_lenD (by rfl) T.len b_len (pa_cons (pe_fld (pv 0) rfl) pa_nil)) (pe_callB call_len_seq (by rfl) T.len b_len (pa_cons (pv 7) pa_nil))) (pa_cons (pe_globC T.mostP (by rfl)) pa_nil))))
   (pss_cons (ps_for PassesOwn.never rfl (pi_list (pv 7)) (pg_name (i := 8) sc_tie.nd rfl (Or.inl rfl)) (pss_one (ps_dput hu (pe_fld (pv 0) rfl) (pv 8) pe_bl rfl)))
   (pss_one (ps_dput hu (pe_fld (pv 0) rfl) (pv 1) (pe_tup (pa_cons (pv 1) (pa_cons (pv 2) (pa_cons (pv 3) (pa_cons (pv 4) (pa_cons (pv 5) pa_nil)))))) rfl))))))))), ?_⟩
  refine ⟨_, rfl, _, rfl, _, rfl, (by show 3 ≤ sizeLine; decide), fun t ht => ⟨t, rfl, ⟨_, SqT.of upd_same⟩, ?_⟩⟩
  have st : Same H (upd H t (.tup [V.str r.nm, V.str r.a, V.str r.b])) := Same.new ht
  have et : (upd H t (.tup [V.str r.nm, V.str r.a, V.str r.b])) t = some (.tup [V.str r.nm, V.str r.a, V.str r.b]) := upd_same
  generalize upd H t (.tup [V.str r.nm, V.str r.a, V.str r.b]) = H1 at st et
  refine for_tup (K := K) (a := t) (xs := [V.str r.nm, V.str r.a, V.str r.b]) (fun i σ' H' => (∃ v, σ' = [some (.ref p), some (.str r.nm), some (.str r.a), some (.str r.b), some (.int r.w), some (.int r.c), v, none, none]) ∧ Same H1 H')
   ⟨⟨_, rfl⟩, Same.refl H1⟩ (fun i σ' H' _ h => SqT.of (h.2 _ _ et)) (fun i x σ' H' hx h => ?_) (fun σ' H' h => ?_)
  ·obtain ⟨⟨v, rfl⟩, s1⟩ := h
   obtain ⟨y, rfl, hy⟩ : ∃ y, x = V.str y ∧ nameB y = true := by
    match i, hx with
    | 0, hx => exact ⟨_, (Option.some.inj hx).symm, n1⟩
    | 1, hx => exact ⟨_, (Option.some.inj hx).symm, n2⟩
    | 2, hx => exact ⟨_, (Option.some.inj hx).symm, n3⟩
    | n + 3, hx => simp at hx
   exact ⟨_, rfl, y, rfl, hy, fun H2 s2 => ⟨⟨_, rfl⟩, s1.trans s2⟩⟩
  obtain ⟨⟨v, rfl⟩, s1⟩ := h
  have sA := st.trans s1
  obtain ⟨⟨dx, h1⟩, h2, ⟨L, R, h3⟩, ne⟩ := N.same sA
  refine ⟨_, rfl, _, rfl, p, C, dx, _, _, rfl, h1, T.cl, T.nL, flds_ld _ _, dl, _, rfl, DGet.k (k := Sum.inr r.nm) h3, _, rfl, ?_⟩
  rw [ld_none R.1 hn]
  refine iteF ?_
  refine ⟨_, rfl, _, rfl, rfl, _, rfl, ?_⟩
  rw [decide_eq_false (fun z => hab (by injection z))]
  refine iteF ⟨_, rfl, r.w, rfl, hw, ?_⟩
  refine ⟨_, rfl, _, rfl, (by show 2 ≤ sizeLine; decide), fun t2 ht2 => ⟨t2, rfl, ⟨_, SqT.of upd_same⟩, ?_⟩⟩
  have sB : Same H' (upd H' t2 (.tup [V.str r.a, V.str r.b])) := Same.new ht2
  have et2 : (upd H' t2 (.tup [V.str r.a, V.str r.b])) t2 = some (.tup [V.str r.a, V.str r.b]) := upd_same
  generalize upd H' t2 (.tup [V.str r.a, V.str r.b]) = H2 at sB et2
  have g1 := sB _ _ h1
  have g2 := sB _ _ h2
  have g3 := sB _ _ h3
  refine comp_tup (K := K) (a := t2) (ys := [r.a, r.b].map V.str) (fun i acc σ' H' => H' = H2 ∧ acc = (([r.a, r.b].take i).filter fun x => !decide (x ∈ S.pl)).map V.str ∧ ∃ o, σ' = [o, some (.ref p)]) ⟨rfl, rfl, none, rfl⟩ (fun i acc σ' H' h => ?_) (by show 2 ≤ sizeLine; decide)
   (fun i acc σ' H' _ h => by rw [h.1]; exact SqT.of et2) (fun i x acc σ' H' hx h => ?_) (fun acc σ' H' h np hnp => ?_)
  ·obtain ⟨_, rfl, _⟩ := h
   rw [List.length_map]
   exact Nat.le_trans (List.length_filter_le _ _) (by rw [List.length_take]; omega)
  ·obtain ⟨rfl, rfl, o, rfl⟩ := h
   rw [List.getElem?_map] at hx
   cases ex : [r.a, r.b][i]? with
   | none => rw [ex] at hx; cases hx
   | some y =>
    rw [ex] at hx
    cases hx
    refine ⟨_, rfl, _, rfl, p, C, dx, _, _, rfl, g1, T.cl, T.nS, flds_st _ _, ds, _, rfl, DGet.k (k := Sum.inr y) g2, _, rfl, ?_⟩
    rw [st_in]
    by_cases hy : y ∈ S.pl
    ·rw [decide_eq_true hy]
     refine iteF ⟨rfl, ?_, _, rfl⟩
     rw [List.take_add_one, ex, List.filter_append]
     simp [hy]
    ·rw [decide_eq_false hy]
     refine iteT ⟨_, rfl, rfl, ?_, _, rfl⟩
     rw [List.take_add_one, ex, List.filter_append, List.map_append]
     simp [hy]
  obtain ⟨rfl, rfl, o, rfl⟩ := h
  have etk : ([r.a, r.b].take ([r.a, r.b].map V.str).length) = [r.a, r.b] := rfl
  rw [etk]
  generalize hnew : ([r.a, r.b].filter fun x => !decide (x ∈ S.pl)) = new
  have hwe : withEnds S.pl r.a r.b = S.pl ++ new := by rw [← hnew]; rfl
  have hnn : new.Nodup ∧ ∀ x ∈ new, x ∉ S.pl := by
   rw [← hnew]
   refine ⟨?_, fun x hx => by simpa using (List.mem_filter.mp hx).2⟩
   refine List.Pairwise.filter _ ?_
   simp [hab]
  have sC : Same H' (upd H' np (.lst (new.map V.str))) := Same.new hnp
  have enp : (upd H' np (.lst (new.map V.str))) np = some (.lst (new.map V.str)) := upd_same
  generalize upd H' np (.lst (new.map V.str)) = H3 at sC enp
  have k1 := sC _ _ g1
  have k2 := sC _ _ g2
  have k3 := sC _ _ g3
  refine ⟨_, rfl, p, C, dx, _, _, rfl, k1, T.cl, T.nL, flds_ld _ _, dl, _, rfl, k3, _, _, rfl, rfl, _, _, rfl, ?_, ?_⟩
  ·have : (ldKV L).length = S.ti.length := by unfold ldKV; rw [List.length_map, ← R.1, List.length_map]
   omega
  refine ⟨_, rfl, p, C, dx, _, _, rfl, k1, T.cl, T.nS, flds_st _ _, ds, _, rfl, k2, _, rfl, np, _, rfl, .inl (SqL.of enp), _, _, rfl, rfl, _, _, rfl, ?_, ?_⟩
  ·rw [hwe, List.length_append] at hl20
   have : (stKV S).length = S.pl.length := by unfold stKV; rw [List.length_map]
   rw [List.length_map]
   omega
  have nnd : np ≠ ds := ne_of enp k2 (by intro z; cases z)
  refine ⟨_, rfl, np, rfl, ⟨_, SqL.of enp⟩, for_list (K := K) (a := np) (xs := new.map V.str) (fun i σ' H' => i ≤ new.length ∧ (∃ e, σ' = [some (.ref p), some (.str r.nm), some (.str r.a), some (.str r.b), some (.int r.w), some (.int r.c), v, some (.ref np), e]) ∧ H' ds = some (.dK (stKV ⟨S.pl ++ new.take i, S.ti⟩)) ∧ ∀ b ob, H3 b = some ob → b ≠ ds → H' b = some ob)
   ⟨Nat.zero_le _, ⟨_, rfl⟩, by rw [List.take_zero, List.append_nil]; exact k2, fun b ob e _ => e⟩ (fun i σ' H' _ h => SqL.of (h.2.2.2 _ _ enp nnd)) (fun i x σ' H' hx h => ?_) (fun σ' H' h => ?_)⟩
  ·obtain ⟨hi, ⟨e0, rfl⟩, hds, kp⟩ := h
   rw [List.getElem?_map] at hx
   cases ex : new[i]? with
   | none => rw [ex] at hx; cases hx
   | some y =>
    rw [ex] at hx
    cases hx
    have hil : i < new.length := (List.getElem?_eq_some_iff.mp ex).1
    have hyn : y ∉ S.pl ++ new.take i := by
     intro m
     rcases List.mem_append.mp m with z | z
     ·exact hnn.2 y (List.mem_of_getElem? ex) z
     ·obtain ⟨j, hj, ej⟩ := List.mem_iff_getElem.mp z
      rw [List.length_take] at hj
      rw [List.getElem_take] at ej
      have e2 := List.getElem?_eq_getElem hil
      rw [ex] at e2
      have : j = i := (List.getElem_inj hnn.1).mp (ej.trans (Option.some.inj e2))
      omega
    refine ⟨_, rfl, p, C, dx, _, _, rfl, kp _ _ k1 (ne_of k1 k2 (by intro z; cases z)), T.cl, T.nS, flds_st _ _, _, rfl, ds, _, rfl, DPut.k (k := Sum.inr y) hds (small1000 ?_), by omega, ⟨_, rfl⟩, ?_, fun b ob e h1 => by rw [upd_ne h1]; exact kp b ob e h1⟩
    ·unfold stKV
     rw [List.length_map, List.length_append, List.length_take]
     rw [hwe, List.length_append] at hl20
     omega
    ·rw [upd_same, putK_new _ (st_none (S := ⟨S.pl ++ new.take i, S.ti⟩) hyn), List.take_add_one, ex]
     unfold stKV
     show _ = some (HO.dK ((S.pl ++ (new.take i ++ [y])).map _))
     rw [← List.append_assoc, List.map_append (l₂ := [y])]
     rfl
  obtain ⟨_, ⟨e0, rfl⟩, hds, kp⟩ := h
  rw [List.length_map, List.take_length, ← hwe] at hds
  have q1 := kp _ _ k1 (ne_of k1 k2 (by intro z; cases z))
  have q3 := kp _ _ k3 ne.symm
  refine ⟨_, rfl, _, rfl, _, rfl, _, rfl, _, rfl, (by show 5 ≤ sizeLine; decide), fun u hu' => ?_⟩
  have sD : Same H' (upd H' u (.tup [V.str r.nm, V.str r.a, V.str r.b, V.int r.w, V.int r.c])) := Same.new hu'
  have eu : (upd H' u (.tup [V.str r.nm, V.str r.a, V.str r.b, V.int r.w, V.int r.c])) u = some (.tup r.tup) := upd_same
  generalize upd H' u (.tup [V.str r.nm, V.str r.a, V.str r.b, V.int r.w, V.int r.c]) = H5 at sD eu
  refine ⟨_, rfl, p, C, dx, _, _, rfl, sD _ _ q1, T.cl, T.nL, flds_ld _ _, _, rfl, dl, _, rfl, DPut.k (k := Sum.inr r.nm) (sD _ _ q3) (small1000 ?_), ?_⟩
  ·have : (ldKV L).length = S.ti.length := by unfold ldKV; rw [List.length_map, ← R.1, List.length_map]
   omega
  have npd : p ≠ dl := ne_of q1 q3 (by intro z; cases z)
  have udl : u ≠ dl := by intro z; rw [z] at hu'; rw [q3] at hu'; cases hu'
  refine k _ ⟨⟨dx, by rw [upd_ne npd]; exact sD _ _ q1⟩, by rw [upd_ne ne]; exact sD _ _ hds, ⟨L ++ [(r, u)], ⟨?_, fun q hq => ?_⟩, ?_⟩, ne⟩ fun b ob e z1 z2 => ?_
  ·rw [List.map_append, R.1]; rfl
  ·rcases List.mem_append.mp hq with hq | hq
   ·have y := R.2 q hq
    have y3 := kp _ _ (sC _ _ (sB _ _ y)) (ne_of (sC _ _ (sB _ _ y)) k2 (by intro z; cases z))
    rw [upd_ne (ne_of y3 q3 (by intro z; cases z))]
    exact sD _ _ y3
   ·rw [List.mem_singleton.mp hq, upd_ne udl]
    exact eu
  ·rw [upd_same, putK_new _ (ld_none R.1 hn)]
   unfold ldKV
   rw [List.map_append]
   rfl
  ·rw [upd_ne z2]
   exact sD _ _ (kp _ _ (sC _ _ (sB _ _ (sA _ _ e))) z1)
end
end Net
namespace Net
open PySem L2
def PD (H : Hp) : Nat → V → PyData → Prop
 | _, .non, d => d = .none
 | _, .bl b, d => d = .bool b
 | _, .int i, d => d = .int i
 | _, .str x, d => PyData.strOk x = true ∧ d = .str x
 | n + 1, .ref a, d => (∃ xs ds, H a = some (.lst xs) ∧ d = .list ds ∧ Paired (PD H n) xs ds) ∨ ∃ xs ds, H a = some (.tup xs) ∧ d = .tuple ds ∧ Paired (PD H n) xs ds
 | _, _, _ => False
theorem pair_get {α β : Type} {F : α → β → Prop} {a : α} : ∀ {xs : List α} {ys : List β} {i : Nat}, Paired F xs ys → xs[i]? = some a → ∃ b, ys[i]? = some b ∧ F a b
 | _, _, i, .nil, h => by simp at h
 | _, _, 0, .cons (a := c) (b := b) h _, e => by
  have e' : c = a := by simpa using e
  subst e'
  exact ⟨b, rfl, h⟩
 | _, _, i + 1, .cons _ t, e => by
  obtain ⟨b, h1, h2⟩ := pair_get (i := i) t (by simpa using e)
  exact ⟨b, by simpa using h1, h2⟩
theorem PD.same {H H' : Hp} (s : Same H H') : ∀ {n : Nat} {v : V} {d : PyData}, PD H n v d → PD H' n v d
 | 0, v, d, h => by cases v <;> first | exact h | exact h.elim
 | n + 1, v, d, h => by
  cases v <;> first | exact h | exact h.elim | skip
  rcases h with ⟨xs, ds, e, e2, p⟩ | ⟨xs, ds, e, e2, p⟩
  ·exact .inl ⟨xs, ds, s _ _ e, e2, L2.Paired.mapP p fun _ _ h => PD.same s h⟩
  ·exact .inr ⟨xs, ds, s _ _ e, e2, L2.Paired.mapP p fun _ _ h => PD.same s h⟩
theorem PD.rd {K : PySem.W.Frag} {H : Hp} : ∀ {n : Nat} {v : V} {d : PyData}, PD H n v d → RdD K H n v d
 | 0, v, d, h => by cases v <;> first | exact h | exact h.elim
 | n + 1, v, d, h => by
  cases v <;> first | exact h | exact h.elim | skip
  rcases h with ⟨xs, ds, e, e2, p⟩ | ⟨xs, ds, e, e2, p⟩
  ·exact .inl ⟨xs, ds, SqL.of e, e2, L2.Paired.mapP p fun _ _ h => PD.rd h⟩
  ·exact .inr ⟨xs, ds, SqT.of e, e2, L2.Paired.mapP p fun _ _ h => PD.rd h⟩
theorem PD.up {H : Hp} : ∀ {n : Nat} {v : V} {d : PyData}, PD H n v d → PD H (n + 1) v d
 | 0, v, d, h => by cases v <;> first | exact h | exact h.elim
 | n + 1, v, d, h => by
  cases v <;> first | exact h | exact h.elim | skip
  rcases h with ⟨xs, ds, e, e2, p⟩ | ⟨xs, ds, e, e2, p⟩
  ·exact .inl ⟨xs, ds, e, e2, L2.Paired.mapP p fun _ _ h => PD.up h⟩
  ·exact .inr ⟨xs, ds, e, e2, L2.Paired.mapP p fun _ _ h => PD.up h⟩
theorem PD.mono {H : Hp} {n : Nat} {v : V} {d : PyData} (h : PD H n v d) : ∀ k, PD H (n + k) v d
 | 0 => h
 | k + 1 => (PD.mono h k).up
theorem PD.strs {H : Hp} {n : Nat} : ∀ {ws : List Str}, (∀ x ∈ ws, nameB x = true) → Paired (PD H n) (ws.map V.str) (ws.map PyData.str)
 | [], _ => .nil
 | x :: r, ok => .cons (by cases n <;> exact ⟨strOk_of (ok x List.mem_cons_self), rfl⟩) (PD.strs fun y hy => ok y (List.mem_cons_of_mem _ hy))
def isL : PyData → Bool
 | .list _ => true
 | _ => false
def isS : PyData → Bool
 | .str _ => true
 | _ => false
theorem PD.ty {K : PySem.W.Frag} {H : Hp} {n : Nat} {v : V} {d : PyData} (h : PD H n v d) : ∃ t, TyOf K H v t ∧ PySem.W.kitOne K t (.type "list") = some (isL d) ∧ PySem.W.kitOne K t (.type "str") = some (isS d) := by
 cases n with
 | zero =>
  cases v <;> try exact h.elim
  ·cases (show d = _ from h); exact ⟨_, .non, k_n_l K, k_n_s K⟩
  ·cases (show d = _ from h); exact ⟨_, .bl _, k_b_l K, k_b_s K⟩
  ·cases (show d = _ from h); exact ⟨_, .int _, k_i_l K, k_i_s K⟩
  ·cases h.2; exact ⟨_, .str _, k_s_l K, rfl⟩
 | succ n =>
  cases v <;> try exact h.elim
  ·cases (show d = _ from h); exact ⟨_, .non, k_n_l K, k_n_s K⟩
  ·cases (show d = _ from h); exact ⟨_, .bl _, k_b_l K, k_b_s K⟩
  ·cases (show d = _ from h); exact ⟨_, .int _, k_i_l K, k_i_s K⟩
  ·cases h.2; exact ⟨_, .str _, k_s_l K, rfl⟩
  ·rcases h with ⟨xs, ds, e, rfl, p⟩ | ⟨xs, ds, e, rfl, p⟩
   ·exact ⟨_, .lst e, rfl, k_l_s K⟩
   ·exact ⟨_, .tup e, k_t_l K, k_t_s K⟩
theorem PD.str_of {H : Hp} {n : Nat} {v : V} {d : PyData} (h : PD H n v d) (e : isS d = true) : ∃ x, v = .str x ∧ d = .str x := by
 cases n with
 | zero => cases v <;> first | exact h.elim | (cases (show d = _ from h); cases e) | exact ⟨_, rfl, h.2⟩
 | succ n =>
  cases v <;> first | exact h.elim | (cases (show d = _ from h); cases e) | exact ⟨_, rfl, h.2⟩ | skip
  rcases h with ⟨xs, ds, e1, rfl, p⟩ | ⟨xs, ds, e1, rfl, p⟩ <;> cases e
theorem PD.list_of {H : Hp} {n : Nat} {v : V} {ds : List PyData} (h : PD H n v (.list ds)) : ∃ m a xs, n = m + 1 ∧ v = .ref a ∧ H a = some (.lst xs) ∧ Paired (PD H m) xs ds := by
 cases n with
 | zero => cases v <;> first | exact h.elim | cases (show PyData.list ds = _ from h) | cases h.2
 | succ n =>
  cases v <;> first | exact h.elim | cases (show PyData.list ds = _ from h) | cases h.2 | skip
  rcases h with ⟨xs, ds', e1, e2, p⟩ | ⟨xs, ds', e1, e2, p⟩
  ·cases e2; exact ⟨n, _, xs, rfl, rfl, e1, p⟩
  ·cases e2
def rowOf (ti : List Row) (x : Str) : Option Row := ti.find? fun r => decide (r.nm = x)
def stepD (ti : List Row) (here : Str) : PyData → Option Str
 | .str x => (rowOf ti x).bind fun r => if r.a = here then some r.b else none
 | _ => none
def stD (ti : List Row) : Str → List PyData → Option (List Str)
 | here, [] => some [here]
 | here, d :: ds => (stepD ti here d).bind fun h => (stD ti h ds).map (here :: ·)
def stopsOf (ti : List Row) (a : Str) : PyData → Option (List Str)
 | .list ds => stD ti a ds
 | _ => none
def endOf (ti : List Row) (a : Str) (d : PyData) : Option Str := (stopsOf ti a d).bind List.getLast?
theorem endOf_list (ti : List Row) (a : Str) (e : List PyData) : endOf ti a (.list e) = (stD ti a e).bind List.getLast? := rfl
def optV : Option Str → V
 | none => .non
 | some x => .str x
theorem stD_ne {ti : List Row} : ∀ {ds : List PyData} {a : Str} {l : List Str}, stD ti a ds = some l → l ≠ []
 | [], a, l, h => by cases h; exact List.cons_ne_nil _ _
 | d :: ds, a, l, h => by
  unfold stD at h
  cases e : stepD ti a d with
  | none => rw [e] at h; cases h
  | some x =>
   rw [e] at h
   cases e2 : stD ti x ds with
   | none => rw [Option.bind_some, e2] at h; cases h
   | some l' => rw [Option.bind_some, e2] at h; cases h; exact List.cons_ne_nil _ _
theorem stD_none {ti : List Row} (r : List PyData) : ∀ {ds : List PyData} {a : Str}, stD ti a ds = none → stD ti a (ds ++ r) = none
 | [], a, h => by cases h
 | d :: ds, a, h => by
  show (stepD ti a d).bind (fun x => (stD ti x (ds ++ r)).map (a :: ·)) = none
  unfold stD at h
  cases e : stepD ti a d with
  | none => rfl
  | some x =>
   rw [e, Option.bind_some] at h
   rw [Option.bind_some]
   have h' : stD ti x ds = none := by
    cases e2 : stD ti x ds with
    | none => rfl
    | some l => rw [e2] at h; cases h
   rw [stD_none r h']
   rfl
theorem stD_snoc {ti : List Row} {d : PyData} {here : Str} : ∀ {ds : List PyData} {a : Str} {l : List Str}, stD ti a ds = some l → l.getLast? = some here → stD ti a (ds ++ [d]) = (stepD ti here d).map fun x => l ++ [x]
 | [], a, l, h, e => by
  cases h
  have e' : a = here := by simpa using e
  subst e'
  show (stepD ti a d).bind (fun x => (stD ti x []).map (a :: ·)) = _
  cases stepD ti a d <;> rfl
 | c :: ds, a, l, h, e => by
  unfold stD at h
  show (stepD ti a c).bind (fun x => (stD ti x (ds ++ [d])).map (a :: ·)) = _
  cases e1 : stepD ti a c with
  | none => rw [e1] at h; cases h
  | some x =>
   rw [e1, Option.bind_some] at h
   rw [Option.bind_some]
   cases e2 : stD ti x ds with
   | none => rw [e2] at h; cases h
   | some l' =>
    rw [e2] at h
    cases h
    have hne := stD_ne e2
    have e' : l'.getLast? = some here := by
     rw [← e]
     cases l' with
     | nil => exact absurd rfl hne
     | cons y ys => simp [List.getLast?_cons_cons]
    rw [stD_snoc e2 e']
    cases stepD ti here d <;> rfl
theorem stD_take {ti : List Row} {ds : List PyData} {a here : Str} {l : List Str} {i : Nat} {d : PyData} (h : stD ti a (ds.take i) = some l) (e : l.getLast? = some here) (hd : ds[i]? = some d) : stD ti a (ds.take (i + 1)) = (stepD ti here d).map fun x => l ++ [x] := by
 rw [List.take_add_one, hd]
 exact stD_snoc h e
theorem stD_stop {ti : List Row} {ds : List PyData} {a here : Str} {l : List Str} {i : Nat} {d : PyData} (h : stD ti a (ds.take i) = some l) (e : l.getLast? = some here) (hd : ds[i]? = some d) (hs : stepD ti here d = none) : stD ti a ds = none := by
 have h1 := stD_take h e hd
 rw [hs] at h1
 have h2 := stD_none (ds.drop (i + 1)) (show stD ti a (ds.take (i + 1)) = none from h1)
 rw [List.take_append_drop] at h2
 exact h2
theorem row_find {ti : List Row} {L : List (Row × Addr)} (h : L.map (·.1) = ti) (x : Str) : (rowOf ti x = none ∧ valV (ldKV L) (Sum.inr x : Key) = none) ∨ ∃ q ∈ L, q.1.nm = x ∧ rowOf ti x = some q.1 ∧ valV (ldKV L) (Sum.inr x : Key) = some (.ref q.2) := by
 subst h
 induction L with
 | nil => exact .inl ⟨rfl, rfl⟩
 | cons q r ih =>
  by_cases e : q.1.nm = x
  ·refine .inr ⟨q, List.mem_cons_self, e, ?_, valV_pos (congrArg Sum.inr e)⟩
   show List.find? _ (q.1 :: _) = _
   rw [List.find?_cons_of_pos (by simpa using e)]
  ·have h1 : rowOf ((q :: r).map (·.1)) x = rowOf (r.map (·.1)) x := by
    show List.find? _ (q.1 :: _) = _
    rw [List.find?_cons_of_neg (by simpa using e)]
    rfl
   have h2 : valV (ldKV (q :: r)) (Sum.inr x : Key) = valV (ldKV r) (Sum.inr x : Key) := valV_neg (fun z => e (Sum.inr.inj z))
   rw [h1, h2]
   rcases ih with z | ⟨q', a, b, c⟩
   ·exact .inl z
   ·exact .inr ⟨q', List.mem_cons_of_mem _ a, b, c⟩
structure TxtW (mg : Str → Option Value) : Prop where
 dict : mg "dict" = none
 sum : mg "sum" = none
structure NetW (C : Addr) (H : Hp) (p ds dl : Addr) (S : NS) : Prop where
 net : NetAt C H p ds dl S
 nd : S.nms.Nodup
 few : S.ti.length ≤ 40
theorem NetW.same {C : Addr} {H H' : Hp} {p ds dl : Addr} {S : NS} (s : Same H H') (h : NetW C H p ds dl S) : NetW C H' p ds dl S := ⟨h.net.same s, h.nd, h.few⟩
def spIsPlace (C : Addr) : Sp := fun vs H Q _ => ∃ (p ds dl : Addr) (S : NS) (a : Str), vs = [.ref p, .str a] ∧ NetAt C H p ds dl S ∧ ∀ H', Same H H' → Q (.bl (decide (a ∈ S.pl))) H'
def spByName (C : Addr) : Sp := fun vs H Q _ => ∃ (p ds dl : Addr) (S : NS), vs = [.ref p] ∧ NetW C H p ds dl S ∧ ∀ (d : Addr) (H' : Hp) (L : List (Row × Addr)), H d = none → Same H H' → Rows H L S.ti → H' d = some (.dK (ldKV L)) → Q (.ref d) H'
def spStops (C : Addr) : Sp := fun vs H Q _ => ∃ (p ds dl : Addr) (S : NS) (a : Str) (x : V) (n : Nat) (d : PyData), vs = [.ref p, .str a, x] ∧ NetW C H p ds dl S ∧ a ∈ S.pl ∧ PD H n x d ∧ (∀ e, d = .list e → e.length ≤ 1000) ∧
 (∀ H', Same H H' → stopsOf S.ti a d = none → Q .non H') ∧ ∀ (l : List Str) (st : Addr) (H' : Hp), Same H H' → H st = none → H' st = some (.lst (l.map V.str)) → stopsOf S.ti a d = some l → Q (.ref st) H'
def spEnd (C : Addr) : Sp := fun vs H Q _ => ∃ (p ds dl : Addr) (S : NS) (a : Str) (x : V) (n : Nat) (d : PyData), vs = [.ref p, .str a, x] ∧ NetW C H p ds dl S ∧ a ∈ S.pl ∧ PD H n x d ∧ (∀ e, d = .list e → e.length ≤ 1000) ∧
 ∀ H', Same H H' → Q (optV (endOf S.ti a d)) H'
def costOf (ti : List Row) (ws : List Str) : Int := (ws.map fun x => ((rowOf ti x).map (·.c)).getD 0).sum
def spWCost (C : Addr) : Sp := fun vs H Q _ => ∃ (p ds dl l : Addr) (S : NS) (ws : List Str), vs = [.ref p, .ref l] ∧ NetW C H p ds dl S ∧ H l = some (.lst (ws.map V.str)) ∧ (∀ x ∈ ws, x ∈ S.nms) ∧ ws.length ≤ 1000 ∧ ∀ H', Same H H' → Q (.int (costOf S.ti ws)) H'
section
variable {P : Program} {w : World} {K : PySem.W.Frag} {mg : Str → Option Value} {base : Heap} {C : Addr}
theorem sc_isPlace : FnScope ["net", "paper"] ["net", "paper"] (defScope s_is_place) := ⟨rfl, rfl, rfl, by decide +kernel, rfl, by decide +kernel, by decide +kernel⟩
theorem ok_isPlace {f : Addr} {fd : FuncData} (F : Fun K "is_place" "is_place" s_is_place f fd) (T : Txt K mg C) (m1 : CanM P w K mg base 1 C "places" ["self"] (spPlaces C)) : FnOk P w K mg base CX0 2 f fd ["net", "paper"] (spIsPlace C) := by
 refine F.ok sc_isPlace (fun vs H Q E h => ?_) (fun cdv A outer s H vs Q E hr h => ?_)
 ·obtain ⟨p, ds, dl, S, a, rfl, _⟩ := h
  rfl
 ·obtain ⟨p, ds, dl, S, a, rfl, N, q⟩ := h
  obtain ⟨dx, h1⟩ := N.ob
  refine ⟨_, pss_one (ps_ret (pe_cmpR op_in_seq (pv 1) (pe_methC0 (pv 0) T.cl m1 hr) (by with_unfolding_all rfl))), ?_⟩
  refine ⟨_, rfl, _, rfl, p, dx, _, rfl, h1, flds_no ds dl (by decide +kernel) (by decide +kernel), p, ds, dl, S, rfl, N, fun l hl => ?_⟩
  refine ⟨l, S.pl.map V.str, rfl, .inl (SqL.of upd_same), rfl, flat_strs _, ?_⟩
  show Q (.bl (inV (.str a) (S.pl.map V.str))) _
  rw [inV_str]
  exact q _ (Same.new hl)
theorem sc_byName : FnScope ["net"] ["net"] (defScope s_ties_by_name) := ⟨rfl, rfl, rfl, by decide +kernel, rfl, by decide +kernel, by decide +kernel⟩
theorem ok_byName {f : Addr} {fd : FuncData} (F : Fun K "ties_by_name" "ties_by_name" s_ties_by_name f fd) (T : Txt K mg C) (TW : TxtW mg) (m2 : CanM P w K mg base 1 C "ties" ["self"] (spTies C)) : FnOk P w K mg base CX0 2 f fd ["net"] (spByName C) := by
 refine F.ok sc_byName (fun vs H Q E h => ?_) (fun cdv A outer s H vs Q E hr h => ?_)
 ·obtain ⟨p, ds, dl, S, rfl, _⟩ := h
  rfl
 ·obtain ⟨p, ds, dl, S, rfl, ⟨N, nd, few⟩, q⟩ := h
  obtain ⟨dx, h1⟩ := N.ob
  refine ⟨_, pss_one (ps_ret (pe_callTy (call_dictP rfl) (by rfl) TW.dict b_dict (pa_cons (pe_comp (N := ["row"]) (xs := 1) (js := []) rfl (compScope_of rfl) (pi_list (pe_methC0 (pv 0) T.cl m2 hr))
   (fun _ _ _ _ => pg_name (i := 0) (show List.Nodup (["row"] : List Str) by decide +kernel) rfl (Or.inl rfl)) (fun _ _ _ _ => pts_nil)
   (fun _ _ _ _ => pe_tup (pa_cons (pe_ix (ix_tupK K (by rfl)) (pv 0) pe_int (fun _ _ => by rfl)) (pa_cons (pv 0) pa_nil)))) pa_nil))), ?_⟩
  refine ⟨_, rfl, p, dx, _, rfl, h1, flds_no ds dl (by decide +kernel) (by decide +kernel), p, ds, dl, S, rfl, N, fun l H1 L hl s1 RL e1 => ?_⟩
  refine ⟨l, rfl, ⟨_, SqL.of e1⟩, comp_list (K := K) (ys := L.map fun q => V.ref q.2) (fun i acc σ' H' => ∃ ps : List (Addr × Key × V), acc = ps.map (fun q => V.ref q.1) ∧ ps.map (·.2) = ldKV (L.take i) ∧ (∀ q ∈ ps, H' q.1 = some (.tup [kV q.2.1, q.2.2])) ∧ Same H1 H' ∧ ∃ o, σ' = [o])
   ⟨[], rfl, rfl, fun _ h => (nomatch h), Same.refl H1, none, rfl⟩ (fun i acc σ' H' h => ?_) ?_ (fun i acc σ' H' _ h => ?_) (fun i x acc σ' H' hx h => ?_) (fun acc σ' H' h pp hpp => ?_)⟩
  ·obtain ⟨ps, rfl, e, _⟩ := h
   have := congrArg List.length e
   unfold ldKV at this
   rw [List.length_map, List.length_map, List.length_take] at this
   rw [List.length_map]
   omega
  ·have e : L.length = S.ti.length := by rw [← RL.1, List.length_map]
   rw [List.length_map, e]
   exact Nat.le_trans few (by decide)
  ·obtain ⟨_, _, _, _, s2, _⟩ := h
   exact SqL.of (s2 _ _ e1)
  ·obtain ⟨ps, rfl, e, hp, s2, o, rfl⟩ := h
   rw [List.getElem?_map] at hx
   cases eq : L[i]? with
   | none => rw [eq] at hx; cases hx
   | some qq =>
    rw [eq] at hx
    cases hx
    have hq := s2 _ _ (s1 _ _ (RL.2 qq (List.mem_of_getElem? eq)))
    refine ⟨_, rfl, _, _, _, .str qq.1.nm, rfl, rfl, SqT.of hq, rfl, _, rfl, (by show 2 ≤ sizeLine; decide), fun t ht => ?_⟩
    refine ⟨ps ++ [(t, Sum.inr qq.1.nm, V.ref qq.2)], by rw [List.map_append]; rfl, ?_, fun z hz => ?_, s2.upd ht, _, rfl⟩
    ·rw [List.map_append, e, List.take_add_one, eq]
     unfold ldKV
     rw [List.map_append]
     rfl
    ·rcases List.mem_append.mp hz with hz | hz
     ·exact (Same.new ht) _ _ (hp z hz)
     ·cases List.mem_singleton.mp hz
      exact upd_same
  ·obtain ⟨ps, rfl, e, hp, s2, o, rfl⟩ := h
   rw [List.length_map, List.take_length] at e
   have s3 := Same.new (o := .lst (ps.map fun q => V.ref q.1)) hpp
   refine ⟨pp, ps, rfl, SqL.of upd_same, fun z hz => SqT.of (s3 _ _ (hp z hz)), fun d hd => ?_⟩
   have en : mergeK [] (ps.map (·.2)) = ldKV L := by
    rw [e, mergeK_new _ _ ?_, List.nil_append]
    rw [List.nil_append, ld_keys RL.1]
    have := nd
    unfold NS.nms at this
    rw [show (fun r : Row => (Sum.inr r.nm : Key)) = Sum.inr ∘ (fun r : Row => r.nm) from rfl, ← List.map_map]
    exact List.Pairwise.map _ (fun a b hab z => hab (Sum.inr.inj z)) this
   rw [en]
   have sa := s1.trans (s2.trans s3)
   exact q d _ L (sa.free hd) (sa.upd hd) RL upd_same
def isTieD (ti : List Row) : PyData → Bool
 | .str y => (rowOf ti y).isSome
 | _ => false
def spIsTie : Sp := fun vs H Q _ => ∃ (dd : Addr) (v : V) (n : Nat) (d : PyData) (L : List (Row × Addr)) (ti : List Row), vs = [.ref dd, v] ∧ H dd = some (.dK (ldKV L)) ∧ L.map (·.1) = ti ∧ PD H n v d ∧ Q (.bl (isTieD ti d)) H
theorem sc_isTie : FnScope ["rows", "paper"] ["rows", "paper"] (defScope s_is_tie) := ⟨rfl, rfl, rfl, by decide +kernel, rfl, by decide +kernel, by decide +kernel⟩
theorem ok_isTie {f : Addr} {fd : FuncData} (F : Fun K "is_tie" "is_tie" s_is_tie f fd) (T : Txt K mg C) : FnOk P w K mg base CX0 1 f fd ["rows", "paper"] spIsTie := by
 refine F.ok sc_isTie (fun vs H Q E h => ?_) (fun cdv A outer s H vs Q E hr h => ?_)
 ·obtain ⟨dd, v, n, d, L, ti, rfl, _⟩ := h
  rfl
 ·obtain ⟨dd, v, n, d, L, ti, rfl, edd, eL, pd, q⟩ := h
  have hu := hu_of hr
  refine ⟨_, pss_one (ps_ret (pe_and (pe_callB call_isinst (by rfl) T.isi b_isi (pa_cons (pv 1) (pa_cons (pe_ty T.str (by rfl) b_str) pa_nil))) (pe_one (pe_cmp (pc_din hu (pv 1) (pv 0)))))), ?_⟩
  obtain ⟨t2, ty2, _, ks2⟩ := PD.ty (K := K) pd
  refine ⟨_, rfl, v, "str", t2, isS d, rfl, ty2, ks2, _, rfl, ?_⟩
  cases es : isS d with
  | false =>
   refine iteF ?_
   have e : isTieD ti d = false := by cases d <;> first | rfl | cases es
   rw [e] at q
   exact q
  | true =>
   obtain ⟨y, rfl, rfl⟩ := pd.str_of es
   refine iteT ⟨_, rfl, _, rfl, dd, _, rfl, DGet.k (k := Sum.inr y) edd, ?_⟩
   have e : isTieD ti (.str y) = (valV (ldKV L) (Sum.inr y : Key)).isSome := by
    show (rowOf ti y).isSome = _
    rcases row_find eL y with ⟨r1, r2⟩ | ⟨qq, _, _, r1, r2⟩
    ·rw [r1, r2]; rfl
    ·rw [r1, r2]; rfl
   rw [e] at q
   exact q
abbrev Nstops : List Str := ["net", "a", "paper", "rows", "stops", "name"]
theorem sc_stops : FnScope Nstops ["net", "a", "paper"] (defScope s_walk_stops) := ⟨rfl, rfl, rfl, by decide +kernel, rfl, by decide +kernel, by decide +kernel⟩
theorem ok_stops {f : Addr} {fd : FuncData} (F : Fun K "walk_stops" "walk_stops" s_walk_stops f fd) (T : Txt K mg C) (c1 : Can P w K mg base 2 "is_place" ["net", "paper"] (spIsPlace C)) (c2 : Can P w K mg base 2 "ties_by_name" ["net"] (spByName C)) (c3 : Can P w K mg base 1 "is_tie" ["rows", "paper"] spIsTie) :
  FnOk P w K mg base CX0 3 f fd ["net", "a", "paper"] (spStops C) := by
 refine F.ok sc_stops (fun vs H Q E h => ?_) (fun cdv A outer s H vs Q E hr h => ?_)
 ·obtain ⟨p, ds, dl, S, a, x, n, d, rfl, _⟩ := h
  rfl
 ·obtain ⟨p, ds, dl, S, a, x, n, d, rfl, N, ha, hx, hlen, q1, q2⟩ := h
  have hu := hu_of hr
  refine ⟨_, pss_cons (ps_if (PW.pt (pw_or (pt_not (pt_val (pe_callB call_isinst (by rfl) T.isi b_isi (pa_cons (pv 2) (pa_cons (pe_ty T.list (by rfl) b_list) pa_nil)))))
    (pw_or1 (pt_not (pt_val (pe_callC c1 hr (by rfl) (pa_cons (pv 0) (pa_cons (pv 1) pa_nil)))))))) (pss_one (ps_ret pe_non)) pss_nil)
   (pss_cons (ps_set (i := 3) sc_stops.nd rfl (Or.inl rfl) (pe_callC c2 hr (by rfl) (pa_cons (pv 0) pa_nil)))
   (pss_cons (ps_set (i := 4) sc_stops.nd rfl (Or.inl rfl) (pe_lst (pa_cons (pv 1) pa_nil)))
   (pss_cons (ps_for PassesOwn.never rfl (pi_list (pv 2)) (pg_name (i := 5) sc_stops.nd rfl (Or.inl rfl))
    (pss_cons (ps_if (PW.pt (pw_or (pt_not (pt_val (pe_callC c3 (hr.mono (by decide)) (by rfl) (pa_cons (pv 3) (pa_cons (pv 5) pa_nil)))))
     (pw_or1 (pt_cmpR op_ne (pe_ix ix_tup (pe_dget hu (pv 3) (pv 5) (fun _ _ => rfl)) pe_int (fun _ _ => by rfl)) (pe_ix ix_list (pv 4) (pe_un un_neg pe_int) (fun _ _ => by rfl)) (nomark _))))) (pss_one (ps_ret pe_non)) pss_nil)
    (pss_one (ps_expr (pe_bm PySem.F.plainAttrs_list PySem.F.slot_list_append PySem.F.type_list_append mt_append (pv 4) (pa_cons (pe_ix ix_tup (pe_dget hu (pv 3) (pv 5) (fun _ _ => rfl)) pe_int (fun _ _ => by rfl)) pa_nil))))))
   (pss_one (ps_ret (pv 4)))))), ?_⟩
  obtain ⟨t, ty, kl, ks⟩ := PD.ty (K := K) hx
  refine ⟨_, rfl, x, "list", t, isL d, rfl, ty, kl, _, rfl, ?_⟩
  cases el : isL d with
  | false =>
   refine iteT (iteT ?_)
   refine q1 H (Same.refl H) ?_
   cases d <;> first | rfl | cases el
  | true =>
   refine iteF ?_
   obtain ⟨e, rfl⟩ : ∃ e, d = .list e := by cases d <;> first | exact ⟨_, rfl⟩ | cases el
   obtain ⟨m, ap, xs, rfl, rfl, hap, pr⟩ := hx.list_of
   have hle := hlen e rfl
   have hxl : xs.length = e.length := Paired.length pr
   refine ⟨_, rfl, _, rfl, p, ds, dl, S, a, rfl, N.net, fun H1 s1 => ⟨_, rfl, ?_⟩⟩
   rw [decide_eq_true ha]
   refine iteF ?_
   refine ⟨_, rfl, p, ds, dl, S, rfl, N.same s1, fun dd H2 L hdd s12 RL edd => ?_⟩
   have s2 := s1.trans s12
   refine ⟨_, rfl, (by show 1 ≤ sizeLine; decide), fun st hst => ?_⟩
   have s3 : Same H (upd H2 st (.lst [.str a])) := s2.upd hst
   have hst0 : H st = none := s2.free hst
   have ndd : dd ≠ st := ne_of_none edd hst
   have RL2 := RL.same s12
   have RL3 : Rows (upd H2 st (.lst [.str a])) L S.ti := RL2.same (Same.new hst)
   have edd3 : (upd H2 st (.lst [.str a])) dd = some (.dK (ldKV L)) := by rw [upd_ne ndd]; exact edd
   have est3 : (upd H2 st (.lst [.str a])) st = some (.lst ([a].map V.str)) := upd_same
   have nst : ∀ q ∈ L, q.2 ≠ st := fun q hq => ne_of_none (RL2.2 q hq) hst
   generalize upd H2 st (.lst [.str a]) = H3 at s3 RL3 edd3 est3
   refine ⟨_, rfl, ap, rfl, ⟨_, SqL.of (s3 _ _ hap)⟩, for_list (K := K) (a := ap) (xs := xs) (fun i σ' H' => ∃ (l : List Str) (here : Str) (v : Option V), σ' = [some (.ref p), some (.str a), some (.ref ap), some (.ref dd), some (.ref st), v] ∧ Same H H' ∧ H' dd = some (.dK (ldKV L)) ∧ Rows H' L S.ti ∧ H' st = some (.lst (l.map V.str)) ∧
     stD S.ti a (e.take i) = some l ∧ l.getLast? = some here ∧ l.length = i + 1)
    ⟨[a], a, none, rfl, s3, edd3, RL3, est3, rfl, rfl, rfl⟩ (fun i σ' H' _ h => ?_) (fun i v σ' H' hv h => ?_) (fun σ' H' h => ?_)⟩
   ·obtain ⟨_, _, _, _, s4, _⟩ := h
    exact SqL.of (s4 _ _ hap)
   ·obtain ⟨l, here, v0, rfl, s4, edd4, RL4, est4, hl, hh, hln⟩ := h
    have hi : i < xs.length := (List.getElem?_eq_some_iff.mp hv).1
    have hie : i < e.length := by omega
    have ed : e[i]? = some e[i] := List.getElem?_eq_getElem hie
    have pd : PD H m v e[i] := by
     obtain ⟨b, hb, hp⟩ := pair_get pr hv
     rw [ed] at hb
     cases hb
     exact hp
    generalize e[i] = di at ed pd
    have pd4 := pd.same s4
    refine ⟨_, rfl, _, rfl, dd, v, m, di, L, S.ti, rfl, edd4, RL4.1, pd4, _, rfl, ?_⟩
    cases es : isS di with
    | false =>
     have ef : isTieD S.ti di = false := by cases di <;> first | rfl | cases es
     rw [ef]
     refine iteT (iteT ?_)
     refine q1 H' s4 (stD_stop hl hh ed ?_)
     cases di <;> first | rfl | cases es
    | true =>
     obtain ⟨y, rfl, rfl⟩ := pd.str_of es
     rcases row_find RL4.1 y with ⟨r1, r2⟩ | ⟨qq, hqq, hn, r1, r2⟩
     ·have ef : isTieD S.ti (.str y) = false := by show (rowOf S.ti y).isSome = _; rw [r1]; rfl
      rw [ef]
      refine iteT (iteT ?_)
      refine q1 H' s4 (stD_stop hl hh ed ?_)
      show (rowOf S.ti y).bind _ = none
      rw [r1]
      rfl
     ·have ef : isTieD S.ti (.str y) = true := by show (rowOf S.ti y).isSome = _; rw [r1]; rfl
      rw [ef]
      refine iteF ?_
      have hlast : atI (l.map V.str) (-1) = some (V.str here) := by
       obtain ⟨ys, rfl⟩ : ∃ ys, l = ys ++ [here] := List.getLast?_eq_some_iff.mp hh
       rw [List.map_append]
       exact atI_last _ _
      refine ⟨_, rfl, _, rfl, dd, .ref qq.2, rfl, by rw [← r2]; exact DGet.k (k := Sum.inr y) edd4, qq.2, _, _, .str qq.1.a, rfl, rfl, SqT.of (RL4.2 qq hqq), rfl, _, rfl, _, rfl, st, _, _, _, rfl, rfl, SqL.of est4, hlast, rfl, _, rfl, ?_⟩
      have sd : stepD S.ti here (.str y) = if qq.1.a = here then some qq.1.b else none := by
       show (rowOf S.ti y).bind _ = _
       rw [r1]
       rfl
      by_cases eh : qq.1.a = here
      ·have e0 : (!decide (V.str qq.1.a = V.str here)) = false := by rw [eh]; simp
       refine iteFb e0 ?_
       rw [if_pos eh] at sd
       refine ⟨_, rfl, .inl ⟨rfl, _, SqL.of est4⟩, _, rfl, _, rfl, dd, .ref qq.2, rfl, by rw [← r2]; exact DGet.k (k := Sum.inr y) edd4, qq.2, _, _, .str qq.1.b, rfl, rfl, SqT.of (RL4.2 qq hqq), rfl, st, _, _, rfl, rfl, est4, small1000 (by rw [List.length_map]; omega), ?_⟩
       have hst4 : ∀ b ob, H b = some ob → b ≠ st := fun b ob z => ne_of_none z hst0
       refine ⟨l ++ [qq.1.b], qq.1.b, _, rfl, fun b ob z => ?_, ?_, ⟨RL4.1, fun z hz => ?_⟩, ?_, ?_, by simp, by simp [hln]⟩
       ·rw [upd_ne (hst4 b ob z)]; exact s4 _ _ z
       ·rw [upd_ne ndd]; exact edd4
       ·rw [upd_ne (nst z hz)]; exact RL4.2 z hz
       ·rw [upd_same, List.map_append]; rfl
       ·rw [stD_take hl hh ed, sd]; rfl
      ·have e0 : (!decide (V.str qq.1.a = V.str here)) = true := by simp [eh]
       refine iteTb e0 ?_
       rw [if_neg eh] at sd
       exact q1 H' s4 (stD_stop hl hh ed sd)
   ·obtain ⟨l, here, v0, rfl, s4, edd4, RL4, est4, hl, hh, hln⟩ := h
    rw [hxl, List.take_length] at hl
    exact ⟨_, rfl, q2 l st H' s4 hst0 est4 hl⟩
theorem sc_end : FnScope ["net", "a", "paper", "stops"] ["net", "a", "paper"] (defScope s_walk_end) := ⟨rfl, rfl, rfl, by decide +kernel, rfl, by decide +kernel, by decide +kernel⟩
theorem ok_end {f : Addr} {fd : FuncData} (F : Fun K "walk_end" "walk_end" s_walk_end f fd) (T : Txt K mg C) (c1 : Can P w K mg base 3 "walk_stops" ["net", "a", "paper"] (spStops C)) : FnOk P w K mg base CX0 4 f fd ["net", "a", "paper"] (spEnd C) := by
 refine F.ok sc_end (fun vs H Q E h => ?_) (fun cdv A outer s H vs Q E hr h => ?_)
 ·obtain ⟨p, ds, dl, S, a, x, n, d, rfl, _⟩ := h
  rfl
 ·obtain ⟨p, ds, dl, S, a, x, n, d, rfl, N, ha, hx, hlen, q⟩ := h
  refine ⟨_, pss_cons (ps_set (i := 3) sc_end.nd rfl (Or.inl rfl) (pe_callC c1 hr (by rfl) (pa_cons (pv 0) (pa_cons (pv 1) (pa_cons (pv 2) pa_nil)))))
   (pss_one (ps_ret (pe_ifExp (pt_cmp (pc_isN (pv 3))) pe_non (pe_ix ix_list (pv 3) (pe_un un_neg pe_int) (fun _ _ => by rfl))))), ?_⟩
  refine ⟨_, rfl, _, rfl, _, rfl, p, ds, dl, S, a, x, n, d, rfl, N, ha, hx, hlen, fun H1 s1 hn => ?_, fun l st H1 s1 hst est hl => ?_⟩
  ·refine ⟨_, rfl, _, rfl, iteT ?_⟩
   have := q H1 s1
   unfold endOf at this
   rw [hn] at this
   exact this
  ·refine ⟨_, rfl, _, rfl, iteF ?_⟩
   have hne : l ≠ [] := by
    cases d <;> first | exact stD_ne hl | cases hl
   obtain ⟨ys, here, rfl⟩ : ∃ ys here, l = ys ++ [here] := ⟨l.dropLast, l.getLast hne, (List.dropLast_concat_getLast hne).symm⟩
   have hlast : atI ((ys ++ [here]).map V.str) (-1) = some (V.str here) := by
    rw [List.map_append]
    exact atI_last _ _
   refine ⟨_, rfl, _, rfl, st, _, _, _, rfl, rfl, SqL.of est, hlast, ?_⟩
   have := q H1 s1
   unfold endOf at this
   rw [hl] at this
   simpa [optV] using this
theorem sc_wcost : FnScope ["net", "walk", "rows"] ["net", "walk"] (defScope s_walk_cost) := ⟨rfl, rfl, rfl, by decide +kernel, rfl, by decide +kernel, by decide +kernel⟩
theorem ok_wcost {f : Addr} {fd : FuncData} (F : Fun K "walk_cost" "walk_cost" s_walk_cost f fd) (T : Txt K mg C) (TW : TxtW mg) (c1 : Can P w K mg base 2 "ties_by_name" ["net"] (spByName C)) : FnOk P w K mg base CX0 3 f fd ["net", "walk"] (spWCost C) := by
 refine F.ok sc_wcost (fun vs H Q E h => ?_) (fun cdv A outer s H vs Q E hr h => ?_)
 ·obtain ⟨p, ds, dl, l, S, ws, rfl, _⟩ := h
  rfl
 ·obtain ⟨p, ds, dl, l, S, ws, rfl, N, hl, hin, hlen, q⟩ := h
  have hu := hu_of hr
  refine ⟨_, pss_cons (ps_set (i := 2) sc_wcost.nd rfl (Or.inr rfl) (pe_callC c1 hr (by rfl) (pa_cons (pv 0) pa_nil)))
   (pss_one (ps_ret (pe_callB (call_sum rfl) (by rfl) TW.sum b_sum (pa_cons (pe_comp (N := ["name", "rows"]) (xs := 1) (js := [2]) rfl (compScope_of rfl) (pi_list (pv 1))
    (fun _ _ _ _ => pg_name (i := 0) (show List.Nodup (["name", "rows"] : List Str) by decide +kernel) rfl (Or.inl rfl)) (fun _ _ _ _ => pts_nil)
    (fun _ _ _ _ => pe_ix (ix_tupK K (by rfl)) (pe_dget hu (pv 1) (pv 0) (fun _ _ => rfl)) pe_int (fun _ _ => by rfl))) pa_nil)))), ?_⟩
  refine ⟨_, rfl, p, ds, dl, S, rfl, N, fun dd H1 L hdd s1 RL edd => ?_⟩
  have RL1 := RL.same s1
  refine ⟨_, rfl, l, rfl, ⟨_, SqL.of (s1 _ _ hl)⟩, comp_list (K := K) (ys := ws.map V.str) (fun i acc σ' H' => H' = H1 ∧ acc = ((ws.take i).map fun x => V.int (((rowOf S.ti x).map (·.c)).getD 0)) ∧ ∃ o, σ' = [o, some (.ref dd)])
   ⟨rfl, rfl, none, rfl⟩ (fun i acc σ' H' h => ?_) ?_ (fun i acc σ' H' _ h => by rw [h.1]; exact SqL.of (s1 _ _ hl)) (fun i x acc σ' H' hx h => ?_) (fun acc σ' H' h pp hpp => ?_)⟩
  ·rw [h.2.1, List.length_map, List.length_take]
   omega
  ·rw [List.length_map]
   exact Nat.le_trans hlen (by decide)
  ·obtain ⟨rfl, rfl, o, rfl⟩ := h
   rw [List.getElem?_map] at hx
   cases eq : ws[i]? with
   | none => rw [eq] at hx; cases hx
   | some y =>
    rw [eq] at hx
    cases hx
    have hy := hin y (List.mem_of_getElem? eq)
    rcases row_find RL1.1 y with ⟨r1, r2⟩ | ⟨qq, hqq, hn, r1, r2⟩
    ·obtain ⟨q', _, _, z⟩ := ld_some RL1.1 hy
     rw [r2] at z
     cases z
    ·refine ⟨_, rfl, _, rfl, dd, .ref qq.2, rfl, by rw [← r2]; exact DGet.k (k := Sum.inr y) edd, qq.2, _, _, .int qq.1.c, rfl, rfl, SqT.of (RL1.2 qq hqq), rfl, rfl, ?_, _, rfl⟩
     rw [List.take_add_one, eq, List.map_append]
     show _ = _ ++ [V.int (((rowOf S.ti y).map (·.c)).getD 0)]
     rw [r1]
     rfl
  ·obtain ⟨rfl, rfl, o, rfl⟩ := h
   rw [List.length_map, List.take_length]
   refine ⟨pp, ws.map (fun x : Str => ((rowOf S.ti x).map (fun r : Row => r.c)).getD 0), rfl, SqL.of ?_, q _ (s1.upd hpp)⟩
   rw [upd_same, List.map_map]
   rfl
end
end Net
namespace L2
open PySem PySem.Spec PyProof.Rows
theorem op_isnotB {X : Cx} : OpR X (compareOp .IsNot) (fun x y H Q => ∃ a b, x = .bl a ∧ y = .bl b ∧ Q (.bl (!decide (a = b))) H) := by
 intro pins s σ H x y v u Q I rx ry h
 obtain ⟨a, b, rfl, rfl, q⟩ := h
 cases rx
 cases ry
 refine wpAny_isNot_plain rfl (fin_bl I q ?_)
 cases a <;> cases b <;> rfl
end L2
namespace Net
open PySem L2
section
variable {P : Program} {w : World} {K : PySem.W.Frag} {mg : Str → Option Value} {base : Heap} {C : Addr}
end
end Net
namespace L2
open PySem PySem.Spec PyProof.Rows
theorem pg_tupC {X : Cx} {es : List Expr} {k : Nat} {t : TGs} {n : Nat} {pos : Pos} (K : PySem.W.Frag) (hK : X.K = K) (hc : X.calm = true) (h : PGs X es t)
  (hn : (assignEach es X.env).length = n := by rfl) (hst : (assignEach es X.env).findIdx? (·.1) = none := by rfl) : PG X (.Tuple es k pos) (gTup K n t) := by
 subst hK
 exact pg_tup hc h hn hst
end L2
namespace Net
open PySem L2
structure NetS (C : Addr) (H : Hp) (p ds dl : Addr) (S : NS) : Prop where
 net : NetAt C H p ds dl S
 nd : S.nms.Nodup
 few : S.ti.length ≤ 40
 fewP : S.pl.length ≤ 20
 ndP : S.pl.Nodup
 okP : ∀ x ∈ S.pl, nameB x = true
 okT : ∀ r ∈ S.ti, nameB r.nm = true ∧ r.a ∈ S.pl ∧ r.b ∈ S.pl
theorem NetS.same {C : Addr} {H H' : Hp} {p ds dl : Addr} {S : NS} (s : Same H H') (h : NetS C H p ds dl S) : NetS C H' p ds dl S := ⟨h.net.same s, h.nd, h.few, h.fewP, h.ndP, h.okP, h.okT⟩
theorem NetS.w {C : Addr} {H : Hp} {p ds dl : Addr} {S : NS} (h : NetS C H p ds dl S) : NetW C H p ds dl S := ⟨h.net, h.nd, h.few⟩
def unlikeB (pl ws : List Str) : Bool := (ws.all fun x => decide (x ∈ pl)) && decide ws.Nodup
open Classical in
open Classical in
section
variable {P : Program} {w : World} {K : PySem.W.Frag} {mg : Str → Option Value} {base : Heap} {C : Addr}
structure TxtS (mg : Str → Option Value) : Prop where
 set : mg "set" = none
 rev : mg "reversed" = none
def spAlike : Sp := fun vs H Q _ => ∃ (l : Addr) (ws : List Str), vs = [.ref l] ∧ H l = some (.lst (ws.map V.str)) ∧ ws.length ≤ 1000 ∧ ∀ H', Same H H' → Q (.bl (decide ws.Nodup)) H'
theorem sc_alike : FnScope ["names"] ["names"] (defScope s_are_unlike) := ⟨rfl, rfl, rfl, by decide +kernel, rfl, by decide +kernel, by decide +kernel⟩
theorem ok_alike {f : Addr} {fd : FuncData} (F : Fun K "are_unlike" "are_unlike" s_are_unlike f fd) (T : Txt K mg C) (TS : TxtS mg) : FnOk P w K mg base CX0 1 f fd ["names"] spAlike := by
 refine F.ok sc_alike (fun vs H Q E h => ?_) (fun cdv A outer s H vs Q E hr h => ?_)
 ·obtain ⟨l, ws, rfl, _⟩ := h
  rfl
 ·obtain ⟨l, ws, rfl, hl, hn, q⟩ := h
  refine ⟨_, pss_one (ps_ret (pe_cmpR op_eq (pe_callB call_lenS (by rfl) T.len b_len (pa_cons (pe_callTy (call_setS rfl) (by rfl) TS.set b_set (pa_cons (pv 0) pa_nil)) pa_nil)) (pe_callB call_len_seq (by rfl) T.len b_len (pa_cons (pv 0) pa_nil)) (nomark _))), ?_⟩
  refine ⟨_, rfl, l, ws, rfl, SqL.of hl, ?_, fun st hst => ?_⟩
  ·exact Nat.lt_of_le_of_lt (show ws.length + 1 ≤ 1001 by omega) (by decide)
  have s3 := (Same.refl H).upd (o := setO P w st ws) hst
  refine ⟨st, ws, rfl, upd_same, _, rfl, l, _, rfl, .inl (SqL.of (s3 _ _ hl)), rfl, ?_⟩
  have := q _ s3
  have e2 : decide (V.int ((dedS ws).length : Nat) = V.int ((ws.map V.str).length : Nat)) = decide ws.Nodup := by
   rw [List.length_map, Bool.eq_iff_iff, decide_eq_true_eq, decide_eq_true_eq, ← ded_nodup]
   constructor
   ·intro z
    have z' : (((dedS ws).length : Nat) : Int) = ((ws.length : Nat) : Int) := by injection z
    omega
   ·intro z
    rw [z]
  rw [e2]
  exact this
theorem sc_unlike : FnScope ["net", "paper"] ["net", "paper"] (defScope s_are_unlike_places) := ⟨rfl, rfl, rfl, by decide +kernel, rfl, by decide +kernel, by decide +kernel⟩
end
end Net
namespace Net
open PySem L2
section
variable {P : Program} {w : World} {K : PySem.W.Frag} {mg : Str → Option Value} {base : Heap} {C : Addr}
theorem stops_in {ti : List Row} {pl : List Str} (h : ∀ r ∈ ti, r.b ∈ pl) : ∀ {ds : List PyData} {a : Str} {l : List Str}, a ∈ pl → stD ti a ds = some l → ∀ x ∈ l, x ∈ pl
 | [], a, l, ha, e, x, hx => by cases e; rw [List.mem_singleton.mp hx]; exact ha
 | d :: ds, a, l, ha, e, x, hx => by
  unfold stD at e
  cases e1 : stepD ti a d with
  | none => rw [e1] at e; cases e
  | some y =>
   rw [e1, Option.bind_some] at e
   cases e2 : stD ti y ds with
   | none => rw [e2] at e; cases e
   | some l' =>
    rw [e2] at e
    cases e
    have hy : y ∈ pl := by
     cases d <;> try (cases e1; done)
     rename_i z
     have e' : (rowOf ti z).bind (fun r => if r.a = a then some r.b else none) = some y := e1
     cases e3 : rowOf ti z with
     | none => rw [e3] at e'; cases e'
     | some r =>
      rw [e3] at e'
      have e4 : (if r.a = a then some r.b else none) = some y := e'
      by_cases q : r.a = a
      ·rw [if_pos q] at e4; cases e4; exact h r (List.mem_of_find?_eq_some e3)
      ·rw [if_neg q] at e4; cases e4
    rcases List.mem_cons.mp hx with rfl | hx
    ·exact ha
    ·exact stops_in h hy e2 x hx
theorem end_in {ti : List Row} {pl : List Str} (h : ∀ r ∈ ti, r.b ∈ pl) {a : Str} {e : List PyData} {x : Str} (ha : a ∈ pl) (he : endOf ti a (.list e) = some x) : x ∈ pl := by
 rw [endOf_list] at he
 cases e1 : stD ti a e with
 | none => rw [e1] at he; cases he
 | some l =>
  rw [e1, Option.bind_some] at he
  exact stops_in h ha e1 x (List.mem_of_getLast? he)
end
end Net
namespace Net
open PySem L2
open Classical in
section
variable {P : Program} {w : World} {K : PySem.W.Frag} {mg : Str → Option Value} {base : Heap} {C : Addr}
end
end Net
namespace Net
open PySem L2
def strsOf : List PyData → Option (List Str)
 | [] => some []
 | .str x :: r => (strsOf r).map (x :: ·)
 | _ :: _ => none
def namesOf : PyData → Option (List Str)
 | .list ds => strsOf ds
 | _ => none
theorem strsOf_map : ∀ ws : List Str, strsOf (ws.map PyData.str) = some ws
 | [] => rfl
 | x :: r => by
  show (strsOf (r.map PyData.str)).map (x :: ·) = _
  rw [strsOf_map r]
  rfl
theorem strsOf_some : ∀ {ds : List PyData} {ws : List Str}, strsOf ds = some ws → ds = ws.map PyData.str
 | [], ws, h => by cases h; rfl
 | d :: r, ws, h => by
  cases d <;> first | (cases h; done) | skip
  rename_i x
  have h' : (strsOf r).map (x :: ·) = some ws := h
  cases e : strsOf r with
  | none => rw [e] at h'; cases h'
  | some w =>
   rw [e] at h'
   cases h'
   rw [strsOf_some e]
   rfl
def isPlD (pl : List Str) : PyData → Bool
 | .str x => decide (x ∈ pl)
 | _ => false
def unlikeD (pl : List Str) (d : PyData) : Bool := match namesOf d with
 | some ws => unlikeB pl ws
 | none => false
theorem unlikeD_list (pl ws : List Str) : unlikeD pl (.list (ws.map PyData.str)) = unlikeB pl ws := by
 show (match strsOf (ws.map PyData.str) with | some ws => unlikeB pl ws | none => false) = _
 rw [strsOf_map]
theorem eqvS (x y : Str) : PyData.eqv (.str x) (.str y) = decide (x = y) := by
 by_cases h : x = y
 ·subst h; simp [PyData.eqv]
 ·simp [PyData.eqv, h]
theorem eqvN {d : PyData} (x : Str) (h : isS d = false) : PyData.eqv (.str x) d = false := by
 cases d <;> first | rfl | cases h | simp [PyData.eqv]
theorem any_pl (d : PyData) : ∀ pl : List Str, ((pl.map PyData.str).any fun y => PyData.eqv y d) = isPlD pl d
 | [] => by cases d <;> first | rfl | simp [isPlD]
 | y :: r => by
  rw [List.map_cons, List.any_cons, any_pl d r]
  cases e : isS d with
  | true =>
   obtain ⟨x, rfl⟩ : ∃ x, d = .str x := by cases d <;> first | exact ⟨_, rfl⟩ | cases e
   rw [eqvS]
   show (decide (y = x) || decide (x ∈ r)) = decide (x ∈ y :: r)
   rw [Bool.eq_iff_iff, Bool.or_eq_true, decide_eq_true_iff, decide_eq_true_iff, decide_eq_true_iff, List.mem_cons]
   exact ⟨fun h => h.imp Eq.symm id, fun h => h.imp Eq.symm id⟩
  | false =>
   rw [eqvN y e]
   cases d <;> first | rfl | cases e
theorem all_pl {pl : List Str} : ∀ {ds : List PyData}, ds.all (isPlD pl) = true → ∃ ws : List Str, ds = ws.map PyData.str ∧ ∀ x ∈ ws, x ∈ pl
 | [], _ => ⟨[], rfl, fun _ h => nomatch h⟩
 | d :: r, h => by
  rw [List.all_cons, Bool.and_eq_true_iff] at h
  obtain ⟨ws, e, hw⟩ := all_pl h.2
  have h1 := h.1
  cases d <;> first | (cases h1; done) | skip
  rename_i x
  refine ⟨x :: ws, by rw [e]; rfl, fun y hy => ?_⟩
  rcases List.mem_cons.mp hy with rfl | hy
  ·exact of_decide_eq_true h1
  ·exact hw y hy
theorem unlikeD_not {pl : List Str} {ds : List PyData} (h : ds.all (isPlD pl) = false) : unlikeD pl (.list ds) = false := by
 unfold unlikeD
 cases e : namesOf (.list ds) with
 | none => rfl
 | some ws =>
  have e' := strsOf_some (show strsOf ds = some ws from e)
  subst e'
  show unlikeB pl ws = false
  unfold unlikeB
  have h1 : (ws.all fun x => decide (x ∈ pl)) = false := by
   rw [List.all_map] at h
   exact h
  rw [h1]
  rfl
theorem pd_strs {H : Hp} {n : Nat} : ∀ {ws : List Str} {xs : List V}, Paired (PD H n) xs (ws.map PyData.str) → xs = ws.map V.str
 | [], _, h => by cases h; rfl
 | x :: r, _, h => by
  cases h with
  | cons h t =>
   obtain ⟨y, rfl, e⟩ := h.str_of rfl
   cases e
   rw [pd_strs t]
   rfl
theorem unlikeD_true {H : Hp} {pl : List Str} {n : Nat} {v : V} {d : PyData} (pd : PD H n v d) (h : unlikeD pl d = true) : ∃ (l : Addr) (ws : List Str), v = .ref l ∧ d = .list (ws.map PyData.str) ∧ H l = some (.lst (ws.map V.str)) ∧ unlikeB pl ws = true := by
 unfold unlikeD at h
 cases e : namesOf d with
 | none => rw [e] at h; cases h
 | some ws =>
  rw [e] at h
  have h' : unlikeB pl ws = true := h
  cases d <;> first | (cases e; done) | skip
  rename_i ds
  have e' := strsOf_some (show strsOf ds = some ws from e)
  subst e'
  obtain ⟨m, l, xs, rfl, rfl, hl, p⟩ := pd.list_of
  rw [pd_strs p] at hl
  exact ⟨l, ws, rfl, rfl, hl, h'⟩
theorem rd_nil2 {K : PySem.W.Frag} {H : Hp} {l : Addr} {n : Nat} (h : H l = some (.lst [])) : RdD K H (n + 2) (.ref l) (.list []) := .inl ⟨_, _, SqL.of h, rfl, .nil⟩
def spIsPlaceD (C : Addr) : Sp := fun vs H Q _ => ∃ (p ds dl : Addr) (S : NS) (v : V) (n : Nat) (d : PyData), vs = [.ref p, v] ∧ NetAt C H p ds dl S ∧ (∀ x ∈ S.pl, nameB x = true) ∧ PD H n v d ∧ n ≤ 50 ∧ ∀ H', Same H H' → Q (.bl (isPlD S.pl d)) H'
def spUnlikeD (C : Addr) : Sp := fun vs H Q _ => ∃ (p ds dl : Addr) (S : NS) (v : V) (n : Nat) (d : PyData), vs = [.ref p, v] ∧ NetAt C H p ds dl S ∧ (∀ x ∈ S.pl, nameB x = true) ∧ PD H n v d ∧ n ≤ 50 ∧ (∀ e, d = .list e → e.length ≤ 1000) ∧ ∀ H', Same H H' → Q (.bl (unlikeD S.pl d)) H'
section
variable {P : Program} {w : World} {K : PySem.W.Frag} {mg : Str → Option Value} {base : Heap} {C : Addr}
theorem ok_isPlaceD {f : Addr} {fd : FuncData} (F : Fun K "is_place" "is_place" s_is_place f fd) (T : Txt K mg C) (m1 : CanM P w K mg base 1 C "places" ["self"] (spPlaces C)) : FnOk P w K mg base CX0 2 f fd ["net", "paper"] (spIsPlaceD C) := by
 refine F.ok sc_isPlace (fun vs H Q E h => ?_) (fun cdv A outer s H vs Q E hr h => ?_)
 ·obtain ⟨p, ds, dl, S, v, n, d, rfl, _⟩ := h
  rfl
 ·obtain ⟨p, ds, dl, S, v, n, d, rfl, N, ok, pd, n50, q⟩ := h
  have hu := hr.units
  refine ⟨_, (pss_one (ps_ret (pe_cmpR (op_inD hu) (pv 1) (pe_methC0 (pv 0) T.cl m1 hr) (by with_unfolding_all rfl)))), ?_⟩
  obtain ⟨dx, h1⟩ := N.ob
  refine ⟨_, rfl, _, rfl, p, dx, _, rfl, h1, flds_no ds dl (by decide +kernel) (by decide +kernel), p, ds, dl, S, rfl, N, fun l hl => ⟨n + 1, d, S.pl.map PyData.str, by omega, ((pd.same (Same.new hl)).mono 1).rd, ?_, ?_⟩⟩
  ·exact PD.rd (n := n + 1) (.inl ⟨_, _, upd_same, rfl, PD.strs ok⟩)
  ·show Q (.bl ((S.pl.map PyData.str).any fun y => PyData.eqv y d)) _
   rw [any_pl]
   exact q _ (Same.new hl)
theorem ok_unlikeD {f : Addr} {fd : FuncData} (F : Fun K "are_unlike_places" "are_unlike_places" s_are_unlike_places f fd) (T : Txt K mg C) (TS : TxtS mg) (c1 : Can P w K mg base 2 "is_place" ["net", "paper"] (spIsPlaceD C)) (c2 : Can P w K mg base 1 "are_unlike" ["names"] spAlike) : FnOk P w K mg base CX0 3 f fd ["net", "paper"] (spUnlikeD C) := by
 refine F.ok sc_unlike (fun vs H Q E h => ?_) (fun cdv A outer s H vs Q E hr h => ?_)
 ·obtain ⟨p, ds, dl, S, v, n, d, rfl, _⟩ := h
  rfl
 ·obtain ⟨p, ds, dl, S, v, n, d, rfl, N, ok, pd, n50, blen, q⟩ := h
  refine ⟨_, pss_cons (ps_if (PW.pt (pw_or (pt_not (pt_val (pe_callB call_isinst (by rfl) T.isi b_isi (pa_cons (pv 1) (pa_cons (pe_ty T.list (by rfl) b_list) pa_nil)))))
    (pw_or1 (pt_not (pt_val (pe_callB (call_all rfl) (by rfl) T.all b_all (pa_cons (pe_comp (N := ["part", "net"]) (xs := 1) (js := [0]) rfl (compScope_of rfl) (pi_list (pv 1))
     (fun _ _ _ _ => pg_name (i := 0) (show List.Nodup (["part", "net"] : List Str) by decide +kernel) rfl (Or.inl rfl)) (fun _ _ _ _ => pts_nil) (fun _ _ _ _ => pe_callC c1 hr (by rfl) (pa_cons (pv 1) (pa_cons (pv 0) pa_nil)))) pa_nil))))))) (pss_one (ps_ret pe_bl)) pss_nil)
   (pss_one (ps_ret (pe_callC c2 (hr.mono (by decide)) (by rfl) (pa_cons (pv 1) pa_nil)))), ?_⟩
  obtain ⟨t, ty, kl, _⟩ := PD.ty (K := K) pd
  refine ⟨_, rfl, v, "list", t, isL d, rfl, ty, kl, _, rfl, ?_⟩
  cases el : isL d with
  | false =>
   refine iteT (iteT ?_)
   have := q H (Same.refl H)
   have e : unlikeD S.pl d = false := by cases d <;> first | rfl | cases el
   rw [e] at this
   exact this
  | true =>
   refine iteF ?_
   obtain ⟨es, rfl⟩ : ∃ e, d = .list e := by cases d <;> first | exact ⟨_, rfl⟩ | cases el
   obtain ⟨m, l, xs, rfl, rfl, hl, pr⟩ := pd.list_of
   have hxl : xs.length = es.length := Paired.length pr
   have hle := blen es rfl
   refine ⟨_, rfl, l, rfl, ⟨_, SqL.of hl⟩, comp_list (K := K) (ys := xs) (fun i acc σ' H' => Same H H' ∧ acc = ((es.take i).map fun x => V.bl (isPlD S.pl x)) ∧ ∃ o, σ' = [o, some (.ref p)])
    ⟨Same.refl H, rfl, none, rfl⟩ (fun i acc σ' H' h => ?_) (by rw [hxl]; exact Nat.le_trans hle (by decide)) (fun i acc σ' H' _ h => SqL.of (h.1 _ _ hl)) (fun i x acc σ' H' hx h => ?_) (fun acc σ' H' h pp hpp => ?_)⟩
   ·rw [h.2.1, List.length_map, List.length_take]; omega
   ·obtain ⟨s1, rfl, o, rfl⟩ := h
    obtain ⟨dy, hd, pdy⟩ := pair_get pr hx
    refine ⟨_, rfl, _, rfl, p, ds, dl, S, x, m, dy, rfl, N.same s1, ok, pdy.same s1, by omega, fun H2 s2 => ⟨s1.trans s2, ?_, _, rfl⟩⟩
    rw [List.take_add_one, hd, List.map_append]
    rfl
   ·obtain ⟨s1, rfl, o, rfl⟩ := h
    rw [hxl, List.take_length]
    refine ⟨pp, es.map fun x => isPlD S.pl x, rfl, SqL.of (by rw [upd_same, List.map_map]; rfl), ?_⟩
    have s2 := s1.upd (o := .lst (es.map fun x => V.bl (isPlD S.pl x))) hpp
    generalize upd H' pp (.lst (es.map fun x => V.bl (isPlD S.pl x))) = H2 at s2
    have ea : (es.map fun x => isPlD S.pl x).all id = es.all (isPlD S.pl) := by rw [List.all_map]; rfl
    refine ⟨_, rfl, ?_⟩
    rw [ea]
    cases e1 : es.all (isPlD S.pl) with
    | false =>
     refine iteT ?_
     have := q H2 s2
     rw [unlikeD_not e1] at this
     exact this
    | true =>
     obtain ⟨ws, rfl, hw⟩ := all_pl e1
     have hxs := pd_strs pr
     subst hxs
     have hn : ws.length ≤ 1000 := by rw [List.length_map] at hle; exact hle
     refine iteF ⟨_, rfl, l, ws, rfl, s2 _ _ hl, hn, fun H3 s3 => ?_⟩
     have := q _ (s2.trans s3)
     rw [unlikeD_list] at this
     unfold unlikeB at this
     have e1' : (ws.all fun x => decide (x ∈ S.pl)) = true := List.all_eq_true.mpr fun x hx => decide_eq_true (hw x hx)
     rw [e1'] at this
     exact this
end
end Net
namespace Net
open PySem L2
def cellD (ns : List Int) (k : Int) : Int := (ns[k.toNat]?).getD 0
def spCellD (K : PySem.W.Frag) : Sp := fun vs H Q _ => ∃ (a : Addr) (ns : List Int) (k : Int), vs = [.ref a, .int k] ∧ SqL K H a (ns.map V.int) ∧ 0 ≤ k ∧ Q (.int (cellD ns k)) H
def bL (c : Int) : List Nat := (List.range (1 + c % 7).toNat).map fun (j : Nat) => 97 + ((c / 7 + (j : Int) * (j : Int)) % 26).toNat
def lat (c : Int) : Nat := (c / 182 % ((bL c).length : Int)).toNat
def lnmL (c k : Int) : List Nat := (bL c).take (lat c) ++ [97 + ((c / 1274 + k) % 26).toNat] ++ (bL c).drop (lat c + 1)
def lnm (c k : Int) : Str := ⟨(lnmL c k).toArray⟩
def spLName : Sp := fun vs H Q _ => ∃ (c k : Int), vs = [.int c, .int k] ∧ 0 ≤ k ∧ Q (.str (lnm c k)) H
theorem bL_len (c : Int) : 1 ≤ (bL c).length ∧ (bL c).length ≤ 7 := by
 unfold bL
 rw [List.length_map, List.length_range]
 have h1 := Int.emod_nonneg c (by decide : (7 : Int) ≠ 0)
 have h2 := Int.emod_lt_of_pos c (by decide : (0 : Int) < 7)
 omega
theorem lat_lt (c : Int) : lat c < (bL c).length := by
 unfold lat
 have h := (bL_len c).1
 have h1 := Int.emod_nonneg (c / 182) (by omega : ((bL c).length : Int) ≠ 0)
 have h2 := Int.emod_lt_of_pos (c / 182) (by omega : (0 : Int) < ((bL c).length : Int))
 omega
theorem m26 (z : Int) : (z % 26).toNat < 26 ∧ (((z % 26).toNat : Nat) : Int) = z % 26 := by
 have h1 := Int.emod_nonneg z (by decide : (26 : Int) ≠ 0)
 have h2 := Int.emod_lt_of_pos z (by decide : (0 : Int) < 26)
 omega
theorem bL_small (c : Int) : ∀ x ∈ bL c, 97 ≤ x ∧ x ≤ 122 := fun x hx => by
 obtain ⟨j, _, rfl⟩ := List.mem_map.mp hx
 have := (m26 (c / 7 + (j : Int) * j)).1
 omega
theorem lnmL_len (c k : Int) : (lnmL c k).length = (bL c).length := by
 have := lat_lt c
 unfold lnmL
 simp only [List.length_append, List.length_take, List.length_drop, List.length_singleton]
 omega
theorem lnm_name (c k : Int) : nameB (lnm c k) = true := by
 have h1 : (lnm c k).length = (bL c).length := by
  show (lnmL c k).toArray.size = _
  rw [List.size_toArray, lnmL_len]
 obtain ⟨a, b⟩ := bL_len c
 unfold nameB
 rw [h1, decide_eq_true (by omega), decide_eq_true (by omega)]
 simp only [Bool.true_and, List.all_eq_true]
 intro x hx
 have hs : 97 ≤ x ∧ x ≤ 122 := by
  have hx' : x ∈ lnmL c k := hx
  unfold lnmL at hx'
  rcases List.mem_append.mp hx' with h | h
  ·rcases List.mem_append.mp h with h | h
   ·exact bL_small c x (List.mem_of_mem_take h)
   ·have e : x = 97 + ((c / 1274 + k) % 26).toNat := by simpa using h
    have := (m26 (c / 1274 + k)).1
    omega
  ·exact bL_small c x (List.mem_of_mem_drop h)
 unfold smallB
 rw [decide_eq_true hs.1, decide_eq_true hs.2]
 rfl
theorem lnm_inj {c i j : Int} (hi : 0 ≤ i) (hi' : i < 26) (hj : 0 ≤ j) (hj' : j < 26) (e : lnm c i = lnm c j) : i = j := by
 have e' : lnmL c i = lnmL c j := by
  have := congrArg (fun s : Str => s.cps.toList) e
  simpa [lnm] using this
 have h : ∀ n, (lnmL c n)[lat c]? = some (97 + ((c / 1274 + n) % 26).toNat) := by
  intro n
  have := lat_lt c
  unfold lnmL
  rw [List.append_assoc, List.getElem?_append_right (by rw [List.length_take]; omega)]
  simp [List.length_take, Nat.min_eq_left (Nat.le_of_lt this)]
 have h1 := h i
 rw [e', h j] at h1
 have := Option.some.inj h1
 have a1 := (m26 (c / 1274 + i)).2
 have a2 := (m26 (c / 1274 + j)).2
 omega
theorem abc_at (z : Int) : atI abc.cps.toList (z % 26) = some (97 + (z % 26).toNat) := by
 obtain ⟨h1, h2⟩ := m26 z
 have := atI_nat (abc_get h1)
 rw [h2] at this
 exact this
theorem str_ext {x y : Str} (h : x.cps.toList = y.cps.toList) : x = y := by
 obtain ⟨a⟩ := x
 obtain ⟨b⟩ := y
 exact congrArg Str.mk (Array.toList_inj.mp h)
section
variable {P : Program} {w : World} {K : PySem.W.Frag} {mg : Str → Option Value} {base : Heap} {C : Addr}
theorem ok_cellD {f : Addr} {fd : FuncData} (F : Fun K "_law_cell_at" "_law_cell_at" s_l_cell_at f fd) (T : Txt K mg C) : FnOk P w K mg base CX0 1 f fd ["_law_script", "_law_k"] (spCellD K) := by
 refine F.ok sc_cell (fun vs H Q E h => ?_) (fun cdv A outer s H vs Q E hr h => ?_)
 ·obtain ⟨a, ns, k, rfl, _⟩ := h
  rfl
 ·obtain ⟨a, ns, k, rfl, hS, hk, q⟩ := h
  refine ⟨_, pss_cons (ps_if (pt_cmpR op_lt (pv 1) (pe_callB call_len_seq (by rfl) T.len b_len (pa_cons (pv 0) pa_nil)) (nomark _)) (pss_one (ps_ret (pe_ix ix_list (pv 0) (pv 1) (fun _ _ => rfl)))) pss_nil) (pss_one (ps_ret pe_int)), ?_⟩
  obtain ⟨n, rfl⟩ := Int.eq_ofNat_of_zero_le hk
  have ec : cellD ns n = (ns[n]?).getD 0 := rfl
  refine ⟨_, rfl, _, rfl, a, _, rfl, .inl hS, _, _, rfl, rfl, _, rfl, ite2 (fun h => ?_) (fun h => ?_)⟩
  ·have hn : n < ns.length := by
    have := of_decide_eq_true h
    rw [List.length_map] at this
    omega
   have e : cellD ns n = ns[n] := by rw [ec, List.getElem?_eq_getElem hn]; rfl
   rw [e] at q
   exact ⟨_, rfl, _, rfl, a, _, _, _, rfl, rfl, hS, atI_nat (v := V.int ns[n]) (by simp [hn]), q⟩
  ·have hn : ¬ n < ns.length := fun z => h (decide_eq_true (by rw [List.length_map]; omega))
   have e : cellD ns n = 0 := by rw [ec, List.getElem?_eq_none (by omega)]; rfl
   rw [e] at q
   exact q
abbrev Nlname : List Str := ["_law_cell", "_law_k", "_law_letters", "_law_found", "_law_j", "_law_at"]
theorem sc_lname : FnScope Nlname ["_law_cell", "_law_k"] (defScope s_l_name) := ⟨rfl, rfl, rfl, by decide +kernel, rfl, by decide +kernel, by decide +kernel⟩
theorem ok_lname {f : Addr} {fd : FuncData} (F : Fun K "_law_name" "_law_name" s_l_name f fd) (T : Txt K mg C) : FnOk P w K mg base CX0 1 f fd ["_law_cell", "_law_k"] spLName := by
 refine F.ok sc_lname (fun vs H Q E h => ?_) (fun cdv A outer s H vs Q E hr h => ?_)
 ·obtain ⟨c, k, rfl, _⟩ := h
  rfl
 ·obtain ⟨c, k, rfl, hk, q⟩ := h
  refine ⟨_, (pss_cons (ps_set (i := 2) sc_lname.nd rfl (Or.inl rfl) pe_str)
   (pss_cons (ps_set (i := 3) sc_lname.nd rfl (Or.inl rfl) pe_str)
   (pss_cons (ps_for PassesOwn.never rfl (pi_range1 rfl T.range (pa_cons (pe_op op_add pe_int (pe_op op_mod (pv 0) pe_int)) pa_nil)) (pg_name (i := 4) sc_lname.nd rfl (Or.inl rfl))
    (pss_one (ps_set (i := 3) sc_lname.nd rfl (Or.inl rfl) (pe_op op_add_str (pv 3) (pe_ix ix_str (pv 2) (pe_op op_mod (pe_op op_add (pe_op op_fdiv (pv 0) pe_int) (pe_op op_mul (pv 4) (pv 4))) pe_int) (fun _ _ => rfl))))))
   (pss_cons (ps_set (i := 5) sc_lname.nd rfl (Or.inl rfl) (pe_op op_mod (pe_op op_fdiv (pv 0) pe_int) (pe_callB call_len_str (by rfl) T.len b_len (pa_cons (pv 3) pa_nil))))
   (pss_one (ps_ret (pe_op op_add_str (pe_op op_add_str (pe_slice sl_str (pv 3) po_none (po_some (pv 5))) (pe_ix ix_str (pv 2) (pe_op op_mod (pe_op op_add (pe_op op_fdiv (pv 0) pe_int) (pv 1)) pe_int) (fun _ _ => rfl))) (pe_slice sl_str (pv 3) (po_some (pe_op op_add (pv 5) pe_int)) po_none)))))))), ?_⟩
  have hl : abc.length = 26 := by decide +kernel
  have h71 := Int.emod_nonneg c (by decide : (7 : Int) ≠ 0)
  have h72 := Int.emod_lt_of_pos c (by decide : (0 : Int) < 7)
  have bl : (bL c).length = (1 + c % 7).toNat := by unfold bL; rw [List.length_map, List.length_range]
  obtain ⟨b1, b2⟩ := bL_len c
  have l4 : ∀ x y : Str, (x ++ y).length = x.length + y.length := fun x y => Array.size_append
  refine ⟨_, rfl, _, _, rfl, rfl, (by show (0 : Int) < 7; decide), _, _, rfl, rfl, _, rfl, by omega, by omega, for_range (fun i σ' H' => i ≤ (bL c).length ∧ H' = H ∧ ∃ o, σ' = [some (.int c), some (.int k), some (.str abc), some (.str ⟨((bL c).take i).toArray⟩), o, none])
   ⟨Nat.zero_le _, rfl, none, rfl⟩ (fun i σ' H' hi h => ?_) (fun σ' H' h => ?_)⟩
  ·obtain ⟨h0, rfl, o, rfl⟩ := h
   rw [← bl] at hi
   have ei : (bL c)[i]? = some (97 + ((c / 7 + (i : Int) * i) % 26).toNat) := by
    have : i < (1 + c % 7).toNat := by omega
    unfold bL
    rw [List.getElem?_map, List.getElem?_range this]
    rfl
   have s1 : (⟨((bL c).take i).toArray⟩ : Str).length = i := by
    show ((bL c).take i).toArray.size = i
    rw [List.size_toArray, List.length_take]
    omega
   have s26 : (26 : Nat) ≤ sizeLine := by decide
   refine ⟨_, rfl, _, rfl, _, rfl, _, _, rfl, rfl, ⟨by decide, by decide⟩, _, rfl, _, rfl, _, _, rfl, rfl, .inl ⟨by omega, by omega⟩, _, _, rfl, rfl, _, _, rfl, rfl, (by show (0 : Int) < 26; decide), abc, _, _, rfl, rfl, (by rw [hl]; decide), abc_at _, _, _, rfl, rfl, ?_, ?_⟩
   ·rw [s1]
    show i + 1 ≤ sizeLine
    omega
   ·refine ⟨by omega, rfl, some (.int ((0 : Int) + i)), ?_⟩
    have e : (⟨((bL c).take i).toArray⟩ : Str) ++ (⟨#[97 + ((c / 7 + ((0 : Int) + i) * ((0 : Int) + i)) % 26).toNat]⟩ : Str) = ⟨((bL c).take (i + 1)).toArray⟩ := by
     refine str_ext ?_
     show (((bL c).take i).toArray ++ #[97 + ((c / 7 + ((0 : Int) + i) * ((0 : Int) + i)) % 26).toNat]).toList = ((bL c).take (i + 1)).toArray.toList
     rw [Array.toList_append, List.take_add_one, ei, Int.zero_add]
     rfl
    rw [← e]
    rfl
  ·obtain ⟨h0, rfl, o, rfl⟩ := h
   rw [← bl, List.take_length]
   have hf : (⟨(bL c).toArray⟩ : Str).length = (bL c).length := List.size_toArray
   have s26 : (26 : Nat) ≤ sizeLine := by decide
   have l1 : ∀ a b, (Txt.slice ⟨(bL c).toArray⟩ a b).length ≤ 7 := fun a b => Nat.le_trans (Txt.slice_le _ _ _) (by rw [hf]; exact b2)
   refine ⟨_, rfl, _, _, rfl, rfl, ⟨by decide, by decide⟩, _, rfl, _, rfl, (by rw [hf]; omega), _, _, rfl, rfl, (by rw [hf]; omega), ?_⟩
   have la : c / 182 % ((⟨(bL c).toArray⟩ : Str).length : Int) = ((lat c : Nat) : Int) := by
    have h1 := Int.emod_nonneg (c / 182) (by omega : ((bL c).length : Int) ≠ 0)
    unfold lat
    rw [hf, Int.toNat_of_nonneg h1]
   refine ⟨_, rfl, _, rfl, _, rfl, _, rfl, (by rw [hf]; omega), _, rfl, _, rfl, _, _, rfl, rfl, ⟨by decide, by decide⟩, _, rfl, _, _, rfl, rfl, _, _, rfl, rfl, (by show (0 : Int) < 26; decide), abc, _, _, rfl, rfl, (by rw [hl]; decide), abc_at _, _, _, rfl, rfl, ?_, _, rfl, _, rfl, _, _, rfl, rfl, _, rfl, _, rfl, (by rw [hf]; omega), _, _, rfl, rfl, ?_, ?_⟩
   ·have := l1 none (some (c / 182 % ((⟨(bL c).toArray⟩ : Str).length : Int)))
    show _ + 1 ≤ sizeLine
    omega
   ·rw [l4]
    have x1 := l1 none (some (c / 182 % ((⟨(bL c).toArray⟩ : Str).length : Int)))
    have x2 := l1 (some (c / 182 % ((⟨(bL c).toArray⟩ : Str).length : Int) + 1)) none
    show _ + 1 + _ ≤ sizeLine
    omega
   ·have e : Txt.slice ⟨(bL c).toArray⟩ none (some (c / 182 % ((⟨(bL c).toArray⟩ : Str).length : Int))) ++ (⟨#[97 + ((c / 1274 + k) % 26).toNat]⟩ : Str) ++ Txt.slice ⟨(bL c).toArray⟩ (some (c / 182 % ((⟨(bL c).toArray⟩ : Str).length : Int) + 1)) none = lnm c k := by
     refine str_ext ?_
     show ((Txt.slice ⟨(bL c).toArray⟩ none (some (c / 182 % ((⟨(bL c).toArray⟩ : Str).length : Int)))).cps ++ #[97 + ((c / 1274 + k) % 26).toNat] ++ (Txt.slice ⟨(bL c).toArray⟩ (some (c / 182 % ((⟨(bL c).toArray⟩ : Str).length : Int) + 1)) none).cps).toList = _
     rw [Array.toList_append, Array.toList_append, la, slice_to]
     have := slice_from (⟨(bL c).toArray⟩ : Str) (a := lat c + 1) (by rw [hf]; exact lat_lt c)
     rw [show ((lat c : Nat) : Int) + 1 = ((lat c + 1 : Nat) : Int) from rfl, this]
     rfl
    rw [← e] at q
    exact q
end
end Net
namespace Net
open PySem L2
structure GoodS (S : NS) : Prop where
 ndP : S.pl.Nodup
 lenP : S.pl.length ≤ 6
 neP : 1 ≤ S.pl.length
 okP : ∀ x ∈ S.pl, nameB x = true
 ndT : S.nms.Nodup
 lenT : S.ti.length ≤ 10
 okT : ∀ r ∈ S.ti, nameB r.nm = true ∧ r.a ∈ S.pl ∧ r.b ∈ S.pl
 neT : ∀ r ∈ S.ti, ¬ r.a = r.b ∧ 1 ≤ r.w
 okC : ∀ r ∈ S.ti, -(10 ^ 52) ≤ r.c ∧ r.c ≤ 10 ^ 52
structure PartsAt (H : Hp) (pa ta : Addr) (S : NS) : Prop where
 pl : H pa = some (.lst (S.pl.map V.str))
 ti : ∃ L, Rows H L S.ti ∧ H ta = some (.lst (L.map fun q => V.ref q.2))
theorem PartsAt.same {H H' : Hp} {pa ta : Addr} {S : NS} (s : Same H H') (h : PartsAt H pa ta S) : PartsAt H' pa ta S := ⟨s _ _ h.pl, let ⟨L, a, b⟩ := h.ti; ⟨L, a.same s, s _ _ b⟩⟩
def spParts (K : PySem.W.Frag) : Sp := fun vs H Q _ => ∃ (a : Addr) (ns : List Int), vs = [.ref a] ∧ SqL K H a (ns.map V.int) ∧
 ∀ (t pa ta : Addr) (S : NS) (H' : Hp), Same H H' → H' t = some (.tup [.ref pa, .ref ta]) → PartsAt H' pa ta S → GoodS S → (∀ r ∈ S.ti, -4 ≤ r.c ∧ r.c ≤ 4) → Q (.ref t) H'
structure TxtM (mg : Str → Option Value) : Prop where
 max : mg "max" = none
 enum : mg "enumerate" = none
theorem b_max : bootBuiltins "max" = some (.builtin "max") := by decide +kernel
def lpl (c : Int) (n : Nat) : List Str := (List.range n).map fun (j : Nat) => lnm c (j : Int)
theorem lpl_nodup (c : Int) {n : Nat} (h : n ≤ 26) : (lpl c n).Nodup := by
 unfold lpl List.Nodup
 rw [List.pairwise_map]
 refine List.Pairwise.imp_of_mem (fun {a b} ha hb hne e => hne ?_) List.nodup_range
 have h1 := List.mem_range.mp ha
 have h2 := List.mem_range.mp hb
 have := lnm_inj (c := c) (i := (a : Int)) (j := (b : Int)) (by omega) (by omega) (by omega) (by omega) e
 omega
theorem lpl_get (c : Int) {n j : Nat} (h : j < n) : (lpl c n)[j]? = some (lnm c (j : Int)) := by
 unfold lpl
 rw [List.getElem?_map, List.getElem?_range h]
 rfl
theorem lpl_at (c : Int) {n j : Nat} (h : j < n) : atI ((lpl c n).map V.str) (j : Int) = some (V.str (lnm c (j : Int))) := atI_nat (by rw [List.getElem?_map, lpl_get c h]; rfl)
theorem emod_nat (z : Int) {n : Nat} (h : 1 ≤ n) : ∃ j : Nat, j < n ∧ z % (n : Int) = (j : Int) := by
 have h1 := Int.emod_nonneg z (by omega : (n : Int) ≠ 0)
 have h2 := Int.emod_lt_of_pos z (by omega : (0 : Int) < (n : Int))
 exact ⟨(z % (n : Int)).toNat, by omega, by omega⟩
theorem cut_len (xs : List V) {a b : Nat} (h : a ≤ b) : (cutV xs (some (a : Int)) (some (b : Int))).length ≤ b - a := by
 unfold cutV
 rw [HT.sIx_nat, HT.sIx_nat, List.length_take]
 omega
theorem cut_ints {ns : List Int} {a b : Option Int} : ∀ v ∈ cutV (ns.map V.int) a b, ∃ i, v = V.int i := fun v hv => by
 unfold cutV at hv
 have := List.mem_of_mem_drop (List.mem_of_mem_take hv)
 obtain ⟨i, _, rfl⟩ := List.mem_map.mp this
 exact ⟨i, rfl⟩
structure TiesI (c1 c2 : Int) (n i : Nat) (ti : List Row) : Prop where
 len : ti.length ≤ i
 nd : (ti.map (·.nm)).Nodup
 nm : ∀ r ∈ ti, ∃ j : Nat, j < i ∧ r.nm = lnm c2 (j : Int)
 ab : ∀ r ∈ ti, r.a ∈ lpl c1 n ∧ r.b ∈ lpl c1 n ∧ ¬ r.a = r.b ∧ 1 ≤ r.w ∧ -4 ≤ r.c ∧ r.c ≤ 4
theorem TiesI.keep {c1 c2 : Int} {n i : Nat} {ti : List Row} (h : TiesI c1 c2 n i ti) : TiesI c1 c2 n (i + 1) ti := ⟨Nat.le_succ_of_le h.len, h.nd, fun r hr => let ⟨j, a, b⟩ := h.nm r hr; ⟨j, by omega, b⟩, h.ab⟩
theorem TiesI.add {c1 c2 : Int} {n i a b : Nat} {w c : Int} {ti : List Row} (h : TiesI c1 c2 n i ti) (hi : i < 26) (hn : n ≤ 26) (ha : a < n) (hb : b < n) (hab : a ≠ b) (hw : 1 ≤ w) (hc : -4 ≤ c ∧ c ≤ 4) :
  TiesI c1 c2 n (i + 1) (ti ++ [⟨lnm c2 (i : Int), lnm c1 (a : Int), lnm c1 (b : Int), w, c⟩]) := by
 refine ⟨by rw [List.length_append]; exact Nat.succ_le_succ h.len, ?_, fun r hr => ?_, fun r hr => ?_⟩
 ·rw [List.map_append]
  refine nodup_snoc h.nd fun z => ?_
  obtain ⟨r, hr, e⟩ := List.mem_map.mp z
  obtain ⟨j, hj, e2⟩ := h.nm r hr
  have := lnm_inj (c := c2) (i := (j : Int)) (j := (i : Int)) (by omega) (by omega) (by omega) (by omega) (e2.symm.trans e)
  omega
 ·rcases List.mem_append.mp hr with hr | hr
  ·obtain ⟨j, a, b⟩ := h.nm r hr
   exact ⟨j, by omega, b⟩
  ·cases List.mem_singleton.mp hr
   exact ⟨i, by omega, rfl⟩
 ·rcases List.mem_append.mp hr with hr | hr
  ·exact h.ab r hr
  ·cases List.mem_singleton.mp hr
   refine ⟨List.mem_of_getElem? (lpl_get c1 ha), List.mem_of_getElem? (lpl_get c1 hb), fun z => ?_, hw, hc⟩
   have := lnm_inj (c := c1) (i := (a : Int)) (j := (b : Int)) (by omega) (by omega) (by omega) (by omega) z
   omega
section
variable {P : Program} {w : World} {K : PySem.W.Frag} {mg : Str → Option Value} {base : Heap} {C : Addr}
abbrev Nparts : List Str := ["_law_script", "_law_first", "_law_places", "_law_ties", "_law_k", "_law_cell", "_law_a", "_law_b", "_law_name_here"]
theorem sc_parts : FnScope Nparts ["_law_script"] (defScope s_l_parts) := ⟨rfl, rfl, rfl, by decide +kernel, rfl, by decide +kernel, by decide +kernel⟩
theorem ok_parts {f : Addr} {fd : FuncData} (F : Fun K "_law_parts" "_law_parts" s_l_parts f fd) (T : Txt K mg C) (TM : TxtM mg) (cc : Can P w K mg base 1 "_law_cell_at" ["_law_script", "_law_k"] (spCellD K)) (cn : Can P w K mg base 1 "_law_name" ["_law_cell", "_law_k"] spLName) :
  FnOk P w K mg base CX0 2 f fd ["_law_script"] (spParts K) := by
 refine F.ok sc_parts (fun vs H Q E h => ?_) (fun cdv A outer s H vs Q E hr h => ?_)
 ·obtain ⟨a, ns, rfl, _⟩ := h
  rfl
 ·obtain ⟨a, ns, rfl, hS, q⟩ := h
  have nd2 : List.Nodup (["_law_k", "_law_script"] : List Str) := by decide +kernel
  refine ⟨_, (pss_cons (ps_set (i := 1) sc_parts.nd rfl (Or.inl rfl) (pe_callC cc hr (by rfl) (pa_cons (pv 0) (pa_cons pe_int pa_nil))))
   (pss_cons (ps_comp (j := 2) (N := ["_law_k", "_law_script"]) (xs := 1) (js := [0]) rfl sc_parts.nd rfl rfl (compScope_of rfl) (pi_range1 rfl T.range (pa_cons (pe_op op_add pe_int (pe_op op_mod (pv 1) pe_int)) pa_nil))
     (fun _ _ _ _ => pg_name (i := 0) nd2 rfl (Or.inl rfl)) (fun _ _ _ _ => pts_nil) (fun _ _ _ _ => pe_callC cn hr (by rfl) (pa_cons (pe_callC cc hr (by rfl) (pa_cons (pv 1) (pa_cons pe_int pa_nil))) (pa_cons (pv 0) pa_nil))) rfl)
   (pss_cons (ps_set (i := 3) sc_parts.nd rfl (Or.inl rfl) (pe_lst pa_nil))
   (pss_cons (ps_for PassesOwn.never rfl (pi_enum rfl TM.enum (pa_cons (pe_slice sl_list (pv 0) (po_some pe_int) (po_some (pe_op op_add pe_int (pe_op op_mod (pe_op op_fdiv (pv 1) pe_int) pe_int)))) pa_nil))
     (pg_tup rfl (pgs_cons (pg_name (i := 4) sc_parts.nd rfl (Or.inl rfl)) (pgs_cons (pg_name (i := 5) sc_parts.nd rfl (Or.inl rfl)) pgs_nil)))
    (pss_cons (ps_set (i := 6) sc_parts.nd rfl (Or.inl rfl) (pe_op op_mod (pv 5) (pe_callB call_len_seq (by rfl) T.len b_len (pa_cons (pv 2) pa_nil))))
   (pss_cons (ps_set (i := 7) sc_parts.nd rfl (Or.inl rfl) (pe_op op_mod (pe_op op_add (pe_op op_add (pv 6) pe_int) (pe_op op_mod (pe_op op_fdiv (pv 5) pe_int) (pe_callB (call_max2 rfl) (by rfl) TM.max b_max (pa_cons pe_int (pa_cons (pe_op op_sub (pe_callB call_len_seq (by rfl) T.len b_len (pa_cons (pv 2) pa_nil)) pe_int) pa_nil)))))
      (pe_callB call_len_seq (by rfl) T.len b_len (pa_cons (pv 2) pa_nil))))
   (pss_cutE (ps_if (pt_cmpR op_eq (pe_op op_mod (pe_op op_fdiv (pv 1) pe_int) pe_int) pe_int (nomark _)) (pss_one (ps_set (i := 7) sc_parts.nd rfl (Or.inl rfl) (pe_op op_mod (pe_op op_add (pv 6) pe_int) (pe_callB call_len_seq (by rfl) T.len b_len (pa_cons (pv 2) pa_nil))))) pss_nil)
   (pss_one (ps_if (pt_cmpR op_ne (pv 6) (pv 7) (nomark _)) (pss_cons (ps_set (i := 8) sc_parts.nd rfl (Or.inl rfl) (pe_callC cn hr (by rfl) (pa_cons (pe_callC cc hr (by rfl) (pa_cons (pv 0) (pa_cons pe_int pa_nil))) (pa_cons (pv 4) pa_nil))))
   (pss_one (ps_expr (pe_bm PySem.F.plainAttrs_list PySem.F.slot_list_append PySem.F.type_list_append mt_append (pv 3) (pa_cons (pe_tup (pa_cons (pv 8) (pa_cons (pe_ix ix_list (pv 2) (pv 6) (fun _ _ => by rfl)) (pa_cons (pe_ix ix_list (pv 2) (pv 7) (fun _ _ => by rfl)) (pa_cons (pe_op op_add pe_int (pe_op op_mod (pe_op op_fdiv (pv 5) pe_int) pe_int)) (pa_cons (pe_op op_sub (pe_op op_mod (pe_op op_fdiv (pv 5) pe_int) pe_int) pe_int) pa_nil)))))) pa_nil))))) pss_nil))))))
   (pss_one (ps_ret (pe_tup (pa_cons (pv 2) (pa_cons (pv 3) pa_nil))))))))), ?_⟩
  refine ⟨_, rfl, a, ns, 0, rfl, hS, by decide, ?_⟩
  generalize cellD ns 0 = first
  have h61 := Int.emod_nonneg first (by decide : (6 : Int) ≠ 0)
  have h62 := Int.emod_lt_of_pos first (by decide : (0 : Int) < 6)
  obtain ⟨n, en⟩ : ∃ n : Nat, (1 + first % 6 : Int) = (n : Int) := ⟨(1 + first % 6).toNat, by omega⟩
  have hn1 : 1 ≤ n := by omega
  have hn6 : n ≤ 6 := by omega
  refine ⟨_, rfl, _, _, rfl, rfl, (by show (0 : Int) < 6; decide), _, _, rfl, rfl, _, rfl, by omega, by omega, ?_⟩
  rw [en, Int.toNat_natCast]
  refine comp_range (n := n) (fun i acc σ' H' => i ≤ n ∧ H' = H ∧ acc = (lpl (cellD ns 1) i).map V.str ∧ ∃ o, σ' = [o, some (.ref a)])
   ⟨Nat.zero_le _, rfl, rfl, none, rfl⟩ (fun i acc σ' H' h => ?_) (Nat.le_trans hn6 (by decide)) (fun i acc σ' H' hi h => ?_) (fun acc σ' H' h pa hpa => ?_)
  ·obtain ⟨_, _, rfl, _⟩ := h
   unfold lpl
   simp
  ·obtain ⟨h0, rfl, rfl, o, rfl⟩ := h
   refine ⟨_, rfl, a, ns, 1, rfl, hS, by decide, _, rfl, _, _, rfl, by omega, by omega, rfl, ?_, _, rfl⟩
   unfold lpl
   rw [List.range_succ, List.map_append, List.map_append, Int.zero_add]
   rfl
  ·obtain ⟨h0, rfl, rfl, o, rfl⟩ := h
   have epa : (upd H' pa (.lst ((lpl (cellD ns 1) n).map V.str))) pa = some (.lst ((lpl (cellD ns 1) n).map V.str)) := upd_same
   have s1 : Same H' (upd H' pa (.lst ((lpl (cellD ns 1) n).map V.str))) := Same.new hpa
   generalize upd H' pa (.lst ((lpl (cellD ns 1) n).map V.str)) = H1 at epa s1
   have hlp : ((lpl (cellD ns 1) n).map V.str).length = n := by unfold lpl; simp
   refine ⟨by decide, fun ta hta => ?_⟩
   have s2 : Same H1 (upd H1 ta (.lst [])) := Same.new hta
   have eta : (upd H1 ta (.lst [])) ta = some (.lst []) := upd_same
   generalize upd H1 ta (.lst []) = H2 at s2 eta
   obtain ⟨m, hm, em⟩ := emod_nat (first / 6) (n := 11) (by decide)
   refine ⟨_, rfl, _, rfl, _, rfl, _, _, rfl, rfl, ⟨by decide, by decide⟩, _, _, rfl, rfl, (by show (0 : Int) < 11; decide), _, _, rfl, rfl, _, rfl, a, _, rfl, (s1.trans s2).seq hS, fun sc hsc => ⟨sc, rfl, ⟨_, SqL.of upd_same⟩, ?_⟩⟩
   have e4 : (4 + first / 6 % 11 : Int) = ((4 + m : Nat) : Int) := by
    have em' : first / 6 % 11 = (m : Int) := em
    omega
   have clen : (cutV (ns.map V.int) (some 4) (some (4 + first / 6 % 11))).length ≤ 10 := by
    rw [e4]
    exact Nat.le_trans (cut_len (ns.map V.int) (a := 4) (b := 4 + m) (by omega)) (by omega)
   have cint := cut_ints (ns := ns) (a := some 4) (b := some (4 + first / 6 % 11))
   have s3 := s2.upd (o := .lst (cutV (ns.map V.int) (some 4) (some (4 + first / 6 % 11)))) hsc
   have esc : (upd H2 sc (.lst (cutV (ns.map V.int) (some 4) (some (4 + first / 6 % 11))))) sc = some (.lst (cutV (ns.map V.int) (some 4) (some (4 + first / 6 % 11)))) := upd_same
   have eta3 : (upd H2 sc (.lst (cutV (ns.map V.int) (some 4) (some (4 + first / 6 % 11))))) ta = some (.lst []) := (Same.new hsc) _ _ eta
   have nst : sc ≠ ta := (ne_of_none eta hsc).symm
   generalize cutV (ns.map V.int) (some 4) (some (4 + first / 6 % 11)) = cells at clen cint s3 esc eta3
   generalize upd H2 sc (.lst cells) = H3 at s3 esc eta3
   refine for_enum (K := K) (a := sc) (xs := cells) (fun i σ' H'' => ∃ (ti : List Row) (L : List (Row × Addr)) (o1 o2 o3 o4 o5 : Option V), σ' = [some (.ref a), some (.int first), some (.ref pa), some (.ref ta), o1, o2, o3, o4, o5] ∧ Same H1 H'' ∧
     H'' ta = some (.lst (L.map fun q => V.ref q.2)) ∧ Rows H'' L ti ∧ H'' sc = some (.lst cells) ∧ TiesI (cellD ns 1) (cellD ns 2) n i ti)
    ⟨[], [], none, none, none, none, none, rfl, s3, eta3, ⟨rfl, fun _ h => (nomatch h)⟩, esc, ⟨Nat.le_refl _, List.nodup_nil, fun _ h => (nomatch h), fun _ h => (nomatch h)⟩⟩ (fun i σ' H'' _ h => ?_) (fun i x σ' H'' t hx h ht => ?_) (fun σ' H'' h => ?_)
   ·obtain ⟨_, _, _, _, _, _, _, _, _, _, _, e, _⟩ := h
    exact SqL.of e
   ·obtain ⟨ti, L, o1, o2, o3, o4, o5, rfl, s4, eta4, R4, esc4, TI⟩ := h
    obtain ⟨cell, rfl⟩ := cint x (List.mem_of_getElem? hx)
    have hi : i < cells.length := (List.getElem?_eq_some_iff.mp hx).1
    have s5 := s4.upd (o := .tup [.int i, .int cell]) ht
    have n5 := Same.new (o := .tup [.int i, .int cell]) ht
    have et : (upd H'' t (.tup [.int i, .int cell])) t = some (.tup [.int i, .int cell]) := upd_same
    have eta5 := n5 _ _ eta4
    have esc5 := n5 _ _ esc4
    have R5 := R4.same n5
    generalize upd H'' t (.tup [.int i, .int cell]) = H5 at s5 et eta5 esc5 R5
    have epa5 := s5 _ _ epa
    refine ⟨t, _, rfl, SqT.of et, rfl, _, _, rfl, _, _, rfl, rfl, ?_⟩
    refine ⟨_, rfl, _, rfl, pa, _, rfl, .inl (SqL.of epa5), _, _, rfl, rfl, (by rw [hlp]; omega), ?_⟩
    obtain ⟨aa, haa, ea⟩ := emod_nat cell hn1
    dsimp only
    rw [hlp, ea]
    have hmax : (0 : Int) < (if ((n : Int) - 1) > 1 then ((n : Int) - 1) else 1) := by split <;> omega
    refine ⟨_, rfl, _, _, rfl, rfl, _, rfl, _, _, rfl, rfl, ⟨by decide, by decide⟩, _, rfl, pa, _, rfl, .inl (SqL.of epa5), _, _, rfl, rfl, _, _, rfl, _, _, rfl, rfl, (by rw [hlp]; exact hmax), _, _, rfl, rfl, _, rfl, pa, _, rfl, .inl (SqL.of epa5), _, _, rfl, rfl, (by rw [hlp]; omega), ?_⟩
    rw [hlp]
    obtain ⟨b0, hb0, eb0⟩ := emod_nat ((aa : Int) + 1 + cell / 6 % (if ((n : Int) - 1) > 1 then ((n : Int) - 1) else 1)) hn1
    dsimp only
    rw [eb0]
    refine ⟨fun σ2 H2 => H2 = H5 ∧ ∃ b : Nat, b < n ∧ σ2 = [some (.ref a), some (.int first), some (.ref pa), some (.ref ta), some (.int i), some (.int cell), some (.int aa), some (.int b), o5], ?_, ?_⟩
    ·refine ⟨_, rfl, _, _, rfl, rfl, ⟨by decide, by decide⟩, _, _, rfl, rfl, (by show (0 : Int) < 4; decide), rfl, _, rfl, ite2 (fun _ => ?_) (fun _ => ⟨rfl, b0, hb0, rfl⟩)⟩
     refine ⟨_, rfl, _, _, rfl, rfl, _, rfl, pa, _, rfl, .inl (SqL.of epa5), _, _, rfl, rfl, (by rw [hlp]; omega), rfl, ?_⟩
     obtain ⟨b1, hb1, eb1⟩ := emod_nat ((aa : Int) + 1) hn1
     refine ⟨b1, hb1, ?_⟩
     rw [hlp, ← eb1]
     rfl
    ·rintro σ2 H2' ⟨rfl, b, hb, rfl⟩
     refine ⟨_, rfl, _, rfl, rfl, _, rfl, ite2 (fun hne => ?_) (fun _ => ⟨ti, L, _, _, _, _, _, rfl, s5, eta5, R5, esc5, TI.keep⟩)⟩
     have hab : aa ≠ b := fun z => by
      rw [z] at hne
      simp at hne
     refine ⟨_, rfl, a, ns, 2, rfl, (s1.trans s5).seq hS, by decide, _, rfl, _, _, rfl, by omega, ?_⟩
     refine ⟨_, rfl, .inl ⟨rfl, _, SqL.of eta5⟩, _, rfl, _, rfl, _, rfl, pa, _, _, _, rfl, rfl, SqL.of epa5, lpl_at _ haa, _, rfl, _, rfl, pa, _, _, _, rfl, rfl, SqL.of epa5, lpl_at _ hb, _, rfl, _, _, rfl, rfl, ⟨by decide, by decide⟩, _, _, rfl, rfl, (by show (0 : Int) < 4; decide), _, _, rfl, rfl,
      _, rfl, _, _, rfl, rfl, ⟨by decide, by decide⟩, _, _, rfl, rfl, (by show (0 : Int) < 9; decide), _, _, rfl, rfl, (by show 5 ≤ sizeLine; decide), fun t2 ht2 => ?_⟩
     have n6 := Same.new (o := .tup [.str (lnm (cellD ns 2) i), .str (lnm (cellD ns 1) aa), .str (lnm (cellD ns 1) b), .int (1 + cell / 36 % 4), .int (cell / 144 % 9 - 4)]) ht2
     have nt2 : t2 ≠ ta := (ne_of_none eta5 ht2).symm
     refine ⟨ta, _, _, rfl, rfl, n6 _ _ eta5, ?_, ?_⟩
     ·refine small1000 ?_
      have := congrArg List.length R5.1
      rw [List.length_map] at this
      rw [List.length_map, this]
      have := TI.len
      omega
     ·have h4 := Int.emod_nonneg (cell / 36) (by decide : (4 : Int) ≠ 0)
      have h91 := Int.emod_nonneg (cell / 144) (by decide : (9 : Int) ≠ 0)
      have h92 := Int.emod_lt_of_pos (cell / 144) (by decide : (0 : Int) < 9)
      refine ⟨ti ++ [⟨lnm (cellD ns 2) i, lnm (cellD ns 1) aa, lnm (cellD ns 1) b, 1 + cell / 36 % 4, cell / 144 % 9 - 4⟩], L ++ [(⟨lnm (cellD ns 2) i, lnm (cellD ns 1) aa, lnm (cellD ns 1) b, 1 + cell / 36 % 4, cell / 144 % 9 - 4⟩, t2)], _, _, _, _, _, rfl, fun bb ob z => ?_, ?_, ⟨?_, fun z hz => ?_⟩, ?_, TI.add (by omega) (by omega) haa hb hab (by omega) ⟨by omega, by omega⟩⟩
      ·rw [upd_ne (ne_of_none z hta)]
       exact n6 _ _ (s5 _ _ z)
      ·rw [upd_same, List.map_append]
       rfl
      ·rw [List.map_append, R5.1]
       rfl
      ·rcases List.mem_append.mp hz with hz | hz
       ·rw [upd_ne (ne_of (R5.2 z hz) eta5 (fun q => by cases q))]
        exact n6 _ _ (R5.2 z hz)
       ·cases List.mem_singleton.mp hz
        rw [upd_ne nt2]
        exact upd_same
      ·rw [upd_ne nst]
       exact n6 _ _ esc5
   ·obtain ⟨ti, L, o1, o2, o3, o4, o5, rfl, s4, eta4, R4, esc4, TI⟩ := h
    refine ⟨_, rfl, _, rfl, (by show 2 ≤ sizeLine; decide), fun t ht => ?_⟩
    have n9 := Same.new (o := .tup [.ref pa, .ref ta]) ht
    refine q t pa ta ⟨lpl (cellD ns 1) n, ti⟩ _ ((s1.trans s4).trans n9) upd_same ⟨n9 _ _ (s4 _ _ epa), L, R4.same n9, n9 _ _ eta4⟩ ?_ (fun r hr => (TI.ab r hr).2.2.2.2)
    have hll : (lpl (cellD ns 1) n).length = n := by unfold lpl; simp
    refine ⟨lpl_nodup _ (by omega), by rw [hll]; exact hn6, by rw [hll]; exact hn1, fun x hx => ?_, TI.nd, Nat.le_trans TI.len clen, fun r hr => ?_, fun r hr => ⟨(TI.ab r hr).2.2.1, (TI.ab r hr).2.2.2.1⟩, fun r hr => ⟨by have := (TI.ab r hr).2.2.2.2; omega, by have := (TI.ab r hr).2.2.2.2; omega⟩⟩
    ·obtain ⟨j, _, rfl⟩ := List.mem_map.mp hx
     exact lnm_name _ _
    ·obtain ⟨j, _, e⟩ := TI.nm r hr
     exact ⟨by rw [e]; exact lnm_name _ _, (TI.ab r hr).1, (TI.ab r hr).2.1⟩
end
end Net
namespace Net
open PySem L2
def spLNet (C : Addr) : Sp := fun vs H Q _ => ∃ (pa ta : Addr) (S : NS), vs = [.ref pa, .ref ta] ∧ PartsAt H pa ta S ∧ GoodS S ∧ ∀ (x ds dl : Addr) (H' : Hp), Same H H' → NetAt C H' x ds dl S → Q (.ref x) H'
theorem take_new {xs : List Str} {i : Nat} {y : Str} (nd : xs.Nodup) (e : xs[i]? = some y) : y ∉ xs.take i := fun h => by
 obtain ⟨j, hj⟩ := List.getElem?_of_mem h
 rw [List.getElem?_take] at hj
 by_cases hji : j < i
 ·rw [if_pos hji] at hj
  have := nodup_ix nd hj e
  omega
 ·rw [if_neg hji] at hj
  cases hj
theorem ends_in {pl : List Str} {a b : Str} (ha : a ∈ pl) (hb : b ∈ pl) : withEnds pl a b = pl := by
 rw [withEnds_eq, if_pos ha, if_pos hb]
 exact List.append_nil _
section
variable {P : Program} {w : World} {K : PySem.W.Frag} {mg : Str → Option Value} {base : Heap} {C : Addr}
abbrev Nlnet : List Str := ["_law_places", "_law_ties", "_law_net_here", "_law_name_here", "_law_a", "_law_b", "_law_width", "_law_cost"]
theorem sc_lnet : FnScope Nlnet ["_law_places", "_law_ties"] (defScope s_l_net) := ⟨rfl, rfl, rfl, by decide +kernel, rfl, by decide +kernel, by decide +kernel⟩
theorem ok_lnet {f : Addr} {fd : FuncData} (F : Fun K "_law_net" "_law_net" s_l_net f fd) (T : Txt K mg C) (ci : CanI P w K mg base 1 C ["self"] (spInit C)) (m1 : CanM P w K mg base 4 C "place" ["self", "name"] (spPlace C)) (m2 : CanM P w K mg base 4 C "tie" ["self", "name", "a", "b", "width", "cost"] (spTie C)) :
  FnOk P w K mg base CX0 5 f fd ["_law_places", "_law_ties"] (spLNet C) := by
 refine F.ok sc_lnet (fun vs H Q E h => ?_) (fun cdv A outer s H vs Q E hr h => ?_)
 ·obtain ⟨pa, ta, S, rfl, _⟩ := h
  rfl
 ·obtain ⟨pa, ta, S, rfl, PA, g, q⟩ := h
  have r2 : Room 2 _ := hr.mono (by decide)
  refine ⟨_, (pss_cons (ps_set (i := 2) sc_lnet.nd rfl (Or.inl rfl) (pe_makeC0 ci r2 (by rfl) T.mgC))
   (pss_cons (ps_for PassesOwn.never rfl (pi_list (pv 0)) (pg_name (i := 3) sc_lnet.nd rfl (Or.inl rfl)) (pss_one (ps_expr (pe_methC (pv 2) T.cl m1 hr (pa_cons (pv 3) pa_nil)))))
   (pss_cons (ps_for PassesOwn.never rfl (pi_list (pv 1)) (pg_tup rfl (pgs_cons (pg_name (i := 3) sc_lnet.nd rfl (Or.inl rfl)) (pgs_cons (pg_name (i := 4) sc_lnet.nd rfl (Or.inl rfl)) (pgs_cons (pg_name (i := 5) sc_lnet.nd rfl (Or.inl rfl)) (pgs_cons (pg_name (i := 6) sc_lnet.nd rfl (Or.inl rfl)) (pgs_cons (pg_name (i := 7) sc_lnet.nd rfl (Or.inl rfl)) pgs_nil))))))
    (pss_one (ps_expr (pe_methC (pv 2) T.cl m2 hr (pa_cons (pv 3) (pa_cons (pv 4) (pa_cons (pv 5) (pa_cons (pv 6) (pa_cons (pv 7) pa_nil)))))))))
   (pss_one (ps_ret (pv 2)))))), ?_⟩
  intro x dx nx ndx nex
  refine ⟨x, dx, rfl, upd_same, fun ds dl H1 fds fdl N1 kp1 => ⟨rfl, ?_⟩⟩
  have s0 : Same H (upd (upd H dx (.own x)) x (.ins C dx [])) := fun b ob e => by
   rw [upd_ne (ne_of_none e nx), upd_ne (ne_of_none e ndx)]
   exact e
  have s1 : Same H H1 := fun b ob e => kp1 b ob (s0 b ob e) (ne_of_none e nx)
  have hds : H ds = none := s0.free fds
  have hdl : H dl = none := s0.free fdl
  obtain ⟨L, RL, eta⟩ := PA.ti
  refine ⟨_, rfl, pa, rfl, ⟨_, SqL.of (s1 _ _ PA.pl)⟩, for_list (K := K) (a := pa) (xs := S.pl.map V.str) (fun i σ' H' => (∃ o, σ' = [some (.ref pa), some (.ref ta), some (.ref x), o, none, none, none, none]) ∧ Same H H' ∧ NetAt C H' x ds dl ⟨S.pl.take i, []⟩)
   ⟨⟨none, rfl⟩, s1, N1⟩ (fun i σ' H' _ h => SqL.of (h.2.1 _ _ PA.pl)) (fun i v σ' H' hv h => ?_) (fun σ' H' h => ?_)⟩
  ·obtain ⟨⟨o, rfl⟩, s3, N3⟩ := h
   rw [List.getElem?_map] at hv
   cases ey : S.pl[i]? with
   | none => rw [ey] at hv; cases hv
   | some y =>
    rw [ey] at hv
    cases hv
    obtain ⟨dx3, h13⟩ := N3.ob
    refine ⟨_, rfl, x, dx3, _, rfl, h13, flds_no ds dl (by decide +kernel) (by decide +kernel), _, rfl, x, ds, dl, _, y, rfl, N3, g.okP y (List.mem_of_getElem? ey), take_new g.ndP ey, ?_, fun H4 N4 b4 => ⟨⟨_, rfl⟩, fun b ob e => b4 b ob (s3 b ob e) (ne_of_none e hds) (ne_of_none e hdl), ?_⟩⟩
    ·show (S.pl.take i).length < 20
     have := g.lenP
     rw [List.length_take]
     omega
    ·have e : S.pl.take (i + 1) = S.pl.take i ++ [y] := by rw [List.take_add_one, ey]; rfl
     rw [e]
     exact N4
  ·obtain ⟨⟨o, rfl⟩, s3, N3⟩ := h
   rw [List.length_map, List.take_length] at N3
   refine ⟨_, rfl, ta, rfl, ⟨_, SqL.of (s3 _ _ eta)⟩, for_list (K := K) (a := ta) (xs := L.map fun q => V.ref q.2) (fun i σ' H' => (∃ o1 o2 o3 o4 o5, σ' = [some (.ref pa), some (.ref ta), some (.ref x), o1, o2, o3, o4, o5]) ∧ Same H H' ∧ NetAt C H' x ds dl ⟨S.pl, S.ti.take i⟩)
    ⟨⟨_, _, _, _, _, rfl⟩, s3, N3⟩ (fun i σ' H' _ h => SqL.of (h.2.1 _ _ eta)) (fun i v σ' H' hv h => ?_) (fun σ' H' h => ?_)⟩
   ·obtain ⟨⟨o1, o2, o3, o4, o5, rfl⟩, s4, N4⟩ := h
    rw [List.getElem?_map] at hv
    cases eq : L[i]? with
    | none => rw [eq] at hv; cases hv
    | some qq =>
     rw [eq] at hv
     cases hv
     have er : S.ti[i]? = some qq.1 := by rw [← RL.1, List.getElem?_map, eq]; rfl
     have hm := List.mem_of_getElem? er
     have ht := s4 _ _ (RL.2 qq (List.mem_of_getElem? eq))
     obtain ⟨dx4, h14⟩ := N4.ob
     refine ⟨qq.2, _, rfl, SqT.of ht, rfl, _, _, rfl, _, _, rfl, _, _, rfl, _, _, rfl, _, _, rfl, rfl, ?_⟩
     obtain ⟨k1, k2, k3⟩ := g.okT _ hm
     obtain ⟨k4, k5⟩ := g.neT _ hm
     have we : withEnds S.pl qq.1.a qq.1.b = S.pl := ends_in k2 k3
     refine ⟨_, rfl, x, dx4, _, rfl, h14, flds_no ds dl (by decide +kernel) (by decide +kernel), _, rfl, _, rfl, _, rfl, _, rfl, _, rfl, x, ds, dl, _, qq.1, rfl, N4, k1, g.okP _ k2, g.okP _ k3, ?_, k4, k5, ?_, ?_, fun H5 N5 b5 => ⟨⟨_, _, _, _, _, rfl⟩, fun b ob e => b5 b ob (s4 b ob e) (ne_of_none e hds) (ne_of_none e hdl), ?_⟩⟩
     ·show qq.1.nm ∉ (S.ti.take i).map (·.nm)
      rw [List.map_take]
      exact take_new g.ndT (by show (S.ti.map (·.nm))[i]? = _; rw [List.getElem?_map, er]; rfl)
     ·show (S.ti.take i).length < 40
      have := g.lenT
      rw [List.length_take]
      omega
     ·show (withEnds S.pl qq.1.a qq.1.b).length ≤ 20
      have := g.lenP
      rw [we]
      omega
     ·have e : S.ti.take (i + 1) = S.ti.take i ++ [qq.1] := by rw [List.take_add_one, er]; rfl
      have N5' : NetAt C H5 x ds dl ⟨withEnds S.pl qq.1.a qq.1.b, S.ti.take i ++ [qq.1]⟩ := N5
      rw [we] at N5'
      rw [e]
      exact N5'
   ·obtain ⟨⟨o1, o2, o3, o4, o5, rfl⟩, s4, N4⟩ := h
    have el : L.length = S.ti.length := by rw [← RL.1, List.length_map]
    rw [List.length_map, el, List.take_length] at N4
    exact ⟨_, rfl, q x ds dl H' s4 N4⟩
end
end Net
namespace Net
open PySem L2
structure FndAt (ok : Str → Prop) (H0 H' : Hp) (fl : Addr) (n : Nat) (fs : List Str) : Prop where
 same : Same H0 H'
 fr : H0 fl = none
 ob : H' fl = some (.lst (fs.map V.str))
 len : fs.length ≤ n
 sub : ∀ x ∈ fs, ok x
theorem FndAt.up {ok : Str → Prop} {H0 H' H2 : Hp} {fl : Addr} {n : Nat} {fs : List Str} (f : FndAt ok H0 H' fl n fs) (s : Same H' H2) : FndAt ok H0 H2 fl n fs := ⟨f.same.trans s, f.fr, s _ _ f.ob, f.len, f.sub⟩
theorem FndAt.mono {ok : Str → Prop} {H0 H' : Hp} {fl : Addr} {n m : Nat} {fs : List Str} (f : FndAt ok H0 H' fl n fs) (h : n ≤ m) : FndAt ok H0 H' fl m fs := ⟨f.same, f.fr, f.ob, Nat.le_trans f.len h, f.sub⟩
theorem FndAt.put {ok : Str → Prop} {H0 H' : Hp} {fl : Addr} {n : Nat} {fs : List Str} {x : Str} (f : FndAt ok H0 H' fl n fs) (hx : ok x) : FndAt ok H0 (upd H' fl (.lst (fs.map V.str ++ [.str x]))) fl (n + 1) (fs ++ [x]) := by
 refine ⟨fun b ob z => ?_, f.fr, by rw [upd_same, List.map_append]; rfl, by rw [List.length_append]; exact Nat.succ_le_succ f.len, fun y hy => ?_⟩
 ·rw [upd_ne (ne_of_none z f.fr)]
  exact f.same _ _ z
 ·rcases List.mem_append.mp hy with hy | hy
  ·exact f.sub y hy
  ·rw [List.mem_singleton.mp hy]; exact hx
theorem pick_pl {pl : List Str} (h : 1 ≤ pl.length) (z : Int) : ∃ y ∈ pl, atI (pl.map V.str) (z % ((pl.map V.str).length : Int)) = some (V.str y) := by
 obtain ⟨j, hj, e⟩ := emod_nat z h
 have e' := List.getElem?_eq_getElem hj
 rw [List.length_map, e]
 exact ⟨_, List.mem_of_getElem? e', atI_nat (by rw [List.getElem?_map, e']; rfl)⟩
section
variable {P : Program} {w : World} {K : PySem.W.Frag} {mg : Str → Option Value} {base : Heap} {C : Addr}
end
end Net
namespace Net
open PySem L2
theorem pickV {xs : List V} (h : 1 ≤ xs.length) (z : Int) : ∃ v ∈ xs, atI xs (z % (xs.length : Int)) = some v := by
 obtain ⟨j, hj, e⟩ := emod_nat z h
 have e' := List.getElem?_eq_getElem hj
 rw [e]
 exact ⟨_, List.mem_of_getElem? e', atI_nat e'⟩
theorem nowhere_ok : PyData.strOk "nowhere" = true := strOk_of (by decide +kernel)
theorem nothing_ok : PyData.strOk "nothing" = true := strOk_of (by decide +kernel)
theorem empty_ok : PyData.strOk "" = true := by decide +kernel
section
variable {P : Program} {w : World} {K : PySem.W.Frag} {mg : Str → Option Value} {base : Heap} {C : Addr}
end
end Net
namespace Net
open PySem L2
def nmF (d : PyData) (r : Row) : Bool := PyData.eqv (.str r.nm) d
theorem head_find {α : Type} (f : α → Bool) : ∀ l : List α, (l.filter f).head? = l.find? f
 | [] => rfl
 | x :: r => by
  cases e : f x with
  | true => rw [List.filter_cons_of_pos e, List.find?_cons_of_pos e]; rfl
  | false => rw [List.filter_cons_of_neg (by simp [e]), List.find?_cons_of_neg (by simp [e])]; exact head_find f r
theorem nm_step {ti : List Row} {here : Str} {d : PyData} : stepD ti here d = (ti.filter (nmF d)).head?.bind fun r => if r.a = here then some r.b else none := by
 rw [head_find]
 cases es : isS d with
 | false =>
  have e1 : stepD ti here d = none := by cases d <;> first | rfl | cases es
  have e2 : ti.find? (nmF d) = none := by
   rw [List.find?_eq_none]
   intro r _
   unfold nmF
   rw [eqvN _ es]
   exact Bool.false_ne_true
  rw [e1, e2]
  rfl
 | true =>
  obtain ⟨x, rfl⟩ : ∃ x, d = .str x := by cases d <;> first | exact ⟨_, rfl⟩ | cases es
  have : (nmF (.str x)) = fun r : Row => decide (r.nm = x) := funext fun r => eqvS _ _
  rw [this]
  rfl
section
variable {P : Program} {w : World} {K : PySem.W.Frag} {mg : Str → Option Value} {base : Heap} {C : Addr}
end
end Net
namespace Net
open PySem L2
theorem eq_V (x y : Str) : decide (V.str x = V.str y) = decide (x = y) := by
 by_cases h : x = y
 ·rw [h]; simp
 ·simp [h]
section
variable {P : Program} {w : World} {K : PySem.W.Frag} {mg : Str → Option Value} {base : Heap} {C : Addr}
end
end Net
namespace Net
open PySem L2
end Net
namespace Net
open PySem L2
def isI : PyData → Bool
 | .int _ => true
 | _ => false
def isB : PyData → Bool
 | .bool _ => true
 | _ => false
theorem PD.tyI {K : PySem.W.Frag} {H : Hp} {n : Nat} {v : V} {d : PyData} (h : PD H n v d) : ∃ t, TyOf K H v t ∧ PySem.W.kitOne K t (.type "int") = some (isI d || isB d) ∧ PySem.W.kitOne K t (.type "bool") = some (isB d) := by
 cases n with
 | zero =>
  cases v <;> try exact h.elim
  ·cases (show d = _ from h); exact ⟨_, .non, by first | rfl | kernel_rfl, by first | rfl | kernel_rfl⟩
  ·cases (show d = _ from h); exact ⟨_, .bl _, by first | rfl | kernel_rfl, by first | rfl | kernel_rfl⟩
  ·cases (show d = _ from h); exact ⟨_, .int _, by first | rfl | kernel_rfl, by first | rfl | kernel_rfl⟩
  ·cases h.2; exact ⟨_, .str _, by first | rfl | kernel_rfl, by first | rfl | kernel_rfl⟩
 | succ n =>
  cases v <;> try exact h.elim
  ·cases (show d = _ from h); exact ⟨_, .non, by first | rfl | kernel_rfl, by first | rfl | kernel_rfl⟩
  ·cases (show d = _ from h); exact ⟨_, .bl _, by first | rfl | kernel_rfl, by first | rfl | kernel_rfl⟩
  ·cases (show d = _ from h); exact ⟨_, .int _, by first | rfl | kernel_rfl, by first | rfl | kernel_rfl⟩
  ·cases h.2; exact ⟨_, .str _, by first | rfl | kernel_rfl, by first | rfl | kernel_rfl⟩
  ·rcases h with ⟨xs, ds, e, rfl, p⟩ | ⟨xs, ds, e, rfl, p⟩
   ·exact ⟨_, .lst e, by first | rfl | kernel_rfl, by first | rfl | kernel_rfl⟩
   ·exact ⟨_, .tup e, by first | rfl | kernel_rfl, by first | rfl | kernel_rfl⟩
theorem PD.int_of {H : Hp} {n : Nat} {v : V} {i : Int} (h : PD H n v (.int i)) : v = .int i := by
 cases n with
 | zero => cases v <;> first | exact h.elim | (have := (show PyData.int i = _ from h); cases this; done) | (have := (show PyData.int i = _ from h); cases this; rfl) | (cases h.2; done)
 | succ n =>
  cases v <;> first | exact h.elim | (have := (show PyData.int i = _ from h); cases this; done) | (have := (show PyData.int i = _ from h); cases this; rfl) | (cases h.2; done) | skip
  rcases h with ⟨xs, ds, e1, e2, p⟩ | ⟨xs, ds, e1, e2, p⟩ <;> cases e2
def isPair : PyData → Bool
 | .list ds => decide (ds.length = 2)
 | _ => false
theorem isPair_of {d : PyData} (h : isPair d = true) : ∃ d0 d1, d = .list [d0, d1] := by
 cases d <;> first | (cases h; done) | skip
 rename_i ds
 have h' : ds.length = 2 := of_decide_eq_true h
 match ds, h' with
 | [d0, d1], _ => exact ⟨d0, d1, rfl⟩
def priceRow (pl : List Str) : PyData → Option (Str × Int)
 | .list [.str x, .int i] => if x ∈ pl then some (x, i) else none
 | _ => none
def pricesD (pl : List Str) : List PyData → List (Str × Int) → Option (List (Str × Int))
 | [], acc => some acc
 | d :: ds, acc => match priceRow pl d with
  | some q => if q.1 ∈ acc.map (·.1) then none else pricesD pl ds (acc ++ [q])
  | none => none
def pricesP (pl : List Str) : PyData → Option (List (Str × Int))
 | .list ds => pricesD pl ds []
 | _ => none
theorem prices_bad {pl : List Str} {d : PyData} {ds : List PyData} {acc : List (Str × Int)} (h : priceRow pl d = none) : pricesD pl (d :: ds) acc = none := by
 unfold pricesD
 rw [h]
theorem prices_dup {pl : List Str} {d : PyData} {ds : List PyData} {acc : List (Str × Int)} {q : Str × Int} (h : priceRow pl d = some q) (h2 : q.1 ∈ acc.map (·.1)) : pricesD pl (d :: ds) acc = none := by
 unfold pricesD
 rw [h]
 show (if q.1 ∈ acc.map (·.1) then none else _) = none
 rw [if_pos h2]
theorem prices_go {pl : List Str} {d : PyData} {ds : List PyData} {acc : List (Str × Int)} {q : Str × Int} (h : priceRow pl d = some q) (h2 : q.1 ∉ acc.map (·.1)) : pricesD pl (d :: ds) acc = pricesD pl ds (acc ++ [q]) := by
 have : pricesD pl (d :: ds) acc = match priceRow pl d with | some q => if q.1 ∈ acc.map (·.1) then none else pricesD pl ds (acc ++ [q]) | none => none := rfl
 rw [this, h]
 show (if q.1 ∈ acc.map (·.1) then none else _) = _
 rw [if_neg h2]
def prKV (kv : List (Str × Int)) : List (Key × V) := kv.map fun p => ((Sum.inr p.1 : Key), V.int p.2)
def prO (kv : List (Str × Int)) (x : Str) : Option Int := (kv.find? fun p => decide (p.1 = x)).map (·.2)
theorem pr_val (x : Str) : ∀ kv : List (Str × Int), valV (prKV kv) (Sum.inr x : Key) = (prO kv x).map V.int
 | [] => rfl
 | p :: r => by
  by_cases e : p.1 = x
  ·rw [show prKV (p :: r) = ((Sum.inr p.1 : Key), V.int p.2) :: prKV r from rfl, valV_pos (congrArg Sum.inr e)]
   unfold prO
   rw [List.find?_cons_of_pos (by simpa using e)]
   rfl
  ·rw [show prKV (p :: r) = ((Sum.inr p.1 : Key), V.int p.2) :: prKV r from rfl, valV_neg (fun z => e (Sum.inr.inj z)), pr_val x r]
   unfold prO
   rw [List.find?_cons_of_neg (by simpa using e)]
theorem pr_in {kv : List (Str × Int)} {x : Str} : (prO kv x).isSome = decide (x ∈ kv.map (·.1)) := by
 induction kv with
 | nil => rfl
 | cons p r ih =>
  unfold prO at ih ⊢
  by_cases e : p.1 = x
  ·rw [List.find?_cons_of_pos (by simpa using e)]
   have : x ∈ (p :: r).map (·.1) := by rw [List.map_cons, e]; exact List.mem_cons_self
   rw [decide_eq_true this]
   rfl
  ·rw [List.find?_cons_of_neg (by simpa using e), ih, Bool.eq_iff_iff, decide_eq_true_eq, decide_eq_true_eq, List.map_cons, List.mem_cons]
   exact ⟨.inr, fun z => z.elim (fun z => absurd z.symm e) id⟩
def keepTail (kv : List (Str × Int)) (dead : List Str) (r : Row) : Bool := match prO kv r.a with
 | none => true
 | some p => decide (r.b ∈ dead) || (match prO kv r.b with
  | none => false
  | some q => decide (q ≤ p + r.c))
def keepRow (kv : List (Str × Int)) (dead : List Str) (r : Row) : Bool := !(decide (r.a ∈ dead) && !decide (r.b ∈ dead)) && keepTail kv dead r
def rowF (ti : List Row) (d : PyData) : Option Row := (ti.filter (nmF d)).head?
def costD (ti : List Row) (d : PyData) : Int := match namesOf d with
 | some ws => costOf ti ws
 | none => 0
theorem walk_names {ti : List Row} : ∀ {ds : List PyData} {a : Str} {l : List Str}, stD ti a ds = some l → ∃ ws : List Str, ds = ws.map PyData.str ∧ ∀ x ∈ ws, x ∈ ti.map (·.nm)
 | [], _, _, _ => ⟨[], rfl, fun _ h => nomatch h⟩
 | d :: ds, a, l, h => by
  unfold stD at h
  cases e : stepD ti a d with
  | none => rw [e] at h; cases h
  | some y =>
   rw [e, Option.bind_some] at h
   cases e2 : stD ti y ds with
   | none => rw [e2] at h; cases h
   | some l' =>
    obtain ⟨ws, rfl, hw⟩ := walk_names e2
    have : ∃ x, d = .str x ∧ x ∈ ti.map (·.nm) := by
     cases d <;> try (cases e; done)
     rename_i x
     refine ⟨x, rfl, ?_⟩
     have e' : (rowOf ti x).bind (fun r => if r.a = a then some r.b else none) = some y := e
     cases e3 : rowOf ti x with
     | none => rw [e3] at e'; cases e'
     | some r => exact List.mem_map.mpr ⟨r, List.mem_of_find?_eq_some e3, by simpa using List.find?_some e3⟩
    obtain ⟨x, rfl, hx⟩ := this
    exact ⟨x :: ws, rfl, fun z hz => by
     rcases List.mem_cons.mp hz with rfl | hz
     ·exact hx
     ·exact hw z hz⟩
def spPairD : Sp := fun vs H Q _ => ∃ (v : V) (n : Nat) (d : PyData), vs = [v] ∧ PD H n v d ∧ Q (.bl (isPair d)) H
def spWholeD : Sp := fun vs H Q _ => ∃ (v : V) (n : Nat) (d : PyData), vs = [v] ∧ PD H n v d ∧ Q (.bl (isI d)) H
def spPrices (C : Addr) : Sp := fun vs H Q _ => ∃ (p ds dl : Addr) (S : NS) (v : V) (n : Nat) (d : PyData), vs = [.ref p, v] ∧ NetS C H p ds dl S ∧ PD H n v d ∧ n ≤ 50 ∧ (∀ e, d = .list e → e.length ≤ 1000) ∧
 (∀ H', Same H H' → pricesP S.pl d = none → Q .non H') ∧ ∀ (dp : Addr) (kv : List (Str × Int)) (H' : Hp), Same H H' → H' dp = some (.dK (prKV kv)) → pricesP S.pl d = some kv → Q (.ref dp) H'
def spKeep (C : Addr) : Sp := fun vs H Q _ => ∃ (p ds dl dp l : Addr) (S : NS) (kv : List (Str × Int)) (dead : List Str), vs = [.ref p, .ref dp, .ref l] ∧ NetS C H p ds dl S ∧ H dp = some (.dK (prKV kv)) ∧ H l = some (.lst (dead.map V.str)) ∧ ∀ H', Same H H' → Q (.bl (S.ti.all (keepRow kv dead))) H'
section
variable {P : Program} {w : World} {K : PySem.W.Frag} {mg : Str → Option Value} {base : Heap} {C : Addr}
def isRow (k : Nat) : PyData → Bool
 | .list ds => decide (ds.length = k)
 | _ => false
theorem isPair_row (d : PyData) : isPair d = isRow 2 d := by cases d <;> rfl
def spIsRow : Sp := fun vs H Q _ => ∃ (v : V) (n : Nat) (d : PyData) (k : Nat), vs = [v, .int k] ∧ PD H n v d ∧ Q (.bl (isRow k d)) H
theorem sc_isRow : FnScope ["paper", "many"] ["paper", "many"] (defScope s_is_row) := ⟨rfl, rfl, rfl, by decide +kernel, rfl, by decide +kernel, by decide +kernel⟩
theorem ok_isRow {f : Addr} {fd : FuncData} (F : Fun K "is_row" "is_row" s_is_row f fd) (T : Txt K mg C) : FnOk P w K mg base CX0 1 f fd ["paper", "many"] spIsRow := by
 refine F.ok sc_isRow (fun vs H Q E h => ?_) (fun cdv A outer s H vs Q E hr h => ?_)
 ·obtain ⟨v, n, d, k, rfl, _⟩ := h
  rfl
 ·obtain ⟨v, n, d, k, rfl, pd, q⟩ := h
  refine ⟨_, (pss_one (ps_ret (pe_and (pe_callB call_isinst (by rfl) T.isi b_isi (pa_cons (pv 0) (pa_cons (pe_ty T.list (by rfl) b_list) pa_nil))) (pe_one (pe_cmpR op_eq (pe_callB call_len_seq (by rfl) T.len b_len (pa_cons (pv 0) pa_nil)) (pv 1) (nomark _)))))), ?_⟩
  obtain ⟨t, ty, kl, _⟩ := PD.ty (K := K) pd
  refine ⟨_, rfl, v, "list", t, isL d, rfl, ty, kl, _, rfl, ?_⟩
  cases el : isL d with
  | false =>
   refine iteF ?_
   have e : isRow k d = false := by cases d <;> first | (cases el; done) | rfl
   rw [e] at q
   exact q
  | true =>
   obtain ⟨ds, rfl⟩ : ∃ e, d = .list e := by cases d <;> first | exact ⟨_, rfl⟩ | cases el
   obtain ⟨m, l, xs, rfl, rfl, hl, pr⟩ := pd.list_of
   refine iteT ⟨_, rfl, l, xs, rfl, .inl (SqL.of hl), _, rfl, rfl, ?_⟩
   have e : decide (V.int (xs.length : Nat) = V.int k) = isRow k (.list ds) := by
    show _ = decide (ds.length = k)
    rw [← Paired.length pr, Bool.eq_iff_iff, decide_eq_true_eq, decide_eq_true_eq]
    constructor
    ·intro z
     have z' : ((xs.length : Nat) : Int) = k := by injection z
     omega
    ·intro z
     rw [z]
   rw [e]
   exact q
theorem sc_pair : FnScope ["paper"] ["paper"] (defScope s_is_pair) := ⟨rfl, rfl, rfl, by decide +kernel, rfl, by decide +kernel, by decide +kernel⟩
theorem ok_pairD {f : Addr} {fd : FuncData} (F : Fun K "is_pair" "is_pair" s_is_pair f fd) (cr : Can P w K mg base 1 "is_row" ["paper", "many"] spIsRow) : FnOk P w K mg base CX0 2 f fd ["paper"] spPairD := by
 refine F.ok sc_pair (fun vs H Q E h => ?_) (fun cdv A outer s H vs Q E hr h => ?_)
 ·obtain ⟨v, n, d, rfl, _⟩ := h
  rfl
 ·obtain ⟨v, n, d, rfl, pd, q⟩ := h
  refine ⟨_, (pss_one (ps_ret (pe_callC cr hr (by rfl) (pa_cons (pv 0) (pa_cons pe_int pa_nil))))), ?_⟩
  rw [isPair_row] at q
  exact ⟨_, rfl, v, n, d, 2, rfl, pd, q⟩
theorem ok_wholeD {f : Addr} {fd : FuncData} (F : Fun K "is_whole" "is_whole" s_is_whole f fd) (T : Txt K mg C) : FnOk P w K mg base CX0 1 f fd ["thing"] spWholeD := by
 refine F.ok sc_whole (fun vs H Q E h => ?_) (fun cdv A outer s H vs Q E hr h => ?_)
 ·obtain ⟨v, n, d, rfl, _⟩ := h
  rfl
 ·obtain ⟨v, n, d, rfl, pd, q⟩ := h
  refine ⟨_, (pss_one (ps_ret (pe_and (pe_callB call_isinst (by rfl) T.isi b_isi (pa_cons (pv 0) (pa_cons (pe_ty T.int (by rfl) b_int) pa_nil))) (pe_one (pe_not (pe_callB call_isinst (by rfl) T.isi b_isi (pa_cons (pv 0) (pa_cons (pe_ty T.bool (by rfl) b_bool) pa_nil)))))))), ?_⟩
  obtain ⟨t, ty, ki, kb⟩ := PD.tyI (K := K) pd
  refine ⟨_, rfl, v, "int", t, _, rfl, ty, ki, _, rfl, ?_⟩
  cases ei : isI d with
  | true =>
   have eb : isB d = false := by cases d <;> first | (cases ei; done) | rfl
   refine iteT ⟨_, rfl, v, "bool", t, _, rfl, ty, kb, _, rfl, ?_⟩
   rw [eb]
   rw [ei] at q
   exact q
  | false =>
   rw [ei] at q
   cases eb : isB d with
   | true =>
    refine iteT ⟨_, rfl, v, "bool", t, _, rfl, ty, kb, _, rfl, ?_⟩
    rw [eb]
    exact q
   | false => exact iteF q
theorem sc_prices : FnScope ["net", "paper", "prices", "row"] ["net", "paper"] (defScope s_prices_of) := ⟨rfl, rfl, rfl, by decide +kernel, rfl, by decide +kernel, by decide +kernel⟩
theorem ok_pricesD {f : Addr} {fd : FuncData} (F : Fun K "prices_of" "prices_of" s_prices_of f fd) (T : Txt K mg C) (c1 : Can P w K mg base 2 "is_pair" ["paper"] spPairD) (c2 : Can P w K mg base 2 "is_place" ["net", "paper"] (spIsPlaceD C)) (c3 : Can P w K mg base 1 "is_whole" ["thing"] spWholeD) : FnOk P w K mg base CX0 3 f fd ["net", "paper"] (spPrices C) := by
 refine F.ok sc_prices (fun vs H Q E h => ?_) (fun cdv A outer s H vs Q E hr h => ?_)
 ·obtain ⟨p, ds, dl, S, v, n, d, rfl, _⟩ := h
  rfl
 ·obtain ⟨p, ds, dl, S, v, n, d, rfl, N, pd, n50, blen, q1, q2⟩ := h
  have hu := hu_of hr
  have r1 : Room 1 _ := hr.mono (by decide)
  refine ⟨_, (pss_cons (ps_if (pt_not (pt_val (pe_callB call_isinst (by rfl) T.isi b_isi (pa_cons (pv 1) (pa_cons (pe_ty T.list (by rfl) b_list) pa_nil))))) (pss_one (ps_ret pe_non)) pss_nil)
   (pss_cons (ps_set (i := 2) sc_prices.nd rfl (Or.inl rfl) pe_dnewK)
   (pss_cons (ps_for PassesOwn.never rfl (pi_list (pv 1)) (pg_name (i := 3) sc_prices.nd rfl (Or.inl rfl))
     (pss_cons (ps_if (PW.pt (pw_or (pt_not (pt_val (pe_callC c1 hr (by rfl) (pa_cons (pv 3) pa_nil)))) (pw_or (pt_not (pt_val (pe_callC c2 hr (by rfl) (pa_cons (pv 0) (pa_cons (pe_ix ix_list (pv 3) pe_int (fun _ _ => by rfl)) pa_nil)))))
       (pw_or (pt_not (pt_val (pe_callC c3 r1 (by rfl) (pa_cons (pe_ix ix_list (pv 3) pe_int (fun _ _ => by rfl)) pa_nil)))) (pw_or1 (pt_cmp (pc_din hu (pe_ix ix_list (pv 3) pe_int (fun _ _ => by rfl)) (pv 2)))))))) (pss_one (ps_ret pe_non)) pss_nil)
   (pss_one (ps_dput hu (pv 2) (pe_ix ix_list (pv 3) pe_int (fun _ _ => by rfl)) (pe_ix ix_list (pv 3) pe_int (fun _ _ => by rfl)) rfl))))
   (pss_one (ps_ret (pv 2)))))), ?_⟩
  obtain ⟨t, ty, kl, _⟩ := PD.ty (K := K) pd
  refine ⟨_, rfl, v, "list", t, isL d, rfl, ty, kl, _, rfl, ?_⟩
  cases el : isL d with
  | false =>
   refine iteT (q1 H (Same.refl H) ?_)
   cases d <;> first | (cases el; done) | rfl
  | true =>
   refine iteF ?_
   obtain ⟨es, rfl⟩ : ∃ e, d = .list e := by cases d <;> first | exact ⟨_, rfl⟩ | cases el
   obtain ⟨m, l, xs, rfl, rfl, hl, pr⟩ := pd.list_of
   have hxl : xs.length = es.length := Paired.length pr
   have hle := blen es rfl
   intro dp hdp
   have s1 := Same.new (o := .dK []) hdp
   have edp : (upd H dp (.dK [])) dp = some (.dK (prKV [])) := upd_same
   generalize upd H dp (.dK []) = H1 at s1 edp
   refine ⟨_, rfl, l, rfl, ⟨_, SqL.of (s1 _ _ hl)⟩, for_list (K := K) (a := l) (xs := xs) (fun i σ' H' => ∃ (kv : List (Str × Int)) (o : Option V), σ' = [some (.ref p), some (.ref l), some (.ref dp), o] ∧ Same H H' ∧ H' dp = some (.dK (prKV kv)) ∧ kv.length = i ∧ pricesD S.pl es [] = pricesD S.pl (es.drop i) kv)
    ⟨[], none, rfl, s1, edp, rfl, rfl⟩ (fun i σ' H' _ h => ?_) (fun i x σ' H' hx h => ?_) (fun σ' H' h => ?_)⟩
   ·obtain ⟨_, _, _, s2, _⟩ := h
    exact SqL.of (s2 _ _ hl)
   ·obtain ⟨kv, o, rfl, s2, ekv, hk, hpr⟩ := h
    obtain ⟨di, hd, pdi⟩ := pair_get pr hx
    have hi : i < es.length := (List.getElem?_eq_some_iff.mp hd).1
    have hdrop : es.drop i = di :: es.drop (i + 1) := by
     rw [List.drop_eq_getElem_cons hi]
     have := (List.getElem?_eq_some_iff.mp hd).2
     rw [this]
    rw [hdrop] at hpr
    have bad : ∀ {H' : Hp}, Same H H' → priceRow S.pl di = none → Q .non H' := fun s z => q1 _ s (hpr.trans (prices_bad z))
    refine ⟨_, rfl, x, m, di, rfl, pdi.same s2, _, rfl, ?_⟩
    cases ep : isPair di with
    | false =>
     refine iteT (iteT (bad s2 ?_))
     cases di <;> first | rfl | skip
     rename_i us
     match us, ep with
     | [], _ => rfl
     | [_], _ => simp [priceRow]
     | [_, _], z => cases z
     | _ :: _ :: _ :: _, _ => simp [priceRow]
    | true =>
     obtain ⟨d0, d1, rfl⟩ := isPair_of ep
     obtain ⟨m2, ra, us, rfl, rfl, hra, pr2⟩ := pdi.list_of
     obtain ⟨v0, v1, rfl, p0, p1⟩ : ∃ v0 v1, us = [v0, v1] ∧ PD H m2 v0 d0 ∧ PD H m2 v1 d1 := by
      cases pr2 with
      | cons h0 t =>
       cases t with
       | cons h1 t2 =>
        cases t2
        exact ⟨_, _, rfl, h0, h1⟩
     have hra2 := s2 _ _ hra
     refine iteF ⟨_, rfl, _, rfl, ra, _, _, v0, rfl, rfl, SqL.of hra2, atI_nat (j := 0) rfl, p, ds, dl, S, v0, m2, d0, rfl, N.net.same s2, N.okP, p0.same s2, by omega, fun H3 s3 => ⟨_, rfl, ?_⟩⟩
     have s23 := s2.trans s3
     have hra3 := s3 _ _ hra2
     have ekv3 := s3 _ _ ekv
     cases e0 : isPlD S.pl d0 with
     | false =>
      refine iteT (iteT (bad s23 ?_))
      cases d0 <;> cases d1 <;> first | rfl | skip
      rename_i y i
      have hy : y ∉ S.pl := of_decide_eq_false e0
      show (if y ∈ S.pl then some (y, i) else none) = none
      rw [if_neg hy]
     | true =>
      obtain ⟨y, rfl, hy⟩ : ∃ y, d0 = .str y ∧ y ∈ S.pl := by
       cases d0 <;> first | (cases e0; done) | exact ⟨_, rfl, of_decide_eq_true e0⟩
      obtain ⟨y', ev0, ey'⟩ := p0.str_of rfl
      cases ey'
      subst ev0
      refine iteF ⟨_, rfl, ra, _, _, v1, rfl, rfl, SqL.of hra3, atI_nat (j := 1) rfl, v1, m2, d1, rfl, p1.same s23, _, rfl, ?_⟩
      cases e1 : isI d1 with
      | false =>
       refine iteT (iteT (bad s23 ?_))
       cases d1 <;> first | rfl | cases e1
      | true =>
       obtain ⟨k, rfl⟩ : ∃ k, d1 = .int k := by cases d1 <;> first | (cases e1; done) | exact ⟨_, rfl⟩
       have ev1 := p1.int_of
       subst ev1
       have erow : priceRow S.pl (.list [.str y, .int k]) = some (y, k) := by
        show (if y ∈ S.pl then some (y, k) else none) = _
        rw [if_pos hy]
       refine iteF ⟨_, rfl, ra, _, _, .str y, rfl, rfl, SqL.of hra3, atI_nat (j := 0) rfl, _, rfl, dp, _, rfl, DGet.k (k := Sum.inr y) ekv3, _, rfl, ?_⟩
       rw [pr_val, Option.isSome_map, pr_in]
       by_cases hin : y ∈ kv.map (·.1)
       ·rw [decide_eq_true hin]
        exact iteT (q1 _ s23 (hpr.trans (prices_dup erow hin)))
       ·rw [decide_eq_false hin]
        have hnone : valV (prKV kv) (Sum.inr y : Key) = none := by
         have : prO kv y = none := by
          have h0 := pr_in (kv := kv) (x := y)
          rw [decide_eq_false hin] at h0
          exact Option.isSome_eq_false_iff.mp h0 |> Option.isNone_iff_eq_none.mp
         rw [pr_val, this]
         rfl
        refine iteF ⟨_, rfl, ra, _, _, .int k, rfl, rfl, SqL.of hra3, atI_nat (j := 1) rfl, _, rfl, _, rfl, ra, _, _, .str y, rfl, rfl, SqL.of hra3, atI_nat (j := 0) rfl, dp, _, rfl, DPut.k (k := Sum.inr y) ekv3 (small1000 (by unfold prKV; rw [List.length_map]; omega)), ?_⟩
        rw [putK_new _ hnone]
        refine ⟨kv ++ [(y, k)], _, rfl, fun b ob z => ?_, ?_, by rw [List.length_append, hk]; rfl, hpr.trans (prices_go erow hin)⟩
        ·rw [upd_ne (ne_of_none z hdp)]
         exact s23 _ _ z
        ·rw [upd_same]
         unfold prKV
         rw [List.map_append]
         rfl
   ·obtain ⟨kv, o, rfl, s2, ekv, hk, hpr⟩ := h
    rw [hxl, List.drop_length] at hpr
    exact ⟨_, rfl, q2 dp kv H' s2 ekv hpr⟩
end
end Net
namespace Net
open PySem L2
section
variable {P : Program} {w : World} {K : PySem.W.Frag} {mg : Str → Option Value} {base : Heap} {C : Addr}
abbrev Nkeep : List Str := ["net", "prices", "dead", "name", "begin", "end", "width", "cost"]
theorem sc_keep : FnScope Nkeep ["net", "prices", "dead"] (defScope s_ties_keep_prices) := ⟨rfl, rfl, rfl, by decide +kernel, rfl, by decide +kernel, by decide +kernel⟩
theorem ok_keep {f : Addr} {fd : FuncData} (F : Fun K "ties_keep_prices" "ties_keep_prices" s_ties_keep_prices f fd) (T : Txt K mg C) (m2 : CanM P w K mg base 1 C "ties" ["self"] (spTies C)) : FnOk P w K mg base CX0 2 f fd ["net", "prices", "dead"] (spKeep C) := by
 refine F.ok sc_keep (fun vs H Q E h => ?_) (fun cdv A outer s H vs Q E hr h => ?_)
 ·obtain ⟨p, ds, dl, dp, l, S, kv, dead, rfl, _⟩ := h
  rfl
 ·obtain ⟨p, ds, dl, dp, l, S, kv, dead, rfl, N, hdp, hl, q⟩ := h
  have hu := hu_of hr
  refine ⟨_, (pss_cons (ps_for PassesOwn.never rfl (pi_list (pe_methC0 (pv 0) T.cl m2 hr)) (pg_tup rfl (pgs_cons (pg_name (i := 3) sc_keep.nd rfl (Or.inl rfl)) (pgs_cons (pg_name (i := 4) sc_keep.nd rfl (Or.inl rfl)) (pgs_cons (pg_name (i := 5) sc_keep.nd rfl (Or.inl rfl)) (pgs_cons (pg_name (i := 6) sc_keep.nd rfl (Or.inl rfl)) (pgs_cons (pg_name (i := 7) sc_keep.nd rfl (Or.inl rfl)) pgs_nil))))))
     (pss_cutE (ps_if (PW.pt (pw_and (pt_cmpR op_in_seq (pv 4) (pv 2) (by with_unfolding_all rfl)) (pw_and1 (pt_cmpR op_notIn_seq (pv 5) (pv 2) (by with_unfolding_all rfl))))) (pss_one (ps_ret pe_bl)) pss_nil)
   (pss_one (ps_if (PW.pt (pw_and (pt_cmp (pc_din hu (pv 4) (pv 1))) (pw_and1 (pt_cmpR op_notIn_seq (pv 5) (pv 2) (by with_unfolding_all rfl)))))
       (pss_one (ps_if (PW.pt (pw_or (pt_cmp (pc_dnotin hu (pv 5) (pv 1))) (pw_or1 (pt_cmpR op_gt (pe_dget hu (pv 1) (pv 5) (fun _ _ => rfl)) (pe_op op_add (pe_dget hu (pv 1) (pv 4) (fun _ _ => rfl)) (pv 7)) (nomark _))))) (pss_one (ps_ret pe_bl)) pss_nil)) pss_nil))))
   (pss_one (ps_ret pe_bl))), ?_⟩
  have fin : ∀ {H' : Hp} {b : Bool}, Same H H' → S.ti.all (keepRow kv dead) = b → Q (.bl b) H' := fun {H' b} s e => by
   have := q H' s
   rw [e] at this
   exact this
  obtain ⟨dx, h1⟩ := N.net.ob
  refine ⟨_, rfl, p, dx, _, rfl, h1, flds_no ds dl (by decide +kernel) (by decide +kernel), p, ds, dl, S, rfl, N.net, fun tl H1 L htl s1 RL etl => ⟨tl, rfl, ⟨_, SqL.of etl⟩, ?_⟩⟩
  have RL1 := RL.same s1
  have hl1 := s1 _ _ hl
  have hdp1 := s1 _ _ hdp
  have hL : L.length = S.ti.length := by rw [← RL.1, List.length_map]
  refine for_list (K := K) (a := tl) (xs := L.map fun q => V.ref q.2) (fun j σ' H' => H' = H1 ∧ (S.ti.take j).all (keepRow kv dead) = true ∧ ∃ o3 o4 o5 o6 o7, σ' = [some (.ref p), some (.ref dp), some (.ref l), o3, o4, o5, o6, o7])
   ⟨rfl, rfl, _, _, _, _, _, rfl⟩ (fun j σ' H' _ h => by rw [h.1]; exact SqL.of etl) (fun j y σ' H' hy h => ?_) (fun σ' H' h => ?_)
  ·obtain ⟨rfl, hj, o3, o4, o5, o6, o7, rfl⟩ := h
   rw [List.getElem?_map] at hy
   cases eq : L[j]? with
   | none => rw [eq] at hy; cases hy
   | some qq =>
    rw [eq] at hy
    cases hy
    have ht := RL1.2 qq (List.mem_of_getElem? eq)
    have er : S.ti[j]? = some qq.1 := by rw [← RL.1, List.getElem?_map, eq]; rfl
    have nx : keepRow kv dead qq.1 = true → (S.ti.take (j + 1)).all (keepRow kv dead) = true := fun h => by
     rw [List.take_add_one, er, List.all_append, hj]
     show (true && (keepRow kv dead qq.1 && true)) = true
     rw [h]
     rfl
    have bad : keepRow kv dead qq.1 = false → S.ti.all (keepRow kv dead) = false := fun h => by
     rw [Bool.eq_false_iff]
     intro z
     have := List.all_eq_true.mp z _ (List.mem_of_getElem? er)
     rw [h] at this
     cases this
    refine ⟨qq.2, _, rfl, SqT.of ht, rfl, _, _, rfl, _, _, rfl, _, _, rfl, _, _, rfl, _, _, rfl, rfl, ?_⟩
    have e5 : ∀ b, (decide (qq.1.a ∈ dead) && !decide (qq.1.b ∈ dead)) = false → keepTail kv dead qq.1 = b → keepRow kv dead qq.1 = b := fun b h1 h2 => by
     unfold keepRow
     rw [h1, h2]
     rfl
    refine ⟨fun σ2 H2 => H2 = H' ∧ σ2 = [some (.ref p), some (.ref dp), some (.ref l), some (.str qq.1.nm), some (.str qq.1.a), some (.str qq.1.b), some (.int qq.1.w), some (.int qq.1.c)] ∧ (decide (qq.1.a ∈ dead) && !decide (qq.1.b ∈ dead)) = false, ?_, ?_⟩
    ·refine ⟨_, rfl, _, rfl, l, dead.map V.str, rfl, .inl (SqL.of hl1), rfl, flat_strs _, _, rfl, ?_⟩
     show if (if false = true then !inV (.str qq.1.a) (dead.map V.str) else inV (.str qq.1.a) (dead.map V.str)) = true then _ else _
     rw [if_neg Bool.false_ne_true, inV_str]
     by_cases ha : qq.1.a ∈ dead
     ·rw [decide_eq_true ha]
      refine iteT ⟨_, rfl, _, rfl, l, dead.map V.str, rfl, .inl (SqL.of hl1), rfl, flat_strs _, _, rfl, ?_⟩
      show if (if true = true then !inV (.str qq.1.b) (dead.map V.str) else inV (.str qq.1.b) (dead.map V.str)) = true then _ else _
      rw [if_pos rfl, inV_str]
      by_cases hb : qq.1.b ∈ dead
      ·rw [decide_eq_true hb]
       exact iteF ⟨rfl, rfl, rfl⟩
      ·rw [decide_eq_false hb]
       refine iteT (fin s1 (bad ?_))
       unfold keepRow
       rw [decide_eq_true ha, decide_eq_false hb]
       rfl
     ·rw [decide_eq_false ha]
      exact iteF (iteF ⟨rfl, rfl, rfl⟩)
    rintro σ2 H2 ⟨rfl, rfl, hfst⟩
    refine ⟨_, rfl, _, rfl, dp, _, rfl, DGet.k (k := Sum.inr qq.1.a) hdp1, _, rfl, ?_⟩
    rw [pr_val, Option.isSome_map]
    cases ea : prO kv qq.1.a with
    | none => exact iteF (iteF ⟨rfl, nx (e5 true hfst (by unfold keepTail; rw [ea])), _, _, _, _, _, rfl⟩)
    | some pa =>
     refine iteT ⟨_, rfl, _, rfl, l, dead.map V.str, rfl, .inl (SqL.of hl1), rfl, flat_strs _, _, rfl, ?_⟩
     show if (if true = true then !inV (.str qq.1.b) (dead.map V.str) else inV (.str qq.1.b) (dead.map V.str)) = true then _ else _
     rw [if_pos rfl, inV_str]
     by_cases hb : qq.1.b ∈ dead
     ·rw [decide_eq_true hb]
      exact iteF ⟨rfl, nx (e5 true hfst (by unfold keepTail; rw [ea, decide_eq_true hb]; rfl)), _, _, _, _, _, rfl⟩
     ·rw [decide_eq_false hb]
      refine iteT ⟨_, rfl, _, rfl, dp, _, rfl, DGet.k (k := Sum.inr qq.1.b) hdp1, _, rfl, ?_⟩
      rw [pr_val, Option.isSome_map]
      cases eb : prO kv qq.1.b with
      | none => exact iteT (iteT (fin s1 (bad (e5 false hfst (by unfold keepTail; rw [ea, eb, decide_eq_false hb]; rfl)))))
      | some pb =>
       have vb : valV (prKV kv) (Sum.inr qq.1.b : Key) = some (.int pb) := by rw [pr_val, eb]; rfl
       have va : valV (prKV kv) (Sum.inr qq.1.a : Key) = some (.int pa) := by rw [pr_val, ea]; rfl
       refine iteF ⟨_, rfl, _, rfl, dp, .int pb, rfl, by rw [← vb]; exact DGet.k (k := Sum.inr qq.1.b) hdp1, _, rfl, _, rfl, dp, .int pa, rfl, by rw [← va]; exact DGet.k (k := Sum.inr qq.1.a) hdp1, _, rfl, _, _, rfl, rfl, _, _, rfl, rfl, _, rfl, ?_⟩
       show if decide (pa + qq.1.c < pb) = true then _ else _
       by_cases hlt : pa + qq.1.c < pb
       ·rw [decide_eq_true hlt]
        refine iteT (fin s1 (bad (e5 false hfst ?_)))
        unfold keepTail
        rw [ea, eb, decide_eq_false hb]
        exact decide_eq_false (by omega)
       ·rw [decide_eq_false hlt]
        refine iteF ⟨rfl, nx (e5 true hfst ?_), _, _, _, _, _, rfl⟩
        unfold keepTail
        rw [ea, eb, decide_eq_false hb]
        exact decide_eq_true (by omega)
  ·obtain ⟨rfl, hj, o3, o4, o5, o6, o7, rfl⟩ := h
   have hT : (L.map fun q => V.ref q.2).length = S.ti.length := by rw [List.length_map, hL]
   rw [hT, List.take_length] at hj
   exact fin s1 hj
end
end Net
namespace Net
open PySem L2
theorem nmF_str {d : PyData} {r : Row} (h : nmF d r = true) : d = .str r.nm := by
 unfold nmF at h
 cases e : isS d with
 | false => rw [eqvN _ e] at h; cases h
 | true =>
  obtain ⟨x, rfl⟩ : ∃ x, d = .str x := by cases d <;> first | exact ⟨_, rfl⟩ | cases e
  rw [eqvS] at h
  rw [of_decide_eq_true h]
theorem row_of_head {ti : List Row} {x : Str} {r : Row} (h : rowF ti (.str x) = some r) : rowOf ti x = some r := by
 unfold rowF at h
 rw [head_find] at h
 have : (nmF (.str x)) = fun r : Row => decide (r.nm = x) := funext fun r => eqvS _ _
 rw [this] at h
 exact h
theorem cost_snoc {ti : List Row} {us : List Str} {x : Str} {r : Row} (h : rowOf ti x = some r) : costOf ti (us ++ [x]) = costOf ti us + r.c := by
 unfold costOf
 rw [List.map_append, List.sum_append]
 show _ + (((rowOf ti x).map (·.c)).getD 0 + 0) = _
 rw [h, Int.add_zero]
 rfl
section
variable {P : Program} {w : World} {K : PySem.W.Frag} {mg : Str → Option Value} {base : Heap} {C : Addr}
end
end Net
namespace Net
open PySem L2
structure LS where
 p : Str → Option Int
 b : Str → Option Row
def lowR (s : LS) (r : Row) : Bool := match s.p r.a with
 | none => false
 | some x => match s.p r.b with
  | none => true
  | some y => decide (x + r.c < y)
def putR (s : LS) (r : Row) : LS := ⟨fun v => if v = r.b then (s.p r.a).map (· + r.c) else s.p v, fun v => if v = r.b then some r else s.b v⟩
def goR (q : LS × Option Str) (r : Row) : LS × Option Str := if lowR q.1 r = true then (putR q.1 r, some r.b) else q
def roundR (rows : List Row) (s : LS) : LS × Option Str := rows.foldl goR (s, none)
def roundsR (rows : List Row) : Nat → LS → LS × Option Str
 | 0, s => (s, none)
 | k + 1, s => roundR rows (roundsR rows k s).1
def Settled (s : LS) (r : Row) : Prop := ∀ y, s.p r.a = some y → ∃ x, s.p r.b = some x ∧ x ≤ y + r.c
theorem low_not {s : LS} {r : Row} (h : lowR s r = false) : Settled s r := fun y e => by
 unfold lowR at h
 rw [e] at h
 cases e2 : s.p r.b with
 | none => rw [e2] at h; cases h
 | some x =>
  rw [e2] at h
  have : ¬ y + r.c < x := of_decide_eq_false h
  exact ⟨x, rfl, by omega⟩
theorem low_yes {s : LS} {r : Row} (h : lowR s r = true) : ∃ x, s.p r.a = some x ∧ ∀ y, s.p r.b = some y → x + r.c < y := by
 unfold lowR at h
 cases e : s.p r.a with
 | none => rw [e] at h; cases h
 | some x =>
  rw [e] at h
  refine ⟨x, rfl, fun y ey => ?_⟩
  rw [ey] at h
  exact of_decide_eq_true h
theorem low_uns {s : LS} {r : Row} (h : lowR s r = true) : ¬ Settled s r := fun st => by
 obtain ⟨x, e, hy⟩ := low_yes h
 obtain ⟨y, e2, h2⟩ := st x e
 have := hy y e2
 omega
structure LI (rows done todo : List Row) (k now : Nat) (s0 s : LS) (late : Option Str) (lr tau : Str → Nat) : Prop where
 bk : ∀ v r, s.b v = some r → r ∈ rows ∧ r.b = v ∧ ∃ x y, s.p v = some x ∧ s.p r.a = some y ∧ y + r.c ≤ x ∧ (tau v < tau r.a → y + r.c < x)
 bn : ∀ v, s.b v = none → lr v = 0 ∧ s.p v = s0.p v
 b1 : ∀ v r, s.b v = some r → 1 ≤ lr v ∧ 1 ≤ tau v ∧ lr v ≤ lr r.a + 1
 le : ∀ v, lr v ≤ k ∧ tau v ≤ now
 tj : ∀ v w, tau v = tau w → 1 ≤ tau v → v = w
 dn : ∀ r ∈ done, Settled s r ∨ lr r.a = k
 td : ∀ r ∈ todo, 2 ≤ k → Settled s r ∨ k ≤ lr r.a + 1
 lt : ∀ v, late = some v → lr v = k ∧ s.b v ≠ none
 mo : ∀ v x, s0.p v = some x → ∃ y, s.p v = some y ∧ y ≤ x
def setF (f : Str → Nat) (v : Str) (n : Nat) : Str → Nat := fun w => if w = v then n else f w
theorem setF_eq {f : Str → Nat} {v : Str} {n : Nat} : setF f v n v = n := by unfold setF; rw [if_pos rfl]
theorem setF_ne {f : Str → Nat} {v w : Str} {n : Nat} (h : w ≠ v) : setF f v n w = f w := by unfold setF; rw [if_neg h]
theorem put_p_eq {s : LS} {r : Row} {x : Int} (e : s.p r.a = some x) : (putR s r).p r.b = some (x + r.c) := by
 show (if r.b = r.b then (s.p r.a).map (· + r.c) else s.p r.b) = _
 rw [if_pos rfl, e]
 rfl
theorem put_p_ne {s : LS} {r : Row} {v : Str} (h : v ≠ r.b) : (putR s r).p v = s.p v := by
 show (if v = r.b then (s.p r.a).map (· + r.c) else s.p v) = _
 rw [if_neg h]
theorem put_b_eq {s : LS} {r : Row} : (putR s r).b r.b = some r := by
 show (if r.b = r.b then some r else s.b r.b) = _
 rw [if_pos rfl]
theorem put_b_ne {s : LS} {r : Row} {v : Str} (h : v ≠ r.b) : (putR s r).b v = s.b v := by
 show (if v = r.b then some r else s.b v) = _
 rw [if_neg h]
theorem settled_put {s : LS} {r q : Row} (h : lowR s r = true) (hq : q.a ≠ r.b) (st : Settled s q) : Settled (putR s r) q := fun y e => by
 rw [put_p_ne hq] at e
 obtain ⟨x, e2, h2⟩ := st y e
 obtain ⟨z, ez, hz⟩ := low_yes h
 by_cases hb : q.b = r.b
 ·rw [hb] at e2 ⊢
  have := hz x e2
  exact ⟨_, put_p_eq ez, by omega⟩
 ·exact ⟨x, by rw [put_p_ne hb]; exact e2, h2⟩
theorem LI.go {rows done todo : List Row} {k now : Nat} {s0 s : LS} {late : Option Str} {lr tau : Str → Nat} {r : Row} (I : LI rows done (r :: todo) k now s0 s late lr tau) (hk : 1 ≤ k) (hr : r ∈ rows) (hne : r.a ≠ r.b) :
  ∃ lr' tau', LI rows (r :: done) todo k (now + 1) s0 (goR (s, late) r).1 (goR (s, late) r).2 lr' tau' := by
 unfold goR
 cases hl : lowR s r with
 | false =>
  rw [if_neg Bool.false_ne_true]
  refine ⟨lr, tau, I.bk, I.bn, I.b1, fun v => ⟨(I.le v).1, Nat.le_succ_of_le (I.le v).2⟩, I.tj, fun q hq => ?_, fun q hq => I.td q (List.mem_cons_of_mem _ hq), I.lt, I.mo⟩
  rcases List.mem_cons.mp hq with rfl | hq
  ·exact .inl (low_not hl)
  ·exact I.dn q hq
 | true =>
  rw [if_pos rfl]
  obtain ⟨x, ex, hx⟩ := low_yes hl
  refine ⟨setF lr r.b k, setF tau r.b (now + 1), ?_⟩
  have hra : ∀ f n, setF f r.b n r.a = f r.a := fun f n => setF_ne hne
  refine ⟨fun v q e => ?_, fun v e => ?_, fun v q e => ?_, fun v => ?_, fun v w e h1 => ?_, fun q hq => ?_, fun q hq h2 => ?_, fun v e => ?_, fun v y e => ?_⟩
  ·by_cases hv : v = r.b
   ·subst hv
    rw [put_b_eq] at e
    cases e
    refine ⟨hr, rfl, x + r.c, x, put_p_eq ex, by rw [put_p_ne hne]; exact ex, Int.le_refl _, fun z => ?_⟩
    rw [setF_eq, hra] at z
    have := (I.le r.a).2
    omega
   ·rw [put_b_ne hv] at e
    obtain ⟨h1, h2, u, y, eu, ey, hle, hs⟩ := I.bk v q e
    by_cases hq : q.a = r.b
    ·have := hx y (by rw [← hq]; exact ey)
     exact ⟨h1, h2, u, x + r.c, by rw [put_p_ne hv]; exact eu, by rw [hq]; exact put_p_eq ex, by omega, fun _ => by omega⟩
    ·refine ⟨h1, h2, u, y, by rw [put_p_ne hv]; exact eu, by rw [put_p_ne hq]; exact ey, hle, fun z => hs ?_⟩
     rw [setF_ne hv, setF_ne hq] at z
     exact z
  ·have hv : v ≠ r.b := fun z => by rw [z, put_b_eq] at e; cases e
   rw [put_b_ne hv] at e
   rw [setF_ne hv, put_p_ne hv]
   exact I.bn v e
  ·by_cases hv : v = r.b
   ·subst hv
    rw [put_b_eq] at e
    cases e
    rw [setF_eq, setF_eq, hra]
    refine ⟨hk, Nat.succ_le_succ (Nat.zero_le _), ?_⟩
    by_cases h2 : 2 ≤ k
    ·exact (I.td r List.mem_cons_self h2).resolve_left (low_uns hl)
    ·omega
   ·rw [put_b_ne hv] at e
    obtain ⟨h1, h2, h3⟩ := I.b1 v q e
    rw [setF_ne hv, setF_ne hv]
    refine ⟨h1, h2, ?_⟩
    by_cases hq : q.a = r.b
    ·rw [hq, setF_eq]
     have := (I.le v).1
     omega
    ·rw [setF_ne hq]
     exact h3
  ·by_cases hv : v = r.b
   ·subst hv
    rw [setF_eq, setF_eq]
    exact ⟨Nat.le_refl _, Nat.le_refl _⟩
   ·rw [setF_ne hv, setF_ne hv]
    exact ⟨(I.le v).1, Nat.le_succ_of_le (I.le v).2⟩
  ·have l1 := (I.le v).2
   have l2 := (I.le w).2
   by_cases hv : v = r.b
   ·by_cases hw : w = r.b
    ·rw [hv, hw]
    ·rw [hv, setF_eq, setF_ne hw] at e
     omega
   ·by_cases hw : w = r.b
    ·rw [hw, setF_eq, setF_ne hv] at e
     omega
    ·rw [setF_ne hv, setF_ne hw] at e
     rw [setF_ne hv] at h1
     exact I.tj v w e h1
  ·rcases List.mem_cons.mp hq with rfl | hq
   ·refine .inl fun y e => ?_
    rw [put_p_ne hne, ex] at e
    cases e
    exact ⟨_, put_p_eq ex, Int.le_refl _⟩
   ·by_cases ha : q.a = r.b
    ·rw [ha, setF_eq]
     exact .inr rfl
    ·rw [setF_ne ha]
     exact (I.dn q hq).imp (settled_put hl ha) id
  ·by_cases ha : q.a = r.b
   ·rw [ha, setF_eq]
    exact .inr (Nat.le_succ _)
   ·rw [setF_ne ha]
    exact (I.td q (List.mem_cons_of_mem _ hq) h2).imp (settled_put hl ha) id
  ·cases e
   rw [setF_eq, put_b_eq]
   exact ⟨rfl, fun z => nomatch z⟩
  ·obtain ⟨z, ez, hz⟩ := I.mo v y e
   by_cases hv : v = r.b
   ·subst hv
    have := hx z ez
    exact ⟨_, put_p_eq ex, by omega⟩
   ·exact ⟨z, by rw [put_p_ne hv]; exact ez, hz⟩
theorem LI.all {rows : List Row} {k : Nat} {s0 : LS} (hk : 1 ≤ k) (hne : ∀ r ∈ rows, r.a ≠ r.b) : ∀ (todo done : List Row) {now : Nat} {s : LS} {late : Option Str} {lr tau : Str → Nat}, (∀ r ∈ todo, r ∈ rows) → LI rows done todo k now s0 s late lr tau →
  ∃ now' lr' tau', LI rows (todo.reverse ++ done) [] k now' s0 (todo.foldl goR (s, late)).1 (todo.foldl goR (s, late)).2 lr' tau'
 | [], done, now, s, late, lr, tau, _, I => ⟨now, lr, tau, I⟩
 | r :: t, done, now, s, late, lr, tau, h, I => by
  obtain ⟨lr', tau', I'⟩ := I.go hk (h r List.mem_cons_self) (hne r (h r List.mem_cons_self))
  obtain ⟨n2, l2, t2, I2⟩ := LI.all hk hne t (r :: done) (fun q hq => h q (List.mem_cons_of_mem _ hq)) I'
  rw [List.foldl_cons, List.reverse_cons, List.append_assoc]
  exact ⟨n2, l2, t2, I2⟩
theorem LI.rounds {rows : List Row} {s0 : LS} (h0 : ∀ v, s0.b v = none) (hne : ∀ r ∈ rows, r.a ≠ r.b) : ∀ k, 1 ≤ k → ∃ now lr tau, LI rows rows [] k now s0 (roundsR rows k s0).1 (roundsR rows k s0).2 lr tau
 | 0, h => absurd h (by decide)
 | 1, _ => by
  have I : LI rows [] rows 1 0 s0 s0 none (fun _ => 0) (fun _ => 0) := ⟨fun v r e => (by rw [h0] at e; cases e), fun v _ => ⟨rfl, rfl⟩, fun v r e => (by rw [h0] at e; cases e), fun v => ⟨Nat.zero_le _, Nat.le_refl _⟩, fun _ _ _ h => absurd h (by decide), fun _ h => (nomatch h), fun _ _ h => absurd h (by decide), fun _ h => (nomatch h), fun v x e => ⟨x, e, Int.le_refl _⟩⟩
  obtain ⟨n, l, t, I'⟩ := LI.all (Nat.le_refl _) hne rows [] (fun _ h => h) I
  refine ⟨n, l, t, ?_⟩
  have hd : ∀ q ∈ rows, Settled (rows.foldl goR (s0, none)).1 q ∨ l q.a = 1 := fun q hq => I'.dn q (List.mem_append_left _ (List.mem_reverse.mpr hq))
  exact ⟨I'.bk, I'.bn, I'.b1, I'.le, I'.tj, hd, fun _ h => (nomatch h), I'.lt, I'.mo⟩
 | k + 2, _ => by
  obtain ⟨n, l, t, I⟩ := LI.rounds h0 hne (k + 1) (Nat.succ_le_succ (Nat.zero_le _))
  have I1 : LI rows [] rows (k + 2) n s0 (roundsR rows (k + 1) s0).1 none l t := ⟨I.bk, I.bn, I.b1, fun v => ⟨Nat.le_succ_of_le (I.le v).1, (I.le v).2⟩, I.tj, fun _ h => (nomatch h), fun q hq _ => (I.dn q hq).imp id fun e => by omega, fun _ h => (nomatch h), I.mo⟩
  obtain ⟨n', l', t', I'⟩ := LI.all (Nat.succ_le_succ (Nat.zero_le _)) hne rows [] (fun _ h => h) I1
  refine ⟨n', l', t', ?_⟩
  have hd : ∀ q ∈ rows, Settled (roundsR rows (k + 2) s0).1 q ∨ l' q.a = k + 2 := fun q hq => I'.dn q (List.mem_append_left _ (List.mem_reverse.mpr hq))
  exact ⟨I'.bk, I'.bn, I'.b1, I'.le, I'.tj, hd, fun _ h => (nomatch h), I'.lt, I'.mo⟩
theorem still_fold : ∀ (rows : List Row) {s : LS} {v : Option Str}, (rows.foldl goR (s, v)).2 = none → v = none ∧ (rows.foldl goR (s, v)).1 = s ∧ ∀ r ∈ rows, lowR s r = false
 | [], s, v, h => ⟨h, rfl, fun _ h => nomatch h⟩
 | r :: t, s, v, h => by
  rw [List.foldl_cons] at h ⊢
  cases hl : lowR s r with
  | true =>
   have e : goR (s, v) r = (putR s r, some r.b) := by unfold goR; rw [if_pos hl]
   rw [e] at h
   exact absurd (still_fold t h).1 (by simp)
  | false =>
   have e : goR (s, v) r = (s, v) := by unfold goR; rw [if_neg (by rw [hl]; exact Bool.false_ne_true)]
   rw [e] at h ⊢
   obtain ⟨h1, h2, h3⟩ := still_fold t h
   refine ⟨h1, h2, fun q hq => ?_⟩
   rcases List.mem_cons.mp hq with rfl | hq
   ·exact hl
   ·exact h3 q hq
def rowB (s : LS) (v : Str) : Row := (s.b v).getD ⟨"", "", "", 0, 0⟩
def preB (s : LS) (v : Str) : Str := (rowB s v).a
def itB (s : LS) : Nat → Str → Str
 | 0, v => v
 | i + 1, v => preB s (itB s i v)
theorem rowB_some {s : LS} {v : Str} {r : Row} (h : s.b v = some r) : rowB s v = r := by unfold rowB; rw [h]; rfl
theorem itB_add (s : LS) (v : Str) (i : Nat) : ∀ j, itB s (i + j) v = itB s j (itB s i v)
 | 0 => rfl
 | j + 1 => by
  show preB s (itB s (i + j) v) = preB s (itB s j (itB s i v))
  rw [itB_add s v i j]
theorem it_rep {s : LS} {v : Str} {i j : Nat} (h : itB s i v = itB s j v) (t : Nat) : itB s (i + t) v = itB s (j + t) v := by
 rw [itB_add, itB_add, h]
theorem php {α : Type} [DecidableEq α] (f : Nat → α) (A : List α) (h : ∀ i, i ≤ A.length → f i ∈ A) : ∃ i j, i < j ∧ j ≤ A.length ∧ f i = f j := by
 refine Classical.byContradiction fun hn => ?_
 have nd : ((List.range (A.length + 1)).map f).Nodup := by
  unfold List.Nodup
  rw [List.pairwise_map]
  refine List.Pairwise.imp_of_mem (fun {i j} hi hj hlt e => hn ⟨i, j, hlt, ?_, e⟩) List.pairwise_lt_range
  have := List.mem_range.mp hj
  omega
 have := nodup_len nd (m := A) fun x hx => by
  obtain ⟨i, hi, rfl⟩ := List.mem_map.mp hx
  have := List.mem_range.mp hi
  exact h i (by omega)
 rw [List.length_map, List.length_range] at this
 omega
theorem never_ends {rows : List Row} {A : List Str} {s0 s : LS} {v : Str} {now : Nat} {lr tau : Str → Nat} (I : LI rows rows [] A.length now s0 s (some v) lr tau) (hA : ∀ r ∈ rows, r.a ∈ A ∧ r.b ∈ A) : ∀ i, s.b (itB s i v) ≠ none := by
 have hv := I.lt v rfl
 have step : ∀ u, s.b u ≠ none → ∃ r, s.b u = some r ∧ preB s u = r.a ∧ lr u ≤ lr (preB s u) + 1 ∧ u ∈ A ∧ preB s u ∈ A := fun u hu => by
  cases e : s.b u with
  | none => exact absurd e hu
  | some r =>
   have hp : preB s u = r.a := by unfold preB; rw [rowB_some e]
   obtain ⟨h1, h2, _⟩ := I.bk u r e
   refine ⟨r, rfl, hp, by rw [hp]; exact (I.b1 u r e).2.2, by rw [← h2]; exact (hA r h1).2, by rw [hp]; exact (hA r h1).1⟩
 have far : ∀ i, i < A.length → s.b (itB s i v) ≠ none ∧ A.length - i ≤ lr (itB s i v) := fun i => by
  induction i with
  | zero => exact fun _ => ⟨hv.2, by rw [show itB s 0 v = v from rfl, hv.1]; omega⟩
  | succ i ih =>
   intro hi
   obtain ⟨h1, h2⟩ := ih (by omega)
   obtain ⟨r, e, hp, h3, _⟩ := step _ h1
   have hl : A.length - (i + 1) ≤ lr (itB s (i + 1) v) := by
    show _ ≤ lr (preB s (itB s i v))
    omega
   refine ⟨fun z => ?_, hl⟩
   have := (I.bn _ z).1
   omega
 have inA : ∀ i, i ≤ A.length → itB s i v ∈ A := fun i hi => by
  cases i with
  | zero =>
   obtain ⟨r, _, _, _, h, _⟩ := step v hv.2
   exact h
  | succ i =>
   obtain ⟨r, _, _, _, _, h⟩ := step _ (far i (by omega)).1
   exact h
 obtain ⟨x, y, hxy, hy, e⟩ := php (fun i => itB s i v) A inA
 intro i
 induction i using Nat.strongRecOn with
 | ind i ih =>
  by_cases hi : i < A.length
  ·exact (far i hi).1
  ·have h := it_rep e (i - y)
   have e1 : y + (i - y) = i := by omega
   rw [e1] at h
   rw [← h]
   exact ih _ (by omega)
theorem on_ring {s : LS} {v : Str} {ks : List Str} (hk : ∀ x, s.b x ≠ none → x ∈ ks) (hn : ∀ i, s.b (itB s i v) ≠ none) : ∃ d, 1 ≤ d ∧ d ≤ ks.length ∧ itB s d (itB s ks.length v) = itB s ks.length v := by
 obtain ⟨x, y, hxy, hy, e⟩ := php (fun i => itB s i v) ks fun i _ => hk _ (hn i)
 refine ⟨y - x, by omega, by omega, ?_⟩
 have h := it_rep e (ks.length - x)
 have e1 : x + (ks.length - x) = ks.length := by omega
 have e2 : y + (ks.length - x) = ks.length + (y - x) := by omega
 rw [e1, e2, itB_add] at h
 exact h.symm
def backL (s : LS) (v : Str) (i : Nat) : List Str := ((List.range i).map fun j => (rowB s (itB s j v)).nm).reverse
theorem backL_succ (s : LS) (v : Str) (i : Nat) : backL s v (i + 1) = (rowB s (itB s i v)).nm :: backL s v i := by
 unfold backL
 rw [List.range_succ, List.map_append, List.reverse_append]
 rfl
theorem cost_cons {ti : List Row} {x : Str} {us : List Str} {r : Row} (h : rowOf ti x = some r) : costOf ti (x :: us) = r.c + costOf ti us := by
 unfold costOf
 rw [List.map_cons, List.sum_cons, h]
 rfl
theorem rowOf_nd {ti : List Row} (nd : (ti.map (·.nm)).Nodup) : ∀ {r : Row}, r ∈ ti → rowOf ti r.nm = some r := by
 induction ti with
 | nil => exact fun h => nomatch h
 | cons q t ih =>
  intro r hr
  unfold rowOf
  rw [List.map_cons, List.nodup_cons] at nd
  rcases List.mem_cons.mp hr with rfl | hr
  ·rw [List.find?_cons_of_pos (by simp)]
  ·rw [List.find?_cons_of_neg (by
    have : q.nm ≠ r.nm := fun z => nd.1 (List.mem_map.mpr ⟨r, hr, z.symm⟩)
    simpa using this)]
   exact ih nd.2 hr
theorem back_cost {ti rows done todo : List Row} {k now : Nat} {s0 s : LS} {late : Option Str} {lr tau : Str → Nat} (I : LI rows done todo k now s0 s late lr tau) (nd : (ti.map (·.nm)).Nodup) (hsub : ∀ r ∈ rows, r ∈ ti) {v : Str} : ∀ i, (∀ j, j < i + 1 → s.b (itB s j v) ≠ none) →
  ∃ x y, s.p v = some x ∧ s.p (itB s (i + 1) v) = some y ∧ y + costOf ti (backL s v (i + 1)) ≤ x ∧ (y + costOf ti (backL s v (i + 1)) < x ∨ (tau (itB s (i + 1) v) ≤ tau (itB s 1 v) ∧ tau (itB s 1 v) ≤ tau v))
 | 0, h => by
  cases e : s.b v with
  | none => exact absurd e (h 0 (Nat.lt_succ_self _))
  | some r =>
   obtain ⟨h1, _, x, y, ex, ey, hle, hs⟩ := I.bk v r e
   have ep : itB s 1 v = r.a := by show preB s v = _; unfold preB; rw [rowB_some e]
   have ec : costOf ti (backL s v 1) = r.c := by
    rw [backL_succ, show itB s 0 v = v from rfl, rowB_some e, cost_cons (rowOf_nd nd (hsub r h1))]
    show r.c + 0 = r.c
    omega
   refine ⟨x, y, ex, by rw [ep]; exact ey, by rw [ec]; exact hle, ?_⟩
   rw [ep, ec]
   by_cases ht : tau v < tau r.a
   ·exact .inl (hs ht)
   ·exact .inr ⟨Nat.le_refl _, by omega⟩
 | i + 1, h => by
  obtain ⟨x, y, ex, ey, hle, hs⟩ := back_cost I nd hsub i fun j hj => h j (Nat.lt_succ_of_lt hj)
  cases e : s.b (itB s (i + 1) v) with
  | none => exact absurd e (h (i + 1) (Nat.lt_succ_self _))
  | some r =>
   obtain ⟨h1, _, x2, y2, ex2, ey2, hle2, hs2⟩ := I.bk _ r e
   have ep : itB s (i + 1 + 1) v = r.a := by show preB s (itB s (i + 1) v) = _; unfold preB; rw [rowB_some e]
   rw [ey] at ex2
   cases ex2
   have ec : costOf ti (backL s v (i + 1 + 1)) = r.c + costOf ti (backL s v (i + 1)) := by
    rw [backL_succ, rowB_some e, cost_cons (rowOf_nd nd (hsub r h1))]
   refine ⟨x, y2, ex, by rw [ep]; exact ey2, by rw [ec]; omega, ?_⟩
   rw [ep, ec]
   rcases hs with hs | hs
   ·exact .inl (by omega)
   ·by_cases ht : tau (itB s (i + 1) v) < tau r.a
    ·have := hs2 ht
     exact .inl (by omega)
    ·exact .inr ⟨by omega, hs.2⟩
theorem ring_neg {ti rows done todo : List Row} {k now : Nat} {s0 s : LS} {late : Option Str} {lr tau : Str → Nat} (I : LI rows done todo k now s0 s late lr tau) (nd : (ti.map (·.nm)).Nodup) (hsub : ∀ r ∈ rows, r ∈ ti) (hne : ∀ r ∈ rows, r.a ≠ r.b) {v : Str} {d : Nat} (hd : 1 ≤ d) (h : ∀ j, j < d → s.b (itB s j v) ≠ none) (e : itB s d v = v) :
  costOf ti (backL s v d) < 0 := by
 obtain ⟨i, rfl⟩ : ∃ i, d = i + 1 := ⟨d - 1, by omega⟩
 obtain ⟨x, y, ex, ey, hle, hs⟩ := back_cost I nd hsub i h
 rw [e, ex] at ey
 cases ey
 rcases hs with hs | ⟨h1, h2⟩
 ·omega
 ·rw [e] at h1
  have ht : tau v = tau (itB s 1 v) := by omega
  cases eb : s.b v with
  | none => exact absurd eb (h 0 (by omega))
  | some r =>
   have ep : itB s 1 v = r.a := by show preB s v = _; unfold preB; rw [rowB_some eb]
   have := I.tj v _ ht (I.b1 v r eb).2.1
   obtain ⟨q1, q2, _⟩ := I.bk v r eb
   rw [ep] at this
   exact absurd (this.symm.trans q2.symm) (hne r q1)
end Net
namespace L2
open PySem PySem.Spec PyProof.Rows
def CBig (i j : Int) : Prop := i.natAbs < 2 ^ 3000 ∧ j.natAbs < 2 ^ 3000
theorem bits_big {i : Int} (h : i.natAbs < 2 ^ 3000) : Builtin.Int.intBits i ≤ 3000 := by
 unfold Builtin.Int.intBits
 by_cases e : (i == 0) = true
 ·rw [if_pos e]; exact Nat.zero_le _
 ·rw [if_neg e]
  have hn : i.natAbs ≠ 0 := fun z => e (by simpa using z)
  exact (Nat.log2_lt hn).mpr h
theorem CBig.ok {i j : Int} (h : CBig i j) : IntMulOk i j := by
 have h1 := bits_big h.1
 have h2 := bits_big h.2
 unfold IntMulOk
 have hz : Builtin.Int.intTooBig (Builtin.Int.intBits i + Builtin.Int.intBits j) = false := by
  unfold Builtin.Int.intTooBig
  refine decide_eq_false fun z => ?_
  have hb : (10000 : Int) ≤ bitsLine := by decide
  omega
 rw [hz, Bool.and_false]
 exact Bool.false_ne_true
theorem op_mulG {X : Cx} : OpR X (binaryOp .Mult) (rI CBig fun i j => .int (i * j)) := opI fun _ _ _ _ _ _ _ hc q => mul_int q hc.ok
end L2
namespace Net
open PySem L2
def LenD (d : PyData) : Prop := ∀ e, d = .list e → e.length ≤ 1000
def strD (ti : List Row) (here : Str) : PyData → Option (Str × Int)
 | .list [d0, .int t] => if t < 1 then none else match endOf ti here d0 with
  | none => none
  | some e => if 1 < t ∧ ¬ e = here then none else some (e, costD ti d0 * t)
 | _ => none
def walkD (ti : List Row) : List PyData → Str → Int → Option (Str × Int)
 | [], here, c => some (here, c)
 | d :: ds, here, c => match strD ti here d with
  | none => none
  | some q => walkD ti ds q.1 (c + q.2)
def costOkD (ti : List Row) (a b : Str) (k : Int) : PyData → Bool
 | .list ds => match walkD ti ds a 0 with
  | none => false
  | some q => decide (q.1 = b) && decide (q.2 ≤ k)
 | _ => false
def StrOk (d : PyData) : Prop := LenD d ∧ ∀ ds, d = .list ds → ∀ x ∈ ds, ∀ d0 d1, x = .list [d0, d1] → LenD d0 ∧ ∀ t, d1 = .int t → t.natAbs ≤ 10 ^ 100
theorem strD_pair {ti : List Row} {here : Str} {d : PyData} (h : isPair d = false) : strD ti here d = none := by
 unfold strD
 split
 ·cases h
 ·rfl
theorem strD_int {ti : List Row} {here : Str} {d0 d1 : PyData} (h : isI d1 = false) : strD ti here (.list [d0, d1]) = none := by
 cases d1 <;> first | (cases h; done) | rfl
theorem end_stD {ti : List Row} {a x : Str} {d : PyData} (h : endOf ti a d = some x) : ∃ ws : List Str, d = .list (ws.map PyData.str) ∧ ∀ y ∈ ws, y ∈ ti.map (·.nm) := by
 cases d with
 | list ds =>
  rw [endOf_list] at h
  cases e : stD ti a ds with
  | none => rw [e] at h; cases h
  | some l =>
   obtain ⟨ws, rfl, hw⟩ := walk_names e
   exact ⟨ws, rfl, hw⟩
 | _ => cases h
theorem costD_list (ti : List Row) (ws : List Str) : costD ti (.list (ws.map PyData.str)) = costOf ti ws := by
 unfold costD
 have : namesOf (.list (ws.map PyData.str)) = some ws := strsOf_map _
 rw [this]
theorem cost_b52 {ti : List Row} (h : ∀ r ∈ ti, -(10 ^ 52) ≤ r.c ∧ r.c ≤ 10 ^ 52) : ∀ ws : List Str, (costOf ti ws).natAbs ≤ ws.length * 10 ^ 52
 | [] => by show (0 : Int).natAbs ≤ _; exact Nat.zero_le _
 | x :: ws => by
  have ih := cost_b52 h ws
  have e : costOf ti (x :: ws) = ((rowOf ti x).map fun r : Row => r.c).getD 0 + costOf ti ws := by
   unfold costOf
   rw [List.map_cons, List.sum_cons]
  have h1 : (((rowOf ti x).map fun r : Row => r.c).getD 0).natAbs ≤ 10 ^ 52 := by
   cases er : rowOf ti x with
   | none => exact Nat.zero_le _
   | some r =>
    have := h r (List.mem_of_find?_eq_some er)
    show r.c.natAbs ≤ 10 ^ 52
    omega
  rw [e, List.length_cons, Nat.succ_mul]
  have := Int.natAbs_add_le (((rowOf ti x).map fun r : Row => r.c).getD 0) (costOf ti ws)
  omega
def spSEnd (C : Addr) : Sp := fun vs H Q _ => ∃ (p ds dl : Addr) (S : NS) (here : Str) (v : V) (n : Nat) (d : PyData), vs = [.ref p, .str here, v] ∧ NetS C H p ds dl S ∧ here ∈ S.pl ∧ PD H n v d ∧ (∀ d0 d1, d = .list [d0, d1] → LenD d0) ∧
 ∀ H', Same H H' → Q (optV ((strD S.ti here d).map (·.1))) H'
def CoAt (H : Hp) (t : Addr) (a b : Str) (k : Int) : Prop := H t = some (.tup [.str "cost", .str a, .str b, .int k])
def spSCost (C : Addr) : Sp := fun vs H Q _ => ∃ (p ds dl ct : Addr) (S : NS) (a b : Str) (k : Int) (v : V) (n : Nat) (d : PyData), vs = [.ref p, .ref ct, v] ∧ NetS C H p ds dl S ∧ (∀ r ∈ S.ti, -(10 ^ 52) ≤ r.c ∧ r.c ≤ 10 ^ 52) ∧ CoAt H ct a b k ∧ a ∈ S.pl ∧ PD H n v d ∧ StrOk d ∧
 ∀ H', Same H H' → Q (.bl (costOkD S.ti a b k d)) H'
section
variable {P : Program} {w : World} {K : PySem.W.Frag} {mg : Str → Option Value} {base : Heap} {C : Addr}
abbrev Nsend : List Str := ["net", "here", "stretch", "end"]
theorem sc_send : FnScope Nsend ["net", "here", "stretch"] (defScope s_stretch_end) := ⟨rfl, rfl, rfl, by decide +kernel, rfl, by decide +kernel, by decide +kernel⟩
theorem ok_send {f : Addr} {fd : FuncData} (F : Fun K "stretch_end" "stretch_end" s_stretch_end f fd) (cp : Can P w K mg base 2 "is_pair" ["paper"] spPairD) (cw : Can P w K mg base 1 "is_whole" ["thing"] spWholeD) (ce : Can P w K mg base 4 "walk_end" ["net", "a", "paper"] (spEnd C)) :
  FnOk P w K mg base CX0 5 f fd ["net", "here", "stretch"] (spSEnd C) := by
 refine F.ok sc_send (fun vs H Q E h => ?_) (fun cdv A outer s H vs Q E hr h => ?_)
 ·obtain ⟨p, ds, dl, S, here, v, n, d, rfl, _⟩ := h
  rfl
 ·obtain ⟨p, ds, dl, S, here, v, n, d, rfl, N, hh, pd, hlen, q⟩ := h
  have r1 : Room 1 _ := hr.mono (by decide)
  refine ⟨_, (pss_cons (ps_if (PW.pt (pw_or (pt_not (pt_val (pe_callC cp (hr.mono (by decide)) (by rfl) (pa_cons (pv 2) pa_nil)))) (pw_or (pt_not (pt_val (pe_callC cw r1 (by rfl) (pa_cons (pe_ix ix_list (pv 2) pe_int (fun _ _ => by rfl)) pa_nil)))) (pw_or1 (pt_cmpR op_lt (pe_ix ix_list (pv 2) pe_int (fun _ _ => by rfl)) pe_int (nomark _)))))) (pss_one (ps_ret pe_non)) pss_nil)
   (pss_cons (ps_set (i := 3) sc_send.nd rfl (Or.inl rfl) (pe_callC ce hr (by rfl) (pa_cons (pv 0) (pa_cons (pv 1) (pa_cons (pe_ix ix_list (pv 2) pe_int (fun _ _ => by rfl)) pa_nil)))))
   (pss_cons (ps_if (PW.pt (pw_and (pt_cmpR op_gt (pe_ix ix_list (pv 2) pe_int (fun _ _ => by rfl)) pe_int (nomark _)) (pw_and1 (pt_cmpR op_ne (pv 3) (pv 1) (nomark _))))) (pss_one (ps_ret pe_non)) pss_nil)
   (pss_one (ps_ret (pv 3)))))), ?_⟩
  have none_of : ∀ {H' : Hp}, Same H H' → strD S.ti here d = none → Q .non H' := fun {H'} s e => by
   have := q H' s
   rw [e] at this
   exact this
  refine ⟨_, rfl, v, n, d, rfl, pd, _, rfl, ?_⟩
  cases ep : isPair d with
  | false => exact iteT (none_of (Same.refl H) (strD_pair ep))
  | true =>
   obtain ⟨d0, d1, rfl⟩ := isPair_of ep
   obtain ⟨m, a, xs, rfl, rfl, ha, pr⟩ := pd.list_of
   cases pr with
   | @cons v0 _ xs1 _ p0 pr1 =>
   cases pr1 with
   | @cons v1 _ xs2 _ p1 pr2 =>
   cases pr2
   refine iteF ⟨_, rfl, a, _, _, v1, rfl, rfl, SqL.of ha, atI_nat (j := 1) rfl, v1, m, d1, rfl, p1, _, rfl, ?_⟩
   cases ei : isI d1 with
   | false => exact iteT (none_of (Same.refl H) (strD_int ei))
   | true =>
    obtain ⟨t, rfl⟩ : ∃ t, d1 = .int t := by cases d1 <;> first | exact ⟨_, rfl⟩ | cases ei
    have ev1 := p1.int_of
    subst ev1
    refine iteF ⟨_, rfl, a, _, _, .int t, rfl, rfl, SqL.of ha, atI_nat (j := 1) rfl, _, _, rfl, rfl, _, rfl, ?_⟩
    by_cases ht : t < 1
    ·refine iteTb (decide_eq_true ht) (none_of (Same.refl H) ?_)
     show (if t < 1 then none else _) = none
     rw [if_pos ht]
    ·refine iteFb (decide_eq_false ht) ?_
     refine ⟨_, rfl, _, rfl, _, rfl, a, _, _, v0, rfl, rfl, SqL.of ha, atI_nat (j := 0) rfl, p, ds, dl, S, here, v0, m, d0, rfl, N.w, hh, p0, hlen d0 _ rfl, fun H1 s1 => ?_⟩
     have ha1 := s1 _ _ ha
     have es : strD S.ti here (.list [d0, .int t]) = match endOf S.ti here d0 with
       | none => none
       | some e => if 1 < t ∧ ¬ e = here then none else some (e, costD S.ti d0 * t) := by
      show (if t < 1 then none else _) = _
      rw [if_neg ht]
     refine ⟨_, rfl, a, _, _, .int t, rfl, rfl, SqL.of ha1, atI_nat (j := 1) rfl, _, _, rfl, rfl, _, rfl, ?_⟩
     show if decide ((1 : Int) < t) = true then _ else _
     cases ee : endOf S.ti here d0 with
     | none =>
      rw [ee] at es
      by_cases h1 : 1 < t
      ·refine iteTb (decide_eq_true h1) ⟨_, rfl, _, rfl, rfl, _, rfl, iteTb (by rfl) (none_of s1 es)⟩
      ·exact iteFb (decide_eq_false h1) (iteF ⟨_, rfl, none_of s1 es⟩)
     | some x =>
      rw [ee] at es
      by_cases h1 : 1 < t
      ·refine iteTb (decide_eq_true h1) ⟨_, rfl, _, rfl, rfl, _, rfl, ?_⟩
       show if (!decide (V.str x = V.str here)) = true then _ else _
       by_cases h2 : x = here
       ·subst h2
        have es' : strD S.ti x (.list [d0, .int t]) = some (x, costD S.ti d0 * t) := by rw [es]; exact if_neg (fun z => z.2 rfl)
        have := q H1 s1
        rw [es'] at this
        exact iteFb (by simp) ⟨_, rfl, this⟩
       ·have es' : strD S.ti here (.list [d0, .int t]) = none := by rw [es]; exact if_pos ⟨h1, h2⟩
        exact iteTb (by rw [decide_eq_false (fun z => h2 (V.str.inj z))]; rfl) (none_of s1 es')
      ·have es' : strD S.ti here (.list [d0, .int t]) = some (x, costD S.ti d0 * t) := by rw [es]; exact if_neg (fun z => h1 z.1)
       have := q H1 s1
       rw [es'] at this
       exact iteFb (decide_eq_false h1) (iteF ⟨_, rfl, this⟩)
abbrev Nscost : List Str := ["net", "claim", "paper", "here", "cost", "stretch", "end"]
theorem sc_scost : FnScope Nscost ["net", "claim", "paper"] (defScope s_shows_cost) := ⟨rfl, rfl, rfl, by decide +kernel, rfl, by decide +kernel, by decide +kernel⟩
theorem ok_scost {f : Addr} {fd : FuncData} (F : Fun K "shows_cost" "shows_cost" s_shows_cost f fd) (T : Txt K mg C) (ce : Can P w K mg base 5 "stretch_end" ["net", "here", "stretch"] (spSEnd C)) (cc : Can P w K mg base 3 "walk_cost" ["net", "walk"] (spWCost C)) :
  FnOk P w K mg base CX0 6 f fd ["net", "claim", "paper"] (spSCost C) := by
 refine F.ok sc_scost (fun vs H Q E h => ?_) (fun cdv A outer s H vs Q E hr h => ?_)
 ·obtain ⟨p, ds, dl, ct, S, a, b, k, v, n, d, rfl, _⟩ := h
  rfl
 ·obtain ⟨p, ds, dl, ct, S, a, b, k, v, n, d, rfl, N, bc, hct, ha, pd, ⟨hlen, hst⟩, q⟩ := h
  have r3 : Room 3 _ := hr.mono (by decide)
  refine ⟨_, (pss_cons (ps_if (pt_not (pt_val (pe_callB call_isinst (by rfl) T.isi b_isi (pa_cons (pv 2) (pa_cons (pe_ty T.list (by rfl) b_list) pa_nil))))) (pss_one (ps_ret pe_bl)) pss_nil)
   (pss_cons (ps_set (i := 3) sc_scost.nd rfl (Or.inl rfl) (pe_ix ix_tup (pv 1) pe_int (fun _ _ => by rfl)))
   (pss_cons (ps_set (i := 4) sc_scost.nd rfl (Or.inl rfl) pe_int)
   (pss_cons (ps_for PassesOwn.never rfl (pi_list (pv 2)) (pg_name (i := 5) sc_scost.nd rfl (Or.inl rfl))
    (pss_cons (ps_set (i := 6) sc_scost.nd rfl (Or.inl rfl) (pe_callC ce hr (by rfl) (pa_cons (pv 0) (pa_cons (pv 3) (pa_cons (pv 5) pa_nil)))))
   (pss_cons (ps_if (pt_cmp (pc_isN (pv 6))) (pss_one (ps_ret pe_bl)) pss_nil)
   (pss_cons (ps_aug (i := 4) sc_scost.nd rfl (Or.inl rfl) (pe_op op_mulG (pe_callC cc r3 (by rfl) (pa_cons (pv 0) (pa_cons (pe_ix ix_list (pv 5) pe_int (fun _ _ => by rfl)) pa_nil))) (pe_ix ix_list (pv 5) pe_int (fun _ _ => by rfl))) ip_add)
   (pss_one (ps_set (i := 3) sc_scost.nd rfl (Or.inl rfl) (pv 6)))))))
   (pss_one (ps_ret (pe_and (pe_cmpR op_eq (pv 3) (pe_ix ix_tup (pv 1) pe_int (fun _ _ => by rfl)) (nomark _)) (pe_one (pe_cmpR op_le (pv 4) (pe_ix ix_tup (pv 1) pe_int (fun _ _ => by rfl)) (nomark _)))))))))), ?_⟩
  obtain ⟨t, ty, kl, _⟩ := PD.ty (K := K) pd
  refine ⟨_, rfl, v, "list", t, isL d, rfl, ty, kl, _, rfl, ?_⟩
  have fin : ∀ {H' : Hp} {x : Bool}, Same H H' → costOkD S.ti a b k d = x → Q (.bl x) H' := fun {H' x} s e => by
   have := q H' s
   rw [e] at this
   exact this
  cases el : isL d with
  | false =>
   refine iteT (fin (Same.refl H) ?_)
   cases d <;> first | (cases el; done) | rfl
  | true =>
   obtain ⟨es, rfl⟩ : ∃ e, d = .list e := by cases d <;> first | exact ⟨_, rfl⟩ | cases el
   obtain ⟨m, l, xs, rfl, rfl, hl, pr⟩ := pd.list_of
   have hct' : H ct = some (.tup [.str "cost", .str a, .str b, .int k]) := hct
   refine iteF ⟨_, rfl, ct, _, _, .str a, rfl, rfl, SqT.of hct', rfl, ?_⟩
   have hxl : xs.length = es.length := Paired.length pr
   refine ⟨_, rfl, l, rfl, ⟨_, SqL.of hl⟩, for_list (K := K) (a := l) (xs := xs) (fun i σ' H' => ∃ (here : Str) (c : Int) (o5 o6 : Option V), σ' = [some (.ref p), some (.ref ct), some (.ref l), some (.str here), some (.int c), o5, o6] ∧ Same H H' ∧ here ∈ S.pl ∧ walkD S.ti es a 0 = walkD S.ti (es.drop i) here c)
    ⟨a, 0, _, _, rfl, Same.refl H, ha, by rw [List.drop_zero]⟩ (fun i σ' H' _ h => ?_) (fun i x σ' H' hx h => ?_) (fun σ' H' h => ?_)⟩
   ·obtain ⟨_, _, _, _, _, s1, _⟩ := h
    exact SqL.of (s1 _ _ hl)
   ·obtain ⟨here, c, o5, o6, rfl, s1, hh, hw⟩ := h
    obtain ⟨dx, edx, pdx⟩ := pair_get pr hx
    have hi : i < es.length := (List.getElem?_eq_some_iff.mp edx).1
    have hdrop : es.drop i = dx :: es.drop (i + 1) := by
     rw [List.drop_eq_getElem_cons hi]
     have := (List.getElem?_eq_some_iff.mp edx).2
     rw [this]
    rw [hdrop] at hw
    have hdx := List.mem_of_getElem? edx
    refine ⟨_, rfl, _, rfl, _, rfl, p, ds, dl, S, here, x, m, dx, rfl, N.same s1, hh, pdx.same s1, fun d0 d1 e => (hst es rfl dx hdx d0 d1 e).1, fun H2 s2 => ?_⟩
    have s02 := s1.trans s2
    cases es' : strD S.ti here dx with
    | none =>
     refine ⟨_, rfl, _, rfl, iteTb (by rfl) (fin s02 ?_)⟩
     show (match walkD S.ti es a 0 with | none => false | some q => decide (q.1 = b) && decide (q.2 ≤ k)) = false
     rw [hw]
     show (match (match strD S.ti here dx with | none => none | some q => walkD S.ti (es.drop (i + 1)) q.1 (c + q.2)) with | none => false | some q => decide (q.1 = b) && decide (q.2 ≤ k)) = false
     rw [es']
    | some qq =>
     refine ⟨_, rfl, _, rfl, iteFb (by rfl) ?_⟩
     have hpair : isPair dx = true := by
      cases ez : isPair dx with
      | true => rfl
      | false => rw [strD_pair ez] at es'; cases es'
     obtain ⟨d0, d1, rfl⟩ := isPair_of hpair
     have hint : isI d1 = true := by
      cases ez : isI d1 with
      | true => rfl
      | false => rw [strD_int ez] at es'; cases es'
     obtain ⟨t, rfl⟩ : ∃ t, d1 = .int t := by cases d1 <;> first | exact ⟨_, rfl⟩ | cases hint
     obtain ⟨hl0, ht⟩ := hst es rfl _ hdx d0 (.int t) rfl
     have htb := ht t rfl
     have es2 : (if t < 1 then none else match endOf S.ti here d0 with
       | none => none
       | some e => if 1 < t ∧ ¬ e = here then none else some (e, costD S.ti d0 * t)) = some qq := es'
     by_cases ht1 : t < 1
     ·rw [if_pos ht1] at es2; cases es2
     rw [if_neg ht1] at es2
     cases ee : endOf S.ti here d0 with
     | none => rw [ee] at es2; cases es2
     | some x' =>
      rw [ee] at es2
      have es3 : (if 1 < t ∧ ¬ x' = here then none else some (x', costD S.ti d0 * t)) = some qq := es2
      by_cases hc : 1 < t ∧ ¬ x' = here
      ·rw [if_pos hc] at es3; cases es3
      rw [if_neg hc] at es3
      cases es3
      obtain ⟨ws, rfl, hws⟩ := end_stD ee
      have hx'pl : x' ∈ S.pl := end_in (fun r hr => (N.okT r hr).2.2) hh ee
      obtain ⟨m2, ax, ys, em, rfl, hax, pr2⟩ := pdx.list_of
      subst em
      cases pr2 with
      | @cons v0 _ ys1 _ p0 pr3 =>
      cases pr3 with
      | @cons v1 _ ys2 _ p1 pr4 =>
      cases pr4
      have ev1 := p1.int_of
      subst ev1
      obtain ⟨m3, al, zs, em3, rfl, hal, pr5⟩ := p0.list_of
      have hzs := pd_strs pr5
      subst hzs
      have hwl : ws.length ≤ 1000 := by
       have := hl0 _ rfl
       rw [List.length_map] at this
       exact this
      have hb := cost_b52 bc ws
      have hbig : (1000 * 10 ^ 52 : Nat) < 2 ^ 3000 := by decide +kernel
      have hbig2 : (10 ^ 100 : Nat) < 2 ^ 3000 := by decide +kernel
      have hb2 : ws.length * 10 ^ 52 ≤ 1000 * 10 ^ 52 := Nat.mul_le_mul_right _ hwl
      refine ⟨_, rfl, _, rfl, _, rfl, ax, _, _, .ref al, rfl, rfl, SqL.of (s02 _ _ hax), atI_nat (j := 0) rfl, p, ds, dl, al, S, ws, rfl, (N.same s02).w, s02 _ _ hal, hws, hwl, fun H3 s3 => ?_⟩
      have s03 := s02.trans s3
      refine ⟨_, rfl, ax, _, _, .int t, rfl, rfl, SqL.of (s03 _ _ hax), atI_nat (j := 1) rfl, _, _, rfl, rfl, ⟨by omega, by omega⟩, _, _, rfl, rfl, ?_⟩
      refine ⟨_, rfl, x', c + costOf S.ti ws * t, _, _, rfl, s03, hx'pl, ?_⟩
      rw [hw]
      show (match strD S.ti here (.list [.list (ws.map PyData.str), .int t]) with | none => none | some q => walkD S.ti (es.drop (i + 1)) q.1 (c + q.2)) = _
      rw [es', costD_list]
   ·obtain ⟨here, c, o5, o6, rfl, s1, hh, hw⟩ := h
    rw [hxl, List.drop_length] at hw
    have hw' : walkD S.ti es a 0 = some (here, c) := hw
    have ect := s1 _ _ hct'
    have e0 : costOkD S.ti a b k (.list es) = (decide (here = b) && decide (c ≤ k)) := by
     show (match walkD S.ti es a 0 with | none => false | some q => decide (q.1 = b) && decide (q.2 ≤ k)) = _
     rw [hw']
    refine ⟨_, rfl, _, rfl, ct, _, _, .str b, rfl, rfl, SqT.of ect, rfl, rfl, _, rfl, ?_⟩
    show if decide (V.str here = V.str b) = true then _ else _
    by_cases hb : here = b
    ·refine iteTb (decide_eq_true (by rw [hb])) ⟨_, rfl, _, rfl, ct, _, _, .int k, rfl, rfl, SqT.of ect, rfl, _, _, rfl, rfl, fin s1 ?_⟩
     rw [e0, decide_eq_true hb]
     rfl
    ·refine iteFb (decide_eq_false fun z => hb (V.str.inj z)) (fin s1 ?_)
     rw [e0, decide_eq_false hb]
     rfl
end
end Net
namespace Net
open PySem L2
def aboveK (kv : List (Str × Int)) (a b : Str) (k : Int) : Bool := match prO kv a, prO kv b with
 | some x, some y => decide (x + k < y)
 | _, _ => true
def noCostK (S : NS) (a b : Str) (k : Int) (kv : List (Str × Int)) (ws : List Str) : Bool :=
 !(ws.any fun x => (prO kv x).isSome) && (((prO kv a).isSome || decide (a ∈ ws)) && (!decide (b ∈ ws) && (S.ti.all (keepRow kv ws) && aboveK kv a b k)))
def noCostD (S : NS) (a b : Str) (k : Int) (d : PyData) : Bool := match d with
 | .list [d0, d1] => match pricesP S.pl d0 with
  | none => false
  | some kv => unlikeD S.pl d1 && (match namesOf d1 with
   | none => false
   | some ws => noCostK S a b k kv ws)
 | _ => false
theorem noCost_pair {S : NS} {a b : Str} {k : Int} {d : PyData} (h : isPair d = false) : noCostD S a b k d = false := by
 unfold noCostD
 split
 ·cases h
 ·rfl
def lookC (S : NS) (a b : Str) (k : Int) (so : Bool) (d : PyData) : Bool := if so then costOkD S.ti a b k d else noCostD S a b k d
def PairLen (d : PyData) : Prop := ∀ d0 d1, d = .list [d0, d1] → LenD d0 ∧ LenD d1
def spAbove : Sp := fun vs H Q _ => ∃ (dp ct : Addr) (kv : List (Str × Int)) (a b : Str) (k : Int), vs = [.ref dp, .ref ct] ∧ H dp = some (.dK (prKV kv)) ∧ CoAt H ct a b k ∧ Q (.bl (aboveK kv a b k)) H
def spSNoCost (C : Addr) : Sp := fun vs H Q _ => ∃ (p ds dl ct : Addr) (S : NS) (a b : Str) (k : Int) (v : V) (n : Nat) (d : PyData), vs = [.ref p, .ref ct, v] ∧ NetS C H p ds dl S ∧ CoAt H ct a b k ∧ PD H n v d ∧ n ≤ 50 ∧ PairLen d ∧ ∀ H', Same H H' → Q (.bl (noCostD S a b k d)) H'
def spLookC (C : Addr) : Sp := fun vs H Q _ => ∃ (p ds dl ct : Addr) (S : NS) (a b : Str) (k : Int) (so : Bool) (v : V) (n : Nat) (d : PyData), vs = [.ref p, .ref ct, .bl so, v] ∧ NetS C H p ds dl S ∧ (∀ r ∈ S.ti, -(10 ^ 52) ≤ r.c ∧ r.c ≤ 10 ^ 52) ∧ CoAt H ct a b k ∧ a ∈ S.pl ∧ PD H n v d ∧ n ≤ 50 ∧ StrOk d ∧ PairLen d ∧
 ∀ H', Same H H' → Q (.bl (lookC S a b k so d)) H'
theorem b_any : bootBuiltins "any" = some (.builtin "any") := by decide +kernel
theorem c_ccw : decide (V.str "cost" = V.str "way") = false := by decide +kernel
theorem c_ccc : decide (V.str "cost" = V.str "cost") = true := by decide +kernel
theorem any_bl {α : Type} (f : α → Bool) (l : List α) : (l.map f).any id = l.any f := by
 rw [List.any_map]
 rfl
section
variable {P : Program} {w : World} {K : PySem.W.Frag} {mg : Str → Option Value} {base : Heap} {C : Addr}
theorem sc_above : FnScope ["prices", "claim"] ["prices", "claim"] (defScope s_is_priced_above) := ⟨rfl, rfl, rfl, by decide +kernel, rfl, by decide +kernel, by decide +kernel⟩
theorem ok_above {f : Addr} {fd : FuncData} (F : Fun K "is_priced_above" "is_priced_above" s_is_priced_above f fd) : FnOk P w K mg base CX0 1 f fd ["prices", "claim"] spAbove := by
 refine F.ok sc_above (fun vs H Q E h => ?_) (fun cdv A outer s H vs Q E hr h => ?_)
 ·obtain ⟨dp, ct, kv, a, b, k, rfl, _⟩ := h
  rfl
 ·obtain ⟨dp, ct, kv, a, b, k, rfl, ed, hct, q⟩ := h
  have hu := hu_of hr
  refine ⟨_, (pss_cons (ps_if (PW.pt (pw_or (pt_cmp (pc_dnotin hu (pe_ix ix_tup (pv 1) pe_int (fun _ _ => by rfl)) (pv 0))) (pw_or1 (pt_cmp (pc_dnotin hu (pe_ix ix_tup (pv 1) pe_int (fun _ _ => by rfl)) (pv 0)))))) (pss_one (ps_ret pe_bl)) pss_nil)
   (pss_one (ps_ret (pe_cmpR op_gt (pe_dget hu (pv 0) (pe_ix ix_tup (pv 1) pe_int (fun _ _ => by rfl)) (fun _ _ => rfl)) (pe_op op_add (pe_dget hu (pv 0) (pe_ix ix_tup (pv 1) pe_int (fun _ _ => by rfl)) (fun _ _ => rfl)) (pe_ix ix_tup (pv 1) pe_int (fun _ _ => by rfl))) (nomark _))))), ?_⟩
  have hct' : H ct = some (.tup [.str "cost", .str a, .str b, .int k]) := hct
  refine ⟨_, rfl, ct, _, _, .str a, rfl, rfl, SqT.of hct', rfl, _, rfl, dp, _, rfl, DGet.k (k := Sum.inr a) ed, _, rfl, ?_⟩
  rw [pr_val, Option.isSome_map]
  unfold aboveK at q
  cases ea : prO kv a with
  | none =>
   rw [ea] at q
   exact iteT q
  | some x =>
   rw [ea] at q
   refine iteF ⟨_, rfl, ct, _, _, .str b, rfl, rfl, SqT.of hct', rfl, _, rfl, dp, _, rfl, DGet.k (k := Sum.inr b) ed, _, rfl, ?_⟩
   rw [pr_val, Option.isSome_map]
   cases eb : prO kv b with
   | none =>
    rw [eb] at q
    exact iteT q
   | some y =>
    rw [eb] at q
    have va : valV (prKV kv) (Sum.inr a : Key) = some (.int x) := by rw [pr_val, ea]; rfl
    have vb : valV (prKV kv) (Sum.inr b : Key) = some (.int y) := by rw [pr_val, eb]; rfl
    exact iteF ⟨_, rfl, _, rfl, ct, _, _, .str b, rfl, rfl, SqT.of hct', rfl, dp, _, rfl, by rw [← vb]; exact DGet.k (k := Sum.inr b) ed, _, rfl, _, rfl, ct, _, _, .str a, rfl, rfl, SqT.of hct', rfl, dp, _, rfl, by rw [← va]; exact DGet.k (k := Sum.inr a) ed, _, rfl, ct, _, _, .int k, rfl, rfl, SqT.of hct', rfl, _, _, rfl, rfl, _, _, rfl, rfl, q⟩
abbrev Nsnocost : List Str := ["net", "claim", "paper", "prices", "dead"]
theorem sc_snocost : FnScope Nsnocost ["net", "claim", "paper"] (defScope s_shows_no_cost) := ⟨rfl, rfl, rfl, by decide +kernel, rfl, by decide +kernel, by decide +kernel⟩
theorem ok_snocost {f : Addr} {fd : FuncData} (F : Fun K "shows_no_cost" "shows_no_cost" s_shows_no_cost f fd) (hany : mg "any" = none) (cp : Can P w K mg base 2 "is_pair" ["paper"] spPairD) (cr : Can P w K mg base 3 "prices_of" ["net", "paper"] (spPrices C)) (cu : Can P w K mg base 3 "are_unlike_places" ["net", "paper"] (spUnlikeD C))
  (ck : Can P w K mg base 2 "ties_keep_prices" ["net", "prices", "dead"] (spKeep C)) (ca : Can P w K mg base 1 "is_priced_above" ["prices", "claim"] spAbove) : FnOk P w K mg base CX0 4 f fd ["net", "claim", "paper"] (spSNoCost C) := by
 refine F.ok sc_snocost (fun vs H Q E h => ?_) (fun cdv A outer s H vs Q E hr h => ?_)
 ·obtain ⟨p, ds, dl, ct, S, a, b, k, v, n, d, rfl, _⟩ := h
  rfl
 ·obtain ⟨p, ds, dl, ct, S, a, b, k, v, n, d, rfl, N, hct, pd, n50, hpl, q⟩ := h
  have hu := hu_of hr
  have r1 : Room 1 _ := hr.mono (by decide)
  have r2 : Room 2 _ := hr.mono (by decide)
  have nd2 : List.Nodup (["place", "prices"] : List Str) := by decide +kernel
  refine ⟨_, (pss_cons (ps_if (pt_not (pt_val (pe_callC cp (hr.mono (by decide)) (by rfl) (pa_cons (pv 2) pa_nil)))) (pss_one (ps_ret pe_bl)) pss_nil)
   (pss_cons (ps_set (i := 3) sc_snocost.nd rfl (Or.inr rfl) (pe_callC cr hr (by rfl) (pa_cons (pv 0) (pa_cons (pe_ix ix_list (pv 2) pe_int (fun _ _ => by rfl)) pa_nil))))
   (pss_cons (ps_set (i := 4) sc_snocost.nd rfl (Or.inl rfl) (pe_ix ix_list (pv 2) pe_int (fun _ _ => by rfl)))
   (pss_cons (ps_if (PW.pt (pw_or (pt_cmp (pc_isN (pv 3))) (pw_or (pt_not (pt_val (pe_callC cu hr (by rfl) (pa_cons (pv 0) (pa_cons (pv 4) pa_nil))))) (pw_or1 (pt_val (pe_callB (call_any rfl) (by rfl) hany b_any (pa_cons (pe_comp (N := ["place", "prices"]) (xs := 1) (js := [3]) rfl (compScope_of rfl) (pi_list (pv 4)) (fun _ _ _ _ => pg_name (i := 0) nd2 rfl (Or.inl rfl)) (fun _ _ _ _ => pts_nil) (fun _ _ _ _ => pe_cmp (pc_din hu (pv 0) (pv 1)))) pa_nil))))))) (pss_one (ps_ret pe_bl)) pss_nil)
   (pss_cutE (ps_if (PW.pt (pw_and (pt_cmp (pc_dnotin hu (pe_ix ix_tup (pv 1) pe_int (fun _ _ => by rfl)) (pv 3))) (pw_and1 (pt_cmpR op_notIn_seq (pe_ix ix_tup (pv 1) pe_int (fun _ _ => by rfl)) (pv 4) (by with_unfolding_all rfl))))) (pss_one (ps_ret pe_bl)) pss_nil)
   (pss_one (ps_ret (pe_and (pe_cmpR op_notIn_seq (pe_ix ix_tup (pv 1) pe_int (fun _ _ => by rfl)) (pv 4) (by with_unfolding_all rfl)) (pe_and (pe_callC ck r2 (by rfl) (pa_cons (pv 0) (pa_cons (pv 3) (pa_cons (pv 4) pa_nil)))) (pe_one (pe_callC ca r1 (by rfl) (pa_cons (pv 3) (pa_cons (pv 1) pa_nil))))))))))))), ?_⟩
  have fin : ∀ {H' : Hp} {x : Bool}, Same H H' → noCostD S a b k d = x → Q (.bl x) H' := fun {H' x} s e => by
   have := q H' s
   rw [e] at this
   exact this
  have hct' : H ct = some (.tup [.str "cost", .str a, .str b, .int k]) := hct
  refine ⟨_, rfl, v, n, d, rfl, pd, _, rfl, ?_⟩
  cases ep : isPair d with
  | false => exact iteT (fin (Same.refl H) (noCost_pair ep))
  | true =>
   obtain ⟨d0, d1, rfl⟩ := isPair_of ep
   obtain ⟨hl0, hl1⟩ := hpl d0 d1 rfl
   obtain ⟨m, ax, xs, rfl, rfl, hax, pr⟩ := pd.list_of
   cases pr with
   | @cons v0 _ xs1 _ p0 pr1 =>
   cases pr1 with
   | @cons v1 _ xs2 _ p1 pr2 =>
   cases pr2
   have e0 : noCostD S a b k (.list [d0, d1]) = match pricesP S.pl d0 with
     | none => false
     | some kv => unlikeD S.pl d1 && (match namesOf d1 with
      | none => false
      | some ws => noCostK S a b k kv ws) := rfl
   refine iteF ⟨_, rfl, _, rfl, ax, _, _, v0, rfl, rfl, SqL.of hax, atI_nat (j := 0) rfl, p, ds, dl, S, v0, m, d0, rfl, N, p0, by omega, hl0, fun H1 s1 en => ?_, fun dp kv H1 s1 edp en => ?_⟩
   ·rw [en] at e0
    refine ⟨_, rfl, ax, _, _, v1, rfl, rfl, SqL.of (s1 _ _ hax), atI_nat (j := 1) rfl, ?_⟩
    exact ⟨_, rfl, _, rfl, iteTb (by rfl) (fin s1 e0)⟩
   ·rw [en] at e0
    refine ⟨_, rfl, ax, _, _, v1, rfl, rfl, SqL.of (s1 _ _ hax), atI_nat (j := 1) rfl, ?_⟩
    refine ⟨_, rfl, _, rfl, iteFb (by rfl) ?_⟩
    refine ⟨_, rfl, _, rfl, p, ds, dl, S, v1, m, d1, rfl, (N.same s1).net, N.okP, p1.same s1, by omega, hl1, fun H2 s2 => ⟨_, rfl, ?_⟩⟩
    have s02 := s1.trans s2
    have edp2 := s2 _ _ edp
    cases eu : unlikeD S.pl d1 with
    | false =>
     refine iteT (fin s02 ?_)
     rw [e0]
     show (unlikeD S.pl d1 && _) = false
     rw [eu]
     rfl
    | true =>
     obtain ⟨l, ws, rfl, rfl, hl, hub⟩ := unlikeD_true p1 eu
     have enm : namesOf (.list (ws.map PyData.str)) = some ws := strsOf_map _
     have e1 : noCostD S a b k (.list [d0, .list (ws.map PyData.str)]) = noCostK S a b k kv ws := by
      rw [e0]
      show (unlikeD S.pl (.list (ws.map PyData.str)) && (match namesOf (.list (ws.map PyData.str)) with | none => false | some ws => noCostK S a b k kv ws)) = _
      rw [eu, enm]
      rfl
     have hwl : ws.length ≤ 1000 := by
      have := hl1 _ rfl
      rw [List.length_map] at this
      exact this
     have hl2 := s02 _ _ hl
     refine iteF ⟨_, rfl, l, rfl, ⟨_, SqL.of hl2⟩, comp_list (K := K) (ys := ws.map V.str) (fun i acc σ' H' => H' = H2 ∧ acc = ((ws.take i).map fun x => V.bl ((prO kv x).isSome)) ∧ ∃ o, σ' = [o, some (.ref dp)])
      ⟨rfl, rfl, none, rfl⟩ (fun i acc σ' H' h => ?_) ?_ (fun i acc σ' H' _ h => by rw [h.1]; exact SqL.of hl2) (fun i x acc σ' H' hx h => ?_) (fun acc σ' H' h bl hbl => ?_)⟩
     ·rw [h.2.1, List.length_map, List.length_take]
      omega
     ·rw [List.length_map]
      exact Nat.le_trans hwl (by decide)
     ·obtain ⟨rfl, rfl, o, rfl⟩ := h
      rw [List.getElem?_map] at hx
      cases ey : ws[i]? with
      | none => rw [ey] at hx; cases hx
      | some y =>
       rw [ey] at hx
       cases hx
       refine ⟨_, rfl, _, rfl, dp, _, rfl, DGet.k (k := Sum.inr y) edp2, rfl, ?_, _, rfl⟩
       rw [List.take_add_one, ey, List.map_append, pr_val, Option.isSome_map]
       rfl
     ·obtain ⟨rfl, rfl, o, rfl⟩ := h
      rw [List.length_map, List.take_length]
      have z3 := Same.new (o := .lst (ws.map fun x => V.bl ((prO kv x).isSome))) hbl
      have e3 : (upd H' bl (.lst (ws.map fun x => V.bl ((prO kv x).isSome)))) bl = some (.lst ((ws.map fun x => (prO kv x).isSome).map V.bl)) := by rw [upd_same, List.map_map]; rfl
      generalize upd H' bl (.lst (ws.map fun x => V.bl ((prO kv x).isSome))) = H3 at z3 e3
      have s03 := s02.trans z3
      have ct3 := s03 _ _ hct'
      have edp3 := z3 _ _ edp2
      have hl3 := z3 _ _ hl2
      refine ⟨bl, _, rfl, SqL.of e3, _, rfl, ?_⟩
      rw [any_bl]
      cases ea : (ws.any fun x => (prO kv x).isSome) with
      | true =>
       refine iteT (fin s03 ?_)
       rw [e1]
       unfold noCostK
       rw [ea]
       rfl
      | false =>
       have e2 : noCostK S a b k kv ws = (((prO kv a).isSome || decide (a ∈ ws)) && (!decide (b ∈ ws) && (S.ti.all (keepRow kv ws) && aboveK kv a b k))) := by
        unfold noCostK
        rw [ea]
        rfl
       refine iteF ⟨fun σ' H' => H' = H3 ∧ σ' = [some (.ref p), some (.ref ct), some (.ref ax), some (.ref dp), some (.ref l)] ∧ ((prO kv a).isSome || decide (a ∈ ws)) = true, ?_, ?_⟩
       ·refine ⟨_, rfl, ct, _, _, .str a, rfl, rfl, SqT.of ct3, rfl, _, rfl, dp, _, rfl, DGet.k (k := Sum.inr a) edp3, _, rfl, ?_⟩
        rw [pr_val, Option.isSome_map]
        cases ez : (prO kv a).isSome with
        | true => exact iteF (iteF ⟨rfl, rfl, rfl⟩)
        | false =>
         refine iteT ⟨_, rfl, ct, _, _, .str a, rfl, rfl, SqT.of ct3, rfl, _, rfl, l, _, rfl, .inl (SqL.of hl3), rfl, flat_strs ws, _, rfl, ?_⟩
         show if (if true = true then !inV (.str a) (ws.map V.str) else inV (.str a) (ws.map V.str)) = true then _ else _
         rw [if_pos rfl, inV_str]
         by_cases hin : a ∈ ws
         ·rw [decide_eq_true hin]
          exact iteF ⟨rfl, rfl, rfl⟩
         ·rw [decide_eq_false hin]
          refine iteT (fin s03 ?_)
          rw [e1, e2, ez, decide_eq_false hin]
          rfl
       rintro σ5 H5 ⟨rfl, rfl, hok⟩
       have e3' : noCostD S a b k (.list [d0, .list (ws.map PyData.str)]) = (!decide (b ∈ ws) && (S.ti.all (keepRow kv ws) && aboveK kv a b k)) := by rw [e1, e2, hok]; rfl
       refine ⟨_, rfl, ct, _, _, .str b, rfl, rfl, SqT.of ct3, rfl, _, rfl, l, _, rfl, .inl (SqL.of hl3), rfl, flat_strs ws, _, rfl, ?_⟩
       show if (if true = true then !inV (.str b) (ws.map V.str) else inV (.str b) (ws.map V.str)) = true then _ else _
       rw [if_pos rfl, inV_str]
       by_cases hin : b ∈ ws
       ·refine iteFb (by rw [decide_eq_true hin]; rfl) (fin s03 ?_)
        rw [e3', decide_eq_true hin]
        rfl
       ·refine iteTb (by rw [decide_eq_false hin]; rfl) ⟨_, rfl, _, rfl, _, rfl, p, ds, dl, dp, l, S, kv, ws, rfl, N.same s03, edp3, hl3, fun H6 s6 => ⟨_, rfl, ?_⟩⟩
        have s06 := s03.trans s6
        cases ek : S.ti.all (keepRow kv ws) with
        | false =>
         refine iteF (fin s06 ?_)
         rw [e3', decide_eq_false hin, ek]
         rfl
        | true =>
         refine iteT ⟨_, rfl, _, rfl, dp, ct, kv, a, b, k, rfl, s6 _ _ edp3, s6 _ _ ct3, fin s06 ?_⟩
         rw [e3', decide_eq_false hin, ek]
         rfl
theorem sc_look32 : FnScope ["net", "claim", "so", "paper"] ["net", "claim", "so", "paper"] (defScope s_look_plain) := ⟨rfl, rfl, rfl, by decide +kernel, rfl, by decide +kernel, by decide +kernel⟩
theorem ok_look32 {f : Addr} {fd : FuncData} (F : Fun K "look_plain" "look_plain" s_look_plain f fd) (c1 : Can P w K mg base 6 "shows_cost" ["net", "claim", "paper"] (spSCost C)) (c2 : Can P w K mg base 4 "shows_no_cost" ["net", "claim", "paper"] (spSNoCost C)) : FnOk P w K mg base CX0 7 f fd ["net", "claim", "so", "paper"] (spLookC C) := by
 refine F.ok sc_look32 (fun vs H Q E h => ?_) (fun cdv A outer s H vs Q E hr h => ?_)
 ·obtain ⟨p, ds, dl, ct, S, a, b, k, so, v, n, d, rfl, _⟩ := h
  rfl
 ·obtain ⟨p, ds, dl, ct, S, a, b, k, so, v, n, d, rfl, N, bc, hct, ha, pd, n50, so1, so2, q⟩ := h
  have r4 : Room 4 _ := hr.mono (by decide)
  refine ⟨_, (pss_cons (ps_if (pt_cmpR op_eq (pe_ix ix_tup (pv 1) pe_int (fun _ _ => by rfl)) pe_str (nomark _)) (pss_one ps_never) pss_nil)
   (pss_cons (ps_if (pt_cmpR op_eq (pe_ix ix_tup (pv 1) pe_int (fun _ _ => by rfl)) pe_str (nomark _)) (pss_one (ps_ret (pe_ifExp (pt_val (pv 2)) (pe_callC c1 hr (by rfl) (pa_cons (pv 0) (pa_cons (pv 1) (pa_cons (pv 3) pa_nil)))) (pe_callC c2 r4 (by rfl) (pa_cons (pv 0) (pa_cons (pv 1) (pa_cons (pv 3) pa_nil))))))) pss_nil)
   (pss_cons ps_never
   (pss_cons ps_never
   (pss_one ps_never))))), ?_⟩
  have hct' : H ct = some (.tup [.str "cost", .str a, .str b, .int k]) := hct
  refine ⟨_, rfl, ct, _, _, .str "cost", rfl, rfl, SqT.of hct', rfl, rfl, _, rfl, iteFb c_ccw ?_⟩
  refine ⟨_, rfl, ct, _, _, .str "cost", rfl, rfl, SqT.of hct', rfl, rfl, _, rfl, iteTb c_ccc ⟨_, rfl, _, rfl, ?_⟩⟩
  cases so with
  | true => exact iteT ⟨_, rfl, _, rfl, _, rfl, p, ds, dl, ct, S, a, b, k, v, n, d, rfl, N, bc, hct, ha, pd, so1, q⟩
  | false => exact iteF ⟨_, rfl, _, rfl, _, rfl, p, ds, dl, ct, S, a, b, k, v, n, d, rfl, N, hct, pd, n50, so2, q⟩
end
end Net
namespace Net
open PySem L2
def spCheap : Sp := fun vs H Q _ => ∃ (ta pa : Addr) (S : NS) (a b : Str) (k : Int) (v : V) (n : Nat) (es : List PyData), vs = [.ref ta, .str a, .str b, .int k, v] ∧ PartsAt H pa ta S ∧ GoodS S ∧ PD H n v (.list es) ∧ n ≤ 50 ∧ StrOk (.list es) ∧ ∀ H', Same H H' → Q (.bl (costOkD S.ti a b k (.list es))) H'
theorem costOk_no {ti : List Row} {es : List PyData} {a b : Str} {k : Int} (h : walkD ti es a 0 = none) : costOkD ti a b k (.list es) = false := by
 show (match walkD ti es a 0 with | none => false | some q => decide (q.1 = b) && decide (q.2 ≤ k)) = false
 rw [h]
section
variable {P : Program} {w : World} {K : PySem.W.Frag} {mg : Str → Option Value} {base : Heap} {C : Addr}
abbrev Ncheap : List Str := ["_law_ties", "_law_a", "_law_b", "_law_k", "_law_paper", "_law_here", "_law_total", "_law_row", "_law_begin", "_law_one_here", "_law_along"]
theorem sc_cheap : FnScope Ncheap ["_law_ties", "_law_a", "_law_b", "_law_k", "_law_paper"] (defScope s_l_is_cheap) := ⟨rfl, rfl, rfl, by decide +kernel, rfl, by decide +kernel, by decide +kernel⟩
theorem ok_cheap {f : Addr} {fd : FuncData} (F : Fun K "_law_is_cheap" "_law_is_cheap" s_l_is_cheap f fd) (T : Txt K mg C) : FnOk P w K mg base CX0 1 f fd ["_law_ties", "_law_a", "_law_b", "_law_k", "_law_paper"] spCheap := by
 refine F.ok sc_cheap (fun vs H Q E h => ?_) (fun cdv A outer s H vs Q E hr h => ?_)
 ·obtain ⟨ta, pa, S, a, b, k, v, n, es, rfl, _⟩ := h
  rfl
 ·obtain ⟨ta, pa, S, a, b, k, v, n, es, rfl, PA, g, pd, n50, ⟨hlen, hst⟩, q⟩ := h
  have hu := hr.units
  have nd2 : List.Nodup (["_law_tie", "_law_one_here"] : List Str) := by decide +kernel
  refine ⟨_, (pss_cons (ps_set (i := 5) sc_cheap.nd rfl (Or.inl rfl) (pv 1))
   (pss_cons (ps_set (i := 6) sc_cheap.nd rfl (Or.inl rfl) pe_int)
   (pss_cons (ps_for PassesOwn.never rfl (pi_list (pv 4)) (pg_name (i := 7) sc_cheap.nd rfl (Or.inl rfl))
    (pss_cons (ps_if (PW.pt (pw_or (pt_not (pt_val (pe_callB call_isinst (by rfl) T.isi b_isi (pa_cons (pv 7) (pa_cons (pe_ty T.list (by rfl) b_list) pa_nil))))) (pw_or (pt_cmpR op_ne (pe_callB call_len_seq (by rfl) T.len b_len (pa_cons (pv 7) pa_nil)) pe_int (nomark _)) (pw_or1 (pt_not (pt_val (pe_callB call_isinst (by rfl) T.isi b_isi (pa_cons (pe_ix ix_list (pv 7) pe_int (fun _ _ => by rfl)) (pa_cons (pe_ty T.list (by rfl) b_list) pa_nil))))))))) (pss_one (ps_ret pe_bl)) pss_nil)
   (pss_cons (ps_if (PW.pt (pw_or (pt_not (pt_val (pe_callB call_isinst (by rfl) T.isi b_isi (pa_cons (pe_ix ix_list (pv 7) pe_int (fun _ _ => by rfl)) (pa_cons (pe_ty T.int (by rfl) b_int) pa_nil))))) (pw_or (pt_val (pe_callB call_isinst (by rfl) T.isi b_isi (pa_cons (pe_ix ix_list (pv 7) pe_int (fun _ _ => by rfl)) (pa_cons (pe_ty T.bool (by rfl) b_bool) pa_nil)))) (pw_or1 (pt_cmpR op_lt (pe_ix ix_list (pv 7) pe_int (fun _ _ => by rfl)) pe_int (nomark _)))))) (pss_one (ps_ret pe_bl)) pss_nil)
   (pss_cons (ps_set (i := 8) sc_cheap.nd rfl (Or.inl rfl) (pv 5))
   (pss_cons (ps_for PassesOwn.never rfl (pi_list (pe_ix ix_list (pv 7) pe_int (fun _ _ => by rfl))) (pg_name (i := 9) sc_cheap.nd rfl (Or.inr rfl))
      (pss_cons (ps_comp (j := 10) (N := ["_law_tie", "_law_one_here"]) (xs := 1) (js := [9]) rfl sc_cheap.nd rfl rfl (compScope_of rfl) (pi_list (pv 0)) (fun _ _ _ _ => pg_name (i := 0) nd2 rfl (Or.inl rfl))
        (fun _ _ _ _ => pts_one (pt_cmpR (op_eqDK K (by rfl) hu) (pe_ix (ix_tupK K (by rfl)) (pv 0) pe_int (fun _ _ => by rfl)) (pv 1) (nomark _))) (fun _ _ _ _ => pv 0) rfl)
   (pss_cons (ps_if (PW.pt (pw_or (pt_cmpR (op_eqD hu) (pv 10) (pe_lst pa_nil) (nomark _)) (pw_or1 (pt_cmpR op_ne (pe_ix ix_tup (pe_ix ix_list (pv 10) pe_int (fun _ _ => by rfl)) pe_int (fun _ _ => by rfl)) (pv 5) (nomark _))))) (pss_one (ps_ret pe_bl)) pss_nil)
   (pss_cons (ps_set (i := 5) sc_cheap.nd rfl (Or.inl rfl) (pe_ix ix_tup (pe_ix ix_list (pv 10) pe_int (fun _ _ => by rfl)) pe_int (fun _ _ => by rfl)))
   (pss_one (ps_set (i := 6) sc_cheap.nd rfl (Or.inl rfl) (pe_op op_add (pv 6) (pe_op op_mulG (pe_ix ix_list (pv 7) pe_int (fun _ _ => by rfl)) (pe_ix ix_tup (pe_ix ix_list (pv 10) pe_int (fun _ _ => by rfl)) pe_int (fun _ _ => by rfl))))))))))
   (pss_one (ps_if (PW.pt (pw_and (pt_cmpR op_gt (pe_ix ix_list (pv 7) pe_int (fun _ _ => by rfl)) pe_int (nomark _)) (pw_and1 (pt_cmpR op_ne (pv 5) (pv 8) (nomark _))))) (pss_one (ps_ret pe_bl)) pss_nil)))))))
   (pss_one (ps_ret (pe_and (pe_cmpR op_eq (pv 5) (pv 2) (nomark _)) (pe_one (pe_cmpR op_le (pv 6) (pv 3) (nomark _))))))))), ?_⟩
  have fin : ∀ {H' : Hp} {x : Bool}, Same H H' → costOkD S.ti a b k (.list es) = x → Q (.bl x) H' := fun {H' x} s e => by
   have := q H' s
   rw [e] at this
   exact this
  obtain ⟨m, l, xs, rfl, rfl, hl, pr⟩ := pd.list_of
  have hxl : xs.length = es.length := Paired.length pr
  obtain ⟨L, RL, eta⟩ := PA.ti
  have hL : L.length = S.ti.length := by rw [← RL.1, List.length_map]
  have rok : ∀ r ∈ S.ti, nameB r.nm = true ∧ nameB r.a = true ∧ nameB r.b = true := fun r hr => ⟨(g.okT r hr).1, g.okP _ (g.okT r hr).2.1, g.okP _ (g.okT r hr).2.2⟩
  refine ⟨_, rfl, ?_⟩
  refine ⟨_, rfl, l, rfl, ⟨_, SqL.of hl⟩, for_list (K := K) (a := l) (xs := xs) (fun i σ' H' => ∃ (here : Str) (c : Int) (o7 o8 o9 o10 : Option V), σ' = [some (.ref ta), some (.str a), some (.str b), some (.int k), some (.ref l), some (.str here), some (.int c), o7, o8, o9, o10] ∧ Same H H' ∧ walkD S.ti es a 0 = walkD S.ti (es.drop i) here c)
   ⟨a, 0, _, _, _, _, rfl, Same.refl H, by rw [List.drop_zero]⟩ (fun i σ' H' _ h => ?_) (fun i x σ' H' hx h => ?_) (fun σ' H' h => ?_)⟩
  ·obtain ⟨_, _, _, _, _, _, _, s1, _⟩ := h
   exact SqL.of (s1 _ _ hl)
  ·obtain ⟨here, c, o7, o8, o9, o10, rfl, s1, hw⟩ := h
   obtain ⟨dx, edx, pdx0⟩ := pair_get pr hx
   have pdx := pdx0.same s1
   have hi : i < es.length := (List.getElem?_eq_some_iff.mp edx).1
   have hdrop : es.drop i = dx :: es.drop (i + 1) := by
    rw [List.drop_eq_getElem_cons hi]
    have := (List.getElem?_eq_some_iff.mp edx).2
    rw [this]
   rw [hdrop] at hw
   have hw1 : walkD S.ti es a 0 = match strD S.ti here dx with | none => none | some q => walkD S.ti (es.drop (i + 1)) q.1 (c + q.2) := hw
   have hdx := List.mem_of_getElem? edx
   have no : ∀ {H2 : Hp}, Same H H2 → strD S.ti here dx = none → Q (.bl false) H2 := fun s e => fin s (costOk_no (by rw [hw1, e]))
   obtain ⟨t0, ty, kl, _⟩ := PD.ty (K := K) pdx
   refine ⟨_, rfl, x, "list", t0, isL dx, rfl, ty, kl, _, rfl, ?_⟩
   cases el : isL dx with
   | false =>
    refine iteT (iteT (no s1 (strD_pair ?_)))
    cases dx <;> first | (cases el; done) | rfl
   | true =>
    obtain ⟨ex, rfl⟩ : ∃ e, dx = .list e := by cases dx <;> first | exact ⟨_, rfl⟩ | cases el
    obtain ⟨m2, ax, ys, rfl, rfl, hax, pr2⟩ := pdx.list_of
    have hyl : ys.length = ex.length := Paired.length pr2
    refine iteF ⟨_, rfl, ax, _, rfl, .inl (SqL.of hax), rfl, _, rfl, ?_⟩
    show if (!decide (V.int ((ys.length : Nat) : Int) = V.int 2)) = true then _ else _
    by_cases h2 : ys.length = 2
    ·refine iteFb (by rw [h2]; rfl) ?_
     have hp2 : isPair (.list ex) = true := by
      show decide (ex.length = 2) = true
      exact decide_eq_true (by omega)
     obtain ⟨d0, d1, e2⟩ := isPair_of hp2
     cases e2
     cases pr2 with
     | @cons v0 _ ys1 _ p0 pr3 =>
     cases pr3 with
     | @cons v1 _ ys2 _ p1 pr4 =>
     cases pr4
     obtain ⟨hl0, htt⟩ := hst es rfl _ hdx d0 d1 rfl
     obtain ⟨t1, ty1, kl1, _⟩ := PD.ty (K := K) p0
     refine ⟨_, rfl, ax, _, _, v0, rfl, rfl, SqL.of hax, atI_nat (j := 0) rfl, v0, "list", t1, isL d0, rfl, ty1, kl1, _, rfl, ?_⟩
     cases el0 : isL d0 with
     | false =>
      refine iteT (no s1 ?_)
      have en : endOf S.ti here d0 = none := by cases d0 <;> first | (cases el0; done) | rfl
      cases ei : isI d1 with
      | false => exact strD_int ei
      | true =>
       obtain ⟨t, rfl⟩ : ∃ t, d1 = .int t := by cases d1 <;> first | exact ⟨_, rfl⟩ | cases ei
       show (if t < 1 then none else match endOf S.ti here d0 with | none => none | some e => if 1 < t ∧ ¬ e = here then none else some (e, costD S.ti d0 * t)) = none
       rw [en]
       split <;> rfl
     | true =>
      obtain ⟨e0, rfl⟩ : ∃ e, d0 = .list e := by cases d0 <;> first | exact ⟨_, rfl⟩ | cases el0
      refine iteF ?_
      obtain ⟨t2, ty2, ki, kb⟩ := PD.tyI (K := K) p1
      refine ⟨_, rfl, ax, _, _, v1, rfl, rfl, SqL.of hax, atI_nat (j := 1) rfl, v1, "int", t2, _, rfl, ty2, ki, _, rfl, ?_⟩
      have notI : isI d1 = false → Q (.bl false) H' := fun z => no s1 (strD_int z)
      cases ei : isI d1 with
      | false =>
       cases eb : isB d1 with
       | false => exact iteT (notI ei)
       | true => exact iteF ⟨_, rfl, ax, _, _, v1, rfl, rfl, SqL.of hax, atI_nat (j := 1) rfl, v1, "bool", t2, _, rfl, ty2, kb, _, rfl, iteTb eb (notI ei)⟩
      | true =>
       have eb : isB d1 = false := by cases d1 <;> first | (cases ei; done) | rfl
       obtain ⟨t, rfl⟩ : ∃ t, d1 = .int t := by cases d1 <;> first | exact ⟨_, rfl⟩ | cases ei
       have ev1 := p1.int_of
       subst ev1
       have htb := htt t rfl
       refine iteF ⟨_, rfl, ax, _, _, .int t, rfl, rfl, SqL.of hax, atI_nat (j := 1) rfl, .int t, "bool", t2, _, rfl, ty2, kb, _, rfl, iteFb eb ⟨_, rfl, ax, _, _, .int t, rfl, rfl, SqL.of hax, atI_nat (j := 1) rfl, _, _, rfl, rfl, _, rfl, ?_⟩⟩
       have es0 : strD S.ti here (.list [.list e0, .int t]) = if t < 1 then none else match endOf S.ti here (.list e0) with | none => none | some e => if 1 < t ∧ ¬ e = here then none else some (e, costD S.ti (.list e0) * t) := rfl
       by_cases ht : t < 1
       ·refine iteTb (decide_eq_true ht) (no s1 ?_)
        rw [es0, if_pos ht]
       ·rw [if_neg ht] at es0
        refine iteFb (decide_eq_false ht) ⟨_, rfl, ?_⟩
        obtain ⟨m3, al, zs, em3, rfl, hal, pr5⟩ := p0.list_of
        subst em3
        have hzl : zs.length = e0.length := Paired.length pr5
        refine ⟨_, rfl, ax, _, _, .ref al, rfl, rfl, SqL.of hax, atI_nat (j := 0) rfl, al, rfl, ⟨_, SqL.of hal⟩, for_list (K := K) (a := al) (xs := zs) (fun j σ' H2 => ∃ (us : List Str) (lp : List Str) (h : Str) (o9 o10 : Option V), σ' = [some (.ref ta), some (.str a), some (.str b), some (.int k), some (.ref l), some (.str h), some (.int (c + t * costOf S.ti us)), some (.ref ax), some (.str here), o9, o10] ∧ Same H' H2 ∧ e0.take j = us.map PyData.str ∧ stD S.ti here (e0.take j) = some lp ∧ lp.getLast? = some h)
         ⟨[], [here], here, _, _, by rw [show costOf S.ti [] = 0 from rfl, Int.mul_zero, Int.add_zero]; rfl, Same.refl _, rfl, rfl, rfl⟩ (fun j σ' H2 _ h => ?_) (fun j y σ' H2 hy h => ?_) (fun σ' H2 h => ?_)⟩
        ·obtain ⟨_, _, _, _, _, _, s2, _⟩ := h
         exact SqL.of (s2 _ _ hal)
        ·obtain ⟨us, lp, h, o9, o10, rfl, s2, htk, e1, e2⟩ := h
         obtain ⟨di, ed, pdi⟩ := pair_get pr5 hy
         have s02 := s1.trans s2
         have hta4 := s02 _ _ eta
         have R4 := RL.same s02
         refine ⟨_, rfl, ta, rfl, ⟨_, SqL.of hta4⟩, comp_list (K := K) (ys := L.map fun q => V.ref q.2) (fun i acc σ' H3 => H3 = H2 ∧ acc = ((L.take i).filter fun q => nmF di q.1).map (fun q => V.ref q.2) ∧ ∃ o, σ' = [o, some y])
          ⟨rfl, rfl, none, rfl⟩ (fun i acc σ' H3 h => ?_) ?_ (fun i acc σ' H3 _ h => by rw [h.1]; exact SqL.of hta4) (fun i x acc σ' H3 hx h => ?_) (fun acc σ' H3 h pp hpp => ?_)⟩
         ·obtain ⟨_, rfl, _⟩ := h
          rw [List.length_map]
          exact Nat.le_trans (List.length_filter_le _ _) (by rw [List.length_take]; omega)
         ·rw [List.length_map, hL]
          exact Nat.le_trans g.lenT (by decide)
         ·obtain ⟨rfl, rfl, o2, rfl⟩ := h
          rw [List.getElem?_map] at hx
          cases eq : L[i]? with
          | none => rw [eq] at hx; cases hx
          | some qq =>
           rw [eq] at hx
           cases hx
           have hq : qq ∈ L := List.mem_of_getElem? eq
           have hqq := R4.2 qq hq
           have okn : PyData.strOk qq.1.nm = true := strOk_of (rok qq.1 (by rw [← RL.1]; exact List.mem_map_of_mem hq)).1
           refine ⟨_, rfl, _, _, _, .str qq.1.nm, rfl, rfl, SqT.of hqq, rfl, _, rfl, m3, .str qq.1.nm, di, by omega, (by cases m3 <;> exact ⟨okn, rfl⟩), (pdi.same s2).rd, _, rfl, ?_⟩
           have ek : ∀ b, nmF di qq.1 = b → ((L.take (i + 1)).filter fun q => nmF di q.1) = ((L.take i).filter fun q => nmF di q.1) ++ (if b then [qq] else []) := fun b hb => by
            rw [List.take_add_one, eq, List.filter_append]
            show _ ++ List.filter _ [qq] = _
            cases b with
            | true => rw [List.filter_cons_of_pos (by simpa using hb)]; rfl
            | false => rw [List.filter_cons_of_neg (by simpa using hb)]; rfl
           show if nmF di qq.1 = true then _ else _
           cases ez : nmF di qq.1 with
           | false =>
            refine iteF ⟨rfl, ?_, _, rfl⟩
            rw [ek false ez]
            simp
           | true =>
            refine iteT ⟨_, rfl, rfl, ?_, _, rfl⟩
            rw [ek true ez, List.map_append]
            rfl
         ·obtain ⟨rfl, rfl, o2, rfl⟩ := h
          have hln : (L.map fun q => V.ref q.2).length = L.length := List.length_map ..
          rw [hln, List.take_length]
          have RF : Rows H3 (L.filter fun q => nmF di q.1) (S.ti.filter (nmF di)) := by
           refine ⟨?_, fun q hq => R4.2 q (List.mem_filter.mp hq).1⟩
           rw [← RL.1, List.filter_map]
           rfl
          have hall : ∀ q ∈ (L.filter fun q => nmF di q.1), nmF di q.1 = true := fun q hq => (List.mem_filter.mp hq).2
          generalize (L.filter fun q => nmF di q.1) = LF at RF hall
          have s5 := Same.new (o := .lst (LF.map fun q => V.ref q.2)) hpp
          have e5 : (upd H3 pp (.lst (LF.map fun q => V.ref q.2))) pp = some (.lst (LF.map fun q => V.ref q.2)) := upd_same
          have RF5 := RF.same s5
          generalize upd H3 pp (.lst (LF.map fun q => V.ref q.2)) = H5 at s5 e5 RF5
          have okF : ∀ r ∈ S.ti.filter (nmF di), nameB r.nm = true ∧ nameB r.a = true ∧ nameB r.b = true := fun r hr => rok r (List.mem_filter.mp hr).1
          refine ⟨_, rfl, by decide, fun ee hee => ⟨2, _, _, by decide, rd_rows (RF5.same (Same.new hee)) ((Same.new hee) _ _ e5) okF, rd_nil upd_same, _, rfl, ?_⟩⟩
          have s6 := (s2.trans s5).upd (o := .lst []) hee
          have e6 := (Same.new (o := .lst []) hee) _ _ e5
          have RF6 := RF5.same (Same.new (o := .lst []) hee)
          generalize upd H5 ee (.lst []) = H6 at s6 e6 RF6
          show if PyData.eqv (.list (List.map rowD _)) (.list []) = true then _ else _
          rw [eqv_nil]
          have stop : stepD S.ti h di = none → strD S.ti here (.list [.list e0, .int t]) = none := fun z => by
           have : endOf S.ti here (.list e0) = none := by rw [endOf_list, stD_stop e1 e2 ed z]; rfl
           rw [es0, this]
          cases LF with
          | nil =>
           have z : S.ti.filter (nmF di) = [] := RF6.1.symm
           rw [z]
           refine iteT (iteT (no (s1.trans s6) (stop ?_)))
           rw [nm_step, z]
           rfl
          | cons qq rs =>
           have z : S.ti.filter (nmF di) = qq.1 :: rs.map (·.1) := RF6.1.symm
           have hrow : rowF S.ti di = some qq.1 := by unfold rowF; rw [z]; rfl
           rw [z]
           have hq6 := RF6.2 qq List.mem_cons_self
           have edi := nmF_str (hall qq List.mem_cons_self)
           subst edi
           have erow := row_of_head hrow
           have hmem : qq.1 ∈ S.ti := List.mem_of_find?_eq_some erow
           have enx : costOf S.ti (us ++ [qq.1.nm]) = costOf S.ti us + qq.1.c := cost_snoc erow
           have etk : e0.take (j + 1) = (us ++ [qq.1.nm]).map PyData.str := by
            rw [List.take_add_one, ed, htk, List.map_append]
            rfl
           have estep : stepD S.ti h (.str qq.1.nm) = if qq.1.a = h then some qq.1.b else none := by
            show (rowOf S.ti qq.1.nm).bind _ = _
            rw [erow]
            rfl
           refine iteF ⟨_, rfl, pp, _, _, .ref qq.2, rfl, rfl, SqL.of e6, atI_nat (j := 0) rfl, qq.2, _, _, .str qq.1.a, rfl, rfl, SqT.of hq6, rfl, _, rfl, rfl, _, rfl, ?_⟩
           show if (!decide (V.str qq.1.a = V.str h)) = true then _ else _
           by_cases hah : qq.1.a = h
           ·refine iteFb (by rw [hah]; simp) ?_
            rw [if_pos hah] at estep
            have e3 := stD_take e1 e2 ed
            rw [estep] at e3
            have hax6 := s6 _ _ hax
            have hcb := g.okC qq.1 hmem
            have hbig : (10 ^ 52 : Nat) < 2 ^ 3000 := by decide +kernel
            have hbig2 : (10 ^ 100 : Nat) < 2 ^ 3000 := by decide +kernel
            refine ⟨_, rfl, pp, _, _, .ref qq.2, rfl, rfl, SqL.of e6, atI_nat (j := 0) rfl, qq.2, _, _, .str qq.1.b, rfl, rfl, SqT.of hq6, rfl, ?_⟩
            refine ⟨_, rfl, _, rfl, ax, _, _, .int t, rfl, rfl, SqL.of hax6, atI_nat (j := 1) rfl, _, rfl, pp, _, _, .ref qq.2, rfl, rfl, SqL.of e6, atI_nat (j := 0) rfl, qq.2, _, _, .int qq.1.c, rfl, rfl, SqT.of hq6, rfl, _, _, rfl, rfl, ⟨by omega, by omega⟩, _, _, rfl, rfl, ?_⟩
            refine ⟨us ++ [qq.1.nm], lp ++ [qq.1.b], qq.1.b, some y, some (.ref pp), ?_, s6, etk, e3, by simp⟩
            have : c + t * costOf S.ti us + t * qq.1.c = c + t * costOf S.ti (us ++ [qq.1.nm]) := by rw [enx, Int.mul_add]; omega
            rw [← this]
            rfl
           ·refine iteTb (by rw [decide_eq_false (fun z => hah (V.str.inj z))]; rfl) (no (s1.trans s6) (stop ?_))
            rw [estep, if_neg hah]
        ·obtain ⟨us, lp, h, o9, o10, rfl, s2, htk, e1, e2⟩ := h
         rw [hzl, List.take_length] at htk e1
         have hend : endOf S.ti here (.list e0) = some h := by rw [endOf_list, e1]; exact e2
         rw [hend] at es0
         have es1 : strD S.ti here (.list [.list e0, .int t]) = if 1 < t ∧ ¬ h = here then none else some (h, costD S.ti (.list e0) * t) := es0
         have ecost : costD S.ti (.list e0) * t = t * costOf S.ti us := by rw [htk, costD_list, Int.mul_comm]
         have s02 := s1.trans s2
         have hax2 := s2 _ _ hax
         have goOn : ¬ (1 < t ∧ ¬ h = here) → ∃ (here' : Str) (c' : Int) (p7 p8 p9 p10 : Option V), [some (V.ref ta), some (.str a), some (.str b), some (.int k), some (.ref l), some (.str h), some (.int (c + t * costOf S.ti us)), some (.ref ax), some (.str here), o9, o10] = [some (.ref ta), some (.str a), some (.str b), some (.int k), some (.ref l), some (.str here'), some (.int c'), p7, p8, p9, p10] ∧ Same H H2 ∧ walkD S.ti es a 0 = walkD S.ti (es.drop (i + 1)) here' c' := fun hc => by
          refine ⟨h, c + t * costOf S.ti us, _, _, _, _, rfl, s02, ?_⟩
          rw [hw1, es1, if_neg hc, ecost]
         refine ⟨_, rfl, ax, _, _, .int t, rfl, rfl, SqL.of hax2, atI_nat (j := 1) rfl, _, _, rfl, rfl, _, rfl, ?_⟩
         show if decide ((1 : Int) < t) = true then _ else _
         by_cases h1 : 1 < t
         ·refine iteTb (decide_eq_true h1) ⟨_, rfl, _, rfl, rfl, _, rfl, ?_⟩
          show if (!decide (V.str h = V.str here)) = true then _ else _
          by_cases h3 : h = here
          ·exact iteFb (by rw [h3]; simp) (goOn fun z => z.2 h3)
          ·refine iteTb (by rw [decide_eq_false (fun z => h3 (V.str.inj z))]; rfl) (no s02 ?_)
           rw [es1, if_pos ⟨h1, h3⟩]
         ·exact iteFb (decide_eq_false h1) (iteF (goOn fun z => h1 z.1))
    ·refine iteTb ?_ (iteT (no s1 (strD_pair ?_)))
     ·have hne : ¬ V.int ((ys.length : Nat) : Int) = V.int 2 := fun z => by
       have h3 : ((ys.length : Nat) : Int) = 2 := by injection z
       exact h2 (by omega)
      rw [decide_eq_false hne]
      rfl
     ·show decide (ex.length = 2) = false
      exact decide_eq_false (by omega)
  ·obtain ⟨here, c, o7, o8, o9, o10, rfl, s1, hw⟩ := h
   rw [hxl, List.drop_length] at hw
   have hw' : walkD S.ti es a 0 = some (here, c) := hw
   have e0 : costOkD S.ti a b k (.list es) = (decide (here = b) && decide (c ≤ k)) := by
    show (match walkD S.ti es a 0 with | none => false | some q => decide (q.1 = b) && decide (q.2 ≤ k)) = _
    rw [hw']
   refine ⟨_, rfl, _, rfl, rfl, _, rfl, ?_⟩
   show if decide (V.str here = V.str b) = true then _ else _
   by_cases hb : here = b
   ·refine iteTb (decide_eq_true (by rw [hb])) ⟨_, rfl, _, rfl, _, _, rfl, rfl, fin s1 ?_⟩
    rw [e0, decide_eq_true hb]
    rfl
   ·refine iteFb (decide_eq_false fun z => hb (V.str.inj z)) (fin s1 ?_)
    rw [e0, decide_eq_false hb]
    rfl
end
end Net
namespace Net
open PySem L2
def spDear32 : Sp := fun vs H Q _ => ∃ (pa ta : Addr) (S : NS) (a b : Str) (k : Int) (v : V) (n : Nat) (ds : List PyData), vs = [.ref pa, .ref ta, .str a, .str b, .int k, v] ∧ PartsAt H pa ta S ∧ GoodS S ∧ PD H n v (.list ds) ∧ n ≤ 50 ∧ (∀ d0 d1, ds = [d0, d1] → ∃ e0 e1, d0 = .list e0 ∧ d1 = .list e1 ∧ e0.length ≤ 1000 ∧ e1.length ≤ 1000) ∧
 ∀ H', Same H H' → Q (.bl (noCostD S a b k (.list ds))) H'
theorem noCost_none {S : NS} {a b : Str} {k : Int} {d0 d1 : PyData} (h : pricesP S.pl d0 = none) : noCostD S a b k (.list [d0, d1]) = false := by
 show (match pricesP S.pl d0 with | none => false | some kv => _) = false
 rw [h]
theorem noCost_some {S : NS} {a b : Str} {k : Int} {d0 d1 : PyData} {kv : List (Str × Int)} (h : pricesP S.pl d0 = some kv) : noCostD S a b k (.list [d0, d1]) = (unlikeD S.pl d1 && (match namesOf d1 with | none => false | some ws => noCostK S a b k kv ws)) := by
 show (match pricesP S.pl d0 with | none => false | some kv => unlikeD S.pl d1 && (match namesOf d1 with | none => false | some ws => noCostK S a b k kv ws)) = _
 rw [h]
theorem unlike_names {S : NS} {a b : Str} {k : Int} {kv : List (Str × Int)} {ws : List Str} : (unlikeD S.pl (.list (ws.map PyData.str)) && (match namesOf (.list (ws.map PyData.str)) with | none => false | some ws => noCostK S a b k kv ws)) = (unlikeB S.pl ws && noCostK S a b k kv ws) := by
 have : namesOf (.list (ws.map PyData.str)) = some ws := strsOf_map _
 rw [unlikeD_list, this]
theorem names_bad {ds : List PyData} {x : PyData} (hx : x ∈ ds) (h : isS x = false) : namesOf (.list ds) = none := by
 cases e : namesOf (.list ds) with
 | none => rfl
 | some ws =>
  have e2 : strsOf ds = some ws := e
  have := strsOf_some e2
  rw [this] at hx
  obtain ⟨y, _, rfl⟩ := List.mem_map.mp hx
  cases h
theorem prO_none {kv : List (Str × Int)} {x : Str} (h : x ∉ kv.map (·.1)) : prO kv x = none := by
 have h0 := pr_in (kv := kv) (x := x)
 rw [decide_eq_false h] at h0
 exact Option.isSome_eq_false_iff.mp h0 |> Option.isNone_iff_eq_none.mp
theorem row_nopair {pl : List Str} {di : PyData} (h : isPair di = false) : priceRow pl di = none := by
 unfold priceRow
 split
 ·cases h
 ·rfl
theorem row_noplace {pl : List Str} {y : Str} {c : PyData} (h : y ∉ pl) : priceRow pl (.list [.str y, c]) = none := by
 cases c with
 | int i =>
  show (if y ∈ pl then some (y, i) else none) = none
  rw [if_neg h]
 | _ => rfl
section
variable {P : Program} {w : World} {K : PySem.W.Frag} {mg : Str → Option Value} {base : Heap} {C : Addr}
abbrev Ndear32 : List Str := ["_law_places", "_law_ties", "_law_a", "_law_b", "_law_k", "_law_paper", "_law_prices_here", "_law_row", "_law_dead", "_law_at", "_law_place", "_law_name_here", "_law_here", "_law_there", "_law_width", "_law_cost"]
theorem sc_dear32 : FnScope Ndear32 ["_law_places", "_law_ties", "_law_a", "_law_b", "_law_k", "_law_paper"] (defScope s_l_is_dear) := ⟨rfl, rfl, rfl, by decide +kernel, rfl, by decide +kernel, by decide +kernel⟩
theorem ok_dear32 {f : Addr} {fd : FuncData} (F : Fun K "_law_is_dear" "_law_is_dear" s_l_is_dear f fd) (T : Txt K mg C) (TM : TxtM mg) : FnOk P w K mg base CX0 1 f fd ["_law_places", "_law_ties", "_law_a", "_law_b", "_law_k", "_law_paper"] spDear32 := by
 refine F.ok sc_dear32 (fun vs H Q E h => ?_) (fun cdv A outer s H vs Q E hr h => ?_)
 ·obtain ⟨pa, ta, S, a, b, k, v, n, ds, rfl, _⟩ := h
  rfl
 ·obtain ⟨pa, ta, S, a, b, k, v, n, ds, rfl, PA, g, pd, n50, hsh, q⟩ := h
  have hu := hu_of hr
  have hU := hr.units
  refine ⟨_, (pss_cons (ps_if (pt_cmpR op_ne (pe_callB call_len_seq (by rfl) T.len b_len (pa_cons (pv 5) pa_nil)) pe_int (nomark _)) (pss_one (ps_ret pe_bl)) pss_nil)
   (pss_cons (ps_set (i := 6) sc_dear32.nd rfl (Or.inl rfl) pe_dnewK)
   (pss_cutE (ps_for PassesOwn.never rfl (pi_list (pe_ix ix_list (pv 5) pe_int (fun _ _ => by rfl))) (pg_name (i := 7) sc_dear32.nd rfl (Or.inl rfl))
     (pss_cons (ps_if (PW.pt (pw_or (pt_not (pt_val (pe_callB call_isinst (by rfl) T.isi b_isi (pa_cons (pv 7) (pa_cons (pe_ty T.list (by rfl) b_list) pa_nil))))) (pw_or (pt_cmpR op_ne (pe_callB call_len_seq (by rfl) T.len b_len (pa_cons (pv 7) pa_nil)) pe_int (nomark _)) (pw_or (pt_not (pt_val (pe_callB call_isinst (by rfl) T.isi b_isi (pa_cons (pe_ix ix_list (pv 7) pe_int (fun _ _ => by rfl)) (pa_cons (pe_ty T.str (by rfl) b_str) pa_nil))))) (pw_or1 (pt_cmpR op_notIn_seq (pe_ix ix_list (pv 7) pe_int (fun _ _ => by rfl)) (pv 0) (by with_unfolding_all rfl))))))) (pss_one (ps_ret pe_bl)) pss_nil)
   (pss_cons (ps_if (PW.pt (pw_or (pt_not (pt_val (pe_callB call_isinst (by rfl) T.isi b_isi (pa_cons (pe_ix ix_list (pv 7) pe_int (fun _ _ => by rfl)) (pa_cons (pe_ty T.int (by rfl) b_int) pa_nil))))) (pw_or (pt_val (pe_callB call_isinst (by rfl) T.isi b_isi (pa_cons (pe_ix ix_list (pv 7) pe_int (fun _ _ => by rfl)) (pa_cons (pe_ty T.bool (by rfl) b_bool) pa_nil)))) (pw_or1 (pt_cmp (pc_din hu (pe_ix ix_list (pv 7) pe_int (fun _ _ => by rfl)) (pv 6))))))) (pss_one (ps_ret pe_bl)) pss_nil)
   (pss_one (ps_dput hu (pv 6) (pe_ix ix_list (pv 7) pe_int (fun _ _ => by rfl)) (pe_ix ix_list (pv 7) pe_int (fun _ _ => by rfl)) rfl)))))
   (pss_cons (ps_set (i := 8) sc_dear32.nd rfl (Or.inl rfl) (pe_ix ix_list (pv 5) pe_int (fun _ _ => by rfl)))
   (pss_cutE (ps_for PassesOwn.never rfl (pi_enum rfl TM.enum (pa_cons (pv 8) pa_nil)) (pg_tup rfl (pgs_cons (pg_name (i := 9) sc_dear32.nd rfl (Or.inl rfl)) (pgs_cons (pg_name (i := 10) sc_dear32.nd rfl (Or.inl rfl)) pgs_nil)))
     (pss_one (ps_if (PW.pt (pw_or (pt_not (pt_val (pe_callB call_isinst (by rfl) T.isi b_isi (pa_cons (pv 10) (pa_cons (pe_ty T.str (by rfl) b_str) pa_nil))))) (pw_or (pt_cmpR op_notIn_seq (pv 10) (pv 0) (by with_unfolding_all rfl)) (pw_or (pt_cmp (pc_din hu (pv 10) (pv 6))) (pw_or1 (pt_cmpR op_in_seq (pv 10) (pe_slice sl_list (pv 8) po_none (po_some (pv 9))) (by with_unfolding_all rfl))))))) (pss_one (ps_ret pe_bl)) pss_nil)))
   (pss_cutE (ps_for PassesOwn.never rfl (pi_list (pv 1)) (pg_tup rfl (pgs_cons (pg_name (i := 11) sc_dear32.nd rfl (Or.inl rfl)) (pgs_cons (pg_name (i := 12) sc_dear32.nd rfl (Or.inl rfl)) (pgs_cons (pg_name (i := 13) sc_dear32.nd rfl (Or.inl rfl)) (pgs_cons (pg_name (i := 14) sc_dear32.nd rfl (Or.inl rfl)) (pgs_cons (pg_name (i := 15) sc_dear32.nd rfl (Or.inl rfl)) pgs_nil))))))
     (pss_cutE (ps_if (PW.pt (pw_and (pt_cmpR op_in_seq (pv 12) (pv 8) (by with_unfolding_all rfl)) (pw_and1 (pt_cmpR op_notIn_seq (pv 13) (pv 8) (by with_unfolding_all rfl))))) (pss_one (ps_ret pe_bl)) pss_nil)
   (pss_one (ps_if (PW.pt (pw_and (pt_cmp (pc_din hu (pv 12) (pv 6))) (pw_and1 (pt_cmpR op_notIn_seq (pv 13) (pv 8) (by with_unfolding_all rfl)))))
       (pss_one (ps_if (PW.pt (pw_or (pt_cmp (pc_dnotin hu (pv 13) (pv 6))) (pw_or1 (pt_cmpR op_gt (pe_dget hu (pv 6) (pv 13) (fun _ _ => rfl)) (pe_op op_add (pe_dget hu (pv 6) (pv 12) (fun _ _ => rfl)) (pv 15)) (nomark _))))) (pss_one (ps_ret pe_bl)) pss_nil)) pss_nil))))
   (pss_cutE (ps_if (PW.pt (pw_or (PW.pt (pw_and (pt_cmp (pc_dnotin hu (pv 2) (pv 6))) (pw_and1 (pt_cmpR op_notIn_seq (pv 2) (pv 8) (by with_unfolding_all rfl))))) (pw_or1 (pt_cmpR op_in_seq (pv 3) (pv 8) (by with_unfolding_all rfl))))) (pss_one (ps_ret pe_bl)) pss_nil)
   (pss_one (ps_ret (pe_or (pe_cmp (pc_dnotin hu (pv 2) (pv 6))) (pe_or (pe_cmp (pc_dnotin hu (pv 3) (pv 6))) (pe_one (pe_cmpR op_gt (pe_dget hu (pv 6) (pv 3) (fun _ _ => rfl)) (pe_op op_add (pe_dget hu (pv 6) (pv 2) (fun _ _ => rfl)) (pv 4)) (nomark _)))))))))))))), ?_⟩
  have fin : ∀ {H' : Hp} {x : Bool}, Same H H' → noCostD S a b k (.list ds) = x → Q (.bl x) H' := fun {H' x} s e => by
   have := q H' s
   rw [e] at this
   exact this
  obtain ⟨m, l, xs, rfl, rfl, hl, pr⟩ := pd.list_of
  have hxl : xs.length = ds.length := Paired.length pr
  refine ⟨_, rfl, l, xs, rfl, .inl (SqL.of hl), rfl, _, rfl, ?_⟩
  show if (!decide (V.int ((xs.length : Nat) : Int) = V.int 2)) = true then _ else _
  by_cases h2 : xs.length = 2
  ·refine iteFb (by rw [h2]; rfl) ?_
   have hp2 : isPair (.list ds) = true := by
    show decide (ds.length = 2) = true
    exact decide_eq_true (by omega)
   obtain ⟨d0, d1, e2⟩ := isPair_of hp2
   cases e2
   obtain ⟨e0, e1, rfl, rfl, hl0, hl1⟩ := hsh d0 d1 rfl
   cases pr with
   | @cons v0 _ ys1 _ p0 pr3 =>
   cases pr3 with
   | @cons v1 _ ys2 _ p1 pr4 =>
   cases pr4
   obtain ⟨m3, al, zs, em3, rfl, hal, pr5⟩ := p0.list_of
   subst em3
   obtain ⟨m4, dl, us, em4, rfl, hdl, pr6⟩ := p1.list_of
   have em5 : m4 = m3 := by omega
   subst em5
   have hzl : zs.length = e0.length := Paired.length pr5
   have hul : us.length = e1.length := Paired.length pr6
   intro dp hdp
   have s1 := Same.new (o := .dK []) hdp
   have edp : (upd H dp (.dK [])) dp = some (.dK (prKV [])) := upd_same
   generalize upd H dp (.dK []) = H1 at s1 edp
   refine ⟨fun σ' H' => ∃ (kv : List (Str × Int)) (o7 : Option V), σ' = [some (.ref pa), some (.ref ta), some (.str a), some (.str b), some (.int k), some (.ref l), some (.ref dp), o7, none, none, none, none, none, none, none, none] ∧ Same H H' ∧ H' dp = some (.dK (prKV kv)) ∧ pricesP S.pl (.list e0) = some kv, ?_, ?_⟩
   ·refine ⟨_, rfl, l, _, _, .ref al, rfl, rfl, SqL.of (s1 _ _ hl), atI_nat (j := 0) rfl, al, rfl, ⟨_, SqL.of (s1 _ _ hal)⟩, for_list (K := K) (a := al) (xs := zs) (fun i σ' H' => ∃ (kv : List (Str × Int)) (o7 : Option V), σ' = [some (.ref pa), some (.ref ta), some (.str a), some (.str b), some (.int k), some (.ref l), some (.ref dp), o7, none, none, none, none, none, none, none, none] ∧ Same H H' ∧ H' dp = some (.dK (prKV kv)) ∧ kv.length = i ∧ pricesD S.pl e0 [] = pricesD S.pl (e0.drop i) kv)
     ⟨[], none, rfl, s1, edp, rfl, rfl⟩ (fun i σ' H' _ h => ?_) (fun i x σ' H' hx h => ?_) (fun σ' H' h => ?_)⟩
    ·obtain ⟨_, _, _, s2, _⟩ := h
     exact SqL.of (s2 _ _ hal)
    ·obtain ⟨kv, o, rfl, s2, ekv, hk, hpr⟩ := h
     obtain ⟨di, hd, pdi⟩ := pair_get pr5 hx
     have hi : i < e0.length := (List.getElem?_eq_some_iff.mp hd).1
     have hdrop : e0.drop i = di :: e0.drop (i + 1) := by
      rw [List.drop_eq_getElem_cons hi]
      have := (List.getElem?_eq_some_iff.mp hd).2
      rw [this]
     rw [hdrop] at hpr
     have bad : priceRow S.pl di = none → Q (.bl false) H' := fun z => fin s2 (noCost_none (hpr.trans (prices_bad z)))
     have pdx := pdi.same s2
     obtain ⟨t0, ty, kl, _⟩ := PD.ty (K := K) pdx
     refine ⟨_, rfl, x, "list", t0, isL di, rfl, ty, kl, _, rfl, ?_⟩
     have nopair : isPair di = false → priceRow S.pl di = none := row_nopair
     cases eL : isL di with
     | false =>
      refine iteT (iteT (bad (nopair ?_)))
      cases di <;> first | (cases eL; done) | rfl
     | true =>
      obtain ⟨ex, rfl⟩ : ∃ e, di = .list e := by cases di <;> first | exact ⟨_, rfl⟩ | cases eL
      obtain ⟨m6, ra, ys, em6, rfl, hra, pr7⟩ := pdx.list_of
      subst em6
      have hyl : ys.length = ex.length := Paired.length pr7
      refine iteF ⟨_, rfl, ra, _, rfl, .inl (SqL.of hra), rfl, _, rfl, ?_⟩
      show if (!decide (V.int ((ys.length : Nat) : Int) = V.int 2)) = true then _ else _
      by_cases hy2 : ys.length = 2
      ·refine iteFb (by rw [hy2]; rfl) ?_
       have hp3 : isPair (.list ex) = true := by
        show decide (ex.length = 2) = true
        exact decide_eq_true (by omega)
       obtain ⟨c0, c1, e3⟩ := isPair_of hp3
       cases e3
       cases pr7 with
       | @cons w0 _ ws1 _ q0 pr8 =>
       cases pr8 with
       | @cons w1 _ ws2 _ q1 pr9 =>
       cases pr9
       obtain ⟨t1, ty1, _, ks⟩ := PD.ty (K := K) q0
       refine ⟨_, rfl, ra, _, _, w0, rfl, rfl, SqL.of hra, atI_nat (j := 0) rfl, w0, "str", t1, isS c0, rfl, ty1, ks, _, rfl, ?_⟩
       cases eS : isS c0 with
       | false =>
        refine iteT (iteT (bad ?_))
        cases c0 <;> first | (cases eS; done) | rfl
       | true =>
        obtain ⟨y, rfl, rfl⟩ := q0.str_of eS
        refine iteF ⟨_, rfl, ra, _, _, .str y, rfl, rfl, SqL.of hra, atI_nat (j := 0) rfl, _, rfl, pa, _, rfl, .inl (SqL.of (s2 _ _ PA.pl)), rfl, flat_strs _, _, rfl, ?_⟩
        show if (if true = true then !inV (.str y) (S.pl.map V.str) else inV (.str y) (S.pl.map V.str)) = true then _ else _
        rw [if_pos rfl, inV_str]
        by_cases hy : y ∈ S.pl
        ·rw [decide_eq_true hy]
         refine iteF ?_
         obtain ⟨t2, ty2, ki, kb⟩ := PD.tyI (K := K) q1
         refine ⟨_, rfl, ra, _, _, w1, rfl, rfl, SqL.of hra, atI_nat (j := 1) rfl, w1, "int", t2, _, rfl, ty2, ki, _, rfl, ?_⟩
         have notI : isI c1 = false → priceRow S.pl (.list [.str y, c1]) = none := fun z => by cases c1 <;> first | (cases z; done) | rfl
         cases ei : isI c1 with
         | false =>
          cases eb : isB c1 with
          | false => exact iteT (bad (notI ei))
          | true => exact iteF ⟨_, rfl, ra, _, _, w1, rfl, rfl, SqL.of hra, atI_nat (j := 1) rfl, w1, "bool", t2, _, rfl, ty2, kb, _, rfl, iteTb eb (bad (notI ei))⟩
         | true =>
          have eb : isB c1 = false := by cases c1 <;> first | (cases ei; done) | rfl
          obtain ⟨t, rfl⟩ : ∃ t, c1 = .int t := by cases c1 <;> first | exact ⟨_, rfl⟩ | cases ei
          have ev1 := q1.int_of
          subst ev1
          have erow : priceRow S.pl (.list [.str y, .int t]) = some (y, t) := by
           show (if y ∈ S.pl then some (y, t) else none) = _
           rw [if_pos hy]
          refine iteF ⟨_, rfl, ra, _, _, .int t, rfl, rfl, SqL.of hra, atI_nat (j := 1) rfl, .int t, "bool", t2, _, rfl, ty2, kb, _, rfl, iteFb eb ⟨_, rfl, ra, _, _, .str y, rfl, rfl, SqL.of hra, atI_nat (j := 0) rfl, _, rfl, dp, _, rfl, DGet.k (k := Sum.inr y) ekv, _, rfl, ?_⟩⟩
          rw [pr_val, Option.isSome_map, pr_in]
          by_cases hin : y ∈ kv.map (·.1)
          ·rw [decide_eq_true hin]
           exact iteT (fin s2 (noCost_none (hpr.trans (prices_dup erow hin))))
          ·rw [decide_eq_false hin]
           have hnone : valV (prKV kv) (Sum.inr y : Key) = none := by rw [pr_val, prO_none hin]; rfl
           refine iteF ⟨_, rfl, ra, _, _, .int t, rfl, rfl, SqL.of hra, atI_nat (j := 1) rfl, _, rfl, _, rfl, ra, _, _, .str y, rfl, rfl, SqL.of hra, atI_nat (j := 0) rfl, dp, _, rfl, DPut.k (k := Sum.inr y) ekv (small1000 (by unfold prKV; rw [List.length_map]; omega)), ?_⟩
           rw [putK_new _ hnone]
           refine ⟨kv ++ [(y, t)], _, rfl, fun bb ob z => ?_, ?_, by rw [List.length_append, hk]; rfl, hpr.trans (prices_go erow hin)⟩
           ·rw [upd_ne (ne_of_none z hdp)]
            exact s2 _ _ z
           ·rw [upd_same]
            unfold prKV
            rw [List.map_append]
            rfl
        ·rw [decide_eq_false hy]
         exact iteT (bad (row_noplace hy))
      ·refine iteTb ?_ (iteT (bad (nopair ?_)))
       ·have hne : ¬ V.int ((ys.length : Nat) : Int) = V.int 2 := fun z => by
         have h3 : ((ys.length : Nat) : Int) = 2 := by injection z
         exact hy2 (by omega)
        rw [decide_eq_false hne]
        rfl
       ·show decide (ex.length = 2) = false
        exact decide_eq_false (by omega)
    ·obtain ⟨kv, o, rfl, s2, ekv, hk, hpr⟩ := h
     rw [hzl, List.drop_length] at hpr
     exact ⟨kv, o, rfl, s2, ekv, hpr⟩
   rintro σ2 H2 ⟨kv, o7, rfl, s2, ekv, hkv⟩
   have e0' := noCost_some (a := a) (b := b) (k := k) (d1 := .list e1) hkv
   refine ⟨_, rfl, l, _, _, .ref dl, rfl, rfl, SqL.of (s2 _ _ hl), atI_nat (j := 1) rfl, ?_⟩
   refine ⟨fun σ' H' => ∃ (ws : List Str) (o9 o10 : Option V), σ' = [some (.ref pa), some (.ref ta), some (.str a), some (.str b), some (.int k), some (.ref l), some (.ref dp), o7, some (.ref dl), o9, o10, none, none, none, none, none] ∧ Same H2 H' ∧ e1 = ws.map PyData.str ∧ us = ws.map V.str ∧ unlikeB S.pl ws = true ∧ (ws.any fun x => (prO kv x).isSome) = false, ?_, ?_⟩
   ·refine ⟨_, rfl, dl, rfl, ⟨_, SqL.of (s2 _ _ hdl)⟩, for_enum (K := K) (a := dl) (xs := us) (fun i σ' H' => ∃ (ws : List Str) (o9 o10 : Option V), σ' = [some (.ref pa), some (.ref ta), some (.str a), some (.str b), some (.int k), some (.ref l), some (.ref dp), o7, some (.ref dl), o9, o10, none, none, none, none, none] ∧ Same H2 H' ∧ e1.take i = ws.map PyData.str ∧ us.take i = ws.map V.str ∧ (∀ x ∈ ws, x ∈ S.pl) ∧ ws.Nodup ∧ (ws.any fun x => (prO kv x).isSome) = false)
     ⟨[], none, none, rfl, Same.refl _, rfl, rfl, fun _ h => (nomatch h), List.nodup_nil, rfl⟩ (fun i σ' H' _ h => ?_) (fun i x σ' H' t hx h ht => ?_) (fun σ' H' h => ?_)⟩
    ·obtain ⟨_, _, _, _, s3, _⟩ := h
     exact SqL.of (s3 _ _ (s2 _ _ hdl))
    ·obtain ⟨ws, o9, o10, rfl, s3, h1, h2', hs, hnd, hno⟩ := h
     obtain ⟨di, hd, pdi⟩ := pair_get pr6 hx
     have hi : i < us.length := (List.getElem?_eq_some_iff.mp hx).1
     have s4 := s3.upd (o := .tup [.int i, x]) ht
     have et : (upd H' t (.tup [.int i, x])) t = some (.tup [.int i, x]) := upd_same
     generalize upd H' t (.tup [.int i, x]) = H4 at s4 et
     have s04 := s2.trans s4
     have memd := List.mem_of_getElem? hd
     refine ⟨t, _, rfl, SqT.of et, rfl, _, _, rfl, _, _, rfl, rfl, ?_⟩
     obtain ⟨ty, hty, _, ks⟩ := PD.ty (K := K) (pdi.same s04)
     refine ⟨_, rfl, x, "str", ty, isS di, rfl, hty, ks, _, rfl, ?_⟩
     cases es' : isS di with
     | false =>
      refine iteT (iteT (fin s04 ?_))
      rw [e0', names_bad memd es']
      exact Bool.and_false _
     | true =>
      obtain ⟨y, rfl, rfl⟩ := pdi.str_of es'
      have sub : ∀ {z : Bool}, (∀ vs : List Str, y ∈ vs → e1 = vs.map PyData.str → (unlikeB S.pl vs && noCostK S a b k kv vs) = false) → noCostD S a b k (.list [.list e0, .list e1]) = false := fun {z} hh => by
       rw [e0']
       cases en : namesOf (.list e1) with
       | none => exact Bool.and_false _
       | some vs =>
        have e5 : e1 = vs.map PyData.str := strsOf_some (show strsOf e1 = some vs from en)
        have hy : y ∈ vs := by
         rw [e5] at memd
         obtain ⟨y', hy', ey⟩ := List.mem_map.mp memd
         cases ey
         exact hy'
        have := hh vs hy e5
        rw [e5, unlikeD_list]
        exact this
      refine iteF ⟨_, rfl, _, rfl, pa, _, rfl, .inl (SqL.of (s04 _ _ PA.pl)), rfl, flat_strs _, _, rfl, ?_⟩
      show if (if true = true then !inV (.str y) (S.pl.map V.str) else inV (.str y) (S.pl.map V.str)) = true then _ else _
      rw [if_pos rfl, inV_str]
      by_cases hy : y ∈ S.pl
      ·rw [decide_eq_true hy]
       refine iteF ⟨_, rfl, _, rfl, dp, _, rfl, DGet.k (k := Sum.inr y) (s4 _ _ ekv), _, rfl, ?_⟩
       rw [pr_val, Option.isSome_map]
       cases ep : (prO kv y).isSome with
       | true =>
        refine iteT (iteT (fin s04 (sub (z := true) fun vs hvs _ => ?_)))
        have : (vs.any fun x => (prO kv x).isSome) = true := List.any_eq_true.mpr ⟨y, hvs, ep⟩
        unfold noCostK
        rw [this]
        exact Bool.and_false _
       | false =>
        refine iteF ⟨_, rfl, _, rfl, _, rfl, _, rfl, dl, _, rfl, SqL.of (s04 _ _ hdl), fun c hc => ?_⟩
        have ec : cutV us none (some ((i : Nat) : Int)) = ws.map V.str := by rw [cutV_to _ (by omega), h2']
        rw [ec]
        have s5 := s4.upd (o := .lst (ws.map V.str)) hc
        refine ⟨c, _, rfl, .inl (SqL.of upd_same), rfl, flat_strs _, _, rfl, ?_⟩
        show if (if false = true then !inV (.str y) (ws.map V.str) else inV (.str y) (ws.map V.str)) = true then _ else _
        rw [if_neg Bool.false_ne_true, inV_str]
        have etk : e1.take (i + 1) = (ws ++ [y]).map PyData.str := by
         rw [List.take_add_one, hd, h1, List.map_append]
         rfl
        by_cases hw : y ∈ ws
        ·rw [decide_eq_true hw]
         refine iteT (fin (s2.trans s5) (sub (z := true) fun vs _ e5 => ?_))
         have hnn : ¬ vs.Nodup := fun hn => by
          have hp : ws ++ [y] = vs.take (i + 1) := by
           have := etk
           rw [e5, ← List.map_take] at this
           exact (List.map_inj_right (fun _ _ z => PyData.str.inj z)).mp this.symm
          have h3 : (ws ++ [y]).Nodup := by rw [hp]; exact hn.sublist (List.take_sublist _ _)
          exact (List.nodup_append.mp h3).2.2 y hw y (by simp) rfl
         have : unlikeB S.pl vs = false := by
          unfold unlikeB
          rw [decide_eq_false hnn, Bool.and_false]
         rw [this]
         rfl
        ·rw [decide_eq_false hw]
         refine iteF ⟨ws ++ [y], _, _, rfl, s5, etk, ?_, fun z hz => ?_, ?_, ?_⟩
         ·rw [List.take_add_one, hx, h2', List.map_append]
          rfl
         ·rcases List.mem_append.mp hz with hz | hz
          ·exact hs z hz
          ·rw [List.mem_singleton.mp hz]; exact hy
         ·rw [List.nodup_append]
          refine ⟨hnd, by simp, fun p hp q hq z => ?_⟩
          rw [List.mem_singleton.mp hq] at z
          exact hw (z ▸ hp)
         ·rw [List.any_append, hno]
          show (false || ((prO kv y).isSome || false)) = false
          rw [ep]
          rfl
      ·rw [decide_eq_false hy]
       refine iteT (iteT (fin s04 (sub (z := true) fun vs hvs _ => ?_)))
       have : unlikeB S.pl vs = false := by
        unfold unlikeB
        have : (vs.all fun x => decide (x ∈ S.pl)) = false := by
         rw [Bool.eq_false_iff]
         intro z
         exact hy (of_decide_eq_true (List.all_eq_true.mp z y hvs))
        rw [this]
        rfl
       rw [this]
       rfl
    ·obtain ⟨ws, o9, o10, rfl, s3, h1, h2', hs, hnd, hno⟩ := h
     rw [List.take_length] at h2'
     rw [hul, List.take_length] at h1
     refine ⟨ws, o9, o10, rfl, s3, h1, h2', ?_, hno⟩
     unfold unlikeB
     rw [decide_eq_true hnd, Bool.and_true]
     exact List.all_eq_true.mpr fun x hx => decide_eq_true (hs x hx)
   rintro σ3 H3 ⟨ws, o9, o10, rfl, s3, rfl, rfl, hub, hno⟩
   have s03 := s2.trans s3
   have ekv3 := s3 _ _ ekv
   have hdl3 := s03 _ _ hdl
   have PA3 := PA.same s03
   have e1' : noCostD S a b k (.list [.list e0, .list (ws.map PyData.str)]) = (((prO kv a).isSome || decide (a ∈ ws)) && (!decide (b ∈ ws) && (S.ti.all (keepRow kv ws) && aboveK kv a b k))) := by
    rw [e0', unlike_names, hub]
    show noCostK S a b k kv ws = _
    unfold noCostK
    rw [hno]
    rfl
   obtain ⟨LT, RL, eta⟩ := PA3.ti
   have hLT : LT.length = S.ti.length := by rw [← RL.1, List.length_map]
   refine ⟨fun σ' H' => H' = H3 ∧ S.ti.all (keepRow kv ws) = true ∧ ∃ o11 o12 o13 o14 o15, σ' = [some (.ref pa), some (.ref ta), some (.str a), some (.str b), some (.int k), some (.ref l), some (.ref dp), o7, some (.ref dl), o9, o10, o11, o12, o13, o14, o15], ?_, ?_⟩
   ·refine ⟨_, rfl, ta, rfl, ⟨_, SqL.of eta⟩, for_list (K := K) (a := ta) (xs := LT.map fun q => V.ref q.2) (fun j σ' H' => H' = H3 ∧ (S.ti.take j).all (keepRow kv ws) = true ∧ ∃ o11 o12 o13 o14 o15, σ' = [some (.ref pa), some (.ref ta), some (.str a), some (.str b), some (.int k), some (.ref l), some (.ref dp), o7, some (.ref dl), o9, o10, o11, o12, o13, o14, o15])
     ⟨rfl, rfl, _, _, _, _, _, rfl⟩ (fun j σ' H' _ h => by rw [h.1]; exact SqL.of eta) (fun j y σ' H' hy h => ?_) (fun σ' H' h => ?_)⟩
    ·obtain ⟨rfl, hj, o11, o12, o13, o14, o15, rfl⟩ := h
     rw [List.getElem?_map] at hy
     cases eq : LT[j]? with
     | none => rw [eq] at hy; cases hy
     | some qq =>
      rw [eq] at hy
      cases hy
      have ht := RL.2 qq (List.mem_of_getElem? eq)
      have er : S.ti[j]? = some qq.1 := by rw [← RL.1, List.getElem?_map, eq]; rfl
      have nx : keepRow kv ws qq.1 = true → (S.ti.take (j + 1)).all (keepRow kv ws) = true := fun h => by
       rw [List.take_add_one, er, List.all_append, hj]
       show (true && (keepRow kv ws qq.1 && true)) = true
       rw [h]
       rfl
      have bad : keepRow kv ws qq.1 = false → noCostD S a b k (.list [.list e0, .list (ws.map PyData.str)]) = false := fun h => by
       have : S.ti.all (keepRow kv ws) = false := by
        rw [Bool.eq_false_iff]
        intro z
        have := List.all_eq_true.mp z _ (List.mem_of_getElem? er)
        rw [h] at this
        cases this
       rw [e1', this]
       simp
      refine ⟨qq.2, _, rfl, SqT.of ht, rfl, _, _, rfl, _, _, rfl, _, _, rfl, _, _, rfl, _, _, rfl, rfl, ?_⟩
      have e5 : ∀ b, (decide (qq.1.a ∈ ws) && !decide (qq.1.b ∈ ws)) = false → keepTail kv ws qq.1 = b → keepRow kv ws qq.1 = b := fun b h1 h2 => by
       unfold keepRow
       rw [h1, h2]
       rfl
      refine ⟨fun σ2 H2' => H2' = H' ∧ σ2 = [some (.ref pa), some (.ref ta), some (.str a), some (.str b), some (.int k), some (.ref l), some (.ref dp), o7, some (.ref dl), o9, o10, some (.str qq.1.nm), some (.str qq.1.a), some (.str qq.1.b), some (.int qq.1.w), some (.int qq.1.c)] ∧ (decide (qq.1.a ∈ ws) && !decide (qq.1.b ∈ ws)) = false, ?_, ?_⟩
      ·refine ⟨_, rfl, _, rfl, dl, ws.map V.str, rfl, .inl (SqL.of hdl3), rfl, flat_strs _, _, rfl, ?_⟩
       show if (if false = true then !inV (.str qq.1.a) (ws.map V.str) else inV (.str qq.1.a) (ws.map V.str)) = true then _ else _
       rw [if_neg Bool.false_ne_true, inV_str]
       by_cases ha : qq.1.a ∈ ws
       ·rw [decide_eq_true ha]
        refine iteT ⟨_, rfl, _, rfl, dl, ws.map V.str, rfl, .inl (SqL.of hdl3), rfl, flat_strs _, _, rfl, ?_⟩
        show if (if true = true then !inV (.str qq.1.b) (ws.map V.str) else inV (.str qq.1.b) (ws.map V.str)) = true then _ else _
        rw [if_pos rfl, inV_str]
        by_cases hb : qq.1.b ∈ ws
        ·rw [decide_eq_true hb]
         exact iteF ⟨rfl, rfl, rfl⟩
        ·rw [decide_eq_false hb]
         refine iteT (fin s03 (bad ?_))
         unfold keepRow
         rw [decide_eq_true ha, decide_eq_false hb]
         rfl
       ·rw [decide_eq_false ha]
        exact iteF (iteF ⟨rfl, rfl, rfl⟩)
      rintro σ2 H2' ⟨rfl, rfl, hfst⟩
      refine ⟨_, rfl, _, rfl, dp, _, rfl, DGet.k (k := Sum.inr qq.1.a) ekv3, _, rfl, ?_⟩
      rw [pr_val, Option.isSome_map]
      cases ea : prO kv qq.1.a with
      | none => exact iteF (iteF ⟨rfl, nx (e5 true hfst (by unfold keepTail; rw [ea])), _, _, _, _, _, rfl⟩)
      | some xa =>
       refine iteT ⟨_, rfl, _, rfl, dl, ws.map V.str, rfl, .inl (SqL.of hdl3), rfl, flat_strs _, _, rfl, ?_⟩
       show if (if true = true then !inV (.str qq.1.b) (ws.map V.str) else inV (.str qq.1.b) (ws.map V.str)) = true then _ else _
       rw [if_pos rfl, inV_str]
       by_cases hb : qq.1.b ∈ ws
       ·rw [decide_eq_true hb]
        exact iteF ⟨rfl, nx (e5 true hfst (by unfold keepTail; rw [ea, decide_eq_true hb]; rfl)), _, _, _, _, _, rfl⟩
       ·rw [decide_eq_false hb]
        refine iteT ⟨_, rfl, _, rfl, dp, _, rfl, DGet.k (k := Sum.inr qq.1.b) ekv3, _, rfl, ?_⟩
        rw [pr_val, Option.isSome_map]
        cases eb : prO kv qq.1.b with
        | none => exact iteT (iteT (fin s03 (bad (e5 false hfst (by unfold keepTail; rw [ea, eb, decide_eq_false hb]; rfl)))))
        | some xb =>
         have vb : valV (prKV kv) (Sum.inr qq.1.b : Key) = some (.int xb) := by rw [pr_val, eb]; rfl
         have va : valV (prKV kv) (Sum.inr qq.1.a : Key) = some (.int xa) := by rw [pr_val, ea]; rfl
         refine iteF ⟨_, rfl, _, rfl, dp, .int xb, rfl, by rw [← vb]; exact DGet.k (k := Sum.inr qq.1.b) ekv3, _, rfl, _, rfl, dp, .int xa, rfl, by rw [← va]; exact DGet.k (k := Sum.inr qq.1.a) ekv3, _, rfl, _, _, rfl, rfl, _, _, rfl, rfl, _, rfl, ?_⟩
         show if decide (xa + qq.1.c < xb) = true then _ else _
         by_cases hlt : xa + qq.1.c < xb
         ·rw [decide_eq_true hlt]
          refine iteT (fin s03 (bad (e5 false hfst ?_)))
          unfold keepTail
          rw [ea, eb, decide_eq_false hb]
          exact decide_eq_false (by omega)
         ·rw [decide_eq_false hlt]
          refine iteF ⟨rfl, nx (e5 true hfst ?_), _, _, _, _, _, rfl⟩
          unfold keepTail
          rw [ea, eb, decide_eq_false hb]
          exact decide_eq_true (by omega)
    ·obtain ⟨rfl, hj, o11, o12, o13, o14, o15, rfl⟩ := h
     have hT : (LT.map fun q => V.ref q.2).length = S.ti.length := by rw [List.length_map, hLT]
     rw [hT, List.take_length] at hj
     exact ⟨rfl, hj, _, _, _, _, _, rfl⟩
   rintro σ4 H4 ⟨rfl, hkeep, o11, o12, o13, o14, o15, rfl⟩
   rw [hkeep] at e1'
   refine ⟨fun σ' H' => H' = H4 ∧ σ' = [some (.ref pa), some (.ref ta), some (.str a), some (.str b), some (.int k), some (.ref l), some (.ref dp), o7, some (.ref dl), o9, o10, o11, o12, o13, o14, o15] ∧ ((prO kv a).isSome || decide (a ∈ ws)) = true ∧ b ∉ ws, ?_, ?_⟩
   ·have badb : b ∈ ws → noCostD S a b k (.list [.list e0, .list (ws.map PyData.str)]) = false := fun hb => by
     rw [e1', decide_eq_true hb]
     simp
    refine ⟨_, rfl, _, rfl, dp, _, rfl, DGet.k (k := Sum.inr a) ekv3, _, rfl, ?_⟩
    rw [pr_val, Option.isSome_map]
    cases ea : (prO kv a).isSome with
    | true =>
     refine iteF (iteF ⟨_, rfl, _, rfl, dl, ws.map V.str, rfl, .inl (SqL.of hdl3), rfl, flat_strs _, _, rfl, ?_⟩)
     show if (if false = true then !inV (.str b) (ws.map V.str) else inV (.str b) (ws.map V.str)) = true then _ else _
     rw [if_neg Bool.false_ne_true, inV_str]
     by_cases hb : b ∈ ws
     ·rw [decide_eq_true hb]
      exact iteT (fin s03 (badb hb))
     ·rw [decide_eq_false hb]
      exact iteF ⟨rfl, rfl, rfl, hb⟩
    | false =>
     refine iteT ⟨_, rfl, _, rfl, dl, ws.map V.str, rfl, .inl (SqL.of hdl3), rfl, flat_strs _, _, rfl, ?_⟩
     show if (if true = true then !inV (.str a) (ws.map V.str) else inV (.str a) (ws.map V.str)) = true then _ else _
     rw [if_pos rfl, inV_str]
     by_cases ha : a ∈ ws
     ·rw [decide_eq_true ha]
      refine iteF ⟨_, rfl, _, rfl, dl, ws.map V.str, rfl, .inl (SqL.of hdl3), rfl, flat_strs _, _, rfl, ?_⟩
      show if (if false = true then !inV (.str b) (ws.map V.str) else inV (.str b) (ws.map V.str)) = true then _ else _
      rw [if_neg Bool.false_ne_true, inV_str]
      by_cases hb : b ∈ ws
      ·rw [decide_eq_true hb]
       exact iteT (fin s03 (badb hb))
      ·rw [decide_eq_false hb]
       exact iteF ⟨rfl, rfl, rfl, hb⟩
     ·rw [decide_eq_false ha]
      refine iteT (iteT (fin s03 ?_))
      rw [e1', ea, decide_eq_false ha]
      rfl
   rintro σ5 H5 ⟨rfl, rfl, hok, hb⟩
   have e2' : noCostD S a b k (.list [.list e0, .list (ws.map PyData.str)]) = aboveK kv a b k := by
    rw [e1', hok, decide_eq_false hb]
    rfl
   unfold aboveK at e2'
   refine ⟨_, rfl, _, rfl, dp, _, rfl, DGet.k (k := Sum.inr a) ekv3, _, rfl, ?_⟩
   rw [pr_val, Option.isSome_map]
   cases ea : prO kv a with
   | none =>
    rw [ea] at e2'
    exact iteT (fin s03 e2')
   | some xa =>
    rw [ea] at e2'
    refine iteF ⟨_, rfl, _, rfl, dp, _, rfl, DGet.k (k := Sum.inr b) ekv3, _, rfl, ?_⟩
    rw [pr_val, Option.isSome_map]
    cases eb : prO kv b with
    | none =>
     rw [eb] at e2'
     exact iteT (fin s03 e2')
    | some xb =>
     rw [eb] at e2'
     have va : valV (prKV kv) (Sum.inr a : Key) = some (.int xa) := by rw [pr_val, ea]; rfl
     have vb : valV (prKV kv) (Sum.inr b : Key) = some (.int xb) := by rw [pr_val, eb]; rfl
     exact iteF ⟨_, rfl, _, rfl, dp, _, rfl, by rw [← vb]; exact DGet.k (k := Sum.inr b) ekv3, _, rfl, _, rfl, dp, _, rfl, by rw [← va]; exact DGet.k (k := Sum.inr a) ekv3, _, rfl, _, _, rfl, rfl, _, _, rfl, rfl, fin s03 e2'⟩
  ·refine iteTb ?_ (fin (Same.refl H) (noCost_pair ?_))
   ·have hne : ¬ V.int ((xs.length : Nat) : Int) = V.int 2 := fun z => by
     have h3 : ((xs.length : Nat) : Int) = 2 := by injection z
     exact h2 (by omega)
    rw [decide_eq_false hne]
    rfl
   ·show decide (ds.length = 2) = false
    exact decide_eq_false (by omega)
end
end Net
namespace Net
open PySem L2
def DLen : Nat → PyData → Prop
 | n + 1, .list ds => ds.length ≤ 1000 ∧ ∀ x ∈ ds, DLen n x
 | _, _ => True
def spCopy (n : Nat) : Sp := fun vs H Q _ => ∃ (v : V) (d : PyData), vs = [v] ∧ PD H n v d ∧ DLen n d ∧ ∀ (v' : V) (H' : Hp), Same H H' → PD H' n v' d → Q v' H'
theorem paired_same {H H' : Hp} {n : Nat} (s : Same H H') : ∀ {xs : List V} {ds : List PyData}, Paired (PD H n) xs ds → Paired (PD H' n) xs ds
 | _, _, .nil => .nil
 | _, _, .cons h t => .cons (h.same s) (paired_same s t)
theorem paired_snoc {H : Hp} {n : Nat} {x : V} {d : PyData} (h : PD H n x d) : ∀ {xs : List V} {ds : List PyData}, Paired (PD H n) xs ds → Paired (PD H n) (xs ++ [x]) (ds ++ [d])
 | _, _, .nil => .cons h .nil
 | _, _, .cons a t => .cons a (paired_snoc h t)
section
variable {P : Program} {w : World} {K : PySem.W.Frag} {mg : Str → Option Value} {base : Heap} {C : Addr}
theorem sc_copy : FnScope ["_law_paper"] ["_law_paper"] (defScope s_l_copy) := ⟨rfl, rfl, rfl, by decide +kernel, rfl, by decide +kernel, by decide +kernel⟩
theorem ok_copy0 {f : Addr} {fd : FuncData} (F : Fun K "_law_copy" "_law_copy" s_l_copy f fd) (T : Txt K mg C) : FnOk P w K mg base CX0 1 f fd ["_law_paper"] (spCopy 0) := by
 refine F.ok sc_copy (fun vs H Q E h => ?_) (fun cdv A outer s H vs Q E hr h => ?_)
 ·obtain ⟨v, d, rfl, _⟩ := h
  rfl
 ·obtain ⟨v, d, rfl, pd, dl, q⟩ := h
  refine ⟨_, (pss_cons (ps_if (pt_val (pe_callB call_isinst (by rfl) T.isi b_isi (pa_cons (pv 0) (pa_cons (pe_ty T.list (by rfl) b_list) pa_nil)))) (pss_one ps_never) pss_nil)
   (pss_one (ps_ret (pv 0)))), ?_⟩
  obtain ⟨t, ty, kl, _⟩ := PD.ty (K := K) pd
  refine ⟨_, rfl, v, "list", t, isL d, rfl, ty, kl, _, rfl, ?_⟩
  cases el : isL d with
  | false => exact iteF ⟨_, rfl, q v H (Same.refl H) pd⟩
  | true =>
   obtain ⟨ds, rfl⟩ : ∃ e, d = .list e := by cases d <;> first | exact ⟨_, rfl⟩ | cases el
   obtain ⟨m, l, xs, e, _⟩ := pd.list_of
   cases e
theorem ok_copyS {f : Addr} {fd : FuncData} {n : Nat} (F : Fun K "_law_copy" "_law_copy" s_l_copy f fd) (T : Txt K mg C) (ih : Can P w K mg base (n + 1) "_law_copy" ["_law_paper"] (spCopy n)) : FnOk P w K mg base CX0 (n + 2) f fd ["_law_paper"] (spCopy (n + 1)) := by
 refine F.ok sc_copy (fun vs H Q E h => ?_) (fun cdv A outer s H vs Q E hr h => ?_)
 ·obtain ⟨v, d, rfl, _⟩ := h
  rfl
 ·obtain ⟨v, d, rfl, pd, dl, q⟩ := h
  have nd1 : List.Nodup (["_law_one_here"] : List Str) := by decide +kernel
  refine ⟨_, (pss_cons (ps_if (pt_val (pe_callB call_isinst (by rfl) T.isi b_isi (pa_cons (pv 0) (pa_cons (pe_ty T.list (by rfl) b_list) pa_nil))))
    (pss_one (ps_ret (pe_comp (N := ["_law_one_here"]) (xs := 1) (js := []) rfl (compScope_of rfl) (pi_list (pv 0)) (fun _ _ _ _ => pg_name (i := 0) nd1 rfl (Or.inl rfl)) (fun _ _ _ _ => pts_nil) (fun _ _ _ _ => pe_callC ih hr (by rfl) (pa_cons (pv 0) pa_nil))))) pss_nil)
   (pss_one (ps_ret (pv 0)))), ?_⟩
  obtain ⟨t, ty, kl, _⟩ := PD.ty (K := K) pd
  refine ⟨_, rfl, v, "list", t, isL d, rfl, ty, kl, _, rfl, ?_⟩
  cases el : isL d with
  | false => exact iteF ⟨_, rfl, q v H (Same.refl H) pd⟩
  | true =>
   obtain ⟨ds, rfl⟩ : ∃ e, d = .list e := by cases d <;> first | exact ⟨_, rfl⟩ | cases el
   obtain ⟨m, l, xs, e, rfl, hl, pr⟩ := pd.list_of
   cases e
   obtain ⟨hlen, hdl⟩ : ds.length ≤ 1000 ∧ ∀ x ∈ ds, DLen n x := dl
   have hxl : xs.length = ds.length := Paired.length pr
   refine iteT ⟨_, rfl, l, rfl, ⟨_, SqL.of hl⟩, comp_list (K := K) (ys := xs) (fun i acc σ' H' => Same H H' ∧ acc.length ≤ i ∧ Paired (PD H' n) acc (ds.take i) ∧ ∃ o, σ' = [o])
    ⟨Same.refl H, Nat.le_refl _, .nil, none, rfl⟩ (fun i acc σ' H' h => h.2.1) ?_ (fun i acc σ' H' _ h => SqL.of (h.1 _ _ hl)) (fun i x acc σ' H' hx h => ?_) (fun acc σ' H' h p hp => ?_)⟩
   ·rw [hxl]
    exact Nat.le_trans hlen (by decide)
   ·obtain ⟨s1, hal, hpa, o, rfl⟩ := h
    obtain ⟨di, hd, pdi⟩ := pair_get pr hx
    refine ⟨_, rfl, x, di, rfl, pdi.same s1, hdl di (List.mem_of_getElem? hd), fun v' H2 s2 pd2 => ⟨s1.trans s2, by rw [List.length_append, List.length_singleton]; omega, ?_, _, rfl⟩⟩
    rw [List.take_add_one, hd]
    exact paired_snoc pd2 (paired_same s2 hpa)
   ·obtain ⟨s1, hal, hpa, o, rfl⟩ := h
    rw [hxl, List.take_length] at hpa
    have z := Same.new (o := .lst acc) hp
    exact q (.ref p) _ (s1.trans z) (.inl ⟨acc, ds, upd_same, rfl, paired_same z hpa⟩)
theorem can_copy (hF : ∃ f fd, Fun K "_law_copy" "_law_copy" s_l_copy f fd ∧ mg "_law_copy" = some (.ref f)) (T : Txt K mg C) : ∀ n : Nat, Can P w K mg base (n + 1) "_law_copy" ["_law_paper"] (spCopy n)
 | 0 => let ⟨f, fd, F, m⟩ := hF; ⟨f, fd, ok_copy0 F T, m, F.kp, F.binds fun _ _ _ _ _ _ us hl => match us, hl with | [_], _ => rfl⟩
 | n + 1 => let ⟨f, fd, F, m⟩ := hF; ⟨f, fd, ok_copyS F T (can_copy hF T n), m, F.kp, F.binds fun _ _ _ _ _ _ us hl => match us, hl with | [_], _ => rfl⟩
end
def fC (way c : Int) : Int := if way = 2 then (if way = 1 then c + 4 else c) * 10 ^ 50 + 1 else (if way = 1 then c + 4 else c)
def reC (f : Int → Int) (r : Row) : Row := { r with c := f r.c }
def spCosts (K : PySem.W.Frag) : Sp := fun vs H Q _ => ∃ (a pa ta : Addr) (S : NS) (ns : List Int), vs = [.ref a, .ref ta] ∧ SqL K H a (ns.map V.int) ∧ PartsAt H pa ta S ∧ GoodS S ∧ (∀ r ∈ S.ti, -4 ≤ r.c ∧ r.c ≤ 4) ∧
 ∀ (tb : Addr) (S' : NS) (H' : Hp), Same H H' → PartsAt H' pa tb S' → GoodS S' → S'.pl = S.pl → Q (.ref tb) H'
theorem good_re {S : NS} (g : GoodS S) {f : Int → Int} (hf : ∀ r ∈ S.ti, -(10 ^ 52) ≤ f r.c ∧ f r.c ≤ 10 ^ 52) : GoodS ⟨S.pl, S.ti.map (reC f)⟩ := by
 refine ⟨g.ndP, g.lenP, g.neP, g.okP, ?_, by show (S.ti.map (reC f)).length ≤ 10; rw [List.length_map]; exact g.lenT, fun r hr => ?_, fun r hr => ?_, fun r hr => ?_⟩
 ·show ((S.ti.map (reC f)).map (·.nm)).Nodup
  rw [List.map_map]
  exact g.ndT
 ·obtain ⟨q, hq, rfl⟩ := List.mem_map.mp hr
  exact g.okT q hq
 ·obtain ⟨q, hq, rfl⟩ := List.mem_map.mp hr
  exact g.neT q hq
 ·obtain ⟨q, hq, rfl⟩ := List.mem_map.mp hr
  exact hf q hq
section
variable {P : Program} {w : World} {K : PySem.W.Frag} {mg : Str → Option Value} {base : Heap} {C : Addr}
abbrev Ncosts : List Str := ["_law_script", "_law_ties", "_law_way", "_law_found", "_law_name_here", "_law_a", "_law_b", "_law_width", "_law_cost"]
theorem sc_costs : FnScope Ncosts ["_law_script", "_law_ties"] (defScope s_l_costs) := ⟨rfl, rfl, rfl, by decide +kernel, rfl, by decide +kernel, by decide +kernel⟩
theorem ok_costs {f : Addr} {fd : FuncData} (F : Fun K "_law_costs" "_law_costs" s_l_costs f fd) (cc : Can P w K mg base 1 "_law_cell_at" ["_law_script", "_law_k"] (spCellD K)) : FnOk P w K mg base CX0 2 f fd ["_law_script", "_law_ties"] (spCosts K) := by
 refine F.ok sc_costs (fun vs H Q E h => ?_) (fun cdv A outer s H vs Q E hr h => ?_)
 ·obtain ⟨a, pa, ta, S, ns, rfl, _⟩ := h
  rfl
 ·obtain ⟨a, pa, ta, S, ns, rfl, hS, PA, g, tight, q⟩ := h
  refine ⟨_, (pss_cons (ps_set (i := 2) sc_costs.nd rfl (Or.inl rfl) (pe_op op_mod (pe_op op_fdiv (pe_callC cc hr (by rfl) (pa_cons (pv 0) (pa_cons pe_int pa_nil))) pe_int) pe_int))
   (pss_cons (ps_set (i := 3) sc_costs.nd rfl (Or.inl rfl) (pe_lst pa_nil))
   (pss_cons (ps_for PassesOwn.never rfl (pi_list (pv 1)) (pg_tup rfl (pgs_cons (pg_name (i := 4) sc_costs.nd rfl (Or.inl rfl)) (pgs_cons (pg_name (i := 5) sc_costs.nd rfl (Or.inl rfl)) (pgs_cons (pg_name (i := 6) sc_costs.nd rfl (Or.inl rfl)) (pgs_cons (pg_name (i := 7) sc_costs.nd rfl (Or.inl rfl)) (pgs_cons (pg_name (i := 8) sc_costs.nd rfl (Or.inl rfl)) pgs_nil))))))
     (pss_cutE (ps_if (pt_cmpR op_eq (pv 2) pe_int (nomark _)) (pss_one (ps_set (i := 8) sc_costs.nd rfl (Or.inl rfl) (pe_op op_add (pv 8) pe_int))) pss_nil)
   (pss_cutE (ps_if (pt_cmpR op_eq (pv 2) pe_int (nomark _)) (pss_one (ps_set (i := 8) sc_costs.nd rfl (Or.inl rfl) (pe_op op_add (pe_op op_mulG (pv 8) (pe_op op_pow pe_int pe_int)) pe_int))) pss_nil)
   (pss_one (ps_expr (pe_bm PySem.F.plainAttrs_list PySem.F.slot_list_append PySem.F.type_list_append mt_append (pv 3) (pa_cons (pe_tup (pa_cons (pv 4) (pa_cons (pv 5) (pa_cons (pv 6) (pa_cons (pv 7) (pa_cons (pv 8) pa_nil)))))) pa_nil)))))))
   (pss_one (ps_ret (pv 3)))))), ?_⟩
  obtain ⟨L, RL, eta⟩ := PA.ti
  have hL : L.length = S.ti.length := by rw [← RL.1, List.length_map]
  refine ⟨_, rfl, a, ns, 0, rfl, hS, by decide, _, _, rfl, rfl, ⟨by decide, by decide⟩, _, _, rfl, rfl, (by show (0 : Int) < 4; decide), ?_⟩
  generalize hway : cellD ns 0 / 264 % 4 = way
  show gName 2 (V.int (cellD ns 0 / 264 % 4)) _ _ _
  rw [hway]
  refine ⟨by decide, fun fl hfl => ?_⟩
  have s1 := Same.new (o := .lst []) hfl
  have e1 : (upd H fl (.lst [])) fl = some (.lst []) := upd_same
  generalize upd H fl (.lst []) = H1 at s1 e1
  refine ⟨_, rfl, ta, rfl, ⟨_, SqL.of (s1 _ _ eta)⟩, for_list (K := K) (a := ta) (xs := L.map fun q => V.ref q.2) (fun i σ' H' => ∃ (L' : List (Row × Addr)) (o4 o5 o6 o7 o8 : Option V), σ' = [some (.ref a), some (.ref ta), some (.int way), some (.ref fl), o4, o5, o6, o7, o8] ∧ Same H H' ∧ Rows H' L' ((S.ti.take i).map (reC (fC way))) ∧ H' fl = some (.lst (L'.map fun q => V.ref q.2)))
   ⟨[], _, _, _, _, _, rfl, s1, ⟨rfl, fun _ h => (nomatch h)⟩, e1⟩ (fun i σ' H' _ h => ?_) (fun i v σ' H' hv h => ?_) (fun σ' H' h => ?_)⟩
  ·obtain ⟨_, _, _, _, _, _, _, s2, _⟩ := h
   exact SqL.of (s2 _ _ eta)
  ·obtain ⟨L', o4, o5, o6, o7, o8, rfl, s2, RL', efl⟩ := h
   rw [List.getElem?_map] at hv
   cases eq : L[i]? with
   | none => rw [eq] at hv; cases hv
   | some qq =>
    rw [eq] at hv
    cases hv
    have ht := s2 _ _ (RL.2 qq (List.mem_of_getElem? eq))
    have er : S.ti[i]? = some qq.1 := by rw [← RL.1, List.getElem?_map, eq]; rfl
    have hrow := List.mem_of_getElem? er
    obtain ⟨r, ra⟩ := qq
    dsimp only at ht er hrow
    have hc := tight r hrow
    refine ⟨ra, _, rfl, SqT.of ht, rfl, _, _, rfl, _, _, rfl, _, _, rfl, _, _, rfl, _, _, rfl, rfl, ?_⟩
    refine ⟨fun σ2 H2 => H2 = H' ∧ σ2 = [some (.ref a), some (.ref ta), some (.int way), some (.ref fl), some (.str r.nm), some (.str r.a), some (.str r.b), some (.int r.w), some (.int (if way = 1 then r.c + 4 else r.c))], ?_, ?_⟩
    ·refine ⟨_, rfl, rfl, _, rfl, ?_⟩
     show if decide (V.int way = V.int 1) = true then _ else _
     by_cases h1 : way = 1
     ·refine iteTb (decide_eq_true (by rw [h1])) ⟨_, rfl, _, _, rfl, rfl, rfl, ?_⟩
      rw [if_pos h1]
      rfl
     ·refine iteFb (decide_eq_false fun z => h1 (V.int.inj z)) ⟨rfl, ?_⟩
      rw [if_neg h1]
      rfl
    rintro σ2 H2 ⟨rfl, rfl⟩
    have hc1 : -8 ≤ (if way = 1 then r.c + 4 else r.c) ∧ (if way = 1 then r.c + 4 else r.c) ≤ 8 := by split <;> omega
    have efC : fC way r.c = if way = 2 then (if way = 1 then r.c + 4 else r.c) * 10 ^ 50 + 1 else (if way = 1 then r.c + 4 else r.c) := rfl
    generalize (if way = 1 then r.c + 4 else r.c) = c1 at hc1 efC
    refine ⟨fun σ2 H3 => H3 = H2 ∧ σ2 = [some (.ref a), some (.ref ta), some (.int way), some (.ref fl), some (.str r.nm), some (.str r.a), some (.str r.b), some (.int r.w), some (.int (fC way r.c))], ?_, ?_⟩
    ·refine ⟨_, rfl, rfl, _, rfl, ?_⟩
     show if decide (V.int way = V.int 2) = true then _ else _
     by_cases h2 : way = 2
     ·have hb1 : (8 : Nat) < 2 ^ 3000 := by decide +kernel
      have hb2 : ((10 : Int) ^ (50 : Int).toNat).natAbs < 2 ^ 3000 := by decide +kernel
      refine iteTb (decide_eq_true (by rw [h2])) ⟨_, rfl, _, _, rfl, rfl, ⟨by decide, by decide, by decide⟩, _, _, rfl, rfl, ⟨by omega, hb2⟩, _, _, rfl, rfl, rfl, ?_⟩
      rw [efC, if_pos h2]
      rfl
     ·refine iteFb (decide_eq_false fun z => h2 (V.int.inj z)) ⟨rfl, ?_⟩
      rw [efC, if_neg h2]
    rintro σ3 H3 ⟨rfl, rfl⟩
    refine ⟨_, rfl, .inl ⟨rfl, _, SqL.of efl⟩, _, rfl, _, rfl, _, rfl, _, rfl, _, rfl, (by show 5 ≤ sizeLine; decide), fun t ht' => ?_⟩
    have z4 := Same.new (o := .tup [.str r.nm, .str r.a, .str r.b, .int r.w, .int (fC way r.c)]) ht'
    have e4 : (upd H3 t (.tup [.str r.nm, .str r.a, .str r.b, .int r.w, .int (fC way r.c)])) t = some (.tup (reC (fC way) r).tup) := upd_same
    generalize upd H3 t (.tup [.str r.nm, .str r.a, .str r.b, .int r.w, .int (fC way r.c)]) = H4 at z4 e4
    have efl4 := z4 _ _ efl
    have hL' : L'.length ≤ 10 := by
     have h3 := congrArg List.length RL'.1
     rw [List.length_map, List.length_map, List.length_take] at h3
     have := g.lenT
     omega
    refine ⟨fl, _, _, rfl, rfl, efl4, small1000 (by rw [List.length_map]; omega), ?_⟩
    refine ⟨L' ++ [(reC (fC way) r, t)], _, _, _, _, _, rfl, fun bb ob z => ?_, ⟨?_, fun q hq => ?_⟩, ?_⟩
    ·rw [upd_ne (ne_of_none z hfl)]
     exact z4 _ _ (s2 _ _ z)
    ·rw [List.map_append, RL'.1, List.take_add_one, er, List.map_append]
     rfl
    ·rcases List.mem_append.mp hq with hq | hq
     ·have := z4 _ _ (RL'.2 q hq)
      rw [upd_ne (ne_of this efl4 (fun z => by cases z))]
      exact this
     ·rw [List.mem_singleton.mp hq]
      rw [upd_ne (ne_of e4 efl4 (fun z => by cases z))]
      exact e4
    ·rw [upd_same, List.map_append]
     rfl
  ·obtain ⟨L', o4, o5, o6, o7, o8, rfl, s2, RL', efl⟩ := h
   rw [List.length_map, hL, List.take_length] at RL'
   refine ⟨_, rfl, q fl ⟨S.pl, S.ti.map (reC (fC way))⟩ _ s2 ⟨s2 _ _ PA.pl, L', RL', efl⟩ (good_re g fun r hr => ?_) rfl⟩
   have hc := tight r hr
   have e : fC way r.c = if way = 2 then (if way = 1 then r.c + 4 else r.c) * 10 ^ 50 + 1 else (if way = 1 then r.c + 4 else r.c) := rfl
   rw [e]
   split <;> split <;> constructor <;> omega
end
end Net
namespace Net
open PySem L2
def srcF (f : Bool) (r : Row) : Str := if f then r.a else r.b
def dstF (f : Bool) (r : Row) : Str := if f then r.b else r.a
def ClosF (f : Bool) (ti : List Row) (ws : List Str) : Prop := ∀ r ∈ ti, srcF f r ∈ ws → dstF f r ∈ ws
def DoneF (f : Bool) (ti : List Row) (ys fs : List Str) : Prop := ∀ y ∈ ys, ∀ r ∈ ti, srcF f r = y → dstF f r ∈ fs
theorem DoneF.mono {f : Bool} {ti : List Row} {ys fs : List Str} (h : DoneF f ti ys fs) (x : Str) : DoneF f ti ys (fs ++ [x]) := fun y hy r hr e => List.mem_append_left _ (h y hy r hr e)
structure CF0 (S : NS) (fo : Bool) (a : Str) (H H' : Hp) (fl : Addr) (fs : List Str) : Prop where
 f : FndAt (· ∈ S.pl) H H' fl 6 fs
 nd : fs.Nodup
 ha : a ∈ fs
 cl : ∀ ws : List Str, a ∈ ws → ClosF fo S.ti ws → ∀ y ∈ fs, y ∈ ws
theorem CF0.put {S : NS} {f : Bool} {a y : Str} {H H' : Hp} {fl : Addr} {fs : List Str} (c : CF0 S f a H H' fl fs) (g : GoodS S) (hy : y ∈ S.pl) (hn : y ∉ fs) (h : ∀ ws : List Str, a ∈ ws → ClosF f S.ti ws → y ∈ ws) : CF0 S f a H (upd H' fl (.lst (fs.map V.str ++ [.str y]))) fl (fs ++ [y]) := by
 have p := c.f.put hy
 have nd : (fs ++ [y]).Nodup := by
  rw [List.nodup_append]
  refine ⟨c.nd, (by simp), fun u hu v hv => ?_⟩
  rw [List.mem_singleton.mp hv]
  exact fun z => hn (z ▸ hu)
 refine ⟨⟨p.same, p.fr, p.ob, Nat.le_trans (nodup_len nd p.sub) g.lenP, p.sub⟩, nd, List.mem_append_left _ c.ha, fun ws h1 h2 z hz => ?_⟩
 rcases List.mem_append.mp hz with hz | hz
 ·exact c.cl ws h1 h2 z hz
 ·rw [List.mem_singleton.mp hz]; exact h ws h1 h2
def spCome32 : Sp := fun vs H Q _ => ∃ (pa ta : Addr) (a : Str) (f : Bool) (S : NS), vs = [.ref ta, .str a, .bl f] ∧ PartsAt H pa ta S ∧ GoodS S ∧ a ∈ S.pl ∧
 ∀ (l : Addr) (fs : List Str) (H' : Hp), CF0 S f a H H' l fs → ClosF f S.ti fs → Q (.ref l) H'
def CF1 (S : NS) (f : Bool) (a : Str) (H : Hp) (ta fl : Addr) (i j : Nat) (σ : St) (H' : Hp) : Prop := ∃ (fs : List Str) (o5 o6 o7 o8 o9 : Option V), σ = [some (.ref ta), some (.str a), some (.bl f), some (.ref fl), some (.int (i : Int)), o5, o6, o7, o8, o9] ∧ CF0 S f a H H' fl fs ∧ i < fs.length ∧ DoneF f S.ti (fs.take i) fs ∧ ∀ r ∈ S.ti.take j, some (srcF f r) = fs[i]? → dstF f r ∈ fs
def CF2 (S : NS) (f : Bool) (a : Str) (H : Hp) (ta : Addr) (m : Nat) (σ : St) (H' : Hp) : Prop := ∃ (fl : Addr) (fs : List Str) (i : Nat) (o5 o6 o7 o8 o9 : Option V), σ = [some (.ref ta), some (.str a), some (.bl f), some (.ref fl), some (.int (i : Int)), o5, o6, o7, o8, o9] ∧ CF0 S f a H H' fl fs ∧ i ≤ fs.length ∧ DoneF f S.ti (fs.take i) fs ∧ m = 7 - i
theorem come_keep {S : NS} {f : Bool} {fs : List Str} {i j : Nat} {r : Row} (er : S.ti[j]? = some r) (hd : ∀ r ∈ S.ti.take j, some (srcF f r) = fs[i]? → dstF f r ∈ fs) (h : some (srcF f r) = fs[i]? → dstF f r ∈ fs) : ∀ r ∈ S.ti.take (j + 1), some (srcF f r) = fs[i]? → dstF f r ∈ fs := fun q hq => by
 rw [List.take_add_one, er] at hq
 rcases List.mem_append.mp hq with hq | hq
 ·exact hd q hq
 ·rw [show q = r from List.mem_singleton.mp hq]
  exact h
theorem come_put {S : NS} {f : Bool} {fs : List Str} {i j : Nat} {r : Row} {x : Str} (hi : i < fs.length) (hx : x = dstF f r) (er : S.ti[j]? = some r) (hd : ∀ r ∈ S.ti.take j, some (srcF f r) = fs[i]? → dstF f r ∈ fs) : ∀ r ∈ S.ti.take (j + 1), some (srcF f r) = (fs ++ [x])[i]? → dstF f r ∈ fs ++ [x] := by
 subst hx
 refine come_keep er (fun q hq e => ?_) fun _ => List.mem_append_right _ (List.mem_singleton.mpr rfl)
 rw [List.getElem?_append_left hi] at e
 exact List.mem_append_left _ (hd q hq e)
section
variable {P : Program} {w : World} {K : PySem.W.Frag} {mg : Str → Option Value} {base : Heap} {C : Addr}
abbrev Ncome32 : List Str := ["_law_ties", "_law_a", "_law_forth", "_law_found", "_law_at", "_law_name_here", "_law_here", "_law_there", "_law_width", "_law_cost"]
theorem sc_come32 : FnScope Ncome32 ["_law_ties", "_law_a", "_law_forth"] (defScope s_l_come) := ⟨rfl, rfl, rfl, by decide +kernel, rfl, by decide +kernel, by decide +kernel⟩
theorem ok_come32 {f : Addr} {fd : FuncData} (F : Fun K "_law_come" "_law_come" s_l_come f fd) (T : Txt K mg C) : FnOk P w K mg base CX0 1 f fd ["_law_ties", "_law_a", "_law_forth"] spCome32 := by
 refine F.ok sc_come32 (fun vs H Q E h => ?_) (fun cdv A outer s H vs Q E hr h => ?_)
 ·obtain ⟨pa, ta, a, f, S, rfl, _⟩ := h
  rfl
 ·obtain ⟨pa, ta, a, f, S, rfl, PA, g, ha, q⟩ := h
  refine ⟨_, (pss_cons (ps_set (i := 3) sc_come32.nd rfl (Or.inl rfl) (pe_lst (pa_cons (pv 1) pa_nil)))
   (pss_cons (ps_set (i := 4) sc_come32.nd rfl (Or.inl rfl) pe_int)
   (pss_cons (ps_while PassesOwn.never (pt_cmpR op_lt (pv 4) (pe_callB call_len_seq (by rfl) T.len b_len (pa_cons (pv 3) pa_nil)) (nomark _))
     (pss_cutE (ps_for PassesOwn.never rfl (pi_list (pv 0)) (pg_tup rfl (pgs_cons (pg_name (i := 5) sc_come32.nd rfl (Or.inl rfl)) (pgs_cons (pg_name (i := 6) sc_come32.nd rfl (Or.inl rfl)) (pgs_cons (pg_name (i := 7) sc_come32.nd rfl (Or.inl rfl)) (pgs_cons (pg_name (i := 8) sc_come32.nd rfl (Or.inl rfl)) (pgs_cons (pg_name (i := 9) sc_come32.nd rfl (Or.inl rfl)) pgs_nil))))))
       (pss_cutE (ps_if (PW.pt (pw_and (pt_val (pv 2)) (pw_and (pt_cmpR op_eq (pv 6) (pe_ix ix_list (pv 3) (pv 4) (fun _ _ => by rfl)) (nomark _)) (pw_and1 (pt_cmpR op_notIn_seq (pv 7) (pv 3) (by with_unfolding_all rfl))))))
        (pss_one (ps_expr (pe_bm PySem.F.plainAttrs_list PySem.F.slot_list_append PySem.F.type_list_append mt_append (pv 3) (pa_cons (pv 7) pa_nil)))) pss_nil)
   (pss_one (ps_if (PW.pt (pw_and (pt_not (pt_val (pv 2))) (pw_and (pt_cmpR op_eq (pv 7) (pe_ix ix_list (pv 3) (pv 4) (fun _ _ => by rfl)) (nomark _)) (pw_and1 (pt_cmpR op_notIn_seq (pv 6) (pv 3) (by with_unfolding_all rfl))))))
        (pss_one (ps_expr (pe_bm PySem.F.plainAttrs_list PySem.F.slot_list_append PySem.F.type_list_append mt_append (pv 3) (pa_cons (pv 6) pa_nil)))) pss_nil))))
   (pss_one (ps_set (i := 4) sc_come32.nd rfl (Or.inl rfl) (pe_op op_add (pv 4) pe_int)))))
   (pss_one (ps_ret (pv 3)))))), ?_⟩
  obtain ⟨L, RL, eta⟩ := PA.ti
  have hL : L.length = S.ti.length := by rw [← RL.1, List.length_map]
  refine ⟨_, rfl, (by show 1 ≤ sizeLine; decide), fun fl hfl => ?_⟩
  have c0 : CF0 S f a H (upd H fl (.lst [.str a])) fl [a] := ⟨⟨Same.new hfl, hfl, upd_same, (by show 1 ≤ 6; decide), fun y hy => by rw [List.mem_singleton.mp hy]; exact ha⟩, (by simp), List.mem_singleton.mpr rfl, fun ws h1 _ y hy => by rw [List.mem_singleton.mp hy]; exact h1⟩
  generalize upd H fl (.lst [.str a]) = H1 at c0
  refine ⟨CF2 S f a H ta, ⟨7, fl, [a], 0, none, none, none, none, none, rfl, c0, Nat.zero_le _, fun _ h => (nomatch h), rfl⟩, ?_⟩
  rintro m σ' H' ⟨fl, fs, i, o5, o6, o7, o8, o9, rfl, c, hi, hdn, rfl⟩
  have l6 := c.f.len
  refine ⟨_, rfl, _, rfl, fl, _, rfl, .inl (SqL.of c.f.ob), _, _, rfl, rfl, _, rfl, ?_⟩
  show if decide ((i : Int) < (((fs.map V.str).length : Nat) : Int)) = true then _ else _
  rw [List.length_map]
  by_cases hlt : i < fs.length
  ·rw [decide_eq_true (by omega : (i : Int) < ((fs.length : Nat) : Int))]
   refine iteT ⟨fun σ' H' => ∃ m', m' < 7 - i ∧ CF2 S f a H ta m' σ' H', fun _ _ z => z, ?_⟩
   refine ⟨CF1 S f a H ta fl i S.ti.length, ?_, ?_⟩
   ·refine ⟨_, rfl, ta, rfl, ⟨_, SqL.of (c.f.same _ _ eta)⟩, for_list (K := K) (a := ta) (xs := L.map fun q => V.ref q.2) (CF1 S f a H ta fl i)
     ⟨fs, _, _, _, _, _, rfl, c, hlt, hdn, fun _ h => (nomatch h)⟩ (fun j σ' H' _ h => ?_) (fun j v σ' H' hv h => ?_) (fun σ' H' h => ?_)⟩
    ·obtain ⟨_, _, _, _, _, _, _, c, _⟩ := h
     exact SqL.of (c.f.same _ _ eta)
    ·obtain ⟨fs, o5, o6, o7, o8, o9, rfl, c, hlt, hdn, hd⟩ := h
     have l6 := c.f.len
     rw [List.getElem?_map] at hv
     cases eq : L[j]? with
     | none => rw [eq] at hv; cases hv
     | some qq =>
      rw [eq] at hv
      cases hv
      have hq := List.mem_of_getElem? eq
      have ht := c.f.same _ _ (RL.2 qq hq)
      have er : S.ti[j]? = some qq.1 := by rw [← RL.1, List.getElem?_map, eq]; rfl
      have hr : qq.1 ∈ S.ti := List.mem_of_getElem? er
      obtain ⟨_, ra, rb⟩ := g.okT _ hr
      have ez := List.getElem?_eq_getElem hlt
      have eat : atI (fs.map V.str) (i : Int) = some (.str fs[i]) := atI_nat (by rw [List.getElem?_map, ez]; rfl)
      have hfi : fs[i] ∈ fs := List.mem_of_getElem? ez
      obtain ⟨r, ra'⟩ := qq
      dsimp only at ht er hr ra rb
      have keep : ∀ {o5 o6 o7 o8 o9 : Option V}, (some (srcF f r) = fs[i]? → dstF f r ∈ fs) → CF1 S f a H ta fl i (j + 1) [some (.ref ta), some (.str a), some (.bl f), some (.ref fl), some (.int (i : Int)), o5, o6, o7, o8, o9] H' := fun h => ⟨fs, _, _, _, _, _, rfl, c, hlt, hdn, come_keep er hd h⟩
      have put : ∀ {o5 o6 o7 o8 o9 : Option V} (x : Str), x = dstF f r → x ∈ S.pl → x ∉ fs → srcF f r = fs[i] → CF1 S f a H ta fl i (j + 1) [some (.ref ta), some (.str a), some (.bl f), some (.ref fl), some (.int (i : Int)), o5, o6, o7, o8, o9] (upd H' fl (.lst (fs.map V.str ++ [.str x]))) := fun x hx hpl hn hs => by
       refine ⟨fs ++ [x], _, _, _, _, _, rfl, c.put g hpl hn fun ws w1 w2 => ?_, by rw [List.length_append]; omega, ?_, come_put hlt hx er hd⟩
       ·rw [hx]
        refine w2 r hr ?_
        rw [hs]
        exact c.cl ws w1 w2 _ hfi
       ·rw [List.take_append_of_le_length (by omega)]
        exact hdn.mono x
      refine ⟨ra', _, rfl, SqT.of ht, rfl, _, _, rfl, _, _, rfl, _, _, rfl, _, _, rfl, _, _, rfl, rfl, ?_⟩
      cases f with
      | true =>
       refine ⟨CF1 S true a H ta fl i (j + 1), ?_, ?_⟩
       ·refine ⟨_, rfl, _, rfl, iteT ⟨_, rfl, _, rfl, _, rfl, fl, _, _, _, rfl, rfl, SqL.of c.f.ob, eat, rfl, _, rfl, ?_⟩⟩
        show if decide (V.str r.a = V.str fs[i]) = true then _ else _
        rw [eq_V]
        by_cases h1 : r.a = fs[i]
        ·rw [decide_eq_true h1]
         refine iteT ⟨_, rfl, _, rfl, fl, _, rfl, .inl (SqL.of c.f.ob), rfl, flat_strs _, _, rfl, ?_⟩
         show if (if true = true then !inV (.str r.b) (fs.map V.str) else inV (.str r.b) (fs.map V.str)) = true then _ else _
         rw [if_pos rfl, inV_str]
         by_cases h2 : r.b ∈ fs
         ·rw [decide_eq_true h2]
          exact iteF (keep fun _ => h2)
         ·rw [decide_eq_false h2]
          exact iteT ⟨_, rfl, .inl ⟨rfl, _, SqL.of c.f.ob⟩, _, rfl, fl, _, _, rfl, rfl, c.f.ob, small1000 (by rw [List.length_map]; omega), put r.b rfl rb h2 h1⟩
        ·rw [decide_eq_false h1]
         exact iteF (iteF (keep fun e => absurd (by rw [ez] at e; exact Option.some.inj e) h1))
       ·rintro σ2 H2 ⟨fs2, u5, u6, u7, u8, u9, rfl, z⟩
        exact ⟨_, rfl, _, rfl, iteF (iteF ⟨fs2, _, _, _, _, _, rfl, z⟩)⟩
      | false =>
       refine ⟨fun σ2 H2 => H2 = H' ∧ σ2 = [some (.ref ta), some (.str a), some (.bl false), some (.ref fl), some (.int (i : Int)), some (.str r.nm), some (.str r.a), some (.str r.b), some (.int r.w), some (.int r.c)], ?_, ?_⟩
       ·exact ⟨_, rfl, _, rfl, iteF (iteF ⟨rfl, rfl⟩)⟩
       ·rintro σ2 H2 ⟨rfl, rfl⟩
        refine ⟨_, rfl, _, rfl, iteT ⟨_, rfl, _, rfl, _, rfl, fl, _, _, _, rfl, rfl, SqL.of c.f.ob, eat, rfl, _, rfl, ?_⟩⟩
        show if decide (V.str r.b = V.str fs[i]) = true then _ else _
        rw [eq_V]
        by_cases h1 : r.b = fs[i]
        ·rw [decide_eq_true h1]
         refine iteT ⟨_, rfl, _, rfl, fl, _, rfl, .inl (SqL.of c.f.ob), rfl, flat_strs _, _, rfl, ?_⟩
         show if (if true = true then !inV (.str r.a) (fs.map V.str) else inV (.str r.a) (fs.map V.str)) = true then _ else _
         rw [if_pos rfl, inV_str]
         by_cases h2 : r.a ∈ fs
         ·rw [decide_eq_true h2]
          exact iteF (keep fun _ => h2)
         ·rw [decide_eq_false h2]
          exact iteT ⟨_, rfl, .inl ⟨rfl, _, SqL.of c.f.ob⟩, _, rfl, fl, _, _, rfl, rfl, c.f.ob, small1000 (by rw [List.length_map]; omega), put r.a rfl ra h2 h1⟩
        ·rw [decide_eq_false h1]
         exact iteF (iteF (keep fun e => absurd (by rw [ez] at e; exact Option.some.inj e) h1))
    ·rw [List.length_map, hL] at h
     exact h
   rintro σ2 H2 ⟨fs2, u5, u6, u7, u8, u9, rfl, c2, hlt2, hdn2, hd2⟩
   have l62 := c2.f.len
   refine ⟨_, rfl, _, _, rfl, rfl, 7 - (i + 1), by omega, fl, fs2, i + 1, _, _, _, _, _, rfl, c2, hlt2, fun y hy r hr e => ?_, rfl⟩
   rw [List.take_add_one] at hy
   rcases List.mem_append.mp hy with hy | hy
   ·exact hdn2 y hy r hr e
   ·rw [List.take_length] at hd2
    refine hd2 r hr ?_
    cases e3 : fs2[i]? with
    | none => rw [e3] at hy; cases hy
    | some u =>
     rw [e3] at hy
     rw [e, show y = u from List.mem_singleton.mp hy]
  ·rw [decide_eq_false (by omega : ¬ (i : Int) < ((fs.length : Nat) : Int))]
   refine iteF ⟨_, rfl, q fl fs H' c fun r hr hs => ?_⟩
   rw [List.take_of_length_le (by omega)] at hdn
   exact hdn _ hs r hr rfl
end
end Net
namespace Net
open PySem L2
structure TxtN (mg : Str → Option Value) : Prop where
 min : mg "min" = none
theorem b_min : bootBuiltins "min" = some (.builtin "min") := by decide +kernel
theorem take_filter {α : Type} {f : α → Bool} {l : List α} {i : Nat} {x : α} (e : l[i]? = some x) (b : Bool) (hb : f x = b) : (l.take (i + 1)).filter f = (l.take i).filter f ++ (if b then [x] else []) := by
 rw [List.take_add_one, e, List.filter_append]
 show _ ++ List.filter f [x] = _
 cases b with
 | true => rw [List.filter_cons_of_pos hb]; rfl
 | false => rw [List.filter_cons_of_neg (by rw [hb]; exact Bool.false_ne_true)]; rfl
def DKeys (kvs : List (Key × V)) (A : List Str) : Prop := (kvs.map (·.1)).Nodup ∧ ∀ k ∈ kvs.map (·.1), ∃ x ∈ A, k = Sum.inr x
theorem DKeys.len {kvs : List (Key × V)} {A : List Str} (h : DKeys kvs A) : kvs.length ≤ A.length := by
 have := nodup_len h.1 (m := A.map Sum.inr) fun k hk => by
  obtain ⟨x, hx, rfl⟩ := h.2 k hk
  exact List.mem_map_of_mem hx
 rw [List.length_map, List.length_map] at this
 exact this
theorem DKeys.put {kvs : List (Key × V)} {A : List Str} (h : DKeys kvs A) {x : Str} (hx : x ∈ A) (v : V) : DKeys (putK kvs (Sum.inr x : Key) v) A := by
 cases e : valV kvs (Sum.inr x : Key) with
 | none =>
  rw [putK_new _ e]
  have hno : (Sum.inr x : Key) ∉ kvs.map (·.1) := fun z => by
   obtain ⟨p, hp, ep⟩ := List.mem_map.mp z
   have : (kvs.any fun kv => decide (kv.1 = (Sum.inr x : Key))) = true := List.any_eq_true.mpr ⟨p, hp, decide_eq_true ep⟩
   rw [valV_any, e] at this
   cases this
  refine ⟨?_, fun k hk => ?_⟩
  ·rw [List.map_append, List.nodup_append]
   refine ⟨h.1, by simp, fun a ha b hb => ?_⟩
   rw [show b = (Sum.inr x : Key) from List.mem_singleton.mp hb]
   intro z
   exact hno (z ▸ ha)
  ·rw [List.map_append] at hk
   rcases List.mem_append.mp hk with hk | hk
   ·exact h.2 k hk
   ·exact ⟨x, hx, List.mem_singleton.mp hk⟩
 | some u =>
  have ek : (putK kvs (Sum.inr x : Key) v).map (·.1) = kvs.map (·.1) := by
   unfold putK
   rw [valV_any, e, if_pos (by rfl), List.map_map]
   refine List.map_congr_left fun p _ => ?_
   show (if p.1 = (Sum.inr x : Key) then (p.1, v) else p).1 = p.1
   split <;> rfl
  unfold DKeys
  rw [ek]
  exact h
def PrAt (H : Hp) (dp : Addr) (A : List Str) (p : Str → Option Int) : Prop := ∃ kvs, H dp = some (.dK kvs) ∧ DKeys kvs A ∧ ∀ v, valV kvs (Sum.inr v : Key) = (p v).map V.int
theorem PrAt.same {H H' : Hp} {dp : Addr} {A : List Str} {p : Str → Option Int} (s : Same H H') (h : PrAt H dp A p) : PrAt H' dp A p := let ⟨k, a, b, c⟩ := h; ⟨k, s _ _ a, b, c⟩
def st0 (a : Str) : LS := ⟨fun v => if v = a then some 0 else none, fun _ => none⟩
theorem st0_pr {a : Str} : ∀ v, valV [((Sum.inr a : Key), V.int 0)] (Sum.inr v : Key) = ((st0 a).p v).map V.int := fun v => by
 show _ = (if v = a then some (0 : Int) else none).map V.int
 by_cases h : v = a
 ·rw [if_pos h, valV_pos (congrArg Sum.inr h.symm)]
  rfl
 ·rw [if_neg h, valV_neg (fun z => h (Sum.inr.inj z).symm)]
  rfl
def RchF (f : Bool) (ti : List Row) (a : Str) (fs : List Str) : Prop := a ∈ fs ∧ ClosF f ti fs ∧ ∀ ws : List Str, a ∈ ws → ClosF f ti ws → ∀ y ∈ fs, y ∈ ws
def spBetween : Sp := fun vs H Q _ => ∃ (pa ta : Addr) (a b : Str) (S : NS), vs = [.ref ta, .str a, .str b] ∧ PartsAt H pa ta S ∧ GoodS S ∧ a ∈ S.pl ∧ b ∈ S.pl ∧
 ∀ (l : Addr) (fa fb : List Str) (H' : Hp), FndAt (· ∈ S.pl) H H' l 6 (fa.filter fun x => decide (x ∈ fb)) → fa.Nodup → RchF true S.ti a fa → RchF false S.ti b fb → Q (.ref l) H'
def pR (rows : List Row) (n : Nat) (a : Str) : Str → Option Int := (roundsR rows n (st0 a)).1.p
def spLeast : Sp := fun vs H Q _ => ∃ (u : V) (rl : Addr) (a : Str) (n : Nat) (A : List Str) (L : List (Row × Addr)) (rows : List Row), vs = [u, .ref rl, .str a, .int (n : Int)] ∧ n ≤ 1000 ∧ A.length ≤ 40 ∧ a ∈ A ∧ (∀ r ∈ rows, r.b ∈ A) ∧ Rows H L rows ∧ H rl = some (.lst (L.map fun q => V.ref q.2)) ∧
 ∀ (dl : Addr) (H' : Hp), H dl = none → Same H H' → PrAt H' dl A (pR rows n a) → Q (.ref dl) H'
theorem go_p {q : LS × Option Str} {r : Row} {x : Int} (ex : q.1.p r.a = some x) (v : Str) : (goR q r).1.p v = if v = r.b then some (if x + r.c < (q.1.p r.b).getD (x + r.c) then x + r.c else (q.1.p r.b).getD (x + r.c)) else q.1.p v := by
 unfold goR
 cases hl : lowR q.1 r with
 | true =>
  rw [if_pos rfl]
  obtain ⟨x', ex', h2⟩ := low_yes hl
  rw [ex] at ex'
  cases ex'
  by_cases hv : v = r.b
  ·rw [if_pos hv, hv, put_p_eq ex]
   cases e : q.1.p r.b with
   | none =>
    show some (x + r.c) = some (if x + r.c < x + r.c then x + r.c else x + r.c)
    split <;> rfl
   | some y =>
    have := h2 y e
    show some (x + r.c) = some (if x + r.c < y then x + r.c else y)
    rw [if_pos this]
  ·rw [if_neg hv, put_p_ne hv]
 | false =>
  rw [if_neg Bool.false_ne_true]
  by_cases hv : v = r.b
  ·rw [if_pos hv, hv]
   obtain ⟨y, ey, hy⟩ := low_not hl x ex
   rw [ey]
   show some y = some (if x + r.c < y then x + r.c else y)
   rw [if_neg (by omega)]
  ·rw [if_neg hv]
theorem go_none {q : LS × Option Str} {r : Row} (ex : q.1.p r.a = none) : goR q r = q := by
 unfold goR
 rw [if_neg]
 unfold lowR
 rw [ex]
 exact Bool.false_ne_true
section
variable {P : Program} {w : World} {K : PySem.W.Frag} {mg : Str → Option Value} {base : Heap} {C : Addr}
theorem sc_between : FnScope ["_law_ties", "_law_a", "_law_b", "_law_to"] ["_law_ties", "_law_a", "_law_b"] (defScope s_l_between) := ⟨rfl, rfl, rfl, by decide +kernel, rfl, by decide +kernel, by decide +kernel⟩
theorem ok_between {f : Addr} {fd : FuncData} (F : Fun K "_law_between" "_law_between" s_l_between f fd) (cco : Can P w K mg base 1 "_law_come" ["_law_ties", "_law_a", "_law_forth"] spCome32) : FnOk P w K mg base CX0 2 f fd ["_law_ties", "_law_a", "_law_b"] spBetween := by
 refine F.ok sc_between (fun vs H Q E h => ?_) (fun cdv A outer s H vs Q E hr h => ?_)
 ·obtain ⟨pa, ta, a, b, S, rfl, _⟩ := h
  rfl
 ·obtain ⟨pa, ta, a, b, S, rfl, PA, g, ha, hb, q⟩ := h
  have nd2 : List.Nodup (["_law_place", "_law_to"] : List Str) := by decide +kernel
  refine ⟨_, (pss_cons (ps_set (i := 3) sc_between.nd rfl (Or.inr rfl) (pe_callC cco hr (by rfl) (pa_cons (pv 0) (pa_cons (pv 2) (pa_cons pe_bl pa_nil)))))
   (pss_one (ps_ret (pe_comp (N := ["_law_place", "_law_to"]) (xs := 1) (js := [3]) rfl (compScope_of rfl) (pi_list (pe_callC cco hr (by rfl) (pa_cons (pv 0) (pa_cons (pv 1) (pa_cons pe_bl pa_nil))))) (fun _ _ _ _ => pg_name (i := 0) nd2 rfl (Or.inl rfl))
     (fun _ _ _ _ => pts_one (pt_cmpR (op_inK K (by rfl)) (pv 0) (pv 1) (by with_unfolding_all rfl))) (fun _ _ _ _ => pv 0))))), ?_⟩
  refine ⟨_, rfl, _, rfl, pa, ta, b, false, S, rfl, PA, g, hb, fun lb fb H1 cb clb => ?_⟩
  have s1 := cb.f.same
  refine ⟨_, rfl, _, rfl, pa, ta, a, true, S, rfl, PA.same s1, g, ha, fun la fa H2 ca cla => ?_⟩
  have s2 := ca.f.same
  have elb := s2 _ _ cb.f.ob
  have l6 := ca.f.len
  refine ⟨la, rfl, ⟨_, SqL.of ca.f.ob⟩, comp_list (K := K) (ys := fa.map V.str) (fun i acc σ' H' => H' = H2 ∧ acc = ((fa.take i).filter fun x => decide (x ∈ fb)).map V.str ∧ ∃ o, σ' = [o, some (.ref lb)])
   ⟨rfl, rfl, none, rfl⟩ (fun i acc σ' H' h => ?_) ?_ (fun i acc σ' H' _ h => by rw [h.1]; exact SqL.of ca.f.ob) (fun i x acc σ' H' hx h => ?_) (fun acc σ' H' h al hal => ?_)⟩
  ·obtain ⟨_, rfl, _⟩ := h
   rw [List.length_map]
   exact Nat.le_trans (List.length_filter_le _ _) (by rw [List.length_take]; omega)
  ·rw [List.length_map]
   exact Nat.le_trans l6 (by decide)
  ·obtain ⟨rfl, rfl, o, rfl⟩ := h
   rw [List.getElem?_map] at hx
   cases ey : fa[i]? with
   | none => rw [ey] at hx; cases hx
   | some y =>
    rw [ey] at hx
    cases hx
    refine ⟨_, rfl, _, rfl, lb, _, rfl, .inl (SqL.of elb), rfl, flat_strs _, _, rfl, ?_⟩
    show if (if false = true then !inV (.str y) (fb.map V.str) else inV (.str y) (fb.map V.str)) = true then _ else _
    rw [if_neg Bool.false_ne_true, inV_str]
    cases e1 : decide (y ∈ fb) with
    | true =>
     refine iteT ⟨_, rfl, rfl, ?_, _, rfl⟩
     rw [take_filter ey true e1, List.map_append]
     rfl
    | false =>
     refine iteF ⟨rfl, ?_, _, rfl⟩
     rw [take_filter ey false e1]
     simp
  ·obtain ⟨rfl, rfl, o, rfl⟩ := h
   rw [List.length_map, List.take_length]
   refine q al fa fb _ ⟨(s1.trans s2).trans (Same.new hal), (s1.trans s2).free hal, upd_same, Nat.le_trans (List.length_filter_le _ _) l6, fun x hx => ca.f.sub x (List.mem_filter.mp hx).1⟩ ca.nd ⟨ca.ha, cla, ca.cl⟩ ⟨cb.ha, clb, cb.cl⟩
abbrev Nleast : List Str := ["_law_places", "_law_ties", "_law_a", "_law_rounds", "_law_least_here", "_law_time", "_law_name_here", "_law_here", "_law_there", "_law_width", "_law_cost"]
theorem sc_least : FnScope Nleast ["_law_places", "_law_ties", "_law_a", "_law_rounds"] (defScope s_l_least) := ⟨rfl, rfl, rfl, by decide +kernel, rfl, by decide +kernel, by decide +kernel⟩
def LSt (H : Hp) (u : V) (rl dl : Addr) (a : Str) (n : Nat) (A : List Str) (p : Str → Option Int) (σ : St) (H' : Hp) : Prop := ∃ o5 o6 o7 o8 o9 o10, σ = [some u, some (.ref rl), some (.str a), some (.int (n : Int)), some (.ref dl), o5, o6, o7, o8, o9, o10] ∧ Same H H' ∧ PrAt H' dl A p
theorem ok_least {f : Addr} {fd : FuncData} (F : Fun K "_law_least" "_law_least" s_l_least f fd) (T : Txt K mg C) (TN : TxtN mg) : FnOk P w K mg base CX0 1 f fd ["_law_places", "_law_ties", "_law_a", "_law_rounds"] spLeast := by
 refine F.ok sc_least (fun vs H Q E h => ?_) (fun cdv A outer s H vs Q E hr h => ?_)
 ·obtain ⟨u, rl, a, n, A, L, rows, rfl, _⟩ := h
  rfl
 ·obtain ⟨u, rl, a, n, A, L, rows, rfl, hn, hA, ha, hin, RL, erl, q⟩ := h
  have hu := hu_of hr
  refine ⟨_, (pss_cons (ps_set (i := 4) sc_least.nd rfl (Or.inl rfl) (pe_disp (pps_cons (pv 2) pe_int pps_nil) rfl rfl (by simp) (by decide)))
   (pss_cons (ps_for PassesOwn.never rfl (pi_range1 rfl T.range (pa_cons (pv 3) pa_nil)) (pg_name (i := 5) sc_least.nd rfl (Or.inl rfl))
    (pss_one (ps_for PassesOwn.never rfl (pi_list (pv 1)) (pg_tup rfl (pgs_cons (pg_name (i := 6) sc_least.nd rfl (Or.inl rfl)) (pgs_cons (pg_name (i := 7) sc_least.nd rfl (Or.inl rfl)) (pgs_cons (pg_name (i := 8) sc_least.nd rfl (Or.inl rfl)) (pgs_cons (pg_name (i := 9) sc_least.nd rfl (Or.inl rfl)) (pgs_cons (pg_name (i := 10) sc_least.nd rfl (Or.inl rfl)) pgs_nil))))))
     (pss_one (ps_if (pt_cmp (pc_din hu (pv 7) (pv 4)))
      (pss_one (ps_dput hu (pv 4) (pv 8) (pe_callB (call_min2 rfl) (by rfl) TN.min b_min (pa_cons (pe_dget2 hu (pv 4) (pv 8) (pe_op op_add (pe_dget hu (pv 4) (pv 7) (fun _ _ => rfl)) (pv 10)) ⟨rfl, rfl, rfl, rfl⟩) (pa_cons (pe_op op_add (pe_dget hu (pv 4) (pv 7) (fun _ _ => rfl)) (pv 10)) pa_nil))) rfl)) pss_nil)))))
   (pss_one (ps_ret (pv 4))))), ?_⟩
  have hL : L.length = rows.length := by rw [← RL.1, List.length_map]
  intro dl hdl
  refine ⟨_, rfl, upd_same, [((Sum.inr a : Key), .int 0)], rfl, (by show 1 ≤ 15; decide), ?_⟩
  have z9 : Same H (upd (upd H dl (.dK [])) dl (.dK (mergeK [] [((Sum.inr a : Key), V.int 0)]))) := fun c oc z => by
   rw [upd_ne (ne_of_none z hdl), upd_ne (ne_of_none z hdl)]
   exact z
  have edp : (upd (upd H dl (.dK [])) dl (.dK (mergeK [] [((Sum.inr a : Key), V.int 0)]))) dl = some (.dK [((Sum.inr a : Key), V.int 0)]) := upd_same
  generalize upd (upd H dl (.dK [])) dl (.dK (mergeK [] [((Sum.inr a : Key), V.int 0)])) = H1 at z9 edp
  have P0 : PrAt H1 dl A (st0 a).p := ⟨_, edp, ⟨by simp, fun k hk => ⟨a, ha, List.mem_singleton.mp hk⟩⟩, st0_pr⟩
  refine ⟨_, rfl, _, rfl, by omega, by omega, ?_⟩
  rw [Int.toNat_natCast]
  refine for_range (n := n) (fun i σ' H' => LSt H u rl dl a n A (roundsR rows i (st0 a)).1.p σ' H') ⟨_, _, _, _, _, _, rfl, z9, P0⟩ (fun i σ' H' hi h => ?_) (fun σ' H' h => ?_)
  ·obtain ⟨o5, o6, o7, o8, o9, o10, rfl, s2, Pr⟩ := h
   refine ⟨_, rfl, rl, rfl, ⟨_, SqL.of (s2 _ _ erl)⟩, for_list (K := K) (a := rl) (xs := L.map fun q => V.ref q.2) (fun j σ' H' => LSt H u rl dl a n A ((rows.take j).foldl goR ((roundsR rows i (st0 a)).1, none)).1.p σ' H')
    ⟨_, _, _, _, _, _, rfl, s2, Pr⟩ (fun j σ' H' _ h => ?_) (fun j x σ' H' hx h => ?_) (fun σ' H' h => ?_)⟩
   ·obtain ⟨_, _, _, _, _, _, _, s3, _⟩ := h
    exact SqL.of (s3 _ _ erl)
   ·obtain ⟨o5, o6, o7, o8, o9, o10, rfl, s3, Pr⟩ := h
    rw [List.getElem?_map] at hx
    cases eq : L[j]? with
    | none => rw [eq] at hx; cases hx
    | some qq =>
     rw [eq] at hx
     cases hx
     have hq := List.mem_of_getElem? eq
     have et := s3 _ _ (RL.2 qq hq)
     have er : rows[j]? = some qq.1 := by rw [← RL.1, List.getElem?_map, eq]; rfl
     have hb := hin qq.1 (List.mem_of_getElem? er)
     have enx : (rows.take (j + 1)).foldl goR ((roundsR rows i (st0 a)).1, none) = goR ((rows.take j).foldl goR ((roundsR rows i (st0 a)).1, none)) qq.1 := by
      rw [List.take_add_one, er, List.foldl_append]
      rfl
     rw [enx]
     generalize (rows.take j).foldl goR ((roundsR rows i (st0 a)).1, none) = st at Pr
     obtain ⟨kvs, ek, dk, hv⟩ := Pr
     have l1 := dk.len
     obtain ⟨r, ra⟩ := qq
     dsimp only at et er hb ⊢
     refine ⟨ra, _, rfl, SqT.of et, rfl, _, _, rfl, _, _, rfl, _, _, rfl, _, _, rfl, _, _, rfl, rfl, ?_⟩
     refine ⟨_, rfl, _, rfl, dl, _, rfl, DGet.k (k := Sum.inr r.a) ek, _, rfl, ?_⟩
     rw [hv, Option.isSome_map]
     cases ea : st.1.p r.a with
     | none =>
      rw [go_none ea]
      exact iteF ⟨_, _, _, _, _, _, rfl, s3, _, ek, dk, hv⟩
     | some x =>
      have va : valV kvs (Sum.inr r.a : Key) = some (.int x) := by rw [hv, ea]; rfl
      refine iteT ⟨_, rfl, dl, rfl, .inl ⟨_, .inl ek⟩, _, rfl, _, rfl, _, rfl, dl, _, rfl, by rw [← va]; exact DGet.k (k := Sum.inr r.a) ek, _, rfl, _, _, rfl, rfl, _, DGet.k (k := Sum.inr r.b) ek, _, rfl, _, rfl, dl, _, rfl, by rw [← va]; exact DGet.k (k := Sum.inr r.a) ek, _, rfl, _, _, rfl, rfl, (st.1.p r.b).getD (x + r.c), x + r.c, ?_, ?_⟩
      ·rw [hv]
       cases st.1.p r.b <;> rfl
      ·refine ⟨_, rfl, _, rfl, dl, _, rfl, DPut.k (k := Sum.inr r.b) ek (small1000 (by omega)), _, _, _, _, _, _, rfl, fun b ob z => ?_, _, upd_same, dk.put hb _, fun v => ?_⟩
       ·rw [upd_ne (ne_of_none z hdl)]
        exact s3 _ _ z
       ·rw [valV_put, go_p ea]
        by_cases hvb : v = r.b
        ·rw [if_pos (congrArg Sum.inr hvb), if_pos hvb]
         rfl
        ·rw [if_neg (fun z => hvb (Sum.inr.inj z)), if_neg hvb]
         exact hv v
   ·have hT : (L.map fun q => V.ref q.2).length = rows.length := by rw [List.length_map, hL]
    rw [hT, List.take_length] at h
    exact h
  ·obtain ⟨o5, o6, o7, o8, o9, o10, rfl, s3, Pr⟩ := h
   exact ⟨_, rfl, q dl _ hdl s3 Pr⟩
end
end Net
namespace Net
open PySem L2
def rowsI (ti : List Row) (bs : List Str) : List Row := ti.filter fun r => decide (r.a ∈ bs) && decide (r.b ∈ bs)
theorem rowsI_iff {ti : List Row} {bs : List Str} {r : Row} : r ∈ rowsI ti bs ↔ r ∈ ti ∧ r.a ∈ bs ∧ r.b ∈ bs := by
 unfold rowsI
 rw [List.mem_filter, Bool.and_eq_true, decide_eq_true_iff, decide_eq_true_iff]
def btw (fa fb : List Str) : List Str := fa.filter fun x => decide (x ∈ fb)
theorem btw_iff {fa fb : List Str} {x : Str} : x ∈ btw fa fb ↔ x ∈ fa ∧ x ∈ fb := by
 unfold btw
 rw [List.mem_filter, decide_eq_true_iff]
theorem fwd_cl {ti : List Row} {a : Str} {fa : List Str} (h : RchF true ti a fa) {r : Row} (hr : r ∈ ti) (ha : r.a ∈ fa) : r.b ∈ fa := h.2.1 r hr ha
theorem bwd_cl {ti : List Row} {b : Str} {fb : List Str} (h : RchF false ti b fb) {r : Row} (hr : r ∈ ti) (hb : r.b ∈ fb) : r.a ∈ fb := h.2.1 r hr hb
theorem fwd_ind {ti : List Row} {a : Str} {fa : List Str} (h : RchF true ti a fa) (p : Str → Prop) (h0 : p a) (hs : ∀ r ∈ ti, r.a ∈ fa → p r.a → p r.b) : ∀ x ∈ fa, p x := fun x hx => by
 have := h.2.2 (fa.filter fun y => @decide (p y) (Classical.propDecidable _)) (List.mem_filter.mpr ⟨h.1, @decide_eq_true _ (Classical.propDecidable _) h0⟩) (fun r hr hy => by
  obtain ⟨h1, h2⟩ := List.mem_filter.mp hy
  exact List.mem_filter.mpr ⟨fwd_cl h hr h1, @decide_eq_true _ (Classical.propDecidable _) (hs r hr h1 (@of_decide_eq_true _ (Classical.propDecidable _) h2))⟩) x hx
 exact @of_decide_eq_true _ (Classical.propDecidable _) (List.mem_filter.mp this).2
theorem bwd_ind {ti : List Row} {b : Str} {fb : List Str} (h : RchF false ti b fb) (p : Str → Prop) (h0 : p b) (hs : ∀ r ∈ ti, r.b ∈ fb → p r.b → p r.a) : ∀ x ∈ fb, p x := fun x hx => by
 have := h.2.2 (fb.filter fun y => @decide (p y) (Classical.propDecidable _)) (List.mem_filter.mpr ⟨h.1, @decide_eq_true _ (Classical.propDecidable _) h0⟩) (fun r hr hy => by
  obtain ⟨h1, h2⟩ := List.mem_filter.mp hy
  exact List.mem_filter.mpr ⟨bwd_cl h hr h1, @decide_eq_true _ (Classical.propDecidable _) (hs r hr h1 (@of_decide_eq_true _ (Classical.propDecidable _) h2))⟩) x hx
 exact @of_decide_eq_true _ (Classical.propDecidable _) (List.mem_filter.mp this).2
theorem btw_b {ti : List Row} {a b : Str} {fa fb : List Str} (hb : RchF false ti b fb) (ha : RchF true ti a fa) (h : btw fa fb ≠ []) : b ∈ fa := by
 refine Classical.byContradiction fun hn => h ?_
 have := bwd_ind hb (· ∉ fa) hn fun r hr _ h2 h3 => h2 (fwd_cl ha hr h3)
 refine List.eq_nil_iff_forall_not_mem.mpr fun x hx => ?_
 obtain ⟨h1, h2⟩ := btw_iff.mp hx
 exact this x h2 h1
theorem btw_ne {ti : List Row} {b : Str} {fa fb : List Str} (hb : RchF false ti b fb) (h : b ∈ fa) : btw fa fb ≠ [] := fun z => by
 have : b ∈ btw fa fb := btw_iff.mpr ⟨h, hb.1⟩
 rw [z] at this
 cases this
theorem btw_a {ti : List Row} {a b : Str} {fa fb : List Str} (hb : RchF false ti b fb) (ha : RchF true ti a fa) (h : b ∈ fa) : a ∈ fb :=
 Classical.byContradiction fun hn => fwd_ind ha (· ∉ fb) hn (fun _ hr _ h2 h3 => h2 (bwd_cl hb hr h3)) b h hb.1
theorem priced_all {ti : List Row} {a b : Str} {fa fb : List Str} (hb : RchF false ti b fb) (ha : RchF true ti a fa) {s : LS} (st : ∀ r ∈ rowsI ti (btw fa fb), Settled s r) (h0 : s.p a ≠ none) : ∀ x ∈ fa, x ∈ fb → s.p x ≠ none := by
 refine fwd_ind ha (fun x => x ∈ fb → s.p x ≠ none) (fun _ => h0) fun r hr h1 h2 h3 => ?_
 have h4 := bwd_cl hb hr h3
 have h5 := h2 h4
 cases e : s.p r.a with
 | none => exact absurd e h5
 | some x =>
  obtain ⟨y, ey, _⟩ := st r (rowsI_iff.mpr ⟨hr, btw_iff.mpr ⟨h1, h4⟩, btw_iff.mpr ⟨fwd_cl ha hr h1, h3⟩⟩) x e
  rw [ey]
  exact fun z => nomatch z
theorem end_nil {ti : List Row} {here e : Str} (h : endOf ti here (.list []) = some e) : e = here := (Option.some.inj h).symm
theorem end_cons {ti : List Row} {here e : Str} {d : PyData} {ds : List PyData} (h : endOf ti here (.list (d :: ds)) = some e) : ∃ x r, d = .str x ∧ rowOf ti x = some r ∧ r.a = here ∧ endOf ti r.b (.list ds) = some e := by
 rw [endOf_list] at h
 cases d with
 | str x =>
  have e0 : stD ti here (.str x :: ds) = (stepD ti here (.str x)).bind fun h => (stD ti h ds).map (here :: ·) := rfl
  rw [e0] at h
  have e1 : stepD ti here (.str x) = (rowOf ti x).bind fun r => if r.a = here then some r.b else none := rfl
  rw [e1] at h
  cases er : rowOf ti x with
  | none => rw [er] at h; cases h
  | some r =>
   rw [er, Option.bind_some] at h
   by_cases ha : r.a = here
   ·rw [if_pos ha, Option.bind_some] at h
    refine ⟨x, r, rfl, er, ha, ?_⟩
    rw [endOf_list]
    cases el : stD ti r.b ds with
    | none => rw [el] at h; cases h
    | some l =>
     rw [el] at h
     have hl := stD_ne el
     obtain ⟨y, ys, rfl⟩ : ∃ y ys, l = y :: ys := by
      cases l with
      | nil => exact absurd rfl hl
      | cons y ys => exact ⟨y, ys, rfl⟩
     exact h
   ·rw [if_neg ha] at h
    cases h
 | _ => cases h
theorem row_in {ti : List Row} {x : Str} {r : Row} (h : rowOf ti x = some r) : r ∈ ti := List.mem_of_find?_eq_some h
section
variable {ti : List Row} {a b : Str} {fa fb : List Str}
theorem walk_bwd (hb : RchF false ti b fb) : ∀ (ws : List Str) {here e : Str}, endOf ti here (.list (ws.map PyData.str)) = some e → e ∈ fb → here ∈ fb
 | [], here, e, h, he => by rw [← end_nil h]; exact he
 | x :: ws, here, e, h, he => by
  obtain ⟨x', r, _, er, rfl, h2⟩ := end_cons h
  exact bwd_cl hb (row_in er) (walk_bwd hb ws h2 he)
theorem walk_fwd (ha : RchF true ti a fa) : ∀ (ws : List Str) {here e : Str}, endOf ti here (.list (ws.map PyData.str)) = some e → here ∈ fa → e ∈ fa
 | [], here, e, h, he => by rw [end_nil h]; exact he
 | x :: ws, here, e, h, he => by
  obtain ⟨x', r, _, er, rfl, h2⟩ := end_cons h
  exact walk_fwd ha ws h2 (fwd_cl ha (row_in er) he)
theorem walk_set (hb : RchF false ti b fb) (ha : RchF true ti a fa) {s : LS} (st : ∀ r ∈ rowsI ti (btw fa fb), Settled s r) : ∀ (ws : List Str) {here e : Str} {x : Int}, endOf ti here (.list (ws.map PyData.str)) = some e → here ∈ fa → e ∈ fb → s.p here = some x → ∃ y, s.p e = some y ∧ y ≤ x + costOf ti ws
 | [], here, e, x, h, h1, h2, ex => by
  rw [end_nil h]
  exact ⟨x, ex, by show x ≤ x + 0; omega⟩
 | w :: ws, here, e, x, h, h1, h2, ex => by
  obtain ⟨x', r, ew, er, rfl, h3⟩ := end_cons h
  obtain rfl : w = x' := PyData.str.inj ew
  have hr := row_in er
  have h4 := walk_bwd hb ws h3 h2
  have h5 := fwd_cl ha hr h1
  obtain ⟨y, ey, hy⟩ := st r (rowsI_iff.mpr ⟨hr, btw_iff.mpr ⟨h1, bwd_cl hb hr h4⟩, btw_iff.mpr ⟨h5, h4⟩⟩) x ex
  obtain ⟨z, ez, hz⟩ := walk_set hb ha st ws h3 h5 h2 ey
  refine ⟨z, ez, ?_⟩
  rw [cost_cons er]
  omega
theorem str_view {here : Str} {d : PyData} {q : Str × Int} (h : strD ti here d = some q) : ∃ ws t, 1 ≤ t ∧ endOf ti here (.list (ws.map PyData.str)) = some q.1 ∧ (1 < t → q.1 = here) ∧ q.2 = costOf ti ws * t := by
 unfold strD at h
 split at h
 ·rename_i d0 t
  by_cases h1 : t < 1
  ·rw [if_pos h1] at h; cases h
  ·rw [if_neg h1] at h
   cases ee : endOf ti here d0 with
   | none => rw [ee] at h; cases h
   | some e =>
    rw [ee] at h
    have h3 : (if 1 < t ∧ ¬ e = here then none else some (e, costD ti d0 * t)) = some q := h
    by_cases h2 : 1 < t ∧ ¬ e = here
    ·rw [if_pos h2] at h3; cases h3
    ·rw [if_neg h2] at h3
     cases h3
     obtain ⟨ws, rfl, _⟩ := end_stD ee
     exact ⟨ws, t, by omega, ee, fun z => Classical.byContradiction fun z2 => h2 ⟨z, z2⟩, by rw [costD_list]⟩
 ·cases h
theorem str_set (hb : RchF false ti b fb) (ha : RchF true ti a fa) {s : LS} (st : ∀ r ∈ rowsI ti (btw fa fb), Settled s r) {here : Str} {d : PyData} {q : Str × Int} {x : Int} (h : strD ti here d = some q) (h1 : here ∈ fa) (h2 : q.1 ∈ fb) (ex : s.p here = some x) : ∃ y, s.p q.1 = some y ∧ y ≤ x + q.2 := by
 obtain ⟨ws, t, ht, he, hl, ec⟩ := str_view h
 obtain ⟨y, ey, hy⟩ := walk_set hb ha st ws he h1 h2 ex
 refine ⟨y, ey, ?_⟩
 rw [ec]
 by_cases h1t : 1 < t
 ·have := hl h1t
  rw [this, ex] at ey
  cases ey
  have : 0 ≤ costOf ti ws * t := Int.mul_nonneg (by omega) (by omega)
  omega
 ·have : t = 1 := by omega
  rw [this, Int.mul_one]
  exact hy
theorem walkD_cons {d : PyData} {ds : List PyData} {here : Str} {c : Int} {q : Str × Int} (h : walkD ti (d :: ds) here c = some q) : ∃ q1, strD ti here d = some q1 ∧ walkD ti ds q1.1 (c + q1.2) = some q := by
 unfold walkD at h
 cases e : strD ti here d with
 | none => rw [e] at h; cases h
 | some q1 => rw [e] at h; exact ⟨q1, rfl, h⟩
theorem walkD_bwd (hb : RchF false ti b fb) : ∀ (ds : List PyData) {here : Str} {c : Int} {q : Str × Int}, walkD ti ds here c = some q → q.1 ∈ fb → here ∈ fb
 | [], here, c, q, h, hq => by cases h; exact hq
 | d :: ds, here, c, q, h, hq => by
  obtain ⟨q1, e1, e2⟩ := walkD_cons h
  obtain ⟨ws, t, _, he, _⟩ := str_view e1
  exact walk_bwd hb ws he (walkD_bwd hb ds e2 hq)
theorem walkD_fwd (ha : RchF true ti a fa) : ∀ (ds : List PyData) {here : Str} {c : Int} {q : Str × Int}, walkD ti ds here c = some q → here ∈ fa → q.1 ∈ fa
 | [], here, c, q, h, hq => by cases h; exact hq
 | d :: ds, here, c, q, h, hq => by
  obtain ⟨q1, e1, e2⟩ := walkD_cons h
  obtain ⟨ws, t, _, he, _⟩ := str_view e1
  exact walkD_fwd ha ds e2 (walk_fwd ha ws he hq)
theorem walkD_set (hb : RchF false ti b fb) (ha : RchF true ti a fa) {s : LS} (st : ∀ r ∈ rowsI ti (btw fa fb), Settled s r) : ∀ (ds : List PyData) {here : Str} {c : Int} {q : Str × Int} {x : Int}, walkD ti ds here c = some q → here ∈ fa → q.1 ∈ fb → s.p here = some x → ∃ y, s.p q.1 = some y ∧ y + c ≤ x + q.2
 | [], here, c, q, x, h, h1, h2, ex => by cases h; exact ⟨x, ex, Int.le_refl _⟩
 | d :: ds, here, c, q, x, h, h1, h2, ex => by
  obtain ⟨q1, e1, e2⟩ := walkD_cons h
  obtain ⟨ws, t, _, he, _⟩ := str_view e1
  obtain ⟨y, ey, hy⟩ := str_set hb ha st e1 h1 (walkD_bwd hb ds e2 h2) ex
  obtain ⟨z, ez, hz⟩ := walkD_set hb ha st ds e2 (walk_fwd ha ws he h1) h2 ey
  exact ⟨z, ez, by omega⟩
theorem cheap_view {k : Int} {d : PyData} (h : costOkD ti a b k d = true) : ∃ ds q, d = .list ds ∧ walkD ti ds a 0 = some q ∧ q.1 = b ∧ q.2 ≤ k := by
 unfold costOkD at h
 split at h
 ·rename_i ds
  cases e : walkD ti ds a 0 with
  | none => rw [e] at h; cases h
  | some q =>
   rw [e] at h
   have h' : (decide (q.1 = b) && decide (q.2 ≤ k)) = true := h
   rw [Bool.and_eq_true, decide_eq_true_iff, decide_eq_true_iff] at h'
   exact ⟨ds, q, rfl, e, h'.1, h'.2⟩
 ·cases h
theorem cheap_way (ha : RchF true ti a fa) {k : Int} {d : PyData} (h : costOkD ti a b k d = true) : b ∈ fa := by
 obtain ⟨ds, q, _, e, eb, _⟩ := cheap_view h
 rw [← eb]
 exact walkD_fwd ha ds e ha.1
theorem cheap_low (hb : RchF false ti b fb) (ha : RchF true ti a fa) {s : LS} (st : ∀ r ∈ rowsI ti (btw fa fb), Settled s r) {k x : Int} {d : PyData} (h : costOkD ti a b k d = true) (ex : s.p a = some x) (hx : x ≤ 0) : ∃ y, s.p b = some y ∧ y ≤ k := by
 obtain ⟨ds, q, _, e, eb, hk⟩ := cheap_view h
 obtain ⟨y, ey, hy⟩ := walkD_set hb ha st ds e ha.1 (by rw [eb]; exact hb.1) ex
 rw [eb] at ey
 exact ⟨y, ey, by omega⟩
end
end Net
namespace Net
open PySem L2
theorem fold_none : ∀ (rows : List Row) (s : LS) (v : Option Str), (∀ w x, s.p w = some x → ∃ y, (rows.foldl goR (s, v)).1.p w = some y ∧ y ≤ x)
 | [], s, v, w, x, e => ⟨x, e, Int.le_refl _⟩
 | r :: t, s, v, w, x, e => by
  rw [List.foldl_cons]
  cases hl : lowR s r with
  | true =>
   have eg : goR (s, v) r = (putR s r, some r.b) := by unfold goR; rw [if_pos hl]
   rw [eg]
   obtain ⟨z, ez, hz⟩ := low_yes hl
   by_cases hw : w = r.b
   ·subst hw
    obtain ⟨y, ey, hy⟩ := fold_none t (putR s r) (some r.b) r.b _ (put_p_eq ez)
    have := hz x e
    exact ⟨y, ey, by omega⟩
   ·exact fold_none t (putR s r) (some r.b) w x (by rw [put_p_ne hw]; exact e)
  | false =>
   have eg : goR (s, v) r = (s, v) := by unfold goR; rw [if_neg (by rw [hl]; exact Bool.false_ne_true)]
   rw [eg]
   exact fold_none t s v w x e
theorem fold_eq : ∀ (rows : List Row) (s : LS) (v : Option Str), (∀ w, (rows.foldl goR (s, v)).1.p w = s.p w) → ∀ r ∈ rows, lowR s r = false
 | [], _, _, _, _, h => nomatch h
 | r :: t, s, v, h, q, hq => by
  rw [List.foldl_cons] at h
  cases hl : lowR s r with
  | true =>
   have eg : goR (s, v) r = (putR s r, some r.b) := by unfold goR; rw [if_pos hl]
   rw [eg] at h
   obtain ⟨z, ez, hz⟩ := low_yes hl
   obtain ⟨y, ey, hy⟩ := fold_none t (putR s r) (some r.b) r.b _ (put_p_eq ez)
   rw [h r.b] at ey
   have := hz y ey
   omega
  | false =>
   have eg : goR (s, v) r = (s, v) := by unfold goR; rw [if_neg (by rw [hl]; exact Bool.false_ne_true)]
   rw [eg] at h
   rcases List.mem_cons.mp hq with rfl | hq
   ·exact hl
   ·exact fold_eq t s v h q hq
theorem round_settled {rows : List Row} {n : Nat} {a : Str} (h : ∀ w, pR rows n a w = pR rows (n + 1) a w) : ∀ r ∈ rows, Settled (roundsR rows n (st0 a)).1 r := fun r hr => low_not (fold_eq rows _ none (fun w => (h w).symm) r hr)
theorem rounds_a {rows : List Row} {a : Str} : ∀ n, ∃ x, pR rows n a a = some x ∧ x ≤ 0
 | 0 => ⟨0, by show (if a = a then some (0 : Int) else none) = some 0; rw [if_pos rfl], Int.le_refl _⟩
 | n + 1 => by
  obtain ⟨x, ex, hx⟩ := rounds_a (rows := rows) (a := a) n
  obtain ⟨y, ey, hy⟩ := fold_none rows _ none a x ex
  exact ⟨y, ey, by omega⟩
def Pot (rows : List Row) (f : Str → Int) : Prop := ∀ r ∈ rows, f r.b ≤ f r.a + r.c
theorem pot_fold {f : Str → Int} {c : Int} : ∀ (rows : List Row) (s : LS) (v : Option Str), Pot rows f → (∀ w x, s.p w = some x → f w - c ≤ x) → ∀ w x, (rows.foldl goR (s, v)).1.p w = some x → f w - c ≤ x
 | [], _, _, _, h => h
 | r :: t, s, v, hp, h => by
  rw [List.foldl_cons]
  have hp' : Pot t f := fun q hq => hp q (List.mem_cons_of_mem _ hq)
  cases hl : lowR s r with
  | true =>
   have eg : goR (s, v) r = (putR s r, some r.b) := by unfold goR; rw [if_pos hl]
   rw [eg]
   obtain ⟨z, ez, _⟩ := low_yes hl
   refine pot_fold t (putR s r) _ hp' fun w x e => ?_
   by_cases hw : w = r.b
   ·rw [hw, put_p_eq ez] at e
    cases e
    have h1 := h _ _ ez
    have h2 := hp r List.mem_cons_self
    rw [hw]
    omega
   ·rw [put_p_ne hw] at e
    exact h w x e
  | false =>
   have eg : goR (s, v) r = (s, v) := by unfold goR; rw [if_neg (by rw [hl]; exact Bool.false_ne_true)]
   rw [eg]
   exact pot_fold t s v hp' h
theorem pot_low {f : Str → Int} {rows : List Row} {a : Str} (hp : Pot rows f) : ∀ n w x, pR rows n a w = some x → f w - f a ≤ x
 | 0, w, x, e => by
  have e' : (if w = a then some (0 : Int) else none) = some x := e
  by_cases h : w = a
  ·rw [if_pos h] at e'
   cases e'
   rw [h]
   omega
  ·rw [if_neg h] at e'
   cases e'
 | n + 1, w, x, e => pot_fold rows _ none hp (pot_low hp n) w x e
theorem pot_back {f : Str → Int} {ti rows done todo : List Row} {k now : Nat} {s0 s : LS} {late : Option Str} {lr tau : Str → Nat} (I : LI rows done todo k now s0 s late lr tau) (nd : (ti.map (·.nm)).Nodup) (hsub : ∀ r ∈ rows, r ∈ ti) (hp : Pot rows f) {v : Str} : ∀ i, (∀ j, j < i → s.b (itB s j v) ≠ none) → f v ≤ f (itB s i v) + costOf ti (backL s v i)
 | 0, _ => by show f v ≤ f v + 0; omega
 | i + 1, h => by
  have ih := pot_back I nd hsub hp i fun j hj => h j (Nat.lt_succ_of_lt hj)
  cases e : s.b (itB s i v) with
  | none => exact absurd e (h i (Nat.lt_succ_self _))
  | some r =>
   obtain ⟨h1, h2, _⟩ := I.bk _ r e
   have ep : itB s (i + 1) v = r.a := by show preB s (itB s i v) = _; unfold preB; rw [rowB_some e]
   rw [ep, backL_succ, rowB_some e, cost_cons (rowOf_nd nd (hsub r h1))]
   have := hp r h1
   rw [← h2] at ih
   omega
theorem pot_still {f : Str → Int} {ti rows : List Row} {A : List Str} {a : Str} (nd : (ti.map (·.nm)).Nodup) (hsub : ∀ r ∈ rows, r ∈ ti) (hne : ∀ r ∈ rows, r.a ≠ r.b) (hA : ∀ r ∈ rows, r.a ∈ A ∧ r.b ∈ A) (hp : Pot rows f) : ∀ w, pR rows A.length a w = pR rows (A.length + 1) a w := by
 obtain ⟨now, lr, tau, I⟩ := LI.rounds (s0 := st0 a) (rows := rows) (fun _ => rfl) hne (A.length + 1) (Nat.succ_le_succ (Nat.zero_le _))
 have hl : (roundsR rows (A.length + 1) (st0 a)).2 = none := by
  cases e : (roundsR rows (A.length + 1) (st0 a)).2 with
  | none => rfl
  | some v =>
   exfalso
   rw [e] at I
   have I' : LI rows rows [] (a :: A).length now (st0 a) (roundsR rows (A.length + 1) (st0 a)).1 (some v) lr tau := I
   have hn := never_ends I' fun r hr => ⟨List.mem_cons_of_mem _ (hA r hr).1, List.mem_cons_of_mem _ (hA r hr).2⟩
   generalize (roundsR rows (A.length + 1) (st0 a)).1 = s at I hn
   obtain ⟨d, hd, _, hc⟩ := on_ring (s := s) (v := v) (ks := A) (fun x hx => by
    cases eb : s.b x with
    | none => exact absurd eb hx
    | some r =>
     obtain ⟨h1, h2, _⟩ := I.bk x r eb
     rw [← h2]
     exact (hA r h1).2) hn
   have hb : ∀ j, j < d → s.b (itB s j (itB s A.length v)) ≠ none := fun j _ => by
    rw [← itB_add]
    exact hn _
   have h1 := ring_neg I nd hsub hne hd hb hc
   have h2 := pot_back I nd hsub hp d hb
   rw [hc] at h2
   omega
 intro w
 have h2 := (still_fold rows (s := (roundsR rows A.length (st0 a)).1) (v := none) hl).2.1
 exact (congrArg (fun s : LS => s.p w) h2).symm
theorem dear_view {S : NS} {a b : Str} {k : Int} {d : PyData} (h : noCostD S a b k d = true) : ∃ kv ws, noCostK S a b k kv ws = true := by
 unfold noCostD at h
 split at h
 ·split at h
  ·cases h
  ·rename_i kv _
   rw [Bool.and_eq_true] at h
   have h2 := h.2
   split at h2
   ·cases h2
   ·rename_i ws _
    exact ⟨kv, ws, h2⟩
 ·cases h
theorem dear_pot {S : NS} {a b : Str} {k : Int} {fa fb : List Str} (hb : RchF false S.ti b fb) (ha : RchF true S.ti a fa) (hw : b ∈ fa) {d : PyData} (h : noCostD S a b k d = true) : ∃ f, Pot (rowsI S.ti (btw fa fb)) f ∧ k < f b - f a := by
 obtain ⟨kv, ws, h⟩ := dear_view h
 unfold noCostK at h
 rw [Bool.and_eq_true, Bool.and_eq_true, Bool.and_eq_true, Bool.and_eq_true] at h
 obtain ⟨_, h2, h3, h4, h5⟩ := h
 have hbw : b ∉ ws := by simpa using h3
 have keep : ∀ r ∈ S.ti, keepRow kv ws r = true := List.all_eq_true.mp h4
 have k1 : ∀ r ∈ S.ti, r.a ∈ ws → r.b ∈ ws := fun r hr z => by
  have := keep r hr
  unfold keepRow at this
  rw [Bool.and_eq_true] at this
  have := this.1
  rw [decide_eq_true z] at this
  simpa using this
 have k2 : ∀ r ∈ S.ti, ∀ x, prO kv r.a = some x → r.b ∉ ws → ∃ y, prO kv r.b = some y ∧ y ≤ x + r.c := fun r hr x ex hn => by
  have := keep r hr
  unfold keepRow at this
  rw [Bool.and_eq_true] at this
  have := this.2
  unfold keepTail at this
  rw [ex] at this
  have t2 : (decide (r.b ∈ ws) || (match prO kv r.b with
   | none => false
   | some q => decide (q ≤ x + r.c))) = true := this
  rw [decide_eq_false hn, Bool.false_or] at t2
  cases ey : prO kv r.b with
  | none => rw [ey] at t2; cases t2
  | some y => rw [ey] at t2; exact ⟨y, rfl, of_decide_eq_true t2⟩
 have live : ∀ x ∈ fb, x ∉ ws := bwd_ind hb (· ∉ ws) hbw fun r hr _ q z => q (k1 r hr z)
 have hab := btw_a hb ha hw
 have pa : (prO kv a).isSome = true := by
  rw [Bool.or_eq_true] at h2
  rcases h2 with h2 | h2
  ·exact h2
  ·exact absurd (of_decide_eq_true h2) (live a hab)
 have pr : ∀ x ∈ fa, x ∈ fb → (prO kv x).isSome = true := by
  refine fwd_ind ha (fun x => x ∈ fb → (prO kv x).isSome = true) (fun _ => pa) fun r hr _ q hbf => ?_
  have q2 := q (bwd_cl hb hr hbf)
  cases ex : prO kv r.a with
  | none => rw [ex] at q2; cases q2
  | some x =>
   obtain ⟨y, ey, _⟩ := k2 r hr x ex (live _ hbf)
   rw [ey]
   rfl
 refine ⟨fun x => (prO kv x).getD 0, fun r hr => ?_, ?_⟩
 ·obtain ⟨h1, h6, h7⟩ := rowsI_iff.mp hr
  obtain ⟨a1, a2⟩ := btw_iff.mp h6
  obtain ⟨b1, b2⟩ := btw_iff.mp h7
  have q2 := pr _ a1 a2
  cases ex : prO kv r.a with
  | none => rw [ex] at q2; cases q2
  | some x =>
   obtain ⟨y, ey, hy⟩ := k2 r h1 x ex (live _ b2)
   show (prO kv r.b).getD 0 ≤ (prO kv r.a).getD 0 + r.c
   rw [ex, ey]
   exact hy
 ·have q1 := pr b hw hb.1
  cases ex : prO kv a with
  | none => rw [ex] at pa; cases pa
  | some x =>
   cases ey : prO kv b with
   | none => rw [ey] at q1; cases q1
   | some y =>
    unfold aboveK at h5
    rw [ex, ey] at h5
    have : x + k < y := of_decide_eq_true h5
    show k < (prO kv b).getD 0 - (prO kv a).getD 0
    rw [ex, ey]
    show k < y - x
    omega
end Net
namespace Net
open PySem L2
theorem val_mem {kvs : List (Key × V)} (nd : (kvs.map (·.1)).Nodup) : ∀ {k : Key} {v : V}, (k, v) ∈ kvs → valV kvs k = some v := by
 induction kvs with
 | nil => exact fun h => nomatch h
 | cons p r ih =>
  intro k v h
  rw [List.map_cons, List.nodup_cons] at nd
  rcases List.mem_cons.mp h with rfl | h
  ·exact valV_pos rfl
  ·rw [valV_neg (fun e => nd.1 (by rw [e]; exact List.mem_map.mpr ⟨_, h, rfl⟩))]
   exact ih nd.2 h
theorem mem_val {kvs : List (Key × V)} {k : Key} {v : V} (h : valV kvs k = some v) : (k, v) ∈ kvs := by
 unfold valV at h
 obtain ⟨p, hp, ep⟩ := Option.map_eq_some_iff.mp h
 have h1 := List.mem_of_find?_eq_some hp
 have h2 : p.1 = k := by simpa using List.find?_some hp
 rw [← h2, ← ep]
 exact h1
theorem full_sub {l m : List Key} (hl : l.Nodup) (hs : ∀ x ∈ l, x ∈ m) (hn : m.length ≤ l.length) : ∀ x ∈ m, x ∈ l := fun x hx => Classical.byContradiction fun z => by
 have := nodup_len (l := x :: l) (List.nodup_cons.mpr ⟨z, hl⟩) (m := m) fun y hy => by
  rcases List.mem_cons.mp hy with rfl | hy
  ·exact hx
  ·exact hs y hy
 rw [List.length_cons] at this
 omega
section
variable {ka kb : List (Key × V)} {A : List Str} {p p2 : Str → Option Int}
theorem pr_ints (dk : DKeys ka A) (h : ∀ v, valV ka (Sum.inr v : Key) = (p v).map V.int) : intsV ka := fun q hq => by
 obtain ⟨x, _, ex⟩ := dk.2 q.1 (List.mem_map.mpr ⟨q, hq, rfl⟩)
 have h1 := val_mem dk.1 (k := q.1) (v := q.2) hq
 rw [ex, h x] at h1
 cases e : p x with
 | none => rw [e] at h1; cases h1
 | some i => rw [e] at h1; exact ⟨i, (Option.some.inj h1).symm⟩
theorem pr_same (da : DKeys ka A) (db : DKeys kb A) (ha : ∀ v, valV ka (Sum.inr v : Key) = (p v).map V.int) (hb : ∀ v, valV kb (Sum.inr v : Key) = (p2 v).map V.int) : (ka.length == kb.length && sameD ka kb) = true ↔ ∀ v, p v = p2 v := by
 rw [Bool.and_eq_true]
 constructor
 ·rintro ⟨h1, h2⟩ v
  have hl : ka.length = kb.length := by simpa using h1
  have hs : ∀ q ∈ ka, valV kb q.1 = some q.2 := fun q hq => of_decide_eq_true (List.all_eq_true.mp h2 q hq)
  cases e : p v with
  | some x =>
   have h3 := hs _ (mem_val (by rw [ha v, e]; rfl : valV ka (Sum.inr v : Key) = some (V.int x)))
   rw [hb v] at h3
   cases e2 : p2 v with
   | none => rw [e2] at h3; cases h3
   | some y => rw [e2] at h3; rw [V.int.inj (Option.some.inj h3)]
  | none =>
   cases e2 : p2 v with
   | none => rfl
   | some y =>
    have hk : (Sum.inr v : Key) ∈ kb.map (·.1) := List.mem_map.mpr ⟨_, mem_val (by rw [hb v, e2]; rfl : valV kb (Sum.inr v : Key) = some (V.int y)), rfl⟩
    have := full_sub da.1 (m := kb.map (·.1)) (fun k hk => by
     obtain ⟨q, hq, rfl⟩ := List.mem_map.mp hk
     exact List.mem_map.mpr ⟨_, mem_val (hs q hq), rfl⟩) (by rw [List.length_map, List.length_map]; omega) _ hk
    obtain ⟨q, hq, eq⟩ := List.mem_map.mp this
    have h3 := val_mem da.1 (k := q.1) (v := q.2) hq
    rw [eq, ha v, e] at h3
    cases h3
 ·intro h
  have sub : ∀ {k1 k2 : List (Key × V)} {q1 q2 : Str → Option Int}, DKeys k1 A → (∀ v, valV k1 (Sum.inr v : Key) = (q1 v).map V.int) → (∀ v, valV k2 (Sum.inr v : Key) = (q2 v).map V.int) → (∀ v, q1 v = q2 v) → ∀ q ∈ k1, valV k2 q.1 = some q.2 := fun d1 h1 h2 h12 q hq => by
   obtain ⟨x, _, ex⟩ := d1.2 q.1 (List.mem_map.mpr ⟨q, hq, rfl⟩)
   have h3 := val_mem d1.1 (k := q.1) (v := q.2) hq
   rw [ex] at h3 ⊢
   rw [h2 x, ← h12 x, ← h1 x]
   exact h3
  have s1 := sub da ha hb h
  have s2 := sub db hb ha fun v => (h v).symm
  have le : ∀ {k1 k2 : List (Key × V)}, DKeys k1 A → (∀ q ∈ k1, valV k2 q.1 = some q.2) → k1.length ≤ k2.length := fun {k1 k2} d1 h1 => by
   have := nodup_len d1.1 (m := k2.map (·.1)) fun k hk => by
    obtain ⟨q, hq, rfl⟩ := List.mem_map.mp hk
    exact List.mem_map.mpr ⟨_, mem_val (h1 q hq), rfl⟩
   rw [List.length_map, List.length_map] at this
   exact this
  refine ⟨?_, List.all_eq_true.mpr fun q hq => decide_eq_true (s1 q hq)⟩
  have l1 := le da s1
  have l2 := le db s2
  have : ka.length = kb.length := by omega
  simpa using this
end
def spTruth32 : Sp := fun vs H Q _ => ∃ (pa ta : Addr) (a b : Str) (k : Int) (S : NS), vs = [.ref pa, .ref ta, .str a, .str b, .int k] ∧ PartsAt H pa ta S ∧ GoodS S ∧ a ∈ S.pl ∧ b ∈ S.pl ∧
 ∀ (t : Bool) (H' : Hp), Same H H' → (∀ d, costOkD S.ti a b k d = true → t = true) → (∀ d, noCostD S a b k d = true → t = false) → Q (.bl t) H'
section
variable {P : Program} {w : World} {K : PySem.W.Frag} {mg : Str → Option Value} {base : Heap} {C : Addr}
abbrev Ntruth32 : List Str := ["_law_places", "_law_ties", "_law_a", "_law_b", "_law_k", "_law_between_here", "_law_inner", "_law_least_here", "_law_more"]
theorem sc_truth32 : FnScope Ntruth32 ["_law_places", "_law_ties", "_law_a", "_law_b", "_law_k"] (defScope s_l_truth) := ⟨rfl, rfl, rfl, by decide +kernel, rfl, by decide +kernel, by decide +kernel⟩
theorem ok_truth32 {f : Addr} {fd : FuncData} (F : Fun K "_law_truth" "_law_truth" s_l_truth f fd) (T : Txt K mg C) (cb : Can P w K mg base 2 "_law_between" ["_law_ties", "_law_a", "_law_b"] spBetween) (cl : Can P w K mg base 1 "_law_least" ["_law_places", "_law_ties", "_law_a", "_law_rounds"] spLeast) : FnOk P w K mg base CX0 3 f fd ["_law_places", "_law_ties", "_law_a", "_law_b", "_law_k"] spTruth32 := by
 refine F.ok sc_truth32 (fun vs H Q E h => ?_) (fun cdv A outer s H vs Q E hr h => ?_)
 ·obtain ⟨pa, ta, a, b, k, S, rfl, _⟩ := h
  rfl
 ·obtain ⟨pa, ta, a, b, k, S, rfl, PA, g, ha, hb, q⟩ := h
  have hu := hu_of hr
  have hU := hr.units
  have r1 : Room 1 _ := hr.mono (by decide)
  have nd2 : List.Nodup (["_law_tie", "_law_between_here"] : List Str) := by decide +kernel
  refine ⟨_, (pss_cons (ps_set (i := 5) sc_truth32.nd rfl (Or.inr rfl) (pe_callC cb hr (by rfl) (pa_cons (pv 1) (pa_cons (pv 2) (pa_cons (pv 3) pa_nil)))))
   (pss_cons (ps_if (pt_cmpR (op_eqD hU) (pv 5) (pe_lst pa_nil) (nomark _)) (pss_one (ps_ret pe_bl)) pss_nil)
   (pss_cons (ps_comp (j := 6) (N := ["_law_tie", "_law_between_here"]) (xs := 1) (js := [5]) rfl sc_truth32.nd rfl rfl (compScope_of rfl) (pi_list (pv 1)) (fun _ _ _ _ => pg_name (i := 0) nd2 rfl (Or.inl rfl))
     (fun _ _ _ _ => pts_one (PW.pt (pw_and (pt_cmpR (op_inK K (by rfl)) (pe_ix (ix_tupK K (by rfl)) (pv 0) pe_int (fun _ _ => by rfl)) (pv 1) (by with_unfolding_all rfl)) (pw_and1 (pt_cmpR (op_inK K (by rfl)) (pe_ix (ix_tupK K (by rfl)) (pv 0) pe_int (fun _ _ => by rfl)) (pv 1) (by with_unfolding_all rfl)))))) (fun _ _ _ _ => pv 0) rfl)
   (pss_cons (ps_set (i := 7) sc_truth32.nd rfl (Or.inl rfl) (pe_callC cl r1 (by rfl) (pa_cons (pv 0) (pa_cons (pv 6) (pa_cons (pv 2) (pa_cons (pe_callB call_len_seq (by rfl) T.len b_len (pa_cons (pv 0) pa_nil)) pa_nil))))))
   (pss_cons (ps_set (i := 8) sc_truth32.nd rfl (Or.inl rfl) (pe_callC cl r1 (by rfl) (pa_cons (pv 0) (pa_cons (pv 6) (pa_cons (pv 2) (pa_cons (pe_op op_add (pe_callB call_len_seq (by rfl) T.len b_len (pa_cons (pv 0) pa_nil)) pe_int) pa_nil))))))
   (pss_one (ps_ret (pe_or (pe_cmpR (op_neDict (Nat.lt_of_le_of_lt (Nat.le_add_right _ 64) hU)) (pv 7) (pv 8) (nomark _)) (pe_one (pe_cmpR op_le (pe_dget hu (pv 7) (pv 3) (fun _ _ => rfl)) (pv 4) (nomark _))))))))))), ?_⟩
  obtain ⟨L, RL, eta⟩ := PA.ti
  have hL : L.length = S.ti.length := by rw [← RL.1, List.length_map]
  have h6 := g.lenP
  have hpl : (S.pl.map V.str).length = S.pl.length := List.length_map ..
  refine ⟨_, rfl, _, rfl, _, rfl, pa, ta, a, b, S, rfl, PA, g, ha, hb, fun bl fa fb H1 fn nda Ra Rb => ?_⟩
  have s1 := fn.same
  have okb : ∀ x ∈ btw fa fb, nameB x = true := fun x hx => g.okP x (fn.sub x hx)
  refine ⟨_, rfl, by decide, fun ee hee => ⟨2, _, _, by decide, rd_strs ((Same.new hee) _ _ fn.ob) okb, rd_nil upd_same, _, rfl, ?_⟩⟩
  have z2 := Same.new (o := .lst []) hee
  generalize upd H1 ee (.lst []) = H2 at z2
  have s2 := s1.trans z2
  show if PyData.eqv (.list ((btw fa fb).map PyData.str)) (.list []) = true then _ else _
  rw [eqv_nil]
  by_cases hbt : btw fa fb = []
  ·rw [hbt]
   refine iteT (q false _ s2 (fun d h => absurd hbt (btw_ne Rb (cheap_way Ra h))) fun _ _ => rfl)
  have hw := btw_b Rb Ra hbt
  refine iteFb (by cases e : btw fa fb with | nil => exact absurd e hbt | cons _ _ => rfl) ?_
  have ebl := z2 _ _ fn.ob
  have RL2 := RL.same s2
  have eta2 := s2 _ _ eta
  refine ⟨_, rfl, ta, rfl, ⟨_, SqL.of eta2⟩, comp_list (K := K) (ys := L.map fun q => V.ref q.2) (fun i acc σ' H' => H' = H2 ∧ acc = ((L.take i).filter fun q => decide (q.1.a ∈ btw fa fb) && decide (q.1.b ∈ btw fa fb)).map (fun q => V.ref q.2) ∧ ∃ o, σ' = [o, some (.ref bl)])
   ⟨rfl, rfl, none, rfl⟩ (fun i acc σ' H' h => ?_) ?_ (fun i acc σ' H' _ h => by rw [h.1]; exact SqL.of eta2) (fun i x acc σ' H' hx h => ?_) (fun acc σ' H' h rl hrl => ?_)⟩
  ·obtain ⟨_, rfl, _⟩ := h
   rw [List.length_map]
   exact Nat.le_trans (List.length_filter_le _ _) (by rw [List.length_take]; omega)
  ·rw [List.length_map, hL]
   exact Nat.le_trans g.lenT (by decide)
  ·obtain ⟨rfl, rfl, o3, rfl⟩ := h
   rw [List.getElem?_map] at hx
   cases eq : L[i]? with
   | none => rw [eq] at hx; cases hx
   | some qq =>
    rw [eq] at hx
    cases hx
    have ht := RL2.2 qq (List.mem_of_getElem? eq)
    have tk := fun c hc => take_filter (f := fun q : Row × Addr => decide (q.1.a ∈ btw fa fb) && decide (q.1.b ∈ btw fa fb)) eq c hc
    refine ⟨_, rfl, qq.2, _, _, .str qq.1.a, rfl, rfl, SqT.of ht, rfl, _, rfl, bl, _, rfl, .inl (SqL.of ebl), rfl, flat_strs _, _, rfl, ?_⟩
    show if (if false = true then !inV (.str qq.1.a) ((btw fa fb).map V.str) else inV (.str qq.1.a) ((btw fa fb).map V.str)) = true then _ else _
    rw [if_neg Bool.false_ne_true, inV_str]
    by_cases h1 : qq.1.a ∈ btw fa fb
    ·rw [decide_eq_true h1]
     refine iteT ⟨_, rfl, qq.2, _, _, .str qq.1.b, rfl, rfl, SqT.of ht, rfl, _, rfl, bl, _, rfl, .inl (SqL.of ebl), rfl, flat_strs _, _, rfl, ?_⟩
     show if (if false = true then !inV (.str qq.1.b) ((btw fa fb).map V.str) else inV (.str qq.1.b) ((btw fa fb).map V.str)) = true then _ else _
     rw [if_neg Bool.false_ne_true, inV_str]
     by_cases h2 : qq.1.b ∈ btw fa fb
     ·rw [decide_eq_true h2]
      refine iteT ⟨_, rfl, rfl, ?_, _, rfl⟩
      rw [tk true (by rw [decide_eq_true h1, decide_eq_true h2]; rfl), List.map_append]
      rfl
     ·rw [decide_eq_false h2]
      refine iteF ⟨rfl, ?_, _, rfl⟩
      rw [tk false (by rw [decide_eq_false h2, Bool.and_false])]
      simp
    ·rw [decide_eq_false h1]
     refine iteF (iteF ⟨rfl, ?_, _, rfl⟩)
     rw [tk false (by rw [decide_eq_false h1, Bool.false_and])]
     simp
  obtain ⟨rfl, rfl, o3, rfl⟩ := h
  rw [List.length_map, List.take_length]
  have RA : Rows H' (L.filter fun q => decide (q.1.a ∈ btw fa fb) && decide (q.1.b ∈ btw fa fb)) (rowsI S.ti (btw fa fb)) := by
   refine ⟨?_, fun q hq => RL2.2 q (List.mem_filter.mp hq).1⟩
   unfold rowsI
   rw [← RL.1, List.filter_map]
   rfl
  generalize (L.filter fun q => decide (q.1.a ∈ btw fa fb) && decide (q.1.b ∈ btw fa fb)) = LA at RA
  have z3 := Same.new (o := .lst (LA.map fun q => V.ref q.2)) hrl
  have erl : (upd H' rl (.lst (LA.map fun q => V.ref q.2))) rl = some (.lst (LA.map fun q => V.ref q.2)) := upd_same
  generalize upd H' rl (.lst (LA.map fun q => V.ref q.2)) = H3 at z3 erl
  have s3 := s2.trans z3
  have RA3 := RA.same z3
  have hin : ∀ r ∈ rowsI S.ti (btw fa fb), r.b ∈ S.pl := fun r hr => (g.okT r (rowsI_iff.mp hr).1).2.2
  have hin2 : ∀ r ∈ rowsI S.ti (btw fa fb), r.a ∈ S.pl ∧ r.b ∈ S.pl := fun r hr => (g.okT r (rowsI_iff.mp hr).1).2
  refine ⟨_, rfl, _, rfl, _, rfl, _, rfl, pa, _, rfl, .inl (SqL.of (s3 _ _ PA.pl)), .ref pa, rl, a, (S.pl.map V.str).length, S.pl, LA, rowsI S.ti (btw fa fb), rfl, by omega, by omega, ha, hin, RA3, erl, fun d1 H4 hd1 s4 Pr1 => ?_⟩
  rw [hpl] at Pr1
  have s04 := s3.trans s4
  refine ⟨_, rfl, _, rfl, _, rfl, _, rfl, pa, _, rfl, .inl (SqL.of (s04 _ _ PA.pl)), _, _, rfl, rfl, .ref pa, rl, a, (S.pl.map V.str).length + 1, S.pl, LA, rowsI S.ti (btw fa fb), rfl, by omega, by omega, ha, hin, RA3.same s4, s4 _ _ erl, fun d2 H5 hd2 s5 Pr2 => ?_⟩
  rw [hpl] at Pr2
  have s05 := s04.trans s5
  obtain ⟨ka, eka, dka, hka⟩ := Pr1.same s5
  obtain ⟨kb, ekb, dkb, hkb⟩ := Pr2
  have hps := pr_same dka dkb hka hkb
  refine ⟨_, rfl, _, rfl, d1, d2, ka, kb, rfl, rfl, eka, ekb, pr_ints dka hka, pr_ints dkb hkb, _, rfl, ?_⟩
  cases hs : (ka.length == kb.length && sameD ka kb) with
  | false =>
   refine iteT (q true _ s05 (fun _ _ => rfl) fun d hd => ?_)
   obtain ⟨f, hp, _⟩ := dear_pot Rb Ra hw hd
   have := hps.mpr (pot_still g.ndT (fun r hr => (rowsI_iff.mp hr).1) (fun r hr => (g.neT r (rowsI_iff.mp hr).1).1) hin2 hp)
   rw [hs] at this
   cases this
  | true =>
   have heq := hps.mp hs
   have st := round_settled heq
   obtain ⟨x, ex, hx⟩ := rounds_a (rows := rowsI S.ti (btw fa fb)) (a := a) S.pl.length
   have hbn := priced_all Rb Ra st (by rw [show (roundsR (rowsI S.ti (btw fa fb)) S.pl.length (st0 a)).1.p a = some x from ex]; exact fun z => nomatch z) b hw Rb.1
   cases eb : pR (rowsI S.ti (btw fa fb)) S.pl.length a b with
   | none => exact absurd eb hbn
   | some y =>
    have vb : valV ka (Sum.inr b : Key) = some (.int y) := by rw [hka, eb]; rfl
    refine iteF ⟨_, rfl, _, rfl, d1, _, rfl, by rw [← vb]; exact DGet.k (k := Sum.inr b) eka, _, rfl, _, _, rfl, rfl, q _ _ s05 (fun d hd => ?_) fun d hd => ?_⟩
    ·obtain ⟨z, ez, hz⟩ := cheap_low Rb Ra st hd ex hx
     rw [show (roundsR (rowsI S.ti (btw fa fb)) S.pl.length (st0 a)).1.p b = some y from eb] at ez
     cases ez
     exact decide_eq_true hz
    ·obtain ⟨f, hp, hk⟩ := dear_pot Rb Ra hw hd
     have := pot_low hp _ _ _ eb
     exact decide_eq_false (by omega)
end
end Net
namespace Net
open PySem L2
def SmD : Nat → PyData → Prop
 | 0, .list _ => False
 | n + 1, .list ds => ds.length ≤ 1000 ∧ ∀ x ∈ ds, SmD n x
 | _, .int t => t.natAbs ≤ 10 ^ 100
 | _, _ => True
theorem SmD.up : ∀ {n : Nat} {d : PyData}, SmD n d → SmD (n + 1) d
 | 0, .list _, h => h.elim
 | n + 1, .list ds, h => ⟨h.1, fun x hx => (h.2 x hx).up⟩
 | 0, .int _, h => h
 | _ + 1, .int _, h => h
 | 0, .none, _ => True.intro
 | 0, .bool _, _ => True.intro
 | 0, .str _, _ => True.intro
 | 0, .tuple _, _ => True.intro
 | 0, .dict _, _ => True.intro
 | _ + 1, .dict _, _ => True.intro
 | _ + 1, .none, _ => True.intro
 | _ + 1, .bool _, _ => True.intro
 | _ + 1, .str _, _ => True.intro
 | _ + 1, .tuple _, _ => True.intro
def HasB (H : Hp) (n : Nat) (v : V) : Prop := ∃ d, PD H n v d ∧ SmD n d
theorem HasB.same {H H' : Hp} {n : Nat} {v : V} (s : Same H H') (h : HasB H n v) : HasB H' n v := let ⟨d, a, b⟩ := h; ⟨d, a.same s, b⟩
theorem HasB.up {H : Hp} {n : Nat} {v : V} (h : HasB H n v) : HasB H (n + 1) v := let ⟨d, a, b⟩ := h; ⟨d, a.up, b.up⟩
theorem HasB.str {H : Hp} {n : Nat} {x : Str} (h : PyData.strOk x = true) : HasB H n (.str x) := ⟨.str x, by cases n <;> exact ⟨h, rfl⟩, by cases n <;> exact True.intro⟩
theorem HasB.int {H : Hp} {n : Nat} {i : Int} (h : i.natAbs ≤ 10 ^ 100) : HasB H n (.int i) := ⟨.int i, by cases n <;> rfl, by cases n <;> exact h⟩
theorem HasB.bl {H : Hp} {n : Nat} {b : Bool} : HasB H n (.bl b) := ⟨.bool b, by cases n <;> rfl, by cases n <;> exact True.intro⟩
theorem allB_pair {H : Hp} {n : Nat} : ∀ {xs : List V}, (∀ v ∈ xs, HasB H n v) → ∃ ds, Paired (PD H n) xs ds ∧ ∀ d ∈ ds, SmD n d
 | [], _ => ⟨[], .nil, fun _ h => nomatch h⟩
 | v :: r, h => by
  obtain ⟨d, p, sm⟩ := h v List.mem_cons_self
  obtain ⟨ds, q, hs⟩ := allB_pair fun u hu => h u (List.mem_cons_of_mem _ hu)
  refine ⟨d :: ds, .cons p q, fun e he => ?_⟩
  rcases List.mem_cons.mp he with rfl | he
  ·exact sm
  ·exact hs e he
theorem lstB {H : Hp} {n : Nat} {a : Addr} {xs : List V} (e : H a = some (.lst xs)) (h : ∀ v ∈ xs, HasB H n v) (hl : xs.length ≤ 1000) : ∃ ds, PD H (n + 1) (.ref a) (.list ds) ∧ SmD (n + 1) (.list ds) := by
 obtain ⟨ds, p, hs⟩ := allB_pair h
 exact ⟨ds, .inl ⟨xs, ds, e, rfl, p⟩, by rw [← Paired.length p]; exact hl, hs⟩
theorem HasB.lst {H : Hp} {n : Nat} {a : Addr} {xs : List V} (e : H a = some (.lst xs)) (h : ∀ v ∈ xs, HasB H n v) (hl : xs.length ≤ 1000) : HasB H (n + 1) (.ref a) := let ⟨_, p, q⟩ := lstB e h hl; ⟨_, p, q⟩
theorem strsB {H : Hp} {n : Nat} {ws : List Str} (h : ∀ x ∈ ws, nameB x = true) : ∀ v ∈ ws.map V.str, HasB H n v := fun v hv => by
 obtain ⟨x, hx, rfl⟩ := List.mem_map.mp hv
 exact .str (strOk_of (h x hx))
theorem cut_sub {xs : List V} {lo hi : Option Int} : (∀ v ∈ cutV xs lo hi, v ∈ xs) ∧ (cutV xs lo hi).length ≤ xs.length := by
 unfold cutV
 refine ⟨fun v hv => List.mem_of_mem_drop (List.mem_of_mem_take hv), ?_⟩
 rw [List.length_take, List.length_drop]
 omega
theorem odd_ok : PyData.strOk "odd" = true := strOk_of (by decide +kernel)
theorem ties_ok : PyData.strOk "ties" = true := strOk_of (by decide +kernel)
def RowB (H : Hp) (u : V) : Prop := (∃ la ys, u = .ref la ∧ H la = some (.lst ys) ∧ ys.length ≤ 3 ∧ ∀ y ∈ ys, HasB H 1 y) ∨ u = .str "odd"
theorem RowB.same {H H' : Hp} {u : V} (s : Same H H') (h : RowB H u) : RowB H' u := by
 rcases h with ⟨la, ys, e, h1, h2, h3⟩ | h
 ·exact .inl ⟨la, ys, e, s _ _ h1, h2, fun y hy => (h3 y hy).same s⟩
 ·exact .inr h
theorem RowB.has {H : Hp} {u : V} (h : RowB H u) : HasB H 2 u := by
 rcases h with ⟨la, ys, rfl, h1, h2, h3⟩ | rfl
 ·exact .lst h1 h3 (by omega)
 ·exact .str odd_ok
def RowP (H : Hp) (u : V) : Prop := ∃ la x i, u = .ref la ∧ H la = some (.lst [x, .int i]) ∧ HasB H 1 x ∧ i.natAbs ≤ 10 ^ 99
theorem RowP.rowB {H : Hp} {u : V} (h : RowP H u) : RowB H u := by
 obtain ⟨la, x, i, rfl, e, hx, hi⟩ := h
 refine .inl ⟨la, _, rfl, e, by show 2 ≤ 3; decide, fun y hy => ?_⟩
 rcases List.mem_cons.mp hy with rfl | hy
 ·exact hx
 ·rw [List.mem_singleton.mp hy]
  exact .int (Nat.le_trans hi (by decide))
def spBent32 : Sp := fun vs H Q _ => ∃ (rl : Addr) (xs : List V) (c : Int), vs = [.ref rl, .int c] ∧ H rl = some (.lst xs) ∧ (∀ u ∈ xs, RowP H u) ∧ xs.length ≤ 20 ∧
 ∀ (l : Addr) (us : List V) (H' : Hp), Same H H' → H' l = some (.lst us) → us.length ≤ 60 → (∀ u ∈ us, RowB H' u) → Q (.ref l) H'
section
variable {P : Program} {w : World} {K : PySem.W.Frag} {mg : Str → Option Value} {base : Heap} {C : Addr}
abbrev Nbent32 : List Str := ["_law_rows", "_law_cell", "_law_way", "_law_at", "_law_row"]
theorem sc_bent32 : FnScope Nbent32 ["_law_rows", "_law_cell"] (defScope s_l_bent) := ⟨rfl, rfl, rfl, by decide +kernel, rfl, by decide +kernel, by decide +kernel⟩
theorem ok_bent32 {f : Addr} {fd : FuncData} (F : Fun K "_law_bent" "_law_bent" s_l_bent f fd) (T : Txt K mg C) (TM : TxtM mg) : FnOk P w K mg base CX0 1 f fd ["_law_rows", "_law_cell"] spBent32 := by
 refine F.ok sc_bent32 (fun vs H Q E h => ?_) (fun cdv A outer s H vs Q E hr h => ?_)
 ·obtain ⟨rl, xs, c, rfl, _⟩ := h
  rfl
 ·obtain ⟨rl, xs, c, rfl, hrl, hxs, hlen, q⟩ := h
  have hu := hr.units
  refine ⟨_, (pss_cons (ps_set (i := 2) sc_bent32.nd rfl (Or.inl rfl) (pe_op op_mod (pv 1) pe_int))
   (pss_cons (ps_set (i := 3) sc_bent32.nd rfl (Or.inl rfl) (pe_op op_mod (pe_op op_fdiv (pv 1) pe_int) (pe_callB (call_max2 rfl) (by rfl) TM.max b_max (pa_cons pe_int (pa_cons (pe_callB call_len_seq (by rfl) T.len b_len (pa_cons (pv 0) pa_nil)) pa_nil)))))
   (pss_cutE (ps_if (PW.pt (pw_or (pt_cmpR (op_eqD hu) (pv 0) (pe_lst pa_nil) (nomark _)) (pw_or1 (pt_cmpR op_gt (pv 2) pe_int (nomark _))))) (pss_one (ps_ret (pv 0))) pss_nil)
   (pss_cons (ps_set (i := 4) sc_bent32.nd rfl (Or.inl rfl) (pe_callTy call_list_of (by rfl) T.list b_list (pa_cons (pe_ix ix_list (pv 0) (pv 3) (fun _ _ => by rfl)) pa_nil)))
   (pss_cons (ps_if (pt_cmpR op_eq (pv 2) pe_int (nomark _)) (pss_one (ps_ret (pe_op op_cat (pe_slice sl_list (pv 0) po_none (po_some (pv 3))) (pe_slice sl_list (pv 0) (po_some (pe_op op_add (pv 3) pe_int)) po_none)))) pss_nil)
   (pss_cons (ps_if (pt_cmpR op_eq (pv 2) pe_int (nomark _)) (pss_one (ps_ret (pe_op op_cat (pe_op op_cat (pe_slice sl_list (pv 0) po_none (po_some (pv 3))) (pe_lst (pa_cons (pv 4) pa_nil))) (pe_slice sl_list (pv 0) (po_some (pv 3)) po_none)))) pss_nil)
   (pss_cutE (ps_if (pt_cmpR op_eq (pv 2) pe_int (nomark _)) (pss_one (ps_asg (pe_op op_add (pe_ix ix_list (pv 4) pe_int (fun _ _ => by rfl)) (pe_ix ix_list (pe_lst (pa_cons pe_int (pa_cons (pe_un un_neg pe_int) pa_nil))) (pe_op op_mod (pe_op op_fdiv (pv 1) pe_int) pe_int) (fun _ _ => by rfl))) (pg_sub (pv 4) pe_int set_list))) pss_nil)
   (pss_cutE (ps_if (pt_cmpR op_eq (pv 2) pe_int (nomark _)) (pss_one (ps_set (i := 4) sc_bent32.nd rfl (Or.inl rfl) (pe_ix ix_list (pe_lst (pa_cons (pe_lst (pa_cons (pe_ix ix_list (pv 4) pe_int (fun _ _ => by rfl)) pa_nil)) (pa_cons (pe_lst (pa_cons (pe_ix ix_list (pv 4) pe_int (fun _ _ => by rfl)) (pa_cons pe_bl pa_nil))) (pa_cons (pe_lst (pa_cons pe_str (pa_cons pe_int pa_nil))) (pa_cons pe_str (pa_cons (pe_lst (pa_cons (pe_ix ix_list (pv 4) pe_int (fun _ _ => by rfl)) (pa_cons (pe_ix ix_list (pv 4) pe_int (fun _ _ => by rfl)) (pa_cons pe_int pa_nil)))) pa_nil)))))) (pe_op op_mod (pe_op op_fdiv (pv 1) pe_int) pe_int) (fun _ _ => by rfl)))) pss_nil)
   (pss_cutE (ps_if (pt_cmpR op_eq (pv 2) pe_int (nomark _)) (pss_one (ps_asg (pe_ix ix_list (pe_lst (pa_cons (pe_lst (pa_cons pe_str pa_nil)) (pa_cons pe_int (pa_cons (pe_lst pa_nil) (pa_cons pe_str pa_nil))))) (pe_op op_mod (pe_op op_fdiv (pv 1) pe_int) pe_int) (fun _ _ => by rfl)) (pg_sub (pv 4) pe_int set_list))) pss_nil)
   (pss_one (ps_ret (pe_op op_cat (pe_op op_cat (pe_slice sl_list (pv 0) po_none (po_some (pv 3))) (pe_lst (pa_cons (pv 4) pa_nil))) (pe_slice sl_list (pv 0) (po_some (pe_op op_add (pv 3) pe_int)) po_none))))))))))))), ?_⟩
  obtain ⟨ds, pr, _⟩ := allB_pair fun u hu => (hxs u hu).rowB.has
  have hmax : (0 : Int) < (if ((xs.length : Nat) : Int) > 1 then ((xs.length : Nat) : Int) else 1) := by split <;> omega
  refine ⟨_, rfl, _, _, rfl, rfl, (by show (0 : Int) < 9; decide), ?_⟩
  refine ⟨_, rfl, _, _, rfl, rfl, ⟨by decide, by decide⟩, _, rfl, rl, _, rfl, .inl (SqL.of hrl), _, _, rfl, _, _, rfl, rfl, hmax, ?_⟩
  dsimp only
  have hpick : 1 ≤ xs.length → ∃ v ∈ xs, atI xs (c / 9 % (if ((xs.length : Nat) : Int) > 1 then ((xs.length : Nat) : Int) else 1)) = some v := fun h1 => by
   have e : (if ((xs.length : Nat) : Int) > 1 then ((xs.length : Nat) : Int) else 1) = ((xs.length : Nat) : Int) := by split <;> omega
   rw [e]
   exact pickV h1 _
  generalize c / 9 % (if ((xs.length : Nat) : Int) > 1 then ((xs.length : Nat) : Int) else 1) = at_ at hpick
  generalize c % 9 = wy
  have line : ∀ k : Nat, k ≤ 1000 → k ≤ sizeLine := fun k h => Nat.le_trans h (by decide)
  have whole : ∀ {H' : Hp}, Same H H' → Q (.ref rl) H' := fun {H'} s => q rl xs H' s (s _ _ hrl) (by omega) fun u hu => (hxs u hu).rowB.same s
  refine ⟨fun σ' H' => σ' = [some (.ref rl), some (.int c), some (.int wy), some (.int at_), none] ∧ Same H H' ∧ 1 ≤ xs.length, ?_, ?_⟩
  ·refine ⟨_, rfl, by decide, fun ee hee => ⟨2 + 1 + 2, _, _, by decide, ((PD.mono (n := 2 + 1) (v := .ref rl) (d := .list ds) (Or.inl ⟨xs, ds, (Same.new hee) _ _ hrl, rfl, L2.Paired.mapP pr fun _ _ h => PD.same (Same.new hee) h⟩) 2).rd), rd_nil2 upd_same, _, rfl, ?_⟩⟩
   have s1 := Same.new (o := .lst []) hee
   generalize upd H ee (.lst []) = H1 at s1
   show if (if false = true then _ else PyData.eqv (.list ds) (.list [])) = true then _ else _
   rw [if_neg Bool.false_ne_true, eqv_nil]
   cases ds with
   | nil => exact iteT (iteT ⟨_, rfl, whole s1⟩)
   | cons d0 dr =>
    have hl1 : 1 ≤ xs.length := by rw [Paired.length pr, List.length_cons]; omega
    exact iteF ⟨_, rfl, _, _, rfl, rfl, _, rfl, ite2 (fun _ => ⟨_, rfl, whole s1⟩) (fun _ => ⟨rfl, s1, hl1⟩)⟩
  rintro σ1 H1 ⟨rfl, s1, hl1⟩
  have hrl1 := s1 _ _ hrl
  obtain ⟨u0, hu0, eu0⟩ := hpick hl1
  obtain ⟨la, x, i, rfl, ela, hx, hi⟩ := hxs u0 hu0
  have outL : ∀ {H' : Hp} {a : Addr} {us : List V}, Same H1 H' → H' a = some (.lst us) → us.length ≤ 60 → (∀ u ∈ us, u ∈ xs ∨ RowB H' u) → Q (.ref a) H' := fun {H' a us} s e hl hu => by
   have s' := s1.trans s
   refine q _ _ _ s' e hl fun u h => ?_
   rcases hu u h with z | z
   ·exact (hxs u z).rowB.same s'
   ·exact z
  refine ⟨_, rfl, _, rfl, rl, _, _, .ref la, rfl, rfl, SqL.of hrl1, eu0, la, _, rfl, .inl (SqL.of (s1 _ _ ela)), fun rw_ hrw => ?_⟩
  have z0 := Same.new (o := .lst [x, .int i]) hrw
  have erw : (upd H1 rw_ (.lst [x, .int i])) rw_ = some (.lst [x, .int i]) := upd_same
  generalize upd H1 rw_ (.lst [x, .int i]) = H2 at z0 erw
  have s2 := s1.trans z0
  have hrw0 : H rw_ = none := s1.free hrw
  have hrl2 := z0 _ _ hrl1
  have hx2 := hx.same s2
  refine ⟨_, rfl, rfl, _, rfl, ite2 (fun _ => ?_) (fun _ => ?_)⟩
  ·refine ⟨_, rfl, _, rfl, _, rfl, rl, _, rfl, SqL.of hrl2, fun p1 hp1 => ?_⟩
   have c1 := cut_sub (xs := xs) (lo := none) (hi := some at_)
   generalize cutV xs none (some at_) = u1 at c1
   have z1 := Same.new (o := .lst u1) hp1
   have e1 : (upd H2 p1 (.lst u1)) p1 = some (.lst u1) := upd_same
   generalize upd H2 p1 (.lst u1) = H3 at z1 e1
   refine ⟨_, rfl, _, rfl, _, _, rfl, rfl, _, rfl, rl, _, rfl, SqL.of (z1 _ _ hrl2), fun p2 hp2 => ?_⟩
   have c2 := cut_sub (xs := xs) (lo := some (at_ + 1)) (hi := none)
   generalize cutV xs (some (at_ + 1)) none = u2 at c2
   have l1 := c1.2
   have l2 := c2.2
   refine ⟨p1, p2, _, _, rfl, rfl, (Same.new hp2) _ _ e1, upd_same, line _ (by omega), fun p3 hp3 => outL (z0.trans ((z1.upd hp2).upd hp3)) upd_same (by rw [List.length_append]; omega) fun u hu => ?_⟩
   rcases List.mem_append.mp hu with h | h
   ·exact .inl (c1.1 u h)
   ·exact .inl (c2.1 u h)
  refine ⟨_, rfl, rfl, _, rfl, ite2 (fun _ => ?_) (fun _ => ?_)⟩
  ·refine ⟨_, rfl, _, rfl, _, rfl, rl, _, rfl, SqL.of hrl2, fun p1 hp1 => ?_⟩
   have c1 := cut_sub (xs := xs) (lo := none) (hi := some at_)
   generalize cutV xs none (some at_) = u1 at c1
   have z1 := Same.new (o := .lst u1) hp1
   have e1 : (upd H2 p1 (.lst u1)) p1 = some (.lst u1) := upd_same
   generalize upd H2 p1 (.lst u1) = H3 at z1 e1
   have l1 := c1.2
   refine ⟨_, rfl, (by show 1 ≤ sizeLine; decide), fun p2 hp2 => ?_⟩
   refine ⟨p1, p2, _, _, rfl, rfl, (Same.new hp2) _ _ e1, upd_same, line _ (by show u1.length + 1 ≤ 1000; omega), fun p3 hp3 => ?_⟩
   have z3 := (z1.upd (o := .lst [.ref rw_]) hp2).upd (o := .lst (u1 ++ [.ref rw_])) hp3
   have e3 : (upd (upd H3 p2 (.lst [.ref rw_])) p3 (.lst (u1 ++ [.ref rw_]))) p3 = some (.lst (u1 ++ [.ref rw_])) := upd_same
   generalize upd (upd H3 p2 (.lst [.ref rw_])) p3 (.lst (u1 ++ [.ref rw_])) = H4 at z3 e3
   refine ⟨_, rfl, _, rfl, _, rfl, rl, _, rfl, SqL.of (z3 _ _ hrl2), fun p4 hp4 => ?_⟩
   have c3 := cut_sub (xs := xs) (lo := some at_) (hi := none)
   generalize cutV xs (some at_) none = u3 at c3
   have l3 := c3.2
   refine ⟨p3, p4, _, _, rfl, rfl, (Same.new hp4) _ _ e3, upd_same, line _ (by rw [List.length_append]; show u1.length + 1 + u3.length ≤ 1000; omega), fun p5 hp5 => outL (z0.trans ((z3.upd hp4).upd hp5)) upd_same (by rw [List.length_append, List.length_append]; show u1.length + 1 + u3.length ≤ 60; omega) fun u hu => ?_⟩
   rcases List.mem_append.mp hu with h | h
   ·rcases List.mem_append.mp h with h | h
    ·exact .inl (c1.1 u h)
    ·rw [List.mem_singleton.mp h]
     exact .inr (RowP.rowB ⟨rw_, x, i, rfl, ((z3.upd hp4).upd hp5) _ _ erw, hx2.same ((z3.upd hp4).upd hp5), hi⟩)
   ·exact .inl (c3.1 u h)
  refine ⟨fun σ' H' => ∃ i', σ' = [some (.ref rl), some (.int c), some (.int wy), some (.int at_), some (.ref rw_)] ∧ Same H1 H' ∧ H' rw_ = some (.lst [x, .int i']) ∧ i'.natAbs ≤ 10 ^ 100, ?_, ?_⟩
  ·refine ⟨_, rfl, rfl, _, rfl, ite2 (fun _ => ?_) (fun _ => ⟨i, rfl, z0, erw, Nat.le_trans hi (by decide)⟩)⟩
   refine ⟨_, rfl, rw_, _, _, .int i, rfl, rfl, SqL.of erw, rfl, _, rfl, (by show 2 ≤ sizeLine; decide), fun p1 hp1 => ?_⟩
   obtain ⟨u, hu, eu⟩ := pickV (xs := [.int 1, .int (-1)]) (by show 1 ≤ 2; decide) (c / 90)
   have z1 := Same.new (o := .lst [.int 1, .int (-1)]) hp1
   have e1 : (upd H2 p1 (.lst [.int 1, .int (-1)])) p1 = some (.lst [.int 1, .int (-1)]) := upd_same
   generalize upd H2 p1 (.lst [.int 1, .int (-1)]) = H3 at z1 e1
   obtain ⟨dl, rfl, hdl⟩ : ∃ dl, u = V.int dl ∧ dl.natAbs ≤ 1 := by
    simp only [List.mem_cons, List.not_mem_nil, or_false] at hu
    rcases hu with rfl | rfl
    ·exact ⟨1, rfl, by decide⟩
    ·exact ⟨-1, rfl, by decide⟩
   refine ⟨_, rfl, _, _, rfl, rfl, ⟨by decide, by decide⟩, _, _, rfl, rfl, (by show (0 : Int) < 2; decide), p1, _, _, .int dl, rfl, rfl, SqL.of e1, eu, _, _, rfl, rfl, _, rfl, rw_, _, _, 1, rfl, rfl, z1 _ _ erw, rfl, i + dl, rfl, fun b ob z => ?_, upd_same, ?_⟩
   ·rw [upd_ne (ne_of_none z hrw)]
    exact (z0.trans z1) _ _ z
   ·have : (10 : Nat) ^ 99 + 1 ≤ 10 ^ 100 := by decide
    omega
  rintro σ2 H3 ⟨i', rfl, s3, erw3, hi'⟩
  have s03 := s1.trans s3
  have hx3 := hx.same s03
  refine ⟨fun σ' H' => ∃ u, σ' = [some (.ref rl), some (.int c), some (.int wy), some (.int at_), some u] ∧ Same H1 H' ∧ RowB H' u ∧ (wy ≠ 3 → u = .ref rw_ ∧ H' rw_ = some (.lst [x, .int i'])), ?_, ?_⟩
  ·refine ⟨_, rfl, rfl, _, rfl, ?_⟩
   show if decide (V.int wy = V.int 3) = true then _ else _
   by_cases h3 : wy = 3
   ·refine iteTb (decide_eq_true (by rw [h3])) ?_
    refine ⟨_, rfl, rw_, _, _, x, rfl, rfl, SqL.of erw3, rfl, (by show 1 ≤ sizeLine; decide), fun p1 hp1 => ?_⟩
    have z1 := Same.new (o := .lst [x]) hp1
    have e1 : (upd H3 p1 (.lst [x])) p1 = some (.lst [x]) := upd_same
    generalize upd H3 p1 (.lst [x]) = H4 at z1 e1
    refine ⟨_, rfl, rw_, _, _, x, rfl, rfl, SqL.of (z1 _ _ erw3), rfl, (by show 2 ≤ sizeLine; decide), fun p2 hp2 => ?_⟩
    have z2 := Same.new (o := .lst [x, .bl true]) hp2
    have e2 : (upd H4 p2 (.lst [x, .bl true])) p2 = some (.lst [x, .bl true]) := upd_same
    generalize upd H4 p2 (.lst [x, .bl true]) = H5 at z2 e2
    refine ⟨(by show 2 ≤ sizeLine; decide), fun p3 hp3 => ?_⟩
    have z3 := Same.new (o := .lst [.str "nothing", .int 1]) hp3
    have e3 : (upd H5 p3 (.lst [.str "nothing", .int 1])) p3 = some (.lst [.str "nothing", .int 1]) := upd_same
    generalize upd H5 p3 (.lst [.str "nothing", .int 1]) = H6 at z3 e3
    have z16 := z1.trans (z2.trans z3)
    refine ⟨_, rfl, rw_, _, _, x, rfl, rfl, SqL.of (z16 _ _ erw3), rfl, _, rfl, rw_, _, _, .int i', rfl, rfl, SqL.of (z16 _ _ erw3), rfl, (by show 3 ≤ sizeLine; decide), fun p4 hp4 => ?_⟩
    have z4 := Same.new (o := .lst [x, .int i', .int 0]) hp4
    have e4 : (upd H6 p4 (.lst [x, .int i', .int 0])) p4 = some (.lst [x, .int i', .int 0]) := upd_same
    generalize upd H6 p4 (.lst [x, .int i', .int 0]) = H7 at z4 e4
    refine ⟨(by show 5 ≤ sizeLine; decide), fun p5 hp5 => ?_⟩
    obtain ⟨u, hu, eu⟩ := pickV (xs := [.ref p1, .ref p2, .ref p3, .str "odd", .ref p4]) (by show 1 ≤ 5; decide) (c / 90)
    have z5 := Same.new (o := .lst [.ref p1, .ref p2, .ref p3, .str "odd", .ref p4]) hp5
    have e5 : (upd H7 p5 (.lst [.ref p1, .ref p2, .ref p3, .str "odd", .ref p4])) p5 = some (.lst [.ref p1, .ref p2, .ref p3, .str "odd", .ref p4]) := upd_same
    generalize upd H7 p5 (.lst [.ref p1, .ref p2, .ref p3, .str "odd", .ref p4]) = H8 at z5 e5
    have z18 := z16.trans (z4.trans z5)
    have hx8 := hx3.same z18
    refine ⟨_, rfl, _, _, rfl, rfl, ⟨by decide, by decide⟩, _, _, rfl, rfl, (by show (0 : Int) < 5; decide), p5, _, _, u, rfl, rfl, SqL.of e5, eu, u, rfl, s3.trans z18, ?_, fun z => absurd h3 z⟩
    simp only [List.mem_cons, List.not_mem_nil, or_false] at hu
    rcases hu with rfl | rfl | rfl | rfl | rfl
    ·refine .inl ⟨p1, _, rfl, (z2.trans (z3.trans (z4.trans z5))) _ _ e1, by show 1 ≤ 3; decide, fun y hy => ?_⟩
     rw [List.mem_singleton.mp hy]
     exact hx8
    ·refine .inl ⟨p2, _, rfl, (z3.trans (z4.trans z5)) _ _ e2, by show 2 ≤ 3; decide, fun y hy => ?_⟩
     simp only [List.mem_cons, List.not_mem_nil, or_false] at hy
     rcases hy with rfl | rfl
     ·exact hx8
     ·exact .bl
    ·refine .inl ⟨p3, _, rfl, (z4.trans z5) _ _ e3, by show 2 ≤ 3; decide, fun y hy => ?_⟩
     simp only [List.mem_cons, List.not_mem_nil, or_false] at hy
     rcases hy with rfl | rfl
     ·exact .str nothing_ok
     ·exact .int (by decide)
    ·exact .inr rfl
    ·refine .inl ⟨p4, _, rfl, z5 _ _ e4, by show 3 ≤ 3; decide, fun y hy => ?_⟩
     simp only [List.mem_cons, List.not_mem_nil, or_false] at hy
     rcases hy with rfl | rfl | rfl
     ·exact hx8
     ·exact .int hi'
     ·exact .int (by decide)
   ·refine iteFb (decide_eq_false fun z => h3 (V.int.inj z)) ⟨.ref rw_, rfl, s3, .inl ⟨rw_, _, rfl, erw3, by show 2 ≤ 3; decide, fun y hy => ?_⟩, fun _ => ⟨rfl, erw3⟩⟩
    simp only [List.mem_cons, List.not_mem_nil, or_false] at hy
    rcases hy with rfl | rfl
    ·exact hx3
    ·exact .int hi'
  rintro σ3 H4 ⟨u3, rfl, s4, rb4, h34⟩
  refine ⟨fun σ' H' => ∃ u, σ' = [some (.ref rl), some (.int c), some (.int wy), some (.int at_), some u] ∧ Same H1 H' ∧ RowB H' u, ?_, ?_⟩
  ·refine ⟨_, rfl, rfl, _, rfl, ?_⟩
   show if decide (V.int wy = V.int 4) = true then _ else _
   by_cases h4 : wy = 4
   ·obtain ⟨rfl, erw4⟩ := h34 (by omega)
    refine iteTb (decide_eq_true (by rw [h4])) ?_
    refine ⟨(by show 1 ≤ sizeLine; decide), fun p1 hp1 => ?_⟩
    have z1 := Same.new (o := .lst [.str "nothing"]) hp1
    have e1 : (upd H4 p1 (.lst [.str "nothing"])) p1 = some (.lst [.str "nothing"]) := upd_same
    generalize upd H4 p1 (.lst [.str "nothing"]) = H5 at z1 e1
    refine ⟨(by show 0 ≤ sizeLine; decide), fun p2 hp2 => ?_⟩
    have z2 := Same.new (o := .lst []) hp2
    have e2 : (upd H5 p2 (.lst [])) p2 = some (.lst []) := upd_same
    generalize upd H5 p2 (.lst []) = H6 at z2 e2
    refine ⟨(by show 4 ≤ sizeLine; decide), fun p3 hp3 => ?_⟩
    obtain ⟨u, hu, eu⟩ := pickV (xs := [.ref p1, .int 5, .ref p2, .str "ties"]) (by show 1 ≤ 4; decide) (c / 90)
    have z3 := Same.new (o := .lst [.ref p1, .int 5, .ref p2, .str "ties"]) hp3
    have e3 : (upd H6 p3 (.lst [.ref p1, .int 5, .ref p2, .str "ties"])) p3 = some (.lst [.ref p1, .int 5, .ref p2, .str "ties"]) := upd_same
    generalize upd H6 p3 (.lst [.ref p1, .int 5, .ref p2, .str "ties"]) = H7 at z3 e3
    have z13 := z1.trans (z2.trans z3)
    have erw7 := z13 _ _ erw4
    refine ⟨_, rfl, _, _, rfl, rfl, ⟨by decide, by decide⟩, _, _, rfl, rfl, (by show (0 : Int) < 4; decide), p3, _, _, u, rfl, rfl, SqL.of e3, eu, _, rfl, rw_, _, _, 0, rfl, rfl, erw7, rfl, .ref rw_, rfl, fun b ob z => ?_, .inl ⟨rw_, [u, .int i'], rfl, upd_same, by show 2 ≤ 3; decide, fun y hy => ?_⟩⟩
    ·rw [upd_ne (ne_of_none z hrw)]
     exact (s4.trans z13) _ _ z
    ·have kp : ∀ {a : Addr} {ys : List V}, H7 a = some (.lst ys) → a ≠ rw_ → (upd H7 rw_ (.lst ([x, .int i'].set 0 u))) a = some (.lst ys) := fun e hn => by rw [upd_ne hn]; exact e
     simp only [List.mem_cons, List.not_mem_nil, or_false] at hy
     rcases hy with rfl | rfl
     ·simp only [List.mem_cons, List.not_mem_nil, or_false] at hu
      rcases hu with rfl | rfl | rfl | rfl
      ·exact .lst (kp ((z2.trans z3) _ _ e1) (fun z => by rw [z, erw4] at hp1; cases hp1)) (fun v hv => by rw [List.mem_singleton.mp hv]; exact .str nothing_ok) (by show 1 ≤ 1000; decide)
      ·exact .int (by decide)
      ·exact .lst (kp (z3 _ _ e2) (fun z => by rw [z, z1 _ _ erw4] at hp2; cases hp2)) (fun _ h => nomatch h) (by show 0 ≤ 1000; decide)
      ·exact .str ties_ok
     ·exact .int hi'
   ·exact iteFb (decide_eq_false fun z => h4 (V.int.inj z)) ⟨u3, rfl, s4, rb4⟩
  rintro σ4 H5 ⟨u5, rfl, s5, rb5⟩
  have hrl5 := s5 _ _ hrl1
  refine ⟨_, rfl, _, rfl, _, rfl, rl, _, rfl, SqL.of hrl5, fun p1 hp1 => ?_⟩
  have c1 := cut_sub (xs := xs) (lo := none) (hi := some at_)
  generalize cutV xs none (some at_) = u1 at c1
  have z1 := Same.new (o := .lst u1) hp1
  have e1 : (upd H5 p1 (.lst u1)) p1 = some (.lst u1) := upd_same
  generalize upd H5 p1 (.lst u1) = H6 at z1 e1
  have l1 := c1.2
  refine ⟨_, rfl, (by show 1 ≤ sizeLine; decide), fun p2 hp2 => ?_⟩
  refine ⟨p1, p2, _, _, rfl, rfl, (Same.new hp2) _ _ e1, upd_same, line _ (by show u1.length + 1 ≤ 1000; omega), fun p3 hp3 => ?_⟩
  have z3 := (z1.upd (o := .lst [u5]) hp2).upd (o := .lst (u1 ++ [u5])) hp3
  have e3 : (upd (upd H6 p2 (.lst [u5])) p3 (.lst (u1 ++ [u5]))) p3 = some (.lst (u1 ++ [u5])) := upd_same
  generalize upd (upd H6 p2 (.lst [u5])) p3 (.lst (u1 ++ [u5])) = H7 at z3 e3
  refine ⟨_, rfl, _, rfl, _, _, rfl, rfl, _, rfl, rl, _, rfl, SqL.of (z3 _ _ hrl5), fun p4 hp4 => ?_⟩
  have c3 := cut_sub (xs := xs) (lo := some (at_ + 1)) (hi := none)
  generalize cutV xs (some (at_ + 1)) none = u3 at c3
  have l3 := c3.2
  refine ⟨p3, p4, _, _, rfl, rfl, (Same.new hp4) _ _ e3, upd_same, line _ (by rw [List.length_append]; show u1.length + 1 + u3.length ≤ 1000; omega), fun p5 hp5 => outL (s5.trans ((z3.upd hp4).upd hp5)) upd_same (by rw [List.length_append, List.length_append]; show u1.length + 1 + u3.length ≤ 60; omega) fun u hu => ?_⟩
  rcases List.mem_append.mp hu with h | h
  ·rcases List.mem_append.mp h with h | h
   ·exact .inl (c1.1 u h)
   ·rw [List.mem_singleton.mp h]
    exact .inr (rb5.same ((z3.upd hp4).upd hp5))
  ·exact .inl (c3.1 u h)
end
end Net
namespace Net
open PySem L2
def Wo (H : Hp) (f : Addr) : Hp := fun b => if b = f then none else H b
theorem Wo.eq {H : Hp} {f b : Addr} (h : b ≠ f) : Wo H f b = H b := by unfold Wo; rw [if_neg h]
theorem Wo.mono {H H' : Hp} (s : Same H H') (f : Addr) : Same (Wo H f) (Wo H' f) := fun b o e => by
 by_cases h : b = f
 ·rw [h] at e
  unfold Wo at e
  rw [if_pos rfl] at e
  cases e
 ·rw [Wo.eq h] at e ⊢
  exact s _ _ e
theorem Wo.upd_ {H : Hp} {f : Addr} {o : HO} : Same (Wo H f) (Wo (upd H f o) f) := fun b ob e => by
 by_cases h : b = f
 ·rw [h] at e
  unfold Wo at e
  rw [if_pos rfl] at e
  cases e
 ·rw [Wo.eq h] at e ⊢
  rw [upd_ne h]
  exact e
theorem Wo.in_ {H : Hp} {f : Addr} : Same (Wo H f) H := fun b ob e => by
 by_cases h : b = f
 ·rw [h] at e
  unfold Wo at e
  rw [if_pos rfl] at e
  cases e
 ·rw [Wo.eq h] at e
  exact e
theorem RowP.same {H H' : Hp} {u : V} (s : Same H H') (h : RowP H u) : RowP H' u := let ⟨la, x, i, e, h1, h2, h3⟩ := h; ⟨la, x, i, e, s _ _ h1, h2.same s, h3⟩
def spStretch : Sp := fun vs H Q _ => ∃ (c : Int) (pa ta : Addr) (a : Str) (S : NS), vs = [.int c, .ref ta, .str a] ∧ PartsAt H pa ta S ∧ GoodS S ∧
 ∀ (l : Addr) (us : List V) (H' : Hp), Same H H' → H' l = some (.lst us) → us.length ≤ 60 → (∀ u ∈ us, RowB H' u) → Q (.ref l) H'
def SO32 (H : Hp) (c : Int) (ta : Addr) (a : Str) (fl : Addr) (n : Nat) (σ : St) (H' : Hp) : Prop := ∃ (xs : List V) (here : Str) (o5 o6 o7 o8 o9 o10 o11 : Option V), σ = [some (.int c), some (.ref ta), some (.str a), some (.ref fl), some (.str here), o5, o6, o7, o8, o9, o10, o11] ∧ Same H H' ∧ H' fl = some (.lst xs) ∧ xs.length ≤ n ∧ ∀ u ∈ xs, RowP (Wo H' fl) u
def SJ32 (S : NS) (H0 : Hp) (c : Int) (ta : Addr) (a : Str) (fl wl : Addr) (k : Int) (bg : Str) (n : Nat) (σ : St) (H' : Hp) : Prop := ∃ (fs : List Str) (here : Str) (o8 o9 o10 o11 : Option V), σ = [some (.int c), some (.ref ta), some (.str a), some (.ref fl), some (.str here), some (.int k), some (.str bg), some (.ref wl), o8, o9, o10, o11] ∧ FndAt (· ∈ S.nms) H0 H' wl n fs
section
variable {P : Program} {w : World} {K : PySem.W.Frag} {mg : Str → Option Value} {base : Heap} {C : Addr}
abbrev Nstretch : List Str := ["_law_cell", "_law_ties", "_law_a", "_law_found", "_law_here", "_law_k", "_law_begin", "_law_walk", "_law_j", "_law_ways", "_law_tie", "_law_times"]
theorem sc_stretch : FnScope Nstretch ["_law_cell", "_law_ties", "_law_a"] (defScope s_l_stretches) := ⟨rfl, rfl, rfl, by decide +kernel, rfl, by decide +kernel, by decide +kernel⟩
theorem ok_stretch {f : Addr} {fd : FuncData} (F : Fun K "_law_stretches" "_law_stretches" s_l_stretches f fd) (T : Txt K mg C) (cb : Can P w K mg base 1 "_law_bent" ["_law_rows", "_law_cell"] spBent32) : FnOk P w K mg base CX0 2 f fd ["_law_cell", "_law_ties", "_law_a"] spStretch := by
 refine F.ok sc_stretch (fun vs H Q E h => ?_) (fun cdv A outer s H vs Q E hr h => ?_)
 ·obtain ⟨c, pa, ta, a, S, rfl, _⟩ := h
  rfl
 ·obtain ⟨c, pa, ta, a, S, rfl, PA, g, q⟩ := h
  have hu := hr.units
  have nd2 : List.Nodup (["_law_tie", "_law_here"] : List Str) := by decide +kernel
  refine ⟨_, (pss_cons (ps_set (i := 3) sc_stretch.nd rfl (Or.inl rfl) (pe_lst pa_nil))
   (pss_cons (ps_set (i := 4) sc_stretch.nd rfl (Or.inr rfl) (pv 2))
   (pss_cutE (ps_for PassesOwn.never rfl (pi_range1 rfl T.range (pa_cons (pe_op op_add pe_int (pe_op op_mod (pv 0) pe_int)) pa_nil)) (pg_name (i := 5) sc_stretch.nd rfl (Or.inl rfl))
     (pss_cons (ps_set (i := 6) sc_stretch.nd rfl (Or.inl rfl) (pv 4))
   (pss_cons (ps_set (i := 7) sc_stretch.nd rfl (Or.inl rfl) (pe_lst pa_nil))
   (pss_cutE (ps_for PassesOwn.never rfl (pi_range1 rfl T.range (pa_cons (pe_op op_mod (pe_op op_fdiv (pv 0) pe_int) pe_int) pa_nil)) (pg_name (i := 8) sc_stretch.nd rfl (Or.inl rfl))
       (pss_cons (ps_comp (j := 9) (N := ["_law_tie", "_law_here"]) (xs := 1) (js := [4]) rfl sc_stretch.nd rfl rfl (compScope_of rfl) (pi_list (pv 1)) (fun _ _ _ _ => pg_name (i := 0) nd2 rfl (Or.inl rfl))
        (fun _ _ _ _ => pts_one (pt_cmpR op_eq (pe_ix (ix_tupK K (by rfl)) (pv 0) pe_int (fun _ _ => by rfl)) (pv 1) (nomark _))) (fun _ _ _ _ => pv 0) rfl)
   (pss_one (ps_if (pt_cmpR (op_neD hu) (pv 9) (pe_lst pa_nil) (nomark _))
        (pss_cons (ps_set (i := 10) sc_stretch.nd rfl (Or.inl rfl) (pe_ix ix_list (pv 9) (pe_op op_mod (pe_op op_fdiv (pv 0) (pe_op op_add (pe_op op_add pe_int (pe_op op_mulG pe_int (pv 5))) (pv 8))) (pe_callB call_len_seq (by rfl) T.len b_len (pa_cons (pv 9) pa_nil))) (fun _ _ => by rfl)))
   (pss_cons (ps_expr (pe_bm PySem.F.plainAttrs_list PySem.F.slot_list_append PySem.F.type_list_append mt_append (pv 7) (pa_cons (pe_ix ix_tup (pv 10) pe_int (fun _ _ => by rfl)) pa_nil)))
   (pss_one (ps_set (i := 4) sc_stretch.nd rfl (Or.inr rfl) (pe_ix ix_tup (pv 10) pe_int (fun _ _ => by rfl)))))) pss_nil))))
   (pss_cons (ps_set (i := 11) sc_stretch.nd rfl (Or.inl rfl) pe_int)
   (pss_cutE (ps_if (PW.pt (pw_or (pt_cmpR op_eq (pv 4) (pv 6) (nomark _)) (pw_or1 (pt_cmpR op_eq (pe_op op_mod (pe_op op_fdiv (pv 0) pe_int) pe_int) pe_int (nomark _)))))
       (pss_one (ps_set (i := 11) sc_stretch.nd rfl (Or.inl rfl) (pe_op op_add pe_int (pe_op op_mod (pe_op op_fdiv (pv 0) pe_int) (pe_ix ix_list (pe_lst (pa_cons pe_int (pa_cons (pe_op op_pow pe_int pe_int) pa_nil))) (pe_op op_mod (pe_op op_fdiv (pv 0) pe_int) pe_int) (fun _ _ => by rfl)))))) pss_nil)
   (pss_one (ps_expr (pe_bm PySem.F.plainAttrs_list PySem.F.slot_list_append PySem.F.type_list_append mt_append (pv 3) (pa_cons (pe_lst (pa_cons (pv 7) (pa_cons (pv 11) pa_nil))) pa_nil))))))))))
   (pss_one (ps_ret (pe_callC cb hr (by rfl) (pa_cons (pv 3) (pa_cons (pe_op op_fdiv (pv 0) pe_int) pa_nil)))))))), ?_⟩
  obtain ⟨L, RL, eta⟩ := PA.ti
  have hL : L.length = S.ti.length := by rw [← RL.1, List.length_map]
  have h10 := g.lenT
  have hin : ∀ qq ∈ L, qq.1 ∈ S.ti := fun qq hq => by rw [← RL.1]; exact List.mem_map.mpr ⟨qq, hq, rfl⟩
  have rok : ∀ r ∈ S.ti, nameB r.nm = true ∧ nameB r.a = true ∧ nameB r.b = true := fun r hr => ⟨(g.okT r hr).1, g.okP _ (g.okT r hr).2.1, g.okP _ (g.okT r hr).2.2⟩
  have nok : ∀ x ∈ S.nms, nameB x = true := fun x hx => by
   obtain ⟨r, hr, rfl⟩ := List.mem_map.mp hx
   exact (g.okT r hr).1
  have hbig : (10 : Nat) < 2 ^ 3000 := by decide +kernel
  refine ⟨by decide, fun fl hfl => ?_⟩
  have s1 := Same.new (o := .lst []) hfl
  have e1 : (upd H fl (.lst [])) fl = some (.lst []) := upd_same
  generalize upd H fl (.lst []) = H1 at s1 e1
  obtain ⟨n3, hn3, en3⟩ := emod_nat c (n := 3) (by decide)
  have en3' : 1 + c % 3 = ((1 + n3 : Nat) : Int) := by
   have : c % 3 = (n3 : Int) := en3
   omega
  obtain ⟨n4, hn4, en4⟩ := emod_nat (c / 3) (n := 4) (by decide)
  have en4' : c / 3 % 4 = (n4 : Int) := en4
  refine ⟨_, rfl, SO32 H c ta a fl 4, ?_, ?_⟩
  ·refine ⟨_, rfl, _, _, rfl, rfl, (by show (0 : Int) < 3; decide), _, _, rfl, rfl, _, rfl, by omega, by omega, ?_⟩
   rw [en3', Int.toNat_natCast]
   refine for_range (n := 1 + n3) (fun i σ' H' => SO32 H c ta a fl i σ' H') ⟨[], a, _, _, _, _, _, _, _, rfl, s1, e1, Nat.le_refl _, fun _ h => (nomatch h)⟩ (fun i σ' H' hi h => ?_) (fun σ' H' h => ?_)
   ·obtain ⟨xs, here, o5, o6, o7, o8, o9, o10, o11, rfl, s2, efl, hxl, hxs⟩ := h
    refine ⟨_, rfl, by decide, fun wl hwl => ?_⟩
    have f0 : FndAt (· ∈ S.nms) H' (upd H' wl (.lst [])) wl 0 [] := ⟨Same.new hwl, hwl, upd_same, Nat.le_refl _, fun _ h => (nomatch h)⟩
    generalize upd H' wl (.lst []) = H2 at f0
    refine ⟨SJ32 S H' c ta a fl wl (0 + i) here 3, ?_, ?_⟩
    ·refine ⟨_, rfl, _, _, rfl, rfl, ⟨by decide, by decide⟩, _, _, rfl, rfl, (by show (0 : Int) < 4; decide), _, rfl, by omega, by omega, ?_⟩
     rw [en4', Int.toNat_natCast]
     refine for_range (n := n4) (fun j σ' H3 => SJ32 S H' c ta a fl wl (0 + i) here j σ' H3) ⟨[], here, _, _, _, _, rfl, f0⟩ (fun j σ' H3 hj h => ?_) (fun σ' H3 h => ?_)
     ·obtain ⟨fs, here2, p8, p9, p10, p11, rfl, f⟩ := h
      have s03 := s2.trans f.same
      refine ⟨_, rfl, ta, rfl, ⟨_, SqL.of (s03 _ _ eta)⟩, comp_list (K := K) (ys := L.map fun q => V.ref q.2) (fun j acc σ' H4 => H4 = H3 ∧ ∃ LF : List (Row × Addr), acc = LF.map (fun q => V.ref q.2) ∧ LF.length ≤ j ∧ (∀ q ∈ LF, q ∈ L) ∧ ∃ o, σ' = [o, some (.str here2)])
       ⟨rfl, [], rfl, Nat.le_refl _, fun _ h => (nomatch h), none, rfl⟩ (fun j acc σ' H4 h => ?_) ?_ (fun j acc σ' H4 _ h => by rw [h.1]; exact SqL.of (s03 _ _ eta)) (fun j x acc σ' H4 hx h => ?_) (fun acc σ' H4 h pp hpp => ?_)⟩
      ·obtain ⟨_, LF, rfl, hl, _⟩ := h
       rw [List.length_map]
       exact hl
      ·rw [List.length_map, hL]
       exact Nat.le_trans h10 (by decide)
      ·obtain ⟨rfl, LF, rfl, hl, hw, o, rfl⟩ := h
       rw [List.getElem?_map] at hx
       cases eq : L[j]? with
       | none => rw [eq] at hx; cases hx
       | some qq =>
        rw [eq] at hx
        cases hx
        have hq := List.mem_of_getElem? eq
        have ht := s03 _ _ (RL.2 qq hq)
        refine ⟨_, rfl, qq.2, _, _, .str qq.1.a, rfl, rfl, SqT.of ht, rfl, _, rfl, rfl, _, rfl, ite2 (fun _ => ?_) (fun _ => ⟨rfl, LF, rfl, Nat.le_succ_of_le hl, hw, _, rfl⟩)⟩
        refine ⟨_, rfl, rfl, LF ++ [qq], by rw [List.map_append]; rfl, by rw [List.length_append]; exact Nat.succ_le_succ hl, fun z hz => ?_, _, rfl⟩
        rcases List.mem_append.mp hz with hz | hz
        ·exact hw z hz
        ·rw [List.mem_singleton.mp hz]; exact hq
      ·obtain ⟨rfl, LF, rfl, hl, hw, o, rfl⟩ := h
       have f1 := f.up (Same.new (o := .lst (LF.map fun q => V.ref q.2)) hpp)
       have ep : (upd H4 pp (.lst (LF.map fun q => V.ref q.2))) pp = some (.lst (LF.map fun q => V.ref q.2)) := upd_same
       generalize upd H4 pp (.lst (LF.map fun q => V.ref q.2)) = H5 at f1 ep
       have RF : ∀ {H'' : Hp}, Same H H'' → Rows H'' LF (LF.map (·.1)) := fun s => ⟨rfl, fun q hq => s _ _ (RL.2 q (hw q hq))⟩
       have okF : ∀ r ∈ LF.map (·.1), nameB r.nm = true ∧ nameB r.a = true ∧ nameB r.b = true := fun r hr => by
        obtain ⟨qq, hq, rfl⟩ := List.mem_map.mp hr
        exact rok _ (hin qq (hw qq hq))
       refine ⟨_, rfl, by decide, fun ee hee => ⟨2, _, _, by decide, rd_rows (RF (s2.trans (f1.same.upd hee))) ((Same.new hee) _ _ ep) okF, rd_nil upd_same, _, rfl, ?_⟩⟩
       have f2 := f1.up (Same.new (o := .lst []) hee)
       have ep2 := (Same.new (o := .lst []) hee) _ _ ep
       generalize upd H5 ee (.lst []) = H6 at f2 ep2
       show if (if true = true then !PyData.eqv (.list (List.map rowD _)) (.list []) else PyData.eqv (.list (List.map rowD _)) (.list [])) = true then _ else _
       rw [if_pos rfl, eqv_nil]
       cases LF with
       | nil => exact iteF ⟨fs, here2, _, _, _, _, rfl, f2.mono (Nat.le_succ _)⟩
       | cons q0 rest =>
        refine iteT ?_
        obtain ⟨v, hv, ev⟩ := pickV (xs := (q0 :: rest).map fun q => V.ref q.2) (by rw [List.length_map, List.length_cons]; omega) (c / (5 + 2 * ((0 : Int) + i) + ((0 : Int) + j)))
        obtain ⟨qq, hqq, rfl⟩ := List.mem_map.mp hv
        have hnm : qq.1.nm ∈ S.nms := List.mem_map.mpr ⟨_, hin qq (hw qq hqq), rfl⟩
        have fl' := f2.len
        have ht := (s2.trans f2.same) _ _ (RL.2 qq (hw qq hqq))
        refine ⟨_, rfl, _, rfl, _, rfl, _, _, rfl, rfl, ⟨by omega, by omega⟩, _, _, rfl, rfl, _, rfl, _, _, rfl, rfl, _, _, rfl, rfl, ⟨by omega, by omega⟩, _, rfl, pp, _, rfl, .inl (SqL.of ep2), _, _, rfl, rfl, (by rw [List.length_map, List.length_cons]; omega), pp, _, _, .ref qq.2, rfl, rfl, SqL.of ep2, ev, ?_⟩
        refine ⟨_, rfl, .inl ⟨rfl, _, SqL.of f2.ob⟩, _, rfl, qq.2, _, _, .str qq.1.nm, rfl, rfl, SqT.of ht, rfl, wl, _, _, rfl, rfl, f2.ob, small1000 (by rw [List.length_map]; omega), ?_⟩
        have f4 := f2.put hnm
        have ht4 := (s2.trans f4.same) _ _ (RL.2 qq (hw qq hqq))
        exact ⟨_, rfl, qq.2, _, _, .str qq.1.b, rfl, rfl, SqT.of ht4, rfl, fs ++ [qq.1.nm], qq.1.b, _, _, _, _, rfl, f4⟩
     ·obtain ⟨fs, here2, p8, p9, p10, p11, rfl, f⟩ := h
      exact ⟨fs, here2, _, _, _, _, rfl, f.mono (by omega)⟩
    rintro σ3 H3 ⟨fs, here2, p8, p9, p10, p11, rfl, f⟩
    refine ⟨fun σ' H4 => ∃ t : Int, t.natAbs ≤ 10 ^ 99 ∧ σ' = [some (.int c), some (.ref ta), some (.str a), some (.ref fl), some (.str here2), some (.int (0 + i)), some (.str here), some (.ref wl), p8, p9, p10, some (.int t)] ∧ FndAt (· ∈ S.nms) H' H4 wl 3 fs, ?_, ?_⟩
    ·refine ⟨_, rfl, _, rfl, rfl, _, rfl, ite2 (fun _ => iteT ?_) (fun _ => ⟨_, rfl, _, _, rfl, rfl, ⟨by decide, by decide⟩, _, _, rfl, rfl, (by show (0 : Int) < 9; decide), rfl, _, rfl, ite2 (fun _ => ?_) (fun _ => ⟨1, by decide, rfl, f⟩)⟩)⟩
     all_goals
      refine ⟨_, rfl, _, _, rfl, rfl, ⟨by decide, by decide⟩, _, _, rfl, rfl, ⟨by decide, by decide, by decide⟩, (by show 2 ≤ sizeLine; decide), fun p1 hp1 => ?_⟩
      obtain ⟨u, hu, eu⟩ := pickV (xs := [.int 3, .int ((10 : Int) ^ (40 : Int).toNat)]) (by show 1 ≤ 2; decide) (c / 12)
      have f1 := f.up (Same.new (o := .lst [.int 3, .int ((10 : Int) ^ (40 : Int).toNat)]) hp1)
      have e1 : (upd H3 p1 (.lst [.int 3, .int ((10 : Int) ^ (40 : Int).toNat)])) p1 = some (.lst [.int 3, .int ((10 : Int) ^ (40 : Int).toNat)]) := upd_same
      obtain ⟨m, rfl, hm0, hm⟩ : ∃ m : Int, u = V.int m ∧ 0 < m ∧ m ≤ 10 ^ 40 := by
       simp only [List.mem_cons, List.not_mem_nil, or_false] at hu
       rcases hu with rfl | rfl
       ·exact ⟨3, rfl, by decide, by decide⟩
       ·exact ⟨_, rfl, by decide, by decide⟩
      refine ⟨_, rfl, _, _, rfl, rfl, ⟨by decide, by decide⟩, _, _, rfl, rfl, (by show (0 : Int) < 2; decide), p1, _, _, .int m, rfl, rfl, SqL.of e1, eu, _, _, rfl, rfl, hm0, _, _, rfl, rfl, 1 + c / 13 % m, ?_, rfl, f1⟩
      have h1 := Int.emod_nonneg (c / 13) (by omega : m ≠ 0)
      have h2 := Int.emod_lt_of_pos (c / 13) hm0
      have h3 : (10 : Int) ^ 40 + 1 ≤ 10 ^ 99 := by decide
      have h4 : (((10 : Nat) ^ 99 : Nat) : Int) = (10 : Int) ^ 99 := by decide
      omega
    rintro σ4 H4 ⟨t, ht, rfl, f4⟩
    have l3 := f4.len
    refine ⟨_, rfl, .inl ⟨rfl, _, SqL.of (f4.same _ _ efl)⟩, _, rfl, _, rfl, (by show 2 ≤ sizeLine; decide), fun rw_ hrw => ?_⟩
    have f5 := f4.up (Same.new (o := .lst [.ref wl, .int t]) hrw)
    have erw : (upd H4 rw_ (.lst [.ref wl, .int t])) rw_ = some (.lst [.ref wl, .int t]) := upd_same
    generalize upd H4 rw_ (.lst [.ref wl, .int t]) = H5 at f5 erw
    have efl5 := f5.same _ _ efl
    have hwf : wl ≠ fl := (ne_of_none efl hwl).symm
    have hrf : rw_ ≠ fl := fun z => by rw [z, f4.same _ _ efl] at hrw; cases hrw
    refine ⟨fl, _, _, rfl, rfl, efl5, small1000 (by omega), xs ++ [.ref rw_], here2, _, _, _, _, _, _, _, rfl, fun b ob z => ?_, upd_same, by rw [List.length_append, List.length_singleton]; omega, fun u hu => ?_⟩
    ·rw [upd_ne (ne_of_none z hfl)]
     exact (s2.trans f5.same) _ _ z
    ·rcases List.mem_append.mp hu with hu | hu
     ·exact (hxs u hu).same ((Wo.mono f5.same fl).trans Wo.upd_)
     ·rw [List.mem_singleton.mp hu]
      refine ⟨rw_, .ref wl, t, rfl, by rw [Wo.eq hrf, upd_ne hrf]; exact erw, .lst (n := 0) (a := wl) (xs := fs.map V.str) (by rw [Wo.eq hwf, upd_ne hwf]; exact f5.ob) (strsB fun x hx => nok x (f5.sub x hx)) (by rw [List.length_map]; omega), ht⟩
   ·obtain ⟨xs, here, o5, o6, o7, o8, o9, o10, o11, rfl, s2, efl, hxl, hxs⟩ := h
    exact ⟨xs, here, _, _, _, _, _, _, _, rfl, s2, efl, by omega, hxs⟩
  rintro σ2 H2 ⟨xs, here, o5, o6, o7, o8, o9, o10, o11, rfl, s2, efl, hxl, hxs⟩
  exact ⟨_, rfl, _, rfl, _, _, rfl, rfl, ⟨by decide, by decide⟩, fl, xs, c / 7, rfl, efl, fun u hu => (hxs u hu).same Wo.in_, by omega, fun l us H3 s3 e3 hl hus => q l us H3 (s2.trans s3) e3 hl hus⟩
end
end Net
namespace Net
open PySem L2
def Bd (s : LS) (M : Int) : Prop := ∀ v i, s.p v = some i → -M ≤ i ∧ i ≤ M
theorem bd_go {q : LS × Option Str} {r : Row} {M : Int} (h : Bd q.1 M) (hr : -(10 ^ 52) ≤ r.c ∧ r.c ≤ 10 ^ 52) : Bd (goR q r).1 (M + 10 ^ 52) := fun v i e => by
 unfold goR at e
 split at e
 ·have e' : (if v = r.b then (q.1.p r.a).map (· + r.c) else q.1.p v) = some i := e
  split at e'
  ·cases ea : q.1.p r.a with
   | none => rw [ea] at e'; cases e'
   | some x =>
    rw [ea] at e'
    have := h _ _ ea
    have e2 : x + r.c = i := by injection e'
    omega
  ·have := h _ _ e'
   omega
 ·have := h _ _ e
  omega
theorem bd_fold : ∀ {rows : List Row} {q : LS × Option Str} {M : Int}, (∀ r ∈ rows, -(10 ^ 52) ≤ r.c ∧ r.c ≤ 10 ^ 52) → Bd q.1 M → Bd (rows.foldl goR q).1 (M + (rows.length : Int) * 10 ^ 52)
 | [], q, M, _, h => by
  have e : M + (([] : List Row).length : Int) * 10 ^ 52 = M := by simp
  rw [e]
  exact h
 | r :: rs, q, M, hc, h => by
  have := bd_fold (rows := rs) (fun x hx => hc x (List.mem_cons_of_mem _ hx)) (bd_go h (hc r List.mem_cons_self))
  have e : M + ((r :: rs).length : Int) * 10 ^ 52 = M + 10 ^ 52 + (rs.length : Int) * 10 ^ 52 := by
   have : ((r :: rs).length : Int) = (rs.length : Int) + 1 := by simp
   rw [this]
   omega
  rw [e]
  exact this
theorem bd_rounds {rows : List Row} {a : Str} (hc : ∀ r ∈ rows, -(10 ^ 52) ≤ r.c ∧ r.c ≤ 10 ^ 52) (hl : rows.length ≤ 10) : ∀ n : Nat, Bd (roundsR rows n (st0 a)).1 ((n : Int) * (10 * 10 ^ 52))
 | 0 => fun v i e => by
  have e' : (if v = a then some (0 : Int) else none) = some i := e
  split at e'
  ·cases e'
   omega
  ·cases e'
 | n + 1 => fun v i e => by
  have := bd_fold (q := ((roundsR rows n (st0 a)).1, none)) hc (bd_rounds hc hl n) v i e
  have e2 : ((n + 1 : Nat) : Int) = (n : Int) + 1 := by simp
  rw [e2]
  omega
theorem pR_small {rows : List Row} {a : Str} {n : Nat} (hc : ∀ r ∈ rows, -(10 ^ 52) ≤ r.c ∧ r.c ≤ 10 ^ 52) (hl : rows.length ≤ 10) (hn : n ≤ 7) {v : Str} {i : Int} (e : pR rows n a v = some i) : i.natAbs ≤ 10 ^ 60 := by
 have := bd_rounds (a := a) hc hl n v i e
 omega
def LstB (H : Hp) (u : V) : Prop := ∃ la ys, u = .ref la ∧ H la = some (.lst ys) ∧ ys.length ≤ 100 ∧ ∀ y ∈ ys, HasB H 2 y
def spPrices32 : Sp := fun vs H Q _ => ∃ (c : Int) (pa ta : Addr) (a b : Str) (S : NS), vs = [.int c, .ref pa, .ref ta, .str a, .str b] ∧ PartsAt H pa ta S ∧ GoodS S ∧ a ∈ S.pl ∧ b ∈ S.pl ∧
 ∀ (l : Addr) (us : List V) (H' : Hp), Same H H' → H' l = some (.lst us) → us.length ≤ 3 → (∀ u ∈ us, LstB H' u) → Q (.ref l) H'
def PM1 (S : NS) (H : Hp) (c : Int) (pa ta : Addr) (a b : Str) (bl : Addr) (σ : St) (H' : Hp) : Prop := ∃ (dl : Addr) (p : Str → Option Int) (o6 o8 o9 : Option V), σ = [some (.int c), some (.ref pa), some (.ref ta), some (.str a), some (.str b), some (.ref bl), o6, some (.ref dl), o8, o9, none, none, none] ∧ Same H H' ∧ PrAt H' dl S.pl p ∧ ∀ v i, p v = some i → i.natAbs ≤ 10 ^ 60
def PM2 (H : Hp) (c : Int) (pa ta : Addr) (a b : Str) (bl : Addr) (n : Nat) (pl : Addr) (σ : St) (H' : Hp) : Prop := ∃ (xs : List V) (o6 o7 o8 o9 : Option V), σ = [some (.int c), some (.ref pa), some (.ref ta), some (.str a), some (.str b), some (.ref bl), o6, o7, o8, o9, some (.ref pl), none, none] ∧ Same H H' ∧ H' pl = some (.lst xs) ∧ xs.length ≤ n ∧ ∀ u ∈ xs, RowP (Wo H' pl) u
def PM3 (S : NS) (H : Hp) (c : Int) (pa ta : Addr) (a b : Str) (pl : Addr) (xs : List V) (n : Nat) (o12 : Option V) (σ : St) (H' : Hp) : Prop := ∃ (dd : Addr) (ys : List V) (o5 o6 o7 o8 o9 : Option V), σ = [some (.int c), some (.ref pa), some (.ref ta), some (.str a), some (.str b), o5, o6, o7, o8, o9, some (.ref pl), some (.ref dd), o12] ∧ Same H H' ∧ H' pl = some (.lst xs) ∧ H' dd = some (.lst ys) ∧ ys.length ≤ n ∧ (∀ y ∈ ys, HasB H' 1 y) ∧ ∀ u ∈ xs, RowP H' u
section
variable {P : Program} {w : World} {K : PySem.W.Frag} {mg : Str → Option Value} {base : Heap} {C : Addr}
abbrev Nprices32 : List Str := ["_law_cell", "_law_places", "_law_ties", "_law_a", "_law_b", "_law_between_here", "_law_inner", "_law_least_here", "_law_k", "_law_place", "_law_prices_here", "_law_dead", "_law_way"]
theorem sc_prices32 : FnScope Nprices32 ["_law_cell", "_law_places", "_law_ties", "_law_a", "_law_b"] (defScope s_l_prices) := ⟨rfl, rfl, rfl, by decide +kernel, rfl, by decide +kernel, by decide +kernel⟩
theorem ok_prices32 {f : Addr} {fd : FuncData} (F : Fun K "_law_prices" "_law_prices" s_l_prices f fd) (T : Txt K mg C) (TM : TxtM mg) (cb : Can P w K mg base 2 "_law_between" ["_law_ties", "_law_a", "_law_b"] spBetween) (cl : Can P w K mg base 1 "_law_least" ["_law_places", "_law_ties", "_law_a", "_law_rounds"] spLeast)
  (cco : Can P w K mg base 1 "_law_come" ["_law_ties", "_law_a", "_law_forth"] spCome32) (cbe : Can P w K mg base 1 "_law_bent" ["_law_rows", "_law_cell"] spBent32) : FnOk P w K mg base CX0 3 f fd ["_law_cell", "_law_places", "_law_ties", "_law_a", "_law_b"] spPrices32 := by
 refine F.ok sc_prices32 (fun vs H Q E h => ?_) (fun cdv A outer s H vs Q E hr h => ?_)
 ·obtain ⟨c, pa, ta, a, b, S, rfl, _⟩ := h
  rfl
 ·obtain ⟨c, pa, ta, a, b, S, rfl, PA, g, ha, hb, q⟩ := h
  have hu := hu_of hr
  have hU := hr.units
  have r1 : Room 1 _ := hr.mono (by decide)
  have nd2 : List.Nodup (["_law_tie", "_law_between_here"] : List Str) := by decide +kernel
  have nd3 : List.Nodup (["_law_place", "_law_between_here"] : List Str) := by decide +kernel
  have nd4 : List.Nodup (["_law_k", "_law_place", "_law_cell"] : List Str) := by decide +kernel
  refine ⟨_, (pss_cons (ps_set (i := 5) sc_prices32.nd rfl (Or.inr rfl) (pe_callC cb hr (by rfl) (pa_cons (pv 2) (pa_cons (pv 3) (pa_cons (pv 4) pa_nil)))))
   (pss_cons (ps_comp (j := 6) (N := ["_law_tie", "_law_between_here"]) (xs := 1) (js := [5]) rfl sc_prices32.nd rfl rfl (compScope_of rfl) (pi_list (pv 2)) (fun _ _ _ _ => pg_name (i := 0) nd2 rfl (Or.inl rfl))
     (fun _ _ _ _ => pts_one (PW.pt (pw_and (pt_cmpR (op_inK K (by rfl)) (pe_ix (ix_tupK K (by rfl)) (pv 0) pe_int (fun _ _ => by rfl)) (pv 1) (by with_unfolding_all rfl)) (pw_and1 (pt_cmpR (op_inK K (by rfl)) (pe_ix (ix_tupK K (by rfl)) (pv 0) pe_int (fun _ _ => by rfl)) (pv 1) (by with_unfolding_all rfl)))))) (fun _ _ _ _ => pv 0) rfl)
   (pss_cons (ps_set (i := 7) sc_prices32.nd rfl (Or.inl rfl) (pe_callC cl r1 (by rfl) (pa_cons (pv 1) (pa_cons (pv 6) (pa_cons (pv 3) (pa_cons (pe_callB call_len_seq (by rfl) T.len b_len (pa_cons (pv 1) pa_nil)) pa_nil))))))
   (pss_cutE (ps_if (pt_cmpR op_eq (pe_op op_mod (pv 0) pe_int) pe_int (nomark _))
     (pss_cons (ps_set (i := 7) sc_prices32.nd rfl (Or.inl rfl) pe_dnewK)
   (pss_one (ps_for PassesOwn.never rfl (pi_enum rfl TM.enum (pa_cons (pv 1) pa_nil)) (pg_tup rfl (pgs_cons (pg_name (i := 8) sc_prices32.nd rfl (Or.inl rfl)) (pgs_cons (pg_name (i := 9) sc_prices32.nd rfl (Or.inl rfl)) pgs_nil)))
       (pss_one (ps_if (pt_cmpR op_gt (pe_op op_mod (pe_op op_fdiv (pv 0) (pe_op op_add pe_int (pv 8))) pe_int) pe_int (nomark _))
        (pss_one (ps_dput hu (pv 7) (pv 9) (pe_op op_mod (pe_op op_fdiv (pv 0) (pe_op op_add pe_int (pv 8))) pe_int) rfl)) pss_nil))))) pss_nil)
   (pss_cons (ps_set (i := 10) sc_prices32.nd rfl (Or.inl rfl) (pe_lst pa_nil))
   (pss_cutE (ps_for PassesOwn.never rfl (pi_list (pv 1)) (pg_name (i := 9) sc_prices32.nd rfl (Or.inl rfl))
     (pss_one (ps_if (PW.pt (pw_and (pt_cmp (pc_din hu (pv 9) (pv 7))) (pw_and1 (PW.pt (pw_or (pt_cmpR (op_neD hU) (pv 5) (pe_lst pa_nil) (nomark _)) (pw_or1 (pt_cmpR op_eq (pe_op op_mod (pv 0) pe_int) pe_int (nomark _))))))))
       (pss_one (ps_expr (pe_bm PySem.F.plainAttrs_list PySem.F.slot_list_append PySem.F.type_list_append mt_append (pv 10) (pa_cons (pe_lst (pa_cons (pv 9) (pa_cons (pe_op op_add (pe_dget hu (pv 7) (pv 9) (fun _ _ => rfl)) (pe_op op_mod (pe_op op_fdiv (pv 0) pe_int) pe_int)) pa_nil))) pa_nil)))) pss_nil)))
   (pss_cutE (ps_comp (j := 11) (N := ["_law_place", "_law_between_here"]) (xs := 1) (js := [5]) rfl sc_prices32.nd rfl rfl (compScope_of rfl) (pi_list (pe_callC cco r1 (by rfl) (pa_cons (pv 2) (pa_cons (pv 3) (pa_cons pe_bl pa_nil))))) (fun _ _ _ _ => pg_name (i := 0) nd3 rfl (Or.inl rfl))
     (fun _ _ _ _ => pts_one (pt_cmpR (op_notInK K (by rfl)) (pv 0) (pv 1) (by with_unfolding_all rfl))) (fun _ _ _ _ => pv 0) rfl)
   (pss_cutE (ps_if (pt_cmpR op_eq (pe_op op_mod (pv 0) pe_int) pe_int (nomark _))
     (pss_one (ps_comp (j := 11) (N := ["_law_k", "_law_place", "_law_cell"]) (xs := 2) (js := [0]) rfl sc_prices32.nd rfl rfl (compScope_of rfl) (pi_enum rfl TM.enum (pa_cons (pv 1) pa_nil))
      (fun _ _ _ _ => pg_tupC (n := 2) K (by rfl) (by rfl) (pgs_cons (pg_name (i := 0) nd4 rfl (Or.inl rfl)) (pgs_cons (pg_name (i := 1) nd4 rfl (Or.inl rfl)) pgs_nil)))
      (fun _ _ _ _ => pts_one (pt_cmpR op_eq (pe_op op_mod (pe_op op_fdiv (pv 2) (pe_op op_add pe_int (pv 0))) pe_int) pe_int (nomark _))) (fun _ _ _ _ => pv 1) rfl)) pss_nil)
   (pss_cons (ps_set (i := 12) sc_prices32.nd rfl (Or.inl rfl) (pe_op op_mod (pe_op op_fdiv (pv 0) pe_int) pe_int))
   (pss_cutE (ps_if (pt_cmpR op_eq (pv 12) pe_int (nomark _)) (pss_one (ps_set (i := 11) sc_prices32.nd rfl (Or.inl rfl) (pe_slice sl_list (pv 11) (po_some pe_int) po_none))) pss_nil)
   (pss_cutE (ps_if (pt_cmpR op_eq (pv 12) pe_int (nomark _)) (pss_one (ps_set (i := 11) sc_prices32.nd rfl (Or.inl rfl) (pe_op op_cat (pv 11) (pe_lst (pa_cons (pe_ix ix_list (pe_lst (pa_cons pe_str (pa_cons pe_int (pa_cons (pv 3) (pa_cons (pv 4) pa_nil))))) (pe_op op_mod (pe_op op_fdiv (pv 0) pe_int) pe_int) (fun _ _ => by rfl)) pa_nil))))) pss_nil)
   (pss_cons (ps_if (pt_cmpR op_eq (pv 12) pe_int (nomark _)) (pss_one (ps_ret (pe_slice sl_list (pe_lst (pa_cons (pv 10) (pa_cons (pv 11) (pa_cons (pe_lst pa_nil) pa_nil)))) po_none (po_some (pe_op op_add pe_int (pe_op op_mod (pe_op op_fdiv (pv 0) pe_int) pe_int)))))) pss_nil)
   (pss_one (ps_ret (pe_lst (pa_cons (pe_callC cbe r1 (by rfl) (pa_cons (pv 10) (pa_cons (pe_op op_fdiv (pv 0) pe_int) pa_nil))) (pa_cons (pv 11) pa_nil))))))))))))))))), ?_⟩
  obtain ⟨L, RL, eta⟩ := PA.ti
  have hL : L.length = S.ti.length := by rw [← RL.1, List.length_map]
  have h6 := g.lenP
  have hpl : (S.pl.map V.str).length = S.pl.length := List.length_map ..
  have line : ∀ k : Nat, k ≤ 1000 → k ≤ sizeLine := fun k h => Nat.le_trans h (by decide)
  refine ⟨_, rfl, _, rfl, _, rfl, pa, ta, a, b, S, rfl, PA, g, ha, hb, fun bl fa fb H1 fn nda Ra Rb => ?_⟩
  have s1 := fn.same
  have okb : ∀ x ∈ btw fa fb, nameB x = true := fun x hx => g.okP x (fn.sub x hx)
  have ebl := fn.ob
  have RL1 := RL.same s1
  have eta1 := s1 _ _ eta
  refine ⟨_, rfl, ta, rfl, ⟨_, SqL.of eta1⟩, comp_list (K := K) (ys := L.map fun q => V.ref q.2) (fun i acc σ' H' => H' = H1 ∧ acc = ((L.take i).filter fun q => decide (q.1.a ∈ btw fa fb) && decide (q.1.b ∈ btw fa fb)).map (fun q => V.ref q.2) ∧ ∃ o, σ' = [o, some (.ref bl)])
   ⟨rfl, rfl, none, rfl⟩ (fun i acc σ' H' h => ?_) ?_ (fun i acc σ' H' _ h => by rw [h.1]; exact SqL.of eta1) (fun i x acc σ' H' hx h => ?_) (fun acc σ' H' h rl hrl => ?_)⟩
  ·obtain ⟨_, rfl, _⟩ := h
   rw [List.length_map]
   exact Nat.le_trans (List.length_filter_le _ _) (by rw [List.length_take]; omega)
  ·rw [List.length_map, hL]
   exact Nat.le_trans g.lenT (by decide)
  ·obtain ⟨rfl, rfl, o3, rfl⟩ := h
   rw [List.getElem?_map] at hx
   cases eq : L[i]? with
   | none => rw [eq] at hx; cases hx
   | some qq =>
    rw [eq] at hx
    cases hx
    have ht := RL1.2 qq (List.mem_of_getElem? eq)
    have tk := fun c hc => take_filter (f := fun q : Row × Addr => decide (q.1.a ∈ btw fa fb) && decide (q.1.b ∈ btw fa fb)) eq c hc
    refine ⟨_, rfl, qq.2, _, _, .str qq.1.a, rfl, rfl, SqT.of ht, rfl, _, rfl, bl, _, rfl, .inl (SqL.of ebl), rfl, flat_strs _, _, rfl, ?_⟩
    show if (if false = true then !inV (.str qq.1.a) ((btw fa fb).map V.str) else inV (.str qq.1.a) ((btw fa fb).map V.str)) = true then _ else _
    rw [if_neg Bool.false_ne_true, inV_str]
    by_cases h1 : qq.1.a ∈ btw fa fb
    ·rw [decide_eq_true h1]
     refine iteT ⟨_, rfl, qq.2, _, _, .str qq.1.b, rfl, rfl, SqT.of ht, rfl, _, rfl, bl, _, rfl, .inl (SqL.of ebl), rfl, flat_strs _, _, rfl, ?_⟩
     show if (if false = true then !inV (.str qq.1.b) ((btw fa fb).map V.str) else inV (.str qq.1.b) ((btw fa fb).map V.str)) = true then _ else _
     rw [if_neg Bool.false_ne_true, inV_str]
     by_cases h2 : qq.1.b ∈ btw fa fb
     ·rw [decide_eq_true h2]
      refine iteT ⟨_, rfl, rfl, ?_, _, rfl⟩
      rw [tk true (by rw [decide_eq_true h1, decide_eq_true h2]; rfl), List.map_append]
      rfl
     ·rw [decide_eq_false h2]
      refine iteF ⟨rfl, ?_, _, rfl⟩
      rw [tk false (by rw [decide_eq_false h2, Bool.and_false])]
      simp
    ·rw [decide_eq_false h1]
     refine iteF (iteF ⟨rfl, ?_, _, rfl⟩)
     rw [tk false (by rw [decide_eq_false h1, Bool.false_and])]
     simp
  obtain ⟨rfl, rfl, o3, rfl⟩ := h
  rw [List.length_map, List.take_length]
  have RA : Rows H' (L.filter fun q => decide (q.1.a ∈ btw fa fb) && decide (q.1.b ∈ btw fa fb)) (rowsI S.ti (btw fa fb)) := by
   refine ⟨?_, fun q hq => RL1.2 q (List.mem_filter.mp hq).1⟩
   unfold rowsI
   rw [← RL.1, List.filter_map]
   rfl
  generalize (L.filter fun q => decide (q.1.a ∈ btw fa fb) && decide (q.1.b ∈ btw fa fb)) = LA at RA
  have z3 := Same.new (o := .lst (LA.map fun q => V.ref q.2)) hrl
  have erl : (upd H' rl (.lst (LA.map fun q => V.ref q.2))) rl = some (.lst (LA.map fun q => V.ref q.2)) := upd_same
  generalize upd H' rl (.lst (LA.map fun q => V.ref q.2)) = H3 at z3 erl
  have s3 := s1.trans z3
  have RA3 := RA.same z3
  have ebl3 := z3 _ _ ebl
  have hin : ∀ r ∈ rowsI S.ti (btw fa fb), r.b ∈ S.pl := fun r hr => (g.okT r (rowsI_iff.mp hr).1).2.2
  have hcI : ∀ r ∈ rowsI S.ti (btw fa fb), -(10 ^ 52) ≤ r.c ∧ r.c ≤ 10 ^ 52 := fun r hr => g.okC r (rowsI_iff.mp hr).1
  have hlI : (rowsI S.ti (btw fa fb)).length ≤ 10 := Nat.le_trans (List.length_filter_le _ _) g.lenT
  refine ⟨_, rfl, _, rfl, _, rfl, _, rfl, pa, _, rfl, .inl (SqL.of (s3 _ _ PA.pl)), .ref pa, rl, a, (S.pl.map V.str).length, S.pl, LA, rowsI S.ti (btw fa fb), rfl, by omega, by omega, ha, hin, RA3, erl, fun d1 H4 hd1 s4 Pr1 => ?_⟩
  rw [hpl] at Pr1
  have s04 := s3.trans s4
  refine ⟨fun σ' H' => PM1 S H4 c pa ta a b bl σ' H', ?_, ?_⟩
  ·refine ⟨_, rfl, _, _, rfl, rfl, (by show (0 : Int) < 4; decide), rfl, _, rfl, ite2 (fun _ => ?_) (fun _ => ⟨d1, _, _, _, _, rfl, Same.refl _, Pr1, fun v i e => pR_small hcI hlI (by omega) e⟩)⟩
   intro dd hdd
   have n5 := Same.new (o := .dK []) hdd
   have e5 : (upd H4 dd (.dK [])) dd = some (.dK []) := upd_same
   generalize upd H4 dd (.dK []) = H5 at n5 e5
   refine ⟨_, rfl, pa, rfl, ⟨_, SqL.of (n5 _ _ (s04 _ _ PA.pl))⟩, for_enum (K := K) (a := pa) (xs := S.pl.map V.str) (fun i σ' H' => ∃ (p : Str → Option Int) (o8 o9 : Option V), σ' = [some (.int c), some (.ref pa), some (.ref ta), some (.str a), some (.str b), some (.ref bl), some (.ref rl), some (.ref dd), o8, o9, none, none, none] ∧ Same H4 H' ∧ PrAt H' dd S.pl p ∧ ∀ v i, p v = some i → i.natAbs ≤ 10 ^ 60)
    ⟨fun _ => none, _, _, rfl, n5, ⟨[], e5, ⟨by simp, fun _ h => (nomatch h)⟩, fun _ => rfl⟩, fun _ _ e => (nomatch e)⟩ (fun i σ' H' _ h => ?_) (fun i x σ' H' t hx h ht => ?_) (fun σ' H' h => ?_)⟩
   ·obtain ⟨_, _, _, _, s6, _⟩ := h
    exact SqL.of (s6 _ _ (s04 _ _ PA.pl))
   ·obtain ⟨p, o8, o9, rfl, s6, Pr, hp⟩ := h
    rw [List.getElem?_map] at hx
    cases ey : S.pl[i]? with
    | none => rw [ey] at hx; cases hx
    | some y =>
     rw [ey] at hx
     cases hx
     have hy := List.mem_of_getElem? ey
     have hi : i < S.pl.length := (List.getElem?_eq_some_iff.mp ey).1
     have n7 := Same.new (o := .tup [.int i, .str y]) ht
     have et : (upd H' t (.tup [.int i, .str y])) t = some (.tup [.int i, .str y]) := upd_same
     generalize upd H' t (.tup [.int i, .str y]) = H7 at n7 et
     have s7 := s6.trans n7
     obtain ⟨kvs, ek, dk, hv⟩ := Pr.same n7
     have l1 := dk.len
     refine ⟨t, _, rfl, SqT.of et, rfl, _, _, rfl, _, _, rfl, rfl, ?_⟩
     have m91 := Int.emod_nonneg (c / (2 + (i : Int))) (by decide : (9 : Int) ≠ 0)
     have m92 := Int.emod_lt_of_pos (c / (2 + (i : Int))) (by decide : (0 : Int) < 9)
     refine ⟨_, rfl, _, rfl, _, _, rfl, rfl, _, _, rfl, rfl, ⟨by omega, by omega⟩, _, _, rfl, rfl, (by show (0 : Int) < 3; decide), _, _, rfl, rfl, _, rfl, ite2 (fun _ => ?_) (fun _ => ⟨p, _, _, rfl, s7, ⟨kvs, ek, dk, hv⟩, hp⟩)⟩
     refine ⟨_, rfl, _, rfl, _, _, rfl, rfl, _, _, rfl, rfl, ⟨by omega, by omega⟩, _, _, rfl, rfl, (by show (0 : Int) < 9; decide), _, rfl, _, rfl, dd, _, rfl, DPut.k (k := Sum.inr y) ek (small1000 (by omega)), ?_⟩
     refine ⟨fun v => if v = y then some (c / (2 + (i : Int)) % 9) else p v, _, _, rfl, fun b0 ob z => ?_, ⟨_, upd_same, dk.put hy _, fun v => ?_⟩, fun v k e => ?_⟩
     ·rw [upd_ne (ne_of_none z hdd)]
      exact s7 _ _ z
     ·rw [valV_put]
      show _ = Option.map V.int (if v = y then some (c / (2 + (i : Int)) % 9) else p v)
      by_cases hvb : v = y
      ·rw [if_pos (congrArg Sum.inr hvb), if_pos hvb]
       rfl
      ·rw [if_neg (fun z => hvb (Sum.inr.inj z)), if_neg hvb]
       exact hv v
     ·have e : (if v = y then some (c / (2 + (i : Int)) % 9) else p v) = some k := e
      by_cases hvb : v = y
      ·rw [if_pos hvb] at e
       have e2 : c / (2 + (i : Int)) % 9 = k := by injection e
       omega
      ·rw [if_neg hvb] at e
       exact hp v k e
   ·obtain ⟨p, o8, o9, rfl, s6, Pr, hp⟩ := h
    exact ⟨dd, p, _, _, _, rfl, s6, Pr, hp⟩
  rintro σ5 H5 ⟨dl, p, o6, o8, o9, rfl, s5, Pr, hp⟩
  have s05 := s04.trans s5
  have ebl5 := s5 _ _ (s4 _ _ ebl3)
  refine ⟨by decide, fun pl hpl0 => ?_⟩
  have n6 := Same.new (o := .lst []) hpl0
  have e6 : (upd H5 pl (.lst [])) pl = some (.lst []) := upd_same
  generalize upd H5 pl (.lst []) = H6 at n6 e6
  refine ⟨PM2 H5 c pa ta a b bl 6 pl, ?_, ?_⟩
  ·refine ⟨_, rfl, pa, rfl, ⟨_, SqL.of (n6 _ _ (s05 _ _ PA.pl))⟩, for_list (K := K) (a := pa) (xs := S.pl.map V.str) (fun i σ' H' => ∃ (xs : List V) (o9 : Option V), σ' = [some (.int c), some (.ref pa), some (.ref ta), some (.str a), some (.str b), some (.ref bl), o6, some (.ref dl), o8, o9, some (.ref pl), none, none] ∧ Same H5 H' ∧ H' pl = some (.lst xs) ∧ xs.length ≤ i ∧ ∀ u ∈ xs, RowP (Wo H' pl) u)
    ⟨[], _, rfl, n6, e6, Nat.le_refl _, fun _ h => (nomatch h)⟩ (fun i σ' H' _ h => ?_) (fun i x σ' H' hx h => ?_) (fun σ' H' h => ?_)⟩
   ·obtain ⟨_, _, _, s7, _⟩ := h
    exact SqL.of (s7 _ _ (s05 _ _ PA.pl))
   ·obtain ⟨xs, o9, rfl, s7, ep, hl, hxs⟩ := h
    rw [List.getElem?_map] at hx
    cases ey : S.pl[i]? with
    | none => rw [ey] at hx; cases hx
    | some y =>
     rw [ey] at hx
     cases hx
     have hy := List.mem_of_getElem? ey
     have hi : i < S.pl.length := (List.getElem?_eq_some_iff.mp ey).1
     obtain ⟨kvs, ek, dk, hv⟩ := Pr.same s7
     have ebl7 := s7 _ _ ebl5
     have m31 := Int.emod_nonneg (c / 4) (by decide : (3 : Int) ≠ 0)
     have m32 := Int.emod_lt_of_pos (c / 4) (by decide : (0 : Int) < 3)
     refine ⟨_, rfl, _, rfl, dl, _, rfl, DGet.k (k := Sum.inr y) ek, _, rfl, ?_⟩
     rw [hv, Option.isSome_map]
     cases ea : p y with
     | none => exact iteF (iteF ⟨xs, _, rfl, s7, ep, by omega, hxs⟩)
     | some z =>
      have va : valV kvs (Sum.inr y : Key) = some (.int z) := by rw [hv, ea]; rfl
      have hz := hp _ _ ea
      refine iteT ⟨_, rfl, by decide, fun ee hee => ⟨2, _, _, by decide, rd_strs ((Same.new hee) _ _ ebl7) okb, rd_nil upd_same, _, rfl, ?_⟩⟩
      have n8 := Same.new (o := .lst []) hee
      generalize upd H' ee (.lst []) = H8 at n8
      refine ite2 (fun _ => iteT ?_) (fun _ => ?_)
      ·refine ⟨_, rfl, .inl ⟨rfl, _, SqL.of (n8 _ _ ep)⟩, _, rfl, _, rfl, _, rfl, dl, _, rfl, by rw [← va]; exact DGet.k (k := Sum.inr y) (n8 _ _ ek), _, rfl, _, _, rfl, rfl, ⟨by decide, by decide⟩, _, _, rfl, rfl, (by show (0 : Int) < 3; decide), _, _, rfl, rfl, (by show 2 ≤ sizeLine; decide), fun r hr' => ?_⟩
       have nrf : r ≠ pl := fun z => by rw [z, n8 _ _ ep] at hr'; cases hr'
       have n9 := Same.new (o := .lst [.str y, .int (z + c / 4 % 3)]) hr'
       have er : (upd H8 r (.lst [.str y, .int (z + c / 4 % 3)])) r = some (.lst [.str y, .int (z + c / 4 % 3)]) := upd_same
       generalize upd H8 r (.lst [.str y, .int (z + c / 4 % 3)]) = H9 at n9 er
       refine ⟨pl, _, _, rfl, rfl, n9 _ _ (n8 _ _ ep), small1000 (by omega), xs ++ [.ref r], _, rfl, fun b0 ob w0 => ?_, upd_same, by rw [List.length_append]; exact Nat.succ_le_succ hl, fun u hu' => ?_⟩
       ·rw [upd_ne (ne_of_none w0 hpl0)]
        exact n9 _ _ (n8 _ _ (s7 _ _ w0))
       ·rcases List.mem_append.mp hu' with hu' | hu'
        ·exact (hxs u hu').same ((Wo.mono (n8.trans n9) pl).trans Wo.upd_)
        ·rw [List.mem_singleton.mp hu']
         exact ⟨r, .str y, _, rfl, by rw [Wo.eq nrf, upd_ne nrf]; exact er, .str (strOk_of (g.okP y hy)), by omega⟩
      ·refine ⟨_, rfl, _, _, rfl, rfl, (by show (0 : Int) < 4; decide), rfl, _, rfl, ite2 (fun _ => ?_) (fun _ => ⟨xs, _, rfl, s7.trans n8, n8 _ _ ep, by omega, fun u hu' => (hxs u hu').same (Wo.mono n8 pl)⟩)⟩
       refine ⟨_, rfl, .inl ⟨rfl, _, SqL.of (n8 _ _ ep)⟩, _, rfl, _, rfl, _, rfl, dl, _, rfl, by rw [← va]; exact DGet.k (k := Sum.inr y) (n8 _ _ ek), _, rfl, _, _, rfl, rfl, ⟨by decide, by decide⟩, _, _, rfl, rfl, (by show (0 : Int) < 3; decide), _, _, rfl, rfl, (by show 2 ≤ sizeLine; decide), fun r hr' => ?_⟩
       have nrf : r ≠ pl := fun z => by rw [z, n8 _ _ ep] at hr'; cases hr'
       have n9 := Same.new (o := .lst [.str y, .int (z + c / 4 % 3)]) hr'
       have er : (upd H8 r (.lst [.str y, .int (z + c / 4 % 3)])) r = some (.lst [.str y, .int (z + c / 4 % 3)]) := upd_same
       generalize upd H8 r (.lst [.str y, .int (z + c / 4 % 3)]) = H9 at n9 er
       refine ⟨pl, _, _, rfl, rfl, n9 _ _ (n8 _ _ ep), small1000 (by omega), xs ++ [.ref r], _, rfl, fun b0 ob w0 => ?_, upd_same, by rw [List.length_append]; exact Nat.succ_le_succ hl, fun u hu' => ?_⟩
       ·rw [upd_ne (ne_of_none w0 hpl0)]
        exact n9 _ _ (n8 _ _ (s7 _ _ w0))
       ·rcases List.mem_append.mp hu' with hu' | hu'
        ·exact (hxs u hu').same ((Wo.mono (n8.trans n9) pl).trans Wo.upd_)
        ·rw [List.mem_singleton.mp hu']
         exact ⟨r, .str y, _, rfl, by rw [Wo.eq nrf, upd_ne nrf]; exact er, .str (strOk_of (g.okP y hy)), by omega⟩
   ·obtain ⟨xs, o9, rfl, s7, ep, hl, hxs⟩ := h
    rw [hpl] at hl
    exact ⟨xs, _, _, _, _, rfl, s7, ep, by omega, hxs⟩
  rintro σ7 H7 ⟨xs, o6', o7, o8', o9', rfl, s7, ep, hl, hxs⟩
  have s07 := s05.trans s7
  have hxs7 : ∀ u ∈ xs, RowP H7 u := fun u hu' => (hxs u hu').same Wo.in_
  have ebl7 := s7 _ _ ebl5
  have hx6 : xs.length ≤ 6 := hl
  refine ⟨PM3 S H7 c pa ta a b pl xs 6 none, ?_, ?_⟩
  ·refine ⟨_, rfl, _, rfl, pa, ta, a, true, S, rfl, PA.same s07, g, ha, fun cl_ fs H8 cf _ => ?_⟩
   have s8 := cf.f.same
   have ebl8 := s8 _ _ ebl7
   have l6 := cf.f.len
   refine ⟨cl_, rfl, ⟨_, SqL.of cf.f.ob⟩, comp_list (K := K) (ys := fs.map V.str) (fun i acc σ' H' => H' = H8 ∧ ∃ ws : List Str, acc = ws.map V.str ∧ ws.length ≤ i ∧ (∀ x ∈ ws, x ∈ S.pl) ∧ ∃ o, σ' = [o, some (.ref bl)])
    ⟨rfl, [], rfl, Nat.le_refl _, fun _ h => (nomatch h), none, rfl⟩ (fun i acc σ' H' h => ?_) ?_ (fun i acc σ' H' _ h => by rw [h.1]; exact SqL.of cf.f.ob) (fun i x acc σ' H' hx h => ?_) (fun acc σ' H' h al hal => ?_)⟩
   ·obtain ⟨_, ws, rfl, hl, _⟩ := h
    rw [List.length_map]
    exact hl
   ·rw [List.length_map]
    exact Nat.le_trans l6 (by decide)
   ·obtain ⟨rfl, ws, rfl, hl, hw, o, rfl⟩ := h
    rw [List.getElem?_map] at hx
    cases ey : fs[i]? with
    | none => rw [ey] at hx; cases hx
    | some y =>
     rw [ey] at hx
     cases hx
     have hy := cf.f.sub y (List.mem_of_getElem? ey)
     refine ⟨_, rfl, _, rfl, bl, _, rfl, .inl (SqL.of ebl8), rfl, flat_strs _, _, rfl, ite2 (fun _ => ?_) (fun _ => ⟨rfl, ws, rfl, by omega, hw, _, rfl⟩)⟩
     refine ⟨_, rfl, rfl, ws ++ [y], by rw [List.map_append]; rfl, by rw [List.length_append]; exact Nat.succ_le_succ hl, fun x hx => ?_, _, rfl⟩
     rcases List.mem_append.mp hx with hx | hx
     ·exact hw x hx
     ·rw [List.mem_singleton.mp hx]; exact hy
   ·obtain ⟨rfl, ws, rfl, hl, hw, o, rfl⟩ := h
    rw [List.length_map] at hl
    have n9 := Same.new (o := .lst (ws.map V.str)) hal
    exact ⟨al, _, _, _, _, _, _, rfl, s8.trans n9, n9 _ _ (s8 _ _ ep), upd_same, by rw [List.length_map]; omega, strsB fun x hx => g.okP x (hw x hx), fun u hu' => (hxs7 u hu').same (s8.trans n9)⟩
  rintro σ8 H8 ⟨dd0, ys0, o5a, o6a, o7a, o8a, o9a, rfl, s8, ep8, ed8, hy8, hB8, hX8⟩
  refine ⟨PM3 S H8 c pa ta a b pl xs 6 none, ?_, ?_⟩
  ·refine ⟨_, rfl, _, _, rfl, rfl, (by show (0 : Int) < 8; decide), rfl, _, rfl, ite2 (fun _ => ?_) (fun _ => ⟨dd0, ys0, _, _, _, _, _, rfl, Same.refl _, ep8, ed8, hy8, hB8, hX8⟩)⟩
   have epa8 := (s07.trans s8) _ _ PA.pl
   refine ⟨_, rfl, pa, rfl, ⟨_, SqL.of epa8⟩, comp_enum (K := K) (ys := S.pl.map V.str) (fun j acc σ' H2 => Same H8 H2 ∧ ∃ ws : List Str, acc = ws.map V.str ∧ ws.length ≤ j ∧ (∀ x ∈ ws, x ∈ S.pl) ∧ ∃ u1 u2, σ' = [u1, u2, some (.int c)])
    ⟨Same.refl _, [], rfl, Nat.le_refl _, fun _ h => (nomatch h), none, none, rfl⟩ (fun j acc σ' H2 h => ?_) ?_ (fun j acc σ' H2 _ h => SqL.of (h.1 _ _ epa8)) (fun j x acc σ' H2 t hx h ht => ?_) (fun acc σ' H2 h al hal => ?_)⟩
   ·obtain ⟨_, ws, rfl, hl, _⟩ := h
    rw [List.length_map]
    exact hl
   ·rw [List.length_map]
    exact Nat.le_trans h6 (by decide)
   ·obtain ⟨s9, ws, rfl, hl, hw, u1, u2, rfl⟩ := h
    have hj : j < (S.pl.map V.str).length := (List.getElem?_eq_some_iff.mp hx).1
    rw [List.length_map] at hj
    rw [List.getElem?_map] at hx
    cases ey : S.pl[j]? with
    | none => rw [ey] at hx; cases hx
    | some y =>
     rw [ey] at hx
     cases hx
     refine ⟨t, _, rfl, SqT.of upd_same, rfl, _, _, rfl, _, _, rfl, rfl, ?_⟩
     refine ⟨_, rfl, _, rfl, _, _, rfl, rfl, _, _, rfl, rfl, ⟨by omega, by omega⟩, _, _, rfl, rfl, (by show (0 : Int) < 2; decide), rfl, _, rfl, ite2 (fun _ => ?_) (fun _ => ?_)⟩
     ·refine ⟨_, rfl, s9.upd ht, ws ++ [y], by rw [List.map_append]; rfl, by rw [List.length_append]; exact Nat.succ_le_succ hl, fun x hx => ?_, _, _, rfl⟩
      rcases List.mem_append.mp hx with hx | hx
      ·exact hw x hx
      ·rw [List.mem_singleton.mp hx]; exact List.mem_of_getElem? ey
     ·exact ⟨s9.upd ht, ws, rfl, Nat.le_succ_of_le hl, hw, _, _, rfl⟩
   ·obtain ⟨s9, ws, rfl, hl, hw, u1, u2, rfl⟩ := h
    rw [List.length_map] at hl
    have n9 := Same.new (o := .lst (ws.map V.str)) hal
    exact ⟨al, _, _, _, _, _, _, rfl, s9.trans n9, n9 _ _ (s9 _ _ ep8), upd_same, by rw [List.length_map]; omega, strsB fun x hx => g.okP x (hw x hx), fun u hu' => (hX8 u hu').same (s9.trans n9)⟩
  rintro σ9 H9 ⟨dd1, ys1, o5b, o6b, o7b, o8b, o9b, rfl, s9, ep9, ed9, hy9, hB9, hX9⟩
  refine ⟨_, rfl, _, _, rfl, rfl, ⟨by decide, by decide⟩, _, _, rfl, rfl, (by show (0 : Int) < 7; decide), ?_⟩
  have s09 := s07.trans (s8.trans s9)
  generalize hwy : c / 12 % 7 = wy
  refine ⟨PM3 S H9 c pa ta a b pl xs 6 (some (.int wy)), ?_, ?_⟩
  ·refine ⟨_, rfl, rfl, _, rfl, ite2 (fun _ => ?_) (fun _ => ⟨dd1, ys1, _, _, _, _, _, by rw [← hwy]; rfl, Same.refl _, ep9, ed9, hy9, hB9, hX9⟩)⟩
   refine ⟨_, rfl, _, rfl, dd1, _, rfl, SqL.of ed9, fun p1 hp1 => ?_⟩
   have c1 := cut_sub (xs := ys1) (lo := some 1) (hi := none)
   have n10 := Same.new (o := .lst (cutV ys1 (some 1) none)) hp1
   exact ⟨p1, _, _, _, _, _, _, by rw [← hwy]; rfl, n10, n10 _ _ ep9, upd_same, Nat.le_trans c1.2 hy9, fun y hy => (hB9 y (c1.1 y hy)).same n10, fun u hu' => (hX9 u hu').same n10⟩
  rintro σ10 H10 ⟨dd2, ys2, o5c, o6c, o7c, o8c, o9c, rfl, s10, ep10, ed10, hy10, hB10, hX10⟩
  refine ⟨PM3 S H10 c pa ta a b pl xs 7 (some (.int wy)), ?_, ?_⟩
  ·refine ⟨_, rfl, rfl, _, rfl, ite2 (fun _ => ?_) (fun _ => ⟨dd2, ys2, _, _, _, _, _, rfl, Same.refl _, ep10, ed10, by omega, hB10, hX10⟩)⟩
   refine ⟨_, rfl, _, rfl, _, rfl, (by show 4 ≤ sizeLine; decide), fun p1 hp1 => ?_⟩
   have n11 := Same.new (o := .lst [.str "nowhere", .int 4, .str a, .str b]) hp1
   have e11 : (upd H10 p1 (.lst [.str "nowhere", .int 4, .str a, .str b])) p1 = some (.lst [.str "nowhere", .int 4, .str a, .str b]) := upd_same
   generalize upd H10 p1 (.lst [.str "nowhere", .int 4, .str a, .str b]) = H11 at n11 e11
   obtain ⟨u, hu', eu⟩ := pickV (xs := [.str "nowhere", .int 4, .str a, .str b]) (by show 1 ≤ 4; decide) (c / 84)
   have hub : ∀ H', HasB H' 1 u := fun H' => by
    simp only [List.mem_cons, List.not_mem_nil, or_false] at hu'
    rcases hu' with rfl | rfl | rfl | rfl
    ·exact .str nowhere_ok
    ·exact .int (by decide)
    ·exact .str (strOk_of (g.okP a ha))
    ·exact .str (strOk_of (g.okP b hb))
   refine ⟨_, rfl, _, _, rfl, rfl, ⟨by decide, by decide⟩, _, _, rfl, rfl, (by show (0 : Int) < 4; decide), p1, _, _, u, rfl, rfl, SqL.of e11, eu, (by show 1 ≤ sizeLine; decide), fun p2 hp2 => ?_⟩
   have n12 := n11.upd (o := .lst [u]) hp2
   have e12 : (upd H11 p2 (.lst [u])) p2 = some (.lst [u]) := upd_same
   generalize upd H11 p2 (.lst [u]) = H12 at n12 e12
   refine ⟨dd2, p2, _, _, rfl, rfl, n12 _ _ ed10, e12, line _ (by rw [List.length_singleton]; omega), fun p3 hp3 => ?_⟩
   have n13 := n12.upd (o := .lst (ys2 ++ [u])) hp3
   refine ⟨p3, _, _, _, _, _, _, rfl, n13, n13 _ _ ep10, upd_same, by rw [List.length_append, List.length_singleton]; omega, fun y hy => ?_, fun u hu' => (hX10 u hu').same n13⟩
   rcases List.mem_append.mp hy with hy | hy
   ·exact (hB10 y hy).same n13
   ·rw [List.mem_singleton.mp hy]
    exact hub _
  rintro σ11 H11 ⟨dd3, ys3, o5d, o6d, o7d, o8d, o9d, rfl, s11, ep11, ed11, hy11, hB11, hX11⟩
  have s011 := s09.trans (s10.trans s11)
  have lstX : ∀ {H'}, Same H11 H' → LstB H' (.ref pl) := fun {H'} z => ⟨pl, xs, rfl, z _ _ ep11, by omega, fun y hy => ((hX11 y hy).rowB.has).same z⟩
  have lstD : ∀ {H'}, Same H11 H' → LstB H' (.ref dd3) := fun {H'} z => ⟨dd3, ys3, rfl, z _ _ ed11, by omega, fun y hy => ((hB11 y hy).up).same z⟩
  refine ⟨_, rfl, rfl, _, rfl, ite2 (fun _ => ?_) (fun _ => ?_)⟩
  ·refine ⟨_, rfl, _, rfl, by decide, fun p1 hp1 => ?_⟩
   have n12 := Same.new (o := .lst []) hp1
   have e12 : (upd H11 p1 (.lst [])) p1 = some (.lst []) := upd_same
   generalize upd H11 p1 (.lst []) = H12 at n12 e12
   refine ⟨(by show 3 ≤ sizeLine; decide), fun p2 hp2 => ?_⟩
   have n13 := Same.new (o := .lst [.ref pl, .ref dd3, .ref p1]) hp2
   have e13 : (upd H12 p2 (.lst [.ref pl, .ref dd3, .ref p1])) p2 = some (.lst [.ref pl, .ref dd3, .ref p1]) := upd_same
   generalize upd H12 p2 (.lst [.ref pl, .ref dd3, .ref p1]) = H13 at n13 e13
   refine ⟨_, rfl, _, _, rfl, rfl, ⟨by decide, by decide⟩, _, _, rfl, rfl, (by show (0 : Int) < 3; decide), _, _, rfl, rfl, _, rfl, p2, _, rfl, SqL.of e13, fun p3 hp3 => ?_⟩
   have c1 := cut_sub (xs := [.ref pl, .ref dd3, .ref p1]) (lo := none) (hi := some (1 + c / 84 % 3))
   have n14 := Same.new (o := .lst (cutV [.ref pl, .ref dd3, .ref p1] none (some (1 + c / 84 % 3)))) hp3
   refine q p3 _ _ (s011.trans (n12.trans (n13.trans n14))) upd_same c1.2 fun u hu' => ?_
   have hm := c1.1 u hu'
   simp only [List.mem_cons, List.not_mem_nil, or_false] at hm
   rcases hm with rfl | rfl | rfl
   ·exact lstX (n12.trans (n13.trans n14))
   ·exact lstD (n12.trans (n13.trans n14))
   ·exact ⟨p1, [], rfl, (n13.trans n14) _ _ e12, by decide, fun _ h => (nomatch h)⟩
  ·refine ⟨_, rfl, _, rfl, _, _, rfl, rfl, ⟨by decide, by decide⟩, pl, xs, c / 5, rfl, ep11, hX11, by omega, fun l us H12 s12 el hlu hB => ?_⟩
   refine ⟨_, rfl, (by show 2 ≤ sizeLine; decide), fun p2 hp2 => ?_⟩
   have n13 := Same.new (o := .lst [.ref l, .ref dd3]) hp2
   refine q p2 _ _ (s011.trans (s12.trans n13)) upd_same (by show 2 ≤ 3; decide) fun u hu' => ?_
   simp only [List.mem_cons, List.not_mem_nil, or_false] at hu'
   rcases hu' with rfl | rfl
   ·exact ⟨l, us, rfl, n13 _ _ el, by omega, fun y hy => ((hB y hy).has).same n13⟩
   ·exact lstD (s12.trans n13)
end
end Net
namespace L2
open PySem PySem.Spec PyProof.Rows
theorem op_isB {X : Cx} : OpR X (compareOp .Is) (fun x y H Q => ∃ a b, x = .bl a ∧ y = .bl b ∧ Q (.bl (decide (a = b))) H) := by
 intro pins s σ H x y v u Q I rx ry h
 obtain ⟨a, b, rfl, rfl, q⟩ := h
 cases rx
 cases ry
 refine wpAny_is_plain rfl (fin_bl I q ?_)
 cases a <;> cases b <;> rfl
end L2
namespace Net
open PySem L2
theorem pd_refl {H : Hp} : ∀ {n : Nat} {v : V} {d : PyData}, PD H n v d → PyData.eqv d d = true
 | 0, v, d, h => by
  cases v <;> first | exact h.elim | (cases (show d = _ from h); simp [PyData.eqv]; done) | (cases h.2; simp [PyData.eqv]; done)
 | n + 1, v, d, h => by
  have al : ∀ {xs : List V} {ds : List PyData}, Paired (PD H n) xs ds → PyData.eqvAll ds ds = true := fun {xs ds} p => by
   induction p with
   | nil => rfl
   | cons h _ ih => rw [PyData.eqvAll, pd_refl h, ih]; rfl
  cases v <;> first | exact h.elim | (cases (show d = _ from h); simp [PyData.eqv]; done) | (cases h.2; simp [PyData.eqv]; done) | skip
  rcases h with ⟨xs, ds, e, rfl, p⟩ | ⟨xs, ds, e, rfl, p⟩
  ·rw [PyData.eqv]; exact al p
  ·rw [PyData.eqv]; exact al p
theorem SmD.len {d : PyData} : ∀ {n : Nat}, SmD n d → LenD d
 | 0, h, e, z => by rw [z] at h; exact h.elim
 | n + 1, h, e, z => by rw [z] at h; exact h.1
theorem SmD.items {ds : List PyData} : ∀ {n : Nat}, SmD n (.list ds) → ∀ x ∈ ds, ∃ m, SmD m x
 | 0, h, _, _ => h.elim
 | n + 1, h, x, hx => ⟨n, h.2 x hx⟩
theorem SmD.strOk {d : PyData} {n : Nat} (h : SmD n d) : StrOk d := by
 refine ⟨h.len, fun ds e x hx d0 d1 e2 => ?_⟩
 rw [e] at h
 obtain ⟨m, hm⟩ := h.items x hx
 rw [e2] at hm
 obtain ⟨m0, h0⟩ := hm.items d0 (by simp)
 obtain ⟨m1, h1⟩ := hm.items d1 (by simp)
 refine ⟨h0.len, fun t et => ?_⟩
 rw [et] at h1
 cases m1 <;> exact h1
theorem SmD.pairLen {d : PyData} {n : Nat} (h : SmD n d) : PairLen d := fun d0 d1 e => by
 rw [e] at h
 obtain ⟨m0, h0⟩ := h.items d0 (by simp)
 obtain ⟨m1, h1⟩ := h.items d1 (by simp)
 exact ⟨h0.len, h1.len⟩
theorem SmD.dlen : ∀ {n : Nat} {d : PyData}, SmD n d → DLen n d
 | 0, .list _, h => h.elim
 | n + 1, .list ds, h => ⟨h.1, fun x hx => (h.2 x hx).dlen⟩
 | 0, .int _, _ => True.intro
 | _ + 1, .int _, _ => True.intro
 | 0, .none, _ => True.intro
 | 0, .bool _, _ => True.intro
 | 0, .str _, _ => True.intro
 | 0, .tuple _, _ => True.intro
 | 0, .dict _, _ => True.intro
 | _ + 1, .dict _, _ => True.intro
 | _ + 1, .none, _ => True.intro
 | _ + 1, .bool _, _ => True.intro
 | _ + 1, .str _, _ => True.intro
 | _ + 1, .tuple _, _ => True.intro
theorem lstB_pair {H : Hp} : ∀ {us : List V}, (∀ u ∈ us, LstB H u) → ∃ ds, Paired (PD H 3) us ds ∧ ∀ d ∈ ds, SmD 3 d ∧ ∃ e, d = .list e ∧ e.length ≤ 1000
 | [], _ => ⟨[], .nil, fun _ h => nomatch h⟩
 | u :: r, h => by
  obtain ⟨la, ys, rfl, e, hl, hb⟩ := h u List.mem_cons_self
  obtain ⟨ds, q, hs⟩ := lstB_pair fun v hv => h v (List.mem_cons_of_mem _ hv)
  obtain ⟨es, p, sm⟩ := lstB e hb (by omega)
  refine ⟨.list es :: ds, .cons p q, fun d hd => ?_⟩
  rcases List.mem_cons.mp hd with rfl | hd
  ·exact ⟨sm, es, rfl, sm.1⟩
  ·exact hs d hd
theorem Wo.free {H H' : Hp} {f : Addr} (s : Same H H') (hf : H f = none) : Same H (Wo H' f) := fun b o e => by
 rw [Wo.eq (ne_of_none e hf)]
 exact s _ _ e
def TupB (H : Hp) (v : V) : Prop := ∃ (t : Addr) (ys : List V) (ds : List PyData), v = .ref t ∧ H t = some (.tup ys) ∧ Paired (PD H 1) ys ds
theorem TupB.same {H H' : Hp} {v : V} (s : Same H H') (h : TupB H v) : TupB H' v := let ⟨t, ys, ds, e, h1, h2⟩ := h; ⟨t, ys, ds, e, s _ _ h1, paired_same s h2⟩
theorem tupB_pair {H : Hp} : ∀ {vs : List V}, (∀ v ∈ vs, TupB H v) → ∃ ds, Paired (PD H 2) vs ds ∧ ∀ d ∈ ds, ∃ z, d = PyData.tuple z
 | [], _ => ⟨[], .nil, fun _ h => nomatch h⟩
 | v :: r, h => by
  obtain ⟨t, ys, ds, rfl, e, p⟩ := h v List.mem_cons_self
  obtain ⟨dr, q, hs⟩ := tupB_pair fun u hu => h u (List.mem_cons_of_mem _ hu)
  refine ⟨.tuple ds :: dr, .cons (.inr ⟨ys, ds, e, rfl, p⟩) q, fun d hd => ?_⟩
  rcases List.mem_cons.mp hd with rfl | hd
  ·exact ⟨_, rfl⟩
  ·exact hs d hd
def OddB (d : PyData) : Prop := isL d = false ∨ ∃ x xs, d = .list (.tuple x :: xs) ∧ ∀ y ∈ xs, ∃ z, y = .tuple z
theorem odd_look {S : NS} {a b : Str} {k : Int} {so : Bool} {d : PyData} (h : OddB d) : lookC S a b k so d = false := by
 unfold lookC
 rcases h with h | ⟨x, xs, rfl, _⟩
 ·cases so with
  | true => cases d <;> first | rfl | cases h
  | false => exact noCost_pair (by cases d <;> first | rfl | cases h)
 ·cases so with
  | true => rfl
  | false =>
   show noCostD S a b k _ = false
   match xs with
   | [] => rfl
   | [y] => rfl
   | _ :: _ :: _ => rfl
theorem odd_strOk {d : PyData} (h : OddB d) (hl : LenD d) : StrOk d := by
 refine ⟨hl, fun ds e y hy d0 d1 e2 => ?_⟩
 rcases h with h | ⟨x, xs, rfl, hx⟩
 ·rw [e] at h; cases h
 ·cases e
  rcases List.mem_cons.mp hy with rfl | hy
  ·cases e2
  ·obtain ⟨z, rfl⟩ := hx y hy
   cases e2
theorem odd_pairLen {d : PyData} (h : OddB d) : PairLen d := fun d0 d1 e => by
 rcases h with h | ⟨x, xs, rfl, hx⟩
 ·rw [e] at h; cases h
 ·cases e
  refine ⟨(fun e' z => nomatch z), fun e' z => ?_⟩
  obtain ⟨w, hw⟩ := hx d1 (by simp)
  rw [hw] at z
  cases z
theorem so_ok : PyData.strOk "so" = true := strOk_of (by decide +kernel)
theorem signs_odd : signsV "odd" = [.str "o", .str "d", .str "d"] := by decide +kernel
theorem o_ok : PyData.strOk "o" = true := strOk_of (by decide +kernel)
theorem d_ok : PyData.strOk "d" = true := strOk_of (by decide +kernel)
def spOne32 (C : Addr) : Sp := fun vs H Q _ => ∃ (p ds dl pa ta : Addr) (S : NS) (c : Int), vs = [.ref p, .ref pa, .ref ta, .int c] ∧ NetS C H p ds dl S ∧ PartsAt H pa ta S ∧ GoodS S ∧ ∀ H', Same H H' → Q (.bl true) H'
section
variable {P : Program} {w : World} {K : PySem.W.Frag} {mg : Str → Option Value} {base : Heap} {C : Addr}
abbrev None32 : List Str := ["_law_net_here", "_law_places", "_law_ties", "_law_cell", "_law_a", "_law_b", "_law_least_here", "_law_k", "_law_walked", "_law_prices_here", "_law_cheap", "_law_dear", "_law_claim", "_law_copy_here", "_law_odds", "_law_odd", "_law_so", "_law_told", "_law_truth_here", "_law_paper"]
theorem sc_one32 : FnScope None32 ["_law_net_here", "_law_places", "_law_ties", "_law_cell"] (defScope s_l_one) := ⟨rfl, rfl, rfl, by decide +kernel, rfl, by decide +kernel, by decide +kernel⟩
theorem ok_one32 {f : Addr} {fd : FuncData} (F : Fun K "_law_one" "_law_one" s_l_one f fd) (T : Txt K mg C) (cl : Can P w K mg base 1 "_law_least" ["_law_places", "_law_ties", "_law_a", "_law_rounds"] spLeast) (cst : Can P w K mg base 2 "_law_stretches" ["_law_cell", "_law_ties", "_law_a"] spStretch)
  (cpr : Can P w K mg base 3 "_law_prices" ["_law_cell", "_law_places", "_law_ties", "_law_a", "_law_b"] spPrices32) (cch : Can P w K mg base 1 "_law_is_cheap" ["_law_ties", "_law_a", "_law_b", "_law_k", "_law_paper"] spCheap) (cde : Can P w K mg base 1 "_law_is_dear" ["_law_places", "_law_ties", "_law_a", "_law_b", "_law_k", "_law_paper"] spDear32)
  (ccp : Can P w K mg base 6 "_law_copy" ["_law_paper"] (spCopy 5)) (clk : Can P w K mg base 7 "look_plain" ["net", "claim", "so", "paper"] (spLookC C)) (ctr : Can P w K mg base 3 "_law_truth" ["_law_places", "_law_ties", "_law_a", "_law_b", "_law_k"] spTruth32) :
  FnOk P w K mg base CX0 8 f fd ["_law_net_here", "_law_places", "_law_ties", "_law_cell"] (spOne32 C) := by
 refine F.ok sc_one32 (fun vs H Q E h => ?_) (fun cdv A outer s H vs Q E hr h => ?_)
 ·obtain ⟨p, ds, dl, pa, ta, S, c, rfl, _⟩ := h
  rfl
 ·obtain ⟨p, ds, dl, pa, ta, S, c, rfl, N0, PA0, g, q⟩ := h
  have hu := hu_of hr
  have hU := hr.units
  have r1 : Room 1 _ := hr.mono (by decide)
  have r2 : Room 2 _ := hr.mono (by decide)
  have r3 : Room 3 _ := hr.mono (by decide)
  have r6 : Room 6 _ := hr.mono (by decide)
  have nd1 : List.Nodup (["_law_row"] : List Str) := by decide +kernel
  refine ⟨_, (pss_cons (ps_set (i := 4) sc_one32.nd rfl (Or.inl rfl) (pe_ix ix_list (pv 1) (pe_op op_mod (pv 3) (pe_callB call_len_seq (by rfl) T.len b_len (pa_cons (pv 1) pa_nil))) (fun _ _ => by rfl)))
   (pss_cons (ps_set (i := 5) sc_one32.nd rfl (Or.inl rfl) (pe_ix ix_list (pv 1) (pe_op op_mod (pe_op op_fdiv (pv 3) pe_int) (pe_callB call_len_seq (by rfl) T.len b_len (pa_cons (pv 1) pa_nil))) (fun _ _ => by rfl)))
   (pss_cons (ps_set (i := 6) sc_one32.nd rfl (Or.inl rfl) (pe_callC cl r1 (by rfl) (pa_cons (pv 1) (pa_cons (pv 2) (pa_cons (pv 4) (pa_cons (pe_callB call_len_seq (by rfl) T.len b_len (pa_cons (pv 1) pa_nil)) pa_nil))))))
   (pss_cons (ps_set (i := 7) sc_one32.nd rfl (Or.inl rfl) (pe_op op_sub (pe_op op_mod (pe_op op_fdiv (pv 3) pe_int) pe_int) pe_int))
   (pss_cutE (ps_if (PW.pt (pw_and (pt_cmpR op_eq (pe_op op_mod (pe_op op_fdiv (pv 3) pe_int) pe_int) pe_int (nomark _)) (pw_and1 (pt_cmp (pc_din hu (pv 5) (pv 6)))))) (pss_one (ps_set (i := 7) sc_one32.nd rfl (Or.inl rfl) (pe_op op_add (pe_op op_sub (pe_dget hu (pv 6) (pv 5) (fun _ _ => rfl)) pe_int) (pe_op op_mod (pe_op op_fdiv (pv 3) pe_int) pe_int)))) pss_nil)
   (pss_cons (ps_set (i := 8) sc_one32.nd rfl (Or.inl rfl) (pe_callC cst r2 (by rfl) (pa_cons (pe_op op_fdiv (pv 3) pe_int) (pa_cons (pv 2) (pa_cons (pv 4) pa_nil)))))
   (pss_cons (ps_set (i := 9) sc_one32.nd rfl (Or.inl rfl) (pe_callC cpr r3 (by rfl) (pa_cons (pe_op op_fdiv (pv 3) pe_int) (pa_cons (pv 1) (pa_cons (pv 2) (pa_cons (pv 4) (pa_cons (pv 5) pa_nil)))))))
   (pss_cons (ps_set (i := 10) sc_one32.nd rfl (Or.inl rfl) (pe_callC cch r1 (by rfl) (pa_cons (pv 2) (pa_cons (pv 4) (pa_cons (pv 5) (pa_cons (pv 7) (pa_cons (pv 8) pa_nil)))))))
   (pss_cons (ps_set (i := 11) sc_one32.nd rfl (Or.inl rfl) (pe_callC cde r1 (by rfl) (pa_cons (pv 1) (pa_cons (pv 2) (pa_cons (pv 4) (pa_cons (pv 5) (pa_cons (pv 7) (pa_cons (pv 9) pa_nil))))))))
   (pss_cons (ps_set (i := 12) sc_one32.nd rfl (Or.inl rfl) (pe_tup (pa_cons pe_str (pa_cons (pv 4) (pa_cons (pv 5) (pa_cons (pv 7) pa_nil))))))
   (pss_cons (ps_set (i := 13) sc_one32.nd rfl (Or.inl rfl) (pe_callC ccp r6 (by rfl) (pa_cons (pe_lst (pa_cons (pv 8) (pa_cons (pv 9) pa_nil))) pa_nil)))
   (pss_cons (ps_set (i := 14) sc_one32.nd rfl (Or.inl rfl) (pe_lst (pa_cons pe_int (pa_cons pe_str (pa_cons pe_non (pa_cons pe_bl (pa_cons (pe_tup pa_nil) (pa_cons (pe_callTy call_tuple_of (by rfl) T.tuple b_tuple (pa_cons (pv 8) pa_nil)) (pa_cons (pe_callTy call_tuple_of (by rfl) T.tuple b_tuple (pa_cons (pv 9) pa_nil)) (pa_cons (pe_lst (pa_cons (pe_tup pa_nil) (pa_cons (pe_tup pa_nil) pa_nil))) pa_nil))))))))))
   (pss_cutE (ps_if (pt_cmpR (op_neD hU) (pv 8) (pe_lst pa_nil) (nomark _)) (pss_one (ps_expr (pe_bm PySem.F.plainAttrs_list PySem.F.slot_list_append PySem.F.type_list_append mt_append (pv 14) (pa_cons (pe_comp (N := ["_law_row"]) (xs := 1) (js := []) rfl (compScope_of rfl) (pi_list (pv 8)) (fun _ _ _ _ => pg_name (i := 0) nd1 rfl (Or.inl rfl)) (fun _ _ _ _ => pts_nil) (fun _ _ _ _ => pe_callTy (call_tupleK K (by rfl) (by rfl)) (by rfl) T.tuple b_tuple (pa_cons (pv 0) pa_nil))) pa_nil)))) pss_nil)
   (pss_cutE (ps_for PassesOwn.never rfl (pi_list (pv 14)) (pg_name (i := 15) sc_one32.nd rfl (Or.inl rfl))
     (pss_one (ps_for PassesOwn.never rfl (pi_list (pe_lst (pa_cons pe_bl (pa_cons pe_bl pa_nil)))) (pg_name (i := 16) sc_one32.nd rfl (Or.inl rfl))
      (pss_one (ps_if (pt_cmpR op_isnotB (pe_callC clk hr (by rfl) (pa_cons (pv 0) (pa_cons (pv 12) (pa_cons (pv 16) (pa_cons (pv 15) pa_nil))))) pe_bl (nomark _)) (pss_one (ps_ret pe_bl)) pss_nil)))))
   (pss_cons (ps_set (i := 17) sc_one32.nd rfl (Or.inl rfl) (pe_tup (pa_cons (pe_callC clk hr (by rfl) (pa_cons (pv 0) (pa_cons (pv 12) (pa_cons pe_bl (pa_cons (pv 8) pa_nil))))) (pa_cons (pe_callC clk hr (by rfl) (pa_cons (pv 0) (pa_cons (pv 12) (pa_cons pe_bl (pa_cons (pv 9) pa_nil))))) pa_nil))))
   (pss_cutE (ps_if (PW.pt (pw_or (pt_not (pt_val (pe_callB call_isinst (by rfl) T.isi b_isi (pa_cons (pe_ix ix_tup (pv 17) pe_int (fun _ _ => by rfl)) (pa_cons (pe_ty T.bool (by rfl) b_bool) pa_nil))))) (pw_or (pt_not (pt_val (pe_callB call_isinst (by rfl) T.isi b_isi (pa_cons (pe_ix ix_tup (pv 17) pe_int (fun _ _ => by rfl)) (pa_cons (pe_ty T.bool (by rfl) b_bool) pa_nil))))) (pw_or1 (pt_cmpR (op_neD hU) (pv 17) (pe_tup (pa_cons (pv 10) (pa_cons (pv 11) pa_nil))) (nomark _)))))) (pss_one (ps_ret pe_bl)) pss_nil)
   (pss_cons (ps_set (i := 18) sc_one32.nd rfl (Or.inl rfl) (pe_callC ctr r3 (by rfl) (pa_cons (pv 1) (pa_cons (pv 2) (pa_cons (pv 4) (pa_cons (pv 5) (pa_cons (pv 7) pa_nil)))))))
   (pss_cutE (ps_if (PW.pt (pw_or (PW.pt (pw_and (pt_val (pv 10)) (pw_and1 (pt_not (pt_val (pv 18)))))) (pw_or1 (PW.pt (pw_and (pt_val (pv 11)) (pw_and1 (pt_val (pv 18)))))))) (pss_one (ps_ret pe_bl)) pss_nil)
   (pss_cutE (ps_for PassesOwn.never rfl (pi_list (pe_lst (pa_cons (pv 8) (pa_cons (pv 9) (pa_cons (pe_lst pa_nil) (pa_cons pe_int (pa_cons pe_str pa_nil))))))) (pg_name (i := 19) sc_one32.nd rfl (Or.inl rfl))
     (pss_cutE (ps_if (PW.pt (pw_and (pt_cmpR op_isB (pe_callC clk hr (by rfl) (pa_cons (pv 0) (pa_cons (pv 12) (pa_cons pe_bl (pa_cons (pv 19) pa_nil))))) pe_bl (nomark _)) (pw_and1 (pt_val (pv 18))))) (pss_one (ps_ret pe_bl)) pss_nil)
   (pss_one (ps_if (PW.pt (pw_and (pt_cmpR op_isB (pe_callC clk hr (by rfl) (pa_cons (pv 0) (pa_cons (pv 12) (pa_cons pe_bl (pa_cons (pv 19) pa_nil))))) pe_bl (nomark _)) (pw_and1 (pt_not (pt_val (pv 18)))))) (pss_one (ps_ret pe_bl)) pss_nil))))
   (pss_one (ps_ret (pe_cmpR (op_eqD hU) (pe_lst (pa_cons (pv 8) (pa_cons (pv 9) pa_nil))) (pv 13) (nomark _))))))))))))))))))))))), ?_⟩
  have h6 := g.lenP
  have hpl : (S.pl.map V.str).length = S.pl.length := List.length_map ..
  have hlp : (0 : Int) < ((S.pl.map V.str).length : Int) := by
   rw [hpl]
   have := g.neP
   omega
  obtain ⟨L, RL, eta⟩ := PA0.ti
  have line : ∀ k : Nat, k ≤ 1000 → k ≤ sizeLine := fun k h => Nat.le_trans h (by decide)
  obtain ⟨a, ha, ea⟩ := pick_pl g.neP c
  obtain ⟨b, hb, eb⟩ := pick_pl g.neP (c / 6)
  refine ⟨_, rfl, _, rfl, _, rfl, pa, _, rfl, .inl (SqL.of PA0.pl), _, _, rfl, rfl, hlp, pa, _, _, .str a, rfl, rfl, SqL.of PA0.pl, ea, ?_⟩
  refine ⟨_, rfl, _, rfl, _, _, rfl, rfl, ⟨by decide, by decide⟩, _, rfl, pa, _, rfl, .inl (SqL.of PA0.pl), _, _, rfl, rfl, hlp, pa, _, _, .str b, rfl, rfl, SqL.of PA0.pl, eb, ?_⟩
  refine ⟨_, rfl, _, rfl, _, rfl, _, rfl, pa, _, rfl, .inl (SqL.of PA0.pl), .ref pa, ta, a, (S.pl.map V.str).length, S.pl, L, S.ti, rfl, by omega, by omega, ha, fun r hr => (g.okT r hr).2.2, RL, eta, fun d1 H1 hd1 s1 Pr1 => ?_⟩
  rw [hpl] at Pr1
  refine ⟨_, rfl, _, _, rfl, rfl, ⟨by decide, by decide⟩, _, _, rfl, rfl, (by show (0 : Int) < 30; decide), _, _, rfl, rfl, ?_⟩
  refine ⟨fun σ' H' => H' = H1 ∧ ∃ k : Int, σ' = [some (.ref p), some (.ref pa), some (.ref ta), some (.int c), some (.str a), some (.str b), some (.ref d1), some (.int k), none, none, none, none, none, none, none, none, none, none, none, none], ?_, ?_⟩
  ·refine ⟨_, rfl, _, _, rfl, rfl, ⟨by decide, by decide⟩, _, _, rfl, rfl, (by show (0 : Int) < 2; decide), rfl, _, rfl, ite2 (fun _ => ?_) (fun _ => iteF ⟨rfl, _, rfl⟩)⟩
   obtain ⟨kvs, ek, dk, hv⟩ := Pr1
   refine ⟨_, rfl, _, rfl, d1, _, rfl, DGet.k (k := Sum.inr b) ek, _, rfl, ?_⟩
   rw [hv, Option.isSome_map]
   cases eb' : pR S.ti S.pl.length a b with
   | none => exact iteF ⟨rfl, _, rfl⟩
   | some z =>
    have va : valV kvs (Sum.inr b : Key) = some (.int z) := by rw [hv, eb']; rfl
    exact iteT ⟨_, rfl, _, rfl, d1, _, rfl, by rw [← va]; exact DGet.k (k := Sum.inr b) ek, _, _, rfl, rfl, _, rfl, _, _, rfl, rfl, ⟨by decide, by decide⟩, _, _, rfl, rfl, (by show (0 : Int) < 3; decide), _, _, rfl, rfl, rfl, _, rfl⟩
  rintro σ1 H1' ⟨rfl, k, rfl⟩
  have PA1 := PA0.same s1
  refine ⟨_, rfl, _, _, rfl, rfl, ⟨by decide, by decide⟩, _, rfl, _, rfl, c / 7, pa, ta, a, S, rfl, PA1, g, fun wl ws H2 s2 ewl hwl hwB => ?_⟩
  have PA2 := PA1.same s2
  refine ⟨_, rfl, _, _, rfl, rfl, ⟨by decide, by decide⟩, _, rfl, _, rfl, _, rfl, _, rfl, c / 11, pa, ta, a, b, S, rfl, PA2, g, ha, hb, fun pl us H3 s3 epl hul huB => ?_⟩
  have PA3 := PA2.same s3
  have ewl3 := s3 _ _ ewl
  obtain ⟨es, prw, hes⟩ := allB_pair fun u hu => ((hwB u hu).has).same s3
  have hwe : ws.length = es.length := Paired.length prw
  have pdw : PD H3 3 (.ref wl) (.list es) := .inl ⟨ws, es, ewl3, rfl, prw⟩
  have smw : SmD 3 (.list es) := ⟨by omega, hes⟩
  obtain ⟨ps, prp, hps⟩ := lstB_pair huB
  have hpp : us.length = ps.length := Paired.length prp
  have pdp : PD H3 4 (.ref pl) (.list ps) := .inl ⟨us, ps, epl, rfl, prp⟩
  have smp : SmD 4 (.list ps) := ⟨by omega, fun x hx => (hps x hx).1⟩
  refine ⟨_, rfl, _, rfl, _, rfl, _, rfl, _, rfl, ta, pa, S, a, b, k, .ref wl, 3, es, rfl, PA3, g, pdw, by decide, smw.strOk, fun H4 s4 => ?_⟩
  refine ⟨_, rfl, _, rfl, _, rfl, _, rfl, _, rfl, _, rfl, pa, ta, S, a, b, k, .ref pl, 4, ps, rfl, PA3.same s4, g, pdp.same s4, by decide, fun d0 d1 e => ?_, fun H5 s5 => ?_⟩
  ·obtain ⟨_, e0, z0, l0⟩ := hps d0 (by rw [e]; simp)
   obtain ⟨_, e1, z1, l1⟩ := hps d1 (by rw [e]; simp)
   exact ⟨e0, e1, z0, z1, l0, l1⟩
  generalize hch : costOkD S.ti a b k (.list es) = ch
  generalize hde : noCostD S a b k (.list ps) = de
  refine ⟨_, rfl, _, rfl, _, rfl, (by show 4 ≤ sizeLine; decide), fun ct hct => ?_⟩
  have z6 := Same.new (o := .tup [.str "cost", .str a, .str b, .int k]) hct
  have ect : (upd H5 ct (.tup [.str "cost", .str a, .str b, .int k])) ct = some (.tup [.str "cost", .str a, .str b, .int k]) := upd_same
  generalize upd H5 ct (.tup [.str "cost", .str a, .str b, .int k]) = H6 at z6 ect
  have s36 := s4.trans (s5.trans z6)
  refine ⟨_, rfl, _, rfl, (by show 2 ≤ sizeLine; decide), fun cl0 hcl0 => ?_⟩
  have z7 := Same.new (o := .lst [.ref wl, .ref pl]) hcl0
  have ecl : (upd H6 cl0 (.lst [.ref wl, .ref pl])) cl0 = some (.lst [.ref wl, .ref pl]) := upd_same
  generalize upd H6 cl0 (.lst [.ref wl, .ref pl]) = H7 at z7 ecl
  have s37 := s36.trans z7
  have both : ∀ {H' : Hp} {x : Addr}, Same H3 H' → H' x = some (.lst [.ref wl, .ref pl]) → PD H' 5 (.ref x) (.list [.list es, .list ps]) := fun {H' x} z e => .inl ⟨_, _, e, rfl, .cons ((pdw.same z).mono 1) (.cons (pdp.same z) .nil)⟩
  have smb : SmD 5 (.list [.list es, .list ps]) := ⟨by show 2 ≤ 1000; decide, fun x hx => by
   simp only [List.mem_cons, List.not_mem_nil, or_false] at hx
   rcases hx with rfl | rfl
   ·exact smw.up
   ·exact smp⟩
  refine ⟨.ref cl0, .list [.list es, .list ps], rfl, both s37 ecl, smb.dlen, fun cv H8 s8 pcv => ?_⟩
  have s38 := s37.trans s8
  refine ⟨(by show 0 ≤ sizeLine; decide), fun t0 ht0 => ?_⟩
  have y0 := Same.new (o := .tup []) ht0
  have f0 : (upd H8 t0 (.tup [])) t0 = some (.tup []) := upd_same
  generalize upd H8 t0 (.tup []) = G0 at y0 f0
  refine ⟨_, rfl, wl, ws, rfl, .inl ⟨SqL.of (y0 _ _ (s38 _ _ ewl3)), fun t1 ht1 => ?_⟩⟩
  have y1 := Same.new (o := .tup ws) ht1
  have f1 : (upd G0 t1 (.tup ws)) t1 = some (.tup ws) := upd_same
  generalize upd G0 t1 (.tup ws) = G1 at y1 f1
  refine ⟨_, rfl, pl, us, rfl, .inl ⟨SqL.of (y1 _ _ (y0 _ _ (s38 _ _ epl))), fun t2 ht2 => ?_⟩⟩
  have y2 := Same.new (o := .tup us) ht2
  have f2 : (upd G1 t2 (.tup us)) t2 = some (.tup us) := upd_same
  generalize upd G1 t2 (.tup us) = G2 at y2 f2
  refine ⟨(by show 0 ≤ sizeLine; decide), fun t3 ht3 => ?_⟩
  have y3 := Same.new (o := .tup []) ht3
  have f3 : (upd G2 t3 (.tup [])) t3 = some (.tup []) := upd_same
  generalize upd G2 t3 (.tup []) = G3 at y3 f3
  refine ⟨(by show 0 ≤ sizeLine; decide), fun t4 ht4 => ?_⟩
  have y4 := Same.new (o := .tup []) ht4
  have f4 : (upd G3 t4 (.tup [])) t4 = some (.tup []) := upd_same
  generalize upd G3 t4 (.tup []) = G4 at y4 f4
  refine ⟨(by show 2 ≤ sizeLine; decide), fun t5 ht5 => ?_⟩
  have y5 := Same.new (o := .lst [.ref t3, .ref t4]) ht5
  have f5 : (upd G4 t5 (.lst [.ref t3, .ref t4])) t5 = some (.lst [.ref t3, .ref t4]) := upd_same
  generalize upd G4 t5 (.lst [.ref t3, .ref t4]) = G5 at y5 f5
  refine ⟨(by show 8 ≤ sizeLine; decide), fun ol hol => ?_⟩
  have y6 := Same.new (o := .lst [.int 0, .str "", .non, .bl false, .ref t0, .ref t1, .ref t2, .ref t5]) hol
  have f6 : (upd G5 ol (.lst [.int 0, .str "", .non, .bl false, .ref t0, .ref t1, .ref t2, .ref t5])) ol = some (.lst [.int 0, .str "", .non, .bl false, .ref t0, .ref t1, .ref t2, .ref t5]) := upd_same
  generalize upd G5 ol (.lst [.int 0, .str "", .non, .bl false, .ref t0, .ref t1, .ref t2, .ref t5]) = G6 at y6 f6
  have y45 := y4.trans y5
  have y35 := y3.trans y45
  have y25 := y2.trans y35
  have y15 := y1.trans y25
  have y05 := y0.trans y15
  have s3G := s38.trans y05
  have hodd : ∀ u ∈ ([.int 0, .str "", .non, .bl false, .ref t0, .ref t1, .ref t2, .ref t5] : List V), ∃ du, PD G5 5 u du ∧ OddB du ∧ LenD du := fun u hu => by
   simp only [List.mem_cons, List.not_mem_nil, or_false] at hu
   rcases hu with rfl | rfl | rfl | rfl | rfl | rfl | rfl | rfl
   ·exact ⟨.int 0, rfl, .inl rfl, fun _ z => nomatch z⟩
   ·exact ⟨.str "", ⟨empty_ok, rfl⟩, .inl rfl, fun _ z => nomatch z⟩
   ·exact ⟨.none, rfl, .inl rfl, fun _ z => nomatch z⟩
   ·exact ⟨.bool false, rfl, .inl rfl, fun _ z => nomatch z⟩
   ·exact ⟨.tuple [], .inr ⟨[], [], y15 _ _ f0, rfl, .nil⟩, .inl rfl, fun _ z => nomatch z⟩
   ·exact ⟨.tuple es, .inr ⟨ws, es, y25 _ _ f1, rfl, L2.Paired.mapP prw fun _ _ h => PD.mono (PD.same s3G h) 2⟩, .inl rfl, fun _ z => nomatch z⟩
   ·exact ⟨.tuple ps, .inr ⟨us, ps, y35 _ _ f2, rfl, L2.Paired.mapP prp fun _ _ h => PD.mono (PD.same s3G h) 1⟩, .inl rfl, fun _ z => nomatch z⟩
   ·refine ⟨.list [.tuple [], .tuple []], .inl ⟨_, _, f5, rfl, .cons (.inr ⟨[], [], y45 _ _ f3, rfl, .nil⟩) (.cons (.inr ⟨[], [], y5 _ _ f4, rfl, .nil⟩) .nil)⟩, .inr ⟨[], [.tuple []], rfl, fun y hy => ⟨[], List.mem_singleton.mp hy⟩⟩, fun e z => ?_⟩
    cases z
    show 2 ≤ 1000
    decide
  have lo : ([.int 0, .str "", .non, .bl false, .ref t0, .ref t1, .ref t2, .ref t5] : List V).length ≤ 100 := by show 8 ≤ 100; decide
  generalize ([.int 0, .str "", .non, .bl false, .ref t0, .ref t1, .ref t2, .ref t5] : List V) = odds at y6 f6 hodd lo
  refine ⟨fun σ' H' => ∃ odds : List V, σ' = [some (.ref p), some (.ref pa), some (.ref ta), some (.int c), some (.str a), some (.str b), some (.ref d1), some (.int k), some (.ref wl), some (.ref pl), some (.bl ch), some (.bl de), some (.ref ct), some cv, some (.ref ol), none, none, none, none, none] ∧ Same G5 H' ∧ H' ol = some (.lst odds) ∧ ∀ u ∈ odds, ∃ du, PD H' 5 u du ∧ OddB du ∧ LenD du, ?_, ?_⟩
  ·have skip : ∀ {H' : Hp}, Same G6 H' → ∀ u ∈ odds, ∃ du, PD H' 5 u du ∧ OddB du ∧ LenD du := fun {H'} z u hu => by
    obtain ⟨du, h1, h2, h3⟩ := hodd u hu
    exact ⟨du, h1.same (y6.trans z), h2, h3⟩
   refine ⟨_, rfl, by decide, fun ee hee => ⟨5, _, _, by decide, ((pdw.same (s3G.trans (y6.upd (o := .lst []) hee))).mono 2).rd, rd_nil2 upd_same, _, rfl, ?_⟩⟩
   have y7 := Same.new (o := .lst []) hee
   generalize upd G6 ee (.lst []) = G7 at y7
   show if (if true = true then !PyData.eqv (.list es) (.list []) else _) = true then _ else _
   rw [if_pos rfl, eqv_nil]
   cases hes0 : es with
   | nil => exact iteF ⟨odds, rfl, y6.trans y7, y7 _ _ f6, skip y7⟩
   | cons e0 er =>
    have hne : 1 ≤ ws.length := by rw [hwe, hes0, List.length_cons]; omega
    have f7 := y7 _ _ f6
    have y57 := y6.trans y7
    refine iteT ⟨_, rfl, .inl ⟨rfl, _, SqL.of f7⟩, _, rfl, wl, rfl, ⟨_, SqL.of (y57 _ _ (s3G _ _ ewl3))⟩, comp_list (K := K) (ys := ws) (fun i acc σ' H' => Same G7 H' ∧ acc.length = i ∧ (∀ v ∈ acc, TupB (Wo H' ol) v) ∧ ∃ o, σ' = [o])
     ⟨Same.refl _, rfl, fun _ h => (nomatch h), none, rfl⟩ (fun i acc σ' H' h => by omega) (line _ (by omega)) (fun i acc σ' H' _ h => SqL.of (h.1 _ _ (y57 _ _ (s3G _ _ ewl3)))) (fun i x acc σ' H' hx h => ?_) (fun acc σ' H' h r hr' => ?_)⟩
    ·obtain ⟨s9, hl, hT, o, rfl⟩ := h
     have sW : Same H2 (Wo H' ol) := (s3.trans s3G).trans (Wo.free (y57.trans s9) hol)
     refine ⟨_, rfl, ?_⟩
     rcases hwB x (List.mem_of_getElem? hx) with ⟨la, ys, rfl, ela, hl3, hB⟩ | rfl
     ·refine .inl ⟨la, ys, rfl, SqL.of ((s3.trans (s3G.trans (y57.trans s9))) _ _ ela), fun t ht => ?_⟩
      have n10 := Same.new (o := .tup ys) ht
      have nt : t ≠ ol := fun z => by rw [z, s9 _ _ f7] at ht; cases ht
      refine ⟨s9.trans n10, by rw [List.length_append, hl]; rfl, fun v hv => ?_, _, rfl⟩
      rcases List.mem_append.mp hv with hv | hv
      ·exact (hT v hv).same (Wo.mono n10 ol)
      ·rw [List.mem_singleton.mp hv]
       obtain ⟨dr, pr', _⟩ := allB_pair fun y hy => (hB y hy).same (sW.trans (Wo.mono n10 ol))
       exact ⟨t, ys, dr, rfl, by rw [Wo.eq nt]; exact upd_same, pr'⟩
     ·refine .inr ⟨"odd", rfl, by decide +kernel, fun t ht => ?_⟩
      have n10 := Same.new (o := .tup (signsV "odd")) ht
      have nt : t ≠ ol := fun z => by rw [z, s9 _ _ f7] at ht; cases ht
      refine ⟨s9.trans n10, by rw [List.length_append, hl]; rfl, fun v hv => ?_, _, rfl⟩
      rcases List.mem_append.mp hv with hv | hv
      ·exact (hT v hv).same (Wo.mono n10 ol)
      ·rw [List.mem_singleton.mp hv]
       exact ⟨t, _, [.str "o", .str "d", .str "d"], rfl, by rw [Wo.eq nt]; exact upd_same, by rw [signs_odd]; exact .cons ⟨o_ok, rfl⟩ (.cons ⟨d_ok, rfl⟩ (.cons ⟨d_ok, rfl⟩ .nil))⟩
    ·obtain ⟨s9, hl, hT, o, rfl⟩ := h
     have n10 := Same.new (o := .lst acc) hr'
     have nr : r ≠ ol := fun z => by rw [z, s9 _ _ f7] at hr'; cases hr'
     have er10 : (upd H' r (.lst acc)) r = some (.lst acc) := upd_same
     have hT10 : ∀ v ∈ acc, TupB (Wo (upd H' r (.lst acc)) ol) v := fun v hv => (hT v hv).same (Wo.mono n10 ol)
     generalize upd H' r (.lst acc) = H10 at n10 er10 hT10
     have y10 := s9.trans n10
     refine ⟨ol, _, _, rfl, rfl, y10 _ _ f7, small1000 (by omega), odds ++ [.ref r], rfl, fun b0 ob w0 => ?_, upd_same, fun u hu => ?_⟩
     ·rw [upd_ne (ne_of_none w0 hol)]
      exact y10 _ _ (y57 _ _ w0)
     ·have sU : Same (Wo H10 ol) (upd H10 ol (.lst (odds ++ [.ref r]))) := Wo.upd_.trans Wo.in_
      rcases List.mem_append.mp hu with hu | hu
      ·obtain ⟨du, h1, h2, h3⟩ := hodd u hu
       exact ⟨du, h1.same ((Wo.free (y57.trans y10) hol).trans sU), h2, h3⟩
      ·rw [List.mem_singleton.mp hu]
       obtain ⟨td, tp, htd⟩ := tupB_pair hT10
       have ltd : acc.length = td.length := Paired.length tp
       cases td with
       | nil => rw [List.length_nil] at ltd; omega
       | cons x0 xr =>
        obtain ⟨z0, rfl⟩ := htd x0 List.mem_cons_self
        have p3 : PD (Wo H10 ol) 3 (.ref r) (.list (.tuple z0 :: xr)) := .inl ⟨acc, _, by rw [Wo.eq nr]; exact er10, rfl, tp⟩
        refine ⟨.list (.tuple z0 :: xr), (p3.mono 2).same sU, .inr ⟨z0, xr, rfl, fun y hy => htd y (List.mem_cons_of_mem _ hy)⟩, fun e z => ?_⟩
        cases z
        omega
  rintro σ7 H9 ⟨odds2, rfl, s9, ol9, hodd9⟩
  have s39 := s3G.trans s9
  have hcC : ∀ r ∈ S.ti, -(10 ^ 52) ≤ r.c ∧ r.c ≤ 10 ^ 52 := g.okC
  have N3 : ∀ {H' : Hp}, Same H3 H' → NetS C H' p ds dl S := fun z => N0.same ((s1.trans (s2.trans s3)).trans z)
  have c39 : CoAt H9 ct a b k := (z7.trans (s8.trans (y05.trans s9))) _ _ ect
  refine ⟨fun σ' H' => (∃ o15 o16, σ' = [some (.ref p), some (.ref pa), some (.ref ta), some (.int c), some (.str a), some (.str b), some (.ref d1), some (.int k), some (.ref wl), some (.ref pl), some (.bl ch), some (.bl de), some (.ref ct), some cv, some (.ref ol), o15, o16, none, none, none]) ∧ Same H9 H', ?_, ?_⟩
  ·refine ⟨_, rfl, ol, rfl, ⟨_, SqL.of ol9⟩, for_list (K := K) (a := ol) (xs := odds2) (fun i σ' H' => (∃ o15 o16, σ' = [some (.ref p), some (.ref pa), some (.ref ta), some (.int c), some (.str a), some (.str b), some (.ref d1), some (.int k), some (.ref wl), some (.ref pl), some (.bl ch), some (.bl de), some (.ref ct), some cv, some (.ref ol), o15, o16, none, none, none]) ∧ Same H9 H')
    ⟨⟨_, _, rfl⟩, Same.refl _⟩ (fun i σ' H' _ h => SqL.of (h.2 _ _ ol9)) (fun i u σ' H' hx h => ?_) (fun σ' H' h => h)⟩
   obtain ⟨⟨o15, o16, rfl⟩, t3⟩ := h
   obtain ⟨du, pu, od, odl⟩ := hodd9 u (List.mem_of_getElem? hx)
   refine ⟨(by show 2 ≤ sizeLine; decide), fun bb hbb => ?_⟩
   have x1 := Same.new (o := .lst [.bl true, .bl false]) hbb
   have g1 : (upd H' bb (.lst [.bl true, .bl false])) bb = some (.lst [.bl true, .bl false]) := upd_same
   generalize upd H' bb (.lst [.bl true, .bl false]) = F1 at x1 g1
   have hbs : ∀ v ∈ ([.bl true, .bl false] : List V), ∃ so, v = .bl so := fun v hv => by
    simp only [List.mem_cons, List.not_mem_nil, or_false] at hv
    rcases hv with rfl | rfl <;> exact ⟨_, rfl⟩
   generalize ([.bl true, .bl false] : List V) = bs at g1 hbs
   refine ⟨bb, rfl, ⟨_, SqL.of g1⟩, for_list (K := K) (a := bb) (xs := bs) (fun i σ' H' => (∃ o16, σ' = [some (.ref p), some (.ref pa), some (.ref ta), some (.int c), some (.str a), some (.str b), some (.ref d1), some (.int k), some (.ref wl), some (.ref pl), some (.bl ch), some (.bl de), some (.ref ct), some cv, some (.ref ol), some u, o16, none, none, none]) ∧ Same F1 H')
    ⟨⟨_, rfl⟩, Same.refl _⟩ (fun i σ' H' _ h => SqL.of (h.2 _ _ g1)) (fun i v σ' H' hx' h => ?_) (fun σ' H' h => ?_)⟩
   ·obtain ⟨⟨o16, rfl⟩, t4⟩ := h
    obtain ⟨so, rfl⟩ := hbs v (List.mem_of_getElem? hx')
    have b1 := t3.trans (x1.trans t4)
    refine ⟨_, rfl, _, rfl, _, rfl, _, rfl, p, ds, dl, ct, S, a, b, k, so, u, 5, du, rfl, N3 (s39.trans b1), hcC, b1 _ _ c39, ha, pu.same b1, by decide, odd_strOk od odl, odd_pairLen od, fun H17 s17 => ⟨_, _, rfl, rfl, _, rfl, ?_⟩⟩
    rw [odd_look od]
    exact iteF ⟨⟨_, rfl⟩, t4.trans s17⟩
   ·obtain ⟨⟨o16, rfl⟩, t4⟩ := h
    exact ⟨⟨_, _, rfl⟩, t3.trans (x1.trans t4)⟩
  rintro σ8 H10 ⟨⟨o15, o16, rfl⟩, s10⟩
  have s310 := s39.trans s10
  refine ⟨_, rfl, _, rfl, _, rfl, p, ds, dl, ct, S, a, b, k, true, .ref wl, 3, .list es, rfl, N3 s310, hcC, s10 _ _ c39, ha, pdw.same s310, by decide, smw.strOk, smw.pairLen, fun H11 s11 => ?_⟩
  have s311 := s310.trans s11
  refine ⟨_, rfl, _, rfl, _, rfl, p, ds, dl, ct, S, a, b, k, false, .ref pl, 4, .list ps, rfl, N3 s311, hcC, (s10.trans s11) _ _ c39, ha, pdp.same s311, by decide, smp.strOk, smp.pairLen, fun H12 s12 => ?_⟩
  have s312 := s311.trans s12
  have e1 : lookC S a b k true (.list es) = ch := hch
  have e2 : lookC S a b k false (.list ps) = de := hde
  rw [e1, e2]
  refine ⟨(by show 2 ≤ sizeLine; decide), fun tt htt => ?_⟩
  have z13 := Same.new (o := .tup [.bl ch, .bl de]) htt
  have ett : (upd H12 tt (.tup [.bl ch, .bl de])) tt = some (.tup [.bl ch, .bl de]) := upd_same
  generalize upd H12 tt (.tup [.bl ch, .bl de]) = H13 at z13 ett
  have s313 := s312.trans z13
  refine ⟨fun σ' H' => σ' = [some (.ref p), some (.ref pa), some (.ref ta), some (.int c), some (.str a), some (.str b), some (.ref d1), some (.int k), some (.ref wl), some (.ref pl), some (.bl ch), some (.bl de), some (.ref ct), some cv, some (.ref ol), o15, o16, some (.ref tt), none, none] ∧ Same H13 H', ?_, ?_⟩
  ·refine ⟨_, rfl, tt, _, _, .bl ch, rfl, rfl, SqT.of ett, rfl, .bl ch, "bool", _, true, rfl, .bl _, rfl, _, rfl, iteF ?_⟩
   refine ⟨_, rfl, tt, _, _, .bl de, rfl, rfl, SqT.of ett, rfl, .bl de, "bool", _, true, rfl, .bl _, rfl, _, rfl, iteF ?_⟩
   refine ⟨_, rfl, _, rfl, _, rfl, (by show 2 ≤ sizeLine; decide), fun t6 ht6 => ?_⟩
   have z14 := Same.new (o := .tup [.bl ch, .bl de]) ht6
   have et6 : (upd H13 t6 (.tup [.bl ch, .bl de])) t6 = some (.tup [.bl ch, .bl de]) := upd_same
   generalize upd H13 t6 (.tup [.bl ch, .bl de]) = H14 at z14 et6
   have pa1 : PD H14 2 (.ref tt) (.tuple [.bool ch, .bool de]) := .inr ⟨_, _, z14 _ _ ett, rfl, .cons rfl (.cons rfl .nil)⟩
   have pa2 : PD H14 2 (.ref t6) (.tuple [.bool ch, .bool de]) := .inr ⟨_, _, et6, rfl, .cons rfl (.cons rfl .nil)⟩
   refine ⟨2, _, _, by decide, pa1.rd, pa2.rd, _, rfl, ?_⟩
   show if (if true = true then !PyData.eqv (.tuple [.bool ch, .bool de]) (.tuple [.bool ch, .bool de]) else _) = true then _ else _
   rw [if_pos rfl, pd_refl pa1]
   exact iteF ⟨rfl, z14⟩
  rintro σ9 H14 ⟨rfl, s14⟩
  have s314 := s313.trans s14
  refine ⟨_, rfl, _, rfl, _, rfl, _, rfl, _, rfl, pa, ta, a, b, k, S, rfl, PA3.same s314, g, ha, hb, fun t H15 s15 ht hf => ?_⟩
  have s315 := s314.trans s15
  have hcht : ch = true → t = true := fun z => ht _ (hch.trans z)
  have hdet : de = true → t = false := fun z => hf _ (hde.trans z)
  refine ⟨fun σ' H' => σ' = [some (.ref p), some (.ref pa), some (.ref ta), some (.int c), some (.str a), some (.str b), some (.ref d1), some (.int k), some (.ref wl), some (.ref pl), some (.bl ch), some (.bl de), some (.ref ct), some cv, some (.ref ol), o15, o16, some (.ref tt), some (.bl t), none] ∧ Same H15 H', ?_, ?_⟩
  ·clear hch hde e1 e2
   cases ch with
   | false =>
    refine ⟨_, rfl, _, rfl, iteF (iteF ?_)⟩
    cases de with
    | false => exact ⟨_, rfl, _, rfl, iteF (iteF ⟨rfl, Same.refl _⟩)⟩
    | true =>
     cases hdet rfl
     exact ⟨_, rfl, _, rfl, iteT ⟨_, rfl, _, rfl, iteF ⟨rfl, Same.refl _⟩⟩⟩
   | true =>
    cases hcht rfl
    cases de with
    | false => exact ⟨_, rfl, _, rfl, iteT ⟨_, rfl, _, rfl, iteF ⟨_, rfl, _, rfl, iteF (iteF ⟨rfl, Same.refl _⟩)⟩⟩⟩
    | true => cases hdet rfl
  rintro σ10 H16 ⟨rfl, s16⟩
  have s316 := s315.trans s16
  refine ⟨fun σ' H' => (∃ o19, σ' = [some (.ref p), some (.ref pa), some (.ref ta), some (.int c), some (.str a), some (.str b), some (.ref d1), some (.int k), some (.ref wl), some (.ref pl), some (.bl ch), some (.bl de), some (.ref ct), some cv, some (.ref ol), o15, o16, some (.ref tt), some (.bl t), o19]) ∧ Same H16 H', ?_, ?_⟩
  ·refine ⟨_, rfl, _, rfl, by decide, fun nl hnl => ?_⟩
   have x0 := Same.new (o := .lst []) hnl
   have g0 : (upd H16 nl (.lst [])) nl = some (.lst []) := upd_same
   generalize upd H16 nl (.lst []) = F0 at x0 g0
   refine ⟨(by show 5 ≤ sizeLine; decide), fun ll hll => ?_⟩
   have x1 := Same.new (o := .lst [.ref wl, .ref pl, .ref nl, .int 5, .str "so"]) hll
   have g1 : (upd F0 ll (.lst [.ref wl, .ref pl, .ref nl, .int 5, .str "so"])) ll = some (.lst [.ref wl, .ref pl, .ref nl, .int 5, .str "so"]) := upd_same
   generalize upd F0 ll (.lst [.ref wl, .ref pl, .ref nl, .int 5, .str "so"]) = F1 at x1 g1
   have x01 := x0.trans x1
   have s3F := s316.trans x01
   have hpp : ∀ v ∈ ([.ref wl, .ref pl, .ref nl, .int 5, .str "so"] : List V), ∃ d, PD F1 5 v d ∧ SmD 5 d := fun v hv => by
    simp only [List.mem_cons, List.not_mem_nil, or_false] at hv
    rcases hv with rfl | rfl | rfl | rfl | rfl
    ·exact ⟨_, (pdw.same s3F).mono 2, smw.up.up⟩
    ·exact ⟨_, (pdp.same s3F).mono 1, smp.up⟩
    ·exact ⟨.list [], .inl ⟨[], [], x1 _ _ g0, rfl, .nil⟩, by show 0 ≤ 1000; decide, fun _ h => (nomatch h)⟩
    ·exact ⟨.int 5, rfl, by show (5 : Int).natAbs ≤ 10 ^ 100; decide⟩
    ·exact ⟨.str "so", ⟨so_ok, rfl⟩, True.intro⟩
   generalize ([.ref wl, .ref pl, .ref nl, .int 5, .str "so"] : List V) = papers at g1 hpp
   refine ⟨ll, rfl, ⟨_, SqL.of g1⟩, for_list (K := K) (a := ll) (xs := papers) (fun i σ' H' => (∃ o19, σ' = [some (.ref p), some (.ref pa), some (.ref ta), some (.int c), some (.str a), some (.str b), some (.ref d1), some (.int k), some (.ref wl), some (.ref pl), some (.bl ch), some (.bl de), some (.ref ct), some cv, some (.ref ol), o15, o16, some (.ref tt), some (.bl t), o19]) ∧ Same F1 H')
    ⟨⟨_, rfl⟩, Same.refl _⟩ (fun i σ' H' _ h => SqL.of (h.2 _ _ g1)) (fun i v σ' H' hx' h => ?_) (fun σ' H' h => ?_)⟩
   ·obtain ⟨⟨o19, rfl⟩, t4⟩ := h
    obtain ⟨d, pd, sm⟩ := hpp v (List.mem_of_getElem? hx')
    have s3H := s3F.trans t4
    have c3H : CoAt H' ct a b k := (s10.trans (s11.trans (s12.trans (z13.trans (s14.trans (s15.trans (s16.trans (x01.trans t4)))))))) _ _ c39
    refine ⟨fun σ'' H'' => σ'' = [some (.ref p), some (.ref pa), some (.ref ta), some (.int c), some (.str a), some (.str b), some (.ref d1), some (.int k), some (.ref wl), some (.ref pl), some (.bl ch), some (.bl de), some (.ref ct), some cv, some (.ref ol), o15, o16, some (.ref tt), some (.bl t), some v] ∧ Same H' H'', ?_, ?_⟩
    ·refine ⟨_, rfl, _, rfl, _, rfl, p, ds, dl, ct, S, a, b, k, false, v, 5, d, rfl, N3 s3H, hcC, c3H, ha, pd.same t4, by decide, sm.strOk, sm.pairLen, fun H17 s17 => ⟨_, _, rfl, rfl, ?_⟩⟩
     cases hl : lookC S a b k false d with
     | false => exact ⟨_, rfl, iteF (iteF ⟨rfl, s17⟩)⟩
     | true =>
      cases hf d hl
      exact ⟨_, rfl, iteT ⟨_, rfl, _, rfl, iteF ⟨rfl, s17⟩⟩⟩
    rintro σ12 H17 ⟨rfl, s17⟩
    refine ⟨_, rfl, _, rfl, _, rfl, p, ds, dl, ct, S, a, b, k, true, v, 5, d, rfl, N3 (s3H.trans s17), hcC, s17 _ _ c3H, ha, pd.same (t4.trans s17), by decide, sm.strOk, sm.pairLen, fun H18 s18 => ⟨_, _, rfl, rfl, ?_⟩⟩
    cases hl : lookC S a b k true d with
    | false => exact ⟨_, rfl, iteF (iteF ⟨⟨_, rfl⟩, t4.trans (s17.trans s18)⟩)⟩
    | true =>
     cases ht d hl
     exact ⟨_, rfl, iteT ⟨_, rfl, _, rfl, iteF ⟨⟨_, rfl⟩, t4.trans (s17.trans s18)⟩⟩⟩
   ·obtain ⟨⟨o19, rfl⟩, t4⟩ := h
    exact ⟨⟨_, rfl⟩, x01.trans t4⟩
  rintro σ11 H17 ⟨⟨o19, rfl⟩, s17⟩
  have s317 := s316.trans s17
  refine ⟨_, rfl, _, rfl, (by show 2 ≤ sizeLine; decide), fun bl hbl => ?_⟩
  have z18 := Same.new (o := .lst [.ref wl, .ref pl]) hbl
  have ebl : (upd H17 bl (.lst [.ref wl, .ref pl])) bl = some (.lst [.ref wl, .ref pl]) := upd_same
  generalize upd H17 bl (.lst [.ref wl, .ref pl]) = H18 at z18 ebl
  have s818 : Same H8 H18 := y05.trans (s9.trans (s10.trans (s11.trans (s12.trans (z13.trans (s14.trans (s15.trans (s16.trans (s17.trans z18)))))))))
  have pb := both (s317.trans z18) ebl
  refine ⟨_, rfl, 5, _, _, by decide, pb.rd, (pcv.same s818).rd, ?_⟩
  show Q (.bl (if false = true then _ else PyData.eqv (.list [.list es, .list ps]) (.list [.list es, .list ps]))) _
  rw [if_neg Bool.false_ne_true, pd_refl pb]
  exact q _ ((s1.trans (s2.trans s3)).trans (s317.trans z18))
end
end Net
namespace Net
open PySem L2
def spLaw (K : PySem.W.Frag) : Sp := fun vs H Q _ => ∃ (a : Addr) (ns : List Int), vs = [.ref a] ∧ SqL K H a (ns.map V.int) ∧ ns.length ≤ 63 ∧ ∀ H', Q (.bl true) H'
section
variable {P : Program} {w : World} {K : PySem.W.Frag} {mg : Str → Option Value} {base : Heap} {C : Addr}
abbrev Nlaw32 : List Str := ["_law_script", "_law_places", "_law_ties", "_law_net_here", "_law_cell"]
theorem sc_law32 : FnScope Nlaw32 ["_law_script"] (defScope s_law) := ⟨rfl, rfl, rfl, by decide +kernel, rfl, by decide +kernel, by decide +kernel⟩
theorem ok_law32 {f : Addr} {fd : FuncData} (F : Fun K "law" "law" s_law f fd) (T : Txt K mg C) (cc : Can P w K mg base 1 "_law_cell_at" ["_law_script", "_law_k"] (spCellD K)) (cp : Can P w K mg base 2 "_law_parts" ["_law_script"] (spParts K)) (cn : Can P w K mg base 5 "_law_net" ["_law_places", "_law_ties"] (spLNet C))
  (cco : Can P w K mg base 2 "_law_costs" ["_law_script", "_law_ties"] (spCosts K)) (co : Can P w K mg base 8 "_law_one" ["_law_net_here", "_law_places", "_law_ties", "_law_cell"] (spOne32 C)) (m1 : CanM P w K mg base 1 C "places" ["self"] (spPlaces C)) (m2 : CanM P w K mg base 1 C "ties" ["self"] (spTies C)) :
  FnOk P w K mg base CX0 9 f fd ["_law_script"] (spLaw K) := by
 refine F.ok sc_law32 (fun vs H Q E h => ?_) (fun cdv A outer s H vs Q E hr h => ?_)
 ·obtain ⟨a, ns, rfl, _⟩ := h
  rfl
 ·obtain ⟨a, ns, rfl, hS, hlen, q⟩ := h
  have hu := hr.units
  have r1 : Room 1 _ := hr.mono (by decide)
  have r2 : Room 2 _ := hr.mono (by decide)
  have r5 : Room 5 _ := hr.mono (by decide)
  refine ⟨_, (pss_cons (ps_asg (pe_callC cp r2 (by rfl) (pa_cons (pv 0) pa_nil)) (pg_tup rfl (pgs_cons (pg_name (i := 1) sc_law32.nd rfl (Or.inl rfl)) (pgs_cons (pg_name (i := 2) sc_law32.nd rfl (Or.inl rfl)) pgs_nil))))
   (pss_cons (ps_set (i := 2) sc_law32.nd rfl (Or.inl rfl) (pe_callC cco r2 (by rfl) (pa_cons (pv 0) (pa_cons (pv 2) pa_nil))))
   (pss_cons (ps_set (i := 3) sc_law32.nd rfl (Or.inl rfl) (pe_callC cn r5 (by rfl) (pa_cons (pv 1) (pa_cons (pv 2) pa_nil))))
   (pss_cons (ps_for PassesOwn.never rfl (pi_list (pe_op op_cat (pe_slice sl_list (pv 0) (po_some pe_int) (po_some pe_int)) (pe_lst (pa_cons (pe_callC cc r1 (by rfl) (pa_cons (pv 0) (pa_cons pe_int pa_nil))) (pa_cons (pe_callC cc r1 (by rfl) (pa_cons (pv 0) (pa_cons pe_int pa_nil))) pa_nil))))) (pg_name (i := 4) sc_law32.nd rfl (Or.inl rfl))
    (pss_one (ps_if (pt_not (pt_val (pe_callC co hr (by rfl) (pa_cons (pv 3) (pa_cons (pv 1) (pa_cons (pv 2) (pa_cons (pv 4) pa_nil))))))) (pss_one (ps_ret pe_bl)) pss_nil)))
   (pss_one (ps_ret (pe_and (pe_cmpR (op_eqD hu) (pe_methC0 (pv 3) T.cl m1 r1) (pv 1) (nomark _)) (pe_one (pe_cmpR (op_eqD hu) (pe_methC0 (pv 3) T.cl m2 r1) (pv 2) (nomark _)))))))))), ?_⟩
  refine ⟨_, rfl, a, ns, rfl, hS, fun t pa ta0 S0 H0 s0 et PA0 g0 hc0 => ?_⟩
  refine ⟨t, _, rfl, SqT.of et, rfl, _, _, rfl, _, _, rfl, rfl, ?_⟩
  refine ⟨_, rfl, _, rfl, a, pa, ta0, S0, ns, rfl, s0.seq hS, PA0, g0, hc0, fun ta S H1 s01 PA g _ => ?_⟩
  have s1 := s0.trans s01
  refine ⟨_, rfl, _, rfl, pa, ta, S, rfl, PA, g, fun x ds dl H2 s2 N => ?_⟩
  have PA2 := PA.same s2
  have nets : ∀ {H' : Hp}, Same H2 H' → NetS C H' x ds dl S := fun s => ⟨N.same s, g.ndT, Nat.le_trans g.lenT (by decide), Nat.le_trans g.lenP (by decide), g.ndP, g.okP, g.okT⟩
  have s12 := s1.trans s2
  refine ⟨_, rfl, _, rfl, _, rfl, a, _, rfl, s12.seq hS, fun x1 h1 => ?_⟩
  have z1 := Same.new (o := .lst (cutV (ns.map V.int) (some 14) (some 45))) h1
  have f1 : (upd H2 x1 (.lst (cutV (ns.map V.int) (some 14) (some 45)))) x1 = some (.lst (cutV (ns.map V.int) (some 14) (some 45))) := upd_same
  have clen := cut_len (ns.map V.int) (a := 14) (b := 45) (by decide)
  have cint := cut_ints (ns := ns) (a := some 14) (b := some 45)
  have clen' : (cutV (ns.map V.int) (some 14) (some 45)).length ≤ 45 - 14 := clen
  generalize cutV (ns.map V.int) (some 14) (some 45) = cells at z1 f1 clen' cint
  generalize upd H2 x1 (.lst cells) = H3 at z1 f1
  refine ⟨_, rfl, a, ns, 0, rfl, (s12.trans z1).seq hS, by decide, _, rfl, a, ns, 3, rfl, (s12.trans z1).seq hS, by decide, (by show 2 ≤ sizeLine; decide), fun x2 h2 => ?_⟩
  have z2 := Same.new (o := .lst [.int (cellD ns 0), .int (cellD ns 3)]) h2
  have f2 : (upd H3 x2 (.lst [.int (cellD ns 0), .int (cellD ns 3)])) x2 = some (.lst [.int (cellD ns 0), .int (cellD ns 3)]) := upd_same
  generalize upd H3 x2 (.lst [.int (cellD ns 0), .int (cellD ns 3)]) = H4 at z2 f2
  refine ⟨x1, x2, _, _, rfl, rfl, z2 _ _ f1, f2, ?_, fun sc hsc => ⟨sc, rfl, ⟨_, SqL.of upd_same⟩, ?_⟩⟩
  ·show cells.length + 2 ≤ sizeLine
   exact Nat.le_trans (show cells.length + 2 ≤ 100 by omega) (by decide)
  have cint2 : ∀ v ∈ cells ++ [.int (cellD ns 0), .int (cellD ns 3)], ∃ i, v = V.int i := fun v hv => by
   rcases List.mem_append.mp hv with hv | hv
   ·exact cint v hv
   ·simp only [List.mem_cons, List.not_mem_nil, or_false] at hv
    rcases hv with rfl | rfl <;> exact ⟨_, rfl⟩
  have z3 := Same.new (o := .lst (cells ++ [.int (cellD ns 0), .int (cellD ns 3)])) hsc
  have f3 : (upd H4 sc (.lst (cells ++ [.int (cellD ns 0), .int (cellD ns 3)]))) sc = some (.lst (cells ++ [.int (cellD ns 0), .int (cellD ns 3)])) := upd_same
  generalize cells ++ [.int (cellD ns 0), .int (cellD ns 3)] = all at cint2 z3 f3
  generalize upd H4 sc (.lst all) = H5 at z3 f3
  have s25 := z1.trans (z2.trans z3)
  refine for_list (K := K) (a := sc) (xs := all) (fun i σ' H' => (∃ o4, σ' = [some (.ref a), some (.ref pa), some (.ref ta), some (.ref x), o4]) ∧ Same H5 H')
   ⟨⟨_, rfl⟩, Same.refl _⟩ (fun i σ' H' _ h => SqL.of (h.2 _ _ f3)) (fun i v σ' H' hv h => ?_) (fun σ' H' h => ?_)
  ·obtain ⟨⟨o4, rfl⟩, t3⟩ := h
   obtain ⟨cell, rfl⟩ := cint2 v (List.mem_of_getElem? hv)
   have s2' := s25.trans t3
   exact ⟨_, rfl, _, rfl, _, rfl, _, rfl, x, ds, dl, pa, ta, S, cell, rfl, nets s2', PA2.same s2', g, fun H6 s6 => ⟨_, rfl, iteF ⟨⟨_, rfl⟩, t3.trans s6⟩⟩⟩
  ·obtain ⟨⟨o4, rfl⟩, t3⟩ := h
   have s23 := s25.trans t3
   have N4 := N.same s23
   obtain ⟨dx, h1'⟩ := N4.ob
   refine ⟨_, rfl, x, dx, _, rfl, h1', flds_no ds dl (by decide +kernel) (by decide +kernel), x, ds, dl, S, rfl, N4, fun pl hpl => ?_⟩
   have s5 := Same.new (o := .lst (S.pl.map V.str)) hpl
   have epl : (upd H' pl (.lst (S.pl.map V.str))) pl = some (.lst (S.pl.map V.str)) := upd_same
   generalize upd H' pl (.lst (S.pl.map V.str)) = H6 at s5 epl
   have PA5 := PA2.same (s23.trans s5)
   have N5 := N4.same s5
   obtain ⟨dx5, h15⟩ := N5.ob
   refine ⟨_, rfl, 2, _, _, by decide, rd_strs epl g.okP, rd_strs PA5.pl g.okP, _, rfl, ?_⟩
   show if (if false = true then !PyData.eqv (.list (S.pl.map PyData.str)) (.list (S.pl.map PyData.str)) else PyData.eqv (.list (S.pl.map PyData.str)) (.list (S.pl.map PyData.str))) = true then _ else _
   rw [if_neg Bool.false_ne_true, lay_strs g.okP]
   refine iteT ?_
   refine ⟨_, rfl, x, dx5, _, rfl, h15, flds_no ds dl (by decide +kernel) (by decide +kernel), x, ds, dl, S, rfl, N5, fun tl H7 L htl s6 RL etl => ?_⟩
   have rok : ∀ r ∈ S.ti, nameB r.nm = true ∧ nameB r.a = true ∧ nameB r.b = true := fun r hr => ⟨(g.okT r hr).1, g.okP _ (g.okT r hr).2.1, g.okP _ (g.okT r hr).2.2⟩
   have PA6 := PA5.same s6
   obtain ⟨L2, RL2, eta⟩ := PA6.ti
   refine ⟨_, rfl, 2, _, _, by decide, rd_rows (RL.same s6) etl rok, rd_rows RL2 eta rok, ?_⟩
   show Q (.bl (if false = true then !PyData.eqv (.list (S.ti.map rowD)) (.list (S.ti.map rowD)) else PyData.eqv (.list (S.ti.map rowD)) (.list (S.ti.map rowD)))) H7
   rw [if_neg Bool.false_ne_true, lay_rows]
   exact q _
end
end Net
namespace Net
open PySem L2
theorem kib1 (K : PySem.W.Frag) : PySem.W.kitOne K (.type "int") (.type "bool") = some false := by
 first | rfl | kernel_rfl
structure Fn (K : PySem.W.Frag) (mg : Str → Option Value) (x : Str) (st : Stmt) : Prop where
 ex : ∃ f fd, Fun K x x st f fd ∧ mg x = some (.ref f)
structure Mt (K : PySem.W.Frag) (C : Addr) (x qual : Str) (st : Stmt) : Prop where
 ex : ∃ f fd, Fun K x qual st f fd ∧ Meth K C x f
theorem fn_mk {K : PySem.W.Frag} {h : Heap} {mg : Str → Option Value} {x : Str} {st : Stmt} {f : Addr} {oc : Value} {od an : Option Addr} {osl : Array (Option Value)} {kV doc pm cdv ct : Value} (X : K.In h) (G : h.Ns mainGlobals mg) (a : PySem.W.nsIn K mainGlobals x = some (some (.ref f)))
  (l : K.lookup f = some ⟨oc, od, .func (PySem.W.fnOf x x (defArgs st) (defBody st) (defScope st) .none kV doc pm an cdv ct), osl⟩) (c : PySem.W.codeIn K cdv x = true) (k : PySem.W.keepIn K (.ref f) = true) : Fn K mg x st :=
 ⟨f, _, fun_mk l c k, PySem.W.mg_of X G a⟩
theorem mt_mk {K : PySem.W.Frag} {C : Addr} {x qual : Str} {st : Stmt} {f : Addr} {oc : Value} {od an : Option Addr} {osl : Array (Option Value)} {kV doc pm cdv ct : Value} (a : PySem.W.findIn K (.ref C) x = some (some (.ref f))) (i : PySem.W.isFn K (.ref f) = true)
  (l : K.lookup f = some ⟨oc, od, .func (PySem.W.fnOf x qual (defArgs st) (defBody st) (defScope st) .none kV doc pm an cdv ct), osl⟩) (c : PySem.W.codeIn K cdv qual = true) (k : PySem.W.keepIn K (.ref f) = true) : Mt K C x qual st :=
 ⟨f, _, fun_mk l c k, a, i, k⟩
section
variable {P : Program} {w : World} {K : PySem.W.Frag} {mg : Str → Option Value} {base : Heap} {C : Addr} {k : Nat} {x qual : Str} {st : Stmt} {ps : List Str} {sp : Sp}
theorem Fn.can (F : Fn K mg x st) (ok : ∀ f fd, Fun K x x st f fd → FnOk P w K mg base CX0 k f fd ps sp)
  (h : ∀ (kV doc pm : Value) (an : Option Addr) (cdv ct : Value) (us : List Value), us.length = ps.length → bindArgs (PySem.W.fnOf x x (defArgs st) (defBody st) (defScope st) .none kV doc pm an cdv ct) ⟨us, []⟩ = pure (ps.zip us)) : Can P w K mg base k x ps sp := by
 obtain ⟨f, fd, G, m⟩ := F.ex
 exact ⟨f, fd, ok f fd G, m, G.kp, G.binds h⟩
theorem Mt.can (F : Mt K C x qual st) (ok : ∀ f fd, Fun K x qual st f fd → FnOk P w K mg base CX0 k f fd ps sp)
  (h : ∀ (kV doc pm : Value) (an : Option Addr) (cdv ct : Value) (us : List Value), us.length = ps.length → bindArgs (PySem.W.fnOf x qual (defArgs st) (defBody st) (defScope st) .none kV doc pm an cdv ct) ⟨us, []⟩ = pure (ps.zip us)) : CanM P w K mg base k C x ps sp := by
 obtain ⟨f, fd, G, m⟩ := F.ex
 exact ⟨f, fd, ok f fd G, m, G.binds h⟩
theorem Mt.canI (F : Mt K C "__init__" qual st) (mk : PySem.W.makesIn K C = true) (kc : PySem.W.keepIn K (.ref C) = true) (ok : ∀ f fd, Fun K "__init__" qual st f fd → FnOk P w K mg base CX0 k f fd ps sp)
  (h : ∀ (kV doc pm : Value) (an : Option Addr) (cdv ct : Value) (us : List Value), us.length = ps.length → bindArgs (PySem.W.fnOf "__init__" qual (defArgs st) (defBody st) (defScope st) .none kV doc pm an cdv ct) ⟨us, []⟩ = pure (ps.zip us)) : CanI P w K mg base k C ps sp := by
 obtain ⟨f, fd, G, m⟩ := F.ex
 exact ⟨f, fd, ok f fd G, ⟨mk, m.at_, m.fn, kc⟩, G.binds h⟩
end
structure All (K : PySem.W.Frag) (mg : Str → Option Value) (C : Addr) : Prop where
 T : Txt K mg C
 mks : PySem.W.makesIn K C = true
 kc : PySem.W.keepIn K (.ref C) = true
 tw : TxtW mg
 ts : TxtS mg
 tm : TxtM mg
 tn : TxtN mg
 an : mg "any" = none
 made : Fn K mg "is_made_of" s_is_made_of
 name : Fn K mg "is_name" s_is_name
 whole : Fn K mg "is_whole" s_is_whole
 rname : Fn K mg "refuse_no_name" s_refuse_no_name
 rwidth : Fn K mg "refuse_no_width" s_refuse_no_width
 rmore : Fn K mg "refuse_more" s_refuse_more
 init : Mt K C "__init__" "Net.__init__" s_Net_init
 place : Mt K C "place" "Net.place" s_Net_place
 tie : Mt K C "tie" "Net.tie" s_Net_tie
 places : Mt K C "places" "Net.places" s_Net_places
 ties : Mt K C "ties" "Net.ties" s_Net_ties
 cell : Fn K mg "_law_cell_at" s_l_cell_at
 isplace : Fn K mg "is_place" s_is_place
 alike : Fn K mg "are_unlike" s_are_unlike
 istie : Fn K mg "is_tie" s_is_tie
 unlike : Fn K mg "are_unlike_places" s_are_unlike_places
 byname : Fn K mg "ties_by_name" s_ties_by_name
 stops : Fn K mg "walk_stops" s_walk_stops
 wend : Fn K mg "walk_end" s_walk_end
 wcost : Fn K mg "walk_cost" s_walk_cost
 isrow : Fn K mg "is_row" s_is_row
 pair : Fn K mg "is_pair" s_is_pair
 prices : Fn K mg "prices_of" s_prices_of
 keep : Fn K mg "ties_keep_prices" s_ties_keep_prices
 above : Fn K mg "is_priced_above" s_is_priced_above
 send : Fn K mg "stretch_end" s_stretch_end
 scost : Fn K mg "shows_cost" s_shows_cost
 snocost : Fn K mg "shows_no_cost" s_shows_no_cost
 look : Fn K mg "look_plain" s_look_plain
 lname : Fn K mg "_law_name" s_l_name
 parts : Fn K mg "_law_parts" s_l_parts
 lnet : Fn K mg "_law_net" s_l_net
 costs : Fn K mg "_law_costs" s_l_costs
 least : Fn K mg "_law_least" s_l_least
 come : Fn K mg "_law_come" s_l_come
 between : Fn K mg "_law_between" s_l_between
 truth : Fn K mg "_law_truth" s_l_truth
 bent : Fn K mg "_law_bent" s_l_bent
 stretch : Fn K mg "_law_stretches" s_l_stretches
 cheap : Fn K mg "_law_is_cheap" s_l_is_cheap
 lprices : Fn K mg "_law_prices" s_l_prices
 dear : Fn K mg "_law_is_dear" s_l_is_dear
 copy : Fn K mg "_law_copy" s_l_copy
 one : Fn K mg "_law_one" s_l_one
theorem law_ok {P : Program} {w : World} {K : PySem.W.Frag} {mg : Str → Option Value} {base : Heap} {C f : Addr} {fd : FuncData} (A : All K mg C) (F : Fun K "law" "law" s_law f fd) : FnOk P w K mg base CX0 9 f fd ["_law_script"] (spLaw K) := by
 have T := A.T
 have made : Can P w K mg base 1 _ _ _ := A.made.can (fun f fd F => ok_made F T) fun _ _ _ _ _ _ us hl => match us, hl with | [_, _], _ => rfl
 have name : Can P w K mg base 2 _ _ _ := A.name.can (fun f fd F => ok_name F T made) fun _ _ _ _ _ _ us hl => match us, hl with | [_], _ => rfl
 have whole : Can P w K mg base 1 _ _ _ := A.whole.can (fun f fd F => ok_whole F T) fun _ _ _ _ _ _ us hl => match us, hl with | [_], _ => rfl
 have rname : Can P w K mg base 3 _ _ _ := A.rname.can (fun f fd F => ok_refName F T name) fun _ _ _ _ _ _ us hl => match us, hl with | [_], _ => rfl
 have rwidth : Can P w K mg base 2 _ _ _ := A.rwidth.can (fun f fd F => ok_refWidth F T whole) fun _ _ _ _ _ _ us hl => match us, hl with | [_], _ => rfl
 have rmore : Can P w K mg base 1 _ _ _ := A.rmore.can (fun f fd F => ok_refMore F T) fun _ _ _ _ _ _ us hl => match us, hl with | [_, _], _ => rfl
 have init : CanI P w K mg base 1 C _ _ := A.init.canI A.mks A.kc (fun f fd F => ok_init F T) fun _ _ _ _ _ _ us hl => match us, hl with | [_], _ => rfl
 have place : CanM P w K mg base 4 C _ _ _ := A.place.can (fun f fd F => ok_place F T rname rmore) fun _ _ _ _ _ _ us hl => match us, hl with | [_, _], _ => rfl
 have tie : CanM P w K mg base 4 C _ _ _ := A.tie.can (fun f fd F => ok_tie F T rname rwidth rmore) fun _ _ _ _ _ _ us hl => match us, hl with | [_, _, _, _, _, _], _ => rfl
 have places : CanM P w K mg base 1 C _ _ _ := A.places.can (fun f fd F => ok_places F T) fun _ _ _ _ _ _ us hl => match us, hl with | [_], _ => rfl
 have ties : CanM P w K mg base 1 C _ _ _ := A.ties.can (fun f fd F => ok_ties F T) fun _ _ _ _ _ _ us hl => match us, hl with | [_], _ => rfl
 have cell : Can P w K mg base 1 _ _ _ := A.cell.can (fun f fd F => ok_cellD F T) fun _ _ _ _ _ _ us hl => match us, hl with | [_, _], _ => rfl
 have isplace : Can P w K mg base 2 _ _ _ := A.isplace.can (fun f fd F => ok_isPlace F T places) fun _ _ _ _ _ _ us hl => match us, hl with | [_, _], _ => rfl
 have isplaceD : Can P w K mg base 2 _ _ _ := A.isplace.can (fun f fd F => ok_isPlaceD F T places) fun _ _ _ _ _ _ us hl => match us, hl with | [_, _], _ => rfl
 have alike : Can P w K mg base 1 _ _ _ := A.alike.can (fun f fd F => ok_alike F T A.ts) fun _ _ _ _ _ _ us hl => match us, hl with | [_], _ => rfl
 have istie : Can P w K mg base 1 _ _ _ := A.istie.can (fun f fd F => ok_isTie F T) fun _ _ _ _ _ _ us hl => match us, hl with | [_, _], _ => rfl
 have unlike : Can P w K mg base 3 _ _ _ := A.unlike.can (fun f fd F => ok_unlikeD F T A.ts isplaceD alike) fun _ _ _ _ _ _ us hl => match us, hl with | [_, _], _ => rfl
 have byname : Can P w K mg base 2 _ _ _ := A.byname.can (fun f fd F => ok_byName F T A.tw ties) fun _ _ _ _ _ _ us hl => match us, hl with | [_], _ => rfl
 have stops : Can P w K mg base 3 _ _ _ := A.stops.can (fun f fd F => ok_stops F T isplace byname istie) fun _ _ _ _ _ _ us hl => match us, hl with | [_, _, _], _ => rfl
 have wend : Can P w K mg base 4 _ _ _ := A.wend.can (fun f fd F => ok_end F T stops) fun _ _ _ _ _ _ us hl => match us, hl with | [_, _, _], _ => rfl
 have wcost : Can P w K mg base 3 _ _ _ := A.wcost.can (fun f fd F => ok_wcost F T A.tw byname) fun _ _ _ _ _ _ us hl => match us, hl with | [_, _], _ => rfl
 have isrow : Can P w K mg base 1 _ _ _ := A.isrow.can (fun f fd F => ok_isRow F T) fun _ _ _ _ _ _ us hl => match us, hl with | [_, _], _ => rfl
 have pair : Can P w K mg base 2 _ _ _ := A.pair.can (fun f fd F => ok_pairD F isrow) fun _ _ _ _ _ _ us hl => match us, hl with | [_], _ => rfl
 have wholeD : Can P w K mg base 1 _ _ _ := A.whole.can (fun f fd F => ok_wholeD F T) fun _ _ _ _ _ _ us hl => match us, hl with | [_], _ => rfl
 have prices : Can P w K mg base 3 _ _ _ := A.prices.can (fun f fd F => ok_pricesD F T pair isplaceD wholeD) fun _ _ _ _ _ _ us hl => match us, hl with | [_, _], _ => rfl
 have keep : Can P w K mg base 2 _ _ _ := A.keep.can (fun f fd F => ok_keep F T ties) fun _ _ _ _ _ _ us hl => match us, hl with | [_, _, _], _ => rfl
 have above : Can P w K mg base 1 _ _ _ := A.above.can (fun f fd F => ok_above F) fun _ _ _ _ _ _ us hl => match us, hl with | [_, _], _ => rfl
 have send : Can P w K mg base 5 _ _ _ := A.send.can (fun f fd F => ok_send F pair wholeD wend) fun _ _ _ _ _ _ us hl => match us, hl with | [_, _, _], _ => rfl
 have scost : Can P w K mg base 6 _ _ _ := A.scost.can (fun f fd F => ok_scost F T send wcost) fun _ _ _ _ _ _ us hl => match us, hl with | [_, _, _], _ => rfl
 have snocost : Can P w K mg base 4 _ _ _ := A.snocost.can (fun f fd F => ok_snocost F A.an pair prices unlike keep above) fun _ _ _ _ _ _ us hl => match us, hl with | [_, _, _], _ => rfl
 have look : Can P w K mg base 7 _ _ _ := A.look.can (fun f fd F => ok_look32 F scost snocost) fun _ _ _ _ _ _ us hl => match us, hl with | [_, _, _, _], _ => rfl
 have lname : Can P w K mg base 1 _ _ _ := A.lname.can (fun f fd F => ok_lname F T) fun _ _ _ _ _ _ us hl => match us, hl with | [_, _], _ => rfl
 have parts : Can P w K mg base 2 _ _ _ := A.parts.can (fun f fd F => ok_parts F T A.tm cell lname) fun _ _ _ _ _ _ us hl => match us, hl with | [_], _ => rfl
 have lnet : Can P w K mg base 5 _ _ _ := A.lnet.can (fun f fd F => ok_lnet F T init place tie) fun _ _ _ _ _ _ us hl => match us, hl with | [_, _], _ => rfl
 have costs : Can P w K mg base 2 _ _ _ := A.costs.can (fun f fd F => ok_costs F cell) fun _ _ _ _ _ _ us hl => match us, hl with | [_, _], _ => rfl
 have least : Can P w K mg base 1 _ _ _ := A.least.can (fun f fd F => ok_least F T A.tn) fun _ _ _ _ _ _ us hl => match us, hl with | [_, _, _, _], _ => rfl
 have come : Can P w K mg base 1 _ _ _ := A.come.can (fun f fd F => ok_come32 F T) fun _ _ _ _ _ _ us hl => match us, hl with | [_, _, _], _ => rfl
 have between : Can P w K mg base 2 _ _ _ := A.between.can (fun f fd F => ok_between F come) fun _ _ _ _ _ _ us hl => match us, hl with | [_, _, _], _ => rfl
 have truth : Can P w K mg base 3 _ _ _ := A.truth.can (fun f fd F => ok_truth32 F T between least) fun _ _ _ _ _ _ us hl => match us, hl with | [_, _, _, _, _], _ => rfl
 have bent : Can P w K mg base 1 _ _ _ := A.bent.can (fun f fd F => ok_bent32 F T A.tm) fun _ _ _ _ _ _ us hl => match us, hl with | [_, _], _ => rfl
 have stretch : Can P w K mg base 2 _ _ _ := A.stretch.can (fun f fd F => ok_stretch F T bent) fun _ _ _ _ _ _ us hl => match us, hl with | [_, _, _], _ => rfl
 have cheap : Can P w K mg base 1 _ _ _ := A.cheap.can (fun f fd F => ok_cheap F T) fun _ _ _ _ _ _ us hl => match us, hl with | [_, _, _, _, _], _ => rfl
 have lprices : Can P w K mg base 3 _ _ _ := A.lprices.can (fun f fd F => ok_prices32 F T A.tm between least come bent) fun _ _ _ _ _ _ us hl => match us, hl with | [_, _, _, _, _], _ => rfl
 have dear : Can P w K mg base 1 _ _ _ := A.dear.can (fun f fd F => ok_dear32 F T A.tm) fun _ _ _ _ _ _ us hl => match us, hl with | [_, _, _, _, _, _], _ => rfl
 have copy : Can P w K mg base 6 _ _ _ := can_copy A.copy.ex T 5
 have one : Can P w K mg base 8 _ _ _ := A.one.can (fun f fd F => ok_one32 F T least stretch lprices cheap dear copy look truth) fun _ _ _ _ _ _ us hl => match us, hl with | [_, _, _, _], _ => rfl
 exact ok_law32 F T cell parts lnet costs one places ties
end Net
namespace Net
open PySem L2
theorem all_mk {l : PySem.W.OpenLaw} {w : World} {K : PySem.W.Frag} {h : Heap} {mg : Str → Option Value} {fa C : Addr} {f0 : Addr} {od0 an0 : Option Addr} {sl0 : Array (Option Value)} {oc0 kV0 dc0 pm0 cd0 ct0 : Value} {f1 : Addr} {od1 an1 : Option Addr} {sl1 : Array (Option Value)} {oc1 kV1 dc1 pm1 cd1 ct1 : Value} {f2 : Addr} {od2 an2 : Option Addr} {sl2 : Array (Option Value)} {oc2 kV2 dc2 pm2 cd2 ct2 : Value} {f3 : Addr} {od3 an3 : Option Addr} {sl3 : Array (Option Value)} {oc3 kV3 dc3 pm3 cd3 ct3 : Value} {f4 : Addr} {od4 an4 : Option Addr} {sl4 : Array (Option Value)} {oc4 kV4 dc4 pm4 cd4 ct4 : Value} {f5 : Addr} {od5 an5 : Option Addr} {sl5 : Array (Option Value)} {oc5 kV5 dc5 pm5 cd5 ct5 : Value} {f6 : Addr} {od6 an6 : Option Addr} {sl6 : Array (Option Value)} {oc6 kV6 dc6 pm6 cd6 ct6 : Value} {f7 : Addr} {od7 an7 : Option Addr} {sl7 : Array (Option Value)} {oc7 kV7 dc7 pm7 cd7 ct7 : Value} {f8 : Addr} {od8 an8 : Option Addr} {sl8 : Array (Option Value)} {oc8 kV8 dc8 pm8 cd8 ct8 : Value} {f9 : Addr} {od9 an9 : Option Addr} {sl9 : Array (Option Value)} {oc9 kV9 dc9 pm9 cd9 ct9 : Value} {f10 : Addr} {od10 an10 : Option Addr} {sl10 : Array (Option Value)} {oc10 kV10 dc10 pm10 cd10 ct10 : Value} {f11 : Addr} {od11 an11 : Option Addr} {sl11 : Array (Option Value)} {oc11 kV11 dc11 pm11 cd11 ct11 : Value} {f12 : Addr} {od12 an12 : Option Addr} {sl12 : Array (Option Value)} {oc12 kV12 dc12 pm12 cd12 ct12 : Value} {f13 : Addr} {od13 an13 : Option Addr} {sl13 : Array (Option Value)} {oc13 kV13 dc13 pm13 cd13 ct13 : Value} {f14 : Addr} {od14 an14 : Option Addr} {sl14 : Array (Option Value)} {oc14 kV14 dc14 pm14 cd14 ct14 : Value} {f15 : Addr} {od15 an15 : Option Addr} {sl15 : Array (Option Value)} {oc15 kV15 dc15 pm15 cd15 ct15 : Value} {f16 : Addr} {od16 an16 : Option Addr} {sl16 : Array (Option Value)} {oc16 kV16 dc16 pm16 cd16 ct16 : Value} {f17 : Addr} {od17 an17 : Option Addr} {sl17 : Array (Option Value)} {oc17 kV17 dc17 pm17 cd17 ct17 : Value} {f18 : Addr} {od18 an18 : Option Addr} {sl18 : Array (Option Value)} {oc18 kV18 dc18 pm18 cd18 ct18 : Value} {f19 : Addr} {od19 an19 : Option Addr} {sl19 : Array (Option Value)} {oc19 kV19 dc19 pm19 cd19 ct19 : Value} {f20 : Addr} {od20 an20 : Option Addr} {sl20 : Array (Option Value)} {oc20 kV20 dc20 pm20 cd20 ct20 : Value} {f21 : Addr} {od21 an21 : Option Addr} {sl21 : Array (Option Value)} {oc21 kV21 dc21 pm21 cd21 ct21 : Value} {f22 : Addr} {od22 an22 : Option Addr} {sl22 : Array (Option Value)} {oc22 kV22 dc22 pm22 cd22 ct22 : Value} {f23 : Addr} {od23 an23 : Option Addr} {sl23 : Array (Option Value)} {oc23 kV23 dc23 pm23 cd23 ct23 : Value} {f24 : Addr} {od24 an24 : Option Addr} {sl24 : Array (Option Value)} {oc24 kV24 dc24 pm24 cd24 ct24 : Value} {f25 : Addr} {od25 an25 : Option Addr} {sl25 : Array (Option Value)} {oc25 kV25 dc25 pm25 cd25 ct25 : Value} {f26 : Addr} {od26 an26 : Option Addr} {sl26 : Array (Option Value)} {oc26 kV26 dc26 pm26 cd26 ct26 : Value} {f27 : Addr} {od27 an27 : Option Addr} {sl27 : Array (Option Value)} {oc27 kV27 dc27 pm27 cd27 ct27 : Value} {f28 : Addr} {od28 an28 : Option Addr} {sl28 : Array (Option Value)} {oc28 kV28 dc28 pm28 cd28 ct28 : Value} {f29 : Addr} {od29 an29 : Option Addr} {sl29 : Array (Option Value)} {oc29 kV29 dc29 pm29 cd29 ct29 : Value} {f30 : Addr} {od30 an30 : Option Addr} {sl30 : Array (Option Value)} {oc30 kV30 dc30 pm30 cd30 ct30 : Value} {f31 : Addr} {od31 an31 : Option Addr} {sl31 : Array (Option Value)} {oc31 kV31 dc31 pm31 cd31 ct31 : Value} {f32 : Addr} {od32 an32 : Option Addr} {sl32 : Array (Option Value)} {oc32 kV32 dc32 pm32 cd32 ct32 : Value} {f33 : Addr} {od33 an33 : Option Addr} {sl33 : Array (Option Value)} {oc33 kV33 dc33 pm33 cd33 ct33 : Value} {f34 : Addr} {od34 an34 : Option Addr} {sl34 : Array (Option Value)} {oc34 kV34 dc34 pm34 cd34 ct34 : Value} {f35 : Addr} {od35 an35 : Option Addr} {sl35 : Array (Option Value)} {oc35 kV35 dc35 pm35 cd35 ct35 : Value} {f36 : Addr} {od36 an36 : Option Addr} {sl36 : Array (Option Value)} {oc36 kV36 dc36 pm36 cd36 ct36 : Value} {f37 : Addr} {od37 an37 : Option Addr} {sl37 : Array (Option Value)} {oc37 kV37 dc37 pm37 cd37 ct37 : Value} {f38 : Addr} {od38 an38 : Option Addr} {sl38 : Array (Option Value)} {oc38 kV38 dc38 pm38 cd38 ct38 : Value} {f39 : Addr} {od39 an39 : Option Addr} {sl39 : Array (Option Value)} {oc39 kV39 dc39 pm39 cd39 ct39 : Value} {f40 : Addr} {od40 an40 : Option Addr} {sl40 : Array (Option Value)} {oc40 kV40 dc40 pm40 cd40 ct40 : Value} {f41 : Addr} {od41 an41 : Option Addr} {sl41 : Array (Option Value)} {oc41 kV41 dc41 pm41 cd41 ct41 : Value} {f42 : Addr} {od42 an42 : Option Addr} {sl42 : Array (Option Value)} {oc42 kV42 dc42 pm42 cd42 ct42 : Value} {f43 : Addr} {od43 an43 : Option Addr} {sl43 : Array (Option Value)} {oc43 kV43 dc43 pm43 cd43 ct43 : Value} {fL : Addr} {odL anL : Option Addr} {slL : Array (Option Value)} {ocL kVL dcL pmL cdL ctL : Value} {vS : Value} {vN : Value} {vP : Value} {vM : Value}
  (X : K.In h) (G : h.Ns mainGlobals mg) (hfa : mg "law" = some (.ref fa))
  (aC : PySem.W.nsIn K mainGlobals "Net" = some (some (.ref C)))
  (a0 : PySem.W.nsIn K mainGlobals "is_made_of" = some (some (.ref f0)))
  (l0 : K.lookup f0 = some ⟨oc0, od0, .func (PySem.W.fnOf "is_made_of" "is_made_of" (defArgs s_is_made_of) (defBody s_is_made_of) (defScope s_is_made_of) .none kV0 dc0 pm0 an0 cd0 ct0), sl0⟩) (c0 : PySem.W.codeIn K cd0 "is_made_of" = true) (k0 : PySem.W.keepIn K (.ref f0) = true)
  (a1 : PySem.W.nsIn K mainGlobals "is_name" = some (some (.ref f1)))
  (l1 : K.lookup f1 = some ⟨oc1, od1, .func (PySem.W.fnOf "is_name" "is_name" (defArgs s_is_name) (defBody s_is_name) (defScope s_is_name) .none kV1 dc1 pm1 an1 cd1 ct1), sl1⟩) (c1 : PySem.W.codeIn K cd1 "is_name" = true) (k1 : PySem.W.keepIn K (.ref f1) = true)
  (a2 : PySem.W.nsIn K mainGlobals "is_whole" = some (some (.ref f2)))
  (l2 : K.lookup f2 = some ⟨oc2, od2, .func (PySem.W.fnOf "is_whole" "is_whole" (defArgs s_is_whole) (defBody s_is_whole) (defScope s_is_whole) .none kV2 dc2 pm2 an2 cd2 ct2), sl2⟩) (c2 : PySem.W.codeIn K cd2 "is_whole" = true) (k2 : PySem.W.keepIn K (.ref f2) = true)
  (a3 : PySem.W.nsIn K mainGlobals "refuse_no_name" = some (some (.ref f3)))
  (l3 : K.lookup f3 = some ⟨oc3, od3, .func (PySem.W.fnOf "refuse_no_name" "refuse_no_name" (defArgs s_refuse_no_name) (defBody s_refuse_no_name) (defScope s_refuse_no_name) .none kV3 dc3 pm3 an3 cd3 ct3), sl3⟩) (c3 : PySem.W.codeIn K cd3 "refuse_no_name" = true) (k3 : PySem.W.keepIn K (.ref f3) = true)
  (a4 : PySem.W.nsIn K mainGlobals "refuse_no_width" = some (some (.ref f4)))
  (l4 : K.lookup f4 = some ⟨oc4, od4, .func (PySem.W.fnOf "refuse_no_width" "refuse_no_width" (defArgs s_refuse_no_width) (defBody s_refuse_no_width) (defScope s_refuse_no_width) .none kV4 dc4 pm4 an4 cd4 ct4), sl4⟩) (c4 : PySem.W.codeIn K cd4 "refuse_no_width" = true) (k4 : PySem.W.keepIn K (.ref f4) = true)
  (a5 : PySem.W.nsIn K mainGlobals "refuse_more" = some (some (.ref f5)))
  (l5 : K.lookup f5 = some ⟨oc5, od5, .func (PySem.W.fnOf "refuse_more" "refuse_more" (defArgs s_refuse_more) (defBody s_refuse_more) (defScope s_refuse_more) .none kV5 dc5 pm5 an5 cd5 ct5), sl5⟩) (c5 : PySem.W.codeIn K cd5 "refuse_more" = true) (k5 : PySem.W.keepIn K (.ref f5) = true)
  (a6 : PySem.W.findIn K (.ref C) "__init__" = some (some (.ref f6))) (i6 : PySem.W.isFn K (.ref f6) = true)
  (l6 : K.lookup f6 = some ⟨oc6, od6, .func (PySem.W.fnOf "__init__" "Net.__init__" (defArgs s_Net_init) (defBody s_Net_init) (defScope s_Net_init) .none kV6 dc6 pm6 an6 cd6 ct6), sl6⟩) (c6 : PySem.W.codeIn K cd6 "Net.__init__" = true) (k6 : PySem.W.keepIn K (.ref f6) = true)
  (a7 : PySem.W.findIn K (.ref C) "place" = some (some (.ref f7))) (i7 : PySem.W.isFn K (.ref f7) = true)
  (l7 : K.lookup f7 = some ⟨oc7, od7, .func (PySem.W.fnOf "place" "Net.place" (defArgs s_Net_place) (defBody s_Net_place) (defScope s_Net_place) .none kV7 dc7 pm7 an7 cd7 ct7), sl7⟩) (c7 : PySem.W.codeIn K cd7 "Net.place" = true) (k7 : PySem.W.keepIn K (.ref f7) = true)
  (a8 : PySem.W.findIn K (.ref C) "tie" = some (some (.ref f8))) (i8 : PySem.W.isFn K (.ref f8) = true)
  (l8 : K.lookup f8 = some ⟨oc8, od8, .func (PySem.W.fnOf "tie" "Net.tie" (defArgs s_Net_tie) (defBody s_Net_tie) (defScope s_Net_tie) .none kV8 dc8 pm8 an8 cd8 ct8), sl8⟩) (c8 : PySem.W.codeIn K cd8 "Net.tie" = true) (k8 : PySem.W.keepIn K (.ref f8) = true)
  (a9 : PySem.W.findIn K (.ref C) "places" = some (some (.ref f9))) (i9 : PySem.W.isFn K (.ref f9) = true)
  (l9 : K.lookup f9 = some ⟨oc9, od9, .func (PySem.W.fnOf "places" "Net.places" (defArgs s_Net_places) (defBody s_Net_places) (defScope s_Net_places) .none kV9 dc9 pm9 an9 cd9 ct9), sl9⟩) (c9 : PySem.W.codeIn K cd9 "Net.places" = true) (k9 : PySem.W.keepIn K (.ref f9) = true)
  (a10 : PySem.W.findIn K (.ref C) "ties" = some (some (.ref f10))) (i10 : PySem.W.isFn K (.ref f10) = true)
  (l10 : K.lookup f10 = some ⟨oc10, od10, .func (PySem.W.fnOf "ties" "Net.ties" (defArgs s_Net_ties) (defBody s_Net_ties) (defScope s_Net_ties) .none kV10 dc10 pm10 an10 cd10 ct10), sl10⟩) (c10 : PySem.W.codeIn K cd10 "Net.ties" = true) (k10 : PySem.W.keepIn K (.ref f10) = true)
  (a11 : PySem.W.nsIn K mainGlobals "_law_cell_at" = some (some (.ref f11)))
  (l11 : K.lookup f11 = some ⟨oc11, od11, .func (PySem.W.fnOf "_law_cell_at" "_law_cell_at" (defArgs s_l_cell_at) (defBody s_l_cell_at) (defScope s_l_cell_at) .none kV11 dc11 pm11 an11 cd11 ct11), sl11⟩) (c11 : PySem.W.codeIn K cd11 "_law_cell_at" = true) (k11 : PySem.W.keepIn K (.ref f11) = true)
  (a12 : PySem.W.nsIn K mainGlobals "is_place" = some (some (.ref f12)))
  (l12 : K.lookup f12 = some ⟨oc12, od12, .func (PySem.W.fnOf "is_place" "is_place" (defArgs s_is_place) (defBody s_is_place) (defScope s_is_place) .none kV12 dc12 pm12 an12 cd12 ct12), sl12⟩) (c12 : PySem.W.codeIn K cd12 "is_place" = true) (k12 : PySem.W.keepIn K (.ref f12) = true)
  (a13 : PySem.W.nsIn K mainGlobals "are_unlike" = some (some (.ref f13)))
  (l13 : K.lookup f13 = some ⟨oc13, od13, .func (PySem.W.fnOf "are_unlike" "are_unlike" (defArgs s_are_unlike) (defBody s_are_unlike) (defScope s_are_unlike) .none kV13 dc13 pm13 an13 cd13 ct13), sl13⟩) (c13 : PySem.W.codeIn K cd13 "are_unlike" = true) (k13 : PySem.W.keepIn K (.ref f13) = true)
  (a14 : PySem.W.nsIn K mainGlobals "is_tie" = some (some (.ref f14)))
  (l14 : K.lookup f14 = some ⟨oc14, od14, .func (PySem.W.fnOf "is_tie" "is_tie" (defArgs s_is_tie) (defBody s_is_tie) (defScope s_is_tie) .none kV14 dc14 pm14 an14 cd14 ct14), sl14⟩) (c14 : PySem.W.codeIn K cd14 "is_tie" = true) (k14 : PySem.W.keepIn K (.ref f14) = true)
  (a15 : PySem.W.nsIn K mainGlobals "are_unlike_places" = some (some (.ref f15)))
  (l15 : K.lookup f15 = some ⟨oc15, od15, .func (PySem.W.fnOf "are_unlike_places" "are_unlike_places" (defArgs s_are_unlike_places) (defBody s_are_unlike_places) (defScope s_are_unlike_places) .none kV15 dc15 pm15 an15 cd15 ct15), sl15⟩) (c15 : PySem.W.codeIn K cd15 "are_unlike_places" = true) (k15 : PySem.W.keepIn K (.ref f15) = true)
  (a16 : PySem.W.nsIn K mainGlobals "ties_by_name" = some (some (.ref f16)))
  (l16 : K.lookup f16 = some ⟨oc16, od16, .func (PySem.W.fnOf "ties_by_name" "ties_by_name" (defArgs s_ties_by_name) (defBody s_ties_by_name) (defScope s_ties_by_name) .none kV16 dc16 pm16 an16 cd16 ct16), sl16⟩) (c16 : PySem.W.codeIn K cd16 "ties_by_name" = true) (k16 : PySem.W.keepIn K (.ref f16) = true)
  (a17 : PySem.W.nsIn K mainGlobals "walk_stops" = some (some (.ref f17)))
  (l17 : K.lookup f17 = some ⟨oc17, od17, .func (PySem.W.fnOf "walk_stops" "walk_stops" (defArgs s_walk_stops) (defBody s_walk_stops) (defScope s_walk_stops) .none kV17 dc17 pm17 an17 cd17 ct17), sl17⟩) (c17 : PySem.W.codeIn K cd17 "walk_stops" = true) (k17 : PySem.W.keepIn K (.ref f17) = true)
  (a18 : PySem.W.nsIn K mainGlobals "walk_end" = some (some (.ref f18)))
  (l18 : K.lookup f18 = some ⟨oc18, od18, .func (PySem.W.fnOf "walk_end" "walk_end" (defArgs s_walk_end) (defBody s_walk_end) (defScope s_walk_end) .none kV18 dc18 pm18 an18 cd18 ct18), sl18⟩) (c18 : PySem.W.codeIn K cd18 "walk_end" = true) (k18 : PySem.W.keepIn K (.ref f18) = true)
  (a19 : PySem.W.nsIn K mainGlobals "walk_cost" = some (some (.ref f19)))
  (l19 : K.lookup f19 = some ⟨oc19, od19, .func (PySem.W.fnOf "walk_cost" "walk_cost" (defArgs s_walk_cost) (defBody s_walk_cost) (defScope s_walk_cost) .none kV19 dc19 pm19 an19 cd19 ct19), sl19⟩) (c19 : PySem.W.codeIn K cd19 "walk_cost" = true) (k19 : PySem.W.keepIn K (.ref f19) = true)
  (a20 : PySem.W.nsIn K mainGlobals "is_row" = some (some (.ref f20)))
  (l20 : K.lookup f20 = some ⟨oc20, od20, .func (PySem.W.fnOf "is_row" "is_row" (defArgs s_is_row) (defBody s_is_row) (defScope s_is_row) .none kV20 dc20 pm20 an20 cd20 ct20), sl20⟩) (c20 : PySem.W.codeIn K cd20 "is_row" = true) (k20 : PySem.W.keepIn K (.ref f20) = true)
  (a21 : PySem.W.nsIn K mainGlobals "is_pair" = some (some (.ref f21)))
  (l21 : K.lookup f21 = some ⟨oc21, od21, .func (PySem.W.fnOf "is_pair" "is_pair" (defArgs s_is_pair) (defBody s_is_pair) (defScope s_is_pair) .none kV21 dc21 pm21 an21 cd21 ct21), sl21⟩) (c21 : PySem.W.codeIn K cd21 "is_pair" = true) (k21 : PySem.W.keepIn K (.ref f21) = true)
  (a22 : PySem.W.nsIn K mainGlobals "prices_of" = some (some (.ref f22)))
  (l22 : K.lookup f22 = some ⟨oc22, od22, .func (PySem.W.fnOf "prices_of" "prices_of" (defArgs s_prices_of) (defBody s_prices_of) (defScope s_prices_of) .none kV22 dc22 pm22 an22 cd22 ct22), sl22⟩) (c22 : PySem.W.codeIn K cd22 "prices_of" = true) (k22 : PySem.W.keepIn K (.ref f22) = true)
  (a23 : PySem.W.nsIn K mainGlobals "ties_keep_prices" = some (some (.ref f23)))
  (l23 : K.lookup f23 = some ⟨oc23, od23, .func (PySem.W.fnOf "ties_keep_prices" "ties_keep_prices" (defArgs s_ties_keep_prices) (defBody s_ties_keep_prices) (defScope s_ties_keep_prices) .none kV23 dc23 pm23 an23 cd23 ct23), sl23⟩) (c23 : PySem.W.codeIn K cd23 "ties_keep_prices" = true) (k23 : PySem.W.keepIn K (.ref f23) = true)
  (a24 : PySem.W.nsIn K mainGlobals "is_priced_above" = some (some (.ref f24)))
  (l24 : K.lookup f24 = some ⟨oc24, od24, .func (PySem.W.fnOf "is_priced_above" "is_priced_above" (defArgs s_is_priced_above) (defBody s_is_priced_above) (defScope s_is_priced_above) .none kV24 dc24 pm24 an24 cd24 ct24), sl24⟩) (c24 : PySem.W.codeIn K cd24 "is_priced_above" = true) (k24 : PySem.W.keepIn K (.ref f24) = true)
  (a25 : PySem.W.nsIn K mainGlobals "stretch_end" = some (some (.ref f25)))
  (l25 : K.lookup f25 = some ⟨oc25, od25, .func (PySem.W.fnOf "stretch_end" "stretch_end" (defArgs s_stretch_end) (defBody s_stretch_end) (defScope s_stretch_end) .none kV25 dc25 pm25 an25 cd25 ct25), sl25⟩) (c25 : PySem.W.codeIn K cd25 "stretch_end" = true) (k25 : PySem.W.keepIn K (.ref f25) = true)
  (a26 : PySem.W.nsIn K mainGlobals "shows_cost" = some (some (.ref f26)))
  (l26 : K.lookup f26 = some ⟨oc26, od26, .func (PySem.W.fnOf "shows_cost" "shows_cost" (defArgs s_shows_cost) (defBody s_shows_cost) (defScope s_shows_cost) .none kV26 dc26 pm26 an26 cd26 ct26), sl26⟩) (c26 : PySem.W.codeIn K cd26 "shows_cost" = true) (k26 : PySem.W.keepIn K (.ref f26) = true)
  (a27 : PySem.W.nsIn K mainGlobals "shows_no_cost" = some (some (.ref f27)))
  (l27 : K.lookup f27 = some ⟨oc27, od27, .func (PySem.W.fnOf "shows_no_cost" "shows_no_cost" (defArgs s_shows_no_cost) (defBody s_shows_no_cost) (defScope s_shows_no_cost) .none kV27 dc27 pm27 an27 cd27 ct27), sl27⟩) (c27 : PySem.W.codeIn K cd27 "shows_no_cost" = true) (k27 : PySem.W.keepIn K (.ref f27) = true)
  (a28 : PySem.W.nsIn K mainGlobals "look_plain" = some (some (.ref f28)))
  (l28 : K.lookup f28 = some ⟨oc28, od28, .func (PySem.W.fnOf "look_plain" "look_plain" (defArgs s_look_plain) (defBody s_look_plain) (defScope s_look_plain) .none kV28 dc28 pm28 an28 cd28 ct28), sl28⟩) (c28 : PySem.W.codeIn K cd28 "look_plain" = true) (k28 : PySem.W.keepIn K (.ref f28) = true)
  (a29 : PySem.W.nsIn K mainGlobals "_law_name" = some (some (.ref f29)))
  (l29 : K.lookup f29 = some ⟨oc29, od29, .func (PySem.W.fnOf "_law_name" "_law_name" (defArgs s_l_name) (defBody s_l_name) (defScope s_l_name) .none kV29 dc29 pm29 an29 cd29 ct29), sl29⟩) (c29 : PySem.W.codeIn K cd29 "_law_name" = true) (k29 : PySem.W.keepIn K (.ref f29) = true)
  (a30 : PySem.W.nsIn K mainGlobals "_law_parts" = some (some (.ref f30)))
  (l30 : K.lookup f30 = some ⟨oc30, od30, .func (PySem.W.fnOf "_law_parts" "_law_parts" (defArgs s_l_parts) (defBody s_l_parts) (defScope s_l_parts) .none kV30 dc30 pm30 an30 cd30 ct30), sl30⟩) (c30 : PySem.W.codeIn K cd30 "_law_parts" = true) (k30 : PySem.W.keepIn K (.ref f30) = true)
  (a31 : PySem.W.nsIn K mainGlobals "_law_net" = some (some (.ref f31)))
  (l31 : K.lookup f31 = some ⟨oc31, od31, .func (PySem.W.fnOf "_law_net" "_law_net" (defArgs s_l_net) (defBody s_l_net) (defScope s_l_net) .none kV31 dc31 pm31 an31 cd31 ct31), sl31⟩) (c31 : PySem.W.codeIn K cd31 "_law_net" = true) (k31 : PySem.W.keepIn K (.ref f31) = true)
  (a32 : PySem.W.nsIn K mainGlobals "_law_costs" = some (some (.ref f32)))
  (l32 : K.lookup f32 = some ⟨oc32, od32, .func (PySem.W.fnOf "_law_costs" "_law_costs" (defArgs s_l_costs) (defBody s_l_costs) (defScope s_l_costs) .none kV32 dc32 pm32 an32 cd32 ct32), sl32⟩) (c32 : PySem.W.codeIn K cd32 "_law_costs" = true) (k32 : PySem.W.keepIn K (.ref f32) = true)
  (a33 : PySem.W.nsIn K mainGlobals "_law_least" = some (some (.ref f33)))
  (l33 : K.lookup f33 = some ⟨oc33, od33, .func (PySem.W.fnOf "_law_least" "_law_least" (defArgs s_l_least) (defBody s_l_least) (defScope s_l_least) .none kV33 dc33 pm33 an33 cd33 ct33), sl33⟩) (c33 : PySem.W.codeIn K cd33 "_law_least" = true) (k33 : PySem.W.keepIn K (.ref f33) = true)
  (a34 : PySem.W.nsIn K mainGlobals "_law_come" = some (some (.ref f34)))
  (l34 : K.lookup f34 = some ⟨oc34, od34, .func (PySem.W.fnOf "_law_come" "_law_come" (defArgs s_l_come) (defBody s_l_come) (defScope s_l_come) .none kV34 dc34 pm34 an34 cd34 ct34), sl34⟩) (c34 : PySem.W.codeIn K cd34 "_law_come" = true) (k34 : PySem.W.keepIn K (.ref f34) = true)
  (a35 : PySem.W.nsIn K mainGlobals "_law_between" = some (some (.ref f35)))
  (l35 : K.lookup f35 = some ⟨oc35, od35, .func (PySem.W.fnOf "_law_between" "_law_between" (defArgs s_l_between) (defBody s_l_between) (defScope s_l_between) .none kV35 dc35 pm35 an35 cd35 ct35), sl35⟩) (c35 : PySem.W.codeIn K cd35 "_law_between" = true) (k35 : PySem.W.keepIn K (.ref f35) = true)
  (a36 : PySem.W.nsIn K mainGlobals "_law_truth" = some (some (.ref f36)))
  (l36 : K.lookup f36 = some ⟨oc36, od36, .func (PySem.W.fnOf "_law_truth" "_law_truth" (defArgs s_l_truth) (defBody s_l_truth) (defScope s_l_truth) .none kV36 dc36 pm36 an36 cd36 ct36), sl36⟩) (c36 : PySem.W.codeIn K cd36 "_law_truth" = true) (k36 : PySem.W.keepIn K (.ref f36) = true)
  (a37 : PySem.W.nsIn K mainGlobals "_law_bent" = some (some (.ref f37)))
  (l37 : K.lookup f37 = some ⟨oc37, od37, .func (PySem.W.fnOf "_law_bent" "_law_bent" (defArgs s_l_bent) (defBody s_l_bent) (defScope s_l_bent) .none kV37 dc37 pm37 an37 cd37 ct37), sl37⟩) (c37 : PySem.W.codeIn K cd37 "_law_bent" = true) (k37 : PySem.W.keepIn K (.ref f37) = true)
  (a38 : PySem.W.nsIn K mainGlobals "_law_stretches" = some (some (.ref f38)))
  (l38 : K.lookup f38 = some ⟨oc38, od38, .func (PySem.W.fnOf "_law_stretches" "_law_stretches" (defArgs s_l_stretches) (defBody s_l_stretches) (defScope s_l_stretches) .none kV38 dc38 pm38 an38 cd38 ct38), sl38⟩) (c38 : PySem.W.codeIn K cd38 "_law_stretches" = true) (k38 : PySem.W.keepIn K (.ref f38) = true)
  (a39 : PySem.W.nsIn K mainGlobals "_law_is_cheap" = some (some (.ref f39)))
  (l39 : K.lookup f39 = some ⟨oc39, od39, .func (PySem.W.fnOf "_law_is_cheap" "_law_is_cheap" (defArgs s_l_is_cheap) (defBody s_l_is_cheap) (defScope s_l_is_cheap) .none kV39 dc39 pm39 an39 cd39 ct39), sl39⟩) (c39 : PySem.W.codeIn K cd39 "_law_is_cheap" = true) (k39 : PySem.W.keepIn K (.ref f39) = true)
  (a40 : PySem.W.nsIn K mainGlobals "_law_prices" = some (some (.ref f40)))
  (l40 : K.lookup f40 = some ⟨oc40, od40, .func (PySem.W.fnOf "_law_prices" "_law_prices" (defArgs s_l_prices) (defBody s_l_prices) (defScope s_l_prices) .none kV40 dc40 pm40 an40 cd40 ct40), sl40⟩) (c40 : PySem.W.codeIn K cd40 "_law_prices" = true) (k40 : PySem.W.keepIn K (.ref f40) = true)
  (a41 : PySem.W.nsIn K mainGlobals "_law_is_dear" = some (some (.ref f41)))
  (l41 : K.lookup f41 = some ⟨oc41, od41, .func (PySem.W.fnOf "_law_is_dear" "_law_is_dear" (defArgs s_l_is_dear) (defBody s_l_is_dear) (defScope s_l_is_dear) .none kV41 dc41 pm41 an41 cd41 ct41), sl41⟩) (c41 : PySem.W.codeIn K cd41 "_law_is_dear" = true) (k41 : PySem.W.keepIn K (.ref f41) = true)
  (a42 : PySem.W.nsIn K mainGlobals "_law_copy" = some (some (.ref f42)))
  (l42 : K.lookup f42 = some ⟨oc42, od42, .func (PySem.W.fnOf "_law_copy" "_law_copy" (defArgs s_l_copy) (defBody s_l_copy) (defScope s_l_copy) .none kV42 dc42 pm42 an42 cd42 ct42), sl42⟩) (c42 : PySem.W.codeIn K cd42 "_law_copy" = true) (k42 : PySem.W.keepIn K (.ref f42) = true)
  (a43 : PySem.W.nsIn K mainGlobals "_law_one" = some (some (.ref f43)))
  (l43 : K.lookup f43 = some ⟨oc43, od43, .func (PySem.W.fnOf "_law_one" "_law_one" (defArgs s_l_one) (defBody s_l_one) (defScope s_l_one) .none kV43 dc43 pm43 an43 cd43 ct43), sl43⟩) (c43 : PySem.W.codeIn K cd43 "_law_one" = true) (k43 : PySem.W.keepIn K (.ref f43) = true)
  (aL : PySem.W.nsIn K mainGlobals "law" = some (some (.ref fL))) (lL : K.lookup fL = some ⟨ocL, odL, .func (PySem.W.fnOf "law" "law" (defArgs s_law) (defBody s_law) (defScope s_law) .none kVL dcL pmL anL cdL ctL), slL⟩) (cL : PySem.W.codeIn K cdL "law" = true) (kL : PySem.W.keepIn K (.ref fL) = true)
  (pg : PySem.W.plainGet K C Str.empty = true) (hd : PySem.W.hasDictIn K C = true) (po : PySem.W.plainOver K C = true) (sa : PySem.W.findIn K (.ref C) "__setattr__" = some (some (.builtin "object.__setattr__"))) (mk : PySem.W.makesIn K C = true) (kc : PySem.W.keepIn K (.ref C) = true)
  (nS : PySem.W.findIn K (.ref C) "standing" = some none) (nL : PySem.W.findIn K (.ref C) "laid" = some none)
  (z_all : PySem.W.nsIn K mainGlobals "all" = some none)
  (z_isinstance : PySem.W.nsIn K mainGlobals "isinstance" = some none)
  (z_str : PySem.W.nsIn K mainGlobals "str" = some none)
  (z_int : PySem.W.nsIn K mainGlobals "int" = some none)
  (z_bool : PySem.W.nsIn K mainGlobals "bool" = some none)
  (z_list : PySem.W.nsIn K mainGlobals "list" = some none)
  (z_tuple : PySem.W.nsIn K mainGlobals "tuple" = some none)
  (z_len : PySem.W.nsIn K mainGlobals "len" = some none)
  (z_range : PySem.W.nsIn K mainGlobals "range" = some none)
  (z_abs : PySem.W.nsIn K mainGlobals "abs" = some none)
  (z_dict : PySem.W.nsIn K mainGlobals "dict" = some none)
  (z_sum : PySem.W.nsIn K mainGlobals "sum" = some none)
  (z_set : PySem.W.nsIn K mainGlobals "set" = some none)
  (z_reversed : PySem.W.nsIn K mainGlobals "reversed" = some none)
  (z_max : PySem.W.nsIn K mainGlobals "max" = some none)
  (z_enumerate : PySem.W.nsIn K mainGlobals "enumerate" = some none)
  (z_min : PySem.W.nsIn K mainGlobals "min" = some none)
  (z_any : PySem.W.nsIn K mainGlobals "any" = some none)
  (gS : PySem.W.nsIn K mainGlobals "SMALL_LETTERS" = some (some vS)) (rS : RelV (.str abc) vS)
  (gN : PySem.W.nsIn K mainGlobals "LONGEST_NAME" = some (some vN)) (rN : RelV (.int 12) vN)
  (gP : PySem.W.nsIn K mainGlobals "MOST_PLACES" = some (some vP)) (rP : RelV (.int 20) vP)
  (gM : PySem.W.nsIn K mainGlobals "MOST_TIES" = some (some vM)) (rM : RelV (.int 40) vM) :
  ∃ fd : FuncData, (∀ (s : Shared) (v : Value), BindsTo s fd ⟨[v], []⟩ [("_law_script", v)]) ∧ ∀ base : Heap, K.In base → base.Ns mainGlobals mg → FnOk l.prog w K mg base CX0 9 fa fd ["_law_script"] (spLaw K) := by
 have e := hfa.symm.trans (PySem.W.mg_of X G aL)
 cases e
 have T : Txt K mg C := { cl := ⟨pg, hd, po, sa⟩, nS := nS, nL := nL, mgC := PySem.W.mg_of X G aC, all := PySem.W.mg_none_of X G z_all, isi := PySem.W.mg_none_of X G z_isinstance, str := PySem.W.mg_none_of X G z_str, int := PySem.W.mg_none_of X G z_int, bool := PySem.W.mg_none_of X G z_bool, list := PySem.W.mg_none_of X G z_list, tuple := PySem.W.mg_none_of X G z_tuple, len := PySem.W.mg_none_of X G z_len, range := PySem.W.mg_none_of X G z_range, abs := PySem.W.mg_none_of X G z_abs, small := ⟨vS, PySem.W.mg_of X G gS, rS⟩, longest := ⟨vN, PySem.W.mg_of X G gN, rN⟩, mostP := ⟨vP, PySem.W.mg_of X G gP, rP⟩, mostT := ⟨vM, PySem.W.mg_of X G gM, rM⟩, kIB := kib1 K }
 have A : All K mg C := { T := T, mks := mk, kc := kc, tw := ⟨PySem.W.mg_none_of X G z_dict, PySem.W.mg_none_of X G z_sum⟩, ts := ⟨PySem.W.mg_none_of X G z_set, PySem.W.mg_none_of X G z_reversed⟩, tm := ⟨PySem.W.mg_none_of X G z_max, PySem.W.mg_none_of X G z_enumerate⟩, tn := ⟨PySem.W.mg_none_of X G z_min⟩, an := PySem.W.mg_none_of X G z_any, made := fn_mk X G a0 l0 c0 k0, name := fn_mk X G a1 l1 c1 k1, whole := fn_mk X G a2 l2 c2 k2, rname := fn_mk X G a3 l3 c3 k3, rwidth := fn_mk X G a4 l4 c4 k4, rmore := fn_mk X G a5 l5 c5 k5, init := mt_mk a6 i6 l6 c6 k6, place := mt_mk a7 i7 l7 c7 k7, tie := mt_mk a8 i8 l8 c8 k8, places := mt_mk a9 i9 l9 c9 k9, ties := mt_mk a10 i10 l10 c10 k10, cell := fn_mk X G a11 l11 c11 k11, isplace := fn_mk X G a12 l12 c12 k12, alike := fn_mk X G a13 l13 c13 k13, istie := fn_mk X G a14 l14 c14 k14, unlike := fn_mk X G a15 l15 c15 k15, byname := fn_mk X G a16 l16 c16 k16, stops := fn_mk X G a17 l17 c17 k17, wend := fn_mk X G a18 l18 c18 k18, wcost := fn_mk X G a19 l19 c19 k19, isrow := fn_mk X G a20 l20 c20 k20, pair := fn_mk X G a21 l21 c21 k21, prices := fn_mk X G a22 l22 c22 k22, keep := fn_mk X G a23 l23 c23 k23, above := fn_mk X G a24 l24 c24 k24, send := fn_mk X G a25 l25 c25 k25, scost := fn_mk X G a26 l26 c26 k26, snocost := fn_mk X G a27 l27 c27 k27, look := fn_mk X G a28 l28 c28 k28, lname := fn_mk X G a29 l29 c29 k29, parts := fn_mk X G a30 l30 c30 k30, lnet := fn_mk X G a31 l31 c31 k31, costs := fn_mk X G a32 l32 c32 k32, least := fn_mk X G a33 l33 c33 k33, come := fn_mk X G a34 l34 c34 k34, between := fn_mk X G a35 l35 c35 k35, truth := fn_mk X G a36 l36 c36 k36, bent := fn_mk X G a37 l37 c37 k37, stretch := fn_mk X G a38 l38 c38 k38, cheap := fn_mk X G a39 l39 c39 k39, lprices := fn_mk X G a40 l40 c40 k40, dear := fn_mk X G a41 l41 c41 k41, copy := fn_mk X G a42 l42 c42 k42, one := fn_mk X G a43 l43 c43 k43 }
 exact ⟨PySem.W.fnOf "law" "law" (defArgs s_law) (defBody s_law) (defScope s_law) .none kVL dcL pmL anL cdL ctL, fun s v => .of_eq rfl, fun base _ _ => law_ok A (fun_mk lL cL kL)⟩
theorem walk {l : PySem.W.OpenLaw} {q : Program} {loose : List Str} {XP : (Str → Option Value) → Heap → Prop} {YP : World → Heap → Prop} {d : DefRec} {K : Params → PySem.W.Frag} (hn : l.most = some 63) (hdf : d.params.defaults = [])
  (hY : ∀ (w : World) (h : Heap), YP w h → (K w.params).In h)
  (F : ∀ (w : World) (mg : Str → Option Value) (fa : Addr) (h : Heap), (K w.params).In h → h.Ns mainGlobals mg → mg d.name = some (.ref fa) →
   ∃ fd : FuncData, (∀ (s : Shared) (u : Value), BindsTo s fd ⟨[u], []⟩ [("_law_script", u)]) ∧ ∀ base : Heap, (K w.params).In base → base.Ns mainGlobals mg → FnOk l.prog w (K w.params) mg base CX0 9 fa fd ["_law_script"] (spLaw (K w.params))) :
  PySem.W.WalkO q loose XP YP l.row.toRowW d [] (fun f vs => PySem.call f vs) :=
 L2.walk_of (n := 63) (k := 9) (x := "_law_script") (CX := fun _ => CX0) (sp := fun w => spLaw (K w.params)) hn (by decide) hdf ⟨rfl, by decide, by decide⟩ hY F (fun _ _ a ns hl _ hS => ⟨a, ns, rfl, hS, hl, fun _ => rfl⟩) fun _ _ _ _ _ z => z
end Net
def PySem.W.Fast.tw11697285180267067662 : Nat := 0
def PySem.W.Fast.tw2880595876668768406 : Nat := 0
def PySem.W.Fast.tw6846693245081658013 : Nat := 0
def PySem.W.Fast.tw944966003005701229 : Nat := 0
def PySem.W.Fast.tw3020405555721725177 : Nat := 0
def PySem.W.Fast.tw12764600783096177079 : Nat := 0
def PySem.W.Fast.tw4452661077331999916 : Nat := 0
def PySem.W.Fast.tw18208686569769527089 : Nat := 0
def PySem.W.Fast.tw5179056899264008268 : Nat := 0
def PySem.W.Fast.tw11627604961315039917 : Nat := 0
def PySem.W.Fast.tw2894727325297110456 : Nat := 0
def PySem.W.Fast.tw12104376248419969573 : Nat := 0
def PySem.W.Fast.tw16062967962641203139 : Nat := 0
def PySem.W.Fast.tw7254726116191244893 : Nat := 0
def PySem.W.Fast.tw3675808416282325730 : Nat := 0
def PySem.W.Fast.tw8662474523046618024 : Nat := 0
def PySem.W.Fast.tw7795746381498605282 : Nat := 0
def PySem.W.Fast.tw17826097525247017590 : Nat := 0
def PySem.W.Fast.tw1451085848946772848 : Nat := 0
def PySem.W.Fast.tw17510328262738249216 : Nat := 0
def PySem.W.Fast.tw1288470096027318064 : Nat := 0
def PySem.W.Fast.tw17653733980058092474 : Nat := 0
def PySem.W.Fast.tw2683271625825834846 : Nat := 0
def PySem.W.Fast.tw12448742630855472859 : Nat := 0
def PySem.W.Fast.tw10819507967393015781 : Nat := 0
def PySem.W.Fast.tw14247307367390941512 : Nat := 0
def PySem.W.Fast.tw17113290423894126862 : Nat := 0
def PySem.W.Fast.tw18033811027765644869 : Nat := 0
def PySem.W.Fast.tw4014336383460773671 : Nat := 0
def PySem.W.Fast.tw17903941623855373967 : Nat := 0
def PySem.W.Fast.tw204792958691172449 : Nat := 0
def PySem.W.Fast.tw7106818270218445105 : Nat := 0
def PySem.W.Fast.tw4302332685279806620 : Nat := 0
def PySem.W.Fast.tw14432269951053605984 : Nat := 0
def PySem.W.Fast.tw290371481889072337 : Nat := 0
def PySem.W.Fast.tw9215136434635612948 : Nat := 0
def PySem.W.Fast.tw13186010071704400724 : Nat := 0
def PySem.W.Fast.tw9454644395513337058 : Nat := 0
def PySem.W.Fast.tw9758543653910310893 : Nat := 0
def PySem.W.Fast.tw11689040921169591628 : Nat := 0
def PySem.W.Fast.tw7869394262206455762 : Nat := 0
def PySem.W.Fast.tw51947253746267706 : Nat := 0
def PySem.W.Fast.tw9220068283586036254 : Nat := 0
def PySem.W.Fast.tw11908448866179577146 : Nat := 0
def PySem.W.Fast.tw7339493203925921254 : Nat := 0
def PySem.W.Fast.tw18295996887615951114 : Nat := 0
def PySem.W.Fast.tw614340335850591108 : Nat := 0
def PySem.W.Fast.tw10483536326731690853 : Nat := 0
def PySem.W.Fast.tw13471530373752986581 : Nat := 0
def PySem.W.Fast.tw13087417922392126438 : Nat := 0
def PySem.W.Fast.tw9539044159391036847 : Nat := 0
def PySem.W.Fast.tw4278386209894474110 : Nat := 0
def PySem.W.Fast.tw12581811453123686841 : Nat := 0
def PySem.W.Fast.tw15520101750090893547 : Nat := 0
def PySem.W.Fast.tw8964612132085367657 : Nat := 0
def PySem.W.Fast.tw16542437434853313220 : Nat := 0
def PySem.W.Fast.tw11461584951098861773 : Nat := 0
def PySem.W.Fast.tw5134804287775941883 : Nat := 0
def PySem.W.Fast.tw16712181469033963448 : Nat := 0
def PySem.W.Fast.tw15326742848120991213 : Nat := 0
def PySem.W.Fast.tw14930782219378076177 : Nat := 0
def PySem.W.Fast.tw11580872357031023219 : Nat := 0
def PySem.W.Fast.tw11835759552238937235 : Nat := 0
def PySem.W.Fast.tw16243834657941464484 : Nat := 0
def PySem.W.Fast.tw7605347636317538661 : Nat := 0
def PySem.W.Fast.tw8690479908958772354 : Nat := 0
def PySem.W.Fast.tw7352768340682712697 : Nat := 0
def PySem.W.Fast.tw12455520815926230747 : Nat := 0
def PySem.W.Fast.tw18199452385884168825 : Nat := 0
def PySem.W.Fast.tw3773137110724109672 : Nat := 0
def PySem.W.Fast.tw5285660777141892593 : Nat := 0
def PySem.W.Fast.tw851721651304768062 : Nat := 0
def PySem.W.Fast.tw4446069371607665840 : Nat := 0
def PySem.W.Fast.tw7379251054890393951 : Nat := 0
def PySem.W.Fast.tw2568261219850974994 : Nat := 0
def PySem.W.Fast.tw11483729052128556311 : Nat := 0
def PySem.W.Fast.tw14109141146590058616 : Nat := 0
def PySem.W.Fast.tw5239138367170924586 : Nat := 0
def PySem.W.Fast.tw7447528052397384854 : Nat := 0
def PySem.W.Fast.tw9085090758223928479 : Nat := 0
def PySem.W.Fast.tw1820309930575633463 : Nat := 0
def PySem.W.Fast.tw17856138677263289924 : Nat := 0
def PySem.W.Fast.tw11560627202591648132 : Nat := 0
def PySem.W.Fast.tw17195927686662681578 : Nat := 0
def PySem.W.Fast.tw160863452589437134 : Nat := 0
def PySem.W.Fast.tw10848860922579914639 : Nat := 0
def PySem.W.Fast.tw7704186363581262876 : Nat := 0
def PySem.W.Fast.tw12924854394635245003 : Nat := 0
def PySem.W.Fast.tw1540027661248670508 : Nat := 0
def PySem.W.Fast.tw14962946041853713965 : Nat := 0
def PySem.W.Fast.tw6656848955845096228 : Nat := 0
def PySem.W.Fast.tw2401450905457396806 : Nat := 0
def PySem.W.Fast.tw16426821276182994857 : Nat := 0
def PySem.W.Fast.tw4057582949571015761 : Nat := 0
def PySem.W.Fast.tw640641816168992161 : Nat := 0
def PySem.W.Fast.tw16389359242334235880 : Nat := 0
def PySem.W.Fast.tw2107581145989418400 : Nat := 0
def PySem.W.Fast.tw11694005323686448515 : Nat := 0
def PySem.W.Fast.tw6505996855234732679 : Nat := 0
def PySem.W.Fast.tw8903052794919385610 : Nat := 0
def PySem.W.Fast.tw16317524959034688997 : Nat := 0
def PySem.W.Fast.tw7437643154955250341 : Nat := 0
def PySem.W.Fast.tw15379969119765400728 : Nat := 0
def PySem.W.Fast.tw10672212302487021955 : Nat := 0
def PySem.W.Fast.tw4307082148372270054 : Nat := 0
def PySem.W.Fast.tw9259829616723273688 : Nat := 0
def PySem.W.Fast.tw10825753203944912197 : Nat := 0
def PySem.W.Fast.tw17458045594318887117 : Nat := 0
def PySem.W.Fast.tw13997716246245144915 : Nat := 0
def PySem.W.Fast.tw14022502985544978631 : Nat := 0
def PySem.W.Fast.tw13286359214896741221 : Nat := 0
def PySem.W.Fast.tw17103039398051969002 : Nat := 0
def PySem.W.Fast.tw3484596916879625926 : Nat := 0
def PySem.W.Fast.tw17833288086584686910 : Nat := 0
def PySem.W.Fast.tw6301400122336939405 : Nat := 0
def PySem.W.Fast.tw5777806376061945908 : Nat := 0
def PySem.W.Fast.tw3502395842729390565 : Nat := 0
def PySem.W.Fast.tw16848482846571076102 : Nat := 0
def PySem.W.Fast.tw5638063571619052908 : Nat := 0
def PySem.W.Fast.tw6470860922108932634 : Nat := 0
def PySem.W.Fast.tw10349252342223290538 : Nat := 0
def PySem.W.Fast.tw10278778866869835280 : Nat := 0
def PySem.W.Fast.tw3635736368439702973 : Nat := 0
def PySem.W.Fast.tw17813045103284067427 : Nat := 0
def PySem.W.Fast.tw6661067698521705681 : Nat := 0
def PySem.W.Fast.tw9670122451936739865 : Nat := 0
def PySem.W.Fast.tw6017929185213241873 : Nat := 0
def PySem.W.Fast.tw6483685755996717155 : Nat := 0
def PySem.W.Fast.tw13281688111258504892 : Nat := 0
def PySem.W.Fast.tw528802680408720782 : Nat := 0
def PySem.W.Fast.tw13878775687173177454 : Nat := 0
def PySem.W.Fast.tw17485099760484699440 : Nat := 0
def PySem.W.Fast.tw802769152174601194 : Nat := 0
def PySem.W.Fast.tw2198400914194746821 : Nat := 0
def PySem.W.Fast.tw11277248270482009604 : Nat := 0
def PySem.W.Fast.tw8730035288348643971 : Nat := 0
def PySem.W.Fast.tw13465351131469489139 : Nat := 0
def PySem.W.Fast.tw14587474379347750927 : Nat := 0
def PySem.W.Fast.tw16339121165216406139 : Nat := 0
def PySem.W.Fast.tw6912410388250568450 : Nat := 0
def PySem.W.Fast.tw8596118735994695704 : Nat := 0
def PySem.W.Fast.tw10131088103583392595 : Nat := 0
def PySem.W.Fast.tw6571205295779625635 : Nat := 0
def PySem.W.Fast.tw8345601742270477945 : Nat := 0
def PySem.W.Fast.tw14269201949554352629 : Nat := 0
def PySem.W.Fast.tw14838031712051685411 : Nat := 0
def PySem.W.Fast.tw14543660033221203076 : Nat := 0
def PySem.W.Fast.tw4047676417835100874 : Nat := 0
def PySem.W.Fast.tw9746880023733889081 : Nat := 0
def PySem.W.Fast.tw14503904583504261456 : Nat := 0
def PySem.W.Fast.tw9010463957138612254 : Nat := 0
def PySem.W.Fast.tw8902898442020733007 : Nat := 0
def PySem.W.Fast.tw631769859949424152 : Nat := 0
def PySem.W.Fast.tw18062454317108047156 : Nat := 0
def PySem.W.Fast.tw15437401565325363390 : Nat := 0
def PySem.W.Fast.tw30097052623984595 : Nat := 0
def PySem.W.Fast.tw15262958436897703265 : Nat := 0
def PySem.W.Fast.tw15808351652484231002 : Nat := 0
def PySem.W.Fast.tw11215779430694228798 : Nat := 0
def PySem.W.Fast.tw5213612443242965048 : Nat := 0
def PySem.W.Fast.tw17948004956187678099 : Nat := 0
def PySem.W.Fast.tw5664031808795446589 : Nat := 0
def PySem.W.Fast.tw17023254053071388448 : Nat := 0
def PySem.W.Fast.tw17408631963116654244 : Nat := 0
def PySem.W.Fast.tw16735959781163517322 : Nat := 0
def PySem.W.Fast.tw17032730219022465639 : Nat := 0
def PySem.W.Fast.tw11436192314712789757 : Nat := 0
def PySem.W.Fast.tw18363465478103598404 : Nat := 0
def PySem.W.Fast.tw3142249576260773843 : Nat := 0
def PySem.W.Fast.tw14062513545667013838 : Nat := 0
def PySem.W.Fast.tw11320625762588432772 : Nat := 0
def PySem.W.Fast.tw11208185166426573269 : Nat := 0
def PySem.W.Fast.tw10198578444629815284 : Nat := 0
def PySem.W.Fast.tw14488259991482965168 : Nat := 0
def PySem.W.Fast.tw17415423878074881749 : Nat := 0
def PySem.W.Fast.tw13252422262758414732 : Nat := 0
def PySem.W.Fast.tw14784385853252535778 : Nat := 0
def PySem.W.Fast.tw8111565748177700528 : Nat := 0
def PySem.W.Fast.tw9884426814251240219 : Nat := 0
def PySem.W.Fast.tw4891390146230303665 : Nat := 0
def PySem.W.Fast.tw5850043565256846914 : Nat := 0
def PySem.W.Fast.tw14034081582735838815 : Nat := 0
def PySem.W.Fast.tw4566449528147873676 : Nat := 0
def PySem.W.Fast.tw13753676646471690320 : Nat := 0
def PySem.W.Fast.tw11085916644015650292 : Nat := 0
def PySem.W.Fast.tw18405416578029032740 : Nat := 0
def PySem.W.Fast.tw6011547642936267064 : Nat := 0
def PySem.W.Fast.tw4945579729631948942 : Nat := 0
def PySem.W.Fast.tw5969694265310024282 : Nat := 0
def PySem.W.Fast.tw7877476199423969083 : Nat := 0
def PySem.W.Fast.tw1044258027764578712 : Nat := 0
def PySem.W.Fast.tw8434614675562537262 : Nat := 0
def PySem.W.Fast.tw9409485968779074375 : Nat := 0
def PySem.W.Fast.tw4725141008036697911 : Nat := 0
def PySem.W.Fast.tw2647692895909767920 : Nat := 0
def PySem.W.Fast.tw14142529594782795766 : Nat := 0
def PySem.W.Fast.tw3730549616601130482 : Nat := 0
def PySem.W.Fast.tw13081944837090866320 : Nat := 0
def PySem.W.Fast.tw6442085606367786649 : Nat := 0
def PySem.W.Fast.tw15639961163211104672 : Nat := 0
def PySem.W.Fast.tw10226583749444439609 : Nat := 0
def PySem.W.Fast.tw74795564362899659 : Nat := 0
def PySem.W.Fast.tw17349411600316190022 : Nat := 0
def PySem.W.Fast.tw5805948213147376409 : Nat := 0
def PySem.W.Fast.tw6930151674158776341 : Nat := 0
def PySem.W.Fast.tw18193524232671959248 : Nat := 0
def PySem.W.Fast.tw9356542782997922812 : Nat := 0
def PySem.W.Fast.tw14737096095659661519 : Nat := 0
def PySem.W.Fast.tw11418613024428858452 : Nat := 0
def PySem.W.Fast.tw5537462025951572365 : Nat := 0
def PySem.W.Fast.tw2645123321312951989 : Nat := 0
def PySem.W.Fast.tw13436329928170609401 : Nat := 0
def PySem.W.Fast.tw3353113268874570493 : Nat := 0
def PySem.W.Fast.tw7934530180807062431 : Nat := 0
def PySem.W.Fast.tw13596027898173820771 : Nat := 0
def PySem.W.Fast.tw9091309502890986998 : Nat := 0
def PySem.W.Fast.tw8559457628786844389 : Nat := 0
def PySem.W.Fast.tw6084373638316759402 : Nat := 0
def PySem.W.Fast.tw7124171211748358842 : Nat := 0
def PySem.W.Fast.tw15761433569062266206 : Nat := 0
def PySem.W.Fast.tw2308558684991775106 : Nat := 0
def PySem.W.Fast.tw17733620893909995869 : Nat := 0
def PySem.W.Fast.tw3619853868914558420 : Nat := 0
def PySem.W.Fast.tw11096382799962631410 : Nat := 0
def PySem.W.Fast.tw2441790704603013236 : Nat := 0
def PySem.W.Fast.tw8848781813263829342 : Nat := 0
def PySem.W.Fast.tw14928607775158647365 : Nat := 0
def PySem.W.Fast.tw13268803961599471123 : Nat := 0
def PySem.W.Fast.tw15432267452017087680 : Nat := 0
def PySem.W.Fast.tw16448010212498262172 : Nat := 0
def PySem.W.Fast.tw2890957428276443605 : Nat := 0
def PySem.W.Fast.tw16864393786826830829 : Nat := 0
def PySem.W.Fast.tw17969815421167683975 : Nat := 0
def PySem.W.Fast.tw8308920710462212459 : Nat := 0
def PySem.W.Fast.tw8762275544112933653 : Nat := 0
def PySem.W.Fast.tw17236428009733918283 : Nat := 0
def PySem.W.Fast.tw17241314926795109031 : Nat := 0
def PySem.W.Fast.tw13874518693004566527 : Nat := 0
def PySem.W.Fast.tw15097210744999516014 : Nat := 0
def PySem.W.Fast.tw4347856848339978851 : Nat := 0
def PySem.W.Fast.tw3472064765657818145 : Nat := 0
def PySem.W.Fast.tw2609730571047241448 : Nat := 0
def PySem.W.Fast.tw15326205054088589868 : Nat := 0
def PySem.W.Fast.tw10915103128272372547 : Nat := 0
def PySem.W.Fast.tw2188032032810081541 : Nat := 0
def PySem.W.Fast.tw17989934673174555826 : Nat := 0
def PySem.W.Fast.tw4049710805224112586 : Nat := 0
def PySem.W.Fast.tw816545844877631180 : Nat := 0
def PySem.W.Fast.tw9562963612672625360 : Nat := 0
def PySem.W.Fast.tw14813228122670006182 : Nat := 0
def PySem.W.Fast.tw11273835751478275266 : Nat := 0
def PySem.W.Fast.tw7989398354201622741 : Nat := 0
def PySem.W.Fast.tw14618136580823123726 : Nat := 0
def PySem.W.Fast.tw18350303852371186777 : Nat := 0
def PySem.W.Fast.tw9937506844728474209 : Nat := 0
def PySem.W.Fast.tw947345897137039983 : Nat := 0
def PySem.W.Fast.tw13101841590521945435 : Nat := 0
def PySem.W.Fast.tw18314856555158867084 : Nat := 0
def PySem.W.Fast.tw7286051468996644369 : Nat := 0
def PySem.W.Fast.tw4690037900947196232 : Nat := 0
def PySem.W.Fast.tw7604044040223550122 : Nat := 0
def PySem.W.Fast.tw13219973117049352860 : Nat := 0
def PySem.W.Fast.tw16459311043779952217 : Nat := 0
def PySem.W.Fast.tw8485021133123953008 : Nat := 0
def PySem.W.Fast.tw5140985719720858143 : Nat := 0
def PySem.W.Fast.tw13480607043672987136 : Nat := 0
def PySem.W.Fast.tw9684645666499326472 : Nat := 0
def PySem.W.Fast.tw9025385882692817989 : Nat := 0
def PySem.W.Fast.tw7594047294140291708 : Nat := 0
def PySem.W.Fast.tw11006642715110838755 : Nat := 0
def PySem.W.Fast.tw13212908503520607261 : Nat := 0
def PySem.W.Fast.tw9252666682988333879 : Nat := 0
def PySem.W.Fast.tw15115207302961563552 : Nat := 0
def PySem.W.Fast.tw14213322629488265526 : Nat := 0
def PySem.W.Fast.tw1517093804904507964 : Nat := 0
def PySem.W.Fast.tw1310458959570367150 : Nat := 0
def PySem.W.Fast.tw5739278590728534748 : Nat := 0
def PySem.W.Fast.tw9236891179525840136 : Nat := 0
def PySem.W.Fast.tw8219435475397891570 : Nat := 0
def PySem.W.Fast.tw9657614485301843698 : Nat := 0
def PySem.W.Fast.tw12349159841754213211 : Nat := 0
def PySem.W.Fast.tw4346170292881570205 : Nat := 0
def PySem.W.Fast.tw12441254856314847723 : Nat := 0
def PySem.W.Fast.tw1051004137261903056 : Nat := 0
def PySem.W.Fast.tw9060082422721823122 : Nat := 0
def PySem.W.Fast.tw3395461733388912918 : Nat := 0
def PySem.W.Fast.tw6035482844974560437 : Nat := 0
def PySem.W.Fast.tw15455955894674587359 : Nat := 0
def PySem.W.Fast.tw13869466354056565356 : Nat := 0
def PySem.W.Fast.tw13761322449000787967 : Nat := 0
def PySem.W.Fast.tw9679721240130505862 : Nat := 0
def PySem.W.Fast.tw17182715210052216092 : Nat := 0
def PySem.W.Fast.tw5531651635186506806 : Nat := 0
def PySem.W.Fast.tw6082812814525271289 : Nat := 0
def PySem.W.Fast.tw11923757271818301357 : Nat := 0
def PySem.W.Fast.tw2618440458035467136 : Nat := 0
def PySem.W.Fast.tw1767606507956725588 : Nat := 0
def PySem.W.Fast.tw6083918980403412508 : Nat := 0
def PySem.W.Fast.tw12502871725722156676 : Nat := 0
def PySem.W.Fast.tw12466553890899191021 : Nat := 0
def PySem.W.Fast.tw6642213370308121927 : Nat := 0
def PySem.W.Fast.tw9448507573690510525 : Nat := 0
def PySem.W.Fast.tw353608663112525614 : Nat := 0
def PySem.W.Fast.tw5924171318432071938 : Nat := 0
def PySem.W.Fast.tw5404009369963745004 : Nat := 0
def PySem.W.Fast.tw2737822727049782853 : Nat := 0
def PySem.W.Fast.tw17605976765145962745 : Nat := 0
def PySem.W.Fast.tw14357331563673469523 : Nat := 0
def PySem.W.Fast.tw11630640541564357157 : Nat := 0
def PySem.W.Fast.tw13108076123280923764 : Nat := 0
def PySem.W.Fast.tw2948642532070381707 : Nat := 0
def PySem.W.Fast.tw2441123177965586031 : Nat := 0
def PySem.W.Fast.tw7981154683387712233 : Nat := 0
def PySem.W.Fast.tw3816539013636899458 : Nat := 0
def PySem.W.Fast.tw11998530644201039035 : Nat := 0
def PySem.W.Fast.tw1686400494311603449 : Nat := 0
def PySem.W.Fast.tw7561511724929921737 : Nat := 0
def PySem.W.Fast.tw544314903500403434 : Nat := 0
def PySem.W.Fast.tw14043633136830156057 : Nat := 0
def PySem.W.Fast.tw6540911168963009654 : Nat := 0
def PySem.W.Fast.tw4628854160238819315 : Nat := 0
def PySem.W.Fast.tw14118605115796089291 : Nat := 0
def PySem.W.Fast.tw11250019121133760133 : Nat := 0
def PySem.W.Fast.tw4294615244403472295 : Nat := 0
def PySem.W.Fast.tw416441660661286587 : Nat := 0
def PySem.W.Fast.tw15112578797210748307 : Nat := 0
def PySem.W.Fast.tw18389113103739039630 : Nat := 0
def PySem.W.Fast.tw11298894940191887215 : Nat := 0
def PySem.W.Fast.tw10492464327952349128 : Nat := 0
def PySem.W.Fast.tw2683820210529618131 : Nat := 0
def PySem.W.Fast.tw2557122589205154906 : Nat := 0
def PySem.W.Fast.tw17476353858651720010 : Nat := 0
def PySem.W.Fast.tw5909867754656990116 : Nat := 0
def PySem.W.Fast.tw12401876153631133447 : Nat := 0
def PySem.W.Fast.tw8794349529194497107 : Nat := 0
def PySem.W.Fast.tw4248862147651489217 : Nat := 0
def PySem.W.Fast.tw9556235187707460740 : Nat := 0
def PySem.W.Fast.tw18211067788637346034 : Nat := 0
def PySem.W.Fast.tw2280247205735271001 : Nat := 0
def PySem.W.Fast.tw10088351493087019019 : Nat := 0
def PySem.W.Fast.tw8282215068838492820 : Nat := 0
def PySem.W.Fast.tw9515083958685464019 : Nat := 0
def PySem.W.Fast.tw1499784692652552016 : Nat := 0
def PySem.W.Fast.tw14192922428908701459 : Nat := 0
def PySem.W.Fast.tw10089428827315572935 : Nat := 0
def PySem.W.Fast.tw11609572974922363580 : Nat := 0
def PySem.W.Fast.tw16725245662158579694 : Nat := 0
def PySem.W.Fast.tw16566811779906061590 : Nat := 0
def PySem.W.Fast.tw8457412220974622126 : Nat := 0
def PySem.W.Fast.tw9444479227879308376 : Nat := 0
def PySem.W.Fast.tw4084826744105442734 : Nat := 0
def PySem.W.Fast.tw14864150653544872128 : Nat := 0
def PySem.W.Fast.tw3861572966155587908 : Nat := 0
def PySem.W.Fast.tw7207666096492392493 : Nat := 0
def PySem.W.Fast.tw10643053842866875005 : Nat := 0
def PySem.W.Fast.tw13125769277595981112 : Nat := 0
def PySem.W.Fast.tw4563519877787821084 : Nat := 0
def PySem.W.Fast.tw3666872738368986756 : Nat := 0
def PySem.W.Fast.tw8184247434054774645 : Nat := 0
def PySem.W.Fast.tw2573769202810596685 : Nat := 0
def PySem.W.Fast.tw4065586142863373486 : Nat := 0
def PySem.W.Fast.tw7850420298112505861 : Nat := 0
def PySem.W.Fast.tw10340280061691112809 : Nat := 0
def PySem.W.Fast.tw9628543317757609533 : Nat := 0
def PySem.W.Fast.tw15832571582449885057 : Nat := 0
def PySem.W.Fast.tw5028906481817948980 : Nat := 0
def PySem.W.Fast.tw11864097372693642501 : Nat := 0
def PySem.W.Fast.tw14911112920264300435 : Nat := 0
def PySem.W.Fast.tw7920455600574676339 : Nat := 0
def PySem.W.Fast.tw8830126310608910101 : Nat := 0
def PySem.W.Fast.tw16644836961360583424 : Nat := 0
def PySem.W.Fast.tw1586361012267665271 : Nat := 0
def PySem.W.Fast.tw5639532364584693376 : Nat := 0
def PySem.W.Fast.tw3397894503780668331 : Nat := 0
def PySem.W.Fast.tw6611298968140373605 : Nat := 0
def PySem.W.Fast.tw12241159456636258119 : Nat := 0
def PySem.W.Fast.tw7122141074115425030 : Nat := 0
def PySem.W.Fast.tw1553803988343986723 : Nat := 0
def PySem.W.Fast.tw17031745716695840704 : Nat := 0
def PySem.W.Fast.tw12217184969522457723 : Nat := 0
def PySem.W.Fast.tw6157409973865922178 : Nat := 0
def PySem.W.Fast.tw12189317355902939570 : Nat := 0
def PySem.W.Fast.tw2589067688610459745 : Nat := 0
def PySem.W.Fast.tw6245447585484487855 : Nat := 0
def PySem.W.Fast.tw11156983397410307257 : Nat := 0
def PySem.W.Fast.tw16663925522201269784 : Nat := 0
def PySem.W.Fast.tw7777866629938719511 : Nat := 0
def PySem.W.Fast.tw16227501768518221012 : Nat := 0
def PySem.W.Fast.tw8872903371469384204 : Nat := 0
def PySem.W.Fast.tw9763015816698003351 : Nat := 0
def PySem.W.Fast.tw2619999745179295774 : Nat := 0
def PySem.W.Fast.tw9198733685524583607 : Nat := 0
def PySem.W.Fast.tw10810524389022212640 : Nat := 0
def PySem.W.Fast.tw5052979822427632327 : Nat := 0
def PySem.W.Fast.tw13567906481598813160 : Nat := 0
def PySem.W.Fast.tw13512687821364728925 : Nat := 0
def PySem.W.Fast.tw4596136181431213738 : Nat := 0
def PySem.W.Fast.tw7483491757929647825 : Nat := 0
def PySem.W.Fast.tw3887790523720762985 : Nat := 0
def PySem.W.Fast.tw10237616251286102464 : Nat := 0
def PySem.W.Fast.tw18256609773579898336 : Nat := 0
def PySem.W.Fast.tw16235792671264007420 : Nat := 0
def PySem.W.Fast.tw7627816805113516393 : Nat := 0
def PySem.W.Fast.tw5571733481197833700 : Nat := 0
def PySem.W.Fast.tw1248336559839221178 : Nat := 0
def PySem.W.Fast.tw15942165344223128332 : Nat := 0
def PySem.W.Fast.tw3256907987969958400 : Nat := 0
def PySem.W.Fast.tw9922672795995430494 : Nat := 0
def PySem.W.Fast.tw10630332306481196212 : Nat := 0
def PySem.W.Fast.tw8854207035398300767 : Nat := 0
def PySem.W.Fast.tw9291365933668549301 : Nat := 0
def PySem.W.Fast.tw3586963868700768566 : Nat := 0
def PySem.W.Fast.tw1806472378812113418 : Nat := 0
def PySem.W.Fast.tw5031413009663313996 : Nat := 0
def PySem.W.Fast.tw13605858856517319097 : Nat := 0
def PySem.W.Fast.tw13835033456136970957 : Nat := 0
def PySem.W.Fast.tw418586490561057091 : Nat := 0
def PySem.W.Fast.tw14067590020749021037 : Nat := 0
def PySem.W.Fast.tw10551392744390281488 : Nat := 0
def PySem.W.Fast.tw1432702314456472992 : Nat := 0
def PySem.W.Fast.tw17792681733137667593 : Nat := 0
def PySem.W.Fast.tw17073346968088923816 : Nat := 0
def PySem.W.Fast.tw17836190655354777489 : Nat := 0
def PySem.W.Fast.tw17469518471926895423 : Nat := 0
def PySem.W.Fast.tw9458851999544247293 : Nat := 0
def PySem.W.Fast.tw6052052785755732966 : Nat := 0
def PySem.W.Fast.tw4248058795372430988 : Nat := 0
def PySem.W.Fast.tw15126386801901689203 : Nat := 0
def PySem.W.Fast.tw1110545854045974503 : Nat := 0
def PySem.W.Fast.tw17750171766906716387 : Nat := 0
def PySem.W.Fast.tw18380610834113723941 : Nat := 0
def PySem.W.Fast.tw803336410017505228 : Nat := 0
def PySem.W.Fast.tw14299667015103842926 : Nat := 0
def PySem.W.Fast.tw14361937742439736509 : Nat := 0
def PySem.W.Fast.tw1943017057606281441 : Nat := 0
def PySem.W.Fast.tw2815710218139855166 : Nat := 0
def PySem.W.Fast.tw9806746842380070733 : Nat := 0
def PySem.W.Fast.tw13569468200866004283 : Nat := 0
def PySem.W.Fast.tw7501382570986634893 : Nat := 0
def PySem.W.Fast.tw4661928525520772566 : Nat := 0
def PySem.W.Fast.tw17692528379231780000 : Nat := 0
def PySem.W.Fast.tw15578483599699986844 : Nat := 0
def PySem.W.Fast.tw11828624741127036606 : Nat := 0
def PySem.W.Fast.tw12229445319577803575 : Nat := 0
def PySem.W.Fast.tw15167139886282009244 : Nat := 0
def PySem.W.Fast.tw6671984456055599589 : Nat := 0
def PySem.W.Fast.tw10398153205895233606 : Nat := 0
def PySem.W.Fast.tw11587411594482648129 : Nat := 0
def PySem.W.Fast.tw7080947557930420371 : Nat := 0
def PySem.W.Fast.tw8790710536274802612 : Nat := 0
def PySem.W.Fast.tw470259670819229823 : Nat := 0
def PySem.W.Fast.tw10504378561530872106 : Nat := 0
def PySem.W.Fast.tw5549884272304591508 : Nat := 0
def PySem.W.Fast.tw2967772081362702926 : Nat := 0
def PySem.W.Fast.tw15540760133795349740 : Nat := 0
def PySem.W.Fast.tw11292148097799758599 : Nat := 0
def PySem.W.Fast.tw14652822696210602739 : Nat := 0
def PySem.W.Fast.tw14757352259278201445 : Nat := 0
open PySem PySem.W PyProof.Rows
set_option maxRecDepth 100000 in
set_option maxHeartbeats 0 in
theorem PySem.Challenge.cw_netcourt_k32_costs_looked_at_holds : PySem.Challenge.rw_netcourt_k32_costs_looked_at.Holds := by
 w_on; o_law; k_head; (case hw => w_witness2)
 k_fill
 refine Net.walk (l := PySem.Challenge.rw_netcourt_k32_costs_looked_at) rfl rfl (fun w h Y => PySem.W.kIn_of Y) ?F
 case F =>
  intro w mg fa h KX G hmg
  refine' Net.all_mk KX G hmg ?aC ?a0 ?l0 ?c0 ?k0 ?a1 ?l1 ?c1 ?k1 ?a2 ?l2 ?c2 ?k2 ?a3 ?l3 ?c3 ?k3 ?a4 ?l4 ?c4 ?k4 ?a5 ?l5 ?c5 ?k5 ?a6 ?i6 ?l6 ?c6 ?k6 ?a7 ?i7 ?l7 ?c7 ?k7 ?a8 ?i8 ?l8 ?c8 ?k8 ?a9 ?i9 ?l9 ?c9 ?k9 ?a10 ?i10 ?l10 ?c10 ?k10 ?a11 ?l11 ?c11 ?k11 ?a12 ?l12 ?c12 ?k12 ?a13 ?l13 ?c13 ?k13 ?a14 ?l14 ?c14 ?k14 ?a15 ?l15 ?c15 ?k15 ?a16 ?l16 ?c16 ?k16 ?a17 ?l17 ?c17 ?k17 ?a18 ?l18 ?c18 ?k18 ?a19 ?l19 ?c19 ?k19 ?a20 ?l20 ?c20 ?k20 ?a21 ?l21 ?c21 ?k21 ?a22 ?l22 ?c22 ?k22 ?a23 ?l23 ?c23 ?k23 ?a24 ?l24 ?c24 ?k24 ?a25 ?l25 ?c25 ?k25 ?a26 ?l26 ?c26 ?k26 ?a27 ?l27 ?c27 ?k27 ?a28 ?l28 ?c28 ?k28 ?a29 ?l29 ?c29 ?k29 ?a30 ?l30 ?c30 ?k30 ?a31 ?l31 ?c31 ?k31 ?a32 ?l32 ?c32 ?k32 ?a33 ?l33 ?c33 ?k33 ?a34 ?l34 ?c34 ?k34 ?a35 ?l35 ?c35 ?k35 ?a36 ?l36 ?c36 ?k36 ?a37 ?l37 ?c37 ?k37 ?a38 ?l38 ?c38 ?k38 ?a39 ?l39 ?c39 ?k39 ?a40 ?l40 ?c40 ?k40 ?a41 ?l41 ?c41 ?k41 ?a42 ?l42 ?c42 ?k42 ?a43 ?l43 ?c43 ?k43 ?aL ?lL ?cL ?kL ?pg ?hd ?po ?sa ?mk ?kc ?nS ?nL ?z_all ?z_isinstance ?z_str ?z_int ?z_bool ?z_list ?z_tuple ?z_len ?z_range ?z_abs ?z_dict ?z_sum ?z_set ?z_reversed ?z_max ?z_enumerate ?z_min ?z_any ?gS ?rS ?gN ?rN ?gP ?rP ?gM ?rM
  (case aC => k_is)
  (case a0 => k_is)
  (case l0 => k_is)
  (case c0 => k_is)
  (case k0 => k_is)
  (case a1 => k_is)
  (case l1 => k_is)
  (case c1 => k_is)
  (case k1 => k_is)
  (case a2 => k_is)
  (case l2 => k_is)
  (case c2 => k_is)
  (case k2 => k_is)
  (case a3 => k_is)
  (case l3 => k_is)
  (case c3 => k_is)
  (case k3 => k_is)
  (case a4 => k_is)
  (case l4 => k_is)
  (case c4 => k_is)
  (case k4 => k_is)
  (case a5 => k_is)
  (case l5 => k_is)
  (case c5 => k_is)
  (case k5 => k_is)
  (case a6 => k_is)
  (case i6 => k_is)
  (case l6 => k_is)
  (case c6 => k_is)
  (case k6 => k_is)
  (case a7 => k_is)
  (case i7 => k_is)
  (case l7 => k_is)
  (case c7 => k_is)
  (case k7 => k_is)
  (case a8 => k_is)
  (case i8 => k_is)
  (case l8 => k_is)
  (case c8 => k_is)
  (case k8 => k_is)
  (case a9 => k_is)
  (case i9 => k_is)
  (case l9 => k_is)
  (case c9 => k_is)
  (case k9 => k_is)
  (case a10 => k_is)
  (case i10 => k_is)
  (case l10 => k_is)
  (case c10 => k_is)
  (case k10 => k_is)
  (case a11 => k_is)
  (case l11 => k_is)
  (case c11 => k_is)
  (case k11 => k_is)
  (case a12 => k_is)
  (case l12 => k_is)
  (case c12 => k_is)
  (case k12 => k_is)
  (case a13 => k_is)
  (case l13 => k_is)
  (case c13 => k_is)
  (case k13 => k_is)
  (case a14 => k_is)
  (case l14 => k_is)
  (case c14 => k_is)
  (case k14 => k_is)
  (case a15 => k_is)
  (case l15 => k_is)
  (case c15 => k_is)
  (case k15 => k_is)
  (case a16 => k_is)
  (case l16 => k_is)
  (case c16 => k_is)
  (case k16 => k_is)
  (case a17 => k_is)
  (case l17 => k_is)
  (case c17 => k_is)
  (case k17 => k_is)
  (case a18 => k_is)
  (case l18 => k_is)
  (case c18 => k_is)
  (case k18 => k_is)
  (case a19 => k_is)
  (case l19 => k_is)
  (case c19 => k_is)
  (case k19 => k_is)
  (case a20 => k_is)
  (case l20 => k_is)
  (case c20 => k_is)
  (case k20 => k_is)
  (case a21 => k_is)
  (case l21 => k_is)
  (case c21 => k_is)
  (case k21 => k_is)
  (case a22 => k_is)
  (case l22 => k_is)
  (case c22 => k_is)
  (case k22 => k_is)
  (case a23 => k_is)
  (case l23 => k_is)
  (case c23 => k_is)
  (case k23 => k_is)
  (case a24 => k_is)
  (case l24 => k_is)
  (case c24 => k_is)
  (case k24 => k_is)
  (case a25 => k_is)
  (case l25 => k_is)
  (case c25 => k_is)
  (case k25 => k_is)
  (case a26 => k_is)
  (case l26 => k_is)
  (case c26 => k_is)
  (case k26 => k_is)
  (case a27 => k_is)
  (case l27 => k_is)
  (case c27 => k_is)
  (case k27 => k_is)
  (case a28 => k_is)
  (case l28 => k_is)
  (case c28 => k_is)
  (case k28 => k_is)
  (case a29 => k_is)
  (case l29 => k_is)
  (case c29 => k_is)
  (case k29 => k_is)
  (case a30 => k_is)
  (case l30 => k_is)
  (case c30 => k_is)
  (case k30 => k_is)
  (case a31 => k_is)
  (case l31 => k_is)
  (case c31 => k_is)
  (case k31 => k_is)
  (case a32 => k_is)
  (case l32 => k_is)
  (case c32 => k_is)
  (case k32 => k_is)
  (case a33 => k_is)
  (case l33 => k_is)
  (case c33 => k_is)
  (case k33 => k_is)
  (case a34 => k_is)
  (case l34 => k_is)
  (case c34 => k_is)
  (case k34 => k_is)
  (case a35 => k_is)
  (case l35 => k_is)
  (case c35 => k_is)
  (case k35 => k_is)
  (case a36 => k_is)
  (case l36 => k_is)
  (case c36 => k_is)
  (case k36 => k_is)
  (case a37 => k_is)
  (case l37 => k_is)
  (case c37 => k_is)
  (case k37 => k_is)
  (case a38 => k_is)
  (case l38 => k_is)
  (case c38 => k_is)
  (case k38 => k_is)
  (case a39 => k_is)
  (case l39 => k_is)
  (case c39 => k_is)
  (case k39 => k_is)
  (case a40 => k_is)
  (case l40 => k_is)
  (case c40 => k_is)
  (case k40 => k_is)
  (case a41 => k_is)
  (case l41 => k_is)
  (case c41 => k_is)
  (case k41 => k_is)
  (case a42 => k_is)
  (case l42 => k_is)
  (case c42 => k_is)
  (case k42 => k_is)
  (case a43 => k_is)
  (case l43 => k_is)
  (case c43 => k_is)
  (case k43 => k_is)
  (case aL => k_is)
  (case lL => k_is)
  (case cL => k_is)
  (case kL => k_is)
  (case pg => k_is)
  (case hd => k_is)
  (case po => k_is)
  (case sa => k_is)
  (case mk => k_is)
  (case kc => k_is)
  (case nS => k_is)
  (case nL => k_is)
  (case z_all => k_is)
  (case z_isinstance => k_is)
  (case z_str => k_is)
  (case z_int => k_is)
  (case z_bool => k_is)
  (case z_list => k_is)
  (case z_tuple => k_is)
  (case z_len => k_is)
  (case z_range => k_is)
  (case z_abs => k_is)
  (case z_dict => k_is)
  (case z_sum => k_is)
  (case z_set => k_is)
  (case z_reversed => k_is)
  (case z_max => k_is)
  (case z_enumerate => k_is)
  (case z_min => k_is)
  (case z_any => k_is)
  (case gS => k_is)
  (case rS => exact ⟨_, rfl⟩)
  (case gN => k_is)
  (case rN => exact ⟨_, rfl⟩)
  (case gP => k_is)
  (case rP => exact ⟨_, rfl⟩)
  (case gM => k_is)
  (case rM => exact ⟨_, rfl⟩)
