import PyProof.Rows.All
import Wide.All
import OpenK.AllK
import Wide.FinOn
import Lean
import PyProof.EqAt
import PyProof.EqKinds
import PyProof.TupleCall
import PySem.Challenge.RW_netcourt_k62_flows_turned_into_walks
set_option Elab.async false
set_option linter.all false
set_option maxRecDepth 100000
namespace L2
open PySem PySem.Spec PyProof.Rows
abbrev Key := Sum Int Str
def keyIs : Key → Value → Bool
 | .inl k, v => Value.isInt k v
 | .inr x, v => Value.isStrOf x v
def keyH (w : World) : Key → Int
 | .inl k => hashInt k
 | .inr x => hashStr w x
theorem keyIs_shape : ∀ {k : Key} {v : Value}, keyIs k v = true → (∃ i t, k = Sum.inl i ∧ v = Value.int i t) ∨ (∃ x t, k = Sum.inr x ∧ v = Value.str x t)
 | .inl i, v, h => by
  obtain ⟨t, e⟩ := Value.isInt_shape (k := i) (v := v) h
  exact .inl ⟨i, t, rfl, e⟩
 | .inr x, v, h => by
  obtain ⟨t, e⟩ := Value.isStrOf_shape (x := x) (v := v) h
  exact .inr ⟨x, t, rfl, e⟩
theorem keyIs_int (i : Int) (t : Tok) : keyIs (.inl i) (.int i t) = true := by simp [keyIs, Value.isInt]
theorem keyIs_str (x : Str) (t : Tok) : keyIs (.inr x) (.str x t) = true := by simp [keyIs, Value.isStrOf]
theorem key_ll (a b : Int) : decide ((Sum.inl a : Key) = Sum.inl b) = (a == b) := by
 by_cases e : a = b
 ·subst e; simp
 ·have h : ¬ (Sum.inl a : Key) = Sum.inl b := fun q => e (Sum.inl.inj q)
  rw [decide_eq_false h]
  exact (beq_eq_false_iff_ne.mpr e).symm
theorem key_rr (a b : Str) : decide ((Sum.inr a : Key) = Sum.inr b) = decide (a = b) := by
 by_cases e : a = b
 ·subst e; simp
 ·have h : ¬ (Sum.inr a : Key) = Sum.inr b := fun q => e (Sum.inr.inj q)
  rw [decide_eq_false h, decide_eq_false e]
theorem key_lr (a : Int) (b : Str) : decide ((Sum.inl a : Key) = Sum.inr b) = false := decide_eq_false (fun q => nomatch q)
theorem key_rl (a : Str) (b : Int) : decide ((Sum.inr a : Key) = Sum.inl b) = false := decide_eq_false (fun q => nomatch q)
def mixKind (prog : Program) (w : World) : PySem.KeyKind prog w Key where
 is := keyIs
 hash := keyH w
 inj := fun v a b ha hb => by
  rcases keyIs_shape ha with ⟨i, t, rfl, rfl⟩ | ⟨x, t, rfl, rfl⟩
  ·rcases keyIs_shape hb with ⟨j, u, rfl, e⟩ | ⟨y, u, rfl, e⟩
   ·injection e with e1 _; rw [e1]
   ·exact nomatch e
  ·rcases keyIs_shape hb with ⟨j, u, rfl, e⟩ | ⟨y, u, rfl, e⟩
   ·exact nomatch e
   ·injection e with e1 _; rw [e1]
 byValue := fun k v h => by
  rcases keyIs_shape h with ⟨i, t, rfl, rfl⟩ | ⟨x, t, rfl, rfl⟩ <;> rfl
 pyHash := fun hv h => by
  rcases keyIs_shape hv with ⟨i, t, rfl, rfl⟩ | ⟨x, t, rfl, rfl⟩
  ·exact wpAny_pyHash_int h
  ·exact wpAny_pyHash_str h
 eqBool := fun hu hv h => by
  rcases keyIs_shape hu with ⟨i, t, rfl, rfl⟩ | ⟨x, t, rfl, rfl⟩
  ·rcases keyIs_shape hv with ⟨j, u, rfl, rfl⟩ | ⟨y, u, rfl, rfl⟩
   ·rw [key_ll] at h; exact wpAny_eqBool_int h
   ·rw [key_lr] at h; exact SeqAt.EqAt.int_str i t y u _ _ _ _ h
  ·rcases keyIs_shape hv with ⟨j, u, rfl, rfl⟩ | ⟨y, u, rfl, rfl⟩
   ·rw [key_rl] at h; exact SeqAt.EqAt.str_int x t j u _ _ _ _ h
   ·rw [key_rr] at h; exact wpAny_eqBool_str h
 «strs» := fun k x t v h => by
  rcases keyIs_shape h with ⟨i, u, rfl, e⟩ | ⟨y, u, rfl, e⟩
  ·exact nomatch e
  ·injection e with e1 _
   subst e1
   cases v <;> rfl
theorem mixKind_int (prog : Program) (w : World) (i : Int) (t : Tok) : (mixKind prog w).is (.inl i) (.int i t) = true := keyIs_int i t
theorem mixKind_str (prog : Program) (w : World) (x : Str) (t : Tok) : (mixKind prog w).is (.inr x) (.str x t) = true := keyIs_str x t
end L2
namespace L2
open PySem PySem.Spec PyProof.Rows
inductive V where
 | non | bl (b : Bool) | int (i : Int) | str (x : Str) | byt (b : Array UInt8) | flt (b : UInt64) | ref (a : Addr) | ty (n : String)
 deriving DecidableEq
def RelV : V → Value → Prop
 | .non, u => u = Value.none
 | .bl b, u => u = Value.bool b
 | .int i, u => ∃ t, u = Value.int i t
 | .str x, u => ∃ t, u = Value.str x t
 | .byt b, u => ∃ t, u = Value.bytes b t
 | .flt b, u => ∃ t, u = Value.float b t
 | .ref a, u => u = Value.ref a
 | .ty n, u => u = Value.type n
abbrev Vals : List V → List Value → Prop := Paired RelV
theorem Vals.length {xs : List V} {us : List Value} (r : Vals xs us) : xs.length = us.length := Paired.length r
theorem Vals.get : ∀ {xs : List V} {us : List Value} {i : Nat} {x : V}, Vals xs us → xs[i]? = some x → ∃ u, us[i]? = some u ∧ RelV x u
 | _, _, _, _, .nil, e => by simp at e
 | _, _, 0, _, .cons r _, e => by simp at e; subst e; exact ⟨_, rfl, r⟩
 | _, _, i + 1, x, .cons _ t, e => by
  obtain ⟨u, h1, h2⟩ := Vals.get (i := i) (x := x) t (by simpa using e)
  exact ⟨u, by simpa using h1, h2⟩
theorem Vals.append : ∀ {xs ys : List V} {us ws : List Value}, Vals xs us → Vals ys ws → Vals (xs ++ ys) (us ++ ws)
 | _, _, _, _, .nil, s => s
 | _, _, _, _, .cons r t, s => .cons r (Vals.append t s)
theorem Vals.take : ∀ {xs : List V} {us : List Value} (n : Nat), Vals xs us → Vals (xs.take n) (us.take n)
 | _, _, 0, _ => .nil
 | _, _, _ + 1, .nil => .nil
 | _, _, n + 1, .cons r t => .cons r (Vals.take n t)
theorem Vals.drop : ∀ {xs : List V} {us : List Value} (n : Nat), Vals xs us → Vals (xs.drop n) (us.drop n)
 | _, _, 0, r => r
 | _, _, _ + 1, .nil => .nil
 | _, _, n + 1, .cons _ t => Vals.drop n t
def RelO : Option V → Option Value → Prop
 | some v, some u => RelV v u
 | none, none => True
 | _, _ => False
def KV {κ : Type} : List (κ × V) → List (κ × Value) → Prop := Paired fun (p : κ × V) (q : κ × Value) => p.1 = q.1 ∧ RelV p.2 q.2
def kV : Key → V
 | .inl i => .int i
 | .inr x => .str x
inductive HO where
 | lst (xs : List V)
 | tup (xs : List V)
 | dK (kvs : List (Key × V)) | dT (kvs : List (List Key × V))
 | set (S : Int → Bool) (n : Nat)
 | ins (C dx : Addr) (fs : List (Str × V))
 | own (x : Addr)
 | xd (fs : List (Str × V))
 | met (f x : Addr)
 | rng (lo hi : Int)
 | frz (o : Obj) (u : HO)
 | tbl (ps : Array Value)
 | ext (φ : Heap → Prop)
abbrev Hp := Addr → Option HO
def upd (H : Hp) (a : Addr) (o : HO) : Hp := fun b => if b = a then some o else H b
theorem upd_same {H : Hp} {a : Addr} {o : HO} : upd H a o a = some o := by unfold upd; rw [if_pos rfl]
theorem upd_ne {H : Hp} {a b : Addr} {o : HO} (h : b ≠ a) : upd H a o b = H b := by unfold upd; rw [if_neg h]
theorem ne_of {H : Hp} {a b : Addr} {o u : HO} (h : H a = some o) (h' : H b = some u) (d : o ≠ u) : a ≠ b := by
 intro e; subst e; rw [h] at h'; exact d (Option.some.inj h')
theorem ne_of_none {H : Hp} {a b : Addr} {o : HO} (h : H a = some o) (h' : H b = none) : a ≠ b := by
 intro e; subst e; rw [h] at h'; cases h'
section
variable (P : Program) (w : World)
def ObjOk (H : Hp) (h : Heap) (a : Addr) : HO → Prop
 | .lst xs => xs.length ≤ sizeLine ∧ ∃ (its : List Value) (n : Nat), Vals xs its ∧ h.get? a = some { cls := .type "list", data := .seq its.toArray n }
 | .tup xs => xs.length ≤ sizeLine ∧ ∃ its : List Value, Vals xs its ∧ IsTup h a its.toArray
 | .dK kvs => kvs.length ≤ sizeLine ∧ (a == sysModules) = false ∧ ∃ vs, KV kvs vs ∧ h.DictOf (mixKind P w) a vs
 | .dT kvs => kvs.length ≤ sizeLine ∧ (a == sysModules) = false ∧ ∃ xs : List (List Key × Addr × Value),
   Paired (fun (p : List Key × V) (q : List Key × Addr × Value) => p.1 = q.1 ∧ H q.2.1 = some (.tup (p.1.map kV)) ∧ RelV p.2 q.2.2) kvs xs ∧
   ∃ o es ep, h.get? a = some o ∧ o.ExactDict ∧ o.data = .dict es ep ∧ es.toList = xs.map (entryOfKey (tupleKind (mixKind P w))) ∧ (xs.map (·.1)).Nodup
 | .set S n => h.SetOf (intKind P w) a S n
 | .ins C dx fs => H dx = some (.own a) ∧ fs.length ≤ 1000 ∧ dx ≠ a ∧ h.get? a = some (PySem.W.instObj C dx) ∧
   ∃ mA, h.Ns1 dx mA ∧ (∀ f, RelO (fs.lookup f) (mA f)) ∧ PySem.Within mA (fs.map (·.1))
 | .own _ => ∃ o, h.get? a = some o
 | .xd fs => ∃ mA, h.Ns1 a mA ∧ ∀ f, RelO (fs.lookup f) (mA f)
 | .rng lo hi => ∃ t u v, h.get? a = some { cls := .type "range", data := .fields #[.int lo t, .int hi u, .int 1 v] }
 | .frz o u => h.get? a = some o ∧ ObjOk H h a u
 | .tbl ps => h.get? a = some { cls := .none, data := .fields ps }
 | .met f x => h.get? a = some (PySem.W.methodObj (.ref f) (.ref x))
 | .ext φ => φ h ∧ (∃ o, h.get? a = some o) ∧ ∀ h1 h2 : Heap, φ h1 → (∀ o, h1.get? a = some o → h2.get? a = some o) → φ h2
def HOk (H : Hp) (h : Heap) : Prop := ∀ a o, H a = some o → ObjOk P w H h a o
end
section
variable {P : Program} {w : World} {H H' : Hp} {h h' : Heap} {a : Addr} {o : HO}
theorem ObjOk.lt (x : ObjOk P w H h a o) : a < h.objs.size := by
 cases o with
 | lst xs => obtain ⟨_, _, _, _, e⟩ := x; exact Heap.lt_size e
 | tup xs => obtain ⟨_, _, _, p⟩ := x; exact p.lt
 | dK kvs => obtain ⟨_, _, _, _, o, _, _, e, _⟩ := x; exact Heap.lt_size e
 | dT kvs => obtain ⟨_, _, _, _, o, _, _, e, _⟩ := x; exact Heap.lt_size e
 | set S n => obtain ⟨o, _, _, _, e, _⟩ := x; exact Heap.lt_size e
 | ins C dx fs => obtain ⟨_, _, _, e, _⟩ := x; exact Heap.lt_size e
 | own y => obtain ⟨_, e⟩ := x; exact Heap.lt_size e
 | xd fs => obtain ⟨_, ⟨_, _, _, e, _⟩, _⟩ := x; exact Heap.lt_size e
 | rng lo hi => obtain ⟨_, _, _, e⟩ := x; exact Heap.lt_size e
 | frz ob u => obtain ⟨e, _⟩ := x; exact Heap.lt_size e
 | tbl ps => exact Heap.lt_size (show h.get? a = some _ from x)
 | met f y => exact Heap.lt_size (show h.get? a = some _ from x)
 | ext φ => obtain ⟨_, ⟨_, e⟩, _⟩ := x; exact Heap.lt_size e
theorem Paired.mapP {α β : Type} {F G : α → β → Prop} : ∀ {l₁ : List α} {l₂ : List β}, Paired F l₁ l₂ → (∀ a b, F a b → G a b) → Paired G l₁ l₂
 | _, _, .nil, _ => .nil
 | _, _, .cons r t, f => .cons (f _ _ r) (Paired.mapP t f)
theorem ObjOk.stay (x : ObjOk P w H h a o) (k : ∀ b u, (b = a ∨ H b = some (.own a)) → h.get? b = some u → h'.get? b = some u)
  (ho : ∀ b, H b = some (.own a) → H' b = some (.own a)) (ht : ∀ b xs, H b = some (.tup xs) → H' b = some (.tup xs)) : ObjOk P w H' h' a o := by
 induction o with
 | lst xs => obtain ⟨z, its, n, r, e⟩ := x; exact ⟨z, its, n, r, k _ _ (.inl rfl) e⟩
 | tup xs => obtain ⟨z, its, r, ob, e, c⟩ := x; exact ⟨z, its, r, ob, k _ _ (.inl rfl) e, c⟩
 | dK kvs => obtain ⟨z, y, vs, r, ob, es, ep, e, c⟩ := x; exact ⟨z, y, vs, r, ob, es, ep, k _ _ (.inl rfl) e, c⟩
 | dT kvs =>
  obtain ⟨z, y, xs, r, ob, es, ep, e, c⟩ := x
  exact ⟨z, y, xs, Paired.mapP r fun p q z => ⟨z.1, ht _ _ z.2.1, z.2.2⟩, ob, es, ep, k _ _ (.inl rfl) e, c⟩
 | set S n => obtain ⟨ob, es, ep, t, e, c⟩ := x; exact ⟨ob, es, ep, t, k _ _ (.inl rfl) e, c⟩
 | ins C dx fs =>
  obtain ⟨d, z, ne, e, mA, ⟨od, es, ep, e2, c⟩, r⟩ := x
  exact ⟨ho _ d, z, ne, k _ _ (.inl rfl) e, mA, ⟨od, es, ep, k _ _ (.inr d) e2, c⟩, r⟩
 | own y => obtain ⟨ob, e⟩ := x; exact ⟨ob, k _ _ (.inl rfl) e⟩
 | xd fs => obtain ⟨mA, ⟨od, es, ep, e, c⟩, r⟩ := x; exact ⟨mA, ⟨od, es, ep, k _ _ (.inl rfl) e, c⟩, r⟩
 | rng lo hi => obtain ⟨t, u, v, e⟩ := x; exact ⟨t, u, v, k _ _ (.inl rfl) e⟩
 | frz ob u ih => obtain ⟨e, q⟩ := x; exact ⟨k _ _ (.inl rfl) e, ih q⟩
 | tbl ps =>
  have e : h.get? a = some { cls := .none, data := .fields ps } := x
  show h'.get? a = some { cls := .none, data := .fields ps }
  exact k a _ (.inl rfl) e
 | met f y =>
  have e : h.get? a = some (PySem.W.methodObj (.ref f) (.ref y)) := x
  show h'.get? a = some (PySem.W.methodObj (.ref f) (.ref y))
  exact k a _ (.inl rfl) e
 | ext φ => obtain ⟨p, ⟨o, e⟩, st⟩ := x; exact ⟨st _ _ p fun o q => k _ _ (.inl rfl) q, ⟨o, k _ _ (.inl rfl) e⟩, st⟩
theorem HOk.lt (x : HOk P w H h) (e : H a = some o) : a < h.objs.size := (x a o e).lt
theorem HOk.fresh (x : HOk P w H h) (e : h.objs.size ≤ a) : H a = none := by
 cases q : H a with
 | none => rfl
 | some u => exact absurd (Nat.lt_of_lt_of_le (x.lt q) e) (Nat.lt_irrefl _)
theorem HOk.kept (x : HOk P w H h) (k : ∀ b u, h.get? b = some u → h'.get? b = some u) : HOk P w H h' := fun a o e =>
 (x a o e).stay (fun b u _ q => k b u q) (fun _ q => q) fun _ _ q => q
theorem HOk.laid (x : HOk P w H h) (k : ∀ b u, h.get? b = some u → h'.get? b = some u) (hp : h.objs.size ≤ a) (new : ObjOk P w (upd H a o) h' a o) : HOk P w (upd H a o) h' := fun b u e => by
 have hn := x.fresh hp
 by_cases hb : b = a
 ·subst hb; rw [upd_same] at e; cases e; exact new
 ·rw [upd_ne hb] at e
  exact (x b u e).stay (fun c v _ q => k c v q) (fun c q => by rw [upd_ne (ne_of_none q hn)]; exact q) fun c xs q => by rw [upd_ne (ne_of_none q hn)]; exact q
end
def Rd (H : Hp) (a : Addr) (u : HO) : Prop := H a = some u ∨ ∃ o, H a = some (.frz o u)
theorem Rd.ok {P : Program} {w : World} {H : Hp} {h : Heap} {a : Addr} {u : HO} (r : Rd H a u) (x : HOk P w H h) : ObjOk P w H h a u := by
 rcases r with r | ⟨o, r⟩
 ·exact x a u r
 ·obtain ⟨_, q⟩ := x a _ r
  exact q
def Mut : Option HO → Prop
 | some (.lst _) => True
 | some (.dK _) => True
 | some (.dT _) => True
 | some (.set _ _) => True
 | some (.ins _ _ _) => True
 | some (.ext _) => True
 | _ => False
section
variable {P : Program} {w : World} {H : Hp} {h h' : Heap} {x e : Addr} {o' : HO}
theorem HOk.write (ok : HOk P w H h) (mu : Mut (H x)) (he : e = x ∨ H e = some (.own x)) (k : ∀ b u, b ≠ e → h.get? b = some u → h'.get? b = some u) (heo : ∃ u, h'.get? e = some u)
  (new : ObjOk P w (upd H x o') h' x o') : HOk P w (upd H x o') h' := fun b u q => by
 have nown : ∀ c y, H c = some (.own y) → c ≠ x := fun c y r z => by subst z; rw [r] at mu; exact mu
 have ntup : ∀ c xs, H c = some (.tup xs) → c ≠ x := fun c xs r z => by subst z; rw [r] at mu; exact mu
 by_cases hb : b = x
 ·subst hb; rw [upd_same] at q; cases q; exact new
 ·rw [upd_ne hb] at q
  by_cases hbe : b = e
  ·have q' : H b = some (.own x) := by
    rcases he with z | z
    ·exact absurd (hbe.trans z) hb
    ·rw [hbe]; exact z
   rw [q] at q'; cases q'
   obtain ⟨v, hv⟩ := heo
   exact ⟨v, by rw [hbe]; exact hv⟩
  ·refine (ok b u q).stay (fun c v hc r => k c v ?_ r) (fun c r => by rw [upd_ne (nown c b r)]; exact r) fun c xs r => by rw [upd_ne (ntup c xs r)]; exact r
   rcases hc with rfl | hc
   ·exact hbe
   ·rintro rfl
    rcases he with z | z
    ·exact nown c b hc z
    ·rw [hc] at z; cases z; exact hb rfl
end
structure Un (fs ex : List Addr) (H H' : Hp) (h h' : Heap) : Prop where
 keep : ∀ b o, h.get? b = some o → H b = none → b ∉ fs → b ∉ ex → h'.get? b = some o
 slot : ∀ b o, h.get? b = some o → H b = none → b ∈ fs → b ∉ ex → ∃ sl, h'.get? b = some { o with slots := sl }
 free : ∀ b o, h.get? b = some o → H b = none → b ∉ ex → H' b = none
 there : ∀ b o, h.get? b = some o → b ∉ ex → ∃ o', h'.get? b = some o'
 tups : ∀ b xs, H b = some (.tup xs) → H' b = some (.tup xs)
 frzs : ∀ b o u, H b = some (.frz o u) → H' b = some (.frz o u)
 tbls : ∀ b ps, H b = some (.tbl ps) → ∃ more, H' b = some (.tbl (ps ++ more))
section
variable {fs fs' ex ex' : List Addr} {H H1 H2 : Hp} {h h1 h2 h' : Heap} {a x e : Addr} {o : HO}
theorem Un.any (u : Un fs ex H H1 h h1) {b : Addr} {ob : Obj} (q : h.get? b = some ob) (n : H b = none) (hx : b ∉ ex) : ∃ sl, h1.get? b = some { ob with slots := sl } := by
 by_cases hb : b ∈ fs
 ·exact u.slot b ob q n hb hx
 ·exact ⟨ob.slots, u.keep b ob q n hb hx⟩
theorem Un.kept (k : ∀ b u, h.get? b = some u → h'.get? b = some u) : Un fs ex H H h h' :=
 ⟨fun b ob q _ _ _ => k b ob q, fun b ob q _ _ _ => ⟨ob.slots, k b ob q⟩, fun _ _ _ n _ => n, fun b ob q _ => ⟨ob, k b ob q⟩, fun _ _ q => q, fun _ _ _ q => q, fun _ ps q => ⟨#[], by rw [q]; simp⟩⟩
theorem Un.refl : Un fs ex H H h h := Un.kept fun _ _ q => q
theorem Un.laid (k : ∀ b u, h.get? b = some u → h'.get? b = some u) (hp : h.objs.size ≤ a) (hn : H a = none) : Un fs ex H (upd H a o) h h' where
 keep := fun b u q _ _ _ => k b u q
 slot := fun b u q _ _ _ => ⟨u.slots, k b u q⟩
 free := fun b u q n _ => by rw [upd_ne (Nat.ne_of_lt (Nat.lt_of_lt_of_le (Heap.lt_size q) hp))]; exact n
 there := fun b u q _ => ⟨u, k b u q⟩
 tups := fun b xs q => by rw [upd_ne (ne_of_none q hn)]; exact q
 frzs := fun b u xs q => by rw [upd_ne (ne_of_none q hn)]; exact q
 tbls := fun b ps q => ⟨#[], by rw [upd_ne (ne_of_none q hn), q]; simp⟩
theorem Un.write (mu : Mut (H x)) (he : e = x ∨ H e = some (.own x)) (k : ∀ b u, b ≠ e → h.get? b = some u → h'.get? b = some u) (heo : ∃ u, h'.get? e = some u) : Un fs ex H (upd H x o) h h' := by
 have hx : ∀ b, H b = none → b ≠ x := fun b n z => by subst z; rw [n] at mu; exact mu
 have hb : ∀ b, H b = none → b ≠ e := fun b n z => by
  subst z
  rcases he with r | r
  ·exact hx b n r
  ·rw [n] at r; cases r
 have hm : ∀ b u, H b = some u → ¬ Mut (some u) → b ≠ x := fun b u q nm z => by subst z; rw [q] at mu; exact nm mu
 refine ⟨fun b u q n _ _ => k b u (hb b n) q, fun b u q n _ _ => ⟨u.slots, k b u (hb b n) q⟩, fun b u q n _ => by rw [upd_ne (hx b n)]; exact n, fun b u q _ => ?_,
  fun b xs q => by rw [upd_ne (hm b _ q fun z => z)]; exact q, fun b u xs q => by rw [upd_ne (hm b _ q fun z => z)]; exact q, fun b ps q => ⟨#[], by rw [upd_ne (hm b _ q fun z => z), q]; simp⟩⟩
 by_cases hbe : b = e
 ·subst hbe; exact heo
 ·exact ⟨u, k b u hbe q⟩
end
def trk (h : Heap) (H : Hp) : List Addr := (List.range h.objs.size).filter fun a => (H a).isSome
def hidT (h : Heap) (H : Hp) : Heap := PySem.W.hideAll h (trk h H)
theorem hidT_size (h : Heap) (H : Hp) : (hidT h H).objs.size = h.objs.size := PySem.W.hideAll_size _ _
theorem hidT_get {h : Heap} {H : Hp} {b : Addr} {o : Obj} (e : h.get? b = some o) (n : H b = none) : (hidT h H).get? b = some o :=
 PySem.W.hideAll_get _ e fun hm => by
  have q : (H b).isSome = true := (List.mem_filter.mp hm).2
  rw [n] at q; simp at q
theorem of_hidT {h : Heap} {H : Hp} {b : Addr} {o : Obj} (e : (hidT h H).get? b = some o) : h.get? b = some o ∧ H b = none := by
 have e' : h.get? b = some o := PySem.W.of_hideAll (trk h H) e
 refine ⟨e', ?_⟩
 cases q : H b with
 | none => rfl
 | some x =>
  have hm : b ∈ trk h H := List.mem_filter.mpr ⟨List.mem_range.mpr (Heap.lt_size e'), by simp [q]⟩
  have z : (hidT h H).get? b = none := PySem.W.hideAll_none (trk h H) hm
  rw [z] at e; cases e
end L2
namespace L2
open PySem PySem.Spec PyProof.Rows
structure Mod (K : PySem.W.Frag) (mg : Str → Option Value) (base : Heap) : Prop where
 kin : K.In base
 glob : base.Ns mainGlobals mg
 blt : ∃ mb, base.Ns builtinsNs mb ∧ ∀ x : Str, x ≠ "__name__" → mb x = bootBuiltins x
 nolimit : base.NoLimit
structure Cx where
 prog : Program
 w : World
 K : PySem.W.Frag
 mg : Str → Option Value
 base : Heap
 A : Around
 N : List Str
 s₀ : Shared
 H₀ : Hp
 env : Env
 outer : List Env
 stack : List Env
 ex : List Addr
 fn : Str → Bool
 calm : Bool
 pn : List (Addr × Obj)
 xe : Value → Shared → Prop
def frs (l : List Env) : List Addr := l.filterMap (·.frame)
abbrev Cx.fs (X : Cx) : List Addr := frs X.outer
def Vis (sc : Scope) (x : Str) : Prop := sc.names.lookup x = some .local ∨ sc.names.lookup x = some .cell ∨ sc.names.lookup x = some .free
def Loc (sc : Scope) (x : Str) : Prop := sc.names.lookup x = some .local ∨ sc.names.lookup x = some .cell
def Look (env : Env) (h : Heap) (m : Str → Option Value) (x : Str) (u : Value) : Prop :=
 (env.kindOf x = some .local ∧ m x = some u) ∨ ((env.kindOf x = some .cell ∨ env.kindOf x = some .free) ∧ ∃ c, env.cells.lookup x = some c ∧ h.IsCell c (some u))
structure Cx.Ok (X : Cx) : Prop where
 mod : Mod X.K X.mg X.base
 kind : X.env.scope.kind = .function
 glob : X.env.globals = mainGlobals
 blt : X.env.builtins = builtinsNs
 above : X.s₀.heap.objs.size ≤ X.env.locals
 inj : ∀ x y c, X.env.cells.lookup x = some c → X.env.cells.lookup y = some c → x = y
 has : ∀ x, (X.env.kindOf x = some .cell ∨ X.env.kindOf x = some .free) → ∃ c, X.env.cells.lookup x = some c
 cab : ∀ x c, X.fn x = true → X.env.cells.lookup x = some c → X.s₀.heap.objs.size ≤ c
 hd : X.calm = true → X.A.handled = none
 frames : X.A.frames = some X.stack
 stk : X.stack = X.outer ∨ (X.stack = X.env :: X.outer ∧ X.env.frame = some X.env.locals)
 exf : ∀ b ∈ X.ex, b ≠ X.env.locals ∧ ∀ x c, X.env.cells.lookup x = some c → c ≠ b
 bs : ∀ b o, X.base.get? b = some o → X.s₀.heap.get? b = some o ∧ X.H₀ b = none
 bsz : X.base.objs.size ≤ X.s₀.heap.objs.size
 noex : ∀ b o, X.base.get? b = some o → b ∉ X.ex
 exfs : ∀ b ∈ X.ex, b ∉ X.fs
 funs : X.s₀.heap.FunFrames X.base X.outer
 frf : ∀ b ∈ X.fs, X.H₀ b = none
structure Inv (X : Cx) (pins : List (Addr × Obj)) (σ : List (Option V)) (H : Hp) (s : Shared) : Prop where
 ok : X.Ok
 os : s.os = X.s₀.os
 bare : AllBare s.gens
 base : Un X.fs X.ex X.H₀ H X.s₀.heap s.heap
 loc : ∃ m, s.heap.Ns X.env.locals m ∧ ∀ (i : Nat) (x : Str) (v : V), X.N[i]? = some x → σ[i]? = some (some v) → Vis X.env.scope x → ∃ u, RelV v u ∧ Look X.env s.heap m x u
 cell : ∀ x c, X.env.cells.lookup x = some c → ∃ v, s.heap.IsCell c v
 free : H X.env.locals = none
 freeC : ∀ x c, X.env.cells.lookup x = some c → H c = none
 pin : ∀ p ∈ X.pn ++ pins, s.heap.get? p.1 = some p.2 ∧ H p.1 = none ∧ p.1 ≠ X.env.locals ∧ p.1 ∉ X.fs ∧ ∀ v, p.2.data ≠ .cell v
 hok : HOk X.prog X.w H s.heap
 len : σ.length = X.N.length
section
variable {X : Cx} {pins : List (Addr × Obj)} {σ : List (Option V)} {H H' : Hp} {s : Shared} {h' : Heap}
theorem Cx.Ok.nofr (ok : X.Ok) {b : Addr} {o : Obj} (e : X.base.get? b = some o) : b ∉ X.fs := fun hb => by
 have := (ok.funs.mem hb).1
 rw [e] at this; cases this
theorem Inv.bs (I : Inv X pins σ H s) : ∀ b o, X.base.get? b = some o → s.heap.get? b = some o ∧ H b = none := fun b o e =>
 ⟨I.base.keep b o (I.ok.bs b o e).1 (I.ok.bs b o e).2 (I.ok.nofr e) (I.ok.noex b o e), I.base.free b o (I.ok.bs b o e).1 (I.ok.bs b o e).2 (I.ok.noex b o e)⟩
theorem Inv.bk (I : Inv X pins σ H s) : ∀ b o, X.base.get? b = some o → s.heap.get? b = some o := fun b o e => (I.bs b o e).1
theorem Inv.mod (I : Inv X pins σ H s) : Mod X.K X.mg X.base := I.ok.mod
theorem Inv.kIn (I : Inv X pins σ H s) : X.K.In s.heap := I.ok.mod.kin.keeps I.bk
theorem Inv.lt (I : Inv X pins σ H s) : X.env.locals < s.heap.objs.size := let ⟨_, hn, _⟩ := I.loc; hn.lt
theorem Inv.sz (I : Inv X pins σ H s) : X.s₀.heap.objs.size ≤ s.heap.objs.size := Nat.le_trans I.ok.above (Nat.le_of_lt I.lt)
theorem Inv.nofs (I : Inv X pins σ H s) {a : Addr} (h : s.heap.objs.size ≤ a) : a ∉ X.fs := fun hb => by
 obtain ⟨_, o, ho, _⟩ := I.ok.funs.mem hb
 exact absurd (Nat.lt_of_lt_of_le (Heap.lt_size ho) (Nat.le_trans I.sz h)) (Nat.lt_irrefl _)
theorem Inv.cne (I : Inv X pins σ H s) : ∀ x c, X.env.cells.lookup x = some c → c ≠ X.env.locals := fun x c e z => by
 obtain ⟨v, o, ho, hd⟩ := I.cell x c e
 obtain ⟨m, ⟨o', es, ep, ho', hd', _⟩, _⟩ := I.loc
 rw [z, ho'] at ho; cases ho; rw [hd'] at hd; cases hd
theorem Inv.funs (I : Inv X pins σ H s) : s.heap.FunFrames X.base X.outer := by
 have all : ∀ (l : List Env), (∀ b ∈ frs l, b ∈ X.fs) → X.s₀.heap.FunFrames X.base l → s.heap.FunFrames X.base l := by
  intro l
  induction l with
  | nil => intro _ _; trivial
  | cons env r ih =>
   intro hs hl
   obtain ⟨hk, ⟨L, o, hf, hn, ho, hd⟩, hr⟩ := hl
   have hL : L ∈ X.fs := hs L (by unfold frs; rw [List.filterMap_cons, hf]; exact List.mem_cons_self)
   obtain ⟨sl, e⟩ := I.base.slot L o ho (I.ok.frf L hL) hL fun z => I.ok.exfs L z hL
   exact ⟨hk, ⟨L, _, hf, hn, e, hd⟩, ih (fun b hb => hs b (by unfold frs; rw [List.filterMap_cons, hf]; exact List.mem_cons_of_mem _ hb)) hr⟩
 exact all X.outer (fun _ hb => hb) I.ok.funs
theorem Inv.stack (I : Inv X pins σ H s) : s.heap.FunFrames X.base X.stack := by
 rcases I.ok.stk with e | ⟨e, hf⟩
 ·rw [e]; exact I.funs
 ·rw [e]
  obtain ⟨m, hn, _⟩ := I.loc
  refine .cons (by rw [I.ok.kind]; decide) hf hn ?_ I.funs
  exact Heap.get?_none_of_le (Nat.le_trans I.ok.bsz I.ok.above)
theorem Inv.stkSub (I : Inv X pins σ H s) : ∀ b ∈ frs X.stack, b ∈ X.env.locals :: X.fs := fun b hb => by
 rcases I.ok.stk with e | ⟨e, hf⟩
 ·rw [e] at hb; exact List.mem_cons_of_mem _ hb
 ·rw [e] at hb
  unfold frs at hb
  rw [List.filterMap_cons, hf] at hb
  exact hb
theorem Inv.stkFree (I : Inv X pins σ H s) : ∀ b ∈ frs X.stack, H b = none := fun b hb => by
 rcases List.mem_cons.mp (I.stkSub b hb) with e | hb
 ·rw [e]; exact I.free
 ·obtain ⟨_, o, ho, _⟩ := I.ok.funs.mem hb
  exact I.base.free b o ho (I.ok.frf b hb) fun z => I.ok.exfs b z hb
theorem Inv.step {g' : Array GenState} {t' : Nat} {d' : Drawn} {ch : List Addr} (I : Inv X pins σ H s)
  (hch : ∀ b ∈ ch, (b ∈ X.ex ∨ X.s₀.heap.objs.size ≤ b) ∧ b ≠ X.env.locals ∧ (∀ x c, X.env.cells.lookup x = some c → c ≠ b) ∧ ∀ p ∈ X.pn ++ pins, p.1 ≠ b)
  (keep : ∀ b o, b ≠ X.env.locals → b ∉ X.fs → b ∉ ch → s.heap.get? b = some o → H b = none → h'.get? b = some o)
  (slot : ∀ b o, b ≠ X.env.locals → b ∈ X.fs → b ∉ ch → s.heap.get? b = some o → H b = none → ∃ sl, h'.get? b = some { o with slots := sl }) (free : ∀ b o, b ∉ ch → s.heap.get? b = some o → H b = none → H' b = none)
  (there : ∀ b o, b ∉ ch → s.heap.get? b = some o → ∃ o', h'.get? b = some o')
  (tups : ∀ b xs, H b = some (.tup xs) → H' b = some (.tup xs)) (frzs : ∀ b o u, H b = some (.frz o u) → H' b = some (.frz o u)) (tbls : ∀ b ps, H b = some (.tbl ps) → ∃ more, H' b = some (.tbl (ps ++ more)))
  (ns : ∀ m, s.heap.Ns X.env.locals m → h'.Ns X.env.locals m) (hok : HOk X.prog X.w H' h') (hg : AllBare g') :
  Inv X pins σ H' { s with heap := h', gens := g', drawn := d', toks := t' } := by
 have neL : ∀ b o, X.s₀.heap.get? b = some o → b ≠ X.env.locals := fun b o e => Nat.ne_of_lt (Nat.lt_of_lt_of_le (Heap.lt_size e) I.ok.above)
 have neC : ∀ b o, X.s₀.heap.get? b = some o → b ∉ X.ex → b ∉ ch := fun b o e hx hb => by
  rcases (hch b hb).1 with z | z
  ·exact hx z
  ·exact absurd (Nat.lt_of_lt_of_le (Heap.lt_size e) z) (Nat.lt_irrefl _)
 have cellK : ∀ x c, X.env.cells.lookup x = some c → ∀ v, s.heap.IsCell c v → h'.IsCell c v := fun x c e v ⟨o, ho, hd⟩ => by
  have nch : c ∉ ch := fun z => (hch c z).2.2.1 x c e rfl
  by_cases hc : c ∈ X.fs
  ·obtain ⟨sl, q⟩ := slot c o (I.cne x c e) hc nch ho (I.freeC x c e)
   exact ⟨_, q, hd⟩
  ·exact ⟨o, keep c o (I.cne x c e) hc nch ho (I.freeC x c e), hd⟩
 refine ⟨I.ok, I.os, hg, ⟨fun b o e n hb hx => ?_, fun b o e n hb hx => ?_, fun b o e n hx => ?_, fun b o e hx => ?_, fun b xs e => tups b xs (I.base.tups b xs e), fun b o xs e => frzs b o xs (I.base.frzs b o xs e), fun b ps e => ?_⟩, ?_, fun x c e => ?_, ?_, fun x c e => ?_, fun p hp => ?_, hok, I.len⟩
 ·exact keep b o (neL b o e) hb (neC b o e hx) (I.base.keep b o e n hb hx) (I.base.free b o e n hx)
 ·obtain ⟨sl, e1⟩ := I.base.slot b o e n hb hx
  obtain ⟨sl', e2⟩ := slot b _ (neL b o e) hb (neC b o e hx) e1 (I.base.free b o e n hx)
  exact ⟨sl', e2⟩
 ·obtain ⟨o', e1⟩ := I.base.there b o e hx
  exact free b o' (neC b o e hx) e1 (I.base.free b o e n hx)
 ·obtain ⟨o', e1⟩ := I.base.there b o e hx
  exact there b o' (neC b o e hx) e1
 ·obtain ⟨m1, e1⟩ := I.base.tbls b ps e
  obtain ⟨m2, e2⟩ := tbls b _ e1
  exact ⟨m1 ++ m2, by rw [e2, Array.append_assoc]⟩
 ·obtain ⟨m, hn, hl⟩ := I.loc
  refine ⟨m, ns m hn, fun i x v e1 e2 e3 => ?_⟩
  obtain ⟨u, r, l⟩ := hl i x v e1 e2 e3
  refine ⟨u, r, ?_⟩
  rcases l with l | ⟨k, c, e, z⟩
  ·exact .inl l
  ·exact .inr ⟨k, c, e, cellK x c e _ z⟩
 ·obtain ⟨v, z⟩ := I.cell x c e
  exact ⟨v, cellK x c e v z⟩
 ·obtain ⟨m, ⟨o, _, _, ho, _⟩, _⟩ := I.loc
  exact free _ o (fun z => (hch _ z).2.1 rfl) ho I.free
 ·obtain ⟨v, o, ho, hd⟩ := I.cell x c e
  exact free c o (fun z => (hch c z).2.2.1 x c e rfl) ho (I.freeC x c e)
 ·obtain ⟨e, n, ne, nf, d⟩ := I.pin p hp
  have nch : p.1 ∉ ch := fun z => (hch p.1 z).2.2.2 p hp rfl
  exact ⟨keep p.1 p.2 ne nf nch e n, free p.1 p.2 nch e n, ne, nf, d⟩
theorem Inv.un {t' : Nat} (I : Inv X pins σ H s) (u : Un X.fs [] H H' s.heap h') (hok : HOk X.prog X.w H' h') : Inv X pins σ H' { s with heap := h', toks := t' } := by
 obtain ⟨m, ⟨o, es, ep, ho, r⟩, _⟩ := id I.loc
 obtain ⟨sl, hL⟩ := u.any ho I.free (by simp)
 exact I.step (g' := s.gens) (d' := s.drawn) (ch := []) (fun _ z => nomatch z) (fun b o _ hb _ e n => u.keep b o e n hb (by simp)) (fun b o _ hb _ e n => u.slot b o e n hb (by simp)) (fun b o _ e n => u.free b o e n (by simp)) (fun b o _ e => u.there b o e (by simp)) u.tups u.frzs u.tbls (fun m' hm => by
  obtain ⟨o', es', ep', ho', r'⟩ := hm
  rw [ho] at ho'; cases ho'
  exact ⟨_, es', ep', hL, r'⟩) hok I.bare
theorem Inv.call {g' : Array GenState} {t' : Nat} {d' : Drawn} {ch : List Addr} (I : Inv X pins σ H s) (u : Un (frs X.stack) ch H H' s.heap h') (hok : HOk X.prog X.w H' h') (hg : AllBare g')
  (hch : ∀ b ∈ ch, (b ∈ X.ex ∨ X.s₀.heap.objs.size ≤ b) ∧ b ≠ X.env.locals ∧ (∀ x c, X.env.cells.lookup x = some c → c ≠ b) ∧ ∀ p ∈ X.pn ++ pins, p.1 ≠ b) :
  Inv X pins σ H' { s with heap := h', gens := g', drawn := d', toks := t' } := by
 obtain ⟨m, ⟨o, es, ep, ho, r⟩, _⟩ := id I.loc
 obtain ⟨sl, hL⟩ := u.any ho I.free fun z => (hch _ z).2.1 rfl
 exact I.step (ch := ch) hch (fun b o hL hb hc e n => u.keep b o e n (fun z => (List.mem_cons.mp (I.stkSub b z)).elim hL hb) hc) (fun b o _ _ hc e n => u.any e n hc) (fun b o hc e n => u.free b o e n hc) (fun b o hc e => u.there b o e hc) u.tups u.frzs u.tbls (fun m' hm => by
  obtain ⟨o', es', ep', ho', r'⟩ := hm
  rw [ho] at ho'; cases ho'
  exact ⟨_, es', ep', hL, r'⟩) hok hg
theorem Inv.turned {t' : Nat} {it : Addr} (I : Inv X pins σ H s) (k : ∀ b o, b ≠ it → s.heap.get? b = some o → h'.get? b = some o) (hn : H it = none) (hL : it ≠ X.env.locals)
  (h1 : it ∈ X.ex ∨ X.s₀.heap.objs.size ≤ it) (h2 : ∀ x c, X.env.cells.lookup x = some c → c ≠ it) (h3 : ∀ p ∈ X.pn ++ pins, p.1 ≠ it) : Inv X pins σ H { s with heap := h', toks := t' } := by
 have nit : ∀ b u, H b = some u → b ≠ it := fun b u e z => by rw [z, hn] at e; cases e
 refine I.step (g' := s.gens) (d' := s.drawn) (ch := [it]) (fun b hb => ?_) (fun b o _ _ hc e _ => k b o (fun z => hc (by simp [z])) e) (fun b o _ _ hc e _ => ⟨o.slots, k b o (fun z => hc (by simp [z])) e⟩) (fun _ _ _ _ n => n)
  (fun b o hc e => ⟨o, k b o (fun z => hc (by simp [z])) e⟩) (fun _ _ e => e) (fun _ _ _ e => e) (fun b ps e => ⟨#[], by rw [e]; simp⟩) (fun m hm => ?_) (fun b u e => ?_) I.bare
 ·have e : b = it := by simpa using hb
  subst e
  exact ⟨h1, hL, h2, h3⟩
 ·obtain ⟨o, es, ep, ho, r⟩ := hm
  exact ⟨o, es, ep, k _ o (Ne.symm hL) ho, r⟩
 ·refine (I.hok b u e).stay (fun c v hc q => k c v ?_ q) (fun _ q => q) fun _ _ q => q
  rcases hc with z | z
  ·rw [z]; exact nit b u e
  ·exact nit c _ z
theorem Inv.tok (I : Inv X pins σ H s) (t : Nat) : Inv X pins σ H { s with toks := t } := I.un (h' := s.heap) (t' := t) Un.refl I.hok
theorem Inv.kept {t' : Nat} (I : Inv X pins σ H s) (k : ∀ b u, s.heap.get? b = some u → h'.get? b = some u) : Inv X pins σ H { s with heap := h', toks := t' } := I.un (Un.kept k) (I.hok.kept k)
theorem Inv.laid {a : Addr} {o : HO} {t' : Nat} (I : Inv X pins σ H s) (k : ∀ b u, s.heap.get? b = some u → h'.get? b = some u) (hp : s.heap.objs.size ≤ a) (new : ObjOk X.prog X.w (upd H a o) h' a o) :
  Inv X pins σ (upd H a o) { s with heap := h', toks := t' } := I.un (Un.laid k hp (I.hok.fresh hp)) (I.hok.laid k hp new)
theorem Inv.write {x e : Addr} {o : HO} {t' : Nat} (I : Inv X pins σ H s) (mu : Mut (H x)) (he : e = x ∨ H e = some (.own x)) (k : ∀ b u, b ≠ e → s.heap.get? b = some u → h'.get? b = some u) (heo : ∃ u, h'.get? e = some u)
  (new : ObjOk X.prog X.w (upd H x o) h' x o) : Inv X pins σ (upd H x o) { s with heap := h', toks := t' } := I.un (Un.write mu he k heo) (I.hok.write mu he k heo new)
theorem Inv.pins_of {pins' : List (Addr × Obj)} (I : Inv X pins σ H s) (h : ∀ p ∈ pins', s.heap.get? p.1 = some p.2 ∧ H p.1 = none ∧ p.1 ≠ X.env.locals ∧ p.1 ∉ X.fs ∧ ∀ v, p.2.data ≠ .cell v) : Inv X pins' σ H s :=
 ⟨I.ok, I.os, I.bare, I.base, I.loc, I.cell, I.free, I.freeC, fun p hp => (List.mem_append.mp hp).elim (fun z => I.pin p (List.mem_append_left _ z)) (h p), I.hok, I.len⟩
theorem nodup_ix {N : List Str} (hN : N.Nodup) {i j : Nat} {x : Str} (a : N[i]? = some x) (b : N[j]? = some x) : i = j := by
 obtain ⟨h1, e1⟩ := List.getElem?_eq_some_iff.mp a
 obtain ⟨h2, e2⟩ := List.getElem?_eq_some_iff.mp b
 exact (List.getElem_inj hN).mp (e1.trans e2.symm)
theorem store_ok2 {M : Model} {A : Around} {E : Value → Shared → Prop} {i : Nat} {x : Str} {v : V} {u : Value} {Q : Unit → Shared → Prop} (I : Inv X pins σ H s) (hN : X.N.Nodup) (hi : X.N[i]? = some x) (hx : Loc X.env.scope x) (r : RelV v u)
  (h : ∀ s', Inv X pins (σ.set i (some v)) H s' → (∃ a, Heap.SameBut a s.heap s'.heap ∧ (a = X.env.locals ∨ X.env.cells.lookup x = some a)) → Q () s') (hf : X.fn x = true ∨ X.env.scope.names.lookup x = some .local := by first | exact .inl rfl | exact .inr rfl | assumption) : wpAny M A (storeName X.env x u) Q E s := by
 obtain ⟨m, hn, hl⟩ := id I.loc
 have hcls : (X.env.scope.kind == .class || (X.env.scope.kind == .module && X.env.locals != X.env.globals)) = false := by rw [I.ok.kind]; rfl
 have hiσ : i < σ.length := by rw [I.len]; exact (List.getElem?_eq_some_iff.mp hi).1
 have cne := I.cne
 have tracked : ∀ {a : Addr} {h' : Heap}, (∃ o, s.heap.get? a = some o ∧ H a = none) → Heap.SameBut a s.heap h' → HOk X.prog X.w H h' := fun {a h'} ha hs b ob e => by
  obtain ⟨_, _, hfree⟩ := ha
  refine (I.hok b ob e).stay (fun c w' hc q => (hs.2 c ?_).trans q) (fun _ q => q) fun _ _ q => q
  rintro rfl
  rcases hc with rfl | hc
  ·rw [hfree] at e; cases e
  ·rw [hfree] at hc; cases hc
 rcases hx with hk | hk
 ·refine wpAny_storeName_local hk hn (fun h' hn' hs => ?_) hcls
  obtain ⟨oL, _, _, hoL, _⟩ := id hn
  refine h _ ⟨I.ok, I.os, I.bare, ⟨fun b o e n hb hx => ?_, fun b o e n hb hx => ?_, I.base.free, fun b o e hx => ?_, I.base.tups, I.base.frzs, I.base.tbls⟩, ⟨_, hn', fun j y v' e1 e2 e3 => ?_⟩, fun y c e => ?_, I.free, I.freeC, fun p hp => ?_, tracked ⟨oL, hoL, I.free⟩ hs, by simpa using I.len⟩ ⟨_, hs, .inl rfl⟩
  ·exact (hs.2 b (Nat.ne_of_lt (Nat.lt_of_lt_of_le (Heap.lt_size e) I.ok.above))).trans (I.base.keep b o e n hb hx)
  ·obtain ⟨sl, e1⟩ := I.base.slot b o e n hb hx
   exact ⟨sl, (hs.2 b (Nat.ne_of_lt (Nat.lt_of_lt_of_le (Heap.lt_size e) I.ok.above))).trans e1⟩
  ·obtain ⟨o', e1⟩ := I.base.there b o e hx
   exact ⟨o', (hs.2 b (Nat.ne_of_lt (Nat.lt_of_lt_of_le (Heap.lt_size e) I.ok.above))).trans e1⟩
  ·by_cases hj : j = i
   ·subst hj
    rw [hi] at e1; cases e1
    rw [List.getElem?_set_self hiσ] at e2
    cases e2
    exact ⟨u, r, .inl ⟨hk, by simp⟩⟩
   ·rw [List.getElem?_set_ne (Ne.symm hj)] at e2
    obtain ⟨u', r', q⟩ := hl j y v' e1 e2 e3
    refine ⟨u', r', ?_⟩
    rcases q with ⟨k, e⟩ | ⟨k, c, e, z⟩
    ·refine .inl ⟨k, ?_⟩
     have : y ≠ x := fun e => hj (nodup_ix hN e1 (e ▸ hi))
     simp [this, e]
    ·exact .inr ⟨k, c, e, z.sameBut hs (cne y c e)⟩
  ·obtain ⟨w', z⟩ := I.cell y c e
   exact ⟨w', z.sameBut hs (cne y c e)⟩
  ·obtain ⟨e, n, ne, nf, d⟩ := I.pin p hp
   exact ⟨(hs.2 p.1 ne).trans e, n, ne, nf, d⟩
 ·have hfn : X.fn x = true := by
   rcases hf with z | z
   ·exact z
   ·rw [z] at hk; cases hk
  obtain ⟨c, hc⟩ := I.ok.has x (.inl hk)
  obtain ⟨w', z⟩ := I.cell x c hc
  refine wpAny_storeName_cell I.ok.kind hk hc z (fun h' hc' hs => ?_)
  obtain ⟨oc, hoc, hocd⟩ := id z
  refine h { s with heap := h' } ⟨I.ok, I.os, I.bare, ⟨fun b o e n hb hx => ?_, fun b o e n hb hx => ?_, I.base.free, fun b o e hx => ?_, I.base.tups, I.base.frzs, I.base.tbls⟩, ⟨m, hn.sameBut hs (Ne.symm (cne x c hc)), fun j y v' e1 e2 e3 => ?_⟩, fun y c' e => ?_, I.free, I.freeC, fun p hp => ?_, tracked ⟨oc, hoc, I.freeC x c hc⟩ hs, by simpa using I.len⟩ ⟨c, hs, .inr hc⟩
  ·exact (hs.2 b (Nat.ne_of_lt (Nat.lt_of_lt_of_le (Heap.lt_size e) (I.ok.cab x c hfn hc)))).trans (I.base.keep b o e n hb hx)
  ·obtain ⟨sl, e1⟩ := I.base.slot b o e n hb hx
   exact ⟨sl, (hs.2 b (Nat.ne_of_lt (Nat.lt_of_lt_of_le (Heap.lt_size e) (I.ok.cab x c hfn hc)))).trans e1⟩
  ·obtain ⟨o', e1⟩ := I.base.there b o e hx
   exact ⟨o', (hs.2 b (Nat.ne_of_lt (Nat.lt_of_lt_of_le (Heap.lt_size e) (I.ok.cab x c hfn hc)))).trans e1⟩
  ·by_cases hj : j = i
   ·subst hj
    rw [hi] at e1; cases e1
    rw [List.getElem?_set_self hiσ] at e2
    cases e2
    exact ⟨u, r, .inr ⟨.inl hk, c, hc, hc'⟩⟩
   ·rw [List.getElem?_set_ne (Ne.symm hj)] at e2
    obtain ⟨u', r', q⟩ := hl j y v' e1 e2 e3
    refine ⟨u', r', ?_⟩
    rcases q with q | ⟨k, c', e, z'⟩
    ·exact .inl q
    ·refine .inr ⟨k, c', e, z'.sameBut hs ?_⟩
     rintro rfl
     exact hj (nodup_ix hN e1 (I.ok.inj _ _ _ e hc ▸ hi))
  ·by_cases hcc : c' = c
   ·subst hcc; exact ⟨_, hc'⟩
   ·obtain ⟨w2, z2⟩ := I.cell y c' e
    exact ⟨w2, z2.sameBut hs hcc⟩
  ·obtain ⟨e, n, ne, nf, d⟩ := I.pin p hp
   refine ⟨(hs.2 p.1 ?_).trans e, n, ne, nf, d⟩
   intro q
   rw [q, hoc] at e
   have q' : oc = p.2 := Option.some.inj e
   exact d w' (by rw [← q']; exact hocd)
theorem store_ok {M : Model} {A : Around} {E : Value → Shared → Prop} {i : Nat} {x : Str} {v : V} {u : Value} {Q : Unit → Shared → Prop} (I : Inv X pins σ H s) (hN : X.N.Nodup) (hi : X.N[i]? = some x) (hx : Loc X.env.scope x) (r : RelV v u)
  (h : ∀ s', Inv X pins (σ.set i (some v)) H s' → Q () s') (hf : X.fn x = true ∨ X.env.scope.names.lookup x = some .local := by first | exact .inl rfl | exact .inr rfl | assumption) : wpAny M A (storeName X.env x u) Q E s :=
 store_ok2 I hN hi hx r (fun s' I' _ => h s' I') hf
theorem Inv.call' {s' : Shared} {ch : List Addr} (I : Inv X pins σ H s) (ho : s'.os = s.os) (u : Un (frs X.stack) ch H H' s.heap s'.heap) (hok : HOk X.prog X.w H' s'.heap) (hg : AllBare s'.gens)
  (hch : ∀ b ∈ ch, (b ∈ X.ex ∨ X.s₀.heap.objs.size ≤ b) ∧ b ≠ X.env.locals ∧ (∀ x c, X.env.cells.lookup x = some c → c ≠ b) ∧ ∀ p ∈ X.pn ++ pins, p.1 ≠ b) : Inv X pins σ H' s' := by
 obtain ⟨h', g', d', t', o'⟩ := s'
 have e : o' = s.os := ho
 subst e
 exact I.call (g' := g') (t' := t') (d' := d') u hok hg hch
end
abbrev XK := Value → Option Addr → Hp → Prop
abbrev St := List (Option V)
abbrev VK := V → Hp → Prop
abbrev TE := St → Hp → VK → Prop
abbrev TT := St → Hp → (Bool → Hp → Prop) → Prop
abbrev TA := St → Hp → (List V → Hp → Prop) → Prop
structure Ends where
 nx : St → Hp → Prop
 rt : VK
 bk : St → Hp → Prop := fun _ _ => False
 ct : St → Hp → Prop := fun _ _ => False
abbrev TS := Ends → St → Hp → Prop
def EP (X : Cx) (pins : List (Addr × Obj)) (σ : St) (Q : VK) (u : Value) (s' : Shared) : Prop := ∃ v H', Inv X pins σ H' s' ∧ RelV v u ∧ Q v H'
def TP (X : Cx) (pins : List (Addr × Obj)) (σ : St) (Q : Bool → Hp → Prop) (b : Bool) (s' : Shared) : Prop := ∃ H', Inv X pins σ H' s' ∧ Q b H'
def AP (X : Cx) (pins : List (Addr × Obj)) (σ : St) (Q : List V → Hp → Prop) (us : List Value) (s' : Shared) : Prop := ∃ vs H', Inv X pins σ H' s' ∧ Vals vs us ∧ Q vs H'
def SP (X : Cx) (pins : List (Addr × Obj)) (D : Ends) (f : Flow) (s' : Shared) : Prop :=
 match f with
 | .next => ∃ σ' H', Inv X pins σ' H' s' ∧ D.nx σ' H'
 | .brk => ∃ σ' H', Inv X pins σ' H' s' ∧ D.bk σ' H'
 | .cont => ∃ σ' H', Inv X pins σ' H' s' ∧ D.ct σ' H'
 | .ret u => ∃ v σ' H', Inv X pins σ' H' s' ∧ RelV v u ∧ D.rt v H'
def PE (X : Cx) (e : Expr) (t : TE) : Prop :=
 ∀ (pins : List (Addr × Obj)) (s : Shared) (σ : St) (H : Hp) (Q : VK), Inv X pins σ H s → t σ H Q → wpAny (model X.prog X.w) X.A (eval e X.env) (EP X pins σ Q) X.xe s
def PT (X : Cx) (e : Expr) (t : TT) : Prop :=
 ∀ (pins : List (Addr × Obj)) (s : Shared) (σ : St) (H : Hp) (Q : Bool → Hp → Prop), Inv X pins σ H s → t σ H Q → wpAny (model X.prog X.w) X.A (isTrue e X.env (eval e X.env)) (TP X pins σ Q) X.xe s
def PW (X : Cx) (e : Expr) (t : TT) : Prop :=
 ∀ (whole : Sem Value) (pins : List (Addr × Obj)) (s : Shared) (σ : St) (H : Hp) (Q : Bool → Hp → Prop), Inv X pins σ H s → t σ H Q → wpAny (model X.prog X.w) X.A (isTrue e X.env whole) (TP X pins σ Q) X.xe s
theorem PW.pt {X : Cx} {e : Expr} {t : TT} (h : PW X e t) : PT X e t := h _
def PA (X : Cx) (es : List Expr) (t : TA) : Prop :=
 ∀ (pos : Pos) (pins : List (Addr × Obj)) (s : Shared) (σ : St) (H : Hp) (Q : List V → Hp → Prop), Inv X pins σ H s → t σ H Q → wpAny (model X.prog X.w) X.A (spliced (backTo pos (starEach es X.env))) (AP X pins σ Q) X.xe s
def PS (X : Cx) (st : Stmt) (t : TS) : Prop :=
 ∀ (pins : List (Addr × Obj)) (s : Shared) (σ : St) (H : Hp) (D : Ends), Inv X pins σ H s → t D σ H → wpAny (model X.prog X.w) X.A (exec st X.env) (SP X pins D) X.xe s
def PSs (X : Cx) (st : List Stmt) (t : TS) : Prop :=
 ∀ (pins : List (Addr × Obj)) (s : Shared) (σ : St) (H : Hp) (D : Ends), Inv X pins σ H s → t D σ H → wpAny (model X.prog X.w) X.A (execs st X.env) (SP X pins D) X.xe s
theorem thn {α : Type} {t : Sem α} {Q Q' : α → Shared → Prop} {M : Model} {A : Around} {E : Value → Shared → Prop} {s : Shared} (h : wpAny M A t Q E s) (hQ : ∀ a s, Q a s → Q' a s) : wpAny M A t Q' E s := wpAny_mono h hQ fun _ _ x => x
end L2
namespace L2
open PySem PySem.Spec PyProof.Rows
section
variable {X : Cx}
def tVar (i : Nat) : TE := fun σ H Q => ∃ v, σ[i]? = some (some v) ∧ Q v H
def tC (v : V) : TE := fun _ H Q => Q v H
theorem pe_var {i : Nat} {x : Str} {pos : Pos} (hN : X.N[i]? = some x) (hv : Vis X.env.scope x) (hd : (x == ("__debug__" : Str)) = false := by decide) (hcd : (x == ("__classdict__" : Str)) = false := by decide) : PE X (.Name x pos) (tVar i) := by
 intro pins s σ H Q I h
 obtain ⟨v, e, h⟩ := h
 obtain ⟨m, hn, hl⟩ := I.loc
 obtain ⟨u, r, l⟩ := hl i x v hN e hv
 have fin : EP X pins σ Q u s := ⟨v, H, I, r, h⟩
 rcases l with ⟨hk, hm⟩ | ⟨hk, c, hc, hcell⟩
 ·exact wpAny_Name (wpAny_loadName_local I.ok.kind hk hn hm fin) hd
 ·rcases hk with hk | hk
  ·exact wpAny_Name (wpAny_loadName_cell I.ok.kind hk hc hcell fin) hd
  ·exact wpAny_Name (wpAny_loadName_free I.ok.kind hk hc hcell fin hcd) hd
theorem pe_int {i j pos} : PE X (.Constant (.int i) j pos) (tC (.int i)) := fun _ _ _ H _ I h => wpAny_Constant_int ⟨.int i, H, I.tok _, ⟨_, rfl⟩, h⟩
theorem pe_bl {b j pos} : PE X (.Constant (.bool b) j pos) (tC (.bl b)) := fun _ _ _ H _ I h => Constant_bool ⟨.bl b, H, I, rfl, h⟩
theorem pe_non {j pos} : PE X (.Constant .none j pos) (tC .non) := fun _ _ _ H _ I h => Constant_none ⟨.non, H, I, rfl, h⟩
theorem pe_str {x j pos} : PE X (.Constant (.str x) j pos) (tC (.str x)) := fun _ _ _ H _ I h => Calls.Constant_str ⟨.str x, H, I.tok _, ⟨_, rfl⟩, h⟩
def Gl (X : Cx) (x : Str) : Prop := X.env.kindOf x = some .globalImplicit
theorem ld_glob {E : Value → Shared → Prop} {pins : List (Addr × Obj)} {s : Shared} {σ : St} {H : Hp} {x : Str} {u : Value} {pos : Pos} {Q : Value → Shared → Prop} (I : Inv X pins σ H s) (hg : Gl X x) (hm : X.mg x = some u) (h : Q u s)
  (hd : (x == ("__debug__" : Str)) = false := by decide) : wpAny (model X.prog X.w) X.A (eval (.Name x pos) X.env) Q E s :=
 Calls.Name_function_global I.ok.kind hg (Calls.loadGlobal_global (by rw [I.ok.glob]; exact I.mod.glob.keeps I.bk) hm h) hd
theorem ld_blt {E : Value → Shared → Prop} {pins : List (Addr × Obj)} {s : Shared} {σ : St} {H : Hp} {x : Str} {u : Value} {pos : Pos} {Q : Value → Shared → Prop} (I : Inv X pins σ H s) (hg : Gl X x) (hm : X.mg x = none) (hv : bootBuiltins x = some u) (h : Q u s)
  (hn : x ≠ "__name__" := by decide) (hd : (x == ("__debug__" : Str)) = false := by decide) : wpAny (model X.prog X.w) X.A (eval (.Name x pos) X.env) Q E s := by
 obtain ⟨mb, h1, h2⟩ := I.mod.blt
 exact Calls.Name_function_global I.ok.kind hg (Calls.loadGlobal_builtin (by rw [I.ok.glob]; exact I.mod.glob.keeps I.bk) hm (by rw [I.ok.blt]; exact h1.keeps I.bk) ((h2 x hn).trans hv) h) hd
theorem pe_glob {x : Str} {v : V} {u : Value} {pos : Pos} (hg : Gl X x) (hm : X.mg x = some u) (r : RelV v u) (hd : (x == ("__debug__" : Str)) = false := by decide) : PE X (.Name x pos) (tC v) :=
 fun _ _ _ H _ I h => ld_glob I hg hm ⟨v, H, I, r, h⟩ hd
theorem pe_bltn {x : Str} {v : V} {u : Value} {pos : Pos} (hg : Gl X x) (hm : X.mg x = none) (hv : bootBuiltins x = some u) (r : RelV v u) (hn : x ≠ "__name__" := by decide) (hd : (x == ("__debug__" : Str)) = false := by decide) : PE X (.Name x pos) (tC v) :=
 fun _ _ _ H _ I h => ld_blt I hg hm hv ⟨v, H, I, r, h⟩ hn hd
variable {a b : Expr} {ta tb : TE} {pos : Pos}
def PC (X : Cx) (op : CmpOp) (a b : Expr) (t : TE) : Prop :=
 ∀ (pins : List (Addr × Obj)) (s : Shared) (σ : St) (H : Hp) (Q : VK), Inv X pins σ H s → t σ H Q →
  wpAny (model X.prog X.w) X.A (eval a X.env) (fun v s₁ => wpAny (model X.prog X.w) X.A (eval b X.env) (fun u s₂ => wpAny (model X.prog X.w) X.A (compareOp op v u) (EP X pins σ Q) X.xe s₂) X.xe s₁) X.xe s
theorem nobehind (b : Expr) {op : CmpOp} (h : op ≠ .In) (h2 : op ≠ .NotIn) : behindInMarks op b = false := by
 have e1 : (op == CmpOp.In) = false := by cases op <;> first | rfl | exact absurd rfl h
 have e2 : (op == CmpOp.NotIn) = false := by cases op <;> first | rfl | exact absurd rfl h2
 cases b <;> simp [behindInMarks, e1, e2]
def tIsN (ta : TE) : TE := fun σ H Q => ta σ H fun x H1 => Q (.bl (decide (x = .non))) H1
def tNotN (ta : TE) : TE := fun σ H Q => ta σ H fun x H1 => Q (.bl (!decide (x = .non))) H1
theorem RelV.none_iff {x : V} {v : Value} (r : RelV x v) : (v == Value.none) = decide (x = .non) := by
 cases x with
 | non => cases r; rfl
 | bl _ => cases r; rfl
 | int _ => obtain ⟨t, rfl⟩ := r; rfl
 | str _ => obtain ⟨t, rfl⟩ := r; rfl
 | byt _ => obtain ⟨t, rfl⟩ := r; rfl
 | flt _ => obtain ⟨t, rfl⟩ := r; rfl
 | ref _ => cases r; rfl
 | ty _ => cases r; rfl
theorem pc_isN {j pos'} (ha : PE X a ta) : PC X .Is a (.Constant .none j pos') (tIsN ta) := by
 intro pins s σ H Q I h
 refine thn (ha pins s σ H _ I h) fun v s1 ⟨x, H1, I1, r1, q1⟩ => ?_
 exact Constant_none (is_none_gen ⟨.bl _, H1, I1, by rw [r1.none_iff]; rfl, q1⟩)
theorem pc_notN {j pos'} (ha : PE X a ta) : PC X .IsNot a (.Constant .none j pos') (tNotN ta) := by
 intro pins s σ H Q I h
 refine thn (ha pins s σ H _ I h) fun v s1 ⟨x, H1, I1, r1, q1⟩ => ?_
 exact Constant_none (isnot_none_gen ⟨.bl _, H1, I1, by rw [r1.none_iff]; rfl, q1⟩)
def tB (t : TE) : TT := fun σ H Q => t σ H fun x H1 => ∃ c, x = .bl c ∧ Q c H1
theorem pe_cmp {op : CmpOp} {t : TE} (h : PC X op a b t) (h1 : behindInMarks op b = false := by first | exact nobehind _ (by decide) (by decide) | rfl) : PE X (.Compare a [op] [b] pos) t := fun pins s σ H Q I hw => wpAny_Compare1 (h pins s σ H Q I hw) h1
theorem pt_cmp {op : CmpOp} {t : TE} (h : PC X op a b t) (h1 : behindInMarks op b = false := by first | exact nobehind _ (by decide) (by decide) | rfl) : PT X (.Compare a [op] [b] pos) (tB t) := by
 intro pins s σ H Q I hw
 refine wpAny_isTrue_Compare1 (thn (h pins s σ H _ I hw) fun v s1 h1 => thn h1 fun u s2 h2 => thn h2 fun c s3 ⟨x, H1, I1, r1, q1⟩ => ?_) h1
 obtain ⟨d, rfl, q⟩ := q1
 cases r1
 exact wpAny_truthy_bool ⟨H1, I1, q⟩
theorem pt_val {e : Expr} {t : TE} (h : PE X e t) (he : ∀ whole, isTrue e X.env whole = (do let v ← whole; standAt e.pos; holding [v] (truthy v)) := by intro _; rfl) : PT X e (tB t) := by
 intro pins s σ H Q I hw
 refine isTrue_plain (thn (h pins s σ H _ I hw) fun v s1 ⟨x, H1, I1, r1, q1⟩ => ?_) (he _)
 obtain ⟨d, rfl, q⟩ := q1
 cases r1
 exact wpAny_truthy_bool ⟨H1, I1, q⟩
variable {tA tB' : TT} {rest : List Expr}
def tAnd (t u : TT) : TT := fun σ H Q => t σ H fun c H1 => if c = true then u σ H1 Q else Q false H1
def tOr (t u : TT) : TT := fun σ H Q => t σ H fun c H1 => if c = true then Q true H1 else u σ H1 Q
def tNot (t : TT) : TT := fun σ H Q => t σ H fun c H1 => Q (!c) H1
theorem pw_and1 (ha : PT X a tA) : PW X (.BoolOp .And [a] pos) tA := by
 intro wh pins s σ H Q I h
 refine isTrue_and (thn (ha pins s σ H Q I h) fun c s1 e => ?_)
 cases c with
 | true => exact isTrue_and_nil e
 | false => exact e
theorem pw_or1 (ha : PT X a tA) : PW X (.BoolOp .Or [a] pos) tA := by
 intro wh pins s σ H Q I h
 refine isTrue_or (thn (ha pins s σ H Q I h) fun c s1 e => ?_)
 cases c with
 | false => exact isTrue_or_nil e
 | true => exact e
theorem pw_and (ha : PT X a tA) (hb : PW X (.BoolOp .And (b :: rest) pos) tB') : PW X (.BoolOp .And (a :: b :: rest) pos) (tAnd tA tB') := by
 intro wh pins s σ H Q I h
 refine isTrue_and (thn (ha pins s σ H _ I h) fun c s1 ⟨H1, I1, q1⟩ => ?_)
 cases c with
 | true => exact hb wh pins s1 σ H1 Q I1 q1
 | false => exact ⟨H1, I1, q1⟩
theorem pw_or (ha : PT X a tA) (hb : PW X (.BoolOp .Or (b :: rest) pos) tB') : PW X (.BoolOp .Or (a :: b :: rest) pos) (tOr tA tB') := by
 intro wh pins s σ H Q I h
 refine isTrue_or (thn (ha pins s σ H _ I h) fun c s1 ⟨H1, I1, q1⟩ => ?_)
 cases c with
 | true => exact ⟨H1, I1, q1⟩
 | false => exact hb wh pins s1 σ H1 Q I1 q1
theorem pt_not (ha : PT X a tA) : PT X (.UnaryOp .Not a pos) (tNot tA) := by
 intro pins s σ H Q I h
 exact isTrue_not (ha pins s σ H (fun c H1 => Q (!c) H1) I h)
def tAndV (ta tb : TE) : TE := fun σ H Q => ta σ H fun x H1 => ∃ c, x = .bl c ∧ if c = true then tb σ H1 Q else Q (.bl false) H1
def tOrV (ta tb : TE) : TE := fun σ H Q => ta σ H fun x H1 => ∃ c, x = .bl c ∧ if c = true then Q (.bl true) H1 else tb σ H1 Q
def tNotV (ta : TE) : TE := fun σ H Q => ta σ H fun x H1 => ∃ c, x = .bl c ∧ Q (.bl (!c)) H1
theorem pe_one {op} {t : TE} (h : PE X a t) : PE X (.BoolOp op [a] pos) t := fun pins s σ H Q I hw => BoolOp_one (h pins s σ H Q I hw)
theorem pe_and (ha : PE X a ta) (hb : PE X (.BoolOp .And (b :: rest) pos) tb) : PE X (.BoolOp .And (a :: b :: rest) pos) (tAndV ta tb) := by
 intro pins s σ H Q I h
 refine BoolOp_and (thn (ha pins s σ H _ I h) fun v s1 ⟨x, H1, I1, r1, q1⟩ => ?_)
 obtain ⟨c, rfl, q1⟩ := q1
 cases r1
 refine wpAny_truthy_bool ?_
 cases c with
 | true => exact hb pins s1 σ H1 Q I1 q1
 | false => exact ⟨.bl false, H1, I1, rfl, q1⟩
theorem pe_or (ha : PE X a ta) (hb : PE X (.BoolOp .Or (b :: rest) pos) tb) : PE X (.BoolOp .Or (a :: b :: rest) pos) (tOrV ta tb) := by
 intro pins s σ H Q I h
 refine BoolOp_or (thn (ha pins s σ H _ I h) fun v s1 ⟨x, H1, I1, r1, q1⟩ => ?_)
 obtain ⟨c, rfl, q1⟩ := q1
 cases r1
 refine wpAny_truthy_bool ?_
 cases c with
 | false => exact hb pins s1 σ H1 Q I1 q1
 | true => exact ⟨.bl true, H1, I1, rfl, q1⟩
theorem pe_not (ha : PE X a ta) : PE X (.UnaryOp .Not a pos) (tNotV ta) := by
 intro pins s σ H Q I h
 refine UnaryOp_ (thn (ha pins s σ H _ I h) fun v s1 ⟨x, H1, I1, r1, q1⟩ => ?_)
 obtain ⟨c, rfl, q1⟩ := q1
 cases r1
 exact not_of (wpAny_truthy_bool ⟨.bl (!c), H1, I1, rfl, q1⟩)
def tIf (t : TT) (ta tb : TE) : TE := fun σ H Q => t σ H fun c H1 => if c = true then ta σ H1 Q else tb σ H1 Q
theorem pe_ifExp {c : Expr} (hc : PT X c tA) (ha : PE X a ta) (hb : PE X b tb) : PE X (.IfExp c a b pos) (tIf tA ta tb) := by
 intro pins s σ H Q I h
 refine wpAny_IfExp (thn (hc pins s σ H _ I h) fun d s1 ⟨H1, I1, q1⟩ => ?_)
 cases d with
 | true => exact ha pins s1 σ H1 Q I1 q1
 | false => exact hb pins s1 σ H1 Q I1 q1
end
end L2
namespace L2
open PySem PySem.Spec PyProof.Rows
def SqL (K : PySem.W.Frag) (H : Hp) (a : Addr) (xs : List V) : Prop :=
 Rd H a (.lst xs) ∨
  ∃ (o : Obj) (its : Array Value) (n : Nat), K.lookup a = some o ∧ o.cls = .type "list" ∧ o.dict = none ∧ o.data = .seq its n ∧ its.size ≤ sizeLine ∧ Vals xs its.toList
def SqT (K : PySem.W.Frag) (H : Hp) (a : Addr) (xs : List V) : Prop :=
 Rd H a (.tup xs) ∨
  ∃ (o : Obj) (its : Array Value) (n : Nat), K.lookup a = some o ∧ o.cls = .type "tuple" ∧ o.data = .seq its n ∧ its.size ≤ sizeLine ∧ Vals xs its.toList
def absV : Value → Option V
 | .none => some .non
 | .bool b => some (.bl b)
 | .int i _ => some (.int i)
 | .str x _ => some (.str x)
 | .bytes b _ => some (.byt b)
 | .float b _ => some (.flt b)
 | .ref a => some (.ref a)
 | .type n => some (.ty n)
 | _ => none
theorem RelV.abs {x : V} {u : Value} (r : RelV x u) : absV u = some x := by
 cases x with
 | non => cases r; rfl
 | bl _ => cases r; rfl
 | int _ => obtain ⟨t, rfl⟩ := r; rfl
 | str _ => obtain ⟨t, rfl⟩ := r; rfl
 | byt _ => obtain ⟨t, rfl⟩ := r; rfl
 | flt _ => obtain ⟨t, rfl⟩ := r; rfl
 | ref _ => cases r; rfl
 | ty _ => cases r; rfl
theorem RelV.inj {x y : V} {u : Value} (r : RelV x u) (q : RelV y u) : x = y := Option.some.inj (r.abs.symm.trans q.abs)
theorem Vals.inj : ∀ {xs ys : List V} {us : List Value}, Vals xs us → Vals ys us → xs = ys
 | _, _, _, .nil, .nil => rfl
 | _, _, _, .cons r t, .cons r' t' => by rw [r.inj r', Vals.inj t t']
section
variable {X : Cx} {pins : List (Addr × Obj)} {σ : St} {H : Hp} {s : Shared} {a : Addr} {xs ys : List V}
theorem SqL.of {K : PySem.W.Frag} (h : H a = some (.lst xs)) : SqL K H a xs := .inl (.inl h)
theorem SqT.of {K : PySem.W.Frag} (h : H a = some (.tup xs)) : SqT K H a xs := .inl (.inl h)
theorem Inv.list (I : Inv X pins σ H s) (h : SqL X.K H a xs) : ∃ its : List Value, Vals xs its ∧ PlainL s.heap a its.toArray ∧ xs.length ≤ sizeLine := by
 rcases h with h | ⟨o, its, n, hk, hc, hd, hs, hz, r⟩
 ·obtain ⟨z, its, n, r, e⟩ := h.ok I.hok
  exact ⟨its, r, ⟨_, n, e, rfl, rfl, rfl⟩, z⟩
 ·refine ⟨its.toList, r, ⟨o, n, I.kIn a o hk, hc, hd, by simpa using hs⟩, ?_⟩
  have e := r.length
  simp only [Array.length_toList] at e
  omega
theorem Inv.tuple (I : Inv X pins σ H s) (h : SqT X.K H a xs) : ∃ its : List Value, Vals xs its ∧ IsTup s.heap a its.toArray ∧ xs.length ≤ sizeLine := by
 rcases h with h | ⟨o, its, n, hk, hc, hs, hz, r⟩
 ·obtain ⟨z, its, r, p⟩ := h.ok I.hok
  exact ⟨its, r, p, z⟩
 ·refine ⟨its.toList, r, ⟨o, I.kIn a o hk, hc, n, by simpa using hs⟩, ?_⟩
  have e := r.length
  simp only [Array.length_toList] at e
  omega
theorem Inv.list_inj (I : Inv X pins σ H s) (h : SqL X.K H a xs) (h' : SqL X.K H a ys) : xs = ys := by
 obtain ⟨its, r, ⟨o, n, e, _, _, d⟩, _⟩ := I.list h
 obtain ⟨its', r', ⟨o', n', e', _, _, d'⟩, _⟩ := I.list h'
 rw [e] at e'; cases e'
 rw [d] at d'
 injection d' with d1 _
 have : its = its' := by simpa using congrArg Array.toList d1
 subst this
 exact r.inj r'
theorem Inv.tuple_inj (I : Inv X pins σ H s) (h : SqT X.K H a xs) (h' : SqT X.K H a ys) : xs = ys := by
 obtain ⟨its, r, ⟨o, e, _, n, d⟩, _⟩ := I.tuple h
 obtain ⟨its', r', ⟨o', e', _, n', d'⟩, _⟩ := I.tuple h'
 rw [e] at e'; cases e'
 rw [d] at d'
 injection d' with d1 _
 have : its = its' := by simpa using congrArg Array.toList d1
 subst this
 exact r.inj r'
end
abbrev Cx.wish (X : Cx) (E : Value → Shared → Prop) : Cx := { X with xe := E }
abbrev Cx.nox (X : Cx) : Cx := X.wish fun _ _ => False
theorem Cx.Ok.wish {X : Cx} (ok : X.Ok) (E : Value → Shared → Prop) : (X.wish E).Ok :=
 ⟨ok.mod, ok.kind, ok.glob, ok.blt, ok.above, ok.inj, ok.has, ok.cab, ok.hd, ok.frames, ok.stk, ok.exf, ok.bs, ok.bsz, ok.noex, ok.exfs, ok.funs, ok.frf⟩
theorem Cx.Ok.unwish {X : Cx} {E : Value → Shared → Prop} (ok : (X.wish E).Ok) : X.Ok :=
 ⟨ok.mod, ok.kind, ok.glob, ok.blt, ok.above, ok.inj, ok.has, ok.cab, ok.hd, ok.frames, ok.stk, ok.exf, ok.bs, ok.bsz, ok.noex, ok.exfs, ok.funs, ok.frf⟩
section
variable {X : Cx} {pins : List (Addr × Obj)} {σ : St} {H : Hp} {s : Shared} {E : Value → Shared → Prop}
theorem Inv.wish (I : Inv X pins σ H s) (E : Value → Shared → Prop) : Inv (X.wish E) pins σ H s := ⟨I.ok.wish E, I.os, I.bare, I.base, I.loc, I.cell, I.free, I.freeC, I.pin, I.hok, I.len⟩
theorem Inv.unwish (I : Inv (X.wish E) pins σ H s) : Inv X pins σ H s := ⟨I.ok.unwish, I.os, I.bare, I.base, I.loc, I.cell, I.free, I.freeC, I.pin, I.hok, I.len⟩
theorem SP.unwish {D : Ends} {f : Flow} {s' : Shared} (h : SP (X.wish E) pins D f s') : SP X pins D f s' := by
 cases f with
 | next => obtain ⟨σ', H', I, q⟩ := h; exact ⟨σ', H', I.unwish, q⟩
 | brk => obtain ⟨σ', H', I, q⟩ := h; exact ⟨σ', H', I.unwish, q⟩
 | cont => obtain ⟨σ', H', I, q⟩ := h; exact ⟨σ', H', I.unwish, q⟩
 | ret u => obtain ⟨v, σ', H', I, r, q⟩ := h; exact ⟨v, σ', H', I.unwish, r, q⟩
theorem PSs.nox {st : List Stmt} {t : TS} (h : PSs X.nox st t) : PSs X st t := fun pins s σ H D I hw =>
 wpAny_mono (h pins s σ H D (I.wish _) hw) (fun _ _ q => q.unwish) fun _ _ z => False.elim z
end
section
variable {X : Cx} {st : Stmt} {rest : List Stmt} {t u : TS} {e : Expr} {te : TE} {pos : Pos}
def tNext : TS := fun D σ H => D.nx σ H
def tSeq (t u : TS) : TS := fun D σ H => t { D with nx := u D } σ H
theorem pss_nil : PSs X [] tNext := fun _ _ σ H _ I h => wpAny_execs_nil ⟨σ, H, I, h⟩
theorem pss_cons (h1 : PS X st t) (h2 : PSs X rest u) : PSs X (st :: rest) (tSeq t u) := by
 intro pins s σ H D I h
 refine wpAny_execs_cons (thn (h1 pins s σ H { D with nx := u D } I h) fun f s1 q => ?_)
 cases f with
 | next =>
  obtain ⟨σ', H', I', q⟩ := q
  exact h2 pins s1 σ' H' D I' q
 | ret v => exact q
 | brk => exact q
 | cont => exact q
theorem pss_one (h1 : PS X st t) : PSs X [st] t := by
 intro pins s σ H D I h
 refine wpAny_execs_cons (thn (h1 pins s σ H D I h) fun f s1 q => ?_)
 cases f with
 | next => exact wpAny_execs_nil q
 | ret v => exact q
 | brk => exact q
 | cont => exact q
theorem Inv.quiet {pins : List (Addr × Obj)} {σ : St} {H : Hp} {s : Shared} (I : Inv X pins σ H s) : interactive X.env = false := by simp [interactive, I.ok.kind]
def tDrop (te : TE) : TS := fun D σ H => te σ H fun _ H1 => D.nx σ H1
theorem ps_expr (he : PE X e te) (hs : swapsWith e none pos.line X.env = pure false := by rfl) : PS X (.Expr e pos) (tDrop te) := by
 intro pins s σ H D I h
 exact wpAny_Expr_any (thn (he pins s σ H _ I h) fun v s1 ⟨x, H1, I1, r1, q1⟩ => ⟨σ, H1, I1, q1⟩) I.quiet hs
def tRet (te : TE) : TS := fun D σ H => te σ H D.rt
theorem ps_ret (he : PE X e te) : PS X (.Return (some e) pos) (tRet te) := by
 intro pins s σ H D I h
 exact wpAny_Return_some (thn (he pins s σ H _ I h) fun v s1 ⟨x, H1, I1, r1, q1⟩ => ⟨x, σ, H1, I1, r1, q1⟩)
def tIfS (c : TT) (t u : TS) : TS := fun D σ H => c σ H fun b H1 => if b = true then t D σ H1 else u D σ H1
theorem ps_if {c : Expr} {a b : List Stmt} {tc : TT} (hc : PT X c tc) (ha : PSs X a t) (hb : PSs X b u) : PS X (.If c a b pos) (tIfS tc t u) := by
 intro pins s σ H D I h
 refine wpAny_If (thn (hc pins s σ H _ I h) fun d s1 ⟨H1, I1, q1⟩ => ?_)
 cases d with
 | true => exact ha pins s1 σ H1 D I1 q1
 | false => exact hb pins s1 σ H1 D I1 q1
def tNever : TS := fun _ _ _ => False
theorem ps_never : PS X st tNever := fun _ _ _ _ _ _ h => h.elim
theorem pss_never {sts : List Stmt} : PSs X sts tNever := fun _ _ _ _ _ _ h => h.elim
end
abbrev TG := V → St → Hp → (St → Hp → Prop) → Prop
abbrev TGs := List V → St → Hp → (St → Hp → Prop) → Prop
def PG (X : Cx) (target : Expr) (t : TG) : Prop :=
 ∀ (pins : List (Addr × Obj)) (s : Shared) (σ : St) (H : Hp) (v : V) (u : Value) (Q : St → Hp → Prop), Inv X pins σ H s → RelV v u → t v σ H Q →
  wpAny (model X.prog X.w) X.A (assign target X.env u) (fun _ s' => ∃ σ' H', Inv X pins σ' H' s' ∧ Q σ' H') X.xe s
def PGs (X : Cx) (ts : List Expr) (t : TGs) : Prop :=
 ∀ (pins : List (Addr × Obj)) (s : Shared) (σ : St) (H : Hp) (vs : List V) (us : List Value) (Q : St → Hp → Prop), Inv X pins σ H s → Vals vs us → t vs σ H Q →
  wpAny (model X.prog X.w) X.A (assignInOrder ((assignEach ts X.env).map (·.2)) us) (fun _ s' => ∃ σ' H', Inv X pins σ' H' s' ∧ Q σ' H') X.xe s
section
variable {X : Cx} {pos : Pos}
def gName (i : Nat) : TG := fun v σ H Q => Q (σ.set i (some v)) H
theorem pg_name {i : Nat} {x : Str} (hN : X.N.Nodup) (hi : X.N[i]? = some x) (hx : Loc X.env.scope x) (hf : X.fn x = true ∨ X.env.scope.names.lookup x = some .local := by first | exact .inl rfl | exact .inr rfl | assumption) : PG X (.Name x pos) (gName i) := by
 intro pins s σ H v u Q I r h
 exact wpAny_assign_Name (store_ok I hN hi hx r (fun s' I' => ⟨_, H, I', h⟩) hf)
def gNil : TGs := fun vs σ H Q => vs = [] ∧ Q σ H
def gCons (t : TG) (u : TGs) : TGs := fun vs σ H Q => ∃ v r, vs = v :: r ∧ t v σ H fun σ' H' => u r σ' H' Q
theorem pgs_nil : PGs X [] gNil := by
 intro pins s σ H vs us Q I r h
 obtain ⟨e, h⟩ := h
 subst e
 cases r
 exact assignInOrder_nil ⟨σ, H, I, h⟩
theorem pgs_cons {e : Expr} {es : List Expr} {t : TG} {u : TGs} (h1 : PG X e t) (h2 : PGs X es u)
  (hs : (assignEach (e :: es) X.env).map (·.2) = assign e X.env :: (assignEach es X.env).map (·.2) := by rfl) : PGs X (e :: es) (gCons t u) := by
 intro pins s σ H vs us Q I r h
 obtain ⟨v, vr, e1, h⟩ := h
 subst e1
 cases r with
 | cons r rr =>
  rw [hs]
  refine assignInOrder_cons (thn (h1 pins s σ H _ _ _ I r h) fun _ s1 ⟨σ1, H1, I1, q1⟩ => ?_)
  exact h2 pins s1 σ1 H1 _ _ Q I1 rr q1
def gTup (K : PySem.W.Frag) (n : Nat) (t : TGs) : TG := fun v σ H Q => ∃ a xs, v = .ref a ∧ SqT K H a xs ∧ xs.length = n ∧ t xs σ H Q
theorem pg_tup {es : List Expr} {k : Nat} {t : TGs} {n : Nat} (hc : X.calm = true) (h : PGs X es t)
  (hn : (assignEach es X.env).length = n := by rfl) (hst : (assignEach es X.env).findIdx? (·.1) = none := by rfl) : PG X (.Tuple es k pos) (gTup X.K n t) := by
 intro pins s σ H v u Q I r hw
 obtain ⟨a, xs, e1, hq, hl, hw⟩ := hw
 subst e1
 cases r
 obtain ⟨its, rv, ht, hz⟩ := I.tuple hq
 refine assign_Tuple_tuple (I.ok.hd hc) ht (by simp [hn, ← hl, rv.length]) hst fun h' hx => ?_
 have I1 : Inv X pins σ H { s with heap := h' } := I.kept (t' := s.toks) fun b o e => hx b o (Nat.ne_of_lt (Heap.lt_size e)) e
 exact h pins _ σ H xs _ Q I1 (by simpa using rv) hw
def tAsg (te : TE) (g : TG) : TS := fun D σ H => te σ H fun x H1 => g x σ H1 D.nx
theorem ps_asg {tg e : Expr} {te : TE} {g : TG} (he : PE X e te) (hg : PG X tg g) (hs : swapsWithSole [tg] e pos.line X.env = pure false := by rfl) (hw : swappedStores [tg] e X.env = pure none := by rfl)
  (h1 : (assignEach [tg] X.env).map (·.2) = [assign tg X.env] := by rfl) : PS X (.Assign [tg] e pos) (tAsg te g) := by
 intro pins s σ H D I h
 refine wpAny_Assign_stores (thn (he pins s σ H _ I h) fun v s1 ⟨x, H1, I1, r1, q1⟩ => ?_) hs hw
 rw [h1]
 exact thn (hg pins s1 σ H1 x v _ I1 r1 q1) fun _ s2 q => q
theorem ps_set {i : Nat} {x : Str} {e : Expr} {te : TE} {pos' : Pos} (hN : X.N.Nodup) (hi : X.N[i]? = some x) (hx : Loc X.env.scope x) (he : PE X e te) (hs : swapsWith e (some (.Name x pos')) pos.line X.env = pure false := by rfl) (hf : X.fn x = true ∨ X.env.scope.names.lookup x = some .local := by first | exact .inl rfl | exact .inr rfl | assumption) :
  PS X (.Assign [.Name x pos'] e pos) (tAsg te (gName i)) := by
 intro pins s σ H D I h
 refine wpAny_Assign_Name (thn (he pins s σ H _ I h) fun v s1 ⟨y, H1, I1, r1, q1⟩ => ?_) hs
 exact store_ok I1 hN hi hx r1 (fun s2 I2 => ⟨_, H1, I2, q1⟩) hf
end
section
variable {X : Cx} {pos : Pos}
def tWhile (c : TT) (tb : TS) : TS := fun D σ H => ∃ W : Nat → St → Hp → Prop, (∃ m, W m σ H) ∧ ∀ m σ H, W m σ H →
 c σ H fun b H1 => if b = true then ∃ N : St → Hp → Prop, (∀ σ' H', N σ' H' → ∃ m', m' < m ∧ W m' σ' H') ∧ tb { D with nx := N, ct := N, bk := D.nx } σ H1 else D.nx σ H1
theorem ps_while {c : Expr} {body : List Stmt} {tc : TT} {tb : TS} (hp : PassesOwn (model X.prog X.w) X.A X.env X.xe) (hc : PT X c tc) (hb : PSs X body tb) : PS X (.While c body [] pos) (tWhile tc tb) := by
 intro pins s σ H D I h
 obtain ⟨W, ⟨m0, w0⟩, turn⟩ := h
 refine wpAny_While (codeAny_whileLoop (fun n s' => ∃ σ' H', Inv X pins σ' H' s' ∧ W n σ' H') ?_ m0 ⟨σ, H, I, w0⟩)
 rintro n s1 ⟨σ1, H1, I1, w1⟩
 refine wpAny_passesOwn hp (thn (hc pins s1 σ1 H1 _ I1 (turn n σ1 H1 w1)) fun b s2 ⟨H2, I2, q2⟩ => ?_)
 cases b with
 | true =>
  obtain ⟨N, hN, q2⟩ := q2
  rw [if_pos rfl]
  refine wpAny_passesOwn hp (thn (hb pins s2 σ1 H2 _ I2 q2) fun f s3 q3 => ?_)
  cases f with
  | next =>
   obtain ⟨σ3, H3, I3, n3⟩ := q3
   obtain ⟨m', hm, w3⟩ := hN σ3 H3 n3
   exact ⟨m', hm, σ3, H3, I3, w3⟩
  | cont =>
   obtain ⟨σ3, H3, I3, n3⟩ := q3
   obtain ⟨m', hm, w3⟩ := hN σ3 H3 n3
   exact ⟨m', hm, σ3, H3, I3, w3⟩
  | brk => exact q3
  | ret v => exact q3
 | false =>
  rw [if_neg Bool.false_ne_true]
  exact wpAny_execs_nil ⟨σ1, H2, I2, q2⟩
end
structure It where
 go : Nat → Hp → Prop
 yld : Nat → Hp → V → Hp → Prop
 stop : Nat → Hp → Prop
def FpOk (X : Cx) (pins : List (Addr × Obj)) (H : Hp) (b : Addr) : Prop :=
 H b = none ∧ b ≠ X.env.locals ∧ b ∉ X.fs ∧ (b ∈ X.ex ∨ X.s₀.heap.objs.size ≤ b) ∧ (∀ x c, X.env.cells.lookup x = some c → c ≠ b) ∧ ∀ p ∈ X.pn ++ pins, p.1 ≠ b
theorem Inv.fpOk {X : Cx} {pins : List (Addr × Obj)} {σ : St} {H H' : Hp} {s : Shared} {b : Addr} (I : Inv X pins σ H s) (hb : s.heap.objs.size ≤ b) (hn : H' b = none) : FpOk X pins H' b := by
 refine ⟨hn, Nat.ne_of_gt (Nat.lt_of_lt_of_le I.lt hb), I.nofs hb, .inr (Nat.le_trans I.sz hb), fun x c e z => ?_, fun p hp z => ?_⟩
 ·obtain ⟨v, q⟩ := I.cell x c e
  exact absurd (Nat.lt_of_lt_of_le q.lt (by rw [z]; exact hb)) (Nat.lt_irrefl _)
 ·exact absurd (Nat.lt_of_lt_of_le (Heap.lt_size (I.pin p hp).1) (by rw [z]; exact hb)) (Nat.lt_irrefl _)
structure Turn (P : Program) (w : World) (K : PySem.W.Frag) (tg : Expr) (J : It) (fp : List Addr) (it : Addr) (tn : Nat → Heap → Prop) : Prop where
 mem : it ∈ fp
 obj : ∀ i h, tn i h → ∀ b ∈ fp, ∃ o, h.get? b = some o ∧ ∀ v, o.data ≠ .cell v
 keep : ∀ i h h', tn i h → (∀ b ∈ fp, ∀ o, h.get? b = some o → h'.get? b = some o) → tn i h'
 item : ∀ (X : Cx), X.prog = P → X.w = w → X.K = K → X.calm = true → ∀ (i : Nat) (pins : List (Addr × Obj)) (s : Shared) (σ : St) (H : Hp) (E : Value → Shared → Prop), Inv X pins σ H s → (∀ b ∈ fp, FpOk X pins H b) → tn i s.heap → J.go i H →
  wpAny (model P w) X.A (pyNext (.ref it)) (fun r s1 => ∃ u, r = some u ∧
   wpAny (model P w) X.A (letOwnedTupleGo tg (.ref it) u) (fun _ s2 => ∃ x H', Inv X pins σ H' s2 ∧ RelV x u ∧ J.yld i H x H' ∧ tn (i + 1) s2.heap ∧ ∀ b ∈ fp, H' b = none) E s1) E s
 done : ∀ (X : Cx), X.prog = P → X.w = w → X.K = K → X.calm = true → ∀ (i : Nat) (pins : List (Addr × Obj)) (s : Shared) (σ : St) (H : Hp) (E : Value → Shared → Prop), Inv X pins σ H s → (∀ b ∈ fp, FpOk X pins H b) → tn i s.heap → J.stop i H →
  wpAny (model P w) X.A (pyNext (.ref it)) (fun r s1 => r = none ∧ Inv X pins σ H s1) E s
 self : ∀ (A : Around) (i : Nat) (s : Shared) (Q : Value → Shared → Prop) (E : Value → Shared → Prop), tn i s.heap → Q (.ref it) s → wpAny (model P w) A (pyIter (.ref it)) Q E s
abbrev TI := St → Hp → (It → Hp → Prop) → Prop
def PIE (X : Cx) (pins : List (Addr × Obj)) (σ : St) (tg : Expr) (R : It → Hp → Prop) (itv : Value) (s2 : Shared) : Prop :=
 ∃ (it : Addr) (fp : List Addr) (tn : Nat → Heap → Prop) (J : It) (H' : Hp), itv = .ref it ∧ Inv X pins σ H' s2 ∧ Turn X.prog X.w X.K tg J fp it tn ∧ tn 0 s2.heap ∧ (∀ b ∈ fp, FpOk X pins H' b) ∧ R J H'
def PI (X : Cx) (tg iter : Expr) (wi : TI) : Prop :=
 ∀ (pins : List (Addr × Obj)) (s : Shared) (σ : St) (H : Hp) (R : It → Hp → Prop), Inv X pins σ H s → wi σ H R →
  wpAny (model X.prog X.w) X.A (eval iter X.env) (fun v s1 => wpAny (model X.prog X.w) X.A (pyIter v) (PIE X pins σ tg R) X.xe s1) X.xe s
theorem go_of {M : Model} {A : Around} {E : Value → Shared → Prop} {s : Shared} {tg : Expr} {it : Addr} {u : Value} {o : Obj} {n : String} {vs : Array Value} {Q : Unit → Shared → Prop} (ho : s.heap.get? it = some o) (hc : o.cls = .type n) (hd : o.data = .fields vs)
    (hn : ["enumerate", "zip", "dict_itemiterator", "dict_reverseitemiterator", "odict_iterator", "itertools.zip_longest", "itertools.pairwise"].contains n = false) (hQ : Q () s) : wpAny M A (letOwnedTupleGo tg (.ref it) u) Q E s := by
  unfold letOwnedTupleGo
  cases tg <;> first
    | exact wpAny_pure hQ
    | (cases u <;> first
        | exact wpAny_pure hQ
        | (refine wpAny_bind (wpAny_load ho ?_)
           rw [hc, hd]
           show wpAny M A (if (["enumerate", "zip", "dict_itemiterator", "dict_reverseitemiterator", "odict_iterator", "itertools.zip_longest", "itertools.pairwise"].contains n && vs[0]? == some (rawInt _)) = true then _ else _) Q E s
           rw [if_neg (by intro h; rw [hn, Bool.false_and] at h; cases h)]
           exact wpAny_pure hQ))
def Itl (K : PySem.W.Frag) (a : Addr) : It :=
 ⟨fun i H => ∃ xs x, SqL K H a xs ∧ xs[i]? = some x, fun i H x H' => H' = H ∧ ∀ xs, SqL K H a xs → xs[i]? = some x, fun i H => ∃ xs, SqL K H a xs ∧ xs.length ≤ i⟩
def Itt (K : PySem.W.Frag) (a : Addr) : It :=
 ⟨fun i H => ∃ xs x, SqT K H a xs ∧ xs[i]? = some x, fun i H x H' => H' = H ∧ ∀ xs, SqT K H a xs → xs[i]? = some x, fun i H => ∃ xs, SqT K H a xs ∧ xs.length ≤ i⟩
def Itr (lo : Int) (n : Nat) : It := ⟨fun i _ => i < n, fun i H x H' => H' = H ∧ x = .int (lo + i), fun i _ => n ≤ i⟩
theorem turn_list {P : Program} {w : World} {K : PySem.W.Frag} {tg : Expr} (a it : Addr) : Turn P w K tg (Itl K a) [it] it (fun i h => h.IsListIter it a i) where
 mem := by simp
 obj := fun i h st b hb => by
  have e : b = it := by simpa using hb
  subst e
  obtain ⟨o, e, c, d⟩ := st
  exact ⟨o, e, fun v z => by rw [d] at z; cases z⟩
 keep := fun i h h' st k => st.at fun o e => k it (by simp) o e
 item := by
  intro X hP hw hK hc i pins s σ H E I hf st hg
  subst hP hw hK
  obtain ⟨xs, x, hq, hx⟩ := hg
  obtain ⟨its, rv, p, hz⟩ := I.list hq
  obtain ⟨u, hu, ru⟩ := rv.get hx
  obtain ⟨f0, f1, f2, f3, f4, f5⟩ := hf it (by simp)
  refine wpAny_pyNext_list_item st p.isList (x := u) (by simpa using hu) fun h' st' sb => ?_
  have I1 : Inv X pins σ H { s with heap := h' } := I.turned (t' := s.toks) (fun b o hb e => (sb.2 b hb).trans e) f0 f1 f3 f4 f5
  obtain ⟨o, e, c, d⟩ := id st'
  exact ⟨u, rfl, go_of (s := { s with heap := h' }) e c d (by decide) ⟨x, H, I1, ru, ⟨rfl, fun ys hy => by rw [I.list_inj hy hq]; exact hx⟩, st', fun b hb => (hf b hb).1⟩⟩
 done := by
  intro X hP hw hK hc i pins s σ H E I hf st hg
  subst hP hw hK
  obtain ⟨xs, hq, hx⟩ := hg
  obtain ⟨its, rv, p, hz⟩ := I.list hq
  obtain ⟨f0, f1, f2, f3, f4, f5⟩ := hf it (by simp)
  have hl := rv.length
  exact wpAny_pyNext_list_end (I.ok.hd hc) st p.isList (by simp; omega) fun h' eb => ⟨rfl, I.turned (t' := s.toks) (fun b o hb e => eb b o hb e) f0 f1 f3 f4 f5⟩
 self := fun _ _ _ _ _ st h => wpAny_pyIter_listiter st h
theorem turn_tuple {P : Program} {w : World} {K : PySem.W.Frag} {tg : Expr} (a it : Addr) : Turn P w K tg (Itt K a) [it] it (fun i h => h.IsTupleIter it a i) where
 mem := by simp
 obj := fun i h st b hb => by
  have e : b = it := by simpa using hb
  subst e
  obtain ⟨o, e, c, d⟩ := st
  exact ⟨o, e, fun v z => by rw [d] at z; cases z⟩
 keep := fun i h h' st k => st.at fun o e => k it (by simp) o e
 item := by
  intro X hP hw hK hc i pins s σ H E I hf st hg
  subst hP hw hK
  obtain ⟨xs, x, hq, hx⟩ := hg
  obtain ⟨its, rv, p, hz⟩ := I.tuple hq
  obtain ⟨u, hu, ru⟩ := rv.get hx
  obtain ⟨f0, f1, f2, f3, f4, f5⟩ := hf it (by simp)
  refine wpAny_pyNext_tuple_item st (show s.heap.IsTuple a its.toArray from p) (x := u) (by simpa using hu) fun h' st' sb => ?_
  have I1 : Inv X pins σ H { s with heap := h' } := I.turned (t' := s.toks) (fun b o hb e => (sb.2 b hb).trans e) f0 f1 f3 f4 f5
  obtain ⟨o, e, c, d⟩ := id st'
  exact ⟨u, rfl, go_of (s := { s with heap := h' }) e c d (by decide) ⟨x, H, I1, ru, ⟨rfl, fun ys hy => by rw [I.tuple_inj hy hq]; exact hx⟩, st', fun b hb => (hf b hb).1⟩⟩
 done := by
  intro X hP hw hK hc i pins s σ H E I hf st hg
  subst hP hw hK
  obtain ⟨xs, hq, hx⟩ := hg
  obtain ⟨its, rv, p, hz⟩ := I.tuple hq
  obtain ⟨f0, f1, f2, f3, f4, f5⟩ := hf it (by simp)
  have hl := rv.length
  exact wpAny_pyNext_tuple_end (I.ok.hd hc) st (show s.heap.IsTuple a its.toArray from p) (by simp; omega) fun h' eb => ⟨rfl, I.turned (t' := s.toks) (fun b o hb e => eb b o hb e) f0 f1 f3 f4 f5⟩
 self := fun _ _ _ _ _ st h => wpAny_pyIter_tupleiter st h
theorem turn_range {P : Program} {w : World} {K : PySem.W.Frag} {tg : Expr} (it : Addr) (lo : Int) (n : Nat) : Turn P w K tg (Itr lo n) [it] it (fun i h => IsRangeIter h it (lo + (i : Nat) * 1) ((n : Int) - (i : Nat)) 1) where
 mem := by simp
 obj := fun i h st b hb => by
  have e : b = it := by simpa using hb
  subst e
  exact ⟨_, st, fun v z => by
   have z' : Data.fields _ = Data.cell v := z
   cases z'⟩
 keep := fun i h h' st k => k it (by simp) _ st
 item := by
  intro X hP hw hK hc i pins s σ H E I hf st hg
  subst hP hw hK
  obtain ⟨f0, f1, f2, f3, f4, f5⟩ := hf it (by simp)
  have W := Walks.range (prog := X.prog) (w := X.w) (I.ok.hd hc) it lo 1 n
  refine W.item i s _ _ hg st fun v h' tk hv st' kk => ?_
  obtain ⟨t, rfl⟩ := hv
  have I1 : Inv X pins σ H { s with heap := h', toks := tk } := I.turned (fun b o hb e => kk b o (by simpa using hb) e) f0 f1 f3 f4 f5
  refine ⟨_, rfl, go_of (s := { s with heap := h', toks := tk }) (n := "range_iterator") st' rfl rfl (by decide) ⟨.int (lo + i), H, I1, ⟨t, ?_⟩, ⟨rfl, rfl⟩, st', fun b hb => (hf b hb).1⟩⟩
  rw [Int.mul_one]
 done := by
  intro X hP hw hK hc i pins s σ H E I hf st hg
  subst hP hw hK
  obtain ⟨f0, f1, f2, f3, f4, f5⟩ := hf it (by simp)
  exact wpAny_pyNext_range_end (I.ok.hd hc) st (by have : n ≤ i := hg; omega) fun h' eb => ⟨rfl, I.turned (t' := s.toks) (fun b o hb e => eb b o hb e) f0 f1 f3 f4 f5⟩
 self := fun _ _ _ _ _ st h => wpAny_pyIter_rangeiter st h
end L2
namespace L2
open PySem PySem.Spec PyProof.Rows
section
variable {X : Cx} {tg : Expr}
def iList (K : PySem.W.Frag) (tl : TE) : TI := fun σ H R => tl σ H fun x H1 => ∃ a, x = .ref a ∧ (∃ xs, SqL K H1 a xs) ∧ R (Itl K a) H1
def iTup (K : PySem.W.Frag) (tl : TE) : TI := fun σ H R => tl σ H fun x H1 => ∃ a, x = .ref a ∧ (∃ xs, SqT K H1 a xs) ∧ R (Itt K a) H1
theorem pi_list {l : Expr} {tl : TE} (hl : PE X l tl) : PI X tg l (iList X.K tl) := by
 intro pins s σ H R I h
 refine thn (hl pins s σ H _ I h) fun v s1 ⟨x, H1, I1, r1, q1⟩ => ?_
 obtain ⟨a, e, ⟨xs, hq⟩, q⟩ := q1
 subst e
 cases r1
 obtain ⟨its, rv, p, hz⟩ := I1.list hq
 refine wpAny_pyIter_list p.isList ?_
 refine ⟨s1.heap.objs.size, [s1.heap.objs.size], _, _, H1, rfl, I1.kept (t' := s1.toks) fun b o e => Heap.get?_push_of_some _ e, turn_list a _, ⟨_, Heap.get?_push_size _ rfl, rfl, rfl⟩, fun b hb => ?_, q⟩
 have e : b = s1.heap.objs.size := by simpa using hb
 subst e
 exact I1.fpOk (Nat.le_refl _) (I1.hok.fresh (Nat.le_refl _))
theorem pi_tup {l : Expr} {tl : TE} (hl : PE X l tl) : PI X tg l (iTup X.K tl) := by
 intro pins s σ H R I h
 refine thn (hl pins s σ H _ I h) fun v s1 ⟨x, H1, I1, r1, q1⟩ => ?_
 obtain ⟨a, e, ⟨xs, hq⟩, q⟩ := q1
 subst e
 cases r1
 obtain ⟨its, rv, p, hz⟩ := I1.tuple hq
 refine wpAny_pyIter_tuple (show s1.heap.IsTuple a its.toArray from p) ?_
 refine ⟨s1.heap.objs.size, [s1.heap.objs.size], _, _, H1, rfl, I1.kept (t' := s1.toks) fun b o e => Heap.get?_push_of_some _ e, turn_tuple a _, ⟨_, Heap.get?_push_size _ rfl, rfl, rfl⟩, fun b hb => ?_, q⟩
 have e : b = s1.heap.objs.size := by simpa using hb
 subst e
 exact I1.fpOk (Nat.le_refl _) (I1.hok.fresh (Nat.le_refl _))
theorem range_it {pins : List (Addr × Obj)} {σ : St} {H : Hp} {s : Shared} {R : It → Hp → Prop} {E : Value → Shared → Prop} {lo hi : Int} {t u v : Tok} {tk : Nat} (I : Inv X pins σ H s) (h1 : -(2 ^ 62) ≤ lo) (h2 : lo < 2 ^ 62) (h3 : -(2 ^ 62) ≤ hi) (h4 : hi < 2 ^ 62)
  (q : R (Itr lo (hi - lo).toNat) H) : wpAny (model X.prog X.w) X.A (pyIter (.ref s.heap.objs.size)) (PIE X pins σ tg R) E { s with heap := s.heap.push { cls := .type "range", data := .fields #[.int lo t, .int hi u, .int 1 v] }, toks := tk } := by
 refine wpAny_pyIter_range (IsRange.new ..) (small_one h1 h2 h3 h4) ?_
 have I1 : Inv X pins σ H { s with heap := s.heap.push { cls := .type "range", data := .fields #[.int lo t, .int hi u, .int 1 v] }, toks := tk } := I.kept fun b o e => Heap.get?_push_of_some _ e
 refine ⟨(s.heap.push { cls := .type "range", data := .fields #[.int lo t, .int hi u, .int 1 v] }).objs.size, [(s.heap.push { cls := .type "range", data := .fields #[.int lo t, .int hi u, .int 1 v] }).objs.size], _, _, H, rfl,
  I1.kept (t' := tk) fun b o e => Heap.get?_push_of_some _ e, turn_range _ lo (hi - lo).toNat, ?_, fun b hb => ?_, q⟩
 ·have e1 : lo + ((0 : Nat) : Int) * 1 = lo := by simp
  have e2 : (((hi - lo).toNat : Nat) : Int) - ((0 : Nat) : Int) = Builtin.Range.rangeSize lo hi 1 := by rw [rangeSize_one]; split <;> omega
  show IsRangeIter _ _ (lo + ((0 : Nat) : Int) * 1) ((((hi - lo).toNat : Nat) : Int) - ((0 : Nat) : Int)) 1
  rw [e1, e2]
  exact Heap.get?_push_size _ rfl
 ·have e : b = (s.heap.push { cls := .type "range", data := .fields #[.int lo t, .int hi u, .int 1 v] }).objs.size := by simpa using hb
  subst e
  exact I1.fpOk (Nat.le_refl _) (I1.hok.fresh (Nat.le_refl _))
def iRng1 (ta : TA) : TI := fun σ H R => ta σ H fun vs H1 => ∃ j : Int, vs = [.int j] ∧ -(2 ^ 62) ≤ j ∧ j < 2 ^ 62 ∧ R (Itr 0 j.toNat) H1
theorem pi_range1 {a : Expr} {ta : TA} {p pos : Pos} (hg : Gl X "range") (hm : X.mg "range" = none) (ha : PA X [a] ta) (hs : starEach [a] X.env = [(false, eval a X.env)] := by rfl) : PI X tg (.Call (.Name "range" p) [a] [] pos) (iRng1 ta) := by
 intro pins s σ H R I h
 refine Call_ (ld_blt I hg hm boot_range (PyProof.Rows.callWith_type1 (thn (ha pos pins s σ H _ I h) fun us s1 ⟨vs, H1, I1, r1, q1⟩ => ?_) hs rfl))
 obtain ⟨j, e, q1, q2, q⟩ := q1
 subst e
 cases r1 with
 | cons r rr =>
  cases rr
  obtain ⟨t, rfl⟩ := r
  exact call_range_1 (range_it I1 (by omega) (by omega) q1 q2 (by simpa using q))
def tFor (wi : TI) (g : TG) (tb : TS) : TS := fun D σ H => wi σ H fun J H1 => ∃ W : Nat → Nat → St → Hp → Prop, (∃ m, W 0 m σ H1) ∧ ∀ i m σ H, W i m σ H →
 (J.stop i H ∧ D.nx σ H) ∨ (J.go i H ∧ ∃ N : St → Hp → Prop, (∀ σ' H', N σ' H' → ∃ m', m' < m ∧ W (i + 1) m' σ' H') ∧ ∀ x H', J.yld i H x H' → g x σ H' fun σ2 H2 => tb { D with nx := N, ct := N, bk := D.nx } σ2 H2)
def pinsAt (fp : List Addr) (h : Heap) : List (Addr × Obj) := fp.filterMap fun b => (h.get? b).map fun o => (b, o)
theorem mem_pinsAt {fp : List Addr} {h : Heap} {b : Addr} {o : Obj} (hb : b ∈ fp) (e : h.get? b = some o) : (b, o) ∈ pinsAt fp h := List.mem_filterMap.mpr ⟨b, hb, by rw [e]; rfl⟩
theorem of_pinsAt {fp : List Addr} {h : Heap} {p : Addr × Obj} (hp : p ∈ pinsAt fp h) : p.1 ∈ fp ∧ h.get? p.1 = some p.2 := by
 obtain ⟨b, hb, e⟩ := List.mem_filterMap.mp hp
 cases q : h.get? b with
 | none => rw [q] at e; cases e
 | some o =>
  rw [q] at e
  have e' : (b, o) = p := Option.some.inj e
  subst e'
  exact ⟨hb, q⟩
theorem Inv.pinned {pins : List (Addr × Obj)} {σ : St} {H : Hp} {s : Shared} {fp : List Addr} (I : Inv X pins σ H s) (hf : ∀ b ∈ fp, FpOk X pins H b) (ho : ∀ b ∈ fp, ∃ o, s.heap.get? b = some o ∧ ∀ v, o.data ≠ .cell v) : Inv X (pins ++ pinsAt fp s.heap) σ H s :=
 I.pins_of fun p hp => (List.mem_append.mp hp).elim (fun z => I.pin p (List.mem_append_right _ z)) fun z => by
  obtain ⟨hb, e⟩ := of_pinsAt z
  obtain ⟨f0, f1, f2, _⟩ := hf p.1 hb
  obtain ⟨o, e', d⟩ := ho p.1 hb
  rw [e] at e'; cases e'
  exact ⟨e, f0, f1, f2, d⟩
theorem Inv.unpinned {pins pl : List (Addr × Obj)} {σ : St} {H : Hp} {s : Shared} (I : Inv X (pins ++ pl) σ H s) : Inv X pins σ H s := I.pins_of fun p hp => I.pin p (List.mem_append_right _ (List.mem_append_left _ hp))
theorem ps_for {iter : Expr} {body : List Stmt} {wi : TI} {g : TG} {tb : TS} {pos : Pos} (hp : PassesOwn (model X.prog X.w) X.A X.env X.xe) (hc : X.calm = true) (hi : PI X tg iter wi) (hg : PG X tg g) (hb : PSs X body tb)
  (hs : ∀ x, foldedSetIterable iter X.env x = pure x := by intro _; rfl) : PS X (.For tg iter body [] pos) (tFor wi g tb) := by
 intro pins s σ H D I h
 refine wpAny_For (thn (hi pins s σ H _ I h) fun v s1 h1 => thn h1 fun itv s2 h2 => ?_) hs
 obtain ⟨it, fp, tn, J, H2, e, I2, T, st2, f2, W, ⟨m0, w0⟩, turn⟩ := h2
 subst e
 have stat : ∀ {H' : Hp}, (∀ b ∈ fp, H' b = none) → ∀ b ∈ fp, FpOk X pins H' b := fun hn b hb => ⟨hn b hb, (f2 b hb).2⟩
 refine codeAny_forLoop_any (fun n s' => ∃ i σ' H', Inv X pins σ' H' s' ∧ tn i s'.heap ∧ (∀ b ∈ fp, H' b = none) ∧ W i n σ' H') ?_ m0 ⟨0, σ, H2, I2, st2, fun b hb => (f2 b hb).1, w0⟩
 rintro n s3 ⟨i, σ3, H3, I3, st3, fr3, w3⟩
 rcases turn i n σ3 H3 w3 with ⟨stop, qn⟩ | ⟨go, N, hN, step⟩
 ·refine wpAny_passesOwn hp (thn (T.done X rfl rfl rfl hc i pins s3 σ3 H3 X.xe I3 (stat fr3) st3 stop) fun r s4 ⟨hr, I4⟩ => ?_)
  subst hr
  exact wpAny_execs_nil ⟨σ3, H3, I4, qn⟩
 ·refine wpAny_passesOwn hp (thn (T.item X rfl rfl rfl hc i pins s3 σ3 H3 X.xe I3 (stat fr3) st3 go) fun r s4 ⟨u, hr, h4⟩ => ?_)
  subst hr
  refine wpAny_passesOwn hp (thn h4 fun _ s5 ⟨x, H5, I5, r5, y5, st5, fr5⟩ => ?_)
  have I5' := I5.pinned (stat fr5) (T.obj _ _ st5)
  refine wpAny_passesOwn hp (thn (hg _ s5 σ3 H5 x u _ I5' r5 (step x H5 y5)) fun _ s6 ⟨σ6, H6, I6, q6⟩ => ?_)
  refine wpAny_passesOwn hp (thn (hb _ s6 σ6 H6 _ I6 q6) fun f s7 q7 => ?_)
  have again : ∀ {σ7 : St} {H7 : Hp}, Inv X (pins ++ pinsAt fp s5.heap) σ7 H7 s7 → N σ7 H7 → ∃ m, m < n ∧ ∃ i σ' H', Inv X pins σ' H' s7 ∧ tn i s7.heap ∧ (∀ b ∈ fp, H' b = none) ∧ W i m σ' H' := fun {σ7 H7} I7 n7 => by
   obtain ⟨m', hm, w7⟩ := hN σ7 H7 n7
   refine ⟨m', hm, i + 1, σ7, H7, I7.unpinned, T.keep _ _ _ st5 fun b hb o e => (I7.pin (b, o) (List.mem_append_right _ (List.mem_append_right _ (mem_pinsAt hb e)))).1, fun b hb => ?_, w7⟩
   obtain ⟨o, e, d⟩ := T.obj _ _ st5 b hb
   exact (I7.pin (b, o) (List.mem_append_right _ (List.mem_append_right _ (mem_pinsAt hb e)))).2.1
  cases f with
  | next => obtain ⟨σ7, H7, I7, n7⟩ := q7; exact again I7 n7
  | cont => obtain ⟨σ7, H7, I7, n7⟩ := q7; exact again I7 n7
  | brk => obtain ⟨σ7, H7, I7, q7⟩ := q7; exact ⟨σ7, H7, I7.unpinned, q7⟩
  | ret v => obtain ⟨x7, σ7, H7, I7, r7, q7⟩ := q7; exact ⟨x7, σ7, H7, I7.unpinned, r7, q7⟩
end
theorem for_list {K : PySem.W.Frag} {a : Addr} {xs : List V} {g : TG} {tb : TS} {D : Ends} {σ : St} {H : Hp} (Pv : Nat → St → Hp → Prop) (h0 : Pv 0 σ H) (hl : ∀ i σ H, i ≤ xs.length → Pv i σ H → SqL K H a xs)
  (hs : ∀ i x σ H, xs[i]? = some x → Pv i σ H → g x σ H fun σ2 H2 => tb { D with nx := Pv (i + 1), ct := Pv (i + 1), bk := D.nx } σ2 H2) (hd : ∀ σ H, Pv xs.length σ H → D.nx σ H) :
  ∃ W : Nat → Nat → St → Hp → Prop, (∃ m, W 0 m σ H) ∧ ∀ i m σ H, W i m σ H →
   ((Itl K a).stop i H ∧ D.nx σ H) ∨ ((Itl K a).go i H ∧ ∃ N : St → Hp → Prop, (∀ σ' H', N σ' H' → ∃ m', m' < m ∧ W (i + 1) m' σ' H') ∧ ∀ x H', (Itl K a).yld i H x H' → g x σ H' fun σ2 H2 => tb { D with nx := N, ct := N, bk := D.nx } σ2 H2) := by
 refine ⟨fun i m σ H => m = xs.length - i ∧ i ≤ xs.length ∧ Pv i σ H, ⟨xs.length, by simp, Nat.zero_le _, h0⟩, ?_⟩
 rintro i m σ H ⟨rfl, hi, p⟩
 have q := hl i σ H hi p
 by_cases hlt : i < xs.length
 ·refine .inr ⟨⟨xs, xs[i], q, by simp [hlt]⟩, Pv (i + 1), fun σ' H' p' => ⟨xs.length - (i + 1), by omega, rfl, hlt, p'⟩, fun x H' y => ?_⟩
  obtain ⟨e, y⟩ := y
  subst e
  exact hs i x σ _ (y xs q) p
 ·have e : i = xs.length := by omega
  subst e
  exact .inl ⟨⟨xs, q, Nat.le_refl _⟩, hd σ H p⟩
theorem for_tup {K : PySem.W.Frag} {a : Addr} {xs : List V} {g : TG} {tb : TS} {D : Ends} {σ : St} {H : Hp} (Pv : Nat → St → Hp → Prop) (h0 : Pv 0 σ H) (hl : ∀ i σ H, i ≤ xs.length → Pv i σ H → SqT K H a xs)
  (hs : ∀ i x σ H, xs[i]? = some x → Pv i σ H → g x σ H fun σ2 H2 => tb { D with nx := Pv (i + 1), ct := Pv (i + 1), bk := D.nx } σ2 H2) (hd : ∀ σ H, Pv xs.length σ H → D.nx σ H) :
  ∃ W : Nat → Nat → St → Hp → Prop, (∃ m, W 0 m σ H) ∧ ∀ i m σ H, W i m σ H →
   ((Itt K a).stop i H ∧ D.nx σ H) ∨ ((Itt K a).go i H ∧ ∃ N : St → Hp → Prop, (∀ σ' H', N σ' H' → ∃ m', m' < m ∧ W (i + 1) m' σ' H') ∧ ∀ x H', (Itt K a).yld i H x H' → g x σ H' fun σ2 H2 => tb { D with nx := N, ct := N, bk := D.nx } σ2 H2) := by
 refine ⟨fun i m σ H => m = xs.length - i ∧ i ≤ xs.length ∧ Pv i σ H, ⟨xs.length, by simp, Nat.zero_le _, h0⟩, ?_⟩
 rintro i m σ H ⟨rfl, hi, p⟩
 have q := hl i σ H hi p
 by_cases hlt : i < xs.length
 ·refine .inr ⟨⟨xs, xs[i], q, by simp [hlt]⟩, Pv (i + 1), fun σ' H' p' => ⟨xs.length - (i + 1), by omega, rfl, hlt, p'⟩, fun x H' y => ?_⟩
  obtain ⟨e, y⟩ := y
  subst e
  exact hs i x σ _ (y xs q) p
 ·have e : i = xs.length := by omega
  subst e
  exact .inl ⟨⟨xs, q, Nat.le_refl _⟩, hd σ H p⟩
theorem for_range {lo : Int} {n : Nat} {g : TG} {tb : TS} {D : Ends} {σ : St} {H : Hp} (Pv : Nat → St → Hp → Prop) (h0 : Pv 0 σ H)
  (hs : ∀ i σ H, i < n → Pv i σ H → g (.int (lo + i)) σ H fun σ2 H2 => tb { D with nx := Pv (i + 1), ct := Pv (i + 1), bk := D.nx } σ2 H2) (hd : ∀ σ H, Pv n σ H → D.nx σ H) :
  ∃ W : Nat → Nat → St → Hp → Prop, (∃ m, W 0 m σ H) ∧ ∀ i m σ H, W i m σ H →
   ((Itr lo n).stop i H ∧ D.nx σ H) ∨ ((Itr lo n).go i H ∧ ∃ N : St → Hp → Prop, (∀ σ' H', N σ' H' → ∃ m', m' < m ∧ W (i + 1) m' σ' H') ∧ ∀ x H', (Itr lo n).yld i H x H' → g x σ H' fun σ2 H2 => tb { D with nx := N, ct := N, bk := D.nx } σ2 H2) := by
 refine ⟨fun i m σ H => m = n - i ∧ i ≤ n ∧ Pv i σ H, ⟨n, by simp, Nat.zero_le _, h0⟩, ?_⟩
 rintro i m σ H ⟨rfl, hi, p⟩
 by_cases hlt : i < n
 ·refine .inr ⟨hlt, Pv (i + 1), fun σ' H' p' => ⟨n - (i + 1), by omega, rfl, hlt, p'⟩, fun x H' y => ?_⟩
  obtain ⟨e, y⟩ := y
  subst e y
  exact hs i σ _ hlt p
 ·have e : i = n := by omega
  subst e
  exact .inl ⟨Nat.le_refl _, hd σ H p⟩
end L2
namespace L2
open PySem PySem.Spec PyProof.Rows
abbrev R2 := V → V → Hp → VK → Prop
def OpR (X : Cx) (f : Value → Value → Sem Value) (r : R2) : Prop :=
 ∀ (pins : List (Addr × Obj)) (s : Shared) (σ : St) (H : Hp) (x y : V) (v u : Value) (Q : VK), Inv X pins σ H s → RelV x v → RelV y u → r x y H Q →
  wpAny (model X.prog X.w) X.A (f v u) (EP X pins σ Q) X.xe s
def UnR (X : Cx) (f : Value → Sem Value) (r : V → Hp → VK → Prop) : Prop :=
 ∀ (pins : List (Addr × Obj)) (s : Shared) (σ : St) (H : Hp) (x : V) (v : Value) (Q : VK), Inv X pins σ H s → RelV x v → r x H Q →
  wpAny (model X.prog X.w) X.A (f v) (EP X pins σ Q) X.xe s
def CallR (X : Cx) (f : Value) (r : List V → Hp → VK → Prop) : Prop :=
 ∀ (pins : List (Addr × Obj)) (s : Shared) (σ : St) (H : Hp) (xs : List V) (us : List Value) (Q : VK), Inv X pins σ H s → Vals xs us → r xs H Q →
  wpAny (model X.prog X.w) X.A (call f us) (EP X pins σ Q) X.xe s
def tOp (r : R2) (ta tb : TE) : TE := fun σ H Q => ta σ H fun x H1 => tb σ H1 fun y H2 => r x y H2 Q
def tUn (r : V → Hp → VK → Prop) (ta : TE) : TE := fun σ H Q => ta σ H fun x H1 => r x H1 Q
def rI (C : Int → Int → Prop) (g : Int → Int → V) : R2 := fun x y H Q => ∃ i j, x = .int i ∧ y = .int j ∧ C i j ∧ Q (g i j) H
def rI0 (g : Int → Int → V) : R2 := fun x y H Q => ∃ i j, x = .int i ∧ y = .int j ∧ Q (g i j) H
def rU (g : Int → V) : V → Hp → VK → Prop := fun x H Q => ∃ i, x = .int i ∧ Q (g i) H
section
variable {X : Cx} {a b c : Expr} {ta tb tc : TE} {pos : Pos}
theorem binT (ha : PE X a ta) (hb : PE X b tb) {pins : List (Addr × Obj)} {s : Shared} {σ : St} {H : Hp} {R : V → V → Hp → Prop} (I : Inv X pins σ H s)
  (h : ta σ H fun x H1 => tb σ H1 fun y H2 => R x y H2) {Q : Value → Shared → Prop} {f : Value → Value → Sem Value}
  (hf : ∀ v u s2 x y H2, Inv X pins σ H2 s2 → RelV x v → RelV y u → R x y H2 → wpAny (model X.prog X.w) X.A (f v u) Q X.xe s2) :
  wpAny (model X.prog X.w) X.A (eval a X.env) (fun v s₁ => wpAny (model X.prog X.w) X.A (eval b X.env) (fun u s₂ => wpAny (model X.prog X.w) X.A (f v u) Q X.xe s₂) X.xe s₁) X.xe s := by
 refine thn (ha pins s σ H _ I h) fun v s1 ⟨x, H1, I1, r1, q1⟩ => ?_
 refine thn (hb pins s1 σ H1 _ I1 q1) fun u s2 ⟨y, H2, I2, r2, q2⟩ => ?_
 exact hf v u s2 x y H2 I2 r1 r2 q2
theorem pe_op {op : Operator} {r : R2} (ho : OpR X (binaryOp op) r) (ha : PE X a ta) (hb : PE X b tb) : PE X (.BinOp a op b pos) (tOp r ta tb) := by
 intro pins s σ H Q I h
 exact wpAny_BinOp (binT ha hb I h fun v u s2 x y H2 I2 rx ry q => ho pins s2 σ H2 x y v u Q I2 rx ry q)
theorem pe_un {op : UnaryOp} {r : V → Hp → VK → Prop} (ho : UnR X (unaryOp op) r) (ha : PE X a ta) : PE X (.UnaryOp op a pos) (tUn r ta) := by
 intro pins s σ H Q I h
 exact UnaryOp_ (thn (ha pins s σ H _ I h) fun v s1 ⟨x, H1, I1, r1, q1⟩ => ho pins s1 σ H1 x v Q I1 r1 q1)
theorem opI {f : Value → Value → Sem Value} {C : Int → Int → Prop} {g : Int → Int → Int}
  (rule : ∀ (i j : Int) (t u : Tok) (s : Shared) (Q : Value → Shared → Prop) (E : Value → Shared → Prop), C i j → Q (.int (g i j) s.toks) { s with toks := s.toks + 1 } → wpAny (model X.prog X.w) X.A (f (.int i t) (.int j u)) Q E s) :
  OpR X f (rI C fun i j => .int (g i j)) := by
 intro pins s σ H x y v u Q I rx ry h
 obtain ⟨i, j, rfl, rfl, hc, q⟩ := h
 obtain ⟨t, rfl⟩ := rx
 obtain ⟨t', rfl⟩ := ry
 exact rule i j t t' s _ _ hc ⟨.int (g i j), H, I.tok _, ⟨_, rfl⟩, q⟩
theorem opI0 {f : Value → Value → Sem Value} {g : Int → Int → Int}
  (rule : ∀ (i j : Int) (t u : Tok) (s : Shared) (Q : Value → Shared → Prop) (E : Value → Shared → Prop), Q (.int (g i j) s.toks) { s with toks := s.toks + 1 } → wpAny (model X.prog X.w) X.A (f (.int i t) (.int j u)) Q E s) :
  OpR X f (rI0 fun i j => .int (g i j)) := by
 intro pins s σ H x y v u Q I rx ry h
 obtain ⟨i, j, rfl, rfl, q⟩ := h
 obtain ⟨t, rfl⟩ := rx
 obtain ⟨t', rfl⟩ := ry
 exact rule i j t t' s _ _ ⟨.int (g i j), H, I.tok _, ⟨_, rfl⟩, q⟩
theorem opB0 {f : Value → Value → Sem Value} {g : Int → Int → Bool}
  (rule : ∀ (i j : Int) (t u : Tok) (s : Shared) (Q : Value → Shared → Prop) (E : Value → Shared → Prop), Q (.bool (g i j)) s → wpAny (model X.prog X.w) X.A (f (.int i t) (.int j u)) Q E s) :
  OpR X f (rI0 fun i j => .bl (g i j)) := by
 intro pins s σ H x y v u Q I rx ry h
 obtain ⟨i, j, rfl, rfl, q⟩ := h
 obtain ⟨t, rfl⟩ := rx
 obtain ⟨t', rfl⟩ := ry
 exact rule i j t t' s _ _ ⟨.bl (g i j), H, I, rfl, q⟩
def CDiv (i j : Int) : Prop := 0 < j ∧ j < 1073741824
def CMul (i j : Int) : Prop := (-(2 ^ 64) < i ∧ i < 2 ^ 64) ∨ (-(2 ^ 64) < j ∧ j < 2 ^ 64)
theorem CMul.ok {i j : Int} (h : CMul i j) : IntMulOk i j := by
 rcases h with ⟨h1, h2⟩ | ⟨h1, h2⟩
 ·exact .of_left (intBits_le_64 h1 h2)
 ·exact .of_right (intBits_le_64 h1 h2)
theorem op_add : OpR X (binaryOp .Add) (rI0 fun i j => .int (i + j)) := opI0 fun _ _ _ _ _ _ _ q => add_int q
theorem op_sub : OpR X (binaryOp .Sub) (rI0 fun i j => .int (i - j)) := opI0 fun _ _ _ _ _ _ _ q => sub_int q
theorem op_mul : OpR X (binaryOp .Mult) (rI CMul fun i j => .int (i * j)) := opI fun _ _ _ _ _ _ _ hc q => mul_int q hc.ok
theorem op_fdiv : OpR X (binaryOp .FloorDiv) (rI CDiv fun i j => .int (i / j)) := opI fun i j _ _ _ _ _ hc q => by
 have h1 : (0 : Int) < j := hc.1
 have h2 : j < 1073741824 := hc.2
 exact floordiv_int (by omega) (by rw [Int.fdiv_eq_ediv_of_nonneg i (by omega)]; exact q) (.inl (PyProof.noPylong_small (by omega)))
theorem op_mod : OpR X (binaryOp .Mod) (rI (fun _ j => 0 < j) fun i j => .int (i % j)) := opI fun i j _ _ _ _ _ hc q => by
 have h1 : (0 : Int) < j := hc
 exact mod_int' (by omega) (by rw [Int.fmod_eq_emod_of_nonneg i (by omega)]; exact q)
theorem unI {f : Value → Sem Value} {g : Int → Int}
  (rule : ∀ (i : Int) (t : Tok) (s : Shared) (Q : Value → Shared → Prop) (E : Value → Shared → Prop), Q (.int (g i) s.toks) { s with toks := s.toks + 1 } → wpAny (model X.prog X.w) X.A (f (.int i t)) Q E s) :
  UnR X f (rU fun i => .int (g i)) := by
 intro pins s σ H x v Q I rx h
 obtain ⟨i, rfl, q⟩ := h
 obtain ⟨t, rfl⟩ := rx
 exact rule i t s _ _ ⟨.int (g i), H, I.tok _, ⟨_, rfl⟩, q⟩
theorem un_neg : UnR X (unaryOp .USub) (rU fun i => .int (-i)) := unI fun _ _ _ _ _ q => neg_int q
end
def scal : V → V → Bool
 | .non, .non => true | .non, .int _ => true | .int _, .non => true | .non, .bl _ => true | .bl _, .non => true | .non, .str _ => true | .str _, .non => true
 | .int _, .int _ => true | .bl _, .bl _ => true | .str _, .str _ => true | .byt _, .byt _ => true
 | .int _, .str _ => true | .str _, .int _ => true | .bl _, .str _ => true | .str _, .bl _ => true
 | _, _ => false
def rEq : R2 := fun x y H Q => scal x y = true ∧ Q (.bl (decide (x = y))) H
def rNe : R2 := fun x y H Q => scal x y = true ∧ Q (.bl (!decide (x = y))) H
theorem dec_int {i j : Int} : decide (V.int i = V.int j) = (i == j) := by
 rw [Bool.eq_iff_iff]
 simp
theorem dec_bl {i j : Bool} : decide (V.bl i = V.bl j) = (i == j) := by
 rw [Bool.eq_iff_iff]
 simp
theorem dec_str {i j : Str} : decide (V.str i = V.str j) = (i == j) := by
 rw [Bool.eq_iff_iff]
 simp
theorem dec_byt {i j : Array UInt8} : decide (V.byt i = V.byt j) = (i.toList == j.toList) := by
 rw [Bool.eq_iff_iff]
 cases i
 cases j
 simp
section
variable {X : Cx} {a b c : Expr} {ta tb tc : TE} {pos : Pos}
theorem fin_bl {pins : List (Addr × Obj)} {σ : St} {H : Hp} {s : Shared} {Q : VK} {k k' : Bool} (I : Inv X pins σ H s) (q : Q (.bl k) H) (e : k = k') : EP X pins σ Q (.bool k') s := by
 subst e
 exact ⟨.bl k, H, I, rfl, q⟩
theorem op_eq : OpR X (compareOp .Eq) rEq := by
 intro pins s σ H x y v u Q I rx ry h
 obtain ⟨hs, q⟩ := h
 cases x with
 | non =>
  cases rx
  cases y with
  | non => cases ry; exact PySem.EqNone.eq_none_none (fin_bl I q (by simp))
  | bl j => cases ry; exact PySem.EqNone.eq_none_bool (fin_bl I q (by simp))
  | int j => obtain ⟨t', rfl⟩ := ry; exact PySem.EqNone.eq_none_int (fin_bl I q (by simp))
  | str j => obtain ⟨t', rfl⟩ := ry; exact PySem.EqNone.eq_none_str (fin_bl I q (by simp))
  | _ => exact absurd (show false = true from hs) Bool.false_ne_true
 | bl i =>
  cases rx
  cases y with
  | non => cases ry; exact PySem.EqNone.eq_bool_none (fin_bl I q (by simp))
  | bl j => cases ry; exact eq_bool (fin_bl I q dec_bl)
  | str j => obtain ⟨t', rfl⟩ := ry; exact PySem.EqMixed.eq_bool_str (fin_bl I q (by simp))
  | _ => exact absurd (show false = true from hs) Bool.false_ne_true
 | int i =>
  obtain ⟨t, rfl⟩ := rx
  cases y with
  | non => cases ry; exact PySem.EqNone.eq_int_none (fin_bl I q (by simp))
  | int j => obtain ⟨t', rfl⟩ := ry; exact eq_int (fin_bl I q dec_int)
  | str j => obtain ⟨t', rfl⟩ := ry; exact PySem.EqMixed.eq_int_str (fin_bl I q (by simp))
  | _ => exact absurd (show false = true from hs) Bool.false_ne_true
 | str i =>
  obtain ⟨t, rfl⟩ := rx
  cases y with
  | non => cases ry; exact PySem.EqNone.eq_str_none (fin_bl I q (by simp))
  | bl j => cases ry; exact PySem.EqMixed.eq_str_bool (fin_bl I q (by simp))
  | int j => obtain ⟨t', rfl⟩ := ry; exact PySem.EqMixed.eq_str_int (fin_bl I q (by simp))
  | str j => obtain ⟨t', rfl⟩ := ry; exact eq_str (fin_bl I q dec_str)
  | _ => exact absurd (show false = true from hs) Bool.false_ne_true
 | byt i =>
  obtain ⟨t, rfl⟩ := rx
  cases y with
  | byt j => obtain ⟨t', rfl⟩ := ry; exact PySem.W.eq_bytes (fin_bl I q dec_byt)
  | _ => exact absurd (show false = true from hs) Bool.false_ne_true
 | _ => cases y <;> exact absurd (show false = true from hs) Bool.false_ne_true
theorem op_ne : OpR X (compareOp .NotEq) rNe := by
 intro pins s σ H x y v u Q I rx ry h
 obtain ⟨hs, q⟩ := h
 cases x with
 | non =>
  cases rx
  cases y with
  | non => cases ry; exact PySem.EqNone.ne_none_none (fin_bl I q (by simp))
  | bl j => cases ry; exact PySem.EqNone.ne_none_bool (fin_bl I q (by simp))
  | int j => obtain ⟨t', rfl⟩ := ry; exact PySem.EqNone.ne_none_int (fin_bl I q (by simp))
  | str j => obtain ⟨t', rfl⟩ := ry; exact PySem.EqNone.ne_none_str (fin_bl I q (by simp))
  | _ => exact absurd (show false = true from hs) Bool.false_ne_true
 | bl i =>
  cases rx
  cases y with
  | non => cases ry; exact PySem.EqNone.ne_bool_none (fin_bl I q (by simp))
  | bl j => cases ry; exact ne_bool (fin_bl I q (congrArg not dec_bl))
  | str j => obtain ⟨t', rfl⟩ := ry; exact PySem.EqMixed.ne_bool_str (fin_bl I q (by simp))
  | _ => exact absurd (show false = true from hs) Bool.false_ne_true
 | int i =>
  obtain ⟨t, rfl⟩ := rx
  cases y with
  | non => cases ry; exact PySem.EqNone.ne_int_none (fin_bl I q (by simp))
  | int j => obtain ⟨t', rfl⟩ := ry; exact ne_int (fin_bl I q (congrArg not dec_int))
  | str j => obtain ⟨t', rfl⟩ := ry; exact PySem.EqMixed.ne_int_str (fin_bl I q (by simp))
  | _ => exact absurd (show false = true from hs) Bool.false_ne_true
 | str i =>
  obtain ⟨t, rfl⟩ := rx
  cases y with
  | non => cases ry; exact PySem.EqNone.ne_str_none (fin_bl I q (by simp))
  | bl j => cases ry; exact PySem.EqMixed.ne_str_bool (fin_bl I q (by simp))
  | int j => obtain ⟨t', rfl⟩ := ry; exact PySem.EqMixed.ne_str_int (fin_bl I q (by simp))
  | str j => obtain ⟨t', rfl⟩ := ry; exact ne_str (fin_bl I q (congrArg not dec_str))
  | _ => exact absurd (show false = true from hs) Bool.false_ne_true
 | byt i =>
  obtain ⟨t, rfl⟩ := rx
  cases y with
  | byt j => obtain ⟨t', rfl⟩ := ry; exact PySem.W.ne_bytes (fin_bl I q (congrArg not dec_byt))
  | _ => exact absurd (show false = true from hs) Bool.false_ne_true
 | _ => cases y <;> exact absurd (show false = true from hs) Bool.false_ne_true
theorem op_lt : OpR X (compareOp .Lt) (rI0 fun i j => .bl (decide (i < j))) := opB0 fun _ _ _ _ _ _ _ q => lt_int q
theorem op_le : OpR X (compareOp .LtE) (rI0 fun i j => .bl (decide (i ≤ j))) := opB0 fun _ _ _ _ _ _ _ q => le_int q
theorem op_gt : OpR X (compareOp .Gt) (rI0 fun i j => .bl (decide (j < i))) := opB0 fun _ _ _ _ _ _ _ q => gt_int q
theorem op_in_str : OpR X (compareOp .In) (fun x y H Q => ∃ i j, x = .str i ∧ y = .str j ∧ Q (.bl (!(Builtin.Str.occurrences j i 0 j.length 1).isEmpty)) H) := by
 intro pins s σ H x y v u Q I rx ry h
 obtain ⟨i, j, rfl, rfl, q⟩ := h
 obtain ⟨t, rfl⟩ := rx
 obtain ⟨t', rfl⟩ := ry
 exact in_str (fin_bl I q rfl)
theorem nomark (b : Expr) {op : CmpOp} (h : op ≠ .In := by decide) (h2 : op ≠ .NotIn := by decide) : behindInMarks op b = false := by
 have e1 : (op == CmpOp.In) = false := by cases op <;> first | rfl | exact absurd rfl h
 have e2 : (op == CmpOp.NotIn) = false := by cases op <;> first | rfl | exact absurd rfl h2
 cases b <;> simp [behindInMarks, e1, e2]
theorem pe_cmpR {op : CmpOp} {r : R2} (ho : OpR X (compareOp op) r) (ha : PE X a ta) (hb : PE X b tb) (hm : behindInMarks op b = false) : PE X (.Compare a [op] [b] pos) (tOp r ta tb) := by
 intro pins s σ H Q I h
 exact wpAny_Compare1 (binT ha hb I h fun v u s2 x y H2 I2 rx ry q => ho pins s2 σ H2 x y v u Q I2 rx ry q) hm
def tTest (t : TE) : TT := fun σ H Q => t σ H fun x H' => ∃ k, x = .bl k ∧ Q k H'
theorem pt_cmpR {op : CmpOp} {r : R2} (ho : OpR X (compareOp op) r) (ha : PE X a ta) (hb : PE X b tb) (hm : behindInMarks op b = false) : PT X (.Compare a [op] [b] pos) (tTest (tOp r ta tb)) := by
 intro pins s σ H Q I h
 refine wpAny_isTrue_Compare1 (thn (ha pins s σ H _ I h) fun v s1 ⟨x, H1, I1, r1, q1⟩ => thn (hb pins s1 σ H1 _ I1 q1) fun u s2 ⟨y, H2, I2, r2, q2⟩ =>
  thn (ho pins s2 σ H2 x y v u _ I2 r1 r2 q2) fun c s3 ⟨z, H3, I3, r3, k, e, q3⟩ => ?_) hm
 subst e
 cases r3
 exact wpAny_truthy_bool ⟨H3, I3, q3⟩
def tChain (r r' : R2) (ta tb tc : TE) : TE := fun σ H Q => ta σ H fun x H1 => tb σ H1 fun y H2 => r x y H2 fun z H3 => ∃ k, z = .bl k ∧
 (if k = true then tc σ H3 fun w' H4 => r' y w' H4 Q else Q (.bl false) H3)
theorem pe_chain {op op' : CmpOp} {r r' : R2} (ho : OpR X (compareOp op) r) (ho' : OpR X (compareOp op') r') (ha : PE X a ta) (hb : PE X b tb) (hc : PE X c tc)
  (hm : lastMarks [op, op'] [b, c] = false := by with_unfolding_all rfl) : PE X (.Compare a [op, op'] [b, c] pos) (tChain r r' ta tb tc) := by
 intro pins s σ H Q I h
 refine Compare_chain (thn (ha pins s σ H _ I h) fun v s1 ⟨x, H1, I1, r1, q1⟩ => chain_link (thn (hb pins s1 σ H1 _ I1 q1) fun u s2 ⟨y, H2, I2, r2, q2⟩ =>
  thn (ho pins s2 σ H2 x y v u _ I2 r1 r2 q2) fun d s3 ⟨z, H3, I3, r3, k, e, q3⟩ => ?_)) hm
 subst e
 cases r3
 refine wpAny_truthy_bool ?_
 cases k with
 | false => exact ite_ff ⟨.bl false, H3, I3, rfl, q3⟩
 | true => exact ite_tt (chain_last (thn (hc pins s3 σ H3 _ I3 q3) fun w' s4 ⟨z', H4, I4, r4, q4⟩ => ho' pins s4 σ H4 y z' u w' Q I4 r2 r4 q4))
theorem line63 : (sizeLine : Nat) < 2 ^ 63 := by rw [sizeLine_eq]; decide
theorem op_add_str : OpR X (binaryOp .Add) (fun x y H Q => ∃ i j, x = .str i ∧ y = .str j ∧ i.length + j.length ≤ sizeLine ∧ Q (.str (i ++ j)) H) := by
 intro pins s σ H x y v u Q I rx ry h
 obtain ⟨i, j, rfl, rfl, hz, q⟩ := h
 obtain ⟨t, rfl⟩ := rx
 obtain ⟨t', rfl⟩ := ry
 exact add_str (fun t' tk => ⟨.str (i ++ j), H, I.tok _, ⟨_, rfl⟩, q⟩) hz
theorem vals1 {x : V} {us : List Value} (r : Vals [x] us) : ∃ u, us = [u] ∧ RelV x u := by
 cases r with
 | cons r1 r2 => cases r2; exact ⟨_, rfl, r1⟩
theorem vals2 {x y : V} {us : List Value} (r : Vals [x, y] us) : ∃ u w', us = [u, w'] ∧ RelV x u ∧ RelV y w' := by
 cases r with
 | cons r1 r2 =>
  cases r2 with
  | cons r3 r4 => cases r4; exact ⟨_, _, rfl, r1, r3⟩
theorem call_max2 (hc : X.calm = true) : CallR X (.builtin "max") (fun xs H Q => ∃ i j, xs = [.int i, .int j] ∧ Q (.int (if j > i then j else i)) H) := by
 intro pins s σ H xs us Q I r h
 obtain ⟨i, j, rfl, q⟩ := h
 obtain ⟨u, w', rfl, ⟨t, rfl⟩, ⟨t', rfl⟩⟩ := vals2 r
 refine max_two_ints (I.ok.hd hc) fun h' tk k => ⟨_, H, I.kept k, ?_, q⟩
 by_cases hj : j > i
 ·rw [if_pos hj, if_pos hj]; exact ⟨_, rfl⟩
 ·rw [if_neg hj, if_neg hj]; exact ⟨_, rfl⟩
end
end L2
namespace L2
open PySem PySem.Spec PyProof.Rows
structure ObjM (h : Heap) (x dx C : Addr) (mA : Str → Option Value) : Prop where
 obj : h.get? x = some (PySem.W.instObj C dx)
 ns : h.Ns1 dx mA
 ne : dx ≠ x
theorem lookIn_ns {h : Heap} {dx : Addr} {mA : Str → Option Value} (n : h.Ns1 dx mA) : ∃ od, h.get? dx = some od ∧ ∀ name, PySem.W.lookIn name od = some (mA name) := by
 obtain ⟨o, es, ep, ho, hd, hk, _, hm⟩ := n
 refine ⟨o, ho, fun name => ?_⟩
 have e := hm name
 unfold nsFind findBy at e
 rw [← Array.find?_toList] at e
 unfold PySem.W.lookIn
 rw [hd]
 dsimp only
 split
 ·rename_i y q
  rw [q] at e
  exact congrArg some e
 ·rename_i q
  rw [q] at e
  have a : es.toList.any (·.refKey) = false := by
   rw [List.any_eq_false]
   intro y hy
   obtain ⟨z, t, hkey⟩ := hk y (Array.mem_toList_iff.mp hy)
   simp [DictEntry.refKey, hkey]
  have a' : ¬ es.toList.any (·.refKey) = true := by rw [a]; exact Bool.false_ne_true
  rw [if_neg a']
  exact congrArg some e
theorem ObjM.look {h : Heap} {x dx C : Addr} {mA : Str → Option Value} (I : ObjM h x dx C mA) : ∃ od, PySem.W.InstAt h x (PySem.W.instObj C dx) C (some od) ∧ ∀ name, PySem.W.lookIn name od = some (mA name) :=
 let ⟨od, ho, hl⟩ := lookIn_ns I.ns
 ⟨od, ⟨I.obj, rfl, rfl, ho⟩, hl⟩
section
variable {prog : Program} {w : World} {A : Around} {E : Value → Shared → Prop} {s : Shared} {K : PySem.W.Frag} {x dx C f : Addr} {mA : Str → Option Value} {name : Str} {v : Value}
theorem get_map {expr : Bool} {Q : Value → Shared → Prop} (X : K.In s.heap) (I : ObjM s.heap x dx C mA) (hg : PySem.W.plainGet K C name = true) (hh : PySem.W.hasDictIn K C = true)
  (ha : PySem.W.findIn K (.ref C) name = some none) (hv : mA name = some v) (hv' : PySem.W.handedIn v = true) (h : Q v { s with toks := s.toks + 1 }) :
  wpAny (model prog w) A (getAttr (.ref x) name expr) Q E s := by
 obtain ⟨od, J, hl⟩ := I.look
 exact PySem.W.get_value X J (PySem.W.plainGet_of hg).1 (PySem.W.findObj_own hh ha rfl (by rw [hl, hv])) hv' h
theorem get_meth {pl : Sem Bool} {Q : Value × List Value → Shared → Prop} (X : K.In s.heap) (I : ObjM s.heap x dx C mA) (hg : PySem.W.plainGet K C name = true)
  (hf : PySem.W.findIn K (.ref C) name = some (some (.ref f))) (ht : PySem.W.isFn K (.ref f) = true) (hv : mA name = none) (h : Q (.ref f, [.ref x]) s) :
  wpAny (model prog w) A (getMethod (.ref x) name pl) Q E s := by
 obtain ⟨od, J, hl⟩ := I.look
 exact PySem.W.method_fn X J (PySem.W.plainGet_of hg).1 (PySem.W.plainGet_of hg).2 hf (beq_iff_eq.mp ht) (by show (PySem.W.lookIn name od).map (·.isSome) = some false; rw [hl, hv]; rfl) h
theorem set_map {ns : List Str} {Q : Unit → Shared → Prop} (X : K.In s.heap) (I : ObjM s.heap x dx C mA)
  (hs : PySem.W.findIn K (.ref C) "__setattr__" = some (some (.builtin "object.__setattr__"))) (hp : PySem.W.plainOver K C = true) (ht : PySem.W.takerIn K C name = some none) (hh : PySem.W.hasDictIn K C = true)
  (hw : PySem.Within mA ns) (hsz : ns.length ≤ sizeLine)
  (h : ∀ h', ObjM h' x dx C (fun y => if y = name then some v else mA y) → Heap.SameBut dx s.heap h' → Q () { s with heap := h', toks := s.toks + 2 }) :
  wpAny (model prog w) A (setAttr (.ref x) name v) Q E s := by
 obtain ⟨od, J, hl⟩ := I.look
 refine PySem.W.set_plain X J hs (PySem.W.osa_open (s := { s with toks := s.toks + 1 }) (r := none) X J hp ht fun b => ?_)
 obtain ⟨cd, hc, hd'⟩ := PySem.W.any_some hh
 have hx : s.heap.get? x = some ⟨.ref C, some dx, .plain, #[]⟩ := I.obj
 refine wpAny_bind (wpAny_pure (wpAny_bind (wpAny_bind (wpAny_loadPart hx (wpAny_bind (PySem.W.Looks.here (s := { s with toks := s.toks + 1 }) (PySem.W.looks_clsIn X hc) ?_))))))
 rw [hd']
 refine wpAny_pure (a := some dx) (wpAny_bind (wpAny_pure (wpAny_bind ?_)))
 refine wpAny_nsSet1 (s := { s with toks := s.toks + 1 }) I.ns fun h' hn2 hs2 => ?_
 obtain ⟨oD, esD, epD, hoD, hdD, hcD⟩ := hn2.count (PySem.Within.cons name v hw)
 refine wpAny_bind (wpAny_lookBehind hoD (by rw [hdD]; exact pastItsLine_dict (Nat.le_trans hcD (by rw [List.length_cons]; omega))) ?_)
 exact wpAny_pure (h _ ⟨(hs2.2 _ (Ne.symm I.ne)).trans I.obj, hn2, I.ne⟩ hs2)
theorem make_map {R : Result → Shared → Prop} {vs : List Value} {kw : List (Str × Value)} (X : K.In s.heap) (hm : PySem.W.makesIn K C = true)
  (hi : PySem.W.findIn K (.ref C) "__init__" = some (some (.ref f))) (hf : PySem.W.typeIn K (.ref f) = some (.type "function"))
  (h : codeAny (model prog w) (A.under (.builtin "type.__call__" ⟨.ref C :: vs, kw⟩)) (.call (.ref f) ⟨.ref (s.heap.objs.size + 1) :: vs, kw⟩) (PySem.W.InitBack (s.heap.objs.size + 1) R)
   { s with heap := (s.heap.push PySem.W.emptyDict).push (PySem.W.instObj C s.heap.objs.size) }) :
  codeAny (model prog w) A (.call (.ref C) ⟨vs, kw⟩) R s := by
 obtain ⟨hh, g, d, t, os⟩ := s
 exact PySem.W.make_core (PySem.W.makes_of X hm) (PySem.W.looks_findIn X hi) (fun self => PySem.W.bind_fn X self hf) (.inl rfl) h
end
def putF (f : Str) (v : V) : List (Str × V) → List (Str × V)
 | [] => [(f, v)]
 | (g, x) :: r => if g = f then (g, v) :: r else (g, x) :: putF f v r
theorem lookup_putF (f g : Str) (v : V) : ∀ fs : List (Str × V), (putF f v fs).lookup g = if g = f then some v else fs.lookup g
 | [] => by
  show List.lookup g [(f, v)] = _
  by_cases h : g = f
  ·have hb : (g == f) = true := beq_iff_eq.mpr h
   simp only [List.lookup, hb, if_pos h]
  ·have hb : (g == f) = false := beq_eq_false_iff_ne.mpr h
   simp only [List.lookup, hb, if_neg h]
 | (k, x) :: r => by
  have ih := lookup_putF f g v r
  rw [show putF f v ((k, x) :: r) = (if k = f then (k, v) :: r else (k, x) :: putF f v r) from rfl]
  by_cases hk : k = f
  ·rw [if_pos hk]
   by_cases h : g = k
   ·have hb : (g == k) = true := beq_iff_eq.mpr h
    simp only [List.lookup, hb, if_pos (h.trans hk)]
   ·have hb : (g == k) = false := beq_eq_false_iff_ne.mpr h
    simp only [List.lookup, hb, if_neg (fun e : g = f => h (e.trans hk.symm))]
  ·rw [if_neg hk]
   by_cases h : g = k
   ·have hb : (g == k) = true := beq_iff_eq.mpr h
    simp only [List.lookup, hb, if_neg (fun e : g = f => hk (h.symm.trans e))]
   ·have hb : (g == k) = false := beq_eq_false_iff_ne.mpr h
    simp only [List.lookup, hb]
    exact ih
theorem keys_putF (f : Str) (v : V) : ∀ fs : List (Str × V), f ∈ (putF f v fs).map (·.1) ∧ ∀ g, g ∈ fs.map (·.1) → g ∈ (putF f v fs).map (·.1)
 | [] => ⟨by simp [putF], fun g h => by simp at h⟩
 | (k, x) :: r => by
  obtain ⟨i1, i2⟩ := keys_putF f v r
  rw [show putF f v ((k, x) :: r) = (if k = f then (k, v) :: r else (k, x) :: putF f v r) from rfl]
  by_cases hk : k = f
  ·rw [if_pos hk]
   subst hk
   exact ⟨by simp, fun g h => by simpa using h⟩
  ·rw [if_neg hk]
   refine ⟨?_, fun g h => ?_⟩
   ·rw [List.map_cons]
    exact List.mem_cons_of_mem _ i1
   ·rw [List.map_cons] at h ⊢
    rcases List.mem_cons.mp h with e | e
    ·exact List.mem_cons.mpr (.inl e)
    ·exact List.mem_cons_of_mem _ (i2 g e)
theorem length_putF (f : Str) (v : V) : ∀ fs : List (Str × V), (putF f v fs).length ≤ fs.length + 1
 | [] => by simp [putF]
 | (k, x) :: r => by
  have ih := length_putF f v r
  rw [show putF f v ((k, x) :: r) = (if k = f then (k, v) :: r else (k, x) :: putF f v r) from rfl]
  by_cases hk : k = f
  ·rw [if_pos hk, List.length_cons, List.length_cons]; omega
  ·rw [if_neg hk, List.length_cons, List.length_cons]; omega
theorem RelO.some_of {v : V} {o : Option Value} (r : RelO (some v) o) : ∃ u, o = some u ∧ RelV v u := by
 cases o with
 | none => exact (show False from r).elim
 | some u => exact ⟨u, rfl, r⟩
theorem RelO.none_of {o : Option Value} (r : RelO none o) : o = none := by
 cases o with
 | none => rfl
 | some u => exact (show False from r).elim
theorem handed_of {v : V} {u : Value} (r : RelV v u) : PySem.W.handedIn u = true := by
 cases v with
 | non => cases (show u = Value.none from r); rfl
 | bl b => cases (show u = Value.bool b from r); rfl
 | int i => obtain ⟨t, e⟩ := (show ∃ t, u = Value.int i t from r); cases e; rfl
 | str x => obtain ⟨t, e⟩ := (show ∃ t, u = Value.str x t from r); cases e; rfl
 | byt b => obtain ⟨t, e⟩ := (show ∃ t, u = Value.bytes b t from r); cases e; rfl
 | flt b => obtain ⟨t, e⟩ := (show ∃ t, u = Value.float b t from r); cases e; rfl
 | ref a => cases (show u = Value.ref a from r); rfl
 | ty n => cases (show u = Value.type n from r); rfl
section
variable {P : Program} {w : World} {H H' : Hp} {h h' : Heap} {a C dx : Addr} {fs fs' : List (Str × V)}
theorem ins_get (hok : HOk P w H h) (e : H a = some (.ins C dx fs)) : ∃ mA, ObjM h a dx C mA ∧ (∀ f, RelO (fs.lookup f) (mA f)) ∧ PySem.Within mA (fs.map (·.1)) ∧ fs.length ≤ 1000 ∧ H dx = some (.own a) := by
 obtain ⟨d, z, ne, ob, mA, n, r, q⟩ := (show ObjOk P w H h a (.ins C dx fs) from hok a _ e)
 exact ⟨mA, ⟨ob, n, ne⟩, r, q, z, d⟩
end
structure Cls (K : PySem.W.Frag) (C : Addr) : Prop where
 pg : PySem.W.plainGet K C Str.empty = true
 hd : PySem.W.hasDictIn K C = true
 po : PySem.W.plainOver K C = true
 sa : PySem.W.findIn K (.ref C) "__setattr__" = some (some (.builtin "object.__setattr__"))
theorem Cls.get {K : PySem.W.Frag} {C : Addr} (c : Cls K C) (f : Str) : PySem.W.plainGet K C f = true := c.pg
def NoAttr (K : PySem.W.Frag) (C : Addr) (f : Str) : Prop := PySem.W.findIn K (.ref C) f = some none
theorem NoAttr.taker {K : PySem.W.Frag} {C : Addr} {f : Str} (n : NoAttr K C f) : PySem.W.takerIn K C f = some none := by
 unfold PySem.W.takerIn
 rw [show PySem.W.findIn K (.ref C) f = some none from n]
 rfl
structure Meth (K : PySem.W.Frag) (C : Addr) (m : Str) (f : Addr) : Prop where
 at_ : PySem.W.findIn K (.ref C) m = some (some (.ref f))
 fn : PySem.W.isFn K (.ref f) = true
 kp : PySem.W.keepIn K (.ref f) = true
section
variable {X : Cx} {pins : List (Addr × Obj)} {σ : St} {H : Hp} {s : Shared} {a C dx : Addr} {fs : List (Str × V)} {f : Str} {v : V} {A : Around} {E : Value → Shared → Prop}
theorem getattr_ok {b : Bool} {Q : Value → Shared → Prop} (I : Inv X pins σ H s) (e : H a = some (.ins C dx fs)) (c : Cls X.K C) (n : NoAttr X.K C f) (l : fs.lookup f = some v)
  (h : ∀ u s', Inv X pins σ H s' → RelV v u → Q u s') : wpAny (model X.prog X.w) A (getAttr (.ref a) f b) Q E s := by
 obtain ⟨mA, O, r, _, _, _⟩ := ins_get I.hok e
 obtain ⟨u, hu, ru⟩ := RelO.some_of (v := v) (o := mA f) (by rw [← l]; exact r f)
 exact get_map I.kIn O (c.get f) c.hd n hu (handed_of ru) (h u _ (I.tok _) ru)
theorem getmeth_ok {m : Str} {g : Addr} {pl : Sem Bool} {Q : Value × List Value → Shared → Prop} (I : Inv X pins σ H s) (e : H a = some (.ins C dx fs)) (c : Cls X.K C) (k : Meth X.K C m g) (l : fs.lookup m = none)
  (h : Q (.ref g, [.ref a]) s) : wpAny (model X.prog X.w) A (getMethod (.ref a) m pl) Q E s := by
 obtain ⟨mA, O, r, _, _, _⟩ := ins_get I.hok e
 have hn : mA m = none := RelO.none_of (by rw [← l]; exact r m)
 exact get_meth I.kIn O (c.get m) k.at_ k.fn hn h
theorem setattr_ok {y : V} {u : Value} {Q : Unit → Shared → Prop} (I : Inv X pins σ H s) (e : H a = some (.ins C dx fs)) (c : Cls X.K C) (n : NoAttr X.K C f) (hl : fs.length < 1000) (ry : RelV y u)
  (h : ∀ s', Inv X pins σ (upd H a (.ins C dx (putF f y fs))) s' → Q () s') : wpAny (model X.prog X.w) A (setAttr (.ref a) f u) Q E s := by
 obtain ⟨mA, O, r, wi, _, ho⟩ := ins_get I.hok e
 have hz : (fs.map (·.1)).length ≤ sizeLine := by rw [List.length_map, sizeLine_eq]; omega
 refine set_map I.kIn O c.sa c.po n.taker c.hd wi hz fun h' O' sb => h _ ?_
 have hd : ∃ o, h'.get? dx = some o := let ⟨o, _, _, e', _⟩ := O'.ns; ⟨o, e'⟩
 refine I.write (x := a) (e := dx) (by rw [e]; exact True.intro) (.inr ho) (fun b q hb z => (sb.2 b hb).trans z) hd ?_
 refine ⟨by rw [upd_ne O.ne]; exact ho, ?_, O.ne, O'.obj, _, O'.ns, fun g => ?_, fun g hg => ?_⟩
 ·have := length_putF f y fs; omega
 ·show RelO ((putF f y fs).lookup g) (if g = f then some u else mA g)
  rw [lookup_putF]
  by_cases q : g = f
  ·rw [if_pos q, if_pos q]; exact ry
  ·rw [if_neg q, if_neg q]; exact r g
 ·by_cases q : g = f
  ·rw [q]; exact (keys_putF f y fs).1
  ·refine (keys_putF f y fs).2 g (wi g fun z => hg ?_)
   show (if g = f then some u else mA g) = none
   rw [if_neg q]; exact z
theorem Inv.made (I : Inv X pins σ H s) : Inv X pins σ (upd (upd H s.heap.objs.size (.own (s.heap.objs.size + 1))) (s.heap.objs.size + 1) (.ins C s.heap.objs.size []))
  { s with heap := (s.heap.push PySem.W.emptyDict).push (PySem.W.instObj C s.heap.objs.size) } := by
 have e1 : (s.heap.push PySem.W.emptyDict).get? s.heap.objs.size = some PySem.W.emptyDict := Heap.get?_push_size s.heap rfl
 have e2 : ((s.heap.push PySem.W.emptyDict).push (PySem.W.instObj C s.heap.objs.size)).get? (s.heap.objs.size + 1) = some (PySem.W.instObj C s.heap.objs.size) := by
  have := Heap.get?_push_size (s.heap.push PySem.W.emptyDict) (o := PySem.W.instObj C s.heap.objs.size) rfl
  rwa [Heap.size_push] at this
 have e3 : (s.heap.push PySem.W.emptyDict).Ns s.heap.objs.size (fun _ => none) := ⟨PySem.W.emptyDict, #[], _, e1, rfl, (fun e he => absurd he (by simp)), fun _ => rfl⟩
 have I1 := I.laid (a := s.heap.objs.size) (o := .own (s.heap.objs.size + 1)) (h' := s.heap.push PySem.W.emptyDict) (t' := s.toks) (fun b u q => Heap.get?_push_of_some _ q) (Nat.le_refl _) ⟨_, e1⟩
 refine I1.laid (a := s.heap.objs.size + 1) (o := .ins C s.heap.objs.size []) (t' := s.toks) (fun b u q => Heap.get?_push_of_some _ q) (Nat.le_of_eq (Heap.size_push _ _)) ?_
 have ne : s.heap.objs.size ≠ s.heap.objs.size + 1 := Nat.ne_of_lt (Nat.lt_succ_self _)
 refine ⟨by rw [upd_ne ne, upd_same], Nat.zero_le _, ne, e2, fun _ => none, (Heap.Ns1.of_empty e3).at fun o q => Heap.get?_push_of_some _ q, fun _ => True.intro, fun y hy => absurd rfl hy⟩
theorem attr_of {prog : Program} {w : World} {env : Env} {e : Expr} {f : Str} {pos : Pos} {s : Shared} {Q : Value → Shared → Prop} (hb : attributeBase e f env (eval e env) = eval e env)
  (h : wpAny (model prog w) A (eval e env) (fun o s₁ => wpAny (model prog w) A (getAttr o f true) Q E s₁) E s) : wpAny (model prog w) A (eval (.Attribute e f pos) env) Q E s :=
 Attribute_any_ h (by rw [arm_eval_Attribute, hb])
end
def tFld (K : PySem.W.Frag) (ta : TE) (f : Str) : TE := fun σ H Q => ta σ H fun x H1 => ∃ a C dx fs v, x = .ref a ∧ H1 a = some (.ins C dx fs) ∧ Cls K C ∧ NoAttr K C f ∧ fs.lookup f = some v ∧ Q v H1
def sFld (K : PySem.W.Frag) (ta tv : TE) (f : Str) : TS := fun D σ H => tv σ H fun y H1 => ta σ H1 fun x H2 => ∃ a C dx fs, x = .ref a ∧ H2 a = some (.ins C dx fs) ∧ Cls K C ∧ NoAttr K C f ∧ fs.length < 1000 ∧
 D.nx σ (upd H2 a (.ins C dx (putF f y fs)))
def InOp (X : Cx) (op : Operator) (rd : V → V → Hp → VK → Prop) : Prop :=
 ∀ (pins : List (Addr × Obj)) (s : Shared) (σ : St) (H : Hp) (x y : V) (u v : Value) (Q : VK), Inv X pins σ H s → RelV x u → RelV y v → rd x y H Q → wpAny (model X.prog X.w) X.A (inplaceOp op u v) (EP X pins σ Q) X.xe s
section
variable {X : Cx} {o e value : Expr} {f : Str} {pos pos' tpos : Pos} {ta tv : TE}
theorem pe_fld (he : PE X e ta) (hb : attributeBase e f X.env (eval e X.env) = eval e X.env) : PE X (.Attribute e f pos) (tFld X.K ta f) := by
 intro pins s σ H Q I h
 refine attr_of hb (thn (he pins s σ H _ I h) fun u s1 ⟨x, H1, I1, rx, a, C, dx, fs, v, ex, ea, c, n, l, q⟩ => ?_)
 subst ex
 obtain rfl : u = Value.ref a := rx
 exact getattr_ok I1 ea c n l fun u' s2 I2 ru => ⟨v, H1, I2, ru, q⟩
theorem ps_fld (ha : PE X o ta) (hv : PE X value tv) (hs : swapsWith value (some (.Attribute o f pos')) pos.line X.env = pure false) : PS X (.Assign [.Attribute o f pos'] value pos) (sFld X.K ta tv f) := by
 intro pins s σ H D I h
 refine plainObj_wpAny_Assign_Attribute (thn (hv pins s σ H _ I h) fun u s1 ⟨y, H1, I1, ry, q⟩ => thn (ha pins s1 σ H1 _ I1 q) fun ov s2 ⟨x, H2, I2, rx, a, C, dx, fs, ex, ea, c, n, l, q2⟩ => ?_) hs
 subst ex
 obtain rfl : ov = Value.ref a := rx
 exact setattr_ok I2 ea c n l ry fun s3 I3 => ⟨σ, _, I3, q2⟩
def rAdd : V → V → Hp → VK → Prop := fun x y H Q => ∃ i j, x = .int i ∧ y = .int j ∧ Q (.int (i + j)) H
def rSub : V → V → Hp → VK → Prop := fun x y H Q => ∃ i j, x = .int i ∧ y = .int j ∧ Q (.int (i - j)) H
theorem in_add : InOp X .Add rAdd := by
 rintro pins s σ H x y u v Q I rx ry ⟨i, j, rfl, rfl, q⟩
 obtain ⟨t, rfl⟩ := (show ∃ t, u = Value.int i t from rx)
 obtain ⟨t', rfl⟩ := (show ∃ t', v = Value.int j t' from ry)
 exact PyProof.Rows.iadd_int ⟨.int (i + j), H, I.tok _, ⟨_, rfl⟩, q⟩
theorem in_sub : InOp X .Sub rSub := by
 rintro pins s σ H x y u v Q I rx ry ⟨i, j, rfl, rfl, q⟩
 obtain ⟨t, rfl⟩ := (show ∃ t, u = Value.int i t from rx)
 obtain ⟨t', rfl⟩ := (show ∃ t', v = Value.int j t' from ry)
 exact PyProof.Rows.isub_int ⟨.int (i - j), H, I.tok _, ⟨_, rfl⟩, q⟩
end
section
variable {X : Cx} {pins : List (Addr × Obj)} {σ : St} {H : Hp} {s : Shared} {A : Around} {E : Value → Shared → Prop} {Q : Value → Shared → Prop} {c : Value} {b : Bool}
inductive TyOf (K : PySem.W.Frag) (H : Hp) : V → Value → Prop where
 | non : TyOf K H .non (.type "NoneType")
 | bl (x : Bool) : TyOf K H (.bl x) (.type "bool")
 | int (i : Int) : TyOf K H (.int i) (.type "int")
 | str (x : Str) : TyOf K H (.str x) (.type "str")
 | flt (x : UInt64) : TyOf K H (.flt x) (.type "float")
 | lst {a : Addr} {xs : List V} (e : H a = some (.lst xs)) : TyOf K H (.ref a) (.type "list")
 | frz {a : Addr} {o : Obj} {xs : List V} (e : H a = some (.frz o (.lst xs))) : TyOf K H (.ref a) (.type "list")
 | tup {a : Addr} {xs : List V} (e : H a = some (.tup xs)) : TyOf K H (.ref a) (.type "tuple")
 | dK {a : Addr} {kvs : List (Key × V)} (e : H a = some (.dK kvs)) : TyOf K H (.ref a) (.type "dict")
 | dT {a : Addr} {kvs : List (List Key × V)} (e : H a = some (.dT kvs)) : TyOf K H (.ref a) (.type "dict")
 | ins {a C dx : Addr} {fs : List (Str × V)} (e : H a = some (.ins C dx fs)) (cl : Cls K C) (ha : PySem.W.findIn K (.ref C) "__class__" = some (some (.builtin "object.__class__")))
   (hn : PySem.W.specialIn K (.builtin "object.__class__") "__get__" = some (some (.builtin "getset_descriptor.__get__"))) (htk : PySem.W.takesIn K (.builtin "object.__class__") = some true)
   (hm : PySem.W.mroIn K C (.type "object") = some true) : TyOf K H (.ref a) (.ref C)
theorem isinst_ok {x : V} {u t : Value} (I : Inv X pins σ H s) (rx : RelV x u) (ty : TyOf X.K H x t) (e : PySem.W.kitOne X.K t c = some b) (h : ∀ tk, Q (.bool b) { s with toks := tk }) :
  wpAny (model X.prog X.w) A (call (.builtin "isinstance") [u, c]) Q E s := by
 cases ty with
 | non => cases (show u = Value.none from rx); exact PySem.W.kia_one PySem.W.kitx_none I.kIn True.intro e (fun z => nomatch z) h
 | bl y => cases (show u = Value.bool y from rx); exact PySem.W.kia_one PySem.W.kitx_bool I.kIn True.intro e (fun z => nomatch z) h
 | int i => obtain ⟨t, q⟩ := (show ∃ t, u = Value.int i t from rx); cases q; exact PySem.W.kia_one PySem.W.kitx_int I.kIn True.intro e (fun z => nomatch z) h
 | str y => obtain ⟨t, q⟩ := (show ∃ t, u = Value.str y t from rx); cases q; exact PySem.W.kia_one PySem.W.kitx_str I.kIn True.intro e (fun z => nomatch z) h
 | flt y => obtain ⟨t, q⟩ := (show ∃ t, u = Value.float y t from rx); cases q; exact PySem.W.kia_one PySem.W.kitx_float I.kIn True.intro e (fun z => nomatch z) h
 | @lst a xs ea =>
  cases (show u = Value.ref a from rx)
  obtain ⟨_, _, n, _, h1⟩ := (show ObjOk X.prog X.w H s.heap a (.lst xs) from I.hok a _ ea)
  exact PySem.W.kia_one PySem.W.kitx_list I.kIn ⟨_, h1, rfl⟩ e (fun z => nomatch z) h
 | @frz a ob xs ea =>
  cases (show u = Value.ref a from rx)
  obtain ⟨_, _, _, n, _, h1⟩ := (show ObjOk X.prog X.w H s.heap a (.frz ob (.lst xs)) from I.hok a _ ea)
  exact PySem.W.kia_one PySem.W.kitx_list I.kIn ⟨_, h1, rfl⟩ e (fun z => nomatch z) h
 | @tup a xs ea =>
  cases (show u = Value.ref a from rx)
  obtain ⟨_, _, _, p⟩ := (show ObjOk X.prog X.w H s.heap a (.tup xs) from I.hok a _ ea)
  obtain ⟨o, h1, h2, _⟩ := p
  exact PySem.W.kia_one PySem.W.kitx_tuple I.kIn ⟨o, h1, h2⟩ e (fun z => nomatch z) h
 | @dK a kvs ea =>
  cases (show u = Value.ref a from rx)
  obtain ⟨_, _, vs, _, p⟩ := (show ObjOk X.prog X.w H s.heap a (.dK kvs) from I.hok a _ ea)
  obtain ⟨o, es, ep, h1, h2, _⟩ := p
  exact PySem.W.kia_one PySem.W.kitx_dict I.kIn ⟨o, h1, h2.1⟩ e (fun z => nomatch z) h
 | @dT a kvs ea =>
  cases (show u = Value.ref a from rx)
  obtain ⟨_, _, xs, _, o, es, ep, h1, h2, _⟩ := (show ObjOk X.prog X.w H s.heap a (.dT kvs) from I.hok a _ ea)
  exact PySem.W.kia_one PySem.W.kitx_dict I.kIn ⟨o, h1, h2.1⟩ e (fun z => nomatch z) h
 | @ins a C dx fs ea cl ha hn htk hm =>
  cases (show u = Value.ref a from rx)
  obtain ⟨mA, O, _⟩ := ins_get I.hok ea
  obtain ⟨od, J, _⟩ := O.look
  exact PySem.W.kia_one (PySem.W.kitx_own (cl.get _) cl.hd ha hn htk hm) I.kIn J e (fun z => nomatch z) h
end
end L2
namespace L2
open PySem PySem.Spec PyProof.Rows
structure Room (k : Nat) (A : Around) : Prop where
 hd : A.handled = none
 dp : A.depth + 3 * k + 5 < recursionLimit
 un : A.units + 16 * k + 200 < cLine
theorem Room.mono {j k : Nat} {A : Around} (r : Room k A) (h : j ≤ k) : Room j A := ⟨r.hd, by have := r.dp; omega, by have := r.un; omega⟩
theorem Room.deeper {k : Nat} {A : Around} (r : Room (k + 1) A) (env : Env) : Room k (A.deeper env) :=
 ⟨r.hd, by have := r.dp; show A.depth + 1 + 3 * k + 5 < _; omega, by have := r.un; show A.units + 3 + 16 * k + 200 < _; omega⟩
theorem make_depth {A : Around} {C : Addr} {us : List Value} {kw : List (Str × Value)} : (A.under (.builtin "type.__call__" ⟨.ref C :: us, kw⟩)).depth = A.depth + 1 := by
 first | rfl | simp [Around.under, Code.weight, Code.isCreation, Code.isGuard, Code.isCaller, Code.frames, Code.isFrame, guardIds]
theorem make_units {A : Around} {C : Addr} {us : List Value} {kw : List (Str × Value)} : (A.under (.builtin "type.__call__" ⟨.ref C :: us, kw⟩)).units = A.units + 1 := by
 first | rfl | simp [Around.under, Code.cUnits, Code.frames, Code.isFrame]
theorem Room.make {k : Nat} {A : Around} (r : Room (k + 1) A) (C : Addr) (us : List Value) (kw : List (Str × Value)) : Room k (A.under (.builtin "type.__call__" ⟨.ref C :: us, kw⟩)) :=
 ⟨r.hd, by have := r.dp; rw [make_depth]; omega, by have := r.un; rw [make_units]; omega⟩
theorem Room.depth {k : Nat} {A : Around} (r : Room k A) : A.depth < recursionLimit := by have := r.dp; omega
theorem Room.units {k : Nat} {A : Around} (r : Room k A) : A.units + 64 < cLine := by have := r.un; omega
def tNil : TA := fun _ H Q => Q [] H
def tCons (ta : TE) (tr : TA) : TA := fun σ H Q => ta σ H fun x H1 => tr σ H1 fun xs H2 => Q (x :: xs) H2
section
variable {X : Cx} {e : Expr} {es : List Expr} {te : TE} {t : TA} {pos : Pos}
theorem pa_nil : PA X [] tNil := fun _ _ _ _ H Q I h => Calls.spliced_nil ⟨[], H, I, .nil, h⟩
theorem pa_cons (ha : PE X e te) (hr : PA X es t) (hs : starEach (e :: es) X.env = (false, eval e X.env) :: starEach es X.env := by rfl) : PA X (e :: es) (tCons te t) := by
 intro pos pins s σ H Q I h
 rw [hs]
 show wpAny _ _ (spliced ((false, eval e X.env) :: backTo pos (starEach es X.env))) _ _ s
 refine Calls.spliced_cons (thn (ha pins s σ H _ I h) fun u s1 ⟨x, H1, I1, r1, q1⟩ => ?_)
 exact thn (hr pos pins s1 σ H1 _ I1 q1) fun us s2 ⟨xs, H2, I2, r2, q2⟩ => ⟨x :: xs, H2, I2, .cons r1 r2, q2⟩
def tTup (t : TA) : TE := fun σ H Q => t σ H fun xs H1 => xs.length ≤ sizeLine ∧ ∀ p, H1 p = none → Q (.ref p) (upd H1 p (.tup xs))
def tLst (t : TA) : TE := fun σ H Q => t σ H fun xs H1 => xs.length ≤ sizeLine ∧ ∀ p, H1 p = none → Q (.ref p) (upd H1 p (.lst xs))
theorem pe_tup {x1} (h : PA X es t) : PE X (.Tuple es x1 pos) (tTup t) := by
 intro pins s σ H Q I hq
 refine wpAny_Tuple_spliced (thn (h pos pins s σ H _ I hq) fun us s1 ⟨xs, H1, I1, r, z, q⟩ => ⟨by rw [← r.length]; exact z, ?_⟩)
 have hf : H1 s1.heap.objs.size = none := I1.hok.fresh (Nat.le_refl _)
 refine ⟨.ref s1.heap.objs.size, upd H1 s1.heap.objs.size (.tup xs), I1.laid (t' := s1.toks) (fun b u e => Heap.get?_push_of_some _ e) (Nat.le_refl _) ?_, rfl, q _ hf⟩
 exact ⟨z, us, r, ⟨_, Heap.get?_push_size _ rfl, rfl, _, rfl⟩⟩
theorem pe_lst (h : PA X es t) : PE X (.List es pos) (tLst t) := by
 intro pins s σ H Q I hq
 refine wpAny_List_spliced (thn (h pos pins s σ H _ I hq) fun us s1 ⟨xs, H1, I1, r, z, q⟩ => ⟨by rw [← r.length]; exact z, ?_⟩)
 have hf : H1 s1.heap.objs.size = none := I1.hok.fresh (Nat.le_refl _)
 refine ⟨.ref s1.heap.objs.size, upd H1 s1.heap.objs.size (.lst xs), I1.laid (t' := s1.toks) (fun b u e => Heap.get?_push_of_some _ e) (Nat.le_refl _) ?_, rfl, q _ hf⟩
 exact ⟨z, us, 0, r, Heap.get?_push_size _ rfl⟩
end
abbrev Sp := List V → Hp → VK → XK → Prop
abbrev CXT := List Env → Hp → Shared → XK → Value → Shared → Prop
structure Env0 (P : Program) (w : World) (K : PySem.W.Frag) (mg : Str → Option Value) (base : Heap) (A : Around) (outer : List Env) (s : Shared) (H : Hp) : Prop where
 frames : A.frames = some outer
 mod : Mod K mg base
 bs : ∀ b o, base.get? b = some o → s.heap.get? b = some o ∧ H b = none
 bsz : base.objs.size ≤ s.heap.objs.size
 funs : s.heap.FunFrames base outer
 frf : ∀ b ∈ frs outer, H b = none
 hok : HOk P w H s.heap
 bare : AllBare s.gens
def CE (outer : List Env) (P : Program) (w : World) (H : Hp) (s : Shared) (Q : VK) (u : Value) (s' : Shared) : Prop :=
 ∃ v H', s'.os = s.os ∧ AllBare s'.gens ∧ Un (frs outer) [] H H' s.heap s'.heap ∧ HOk P w H' s'.heap ∧ RelV v u ∧ Q v H'
def CR (CX : CXT) (outer : List Env) (P : Program) (w : World) (H : Hp) (s : Shared) (Q : VK) (E : XK) (r : Result) (s' : Shared) : Prop :=
 match r with
 | .ok (.ret u) => CE outer P w H s Q u s'
 | .ok _ => False
 | .error e => CX outer H s E e s'
structure FnOk (P : Program) (w : World) (K : PySem.W.Frag) (mg : Str → Option Value) (base : Heap) (CX : CXT) (k : Nat) (f : Addr) (fd : FuncData) (ps : List Str) (sp : Sp) : Prop where
 len : ∀ vs H Q E, sp vs H Q E → vs.length = ps.length
 run : ∀ (A : Around) (outer : List Env) (s : Shared) (H : Hp) (args : Args) (us : List Value) (vs : List V) (Q : VK) (E : XK), Room k A → Env0 P w K mg base A outer s H → BindsTo s fd args (ps.zip us) → Vals vs us → sp vs H Q E →
  codeAny (model P w) A (.call (.ref f) args) (CR CX outer P w H s Q E) s
theorem Env0.make {P : Program} {w : World} {K : PySem.W.Frag} {mg : Str → Option Value} {base : Heap} {A : Around} {outer : List Env} {s : Shared} {H : Hp} (e : Env0 P w K mg base A outer s H) (C : Addr) (us : List Value) (kw : List (Str × Value)) :
  Env0 P w K mg base (A.under (.builtin "type.__call__" ⟨.ref C :: us, kw⟩)) outer s H := ⟨by first | exact e.frames | (simpa [Around.under, Code.envs, Code.isFrame, pushEnvs] using e.frames), e.mod, e.bs, e.bsz, e.funs, e.frf, e.hok, e.bare⟩
section
variable {X : Cx} {pins : List (Addr × Obj)} {σ : St} {H : Hp} {s s' : Shared}
theorem Inv.env0 (I : Inv X pins σ H s) : Env0 X.prog X.w X.K X.mg X.base X.A X.stack s H :=
 ⟨I.ok.frames, I.ok.mod, I.bs, Nat.le_trans I.ok.bsz I.sz, I.stack, I.stkFree, I.hok, I.bare⟩
theorem Inv.after {Q : VK} {u : Value} (I : Inv X pins σ H s) (h : CE X.stack X.prog X.w H s Q u s') : EP X pins σ Q u s' := by
 obtain ⟨v, H', os, bare, un, hok, r, q⟩ := h
 obtain ⟨hh, g, d, t, os'⟩ := s'
 obtain rfl : os' = s.os := os
 exact ⟨v, H', I.call (h' := hh) (g' := g) (d' := d) (t' := t) (ch := []) un hok bare (fun b z => absurd z (by simp)), r, q⟩
end
def tCall (sp : Sp) (dvs : List V) (E : XK) (t : TA) : TE := fun σ H Q => t σ H fun vs H1 => sp (vs ++ dvs) H1 Q E
def tMeth (C : Addr) (m : Str) (sp : Sp) (dvs : List V) (E : XK) (ta : TE) (t : TA) : TE := fun σ H Q => ta σ H fun x H1 => ∃ a dx fs, x = .ref a ∧ H1 a = some (.ins C dx fs) ∧ fs.lookup m = none ∧
 t σ H1 fun vs H2 => sp (x :: (vs ++ dvs)) H2 Q E
def tMake (C : Addr) (sp : Sp) (dvs : List V) (E : XK) (t : TA) : TE := fun σ H Q => t σ H fun vs H1 => ∀ x dx, H1 x = none → H1 dx = none → dx ≠ x →
 sp (.ref x :: (vs ++ dvs)) (upd (upd H1 dx (.own x)) x (.ins C dx [])) (fun v H2 => v = .non ∧ Q (.ref x) H2) E
def Binds (K : PySem.W.Frag) (fd : FuncData) (ps : List Str) (ds : List Value) : Prop :=
 ∀ (s : Shared) (us : List Value), K.In s.heap → (us ++ ds).length = ps.length → BindsTo s fd ⟨us, []⟩ (ps.zip (us ++ ds))
theorem Binds.all {K : PySem.W.Frag} {fd : FuncData} {ps : List Str} (h : ∀ us : List Value, us.length = ps.length → bindArgs fd ⟨us, []⟩ = pure (ps.zip us)) : Binds K fd ps [] := fun s us _ hl => by
 rw [List.append_nil] at hl ⊢
 exact .of_eq (h us hl)
def Passes (CX : CXT) (X : Cx) (E : XK) : Prop := ∀ (pins : List (Addr × Obj)) (σ : St) (H : Hp) (s : Shared) (e : Value) (s' : Shared), Inv X pins σ H s → CX X.stack H s E e s' → X.xe e s'
section
variable {X : Cx} {CX : CXT} {k : Nat} {f C : Addr} {fd : FuncData} {ps : List Str} {sp : Sp} {dvs : List V} {ds : List Value} {E : XK} {x m : Str} {p pos apos : Pos} {e o : Expr} {es : List Expr} {ta : TE} {t : TA}
theorem run_fn {pins : List (Addr × Obj)} {σ : St} {H : Hp} {s : Shared} {Q : VK} {us : List Value} {vs : List V} (F : FnOk X.prog X.w X.K X.mg X.base CX k f fd ps sp) (hr : Room k X.A) (hb : Binds X.K fd ps ds) (hd : Vals dvs ds) (hx : Passes CX X E)
  (I : Inv X pins σ H s) (r : Vals vs us) (h : sp (vs ++ dvs) H Q E) : wpAny (model X.prog X.w) X.A (call (.ref f) us) (EP X pins σ Q) X.xe s := by
 have r2 : Vals (vs ++ dvs) (us ++ ds) := r.append hd
 have hl : (us ++ ds).length = ps.length := by rw [← r2.length]; exact F.len _ _ _ _ h
 refine wpAny_call (codeAny_mono (F.run X.A X.stack s H ⟨us, []⟩ (us ++ ds) (vs ++ dvs) Q E hr I.env0 (hb s us I.kIn hl) r2 h) fun r s' hq => ?_)
 cases r with
 | error e => exact hx pins σ H s e s' I hq
 | ok fl =>
  cases fl with
  | ret u => exact I.after hq
  | next => exact False.elim hq
  | brk => exact False.elim hq
  | cont => exact False.elim hq
theorem pe_call (F : FnOk X.prog X.w X.K X.mg X.base CX k f fd ps sp) (hr : Room k X.A) (hg : Gl X x) (hm : X.mg x = some (.ref f)) (hk : PySem.W.keepIn X.K (.ref f) = true) (hb : Binds X.K fd ps ds) (hd : Vals dvs ds) (hx : Passes CX X E)
  (ha : PA X (e :: es) t) (hdb : (x == ("__debug__" : Str)) = false := by decide) (he : starEach (e :: es) X.env = (false, eval e X.env) :: starEach es X.env := by rfl) (hpl : (backTo pos (starEach es X.env)).any (·.1) = false := by rfl) :
  PE X (.Call (.Name x p) (e :: es) [] pos) (tCall sp dvs E t) := by
 intro pins s σ H Q I h
 refine wpAny_Call_Name_kw (ld_glob I hg hm ?_ hdb)
 refine PySem.W.callWith_K (h₀ := X.base) I.ok.mod.kin hk (thn (ha pos pins s σ H _ I h) fun us s1 ⟨vs, H1, I1, r, q⟩ => ⟨I1.kIn, ?_⟩) he hpl
 exact run_fn F hr hb hd hx I1 r q
theorem pe_meth {pl : Sem Bool} (he : PE X o ta) (c : Cls X.K C) (hm : Meth X.K C m f) (F : FnOk X.prog X.w X.K X.mg X.base CX k f fd ps sp) (hr : Room k X.A) (hb : Binds X.K fd ps ds) (hd : Vals dvs ds) (hx : Passes CX X E) (ha : PA X (e :: es) t)
  (hst : starEach (e :: es) X.env = (false, eval e X.env) :: starEach es X.env := by rfl) (hpl : (backTo pos (starEach es X.env)).any (·.1) = false := by rfl)
  (ht : eval (.Call (.Attribute o m apos) (e :: es) [] pos) X.env = (do
   let ov ← eval o X.env
   standAt apos.atName
   let (f, first) ← holding [ov] (getMethod ov m pl)
   callWith pos f first (backTo pos (starEach (e :: es) X.env)) (backToKw pos (keywordEach [] X.env))) := by rfl) :
  PE X (.Call (.Attribute o m apos) (e :: es) [] pos) (tMeth C m sp dvs E ta t) := by
 intro pins s σ H Q I h
 refine PySem.W.methodCall_KW (pl := pl) (thn (he pins s σ H _ I h) fun u s1 ⟨x, H1, I1, rx, a, dx, fs, ex, ea, l, q⟩ => ?_) ht
 subst ex
 obtain rfl : u = Value.ref a := rx
 refine getmeth_ok I1 ea c hm l ?_
 refine PySem.W.callWith_K (first := [.ref a]) (h₀ := X.base) I.ok.mod.kin hm.kp (thn (ha pos pins s1 σ H1 _ I1 q) fun us s2 ⟨vs, H2, I2, r, q2⟩ => ⟨I2.kIn, ?_⟩) hst hpl
 exact run_fn (us := .ref a :: us) (vs := .ref a :: vs) F hr hb hd hx I2 (.cons rfl r) q2
theorem pe_meth0 {pl : Sem Bool} (he : PE X o ta) (c : Cls X.K C) (hm : Meth X.K C m f) (F : FnOk X.prog X.w X.K X.mg X.base CX k f fd ps sp) (hr : Room k X.A) (hb : Binds X.K fd ps ds) (hd : Vals dvs ds) (hx : Passes CX X E)
  (ht : eval (.Call (.Attribute o m apos) [] [] pos) X.env = (do
   let ov ← eval o X.env
   standAt apos.atName
   let (f, first) ← holding [ov] (getMethod ov m pl)
   callWith pos f first (backTo pos (starEach [] X.env)) (backToKw pos (keywordEach [] X.env))) := by rfl) :
  PE X (.Call (.Attribute o m apos) [] [] pos) (tMeth C m sp dvs E ta tNil) := by
 intro pins s σ H Q I h
 refine PySem.W.methodCall_KW (pl := pl) (thn (he pins s σ H _ I h) fun u s1 ⟨x, H1, I1, rx, a, dx, fs, ex, ea, l, q⟩ => ?_) ht
 subst ex
 obtain rfl : u = Value.ref a := rx
 refine getmeth_ok I1 ea c hm l ?_
 exact PySem.W.callWith_K0 (first := [.ref a]) I1.kIn hm.kp (run_fn (us := [.ref a]) (vs := [.ref a]) F hr hb hd hx I1 (.cons rfl .nil) q)
structure Mk (K : PySem.W.Frag) (C f : Addr) : Prop where
 makes : PySem.W.makesIn K C = true
 init : PySem.W.findIn K (.ref C) "__init__" = some (some (.ref f))
 fn : PySem.W.isFn K (.ref f) = true
 kp : PySem.W.keepIn K (.ref C) = true
theorem run_make {pins : List (Addr × Obj)} {σ : St} {H : Hp} {s : Shared} {Q : VK} {us : List Value} {vs : List V} (M : Mk X.K C f) (F : FnOk X.prog X.w X.K X.mg X.base CX k f fd ps sp) (hr : Room (k + 1) X.A) (hb : Binds X.K fd ps ds) (hd : Vals dvs ds)
  (hx : Passes CX X E) (I : Inv X pins σ H s) (r : Vals vs us)
  (h : ∀ x dx, H x = none → H dx = none → dx ≠ x → sp (.ref x :: (vs ++ dvs)) (upd (upd H dx (.own x)) x (.ins C dx [])) (fun v H2 => v = .non ∧ Q (.ref x) H2) E) :
  wpAny (model X.prog X.w) X.A (call (.ref C) us) (EP X pins σ Q) X.xe s := by
 have hq := h (s.heap.objs.size + 1) s.heap.objs.size (I.hok.fresh (Nat.le_succ _)) (I.hok.fresh (Nat.le_refl _)) (Nat.ne_of_lt (Nat.lt_succ_self _))
 have I2 := Inv.made (C := C) I
 have r2 : Vals (V.ref (s.heap.objs.size + 1) :: (vs ++ dvs)) (Value.ref (s.heap.objs.size + 1) :: (us ++ ds)) := .cons rfl (r.append hd)
 have hl : (Value.ref (s.heap.objs.size + 1) :: us ++ ds).length = ps.length := by
  have e := r2.length
  rw [F.len _ _ _ _ hq] at e
  exact e.symm
 refine wpAny_call (make_map (f := f) I.kIn M.makes M.init (beq_iff_eq.mp M.fn) (codeAny_mono (F.run _ X.stack _ _ ⟨Value.ref (s.heap.objs.size + 1) :: us, []⟩ (Value.ref (s.heap.objs.size + 1) :: (us ++ ds)) _ _ E (hr.make C us [])
  (I2.env0.make C us []) (hb _ (Value.ref (s.heap.objs.size + 1) :: us) I2.kIn hl) r2 hq) fun r s' hq' => ?_))
 cases r with
 | error e => exact hx pins σ _ _ e s' I2 hq'
 | ok fl =>
  cases fl with
  | ret u =>
   obtain ⟨v, H', I3, rv, ev, q3⟩ := I2.after hq'
   subst ev
   exact ⟨rv, ⟨V.ref (s.heap.objs.size + 1), H', I3, rfl, q3⟩⟩
  | next => exact False.elim hq'
  | brk => exact False.elim hq'
  | cont => exact False.elim hq'
theorem pe_make0 (M : Mk X.K C f) (F : FnOk X.prog X.w X.K X.mg X.base CX k f fd ps sp) (hr : Room (k + 1) X.A) (hg : Gl X x) (hm : X.mg x = some (.ref C)) (hb : Binds X.K fd ps ds) (hd : Vals dvs ds) (hx : Passes CX X E)
  (hdb : (x == ("__debug__" : Str)) = false := by decide) : PE X (.Call (.Name x p) [] [] pos) (tMake C sp dvs E tNil) := by
 intro pins s σ H Q I h
 refine wpAny_Call_Name_kw (ld_glob I hg hm ?_ hdb)
 exact PySem.W.callWith_K0 I.kIn M.kp (run_make (us := []) M F hr hb hd hx I .nil h)
end
section
variable {X : Cx} {CX : CXT} {k : Nat} {f C : Addr} {fd : FuncData} {ps ks : List Str} {sp : Sp} {E : XK} {x m : Str} {p pos apos kpos : Pos} {e o : Expr} {es : List Expr} {kws : List Keyword} {te ta : TE} {t tk : TA} {nm : Option Str}
variable {g : List Value → List Value → List Value} {gV : List V → List V → List V}
end
structure FnScope (N P : List Str) (sc : Scope) : Prop where
 kind : sc.kind = .function
 co : sc.isCoroutine = false
 gen : sc.isGenerator = false
 nd : N.Nodup
 pre : N.take P.length = P
 par : ∀ x ∈ P, sc.names.lookup x = some .local ∨ sc.names.lookup x = some .cell
 nofree : ∀ y ∈ sc.names, y.2 ≠ .free
theorem bindL_out {kindOf : Str → Option NameKind} {x : Str} : ∀ {binds : List (Str × Value)} {m : Str → Option Value}, (∀ v, (x, v) ∉ binds) → bindL kindOf binds m x = m x
 | [], _, _ => rfl
 | (n, v) :: r, m, h => by
  unfold bindL
  rw [bindL_out fun w hw => h w (List.mem_cons_of_mem _ hw)]
  split
  ·have : x ≠ n := by rintro rfl; exact h v List.mem_cons_self
   simp [this]
  ·rfl
theorem bindC_out {kindOf : Str → Option NameKind} {x : Str} : ∀ {binds : List (Str × Value)} {m : Str → Option Value}, (∀ v, (x, v) ∉ binds) → bindC kindOf binds m x = m x
 | [], _, _ => rfl
 | (n, v) :: r, m, h => by
  unfold bindC
  rw [bindC_out fun w hw => h w (List.mem_cons_of_mem _ hw)]
  split
  ·rfl
  ·have : x ≠ n := by rintro rfl; exact h v List.mem_cons_self
   simp [this]
theorem bindL_get {kindOf : Str → Option NameKind} {x : Str} {v : Value} : ∀ {P : List Str} {vs : List Value} {i : Nat} {m : Str → Option Value}, P.Nodup → P[i]? = some x → vs[i]? = some v → kindOf x = some .local →
  bindL kindOf (P.zip vs) m x = some v
 | [], _, _, _, _, h, _, _ => by simp at h
 | _ :: _, [], _, _, _, _, h, _ => by simp at h
 | p :: P, w :: vs, 0, m, nd, h1, h2, hk => by
  simp at h1 h2; subst h1; subst h2
  show bindL kindOf ((p, w) :: P.zip vs) m p = _
  unfold bindL
  rw [bindL_out fun v hv => (List.nodup_cons.mp nd).1 (List.of_mem_zip hv).1, if_pos hk]
  simp
 | p :: P, w :: vs, i + 1, m, nd, h1, h2, hk => by
  show bindL kindOf ((p, w) :: P.zip vs) m x = _
  unfold bindL
  exact bindL_get (i := i) (List.nodup_cons.mp nd).2 (by simpa using h1) (by simpa using h2) hk
theorem bindC_get {kindOf : Str → Option NameKind} {x : Str} {v : Value} : ∀ {P : List Str} {vs : List Value} {i : Nat} {m : Str → Option Value}, P.Nodup → P[i]? = some x → vs[i]? = some v → kindOf x ≠ some .local →
  bindC kindOf (P.zip vs) m x = some v
 | [], _, _, _, _, h, _, _ => by simp at h
 | _ :: _, [], _, _, _, _, h, _ => by simp at h
 | p :: P, w :: vs, 0, m, nd, h1, h2, hk => by
  simp at h1 h2; subst h1; subst h2
  show bindC kindOf ((p, w) :: P.zip vs) m p = _
  unfold bindC
  rw [bindC_out fun v hv => (List.nodup_cons.mp nd).1 (List.of_mem_zip hv).1, if_neg hk]
  simp
 | p :: P, w :: vs, i + 1, m, nd, h1, h2, hk => by
  show bindC kindOf ((p, w) :: P.zip vs) m x = _
  unfold bindC
  exact bindC_get (i := i) (List.nodup_cons.mp nd).2 (by simpa using h1) (by simpa using h2) hk
def start (N : List Str) (vs : List V) : St := vs.map some ++ List.replicate (N.length - vs.length) none
def cxOf (CX : CXT) (P : Program) (w : World) (K : PySem.W.Frag) (mg : Str → Option Value) (base : Heap) (N : List Str) (qual : Str) (scope : Scope) (f : Addr) (cd : Value) (A : Around) (outer : List Env) (s : Shared) (H : Hp) (E : XK) : Cx where
 prog := P
 w := w
 K := K
 mg := mg
 base := base
 A := A.deeper (envOfC qual scope s.heap.objs.size f cd)
 N := N
 s₀ := s
 H₀ := H
 env := envOfC qual scope s.heap.objs.size f cd
 outer := outer
 stack := envOfC qual scope s.heap.objs.size f cd :: outer
 ex := []
 calm := true
 fn := fun _ => true
 pn := []
 xe := fun e s' => wpAny (model P w) (A.deeper (envOfC qual scope s.heap.objs.size f cd)) (leaving (envOfC qual scope s.heap.objs.size f cd) e) (fun _ s'' => CX outer H s E e s'') (fun e' s'' => CX outer H s E e' s'') s'
theorem cell_has {sc : Scope} {n : Nat} {x : Str} (h : sc.names.lookup x = some .cell) : ∃ c, (cellsFrom n sc.names []).lookup x = some c := by
 have q := PySem.W.cellsFrom_some sc.names n [] (.inl h)
 exact Option.isSome_iff_exists.mp q
theorem inv_start {CX : CXT} {P : Program} {w : World} {K : PySem.W.Frag} {mg : Str → Option Value} {base : Heap} {N ps : List Str} {qual : Str} {scope : Scope} {f : Addr} {cd : Value} {A : Around} {outer : List Env} {s s1 : Shared} {H : Hp} {E : XK} {us : List Value} {vs : List V}
  (S : FnScope N ps scope) (hd : A.handled = none) (e0 : Env0 P w K mg base A outer s H) (hl : vs.length = ps.length) (r : Vals vs us)
  (x : InCallC s s.heap.objs.size (bindL (envOfC qual scope s.heap.objs.size f cd).kindOf (ps.zip us) fun _ => none) (cellsFrom (s.heap.objs.size + 1) scope.names []) (bindC (envOfC qual scope s.heap.objs.size f cd).kindOf (ps.zip us) fun _ => none) s1) :
  Inv (cxOf CX P w K mg base N qual scope f cd A outer s H E) [] (start N vs) H s1 := by
 have hpl : ps.length ≤ N.length := by have := congrArg List.length S.pre; rw [List.length_take] at this; omega
 obtain ⟨h1, tk, rfl, hk⟩ := x.done
 have noA : ∀ b : Addr, b ∉ (cxOf CX P w K mg base N qual scope f cd A outer s H E).ex := fun b z => absurd (show b ∈ ([] : List Addr) from z) (by simp)
 refine ⟨⟨e0.mod, S.kind, rfl, rfl, Nat.le_refl _, fun y z c h1 h2 => ?_, fun y hy => ?_, fun y c _ h => ?_, fun _ => hd, Around.frames_deeper e0.frames, .inr ⟨rfl, rfl⟩, fun b z => absurd z (noA b), e0.bs, e0.bsz, fun b _ _ => noA b, fun b z => absurd z (noA b), e0.funs, e0.frf⟩,
  rfl, e0.bare, Un.kept hk, ⟨_, x.toInCall.ns, fun i y v h1 h2 h3 => ?_⟩, fun y c h => ⟨_, x.cell y c h⟩, e0.hok.fresh (Nat.le_refl _), fun y c h => ?_, fun p hp => absurd (show p ∈ ([] : List (Addr × Obj)) from hp) (by simp), e0.hok.kept hk, ?_⟩
 ·exact name_of_addr x.apart (PySem.mem_of_lookup h1) (PySem.mem_of_lookup h2)
 ·have hy : scope.names.lookup y = some .cell ∨ scope.names.lookup y = some .free := hy
  rcases hy with hy | hy
  ·exact cell_has hy
  ·exact absurd rfl (S.nofree _ (PySem.mem_of_lookup hy))
 ·exact Nat.le_of_lt (x.above y c (PySem.mem_of_lookup h))
 ·have hi : i < vs.length := by
   unfold start at h2
   by_cases hi : i < vs.length
   ·exact hi
   ·rw [List.getElem?_append_right (by simpa using hi)] at h2
    rw [List.getElem?_replicate] at h2
    split at h2 <;> cases h2
  have ha : vs[i]? = some v := by
   unfold start at h2
   rw [List.getElem?_append_left (by simpa using hi), List.getElem?_map] at h2
   cases e : vs[i]? with
   | none => rw [e] at h2; cases h2
   | some a => rw [e] at h2; cases h2; rfl
  obtain ⟨u, hu, rv⟩ := r.get ha
  have hp : ps[i]? = some y := by
   rw [← S.pre, List.getElem?_take_of_lt (by omega)]; exact h1
  have ndP : ps.Nodup := by rw [← S.pre]; exact S.nd.sublist (List.take_sublist _ _)
  refine ⟨u, rv, ?_⟩
  rcases S.par y (List.mem_of_getElem? hp) with k | k
  ·exact .inl ⟨k, bindL_get ndP hp hu k⟩
  ·obtain ⟨c, e⟩ := cell_has (n := s.heap.objs.size + 1) k
   refine .inr ⟨.inl k, c, e, ?_⟩
   have q := x.cell y c e
   rw [bindC_get ndP hp hu (by show scope.names.lookup y ≠ _; rw [k]; decide)] at q
   exact q
 ·exact e0.hok.fresh (Nat.le_of_lt (x.above y c (PySem.mem_of_lookup h)))
 ·unfold start
  show _ = N.length
  rw [List.length_append, List.length_map, List.length_replicate]
  omega
theorem fn_of {CX : CXT} {P : Program} {w : World} {K : PySem.W.Frag} {mg : Str → Option Value} {base : Heap} {k : Nat} {f : Addr} {name qual : Str} {params : Arguments} {body : List Stmt} {scope : Scope} {dV kV doc pm cdv ct oc : Value} {an od : Option Addr}
  {osl : Array (Option Value)} {N ps : List Str} {sp : Sp} (lk : K.lookup f = some ⟨oc, od, .func (PySem.W.fnOf name qual params body scope dV kV doc pm an cdv ct), osl⟩) (hcd : PySem.W.codeIn K cdv qual = true) (S : FnScope N ps scope)
  (len : ∀ vs H Q E, sp vs H Q E → vs.length = ps.length)
  (hbody : ∀ (A : Around) (outer : List Env) (s : Shared) (H : Hp) (vs : List V) (Q : VK) (E : XK), Room k (A.deeper (envOfC qual scope s.heap.objs.size f cdv)) → sp vs H Q E →
   ∃ t, PSs (cxOf CX P w K mg base N qual scope f cdv A outer s H E) body t ∧ t { nx := fun _ H' => Q .non H', rt := Q } (start N vs) H) :
  FnOk P w K mg base CX (k + 1) f (PySem.W.fnOf name qual params body scope dV kV doc pm an cdv ct) ps sp := by
 refine ⟨len, fun A outer s H args us vs Q E hr e0 hb r hsp => ?_⟩
 have hl := len _ _ _ _ hsp
 have KX : K.In s.heap := e0.mod.kin.keeps fun b o e => (e0.bs b o e).1
 have lim : s.heap.NoLimit := e0.mod.nolimit.keeps fun b o e => (e0.bs b o e).1
 have hkind : ∀ y ∈ ps.zip us, scope.names.lookup y.1 = some .local ∨ (scope.names.lookup y.1 = some .cell ∧ ((cellsFrom (s.heap.objs.size + 1) scope.names []).lookup y.1).isSome = true) := fun ⟨n, v⟩ hy => by
  rcases S.par n (List.of_mem_zip hy).1 with q | q
  ·exact .inl q
  ·exact .inr ⟨q, PySem.W.cellsFrom_some _ _ _ (.inl q)⟩
 refine codeAny_call_function hr.depth (KX _ _ lk) rfl S.co S.gen rfl (PySem.W.codeRec_of KX hcd) (hb _ _ _ _ ?_)
 refine wpAny_newFunctionEnv_cells S.kind hkind fun env he s1 x => ?_
 subst he
 refine ⟨lim.keeps x.toInCall.keep, codeAny_func ?_⟩
 obtain ⟨t, ht, hq⟩ := hbody A outer s H vs Q E (hr.deeper _) hsp
 have I : Inv (cxOf CX P w K mg base N qual scope f cdv A outer s H E) [] (start N vs) H s1 := inv_start S hr.hd e0 hl r x
 refine wpAny_mono (ht [] s1 (start N vs) H _ I hq) (fun fl s' hs => ?_) fun e s' hs => hs
 have fin : ∀ {σ' : St} {H' : Hp} {v : V} {u : Value}, Inv (cxOf CX P w K mg base N qual scope f cdv A outer s H E) [] σ' H' s' → RelV v u → Q v H' → CE outer P w H s Q u s' :=
  fun {σ' H' v u} J rv q => ⟨v, H', J.os, J.bare, J.base, J.hok, rv, q⟩
 cases fl with
 | ret u =>
  obtain ⟨v, σ', H', J, rv, q⟩ := hs
  exact fin J rv q
 | next =>
  obtain ⟨σ', H', J, q⟩ := hs
  exact fin (v := V.non) (u := Value.none) J rfl q
 | brk =>
  obtain ⟨_, _, _, q⟩ := hs
  exact False.elim q
 | cont =>
  obtain ⟨_, _, _, q⟩ := hs
  exact False.elim q
end L2
namespace L2
open PySem PySem.Spec PyProof.Rows
section
variable {X : Cx} {x : Str} {p pos : Pos} {e : Expr} {es : List Expr} {t : TA} {id T : String} {r : List V → Hp → VK → Prop}
def tCB (r : List V → Hp → VK → Prop) (t : TA) : TE := fun σ H Q => t σ H fun vs H1 => r vs H1 Q
theorem pe_callB (hc : CallR X (.builtin id) r) (hg : Gl X x) (hm : X.mg x = none) (hv : bootBuiltins x = some (.builtin id)) (ha : PA X (e :: es) t) (hn : x ≠ "__name__" := by decide) (hdb : (x == ("__debug__" : Str)) = false := by decide)
  (he : starEach (e :: es) X.env = (false, eval e X.env) :: starEach es X.env := by rfl) (hpl : (backTo pos (starEach es X.env)).any (·.1) = false := by rfl) : PE X (.Call (.Name x p) (e :: es) [] pos) (tCB r t) := by
 intro pins s σ H Q I h
 refine wpAny_Call_Name_kw (ld_blt I hg hm hv ?_ hn hdb)
 exact PyProof.Rows.callWith_builtin1 (thn (ha pos pins s σ H _ I h) fun us s1 ⟨vs, H1, I1, r1, q1⟩ => hc pins s1 σ H1 vs us Q I1 r1 q1) he hpl
theorem pe_callTy (hc : CallR X (.type T) r) (hg : Gl X x) (hm : X.mg x = none) (hv : bootBuiltins x = some (.type T)) (ha : PA X (e :: es) t) (hn : x ≠ "__name__" := by decide) (hdb : (x == ("__debug__" : Str)) = false := by decide)
  (he : starEach (e :: es) X.env = (false, eval e X.env) :: starEach es X.env := by rfl) (hpl : (backTo pos (starEach es X.env)).any (·.1) = false := by rfl) : PE X (.Call (.Name x p) (e :: es) [] pos) (tCB r t) := by
 intro pins s σ H Q I h
 refine wpAny_Call_Name_kw (ld_blt I hg hm hv ?_ hn hdb)
 exact PyProof.Rows.callWith_type1 (thn (ha pos pins s σ H _ I h) fun us s1 ⟨vs, H1, I1, r1, q1⟩ => hc pins s1 σ H1 vs us Q I1 r1 q1) he hpl
end
end L2
namespace L2
open PySem PySem.Spec PyProof.Rows
section
variable {κ : Type} [DecidableEq κ]
def valV (kvs : List (κ × V)) (k : κ) : Option V := (kvs.find? fun kv => decide (kv.1 = k)).map (·.2)
def putK (kvs : List (κ × V)) (k : κ) (v : V) : List (κ × V) :=
 if (kvs.any fun kv => decide (kv.1 = k)) = true then kvs.map (fun kv => if kv.1 = k then (kv.1, v) else kv) else kvs ++ [(k, v)]
theorem valV_pos {p : κ × V} {r : List (κ × V)} {k : κ} (e : p.1 = k) : valV (p :: r) k = some p.2 := by simp [valV, List.find?_cons, e]
theorem valV_neg {p : κ × V} {r : List (κ × V)} {k : κ} (e : ¬ p.1 = k) : valV (p :: r) k = valV r k := by simp [valV, List.find?_cons, e]
theorem valV_any (k : κ) : ∀ kvs : List (κ × V), (kvs.any fun kv => decide (kv.1 = k)) = (valV kvs k).isSome
 | [] => rfl
 | p :: r => by
  rw [List.any_cons]
  by_cases e : p.1 = k
  ·simp only [valV_pos e, decide_eq_true e, Bool.true_or, Option.isSome_some]
  ·rw [valV_neg e, decide_eq_false e, Bool.false_or]; exact valV_any k r
theorem length_putK (kvs : List (κ × V)) (k : κ) (v : V) : (putK kvs k v).length ≤ kvs.length + 1 := by
 unfold putK
 split
 ·rw [List.length_map]; omega
 ·rw [List.length_append, List.length_cons, List.length_nil]; omega
theorem putK_new {kvs : List (κ × V)} {k : κ} (v : V) (h : valV kvs k = none) : putK kvs k v = kvs ++ [(k, v)] := by
 unfold putK
 rw [valV_any, h]
 exact if_neg (by decide)
theorem RelO.isSome_eq {o : Option V} {u : Option Value} (r : RelO o u) : o.isSome = u.isSome := by
 cases o with
 | none => cases u with
  | none => rfl
  | some _ => exact (show False from r).elim
 | some _ => cases u with
  | none => exact (show False from r).elim
  | some _ => rfl
theorem RelO.getD {o : Option V} {u : Option Value} {d : V} {d' : Value} (r : RelO o u) (rd : RelV d d') : RelV (o.getD d) (u.getD d') := by
 cases o with
 | none => cases u with
  | none => exact rd
  | some _ => exact (show False from r).elim
 | some _ => cases u with
  | none => exact (show False from r).elim
  | some _ => exact r
theorem KV.val {kvs : List (κ × V)} {vs : List (κ × Value)} (r : KV kvs vs) (k : κ) : RelO (valV kvs k) (valueAt vs k) := by
 unfold KV at r
 induction r with
 | nil => exact True.intro
 | @cons p q ps qs h t ih =>
  obtain ⟨h1, h2⟩ := h
  by_cases e : p.1 = k
  ·have e' : q.1 = k := h1.symm.trans e
   have b : valueAt (q :: qs) k = some q.2 := by simp [valueAt, List.find?_cons, e']
   rw [valV_pos e, b]; exact h2
  ·have e' : ¬ q.1 = k := fun z => e (h1.trans z)
   have b : valueAt (q :: qs) k = valueAt qs k := by simp [valueAt, List.find?_cons, e']
   rw [valV_neg e, b]; exact ih
theorem KV.any {kvs : List (κ × V)} {vs : List (κ × Value)} (r : KV kvs vs) (k : κ) : (kvs.any fun kv => decide (kv.1 = k)) = vs.any fun kv => decide (kv.1 = k) := by
 unfold KV at r
 induction r with
 | nil => rfl
 | cons h t ih => rw [List.any_cons, List.any_cons, ih, h.1]
theorem KV.repl {kvs : List (κ × V)} {vs : List (κ × Value)} (r : KV kvs vs) (k : κ) {y : V} {u : Value} (ry : RelV y u) :
  KV (kvs.map fun kv => if kv.1 = k then (kv.1, y) else kv) (vs.map fun kv => if kv.1 = k then (kv.1, u) else kv) := by
 unfold KV at r ⊢
 induction r with
 | nil => exact .nil
 | @cons p q ps qs h t ih =>
  rw [List.map_cons, List.map_cons]
  refine .cons ?_ ih
  obtain ⟨h1, h2⟩ := h
  by_cases e : p.1 = k
  ·rw [if_pos e, if_pos (h1.symm.trans e)]; exact ⟨h1, ry⟩
  ·rw [if_neg e, if_neg (fun z => e (h1.trans z))]; exact ⟨h1, h2⟩
theorem KV.put {kvs : List (κ × V)} {vs : List (κ × Value)} (r : KV kvs vs) (k : κ) {y : V} {u : Value} (ry : RelV y u) : KV (putK kvs k y) (stored vs k u) := by
 unfold putK stored
 rw [r.any k]
 by_cases e : (vs.any fun kv => decide (kv.1 = k)) = true
 ·rw [if_pos e, if_pos e]; exact r.repl k ry
 ·rw [if_neg e, if_neg e]; exact Paired.snoc r ⟨rfl, ry⟩
theorem KV.length {kvs : List (κ × V)} {vs : List (κ × Value)} (r : KV kvs vs) : kvs.length = vs.length := Paired.length r
end
theorem kV_is {P : Program} {w : World} {k : Key} {u : Value} (r : RelV (kV k) u) : (mixKind P w).is k u = true := by
 cases k with
 | inl i => obtain ⟨t, e⟩ := (show ∃ t, u = Value.int i t from r); subst e; exact mixKind_int P w i t
 | inr x => obtain ⟨t, e⟩ := (show ∃ t, u = Value.str x t from r); subst e; exact mixKind_str P w x t
theorem items_are {P : Program} {w : World} : ∀ {ks : List Key} {us : List Value}, Vals (ks.map kV) us → ItemsAre (mixKind P w) ks us
 | [], _, r => by rw [List.map_nil] at r; cases r; exact .nil
 | k :: ks, _, r => by
  rw [List.map_cons] at r
  cases r with
  | cons h t => exact .cons (kV_is h) (items_are t)
abbrev KT (H : Hp) : List (List Key × V) → List (List Key × Addr × Value) → Prop := Paired fun p q => p.1 = q.1 ∧ H q.2.1 = some (.tup (p.1.map kV)) ∧ RelV p.2 q.2.2
theorem KT.val {H : Hp} {kvs : List (List Key × V)} {xs : List (List Key × Addr × Value)} (r : KT H kvs xs) (k : List Key) : RelO (valV kvs k) ((atKey xs k).map (·.2)) := by
 induction r with
 | nil => exact True.intro
 | @cons p q ps qs h t ih =>
  obtain ⟨h1, _, h2⟩ := h
  by_cases e : p.1 = k
  ·have e' : q.1 = k := h1.symm.trans e
   have b : atKey (q :: qs) k = some q.2 := by simp [atKey, List.find?_cons, e']
   rw [valV_pos e, b]; exact h2
  ·have e' : ¬ q.1 = k := fun z => e (h1.trans z)
   have b : atKey (q :: qs) k = atKey qs k := by simp [atKey, List.find?_cons, e']
   rw [valV_neg e, b]; exact ih
theorem KT.repl {H : Hp} {kvs : List (List Key × V)} {xs : List (List Key × Addr × Value)} (r : KT H kvs xs) (k : List Key) {y : V} {u : Value} (ry : RelV y u) :
  KT H (kvs.map fun kv => if kv.1 = k then (kv.1, y) else kv) (xs.map (putAt k u)) := by
 induction r with
 | nil => exact .nil
 | @cons p q ps qs h t ih =>
  rw [List.map_cons, List.map_cons]
  refine .cons ?_ ih
  obtain ⟨h1, h2, h3⟩ := h
  unfold putAt
  by_cases e : p.1 = k
  ·rw [if_pos e, if_pos (h1.symm.trans e)]; exact ⟨h1, h2, ry⟩
  ·rw [if_neg e, if_neg (fun z => e (h1.trans z))]; exact ⟨h1, h2, h3⟩
theorem KT.put {H : Hp} {kvs : List (List Key × V)} {xs : List (List Key × Addr × Value)} (r : KT H kvs xs) (k : List Key) {b : Addr} {y : V} {u : Value} (hb : H b = some (.tup (k.map kV))) (ry : RelV y u) :
  KT H (putK kvs k y) (storedH xs k b u) := by
 have e : (kvs.any fun kv => decide (kv.1 = k)) = (atKey xs k).isSome := by
  rw [valV_any, (r.val k).isSome_eq, Option.isSome_map]
 unfold putK storedH
 rw [e]
 by_cases q : (atKey xs k).isSome = true
 ·rw [if_pos q, if_pos q]; exact r.repl k ry
 ·rw [if_neg q, if_neg q]; exact Paired.snoc r ⟨rfl, hb, ry⟩
theorem KT.keeps {H H' : Hp} {kvs : List (List Key × V)} {xs : List (List Key × Addr × Value)} (r : KT H kvs xs) (ht : ∀ b ys, H b = some (.tup ys) → H' b = some (.tup ys)) : KT H' kvs xs :=
 Paired.mapP r fun _ _ z => ⟨z.1, ht _ _ z.2.1, z.2.2⟩
section
variable {P : Program} {w : World} {H : Hp} {h : Heap} {a : Addr}
theorem rd_of {u : HO} (ok : HOk P w H h) (e : Rd H a u) : ObjOk P w H h a u := e.ok ok
theorem dk_rd {kvs : List (Key × V)} (ok : HOk P w H h) (e : Rd H a (.dK kvs)) : kvs.length ≤ sizeLine ∧ (a == sysModules) = false ∧ ∃ vs, KV kvs vs ∧ h.DictOf (mixKind P w) a vs :=
 show ObjOk P w H h a (.dK kvs) from rd_of ok e
theorem dk_of {kvs : List (Key × V)} (ok : HOk P w H h) (e : H a = some (.dK kvs)) : kvs.length ≤ sizeLine ∧ (a == sysModules) = false ∧ ∃ vs, KV kvs vs ∧ h.DictOf (mixKind P w) a vs := dk_rd ok (.inl e)
theorem key_of {ks : List Key} (ok : HOk P w H h) (e : H a = some (.tup (ks.map kV))) : (tupleKind (mixKind P w)).is h ks a := by
 obtain ⟨_, its, r, o, h1, h2, n, h3⟩ := (show ObjOk P w H h a (.tup (ks.map kV)) from ok a _ e)
 exact ⟨o, its.toArray, n, h1, h2, h3, by simpa using items_are r⟩
theorem dt_rd {kvs : List (List Key × V)} (ok : HOk P w H h) (e : Rd H a (.dT kvs)) : kvs.length ≤ sizeLine ∧ (a == sysModules) = false ∧
  ∃ xs, KT H kvs xs ∧ h.DictOfH (tupleKind (mixKind P w)) a xs := by
 obtain ⟨z, y, xs, r, o, es, ep, h1, h2, h3, h4, h5⟩ := (show ObjOk P w H h a (.dT kvs) from rd_of ok e)
 refine ⟨z, y, xs, r, o, es, ep, h1, h2, h3, h4, fun x hx => ?_, h5⟩
 have all : ∀ {l : List (List Key × V)} {m : List (List Key × Addr × Value)}, KT H l m → ∀ x ∈ m, (tupleKind (mixKind P w)).is h x.1 x.2.1 := by
  intro l m q
  induction q with
  | nil => intro x hx; exact nomatch hx
  | @cons p q ps qs hq t ih =>
   intro x hx
   rcases List.mem_cons.mp hx with e | hx
   ·subst e
    exact key_of ok (by rw [← hq.1]; exact hq.2.1)
   ·exact ih x hx
 exact all r x hx
theorem dt_of {kvs : List (List Key × V)} (ok : HOk P w H h) (e : H a = some (.dT kvs)) : kvs.length ≤ sizeLine ∧ (a == sysModules) = false ∧
  ∃ xs, KT H kvs xs ∧ h.DictOfH (tupleKind (mixKind P w)) a xs := dt_rd ok (.inl e)
end
def DGet (H : Hp) (a : Addr) (y : V) (r : Option V) : Prop :=
 (∃ kvs k, Rd H a (.dK kvs) ∧ y = kV k ∧ r = valV kvs k) ∨ ∃ kvs k b, Rd H a (.dT kvs) ∧ y = .ref b ∧ H b = some (.tup (k.map kV)) ∧ r = valV kvs k
def DPut (H : Hp) (a : Addr) (y v : V) (H' : Hp) : Prop :=
 (∃ kvs k, H a = some (.dK kvs) ∧ y = kV k ∧ kvs.length < sizeLine ∧ H' = upd H a (.dK (putK kvs k v))) ∨
 ∃ kvs k b, H a = some (.dT kvs) ∧ y = .ref b ∧ H b = some (.tup (k.map kV)) ∧ kvs.length < sizeLine ∧ H' = upd H a (.dT (putK kvs k v))
theorem DGet.k {H : Hp} {a : Addr} {kvs : List (Key × V)} {k : Key} (e : H a = some (.dK kvs)) : DGet H a (kV k) (valV kvs k) := .inl ⟨kvs, k, .inl e, rfl, rfl⟩
theorem DPut.k {H : Hp} {a : Addr} {kvs : List (Key × V)} {k : Key} {v : V} (e : H a = some (.dK kvs)) (hl : kvs.length < sizeLine) : DPut H a (kV k) v (upd H a (.dK (putK kvs k v))) := .inl ⟨kvs, k, e, rfl, hl, rfl⟩
section
variable {X : Cx} {pins : List (Addr × Obj)} {σ : St} {H : Hp} {s : Shared} {a : Addr} {y v : V} {u r : Value} {o : Option V} {A : Around} {E : Value → Shared → Prop}
theorem Inv.big (I : Inv X pins σ H s) : sysModules < s.heap.objs.size := by
 have h : mainGlobals < s.heap.objs.size := (I.mod.glob.keeps I.bk).lt
 exact Nat.lt_trans (by decide) h
theorem d_getItem {Q : Value → Shared → Prop} (hu : A.units + 1 < cLine) (I : Inv X pins σ H s) (g : DGet H a y (some v)) (ry : RelV y u) (h : ∀ w' s', Inv X pins σ H s' → RelV v w' → Q w' s') :
  wpAny (model X.prog X.w) A (getItem (.ref a) u) Q E s := by
 rcases g with ⟨kvs, k, e, ey, l⟩ | ⟨kvs, k, b, e, ey, eb, l⟩
 ·subst ey
  obtain ⟨z, hd, vs, rel, dd⟩ := dk_rd I.hok e
  obtain ⟨w', hw, rw'⟩ := RelO.some_of (v := v) (o := valueAt vs k) (by rw [l]; exact rel.val k)
  exact wpAny_getItem_of (kV_is ry) dd.mapOf hw (h w' _ (I.tok _) rw')
 ·subst ey
  cases (show u = Value.ref b from ry)
  obtain ⟨z, hd, xs, rel, dd⟩ := dt_rd I.hok e
  obtain ⟨w', hw, rw'⟩ := RelO.some_of (v := v) (o := (atKey xs k).map (·.2)) (by rw [l]; exact rel.val k)
  obtain ⟨p, hp, hp2⟩ := Option.map_eq_some_iff.mp hw
  refine wpAny_getItem_heap (tupleKind_room_in1 hu) (key_of I.hok eb) dd hp ?_
  rw [hp2]
  exact h w' _ (I.tok _) rw'
theorem d_in {Q : Value → Shared → Prop} (hu : A.units + 1 < cLine) (I : Inv X pins σ H s) (g : DGet H a y o) (ry : RelV y u) (h : ∀ s', Inv X pins σ H s' → Q (.bool o.isSome) s') :
  wpAny (model X.prog X.w) A (compareOp .In u (.ref a)) Q E s := by
 rcases g with ⟨kvs, k, e, ey, l⟩ | ⟨kvs, k, b, e, ey, eb, l⟩
 ·subst ey
  obtain ⟨z, hd, vs, rel, dd⟩ := dk_rd I.hok e
  refine wpAny_in_of (kV_is ry) hd dd.mapOf ?_
  rw [← (rel.val k).isSome_eq, ← l]
  exact h _ (I.tok _)
 ·subst ey
  cases (show u = Value.ref b from ry)
  obtain ⟨z, hd, xs, rel, dd⟩ := dt_rd I.hok e
  refine wpAny_in_heap (tupleKind_room_in1 hu) (key_of I.hok eb) hd dd ?_
  have q := (rel.val k).isSome_eq
  rw [Option.isSome_map] at q
  rw [← q, ← l]
  exact h _ (I.tok _)
theorem d_notIn {Q : Value → Shared → Prop} (hu : A.units + 1 < cLine) (I : Inv X pins σ H s) (g : DGet H a y o) (ry : RelV y u) (h : ∀ s', Inv X pins σ H s' → Q (.bool (!o.isSome)) s') :
  wpAny (model X.prog X.w) A (compareOp .NotIn u (.ref a)) Q E s := by
 rcases g with ⟨kvs, k, e, ey, l⟩ | ⟨kvs, k, b, e, ey, eb, l⟩
 ·subst ey
  obtain ⟨z, hd, vs, rel, dd⟩ := dk_rd I.hok e
  refine wpAny_notIn_of (kV_is ry) hd dd.mapOf ?_
  rw [← (rel.val k).isSome_eq, ← l]
  exact h _ (I.tok _)
 ·subst ey
  cases (show u = Value.ref b from ry)
  obtain ⟨z, hd, xs, rel, dd⟩ := dt_rd I.hok e
  refine wpAny_notIn_heap (tupleKind_room_in1 hu) (key_of I.hok eb) hd dd ?_
  have q := (rel.val k).isSome_eq
  rw [Option.isSome_map] at q
  rw [← q, ← l]
  exact h _ (I.tok _)
theorem d_write {h' : Heap} {t' : Nat} {ob : HO} (I : Inv X pins σ H s) (mu : Mut (H a)) (hs : Heap.SameBut a s.heap h') (he : ∃ q, h'.get? a = some q) (new : ObjOk X.prog X.w (upd H a ob) h' a ob) :
  Inv X pins σ (upd H a ob) { s with heap := h', toks := t' } :=
 I.write (x := a) (e := a) mu (.inl rfl) (fun b q hb z => (hs.2 b hb).trans z) he new
theorem dk_new {P : Program} {w : World} {H' : Hp} {h' : Heap} {kvs : List (Key × V)} {vs : List (Key × Value)} (z : kvs.length ≤ sizeLine) (hd : (a == sysModules) = false) (rel : KV kvs vs) (dd : h'.DictOf (mixKind P w) a vs) :
  ObjOk P w H' h' a (.dK kvs) := ⟨z, hd, vs, rel, dd⟩
theorem d_setItem {H' : Hp} {Q : Unit → Shared → Prop} (hu : A.units + 1 < cLine) (I : Inv X pins σ H s) (g : DPut H a y v H') (ry : RelV y u) (rv : RelV v r) (h : ∀ s', Inv X pins σ H' s' → Q () s') :
  wpAny (model X.prog X.w) A (setItem (.ref a) u r) Q E s := by
 rcases g with ⟨kvs, k, e, ey, l, eH⟩ | ⟨kvs, k, b, e, ey, eb, l, eH⟩
 ·subst ey eH
  obtain ⟨z, hd, vs, rel, dd⟩ := dk_of I.hok e
  have hz : vs.length ≤ sizeLine := by rw [← rel.length]; exact z
  have hl : (putK kvs k v).length ≤ sizeLine := by have := length_putK kvs k v; omega
  refine wpAny_setItem_pairs (hsz := hz) (kV_is ry) dd fun h' dd' hs => h _ ?_
  have he : ∃ q, h'.get? a = some q := let ⟨q, _, _, hq, _⟩ := dd'; ⟨q, hq⟩
  exact d_write I (by rw [e]; exact True.intro) hs he (dk_new hl hd (rel.put k rv) dd')
 ·subst ey eH
  cases (show u = Value.ref b from ry)
  obtain ⟨z, hd, xs, rel, dd⟩ := dt_of I.hok e
  have hz : xs.length ≤ sizeLine := by rw [← Paired.length rel]; exact z
  have hl : (putK kvs k v).length ≤ sizeLine := by have := length_putK kvs k v; omega
  refine wpAny_setItem_heap (hsz := hz) (tupleKind_room_in1 hu) (key_of I.hok eb) dd fun h' dd' hs => h _ ?_
  obtain ⟨q, es, ep, hq, h2, h3, h4, _, h5⟩ := dd'
  refine d_write I (by rw [e]; exact True.intro) hs ⟨q, hq⟩ ⟨hl, hd, _, (rel.put k eb rv).keeps fun c ys ec => ?_, q, es, ep, hq, h2, h3, h4, h5⟩
  rw [upd_ne (ne_of ec e (fun z => nomatch z))]
  exact ec
end
section
variable {X : Cx} {pins : List (Addr × Obj)} {σ : St} {H : Hp} {s : Shared} {a : Addr} {kvs : List (Key × V)} {k : Key} {u : Value} {A : Around} {E : Value → Shared → Prop}
theorem d_len {Q : Value → Shared → Prop} (I : Inv X pins σ H s) (e : Rd H a (.dK kvs)) (h : ∀ t s', Inv X pins σ H s' → Q (.int kvs.length t) s') : wpAny (model X.prog X.w) A (call (.builtin "len") [.ref a]) Q E s := by
 obtain ⟨z, hd, vs, rel, dd⟩ := dk_rd I.hok e
 refine call_len_dict hd dd (by rw [← rel.length]; rw [sizeLine_eq] at z; omega) ?_
 rw [← rel.length]
 exact h _ _ (I.tok _)
end
def NoSl (i : Expr) : Prop := ∀ ov iv, subscripted i false ov iv = operate [ov, iv] (getItem ov iv)
theorem subD_of {prog : Program} {w : World} {A : Around} {E : Value → Shared → Prop} {s : Shared} {env : Env} {value slice : Expr} {pos : Pos} {T id : String} {Q : Value → Shared → Prop}
  (hl : typeLookup (.type T) "__getitem__" = pure (some (.builtin id))) (hs : NoSl slice)
  (h : wpAny (model prog w) A (eval value env) (fun o s₁ => wpAny (model prog w) A (eval slice env) (fun i s₂ => s₂.TypeIs o T ∧ wpAny (model prog w) A (getItem o i) Q E s₂) E s₁) E s) :
  wpAny (model prog w) A (eval (.Subscript value slice pos) env) Q E s := by
 refine Subscript_ (wpAny_mono h (fun o s₁ h₁ => wpAny_mono h₁ (fun i s₂ h₂ => ?_) fun _ _ x => x) fun _ _ x => x)
 obtain ⟨hT, h₂⟩ := h₂
 unfold subscriptTail
 refine wpAny_bind ?_
 rw [getitemInPython_of_ne hT.not_modules]
 refine wpAny_bind (wpAny_specialOf hT hl ?_)
 have fin : wpAny (model prog w) A (subscripted slice false o i) (fun r s₃ => wpAny (model prog w) A (letTemporaryGo value o r >>= fun _ => pure r) Q E s₃) E s₂ := by
  rw [hs o i]
  exact wpAny_operating (wpAny_mono h₂ (fun r s₃ h₃ => wpAny_bind (wpAny_letTemporaryGo (wpAny_pure h₃))) fun _ _ x => x)
 first
  | exact wpAny_pure (wpAny_bind fin)
  | exact wpAny_bind (wpAny_pure (wpAny_bind fin))
  | exact wpAny_bind fin
theorem dict_typeIs {X : Cx} {pins : List (Addr × Obj)} {σ : St} {H : Hp} {s : Shared} {a : Addr} {y : V} {o : Option V} (I : Inv X pins σ H s) (g : DGet H a y o) : s.TypeIs (.ref a) "dict" := by
 rcases g with ⟨kvs, k, e, _, _⟩ | ⟨kvs, k, b, e, _, _, _⟩
 ·obtain ⟨_, _, vs, _, dd⟩ := dk_rd I.hok e
  exact dd.typeIs
 ·obtain ⟨_, _, xs, _, dd⟩ := dt_rd I.hok e
  exact dd.typeIs
def tDGet (td ty : TE) : TE := fun σ H Q => td σ H fun x H1 => ty σ H1 fun y H2 => ∃ a v, x = .ref a ∧ DGet H2 a y (some v) ∧ Q v H2
def tDIn (ty td : TE) : TE := fun σ H Q => ty σ H fun y H1 => td σ H1 fun x H2 => ∃ a o, x = .ref a ∧ DGet H2 a y o ∧ Q (.bl o.isSome) H2
def tDNotIn (ty td : TE) : TE := fun σ H Q => ty σ H fun y H1 => td σ H1 fun x H2 => ∃ a o, x = .ref a ∧ DGet H2 a y o ∧ Q (.bl (!o.isSome)) H2
def sDPut (td ty tv : TE) : TS := fun D σ H => tv σ H fun v H1 => td σ H1 fun x H2 => ty σ H2 fun y H3 => ∃ a H4, x = .ref a ∧ DPut H3 a y v H4 ∧ D.nx σ H4
def sDAug (td ty tv : TE) (rd : V → V → Hp → VK → Prop) : TS := fun D σ H => td σ H fun x H1 => ty σ H1 fun y H2 => ∃ a v, x = .ref a ∧ DGet H2 a y (some v) ∧
 tv σ H2 fun y2 H3 => rd v y2 H3 fun z H4 => ∃ H5, DPut H4 a y z H5 ∧ D.nx σ H5
section
variable {X : Cx} {o i e value : Expr} {pos pos' tpos : Pos} {td ty tv : TE}
theorem pe_dget (hu : X.A.units + 1 < cLine) (ho : PE X o td) (hi : PE X i ty) (hs : NoSl i) : PE X (.Subscript o i pos) (tDGet td ty) := by
 intro pins s σ H Q I h
 refine subD_of PySem.F.slot_dict_getitem.lookup hs (thn (ho pins s σ H _ I h) fun u s1 ⟨x, H1, I1, rx, q1⟩ => thn (hi pins s1 σ H1 _ I1 q1) fun iv s2 ⟨y, H2, I2, ry, a, v, ex, g, q2⟩ => ?_)
 subst ex
 obtain rfl : u = Value.ref a := rx
 exact ⟨dict_typeIs I2 g, d_getItem hu I2 g ry fun w' s3 I3 rw' => ⟨v, H2, I3, rw', q2⟩⟩
theorem pc_din (hu : X.A.units + 1 < cLine) (hi : PE X i ty) (ho : PE X o td) : PC X .In i o (tDIn ty td) := by
 intro pins s σ H Q I h
 refine thn (hi pins s σ H _ I h) fun iv s1 ⟨y, H1, I1, ry, q1⟩ => thn (ho pins s1 σ H1 _ I1 q1) fun u s2 ⟨x, H2, I2, rx, a, ov, ex, g, q2⟩ => ?_
 subst ex
 obtain rfl : u = Value.ref a := rx
 exact d_in hu I2 g ry fun s3 I3 => ⟨.bl ov.isSome, H2, I3, rfl, q2⟩
theorem pc_dnotin (hu : X.A.units + 1 < cLine) (hi : PE X i ty) (ho : PE X o td) : PC X .NotIn i o (tDNotIn ty td) := by
 intro pins s σ H Q I h
 refine thn (hi pins s σ H _ I h) fun iv s1 ⟨y, H1, I1, ry, q1⟩ => thn (ho pins s1 σ H1 _ I1 q1) fun u s2 ⟨x, H2, I2, rx, a, ov, ex, g, q2⟩ => ?_
 subst ex
 obtain rfl : u = Value.ref a := rx
 exact d_notIn hu I2 g ry fun s3 I3 => ⟨.bl (!ov.isSome), H2, I3, rfl, q2⟩
theorem ps_dput (hu : X.A.units + 1 < cLine) (ho : PE X o td) (hi : PE X i ty) (hv : PE X value tv) (hs : swapsWith value (some (.Subscript o i pos')) pos.line X.env = pure false) :
  PS X (.Assign [.Subscript o i pos'] value pos) (sDPut td ty tv) := by
 intro pins s σ H D I h
 refine wpAny_Assign_Subscript (thn (hv pins s σ H _ I h) fun r s1 ⟨v, H1, I1, rv, q1⟩ => thn (ho pins s1 σ H1 _ I1 q1) fun u s2 ⟨x, H2, I2, rx, q2⟩ => thn (hi pins s2 σ H2 _ I2 q2) fun iv s3 ⟨y, H3, I3, ry, a, H4, ex, g, q3⟩ => ?_) hs
 subst ex
 obtain rfl : u = Value.ref a := rx
 exact d_setItem hu I3 g ry rv fun s4 I4 => ⟨σ, H4, I4, q3⟩
theorem ps_daug {op : Operator} {rd : V → V → Hp → VK → Prop} (hu : X.A.units + 1 < cLine) (ho : PE X o td) (hi : PE X i ty) (hv : PE X value tv) (hop : InOp X op rd)
  (ha : ∀ ov iv new, augStore i ov iv new = (do holding [new, ov, iv] (setItem ov iv new); release [new, ov, iv] []; pure .next)) : PS X (.AugAssign (.Subscript o i tpos) op value pos) (sDAug td ty tv rd) := by
 intro pins s σ H D I h
 refine wpAny_AugAssign_SubscriptAny (thn (ho pins s σ H _ I h) fun u s1 ⟨x, H1, I1, rx, q1⟩ => thn (hi pins s1 σ H1 _ I1 q1) fun iv s2 ⟨y, H2, I2, ry, a, v, ex, g, q2⟩ => ?_) ha
 subst ex
 obtain rfl : u = Value.ref a := rx
 refine d_getItem hu I2 g ry fun w' s3 I3 rw' => thn (hv pins s3 σ H2 _ I3 q2) fun w2 s4 ⟨y2, H3, I4, ry2, q3⟩ => thn (hop pins s4 σ H3 v y2 w' w2 _ I4 rw' ry2 q3) fun w3 s5 ⟨z, H4, I5, rz, H5, g5, q4⟩ => ?_
 exact d_setItem hu I5 g5 ry rz fun s6 I6 => ⟨σ, H5, I6, q4⟩
end
theorem dk_empty {P : Program} {w : World} {H : Hp} (h : Heap) (hb : sysModules < h.objs.size) : ObjOk P w H (h.push { cls := .type "dict", data := .dict #[] }) h.objs.size (.dK []) :=
 ⟨Nat.zero_le _, beq_eq_false_iff_ne.mpr (Ne.symm (Nat.ne_of_lt hb)), [], .nil, Heap.DictOf.new h⟩
def tDNewK : TE := fun _ H Q => ∀ p, H p = none → Q (.ref p) (upd H p (.dK []))
section
variable {X : Cx} {pos : Pos}
theorem pe_dnewK : PE X (.Dict [] [] pos) tDNewK := fun pins s σ H Q I h =>
 wpAny_Dict_empty ⟨.ref s.heap.objs.size, _, I.laid (a := s.heap.objs.size) (o := .dK []) (t' := s.toks) (fun _ _ q => Heap.get?_push_of_some _ q) (Nat.le_refl _) (dk_empty s.heap I.big), rfl, h _ (I.hok.fresh (Nat.le_refl _))⟩
end
def tPairs : List (TE × TE) → St → Hp → (List (V × V) → Hp → Prop) → Prop
 | [], _, H, Q => Q [] H
 | (tk, tv) :: r, σ, H, Q => tk σ H fun x H1 => tv σ H1 fun y H2 => tPairs r σ H2 fun ps H3 => Q ((x, y) :: ps) H3
abbrev VV : List (V × V) → List (Value × Value) → Prop := Paired fun p q => RelV p.1 q.1 ∧ RelV p.2 q.2
def PPs (X : Cx) (pos : Pos) (keys : List (Option Expr)) (values : List Expr) (trs : List (TE × TE)) : Prop :=
 ∀ (pins : List (Addr × Obj)) (s : Shared) (σ : St) (H : Hp) (Q : List (V × V) → Hp → Prop), Inv X pins σ H s → tPairs trs σ H Q →
  wpAny (model X.prog X.w) X.A (evalPairs (pairTrees keys values X.env pos)) (fun vs s' => ∃ ps H', Inv X pins σ H' s' ∧ VV ps vs ∧ Q ps H') X.xe s
theorem pps_nil {X : Cx} {pos : Pos} : PPs X pos [] [] [] := fun pins s σ H Q I h => pairTrees_nil_walk ⟨[], H, I, .nil, h⟩
theorem pps_cons {X : Cx} {pos : Pos} {k v : Expr} {ks : List (Option Expr)} {vs : List Expr} {tk tv : TE} {trs : List (TE × TE)} (hk : PE X k tk) (hv : PE X v tv) (hr : PPs X pos ks vs trs) :
  PPs X pos (some k :: ks) (v :: vs) ((tk, tv) :: trs) := fun pins s σ H Q I h =>
 pairTrees_cons_walk (thn (hk pins s σ H _ I h) fun u s1 ⟨x, H1, I1, rx, q1⟩ => thn (hv pins s1 σ H1 _ I1 q1) fun w2 s2 ⟨y, H2, I2, ry, q2⟩ =>
  thn (hr pins s2 σ H2 _ I2 q2) fun ws s3 ⟨ps, H3, I3, rel, q3⟩ => ⟨(x, y) :: ps, H3, I3, .cons ⟨rx, ry⟩ rel, q3⟩)
def mergeK (kvs more : List (Key × V)) : List (Key × V) := more.foldl (fun acc kv => putK acc kv.1 kv.2) kvs
theorem KV.merge : ∀ {more : List (Key × V)} {rs : List (Key × Value)} {kvs : List (Key × V)} {vs : List (Key × Value)}, KV more rs → KV kvs vs → KV (mergeK kvs more) (merged vs rs) := by
 intro more rs kvs vs r
 unfold KV at r
 induction r generalizing kvs vs with
 | nil => intro q; exact q
 | @cons p q ps qs h t ih =>
  intro r0
  have e : KV (putK kvs p.1 p.2) (stored vs q.1 q.2) := by
   have := r0.put p.1 h.2
   rw [← h.1]; exact this
  exact ih e
theorem length_mergeK : ∀ (more kvs : List (Key × V)), (mergeK kvs more).length ≤ kvs.length + more.length
 | [], kvs => by show kvs.length ≤ kvs.length + 0; omega
 | p :: r, kvs => by
  have h1 := length_mergeK r (putK kvs p.1 p.2)
  have h2 := length_putK kvs p.1 p.2
  show (mergeK (putK kvs p.1 p.2) r).length ≤ _
  rw [List.length_cons]; omega
theorem carries_of {P : Program} {w : World} : ∀ {kvs : List (Key × V)} {ws : List (Value × Value)}, VV (kvs.map fun kv => (kV kv.1, kv.2)) ws → ∃ rs, Carries (mixKind P w) ws rs ∧ KV kvs rs
 | [], _, r => by rw [List.map_nil] at r; cases r; exact ⟨[], True.intro, .nil⟩
 | p :: kvs, _, r => by
  rw [List.map_cons] at r
  cases r with
  | @cons a b as bs h t =>
   obtain ⟨rs, c, q⟩ := carries_of (P := P) (w := w) t
   obtain ⟨b1, b2⟩ := b
   exact ⟨(p.1, b2) :: rs, ⟨kV_is h.1, rfl, c⟩, .cons ⟨rfl, h.2⟩ q⟩
def tDisp (trs : List (TE × TE)) : TE := fun σ H Q => ∀ p, H p = none → tPairs trs σ (upd H p (.dK [])) fun ps H2 => H2 p = some (.dK []) ∧ ∃ kvs : List (Key × V), ps = kvs.map (fun kv => (kV kv.1, kv.2)) ∧ kvs.length ≤ 15 ∧ Q (.ref p) (upd H2 p (.dK (mergeK [] kvs)))
theorem pe_disp {X : Cx} {pos : Pos} {keys : List (Option Expr)} {values : List Expr} {trs : List (TE × TE)} (h : PPs X pos keys values trs) (hall : keys.all (·.isSome) = true) (hl : keys.length = values.length) (h0 : keys ≠ [])
  (h15 : keys.length ≤ 15) : PE X (.Dict keys values pos) (tDisp trs) := by
 intro pins s σ H Q I q
 have hn := I.hok.fresh (Nat.le_refl s.heap.objs.size)
 have I1 := I.laid (a := s.heap.objs.size) (o := .dK []) (h' := s.heap.push { cls := .type "dict", data := .dict #[] }) (t' := s.toks) (fun _ _ q => Heap.get?_push_of_some _ q) (Nat.le_refl _) (dk_empty s.heap I.big)
 refine wpAny_Dict_walk (knd := mixKind X.prog X.w) hall hl h0 h15 (thn (h pins _ σ _ _ I1 (q _ hn)) fun ws s2 ⟨ps, H2, I2, rel, e, kvs, ep, lk, q2⟩ => ?_)
 subst ep
 obtain ⟨rs, c, rk⟩ := carries_of (P := X.prog) (w := X.w) rel
 obtain ⟨z, hd, vs0, r0, dd⟩ := dk_of I2.hok e
 cases r0
 refine ⟨rs, c, dd, fun h' dd' hs => ⟨.ref s.heap.objs.size, _, ?_, rfl, q2⟩⟩
 have hz : (mergeK [] kvs).length ≤ sizeLine := by
  have h1 := length_mergeK kvs []
  rw [List.length_nil] at h1
  rw [sizeLine_eq]; omega
 have he : ∃ q, h'.get? s.heap.objs.size = some q := let ⟨q, _, _, hq, _⟩ := dd'; ⟨q, hq⟩
 exact d_write I2 (by rw [e]; exact True.intro) hs he (dk_new hz hd (rk.merge .nil) dd')
structure M1 (X : Cx) (o : Expr) (m : Str) (apos : Pos) (e : Expr) (cpos : Pos) : Prop where
 base : attributeBase o m X.env (eval o X.env) = eval o X.env
 few : ((backTo cpos (starEach [e] X.env)).all (fun x => !x.1) && (backToKw cpos (keywordEach [] X.env)).all (fun x => x.1.isSome)
  && decide (([e] : List Expr).length + ([] : List Keyword).length + (if ([] : List Keyword).isEmpty then 0 else 1) < 30)) = true
 line : (apos.endLine == cpos.line) = true
 trees : backTo cpos (starEach [e] X.env) = [(false, eval e X.env)]
structure M2 (X : Cx) (o : Expr) (m : Str) (apos : Pos) (e f : Expr) (cpos : Pos) : Prop where
 base : attributeBase o m X.env (eval o X.env) = eval o X.env
 few : ((backTo cpos (starEach [e, f] X.env)).all (fun x => !x.1) && (backToKw cpos (keywordEach [] X.env)).all (fun x => x.1.isSome)
  && decide (([e, f] : List Expr).length + ([] : List Keyword).length + (if ([] : List Keyword).isEmpty then 0 else 1) < 30)) = true
 line : (apos.endLine == cpos.line) = true
 trees : backTo cpos (starEach [e, f] X.env) = [(false, eval e X.env), (false, eval f X.env)]
def IsD (H : Hp) (a : Addr) : Prop := (∃ kvs, Rd H a (.dK kvs)) ∨ ∃ kvs, Rd H a (.dT kvs)
theorem isD_at {X : Cx} {pins : List (Addr × Obj)} {σ : St} {H : Hp} {s : Shared} {a : Addr} (I : Inv X pins σ H s) (d : IsD H a) :
  s.TypeIs (.ref a) "dict" ∧ (∀ b, Value.ref a = .ref b → ∃ ob, s.heap.get? b = some ob ∧ ob.dict = none) ∧ (a == sysModules) = false := by
 rcases d with ⟨kvs, e⟩ | ⟨kvs, e⟩
 ·obtain ⟨_, hd, vs, _, dd⟩ := dk_rd I.hok e
  refine ⟨dd.typeIs, fun b q => ?_, hd⟩
  cases q
  obtain ⟨ob, _, _, h1, h2, _⟩ := dd
  exact ⟨ob, h1, h2.2.1⟩
 ·obtain ⟨_, hd, xs, _, dd⟩ := dt_rd I.hok e
  refine ⟨dd.typeIs, fun b q => ?_, hd⟩
  cases q
  obtain ⟨ob, _, _, h1, h2, _⟩ := dd
  exact ⟨ob, h1, h2.2.1⟩
section
variable {X : Cx} {pins : List (Addr × Obj)} {σ : St} {H : Hp} {s : Shared} {a : Addr} {y d : V} {u r : Value} {o : Option V} {A : Around} {E : Value → Shared → Prop}
theorem d_get1 {Q : Value → Shared → Prop} (hu : A.units + 1 < cLine) (I : Inv X pins σ H s) (g : DGet H a y o) (ry : RelV y u) (h : ∀ w' s', Inv X pins σ H s' → RelV (o.getD .non) w' → Q w' s') :
  wpAny (model X.prog X.w) A (call (.builtin "dict.get") [.ref a, u]) Q E s := by
 rcases g with ⟨kvs, k, e, ey, l⟩ | ⟨kvs, k, b, e, ey, eb, l⟩
 ·subst ey
  obtain ⟨z, hd, vs, rel, dd⟩ := dk_rd I.hok e
  refine call_meetsIn PySem.F.slot_dict_get dd.typeIs PySem.F.entry_dict_get (PySem.F.args_dict_get_2 _ _) (meets_dict_get (mixKind X.prog X.w) a (kV_is ry) hd) ⟨_, dd.mapOf, h _ _ (I.tok _) ?_⟩
  rw [l]
  exact (rel.val k).getD rfl
 ·subst ey
  cases (show u = Value.ref b from ry)
  obtain ⟨z, hd, xs, rel, dd⟩ := dt_rd I.hok e
  refine call_meetsIn PySem.F.slot_dict_get dd.typeIs PySem.F.entry_dict_get (PySem.F.args_dict_get_2 _ _) (meetsH_dict_get (tupleKind (mixKind X.prog X.w)) a b hd) ⟨tupleKind_room_in1 hu, k, xs, key_of I.hok eb, dd, h _ _ (I.tok _) ?_⟩
  rw [l]
  exact (rel.val k).getD rfl
theorem d_get2 {Q : Value → Shared → Prop} (hu : A.units + 1 < cLine) (I : Inv X pins σ H s) (g : DGet H a y o) (ry : RelV y u) (rd : RelV d r) (h : ∀ w' s', Inv X pins σ H s' → RelV (o.getD d) w' → Q w' s') :
  wpAny (model X.prog X.w) A (call (.builtin "dict.get") [.ref a, u, r]) Q E s := by
 rcases g with ⟨kvs, k, e, ey, l⟩ | ⟨kvs, k, b, e, ey, eb, l⟩
 ·subst ey
  obtain ⟨z, hd, vs, rel, dd⟩ := dk_rd I.hok e
  refine call_meetsIn PySem.F.slot_dict_get dd.typeIs PySem.F.entry_dict_get (PySem.F.args_dict_get_3 _ _ _) (meets_dict_get_default (mixKind X.prog X.w) a (kV_is ry) hd r) ⟨_, dd.mapOf, h _ _ (I.tok _) ?_⟩
  rw [l]
  exact (rel.val k).getD rd
 ·subst ey
  cases (show u = Value.ref b from ry)
  obtain ⟨z, hd, xs, rel, dd⟩ := dt_rd I.hok e
  refine call_meetsIn PySem.F.slot_dict_get dd.typeIs PySem.F.entry_dict_get (PySem.F.args_dict_get_3 _ _ _) (meetsH_dict_get_default (tupleKind (mixKind X.prog X.w)) a b hd r) ⟨tupleKind_room_in1 hu, k, xs, key_of I.hok eb, dd, h _ _ (I.tok _) ?_⟩
  rw [l]
  exact (rel.val k).getD rd
end
def tDGet1 (td ty : TE) : TE := fun σ H Q => td σ H fun x H1 => ∃ a, x = .ref a ∧ IsD H1 a ∧ ty σ H1 fun y H2 => ∃ o, DGet H2 a y o ∧ Q (o.getD .non) H2
def tDGet2 (td ty tx : TE) : TE := fun σ H Q => td σ H fun x H1 => ∃ a, x = .ref a ∧ IsD H1 a ∧ ty σ H1 fun y H2 => tx σ H2 fun z H3 => ∃ o, DGet H3 a y o ∧ Q (o.getD z) H3
section
variable {X : Cx} {o e f : Expr} {apos cpos : Pos} {td ty tx : TE}
theorem pe_dget1 (hu : X.A.units + 1 < cLine) (ho : PE X o td) (he : PE X e ty) (m : M1 X o "get" apos e cpos) : PE X (.Call (.Attribute o "get" apos) [e] [] cpos) (tDGet1 td ty) := by
 intro pins s σ H Q I h
 refine wpAny_Call_method m.base m.few m.line PySem.F.plainAttrs_dict PySem.F.slot_dict_get PySem.F.type_dict_get (thn (ho pins s σ H _ I h) fun u s1 ⟨x, H1, I1, rx, a, ex, d, q1⟩ => ?_)
 subst ex
 obtain rfl : u = Value.ref a := rx
 obtain ⟨t1, t2, _⟩ := isD_at I1 d
 refine ⟨t1, t2, ?_⟩
 rw [m.trees]
 refine Calls.callWith_builtin rfl (Calls.evalArgs_plain (Calls.spliced_cons (thn (he pins s1 σ H1 _ I1 q1) fun iv s2 ⟨y, H2, I2, ry, ov, g, q2⟩ => Calls.spliced_nil ?_)))
 exact d_get1 hu I2 g ry fun w' s3 I3 rw' => ⟨_, H2, I3, rw', q2⟩
theorem pe_dget2 (hu : X.A.units + 1 < cLine) (ho : PE X o td) (he : PE X e ty) (hf : PE X f tx) (m : M2 X o "get" apos e f cpos) : PE X (.Call (.Attribute o "get" apos) [e, f] [] cpos) (tDGet2 td ty tx) := by
 intro pins s σ H Q I h
 refine wpAny_Call_method m.base m.few m.line PySem.F.plainAttrs_dict PySem.F.slot_dict_get PySem.F.type_dict_get (thn (ho pins s σ H _ I h) fun u s1 ⟨x, H1, I1, rx, a, ex, d, q1⟩ => ?_)
 subst ex
 obtain rfl : u = Value.ref a := rx
 obtain ⟨t1, t2, _⟩ := isD_at I1 d
 refine ⟨t1, t2, ?_⟩
 rw [m.trees]
 refine Calls.callWith_builtin rfl (Calls.evalArgs_plain (Calls.spliced_cons (thn (he pins s1 σ H1 _ I1 q1) fun iv s2 ⟨y, H2, I2, ry, q2⟩ =>
  Calls.spliced_cons (thn (hf pins s2 σ H2 _ I2 q2) fun fv s3 ⟨z, H3, I3, rz, ov, g, q3⟩ => Calls.spliced_nil ?_))))
 exact d_get2 hu I3 g ry rz fun w' s4 I4 rw' => ⟨_, H3, I4, rw', q3⟩
end
section
variable {X : Cx} {pins : List (Addr × Obj)} {σ : St} {H : Hp} {s : Shared} {a : Addr} {kvs : List (Key × V)} {A : Around} {E : Value → Shared → Prop}
end
section
variable {X : Cx} {pins : List (Addr × Obj)} {σ : St} {H : Hp} {s : Shared} {a : Addr} {y : V} {u : Value} {A : Around} {E : Value → Shared → Prop}
end
end L2
namespace HT
open PySem PyProof.Rows
section
open PySem.SeqAt
open PySem.AutoSeq1 (wpAny_loadPart')
open PySem.MeetsSeq PySem.MeetsSeq2 PySem.MeetsSeq3
end
section
variable {prog : Program} {w : World} {A : Around} {E : Value → Shared → Prop} {s : Shared}
def sIx (n d : Nat) : Option Int → Nat
 | none => d
 | some v => if v < 0 then (v + (n : Int)).toNat else min v.toNat n
theorem sIx_nat (n d k : Nat) : sIx n d (some (k : Int)) = min k n := by
 show (if (k : Int) < 0 then ((k : Int) + (n : Int)).toNat else min (k : Int).toNat n) = min k n
 rw [if_neg (by omega), Int.toNat_natCast]
end
end HT
namespace L2
open PySem PySem.Spec PyProof.Rows
abbrev TO := St → Hp → (Option Int → Hp → Prop) → Prop
def PO (X : Cx) (e : Option Expr) (t : TO) : Prop :=
 ∀ (pins : List (Addr × Obj)) (s : Shared) (σ : St) (H : Hp) (Q : Option Int → Hp → Prop), Inv X pins σ H s → t σ H Q →
  wpAny (model X.prog X.w) X.A (evalPart e X.env) (fun u s' => ∃ o H', Inv X pins σ H' s' ∧ IsPart u o ∧ Q o H') X.xe s
def tNoPart : TO := fun _ H Q => Q none H
def tPart (t : TE) : TO := fun σ H Q => t σ H fun x H1 => ∃ i, x = .int i ∧ Q (some i) H1
theorem intsAre_of {ns : List Int} : ∀ {us : List Value}, Vals (ns.map V.int) us → IntsAre us ns := by
 induction ns with
 | nil => intro us r; rw [List.map_nil] at r; cases r; exact .nil
 | cons n ns ih =>
  intro us r
  rw [List.map_cons] at r
  cases r with
  | cons r1 r2 =>
   obtain ⟨t, e⟩ := r1
   subst e
   exact .cons n t (ih r2)
section
variable {X : Cx} {e : Expr} {te : TE} {lo hi : Option Expr} {tl th : TO} {pos p2 : Pos}
theorem po_none : PO X none tNoPart := by
 intro pins s σ H Q I h
 rw [evalPart_none]
 exact wpAny_pure ⟨none, H, I, .none, h⟩
theorem po_some (h : PE X e te) : PO X (some e) (tPart te) := by
 intro pins s σ H Q I hw
 rw [evalPart_some]
 refine thn (h pins s σ H _ I hw) fun u s1 ⟨x, H1, I1, r1, q1⟩ => ?_
 obtain ⟨i, rfl, q⟩ := q1
 obtain ⟨t, rfl⟩ := r1
 exact ⟨some i, H1, I1, .int i t, q⟩
def SlR (X : Cx) (r : V → Option Int → Option Int → Hp → VK → Prop) : Prop :=
 ∀ (pins : List (Addr × Obj)) (s : Shared) (σ : St) (H : Hp) (x : V) (v vl vu : Value) (lo hi : Option Int) (sl : Addr) (Q : VK), Inv X pins σ H s → RelV x v → s.heap.IsSliceOf sl vl vu .none → IsPart vl lo → IsPart vu hi → r x lo hi H Q →
  ∃ T id, typeLookup (.type T) "__getitem__" = pure (some (.builtin id)) ∧ s.TypeIs v T ∧ wpAny (model X.prog X.w) X.A (getItem v (.ref sl)) (EP X pins σ Q) X.xe s
def tSl (r : V → Option Int → Option Int → Hp → VK → Prop) (te : TE) (tl th : TO) : TE := fun σ H Q => te σ H fun x H1 => tl σ H1 fun l H2 => th σ H2 fun u H3 => r x l u H3 Q
theorem pe_slice {r : V → Option Int → Option Int → Hp → VK → Prop} (hr : SlR X r) (he : PE X e te) (hl : PO X lo tl) (hu : PO X hi th) : PE X (.Subscript e (.Slice lo hi none p2) pos) (tSl r te tl th) := by
 intro pins s σ H Q I h
 refine Subscript_ (thn (he pins s σ H _ I h) fun v s1 ⟨x, H1, I1, r1, q1⟩ => ?_)
 refine wpAny_Slice (thn (hl pins s1 σ H1 _ I1 q1) fun vl s2 ⟨l, H2, I2, pl, q2⟩ => thn (hu pins s2 σ H2 _ I2 q2) fun vu s3 ⟨u, H3, I3, pu, q3⟩ => ?_)
 rw [evalPart_none]
 refine wpAny_pure ?_
 have I4 : Inv X pins σ H3 { s3 with heap := s3.heap.push { cls := .type "slice", data := .fields #[vl, vu, .none] } } := I3.kept (t' := s3.toks) fun b ob q => Heap.get?_push_of_some _ q
 obtain ⟨T, id, hT, ht, hg⟩ := hr pins { s3 with heap := s3.heap.push { cls := .type "slice", data := .fields #[vl, vu, .none] } } σ H3 x v vl vu l u s3.heap.objs.size Q I4 r1 (Heap.IsSliceOf.new ..) pl pu q3
 show wpAny (model X.prog X.w) X.A (subscriptTail e (.Slice lo hi none p2) v (.ref s3.heap.objs.size)) (EP X pins σ Q) X.xe { s3 with heap := s3.heap.push { cls := .type "slice", data := .fields #[vl, vu, .none] } }
 exact tail_any (ops := [.ref s3.heap.objs.size, v]) ht hT hg (by with_unfolding_all rfl)
def cutV (xs : List V) (lo hi : Option Int) : List V := (xs.drop (HT.sIx xs.length 0 lo)).take (HT.sIx xs.length xs.length hi - HT.sIx xs.length 0 lo)
theorem cutV_length (xs : List V) (lo hi : Option Int) : (cutV xs lo hi).length ≤ xs.length := by
 unfold cutV
 rw [List.length_take, List.length_drop]
 omega
end
end L2
namespace L2
open PySem PySem.Spec PyProof.Rows
def ixN (n : Nat) (i : Int) : Option Nat := if 0 ≤ i then (if i < n then some i.toNat else none) else if -(n : Int) ≤ i then some (i + n).toNat else none
def atI {α : Type} (xs : List α) (i : Int) : Option α := (ixN xs.length i).bind fun j => xs[j]?
theorem ixN_seq {n : Nat} {i : Int} {j : Nat} (h : ixN n i = some j) : seqIndex? i n = some j ∧ j < n ∧ -(n : Int) ≤ i ∧ i < n := by
 unfold ixN at h
 by_cases h0 : 0 ≤ i
 ·rw [if_pos h0] at h
  by_cases h1 : i < n
  ·rw [if_pos h1] at h
   have e : i.toNat = j := Option.some.inj h
   exact ⟨by rw [seqIndex_of h0 h1, e], by omega, by omega, h1⟩
  ·rw [if_neg h1] at h; cases h
 ·rw [if_neg h0] at h
  by_cases h1 : -(n : Int) ≤ i
  ·rw [if_pos h1] at h
   have e : (i + n).toNat = j := Option.some.inj h
   exact ⟨by rw [seqIndex_neg (by omega) h1, e], by omega, h1, by omega⟩
  ·rw [if_neg h1] at h; cases h
theorem atI_get {α : Type} {xs : List α} {i : Int} {v : α} (h : atI xs i = some v) : ∃ j, seqIndex? i xs.length = some j ∧ xs[j]? = some v ∧ j < xs.length ∧ -(xs.length : Int) ≤ i ∧ i < xs.length := by
 unfold atI at h
 cases e : ixN xs.length i with
 | none => rw [e] at h; cases h
 | some j =>
  rw [e] at h
  obtain ⟨h1, h2, h3, h4⟩ := ixN_seq e
  exact ⟨j, h1, h, h2, h3, h4⟩
theorem atI_nat {α : Type} {xs : List α} {j : Nat} {v : α} (h : xs[j]? = some v) : atI xs (j : Int) = some v := by
 have hj : j < xs.length := (List.getElem?_eq_some_iff.mp h).1
 have e : ixN xs.length (j : Int) = some j := by
  unfold ixN
  rw [if_pos (by omega), if_pos (by omega)]; simp
 unfold atI; rw [e]; exact h
theorem atI_last {α : Type} (xs : List α) (v : α) : atI (xs ++ [v]) (-1) = some v := by
 have hl : (xs ++ [v]).length = xs.length + 1 := by simp
 have e : ixN (xs ++ [v]).length (-1) = some xs.length := by
  unfold ixN
  rw [hl, if_neg (by decide), if_pos (by omega)]
  congr 1
  omega
 unfold atI
 rw [e]
 show (xs ++ [v])[xs.length]? = some v
 simp
def PlainIx (b : Expr) : Prop := ∀ o i, subscripted b false o i = operate [o, i] (getItem o i)
def IxR (X : Cx) (r : R2) : Prop :=
 ∀ (value slice : Expr) (pins : List (Addr × Obj)) (s : Shared) (σ : St) (H : Hp) (x y : V) (v u : Value) (Q : VK), Inv X pins σ H s → RelV x v → RelV y u → r x y H Q →
  subscripted slice false v u = operate [v, u] (getItem v u) → wpAny (model X.prog X.w) X.A (subscriptTail value slice v u) (EP X pins σ Q) X.xe s
def MtR (X : Cx) (id : String) (r : V → List V → Hp → VK → Prop) : Prop :=
 ∀ (pins : List (Addr × Obj)) (s : Shared) (σ : St) (H : Hp) (x : V) (xs : List V) (v : Value) (us : List Value) (Q : VK), Inv X pins σ H s → RelV x v → Vals xs us → r x xs H Q →
  wpAny (model X.prog X.w) X.A (call (.builtin id) (v :: us)) (EP X pins σ Q) X.xe s
section
variable {X : Cx} {a b : Expr} {ta tb : TE} {pos : Pos}
theorem pe_ix {r : R2} (hr : IxR X r) (ha : PE X a ta) (hb : PE X b tb) (hs : PlainIx b) : PE X (.Subscript a b pos) (tOp r ta tb) := by
 intro pins s σ H Q I h
 exact Subscript_ (binT ha hb I h fun v u s2 x y H2 I2 rx ry q => hr a b pins s2 σ H2 x y v u Q I2 rx ry q (hs _ _))
def rIxL (K : PySem.W.Frag) : R2 := fun x y H Q => ∃ p xs i v, x = .ref p ∧ y = .int i ∧ SqL K H p xs ∧ atI xs i = some v ∧ Q v H
def rIxT (K : PySem.W.Frag) : R2 := fun x y H Q => ∃ p xs i v, x = .ref p ∧ y = .int i ∧ SqT K H p xs ∧ atI xs i = some v ∧ Q v H
def rIxS : R2 := fun x y H Q => ∃ z i c, x = .str z ∧ y = .int i ∧ z.length ≤ sizeLine ∧ atI z.cps.toList i = some c ∧ Q (.str ⟨#[c]⟩) H
theorem ix_list : IxR X (rIxL X.K) := by
 intro value slice pins s σ H x y v u Q I rx ry h hs
 obtain ⟨p, xs, i, z, rfl, rfl, hq, he, q⟩ := h
 cases rx
 obtain ⟨t, rfl⟩ := ry
 obtain ⟨its, r, pl, hz⟩ := I.list hq
 obtain ⟨j, h1, h2, h3, h4, h5⟩ := atI_get he
 obtain ⟨w, ew, rw'⟩ := r.get h2
 have hl := r.length
 have hn := line63
 have fin : EP X pins σ Q w s := ⟨z, H, I, rw', q⟩
 by_cases h0 : 0 ≤ i
 ·have hj : i.toNat = j := by
   rw [seqIndex_of h0 h5] at h1
   exact Option.some.inj h1
  exact item_listR pl.isList h0 (by omega) (by rw [hj]; simpa using ew) fin hs
 ·have hj : (i + (its.toArray.size : Int)).toNat = j := by
   rw [seqIndex_neg (by omega) h4] at h1
   rw [List.size_toArray, ← hl]
   exact Option.some.inj h1
  exact subscriptTail_builtinR (x := w) pl.isList.typeIs slot_list_getitem.lookup
   (wpAny_getItem_list_neg (Q := fun r s' => r = w ∧ EP X pins σ Q r s') pl.isList (by omega) (by rw [List.size_toArray] <;> omega) (by omega) (by rw [hj]; simpa using ew) ⟨rfl, fin⟩) hs
theorem ix_tup : IxR X (rIxT X.K) := by
 intro value slice pins s σ H x y v u Q I rx ry h hs
 obtain ⟨p, xs, i, z, rfl, rfl, hq, he, q⟩ := h
 cases rx
 obtain ⟨t, rfl⟩ := ry
 obtain ⟨its, r, pl, hz⟩ := I.tuple hq
 obtain ⟨j, h1, h2, h3, h4, h5⟩ := atI_get he
 obtain ⟨w, ew, rw'⟩ := r.get h2
 have hl := r.length
 have hn := line63
 have fin : EP X pins σ Q w s := ⟨z, H, I, rw', q⟩
 exact subscriptTail_builtinR (x := w) pl.typeIs slot_tuple_getitem.lookup
  (getItem_tuple (j := j) (Q := fun r s' => r = w ∧ EP X pins σ Q r s') pl (by omega) (by omega) (by rw [List.size_toArray, ← hl]; exact h1) (by simpa using ew) ⟨rfl, fin⟩) hs
theorem ix_str : IxR X rIxS := by
 intro value slice pins s σ H x y v u Q I rx ry h hs
 obtain ⟨z, i, c, rfl, rfl, hz, he, q⟩ := h
 obtain ⟨t, rfl⟩ := rx
 obtain ⟨t', rfl⟩ := ry
 obtain ⟨j, h1, h2, h3, h4, h5⟩ := atI_get he
 have hl : z.cps.toList.length = z.length := by simp [Str.length]
 rw [hl] at h1 h4 h5
 have hn := line63
 exact tail_any (typeIs_str s z t) slot_str_getitem.lookup (getItem_str (c := c) (by
  have e1 : decide (i < -(2 ^ 63 : Int)) = false := decide_eq_false (by omega)
  have e2 : decide (i ≥ 2 ^ 63) = false := decide_eq_false (by omega)
  rw [e1, e2, Bool.or_false]) (by rw [h1]; simpa using h2) ⟨.str ⟨#[c]⟩, H, I.tok _, ⟨_, rfl⟩, q⟩) hs
theorem slice_bounds (lo hi : Option Int) (n : Nat) : (sliceBounds lo hi none n).1 = ((HT.sIx n 0 lo : Nat) : Int) ∧ (sliceBounds lo hi none n).2.1 = ((HT.sIx n n hi : Nat) : Int) ∧ (sliceBounds lo hi none n).2.2 = 1 := by
 refine ⟨?_, ?_, rfl⟩
 ·cases lo with
  | none => simp [sliceBounds, HT.sIx]
  | some i =>
   simp only [sliceBounds, HT.sIx, Option.getD_none, show (1 : Int) > 0 by decide, if_true]
   by_cases h : i < 0
   ·simp only [h, if_true] <;> omega
   ·simp only [h, if_false] <;> omega
 ·cases hi with
  | none => simp [sliceBounds, HT.sIx]
  | some i =>
   simp only [sliceBounds, HT.sIx, Option.getD_none, show (1 : Int) > 0 by decide, if_true]
   by_cases h : i < 0
   ·simp only [h, if_true] <;> omega
   ·simp only [h, if_false] <;> omega
theorem slicePick_cut (its : List Value) (lo hi : Option Int) : slicePick its.toArray lo hi none = ((its.drop (HT.sIx its.length 0 lo)).take (HT.sIx its.length its.length hi - HT.sIx its.length 0 lo)).toArray := by
 obtain ⟨h1, h2, h3⟩ := slice_bounds lo hi its.toArray.size
 unfold slicePick
 rw [h1, h2, h3]
 simp only [sliceRange_one, pick_run, List.size_toArray] <;> rfl
def rSlL (K : PySem.W.Frag) : V → Option Int → Option Int → Hp → VK → Prop := fun x lo hi H Q => ∃ a xs, x = .ref a ∧ SqL K H a xs ∧ ∀ p, H p = none → Q (.ref p) (upd H p (.lst (cutV xs lo hi)))
theorem sl_list : SlR X (rSlL X.K) := by
 intro pins s σ H x v vl vu lo hi sl Q I rx hs pl pu h
 obtain ⟨a, xs, rfl, hx, q⟩ := h
 cases rx
 obtain ⟨its, r, ht, hz⟩ := I.list hx
 have hlen := r.length
 refine ⟨"list", _, slot_list_getitem.lookup, ht.isList.typeIs, ?_⟩
 refine wpAny_getItem_list_slice ht.isList hs pl pu .none (by simp) ?_ (by rw [List.size_toArray] <;> omega)
 rw [slicePick_cut, ← hlen]
 refine ⟨.ref s.heap.objs.size, _, I.laid (t' := s.toks) (o := .lst (cutV xs lo hi)) (fun b ob q => Heap.get?_push_of_some _ q) (Nat.le_refl _) ?_, rfl, q _ (I.hok.fresh (Nat.le_refl _))⟩
 exact ⟨Nat.le_trans (cutV_length xs lo hi) hz, _, 0, (r.drop (HT.sIx xs.length 0 lo)).take (HT.sIx xs.length xs.length hi - HT.sIx xs.length 0 lo), Heap.get?_push_size _ rfl⟩
def flatV : V → Bool
 | .non => true
 | .bl _ => true
 | .int _ => true
 | .str _ => true
 | _ => false
def eqV : V → V → Bool
 | .non, .non => true
 | .bl a, .bl b => a == b
 | .bl a, .int b => (if a then 1 else 0) == b
 | .int a, .bl b => a == (if b then 1 else 0)
 | .int a, .int b => a == b
 | .str a, .str b => a == b
 | _, _ => false
theorem eqAt_V {A : Around} {s : Shared} {y x : V} {u v : Value} (ry : RelV y u) (rx : RelV x v) (fy : flatV y = true) (fx : flatV x = true) : SeqAt.EqAt A s u v (eqV y x) := by
 cases y with
 | non =>
  cases ry
  cases x with
  | non => cases rx; exact SeqAt.EqAt.same _
  | bl b => cases rx; exact SeqAt.EqAt.none_bool b
  | int b => obtain ⟨t, rfl⟩ := rx; exact SeqAt.EqAt.none_int b t
  | str b => obtain ⟨t, rfl⟩ := rx; exact SeqAt.EqAt.none_str b t
  | _ => exact absurd (show false = true from fx) Bool.false_ne_true
 | bl a =>
  cases ry
  cases x with
  | non => cases rx; exact SeqAt.EqAt.bool_none a
  | bl b => cases rx; exact SeqAt.EqAt.bool_bool a b
  | int b => obtain ⟨t, rfl⟩ := rx; exact SeqAt.EqAt.bool_int a b t
  | str b => obtain ⟨t, rfl⟩ := rx; exact SeqAt.EqAt.bool_str a b t
  | _ => exact absurd (show false = true from fx) Bool.false_ne_true
 | int a =>
  obtain ⟨t', rfl⟩ := ry
  cases x with
  | non => cases rx; exact SeqAt.EqAt.int_none a t'
  | bl b => cases rx; exact SeqAt.EqAt.int_bool a t' b
  | int b => obtain ⟨t, rfl⟩ := rx; exact SeqAt.EqAt.int_int a t' b t
  | str b => obtain ⟨t, rfl⟩ := rx; exact SeqAt.EqAt.int_str a t' b t
  | _ => exact absurd (show false = true from fx) Bool.false_ne_true
 | str a =>
  obtain ⟨t', rfl⟩ := ry
  cases x with
  | non => cases rx; exact SeqAt.EqAt.str_none a t'
  | bl b => cases rx; exact SeqAt.EqAt.str_bool a t' b
  | int b => obtain ⟨t, rfl⟩ := rx; exact SeqAt.EqAt.str_int a t' b t
  | str b => obtain ⟨t, rfl⟩ := rx; exact SeqAt.EqAt.str_str a t' b t
  | _ => exact absurd (show false = true from fx) Bool.false_ne_true
 | _ => exact absurd (show false = true from fy) Bool.false_ne_true
def eqU (x : V) (u : Value) : Bool := match u with
 | .none => eqV .non x
 | .bool b => eqV (.bl b) x
 | .int i _ => eqV (.int i) x
 | .str z _ => eqV (.str z) x
 | _ => false
theorem eqU_of {x y : V} {u : Value} (r : RelV y u) (f : flatV y = true) : eqU x u = eqV y x := by
 cases y with
 | non => cases r; rfl
 | bl b => cases r; rfl
 | int i => obtain ⟨t, rfl⟩ := r; rfl
 | str z => obtain ⟨t, rfl⟩ := r; rfl
 | _ => exact absurd (show false = true from f) Bool.false_ne_true
theorem any_eqU {x : V} : ∀ {xs : List V} {us : List Value}, Vals xs us → xs.all flatV = true → us.any (eqU x) = xs.any fun y => eqV y x
 | _, _, .nil, _ => rfl
 | y :: xs, u :: us, .cons r t, f => by
  rw [List.all_cons, Bool.and_eq_true] at f
  rw [List.any_cons, List.any_cons, eqU_of r f.1, any_eqU t f.2]
theorem mem_eqAt {A : Around} {s : Shared} {x : V} {v : Value} (rx : RelV x v) (fx : flatV x = true) : ∀ {xs : List V} {us : List Value}, Vals xs us → xs.all flatV = true → ∀ u ∈ us, SeqAt.EqAt A s u v (eqU x u)
 | _, _, .nil, _ => fun u hu => by cases hu
 | y :: xs, u :: us, .cons r t, f => fun u' hu => by
  rw [List.all_cons, Bool.and_eq_true] at f
  rcases List.mem_cons.mp hu with rfl | hu
  ·rw [eqU_of r f.1]; exact eqAt_V r rx f.1 fx
  ·exact mem_eqAt rx fx t f.2 u' hu
def inV (x : V) (xs : List V) : Bool := xs.any fun y => eqV y x
def rIn (K : PySem.W.Frag) (neg : Bool) : R2 := fun x y H Q => ∃ p xs, y = .ref p ∧ (SqL K H p xs ∨ SqT K H p xs) ∧ flatV x = true ∧ xs.all flatV = true ∧ Q (.bl (if neg then !inV x xs else inV x xs)) H
theorem op_in_seq : OpR X (compareOp .In) (rIn X.K false) := by
 intro pins s σ H x y v u Q I rx ry h
 obtain ⟨p, xs, rfl, hq, fx, fs, q⟩ := h
 cases ry
 rcases hq with hq | hq
 ·obtain ⟨its, r, pl, hz⟩ := I.list hq
  refine SeqAt.in_listAt (eqU x) pl.isList (fun w hw => mem_eqAt rx fx r fs w (by simpa using hw)) ⟨.bl _, H, I, rfl, ?_⟩
  rw [show its.toArray.any (eqU x) = its.any (eqU x) by simp, any_eqU r fs]
  exact q
 ·obtain ⟨its, r, pl, hz⟩ := I.tuple hq
  refine SeqAt.in_tupleAt (eqU x) pl (fun w hw => mem_eqAt rx fx r fs w (by simpa using hw)) ⟨.bl _, H, I, rfl, ?_⟩
  rw [show its.toArray.any (eqU x) = its.any (eqU x) by simp, any_eqU r fs]
  exact q
theorem op_notIn_seq : OpR X (compareOp .NotIn) (rIn X.K true) := by
 intro pins s σ H x y v u Q I rx ry h
 obtain ⟨p, xs, rfl, hq, fx, fs, q⟩ := h
 cases ry
 rcases hq with hq | hq
 ·obtain ⟨its, r, pl, hz⟩ := I.list hq
  refine SeqAt.notIn_listAt (eqU x) pl.isList (fun w hw => mem_eqAt rx fx r fs w (by simpa using hw)) ⟨.bl _, H, I, rfl, ?_⟩
  rw [show its.toArray.any (eqU x) = its.any (eqU x) by simp, any_eqU r fs]
  exact q
 ·obtain ⟨its, r, pl, hz⟩ := I.tuple hq
  refine SeqAt.notIn_tupleAt (eqU x) pl (fun w hw => mem_eqAt rx fx r fs w (by simpa using hw)) ⟨.bl _, H, I, rfl, ?_⟩
  rw [show its.toArray.any (eqU x) = its.any (eqU x) by simp, any_eqU r fs]
  exact q
theorem call_len_seq : CallR X (.builtin "len") (fun xs H Q => ∃ p ys, xs = [.ref p] ∧ (SqL X.K H p ys ∨ SqT X.K H p ys) ∧ Q (.int ys.length) H) := by
 intro pins s σ H xs us Q I r h
 obtain ⟨p, ys, rfl, hq, q⟩ := h
 obtain ⟨u, rfl, rx⟩ := vals1 r
 cases rx
 have hn := line63
 rcases hq with hq | hq
 ·obtain ⟨its, r', pl, hz⟩ := I.list hq
  have hlen := r'.length
  exact Calls.call_len_list pl.isList (by simp only [List.size_toArray] <;> omega) ⟨.int ys.length, H, I.tok _, ⟨s.toks + 1, by rw [List.size_toArray, hlen]⟩, q⟩
 ·obtain ⟨its, r', pl, hz⟩ := I.tuple hq
  have hlen := r'.length
  exact len_tuple pl (by simp only [List.size_toArray] <;> omega) ⟨.int ys.length, H, I.tok _, ⟨s.toks + 1, by rw [List.size_toArray, hlen]⟩, q⟩
theorem call_len_str : CallR X (.builtin "len") (fun xs H Q => ∃ z, xs = [.str z] ∧ z.length ≤ sizeLine ∧ Q (.int z.length) H) := by
 intro pins s σ H xs us Q I r h
 obtain ⟨z, rfl, hz, q⟩ := h
 obtain ⟨u, rfl, t, rfl⟩ := vals1 r
 have hn := line63
 exact len_str (by omega) ⟨.int z.length, H, I.tok _, ⟨_, rfl⟩, q⟩
theorem call_list_of : CallR X (.type "list") (fun xs H Q => ∃ p ys, xs = [.ref p] ∧ (SqL X.K H p ys ∨ SqT X.K H p ys) ∧ ∀ l, H l = none → Q (.ref l) (upd H l (.lst ys))) := by
 intro pins s σ H xs us Q I r h
 obtain ⟨p, ys, rfl, hq, q⟩ := h
 obtain ⟨u, rfl, rx⟩ := vals1 r
 cases rx
 have fin : ∀ (its : List Value), Vals ys its → ys.length ≤ sizeLine → ∀ (h' : Heap) (c' : Nat), (∀ b o', s.heap.get? b = some o' → h'.get? b = some o') →
   h'.get? s.heap.objs.size = some { cls := .type "list", dict := none, data := .seq its.toArray c', slots := #[] } → EP X pins σ Q (.ref s.heap.objs.size) { s with heap := h' } := fun its r' hz h' c' kp e =>
  ⟨.ref s.heap.objs.size, _, I.laid (t' := s.toks) kp (Nat.le_refl _) (show ObjOk X.prog X.w _ h' _ (.lst ys) from ⟨hz, its, c', r', e⟩), rfl, q _ (I.hok.fresh (Nat.le_refl _))⟩
 rcases hq with hq | hq
 ·obtain ⟨its, r', pl, hz⟩ := I.list hq
  have hlen := r'.length
  obtain ⟨o, ho, hc, n, hd⟩ := pl.isList
  exact call_list_seq p (.inl rfl) ho hc hd (fun h' c' kp e => fin its r' hz h' c' kp e) (by simp only [List.size_toArray] <;> omega)
 ·obtain ⟨its, r', pl, hz⟩ := I.tuple hq
  have hlen := r'.length
  obtain ⟨o, ho, hc, n, hd⟩ := pl
  exact call_list_seq p (.inr rfl) ho hc hd (fun h' c' kp e => fin its r' hz h' c' kp e) (by simp only [List.size_toArray] <;> omega)
def tyV (K : PySem.W.Frag) (T : String) (x : V) (H : Hp) : Prop := match x with
 | .str _ => T = "str"
 | .int _ => T = "int"
 | .ref p => (T = "list" ∧ ∃ xs, SqL K H p xs) ∨ (T = "tuple" ∧ ∃ o, K.lookup p = some o ∧ o.cls = .type "tuple" ∧ o.dict = none) ∨
   (T = "dict" ∧ ((∃ kvs, H p = some (.dK kvs)) ∨ ∃ kvs, H p = some (.dT kvs))) ∨ (T = "set" ∧ ∃ S n, H p = some (.set S n))
 | _ => False
theorem tyV_is {pins : List (Addr × Obj)} {σ : St} {H : Hp} {s : Shared} {T : String} {x : V} {v : Value} (I : Inv X pins σ H s) (r : RelV x v) (ty : tyV X.K T x H) :
  s.TypeIs v T ∧ ∀ a, v = .ref a → ∃ ob, s.heap.get? a = some ob ∧ ob.dict = none := by
 cases x with
 | str z =>
  obtain ⟨t, rfl⟩ := r
  cases (show T = "str" from ty)
  exact ⟨typeIs_str s z t, fun _ e => nomatch e⟩
 | int i =>
  obtain ⟨t, rfl⟩ := r
  cases (show T = "int" from ty)
  exact ⟨typeIs_int s i t, fun _ e => nomatch e⟩
 | ref p =>
  cases r
  rcases ty with ⟨rfl, xs, hq⟩ | ⟨rfl, o, hk, hc, hd⟩ | ⟨rfl, hk⟩ | ⟨rfl, S, n, hk⟩
  ·obtain ⟨its, _, pl, _⟩ := I.list hq
   refine ⟨pl.isList.typeIs, fun a e => ?_⟩
   cases e
   obtain ⟨o, n, e, c, hd, _⟩ := pl
   exact ⟨o, e, hd⟩
  ·refine ⟨⟨o, I.kIn p o hk, hc⟩, fun a e => ?_⟩
   cases e
   exact ⟨o, I.kIn _ o hk, hd⟩
  ·have z : ∃ o, s.heap.get? p = some o ∧ o.ExactDict := by
    rcases hk with ⟨kvs, hk⟩ | ⟨kvs, hk⟩
    ·obtain ⟨_, _, _, _, o, _, _, e, ex, _⟩ := I.hok p _ hk
     exact ⟨o, e, ex⟩
    ·obtain ⟨_, _, _, _, o, _, _, e, ex, _⟩ := I.hok p _ hk
     exact ⟨o, e, ex⟩
   obtain ⟨o, e, ex⟩ := z
   refine ⟨⟨o, e, ex.1⟩, fun a e2 => ?_⟩
   cases e2
   exact ⟨o, e, ex.2.1⟩
  ·obtain ⟨o, _, _, _, e, ex, _⟩ := I.hok p _ hk
   refine ⟨⟨o, e, ex.1⟩, fun a e2 => ?_⟩
   cases e2
   exact ⟨o, e, ex.2.1⟩
 | _ => exact False.elim ty
def tBM0 (K : PySem.W.Frag) (T : String) (r : V → List V → Hp → VK → Prop) (to : TE) : TE := fun σ H Q => to σ H fun x H1 => tyV K T x H1 ∧ r x [] H1 Q
def tBM (K : PySem.W.Frag) (T : String) (r : V → List V → Hp → VK → Prop) (to : TE) (t : TA) : TE := fun σ H Q => to σ H fun x H1 => tyV K T x H1 ∧ t σ H1 fun xs H2 => r x xs H2 Q
variable {o e : Expr} {es : List Expr} {to : TE} {t : TA} {name : Str} {apos cpos : Pos} {T id : String} {r : V → List V → Hp → VK → Prop}
theorem pe_bm0 (pa : PlainAttrs T) (slot : Slot T name id) (hty : typeOf (.builtin id) = pure (.type "method_descriptor")) (hm : MtR X id r) (ho : PE X o to)
  (hbase : attributeBase o name X.env (eval o X.env) = eval o X.env := by rfl) (hline : (apos.endLine == cpos.line) = true := by rfl) : PE X (.Call (.Attribute o name apos) [] [] cpos) (tBM0 X.K T r to) := by
 intro pins s σ H Q I h
 refine wpAny_Call_method0_late hbase hline (thn (ho pins s σ H _ I h) fun v s1 ⟨x, H1, I1, r1, ty, q1⟩ => ?_)
 obtain ⟨h1, h2⟩ := tyV_is I1 r1 ty
 exact ⟨T, id, pa, slot, hty, h1, h2, Calls.callWith_builtin rfl (PySem.evalArgs_none (hm pins s1 σ H1 x [] v [] Q I1 r1 .nil q1))⟩
theorem pe_bm (pa : PlainAttrs T) (slot : Slot T name id) (hty : typeOf (.builtin id) = pure (.type "method_descriptor")) (hm : MtR X id r) (ho : PE X o to) (ha : PA X (e :: es) t)
  (hbase : attributeBase o name X.env (eval o X.env) = eval o X.env := by rfl)
  (hfew : ((backTo cpos (starEach (e :: es) X.env)).all (fun x => !x.1) && (backToKw cpos (keywordEach [] X.env)).all (fun x => x.1.isSome)
   && decide ((e :: es).length + ([] : List Keyword).length + (if ([] : List Keyword).isEmpty then 0 else 1) < 30)) = true := by rfl)
  (hline : (apos.endLine == cpos.line) = true := by rfl) (hs : starEach (e :: es) X.env = (false, eval e X.env) :: starEach es X.env := by rfl) (hplain : (backTo cpos (starEach es X.env)).any (·.1) = false := by rfl) :
  PE X (.Call (.Attribute o name apos) (e :: es) [] cpos) (tBM X.K T r to t) := by
 intro pins s σ H Q I h
 refine wpAny_Call_method_late hbase hfew hline rfl (thn (ho pins s σ H _ I h) fun v s1 ⟨x, H1, I1, r1, ty, q1⟩ => ?_)
 obtain ⟨h1, h2⟩ := tyV_is I1 r1 ty
 refine ⟨T, id, pa, slot, hty, h1, h2, ?_⟩
 have hA := ha cpos pins s1 σ H1 _ I1 q1
 rw [hs] at hA ⊢
 refine Calls.callWith_builtin (by show (false || (backTo cpos (starEach es X.env)).any (·.1)) = false; rw [hplain] <;> rfl) (Calls.evalArgs_plain ?_)
 exact thn hA fun us s2 ⟨vs, H2, I2, r2, q2⟩ => hm pins s2 σ H2 x vs v us Q I2 r1 r2 q2
end
end L2
namespace L2
open PySem PySem.Spec PyProof.Rows
def MtM (X : Cx) (id : String) (r : V → List V → Hp → VK → Prop) : Prop :=
 ∀ (pins : List (Addr × Obj)) (s : Shared) (σ : St) (H : Hp) (x : V) (xs : List V) (v : Value) (us : List Value) (Q : VK), Inv X pins σ H s → RelV x v → Vals xs us → r x xs H Q →
  wpAny (model X.prog X.w) X.A (call (.builtin id) (v :: us)) (EP X pins σ Q) X.xe s
theorem Vals.one : ∀ {x : V} {us : List Value}, Vals [x] us → ∃ u, us = [u] ∧ RelV x u
 | _, _, .cons r .nil => ⟨_, rfl, r⟩
theorem Vals.zero : ∀ {us : List Value}, Vals [] us → us = []
 | _, .nil => rfl
theorem Vals.eraseIdx : ∀ {xs : List V} {us : List Value} (i : Nat), Vals xs us → Vals (xs.eraseIdx i) (us.eraseIdx i)
 | _, _, _, .nil => .nil
 | _, _, 0, .cons _ t => t
 | _, _, i + 1, .cons r t => .cons r (Vals.eraseIdx i t)
theorem Vals.reverse {xs : List V} {us : List Value} (h : Vals xs us) : Vals xs.reverse us.reverse := by
 induction h with
 | nil => exact .nil
 | cons r t ih => rw [List.reverse_cons, List.reverse_cons]; exact Vals.append ih (.cons r .nil)
theorem len_erase {α : Type} : ∀ (l : List α) (i : Nat), (l.eraseIdx i).length ≤ l.length
 | [], _ => Nat.le_refl _
 | _ :: _, 0 => Nat.le_succ _
 | _ :: r, i + 1 => Nat.succ_le_succ (len_erase r i)
section
variable {X : Cx} {pins : List (Addr × Obj)} {σ : St} {H : Hp} {s : Shared} {l b : Addr} {xs ys zs : List V}
theorem Inv.lset {its its' : List Value} {n : Nat} {f : Array Value → Array Value} {t' : Nat} (I : Inv X pins σ H s) (hH : H l = some (.lst xs))
  (e : s.heap.get? l = some { cls := .type "list", data := .seq its.toArray n }) (hf : f its.toArray = its'.toArray) (hv : Vals ys its') (hz : ys.length ≤ sizeLine) :
  Inv X pins σ (upd H l (.lst ys)) { s with heap := s.heap.update l (Obj.mapSeq f), toks := t' } := by
 have q := PySem.IsL.update e f
 rw [hf] at q
 refine I.write (x := l) (e := l) (by rw [hH]; exact trivial) (.inl rfl) (fun b' u hb hu => (Heap.get?_update_other s.heap (Obj.mapSeq f) (Ne.symm hb)).trans hu) ⟨_, q⟩ ?_
 exact ⟨hz, its', _, hv, q⟩
theorem Inv.lnew {its : List Value} {t' : Nat} (I : Inv X pins σ H s) (hv : Vals ys its) (hz : ys.length ≤ sizeLine) :
  Inv X pins σ (upd H s.heap.objs.size (.lst ys)) { s with heap := s.heap.push { cls := .type "list", data := .seq its.toArray }, toks := t' } :=
 I.laid (fun _ _ q => Heap.get?_push_of_some _ q) (Nat.le_refl _) ⟨hz, its, 0, hv, Heap.get?_push_size _ rfl⟩
theorem Inv.fresh (I : Inv X pins σ H s) : H s.heap.objs.size = none := I.hok.fresh (Nat.le_refl _)
theorem Inv.lstM (I : Inv X pins σ H s) (hH : H l = some (.lst xs)) : xs.length ≤ sizeLine ∧ ∃ (its : List Value) (n : Nat), Vals xs its ∧ xs.length = its.length ∧ s.heap.get? l = some { cls := .type "list", data := .seq its.toArray n } := by
 obtain ⟨z, its, n, r, e⟩ := I.hok l _ hH
 exact ⟨z, its, n, r, r.length, e⟩
theorem notLongL {n : Nat} (h : n ≤ sizeLine) : Builtin.List.listTooLong n = false := by
 unfold Builtin.List.listTooLong
 exact decide_eq_false (by omega)
end
section
variable {X : Cx}
def rAppend : V → List V → Hp → VK → Prop := fun x vs H Q => ∃ l xs y, x = .ref l ∧ vs = [y] ∧ H l = some (.lst xs) ∧ xs.length < sizeLine ∧ Q .non (upd H l (.lst (xs ++ [y])))
theorem mt_append : MtM X "list.append" rAppend := by
 intro pins s σ H x vs v us Q I rx rv h
 obtain ⟨l, xs, y, rfl, rfl, hH, hz, q⟩ := h
 cases rx
 obtain ⟨u, rfl, ru⟩ := rv.one
 obtain ⟨z, its, n, r, hl, e⟩ := I.lstM hH
 refine call_meets F.slot_list_append ⟨_, e, rfl⟩ F.entry_list_append (F.args_list_append_2 _ _) (PySem.list_append l its.toArray n u (by rw [List.size_toArray]; omega)) ⟨e, ?_⟩
 refine ⟨.non, _, I.lset (its' := its ++ [u]) hH e (by simp) (r.append (.cons ru .nil)) ?_, rfl, q⟩
 rw [List.length_append, List.length_singleton]
 omega
def rExtend : V → List V → Hp → VK → Prop := fun x vs H Q => ∃ l b xs zs, x = .ref l ∧ vs = [.ref b] ∧ H l = some (.lst xs) ∧ H b = some (.lst zs) ∧ xs.length + zs.length ≤ sizeLine ∧ Q .non (upd H l (.lst (xs ++ zs)))
theorem mt_extend : MtM X "list.extend" rExtend := by
 intro pins s σ H x vs v us Q I rx rv h
 obtain ⟨l, b, xs, zs, rfl, rfl, hH, hB, hz, q⟩ := h
 cases rx
 obtain ⟨u, rfl, ru⟩ := rv.one
 cases ru
 obtain ⟨z, its, n, r, hl, e⟩ := I.lstM hH
 obtain ⟨z2, its2, n2, r2, hl2, e2⟩ := I.lstM hB
 have hsz : its.toArray.size + its2.toArray.size ≤ sizeLine := by rw [List.size_toArray, List.size_toArray]; omega
 have hlong : ¬ (!its.toArray.isEmpty && Builtin.List.listTooLong (its.toArray.size + its2.toArray.size)) = true := by
  rw [notLongL hsz, Bool.and_false]
  exact Bool.false_ne_true
 refine call_meets F.slot_list_extend ⟨_, e, rfl⟩ F.entry_list_extend (F.args_list_extend_2 _ _)
  (AutoSeq1.list_extend_list_list_0 l its.toArray n b its2.toArray n2 hlong (by rw [List.size_toArray]; omega) (by omega)) ⟨e, e2, ?_⟩
 refine ⟨.non, _, I.lset (its' := its ++ its2) hH e (by simp) (r.append r2) ?_, rfl, q⟩
 rw [List.length_append]
 omega
def rPopAt : V → List V → Hp → VK → Prop := fun x vs H Q => ∃ l xs i k y, x = .ref l ∧ vs = [.int i] ∧ H l = some (.lst xs) ∧ -(2 ^ 63) ≤ i ∧ i < 2 ^ 63 ∧ seqIndex? i xs.length = some k ∧ xs[k]? = some y ∧ Q y (upd H l (.lst (xs.eraseIdx k)))
theorem mt_popAt : MtM X "list.pop" rPopAt := by
 intro pins s σ H x vs v us Q I rx rv h
 obtain ⟨l, xs, i, k, y, rfl, rfl, hH, h1, h2, hk, hy, q⟩ := h
 cases rx
 obtain ⟨u, rfl, ru⟩ := rv.one
 obtain ⟨t, rfl⟩ := ru
 obtain ⟨z, its, n, r, hl, e⟩ := I.lstM hH
 obtain ⟨w, hw, rw'⟩ := r.get hy
 refine call_meets F.slot_list_pop ⟨_, e, rfl⟩ F.entry_list_pop (F.args_list_pop_2 _ _)
  (MeetsSeq.list_pop_at l its.toArray n i t k w (fitsIndex_both h1 h2) (by rw [List.size_toArray, ← hl]; exact hk) (by rw [← Array.getElem?_toList]; exact hw) (by rw [List.size_toArray]; omega)) ⟨e, ?_⟩
 refine ⟨y, _, I.lset (its' := its.eraseIdx k) hH e ?_ (r.eraseIdx k) ?_, rw', q⟩
 ·show its.toArray.eraseIdxIfInBounds k = (its.eraseIdx k).toArray
  rw [List.eraseIdxIfInBounds_toArray]
 ·have := len_erase xs k
  omega
def rReverse : V → List V → Hp → VK → Prop := fun x vs H Q => ∃ l xs, x = .ref l ∧ vs = [] ∧ H l = some (.lst xs) ∧ Q .non (upd H l (.lst xs.reverse))
theorem mt_reverse : MtM X "list.reverse" rReverse := by
 intro pins s σ H x vs v us Q I rx rv h
 obtain ⟨l, xs, rfl, rfl, hH, q⟩ := h
 cases rx
 have hus := rv.zero
 subst hus
 obtain ⟨z, its, n, r, hl, e⟩ := I.lstM hH
 refine call_meets F.slot_list_reverse ⟨_, e, rfl⟩ F.entry_list_reverse (F.args_list_reverse_1 _) (AutoSeq1.list_reverse_list_0 l its.toArray n (by rw [List.size_toArray]; omega)) ⟨e, ?_⟩
 refine ⟨.non, _, I.lset (its' := its.reverse) hH e (by simp) r.reverse ?_, rfl, q⟩
 rw [List.length_reverse]
 omega
def rCat : R2 := fun x y H Q => ∃ l b xs zs, x = .ref l ∧ y = .ref b ∧ H l = some (.lst xs) ∧ H b = some (.lst zs) ∧ xs.length + zs.length ≤ sizeLine ∧ ∀ p, H p = none → Q (.ref p) (upd H p (.lst (xs ++ zs)))
theorem op_cat : OpR X (binaryOp .Add) rCat := by
 intro pins s σ H x y v u Q I rx ry h
 obtain ⟨l, b, xs, zs, rfl, rfl, hH, hB, hz, q⟩ := h
 cases rx
 cases ry
 obtain ⟨z, its, n, r, hl, e⟩ := I.lstM hH
 obtain ⟨z2, its2, n2, r2, hl2, e2⟩ := I.lstM hB
 refine PySem.P.add_list e e2 ?_ (by rw [List.size_toArray, List.size_toArray]; omega)
 have ea : its.toArray ++ its2.toArray = (its ++ its2).toArray := by simp
 rw [ea]
 exact ⟨.ref _, _, I.lnew (t' := s.toks) (r.append r2) (by rw [List.length_append]; omega), rfl, q _ I.fresh⟩
end
section
variable {prog : Program} {w : World} {A : Around} {E : Value → Shared → Prop} {s : Shared}
set_option maxRecDepth 100000 in
end
section
variable {X : Cx}
end
end L2
namespace Att
open PySem PySem.W PySem.Calls PyProof.Rows
theorem ints_of_wellAll {P : Params} {h : Heap} : ∀ (ns : List Int) (vs : List Value), WellAll P h vs (ns.map WData.int) → IntsAre vs ns := by
 intro ns
 induction ns with
 | nil =>
  intro vs w
  rw [List.map_nil] at w
  cases w
  exact .nil
 | cons n ns ih =>
  intro vs w
  rw [List.map_cons] at w
  cases w with
  | cons a b =>
   cases a
   exact .cons _ _ (ih _ b)
theorem script_of {l : OpenLaw} {n : Nat} (hn : l.most = some n) {P : Params} {h : Heap} {args : List WData} {vals : List Value}
  (hpre : l.row.toRowW.claim.pre args = true) (hwl : WellAll P h vals args) :
  ∃ a vs ns, vals = [Value.ref a] ∧ args = [WData.list (ns.map WData.int)] ∧ h.get? a = some { cls := .type "list", data := .seq vs.toArray } ∧ IntsAre vs ns ∧ ns.length ≤ n := by
 have hsh : WShape.hasAll [] args [.list .int] = true := (pre_splitW hpre).1
 have hc : l.pre.holds [] { args := args } = true := (pre_splitW hpre).2
 obtain ⟨d, r, rfl, h1, h2⟩ := hasAllW_cons hsh
 obtain rfl := hasAllW_nil h2
 obtain ⟨xs, rfl, h3⟩ := hasW_list h1
 obtain ⟨ns, rfl⟩ := items_int h3
 have hlen : ns.length ≤ n := by
  unfold OpenLaw.pre at hc
  have h4 : (WTm.not (.lt (.lit (.int (n : Int))) (.len (.arg 0)))).holds [] { args := [.list (ns.map .int)] } = true := by
   have h4 := (holds_andW hc).1
   rw [hn] at h4
   exact h4
  have h5 := condW_of h4 (w_not (w_lt w_lit (w_len_list (w_arg rfl))))
  rw [List.length_map] at h5
  refine Nat.le_of_not_lt fun q => ?_
  have q' : (n : Int) < ((ns.length : Nat) : Int) := by omega
  first
   | (rw [decide_eq_true q'] at h5; exact absurd h5 (by decide))
   | (simp at h5; omega)
 cases hwl with
 | cons w1 w2 =>
  cases w2
  cases w1 with
  | list ho hall => exact ⟨_, _, ns, rfl, rfl, ho, ints_of_wellAll ns _ hall, hlen⟩
theorem post_true (l : OpenLaw) (args : List WData) : l.row.toRowW.claim.post args (.bool true) args = true :=
 postW_of (r := l.row.toRowW) (X := (true == true))
  (show WShape.has [] (.bool true) .bool = true by first | rfl | decide | simp [WShape.has, WShape.arms, WShape.armsAll])
  (show (WTm.eq .res (.lit (.bool true))).value [] { args := args, res := some (.bool true), after := args } = some (.bool (true == true)) from w_eq_bool (w_res rfl) w_lit) rfl
theorem attach_call {l : OpenLaw} {n : Nat} {q : Program} {loose : List Str} {XP : (Str → Option Value) → Heap → Prop} {YP : World → Heap → Prop} {d : DefRec}
  (hn : l.most = some n) (hdf : d.params.defaults = [])
  (call : ∀ (w : World) (s₀ s₁ : Shared) (mg mb : Str → Option Value) (fa : Addr) (o : Obj) (pm cd doc : Value) (a : Addr) (vs : List Value) (ns : List Int),
   Ground q loose [] XP w s₀ mg mb s₁.heap → YP w s₁.heap →
   s₁.heap.get? fa = some o → o.data = .func (docDef d.name d.params d.body d.scope pm cd doc) → s₁.heap.CodeRec cd d.name → mg d.name = some (.ref fa) →
   s₁.heap.get? a = some { cls := .type "list", data := .seq vs.toArray } → IntsAre vs ns → ns.length ≤ n → s₁.gens = #[] →
   codeAny (model l.prog w) callerA (.call (.ref fa) ⟨[.ref a], []⟩) (fun r s' => r = .ok (.ret (.bool true)) ∧ OldK s₁.heap s'.heap ∧ s'.os = s₁.os ∧ AllBare s'.gens) s₁) :
  WalkO q loose XP YP l.row.toRowW d [] (fun f vs => PySem.call f vs) := by
 intro w s₀ s₁ mg mb G Y fa o pm cd doc dV kV ho hd hcd hD hmg hg args vals as hpre hlay hrd hwl hlo
 obtain rfl : dV = .none := Dflts.none hD hdf
 obtain rfl : kV = .none := Dflts.noKw hD
 obtain ⟨a, vs, ns, rfl, rfl, hobj, hints, hlen⟩ := script_of hn hpre hwl
 refine enter_call (codeAny_mono (call w s₀ s₁ mg mb fa o pm cd doc a vs ns G Y ho (fd_plain hd) hcd hmg hobj hints hlen hg) fun r s' hq => ?_)
 obtain ⟨rfl, h2, h3, h4⟩ := hq
 exact ⟨.inl ⟨.bool true, .bool true, [], rfl, fun _ => rfl, .bool true, post_true l _, fun _ => ⟨List.Pairwise.nil, fun _ hm => (nomatch hm)⟩⟩, h2, h3, h4⟩
section
variable {prog : Program} {w : World} {A : Around} {E : Value → Shared → Prop} {s : Shared} {K : Frag}
end
end Att
namespace L2
open PySem PySem.Spec PyProof.Rows
theorem vals_ints : ∀ {vs : List Value} {ns : List Int}, IntsAre vs ns → Vals (ns.map V.int) vs
 | _, _, .nil => .nil
 | _, _, .cons n t h => .cons ⟨t, rfl⟩ (vals_ints h)
def Only (H : Hp) : Prop := ∀ b, H b = none ∨ ∃ o xs, H b = some (.frz o (.lst xs))
theorem law_call {P : Program} {w : World} {K : PySem.W.Frag} {mg mb : Str → Option Value} {CX : CXT} {k : Nat} {fa a : Addr} {fd : FuncData} {x : Str} {sp : Sp} {s₁ : Shared} {vs : List Value} {ns : List Int}
  (KX : K.In s₁.heap) (hns : s₁.heap.Ns mainGlobals mg) (hb : s₁.heap.Ns builtinsNs mb) (hbb : ∀ x : Str, x ≠ "__name__" → mb x = bootBuiltins x) (hlim : s₁.heap.NoLimit) (hg : s₁.gens = #[])
  (ha : s₁.heap.get? a = some { cls := .type "list", data := .seq vs.toArray }) (hi : IntsAre vs ns) (hl : ns.length ≤ sizeLine) (hr : Room k callerA)
  (F : ∀ base : Heap, K.In base → base.Ns mainGlobals mg → FnOk P w K mg base CX k fa fd [x] sp) (hbind : ∀ (s : Shared) (u : Value), BindsTo s fd ⟨[u], []⟩ [(x, u)])
  (hsp : ∀ H : Hp, Only H → SqL K H a (ns.map V.int) → sp [.ref a] H (fun v _ => v = .bl true) fun _ _ _ => False)
  (hCX : ∀ H e s', CX [] H s₁ (fun _ _ _ => False) e s' → False) :
  codeAny (model P w) callerA (.call (.ref fa) ⟨[.ref a], []⟩) (fun r s' => r = .ok (.ret (.bool true)) ∧ OldK s₁.heap s'.heap ∧ s'.os = s₁.os ∧ AllBare s'.gens) s₁ := by
 have rv := vals_ints hi
 have lenV := hi.length
 have core : ∀ H : Hp, Only H → SqL K H a (ns.map V.int) → HOk P w H s₁.heap → (∀ b, H b ≠ none → b = a) → (H a ≠ none → K.lookup a = none) →
   codeAny (model P w) callerA (.call (.ref fa) ⟨[.ref a], []⟩) (fun r s' => r = .ok (.ret (.bool true)) ∧ OldK s₁.heap s'.heap ∧ s'.os = s₁.os ∧ AllBare s'.gens) s₁ := by
  intro H hO hS hok hA hK
  have base_of : ∀ {b : Addr} {o : Obj}, s₁.heap.get? b = some o → H b = none → (hidT s₁.heap H).get? b = some o := fun e n => hidT_get e n
  have noA : ∀ {b : Addr} {o : Obj} {es : Array DictEntry} {ep : Nat}, s₁.heap.get? b = some o → o.data = .dict es ep → H b = none := fun {b o es ep} e d => by
   cases q : H b with
   | none => rfl
   | some u =>
    have e' : b = a := hA b (by rw [q]; simp)
    subst e'
    rw [ha] at e; cases e
    have d' : Data.seq vs.toArray _ = Data.dict es ep := d
    cases d'
  have nsK : ∀ {b : Addr} {m : Str → Option Value}, s₁.heap.Ns b m → (hidT s₁.heap H).Ns b m := fun {b m} ⟨o, es, ep, e, d, r⟩ => ⟨o, es, ep, base_of e (noA e d), d, r⟩
  have hKb : K.In (hidT s₁.heap H) := fun b o e => base_of (KX b o e) (by
   cases q : H b with
   | none => rfl
   | some u =>
    have e' : b = a := hA b (by rw [q]; simp)
    subst e'
    rw [hK (by rw [q]; simp)] at e; cases e)
  have hM : Mod K mg (hidT s₁.heap H) := ⟨hKb, nsK hns, ⟨mb, nsK hb, hbb⟩, let ⟨mc, h1, h2⟩ := hlim; ⟨mc, nsK h1, h2⟩⟩
  have e0 : Env0 P w K mg (hidT s₁.heap H) callerA [] s₁ H := ⟨rfl, hM, fun b o e => of_hidT e, Nat.le_of_eq (hidT_size _ _), trivial, fun b hb => absurd (show b ∈ ([] : List Addr) from hb) (by simp), hok, .of_eq hg⟩
  refine codeAny_mono ((F _ hKb (nsK hns)).run callerA [] s₁ H ⟨[.ref a], []⟩ [.ref a] [.ref a] _ _ hr e0 (hbind s₁ (.ref a)) (.cons rfl .nil) (hsp H hO hS)) fun r s' h => ?_
  cases r with
  | error e => exact (hCX H e s' h).elim
  | ok fl =>
   cases fl with
   | next => exact False.elim h
   | brk => exact False.elim h
   | cont => exact False.elim h
   | ret u =>
    obtain ⟨v, H', os, bare, un, hok', r', q⟩ := h
    have q' : v = .bl true := q
    subst q'
    obtain rfl : u = Value.bool true := r'
    refine ⟨rfl, OldK.of_keep fun b o e => ?_, os, bare⟩
    cases q : H b with
    | none => exact un.keep b o e q (by intro z; exact absurd (show b ∈ ([] : List Addr) from z) (by simp)) (by simp)
    | some u =>
     rcases hO b with z | ⟨ob, xs, z⟩
     ·rw [q] at z; cases z
     ·have z2 := un.frzs b ob _ z
      obtain ⟨e1, _⟩ := hok b _ z
      obtain ⟨e2, _⟩ := hok' b _ z2
      rw [e] at e1; cases e1
      exact e2
 cases hk : K.lookup a with
 | some o =>
  have e := KX a o hk
  rw [ha] at e
  cases e
  refine core (fun _ => none) (fun _ => .inl rfl) (.inr ⟨_, vs.toArray, _, hk, rfl, rfl, rfl, by rw [List.size_toArray, lenV]; exact hl, by simpa using rv⟩) (fun b u z => by have z' : (none : Option HO) = some u := z; cases z') (fun b z => absurd rfl z) fun z => absurd rfl z
 | none =>
  refine core (fun b => if b = a then some (.frz { cls := .type "list", data := .seq vs.toArray } (.lst (ns.map V.int))) else none) (fun b => ?_) (.inl (.inr ⟨{ cls := .type "list", data := .seq vs.toArray }, if_pos rfl⟩)) (fun b u z => ?_) (fun b z => ?_) fun _ => hk
  ·by_cases hb : b = a
   ·exact .inr ⟨_, _, if_pos hb⟩
   ·exact .inl (if_neg hb)
  ·by_cases hb : b = a
   ·have z' := (if_pos hb).symm.trans z
    cases z'
    subst hb
    exact ⟨ha, by rw [List.length_map]; exact hl, vs, _, rv, ha⟩
   ·have z' := (if_neg hb).symm.trans z
    cases z'
  ·by_cases hb : b = a
   ·exact hb
   ·exact absurd (if_neg hb) z
end L2
namespace L2
open PySem PySem.Spec PyProof.Rows
theorem walk_of {l : PySem.W.OpenLaw} {n k : Nat} {q : Program} {loose : List Str} {XP : (Str → Option Value) → Heap → Prop} {YP : World → Heap → Prop} {d : DefRec} {K : Params → PySem.W.Frag} {CX : World → CXT} {sp : World → Sp} {x : Str}
  (hn : l.most = some n) (hn2 : n ≤ sizeLine) (hdf : d.params.defaults = []) (hr : Room k callerA)
  (hY : ∀ (w : World) (h : Heap), YP w h → (K w.params).In h)
  (F : ∀ (w : World) (mg : Str → Option Value) (fa : Addr) (h : Heap), (K w.params).In h → h.Ns mainGlobals mg → mg d.name = some (.ref fa) →
   ∃ fd : FuncData, (∀ (s : Shared) (u : Value), BindsTo s fd ⟨[u], []⟩ [(x, u)]) ∧
    ∀ base : Heap, (K w.params).In base → base.Ns mainGlobals mg → FnOk l.prog w (K w.params) mg base (CX w) k fa fd [x] (sp w))
  (hsp : ∀ (w : World) (H : Hp) (a : Addr) (ns : List Int), ns.length ≤ n → Only H → SqL (K w.params) H a (ns.map V.int) → sp w [.ref a] H (fun v _ => v = .bl true) fun _ _ _ => False)
  (hCX : ∀ (w : World) (H : Hp) (s : Shared) (e : Value) (s' : Shared), CX w [] H s (fun _ _ _ => False) e s' → False) :
  PySem.W.WalkO q loose XP YP l.row.toRowW d [] (fun f vs => PySem.call f vs) := by
 refine Att.attach_call hn hdf fun w s₀ s₁ mg mb fa o pm cd doc a vs ns G Y ho hd hcd hmg hobj hints hlen hg => ?_
 have KX := hY w _ Y
 obtain ⟨fd, hb, hF⟩ := F w mg fa _ KX G.T.g hmg
 exact law_call KX G.T.g G.T.b G.T.builtins G.T.nolimit hg hobj hints (Nat.le_trans hlen hn2) hr hF hb (fun H hO hS => hsp w H a ns hlen hO hS) fun H e s' => hCX w H s₁ e s'
end L2
namespace L2
open PySem PySem.Spec PyProof.Rows
def inClass (s : Stmt) (j : Nat) : Stmt := match s with
 | .ClassDef _ _ _ body _ _ _ _ _ _ _ => body.getD j (.Pass ⟨0, 0, 0, 0⟩)
 | _ => .Pass ⟨0, 0, 0, 0⟩
def defArgs (s : Stmt) : Arguments := match s with
 | .FunctionDef _ a _ _ _ _ _ _ _ _ => a
 | _ => { posonlyargs := [], args := [], vararg := none, kwonlyargs := [], kw_defaults := [], kwarg := none, defaults := [] }
def defBody (s : Stmt) : List Stmt := match s with
 | .FunctionDef _ _ b _ _ _ _ _ _ _ => b
 | _ => []
def defScope (s : Stmt) : Scope := match s with
 | .FunctionDef _ _ _ _ _ _ sc _ _ _ => sc
 | _ => { kind := .function, names := [], isGenerator := false, isCoroutine := false }
abbrev CX0 : CXT := fun _ _ _ _ _ _ => False
abbrev E0 : XK := fun _ _ _ => False
theorem pass0 {X : Cx} : Passes CX0 X E0 := fun _ _ _ _ _ _ _ h => h.elim
structure Fun (K : PySem.W.Frag) (x qual : Str) (st : Stmt) (f : Addr) (fd : FuncData) : Prop where
 ex : ∃ (oc : Value) (od : Option Addr) (kV doc pm : Value) (an : Option Addr) (cdv ct : Value) (osl : Array (Option Value)),
  fd = PySem.W.fnOf x qual (defArgs st) (defBody st) (defScope st) .none kV doc pm an cdv ct ∧ K.lookup f = some ⟨oc, od, .func fd, osl⟩ ∧ PySem.W.codeIn K cdv qual = true
 kp : PySem.W.keepIn K (.ref f) = true
section
variable {P : Program} {w : World} {K : PySem.W.Frag} {mg : Str → Option Value} {base : Heap}
theorem Fun.ok {x qual : Str} {st : Stmt} {f : Addr} {fd : FuncData} {N ps : List Str} {k : Nat} {sp : Sp} (F : Fun K x qual st f fd) (S : FnScope N ps (defScope st)) (len : ∀ vs H Q E, sp vs H Q E → vs.length = ps.length)
  (hbody : ∀ (cdv : Value) (A : Around) (outer : List Env) (s : Shared) (H : Hp) (vs : List V) (Q : VK) (E : XK), Room k (A.deeper (envOfC qual (defScope st) s.heap.objs.size f cdv)) → sp vs H Q E →
   ∃ t, PSs (cxOf CX0 P w K mg base N qual (defScope st) f cdv A outer s H E).nox (defBody st) t ∧ t { nx := fun _ H' => Q .non H', rt := Q } (start N vs) H) : FnOk P w K mg base CX0 (k + 1) f fd ps sp := by
 obtain ⟨oc, od, kV, doc, pm, an, cdv, ct, osl, rfl, lk, hcd⟩ := F.ex
 refine fn_of lk hcd S len fun A outer s H vs Q E hr hsp => ?_
 obtain ⟨t, h, q⟩ := hbody cdv A outer s H vs Q E hr hsp
 exact ⟨t, h.nox, q⟩
theorem Fun.binds {x qual : Str} {st : Stmt} {f : Addr} {fd : FuncData} {ps : List Str} (F : Fun K x qual st f fd)
  (h : ∀ (kV doc pm : Value) (an : Option Addr) (cdv ct : Value) (us : List Value), us.length = ps.length → bindArgs (PySem.W.fnOf x qual (defArgs st) (defBody st) (defScope st) .none kV doc pm an cdv ct) ⟨us, []⟩ = pure (ps.zip us)) : Binds K fd ps [] := by
 obtain ⟨oc, od, kV, doc, pm, an, cdv, ct, osl, rfl, lk, hcd⟩ := F.ex
 exact .all (h kV doc pm an cdv ct)
theorem fun_mk {x qual : Str} {st : Stmt} {f : Addr} {oc : Value} {od an : Option Addr} {osl : Array (Option Value)} {kV doc pm cdv ct : Value} (l : K.lookup f = some ⟨oc, od, .func (PySem.W.fnOf x qual (defArgs st) (defBody st) (defScope st) .none kV doc pm an cdv ct), osl⟩)
  (c : PySem.W.codeIn K cdv qual = true) (k : PySem.W.keepIn K (.ref f) = true) : Fun K x qual st f (PySem.W.fnOf x qual (defArgs st) (defBody st) (defScope st) .none kV doc pm an cdv ct) := ⟨⟨oc, od, kV, doc, pm, an, cdv, ct, osl, rfl, l, c⟩, k⟩
end
theorem hu_of {A : Around} {k : Nat} (hr : Room k A) : A.units + 1 < cLine := Nat.lt_of_le_of_lt (Nat.add_le_add_left (by decide : 1 ≤ 64) _) hr.units
theorem small1000 {n : Nat} (h : n ≤ 1000) : n < sizeLine := Nat.lt_of_le_of_lt h (by decide)
section
variable {X : Cx}
theorem pv (i : Nat) {x : Str} {pos : Pos} (hN : X.N[i]? = some x := by rfl) (hv : Vis X.env.scope x := by first | exact Or.inl rfl | exact Or.inr (Or.inl rfl) | exact Or.inr (Or.inr rfl)) (hd : (x == ("__debug__" : Str)) = false := by decide)
  (hcd : (x == ("__classdict__" : Str)) = false := by decide) : PE X (.Name x pos) (tVar i) := pe_var hN hv hd hcd
theorem call_lenD : CallR X (.builtin "len") (fun xs H Q => ∃ a kvs, xs = [V.ref a] ∧ H a = some (.dK kvs) ∧ Q (.int kvs.length) H) := by
 intro pins s σ H xs us Q I r h
 obtain ⟨a, kvs, rfl, ha, q⟩ := h
 obtain ⟨u, rfl, ru⟩ := vals1 r
 cases ru
 exact d_len I (.inl ha) fun t s' I' => ⟨.int kvs.length, H, I', ⟨t, rfl⟩, q⟩
end
theorem iteF {A B : Prop} (h : B) : if false = true then A else B := by
 rw [if_neg Bool.false_ne_true]
 exact h
theorem iteT {A B : Prop} (h : A) : if true = true then A else B := by
 rw [if_pos rfl]
 exact h
theorem ite2 {c A B : Prop} [Decidable c] (h1 : c → A) (h2 : ¬ c → B) : if c then A else B := by
 by_cases h : c
 ·rw [if_pos h]
  exact h1 h
 ·rw [if_neg h]
  exact h2 h
def Same (H H' : Hp) : Prop := ∀ b o, H b = some o → H' b = some o
theorem Same.refl (H : Hp) : Same H H := fun _ _ h => h
theorem Same.trans {H H1 H2 : Hp} (a : Same H H1) (b : Same H1 H2) : Same H H2 := fun c o h => b c o (a c o h)
theorem Same.free {H H' : Hp} (e : Same H H') {l : Addr} (h : H' l = Option.none) : H l = Option.none := by
 cases q : H l with
 | none => rfl
 | some o =>
  rw [e l o q] at h
  cases h
theorem Same.seq {K : PySem.W.Frag} {H H' : Hp} {a : Addr} {xs : List V} (e : Same H H') (h : SqL K H a xs) : SqL K H' a xs := by
 rcases h with (h | ⟨o, h⟩) | h
 ·exact .inl (.inl (e _ _ h))
 ·exact .inl (.inr ⟨o, e _ _ h⟩)
 ·exact .inr h
section
variable {κ : Type} [DecidableEq κ]
theorem valV_not {kvs : List (κ × V)} {k : κ} (h : valV kvs k = none) : ¬ k ∈ kvs.map (·.1) := by
 intro m
 obtain ⟨p, hp, e⟩ := List.mem_map.mp m
 have q : (kvs.any fun kv => decide (kv.1 = k)) = true := List.any_eq_true.mpr ⟨p, hp, decide_eq_true e⟩
 rw [valV_any, h] at q
 exact absurd q (by simp)
theorem valV_in {kvs : List (κ × V)} {k : κ} {v : V} (h : valV kvs k = some v) : k ∈ kvs.map (·.1) := by
 have q : (kvs.any fun kv => decide (kv.1 = k)) = true := by
  rw [valV_any, h]
  all_goals rfl
 obtain ⟨p, hp, e⟩ := List.any_eq_true.mp q
 exact List.mem_map.mpr ⟨p, hp, of_decide_eq_true e⟩
theorem nd_snoc : ∀ {l : List κ} {k : κ}, l.Nodup → ¬ k ∈ l → (l ++ [k]).Nodup
 | [], k, _, _ => by simp
 | a :: r, k, h, hk => by
  obtain ⟨h1, h2⟩ := List.nodup_cons.mp h
  show (a :: (r ++ [k])).Nodup
  refine List.nodup_cons.mpr ⟨fun m => ?_, nd_snoc h2 fun m => hk (List.mem_cons.mpr (Or.inr m))⟩
  rcases List.mem_append.mp m with q | q
  ·exact h1 q
  ·exact hk (List.mem_cons.mpr (Or.inl (List.mem_singleton.mp q).symm))
end
end L2
set_option maxHeartbeats 4000000
namespace L2
open PySem PySem.Spec PyProof.Rows
section
variable {prog : Program} {w : World} {A : Around} {R : Result → Shared → Prop} {s : Shared}
theorem compLoop_go {elt target iter : Expr} {ifs : List Expr} {scope : Scope} {pos : Pos} {it acc : Value} {env : Env} (I : Nat → Shared → Prop)
  (turn : ∀ n s, I n s → wpAny (model prog w) A (pyNext it) (fun r s₁ => match r with
   | none => R (.ok .next) s₁
   | some v => wpAny (model prog w) A (letOwnedTupleGo target it v) (fun _ s₀ => wpAny (model prog w) A (assign target env v) (fun _ s₂ =>
     wpAny (model prog w) A (forIn ifs true fun c r => if r = true then do let ok ← isTrue c env (eval c env); pure (ForInStep.yield ok) else pure (ForInStep.yield r)) (fun ok s₃ =>
      if ok = true then wpAny (model prog w) A (eval elt env) (fun x s₄ =>
       wpAny (model prog w) A (call (.builtin "list.append") [acc, x]) (fun _ s₅ => ∃ m, m < n ∧ I m s₅) (fun _ _ => False) s₄) (fun _ _ => False) s₃
      else ∃ m, m < n ∧ I m s₃) (fun _ _ => False) s₂) (fun _ _ => False) s₀) (fun _ _ => False) s₁) (fun _ _ => False) s)
  (n : Nat) (h : I n s) :
  codeAny (model prog w) A (.compLoop (.ListComp elt [⟨target, iter, ifs, 0⟩] scope pos) 0 it acc env) R s := by
 refine codeAny_loop rfl I (fun n s hI => ?_) n h
 show wpAny _ A ((compTurn (.ListComp elt [⟨target, iter, ifs, 0⟩] scope pos) 0 it acc env).onRaise (fun x => do noteFrame x env; theTreesLotGoes x)) _ _ s
 refine wpAny_noted ?_
 rw [compTurn_list]
 refine wpAny_bind (wpAny_standAt (wpAny_bind (wpAny_mono (turn n s hI) (fun r s₁ h₁ => ?_) fun _ _ h' => h'.elim)))
 cases r with
 | none => exact wpAny_pure h₁
 | some v =>
  refine wpAny_bind (wpAny_mono h₁ (fun _ s₀ h₀ => ?_) fun _ _ h' => h'.elim)
  refine wpAny_bind (wpAny_mono h₀ (fun _ s₂ h₂ => wpAny_bind (wpAny_mono h₂ (fun ok s₃ h₃ => ?_) fun _ _ h' => h'.elim)) fun _ _ h' => h'.elim)
  cases ok with
  | false => exact wpAny_pure ⟨rfl, h₃⟩
  | true =>
   exact wpAny_bind (wpAny_bind (wpAny_mono h₃ (fun x s₄ h₄ => wpAny_bind (wpAny_mono h₄ (fun _ s₅ h₅ => wpAny_pure (wpAny_pure ⟨rfl, h₅⟩)) fun _ _ h' => h'.elim)) fun _ _ h' => h'.elim))
end
theorem closure_ok {scope : Scope} {env : Env} (hf : ∀ y ∈ scope.names, y.2 = .free → ∃ c, env.cells.lookup y.1 = some c) :
  ∃ cl, closureFor scope env = pure cl ∧ (∀ x c, cl.lookup x = some c → env.cells.lookup x = some c) ∧ (∀ y ∈ scope.names, y.2 = .free → ∃ c, cl.lookup y.1 = some c) := by
 have key : ∀ (l : List (Str × NameKind)) (acc : List (Str × Addr)), (∀ y ∈ l, y.2 = .free → ∃ c, env.cells.lookup y.1 = some c) → (∀ x c, acc.lookup x = some c → env.cells.lookup x = some c) →
   ∃ cl, (forIn (m := Sem) l acc (fun (y : Str × NameKind) cs => if (y.2 == .free) = true then do let c ← cellOf env y.1; pure (ForInStep.yield ((y.1, c) :: cs)) else pure (ForInStep.yield cs))) = pure cl ∧
    (∀ x c, cl.lookup x = some c → env.cells.lookup x = some c) ∧ (∀ x, (∃ c, acc.lookup x = some c) → ∃ c, cl.lookup x = some c) ∧ (∀ y ∈ l, y.2 = .free → ∃ c, cl.lookup y.1 = some c) := by
  intro l
  induction l with
  | nil => intro acc _ ha; exact ⟨acc, rfl, ha, fun _ h => h, fun _ h => nomatch h⟩
  | cons p r ih =>
   intro acc hl ha
   obtain ⟨n, k⟩ := p
   by_cases hk : k = .free
   ·subst hk
    obtain ⟨c, hc⟩ := hl (n, .free) List.mem_cons_self rfl
    have ha' : ∀ x d, ((n, c) :: acc).lookup x = some d → env.cells.lookup x = some d := fun x d e => by
     rw [List.lookup_cons] at e
     cases hx : x == n with
     | true =>
      rw [hx] at e
      rw [eq_of_beq hx, hc]
      exact e
     | false =>
      rw [hx] at e
      exact ha x d e
    obtain ⟨cl, e1, e2, e3, e4⟩ := ih ((n, c) :: acc) (fun y hy => hl y (List.mem_cons_of_mem _ hy)) ha'
    refine ⟨cl, ?_, e2, fun x ⟨d, e⟩ => e3 x ?_, fun y hy hf => ?_⟩
    ·rw [List.forIn_cons]
     simp only [beq_self_eq_true, if_true, cellOf, hc, pure_bind]
     exact e1
    ·rw [List.lookup_cons]
     cases hx : x == n with
     | true => exact ⟨c, rfl⟩
     | false => exact ⟨d, e⟩
    ·rcases List.mem_cons.mp hy with rfl | hy
     ·exact e3 _ ⟨c, by simp⟩
     ·exact e4 y hy hf
   ·have hb : (k == NameKind.free) = false := by simpa using hk
    obtain ⟨cl, e1, e2, e3, e4⟩ := ih acc (fun y hy => hl y (List.mem_cons_of_mem _ hy)) ha
    refine ⟨cl, ?_, e2, e3, fun y hy hf => ?_⟩
    ·rw [List.forIn_cons]
     simp only [hb, Bool.false_eq_true, if_false, pure_bind]
     exact e1
    ·rcases List.mem_cons.mp hy with rfl | hy
     ·exact absurd hf hk
     ·exact e4 y hy hf
 obtain ⟨cl, e1, e2, _, e4⟩ := key scope.names [] hf (fun _ _ h => by simp at h)
 refine ⟨cl, ?_, e2, e4⟩
 unfold closureFor
 show (forIn scope.names [] _ >>= fun r => pure r) = pure cl
 rw [bind_pure]
 exact e1
theorem relabel_kind {scope : Scope} {env : Env} {x : Str} : ∀ {names : List (Str × NameKind)},
    ((names.map fun (n, k) => if (k == NameKind.free && env.scope.kind == .function && env.kindOf n == some .cell) then (n, NameKind.cell) else (n, k)).lookup x = some .cell ∨
     (names.map fun (n, k) => if (k == NameKind.free && env.scope.kind == .function && env.kindOf n == some .cell) then (n, NameKind.cell) else (n, k)).lookup x = some .free) →
    (∃ y ∈ names, y.1 = x ∧ (y.2 = .free ∨ y.2 = .cell))
  | [], h => by rcases h with h | h <;> simp at h
  | (n, k) :: r, h => by
    by_cases hx : x = n
    · subst hx
      refine ⟨(x, k), List.mem_cons_self, rfl, ?_⟩
      by_cases hc : (k == NameKind.free && env.scope.kind == .function && env.kindOf x == some .cell) = true
      · have := (Bool.and_eq_true_iff.mp (Bool.and_eq_true_iff.mp hc).1).1
        exact .inl (by simpa using this)
      · simp only [List.map_cons, hc, Bool.false_eq_true, if_false, List.lookup_cons, beq_self_eq_true] at h
        rcases h with h | h
        · exact .inr (Option.some.inj h)
        · exact .inl (Option.some.inj h)
    · have hb : (x == n) = false := by simpa using hx
      have h' : ((r.map fun (n, k) => if (k == NameKind.free && env.scope.kind == .function && env.kindOf n == some .cell) then (n, NameKind.cell) else (n, k)).lookup x = some .cell ∨
        (r.map fun (n, k) => if (k == NameKind.free && env.scope.kind == .function && env.kindOf n == some .cell) then (n, NameKind.cell) else (n, k)).lookup x = some .free) := by
        rw [List.map_cons] at h
        by_cases hc : (k == NameKind.free && env.scope.kind == .function && env.kindOf n == some .cell) = true
        · simp only [hc, if_true, List.lookup_cons, hb] at h; exact h
        · simp only [hc, Bool.false_eq_true, if_false, List.lookup_cons, hb] at h; exact h
      obtain ⟨y, hy, e⟩ := relabel_kind (scope := scope) h'
      exact ⟨y, List.mem_cons_of_mem _ hy, e⟩
def capOf (σ : St) (js : List Nat) : St := js.map fun j => (σ[j]?).getD none
def cxComp (X : Cx) (N : List Str) (scope : Scope) (cl : List (Str × Addr)) (s : Shared) (H : Hp) (ex : List Addr) : Cx :=
 { X with N := N, s₀ := s, H₀ := H, env := compEnvC scope cl s.heap.objs.size X.env, outer := X.stack, stack := X.stack, ex := ex, fn := fun _ => false, pn := [], xe := fun _ _ => False }
def PTs (X : Cx) (ifs : List Expr) (t : TT) : Prop :=
 ∀ (pins : List (Addr × Obj)) (s : Shared) (σ : St) (H : Hp) (Q : Bool → Hp → Prop), Inv X pins σ H s → t σ H Q →
  wpAny (model X.prog X.w) X.A (forIn ifs true fun c r => if r = true then do let ok ← isTrue c X.env (eval c X.env); pure (ForInStep.yield ok) else pure (ForInStep.yield r)) (TP X pins σ Q) X.xe s
def tNoTest : TT := fun _ H Q => Q true H
theorem pts_nil {X : Cx} : PTs X [] tNoTest := fun _ _ _ H _ I h => wpAny_pure ⟨H, I, h⟩
theorem pts_one {X : Cx} {c : Expr} {t : TT} (h : PT X c t) : PTs X [c] t := fun pins s σ H Q I q => wpAny_tests_one (h pins s σ H Q I q)
def compOk (N₀ : List Str) (sc₀ scope : Scope) (N : List Str) (xs : Nat) (js : List Nat) : Bool :=
 scope.kind == .function && (scope.names.all fun y => y.2 != .cell) && (scope.names.all fun y => y.2 != .local || scope.names.lookup y.1 == some .local) &&
 (scope.names.all fun y => y.2 != .free || (sc₀.names.lookup y.1 == some .cell || sc₀.names.lookup y.1 == some .free)) && N.length == xs + js.length &&
 (List.range js.length).all fun i => match js[i]?, N[xs + i]? with
  | some j, some x => N₀[j]? == some x && scope.names.lookup x == some .free
  | _, _ => false
structure CompScope (X : Cx) (scope : Scope) (N : List Str) (xs : Nat) (js : List Nat) : Prop where
 kind : scope.kind = .function
 nocell : ∀ y ∈ scope.names, y.2 ≠ .cell
 once : ∀ y ∈ scope.names, y.2 = .local → scope.names.lookup y.1 = some .local
 caught : ∀ y ∈ scope.names, y.2 = .free → X.env.kindOf y.1 = some .cell ∨ X.env.kindOf y.1 = some .free
 len : N.length = xs + js.length
 at_ : ∀ (i j : Nat) (x : Str), js[i]? = some j → N[xs + i]? = some x → X.N[j]? = some x ∧ scope.names.lookup x = some .free
theorem compScope_of {X : Cx} {scope : Scope} {N : List Str} {xs : Nat} {js : List Nat} (h : compOk X.N X.env.scope scope N xs js = true) : CompScope X scope N xs js := by
 unfold compOk at h
 simp only [Bool.and_eq_true] at h
 obtain ⟨⟨⟨⟨⟨h1, h2⟩, h3⟩, h4⟩, h5⟩, h6⟩ := h
 refine ⟨by simpa using h1, fun y hy => ?_, fun y hy e => ?_, fun y hy e => ?_, by simpa using h5, fun i j x e1 e2 => ?_⟩
 ·have := List.all_eq_true.mp h2 y hy
  simpa using this
 ·have := List.all_eq_true.mp h3 y hy
  rw [e] at this
  simpa using this
 ·have := List.all_eq_true.mp h4 y hy
  rw [e] at this
  simpa [Env.kindOf] using this
 ·have hi : i < js.length := (List.getElem?_eq_some_iff.mp e1).1
  have := List.all_eq_true.mp h6 i (List.mem_range.mpr hi)
  rw [e1, e2] at this
  simpa using this
theorem lookup_mem {α : Type} {x : Str} {k : α} : ∀ {l : List (Str × α)}, l.lookup x = some k → (x, k) ∈ l
 | [], h => by simp at h
 | (n, j) :: r, h => by
  rw [List.lookup_cons] at h
  cases hx : x == n with
  | true =>
   rw [hx] at h
   cases h
   rw [eq_of_beq hx]
   exact List.mem_cons_self
  | false =>
   rw [hx] at h
   exact List.mem_cons_of_mem _ (lookup_mem h)
theorem relabel_free {env : Env} {x : Str} : ∀ {names : List (Str × NameKind)}, names.lookup x = some .free →
    ((names.map fun (n, k) => if (k == NameKind.free && env.scope.kind == .function && env.kindOf n == some .cell) then (n, NameKind.cell) else (n, k)).lookup x = some .cell ∨
     (names.map fun (n, k) => if (k == NameKind.free && env.scope.kind == .function && env.kindOf n == some .cell) then (n, NameKind.cell) else (n, k)).lookup x = some .free)
  | [], h => by simp at h
  | (n, k) :: r, h => by
    rw [List.map_cons]
    cases hx : x == n with
    | true =>
      rw [List.lookup_cons, hx] at h
      cases h
      by_cases hc : (NameKind.free == NameKind.free && env.scope.kind == .function && env.kindOf n == some .cell) = true
      · left; simp only [hc, if_true, List.lookup_cons, hx]
      · right; simp only [hc, Bool.false_eq_true, if_false, List.lookup_cons, hx]
    | false =>
      rw [List.lookup_cons, hx] at h
      have ih := relabel_free (env := env) h
      by_cases hc : (k == NameKind.free && env.scope.kind == .function && env.kindOf n == some .cell) = true
      · simp only [hc, if_true, List.lookup_cons, hx]; exact ih
      · simp only [hc, Bool.false_eq_true, if_false, List.lookup_cons, hx]; exact ih
section
variable {X : Cx} {pins : List (Addr × Obj)} {σ : St} {H : Hp} {s : Shared} {scope : Scope} {N : List Str} {xs : Nat} {js : List Nat} {cl : List (Str × Addr)} {fp : List Addr} {o : Obj}
theorem Inv.nostk (I : Inv X pins σ H s) {a : Addr} (h : s.heap.objs.size ≤ a) : a ∉ frs X.stack := fun hb => by
 rcases List.mem_cons.mp (I.stkSub a hb) with e | hb
 ·exact absurd (Nat.lt_of_lt_of_le I.lt h) (by rw [e]; exact Nat.lt_irrefl _)
 ·exact I.nofs h hb
theorem comp_ok (I : Inv X pins σ H s) (S : CompScope X scope N xs js) (h2 : ∀ x c, cl.lookup x = some c → X.env.cells.lookup x = some c) (h4 : ∀ y ∈ scope.names, y.2 = .free → ∃ c, cl.lookup y.1 = some c)
  (hf : ∀ b ∈ fp, FpOk X pins H b) (hfo : ∀ b ∈ fp, ∃ u, s.heap.get? b = some u) :
  (cxComp X N scope cl { s with heap := s.heap.push o } H (s.heap.objs.size :: fp)).Ok := by
 have I3 : Inv X pins σ H { s with heap := s.heap.push o } := I.kept (t' := s.toks) fun b u e => Heap.get?_push_of_some _ e
 have hsz : (s.heap.push o).objs.size = s.heap.objs.size + 1 := Heap.size_push ..
 have hcl : ∀ x c, cl.lookup x = some c → c < s.heap.objs.size := fun x c e => by
  obtain ⟨v, u, hu, _⟩ := I.cell x c (h2 x c e)
  exact Heap.lt_size hu
 refine ⟨I.ok.mod, S.kind, I.ok.glob, I.ok.blt, Nat.le_refl _, fun x y c e1 e2 => I.ok.inj x y c (h2 x c e1) (h2 y c e2), fun x hx => ?_, fun x c e _ => absurd e (by simp [cxComp]), I.ok.hd, I.ok.frames, .inl rfl, fun b hb => ?_, I3.bs, Nat.le_trans I3.ok.bsz I3.sz,
  fun b u e hb => ?_, fun b hb => ?_, I3.stack, I3.stkFree⟩
 ·obtain ⟨y, hy, rfl, hk⟩ := relabel_kind (scope := scope) (env := X.env) (x := x) (names := scope.names) hx
  rcases hk with hk | hk
  ·exact h4 y hy hk
  ·exact absurd hk (S.nocell y hy)
 ·show b ≠ (s.heap.push o).objs.size ∧ _
  rcases List.mem_cons.mp hb with rfl | hb
  ·exact ⟨by rw [hsz]; exact Nat.ne_of_lt (Nat.lt_succ_self _), fun x c e => Nat.ne_of_lt (hcl x c e)⟩
  ·obtain ⟨u, hu⟩ := hfo b hb
   have := Heap.lt_size hu
   exact ⟨by rw [hsz]; exact Nat.ne_of_lt (Nat.lt_succ_of_lt this), fun x c e => (hf b hb).2.2.2.2.1 x c (h2 x c e)⟩
 ·rcases List.mem_cons.mp hb with rfl | hb
  ·exact absurd (Heap.lt_size (I.bk _ u e)) (Nat.lt_irrefl _)
  ·rcases (hf b hb).2.2.2.1 with z | z
   ·exact I.ok.noex b u e z
   ·exact absurd (Nat.lt_of_lt_of_le (Heap.lt_size e) (Nat.le_trans I.ok.bsz z)) (Nat.lt_irrefl _)
 ·rcases List.mem_cons.mp hb with rfl | hb
  ·exact I.nostk (Nat.le_refl _)
  ·intro z
   rcases List.mem_cons.mp (I.stkSub b z) with e | e
   ·exact (hf b hb).2.1 e
   ·exact (hf b hb).2.2.1 e
theorem getElem_capOf {i : Nat} {v : V} (h : (List.replicate xs none ++ capOf σ js)[i]? = some (some v)) : ∃ k j, i = xs + k ∧ js[k]? = some j ∧ σ[j]? = some (some v) := by
 by_cases hi : i < xs
 ·rw [List.getElem?_append_left (by simpa using hi)] at h
  rw [List.getElem?_replicate] at h
  split at h <;> cases h
 ·rw [List.getElem?_append_right (by simpa using Nat.le_of_not_lt hi)] at h
  rw [List.length_replicate] at h
  unfold capOf at h
  rw [List.getElem?_map] at h
  cases e : js[i - xs]? with
  | none => rw [e] at h; cases h
  | some j =>
   rw [e] at h
   refine ⟨i - xs, j, by omega, e, ?_⟩
   have h' : (σ[j]?).getD none = some v := Option.some.inj h
   cases q : σ[j]? with
   | none => rw [q] at h'; cases h'
   | some w =>
    rw [q] at h'
    exact congrArg some h'
theorem comp_inv {h₁ : Heap} {tk : Nat} (I : Inv X pins σ H s) (S : CompScope X scope N xs js) (h2 : ∀ x c, cl.lookup x = some c → X.env.cells.lookup x = some c) (h4 : ∀ y ∈ scope.names, y.2 = .free → ∃ c, cl.lookup y.1 = some c)
  (hf : ∀ b ∈ fp, FpOk X pins H b) (hfo : ∀ b ∈ fp, ∃ u, s.heap.get? b = some u) (hd : ∀ v, o.data ≠ .cell v) (ho : o.isFreed = false) {m : Str → Option Value}
  (hns : h₁.Ns (s.heap.push o).objs.size m) (k3 : ∀ b u, (s.heap.push o).get? b = some u → h₁.get? b = some u) :
  Inv (cxComp X N scope cl { s with heap := s.heap.push o } H (s.heap.objs.size :: fp)) [(s.heap.objs.size, o)] (List.replicate xs none ++ capOf σ js) H { s with heap := h₁, toks := tk } := by
 have hsz : (s.heap.push o).objs.size = s.heap.objs.size + 1 := Heap.size_push ..
 have k2 : ∀ b u, s.heap.get? b = some u → h₁.get? b = some u := fun b u e => k3 b u (Heap.get?_push_of_some _ e)
 refine ⟨comp_ok I S h2 h4 hf hfo, rfl, I.bare, Un.kept k3, ⟨m, hns, fun i x v e1 e2 e3 => ?_⟩, fun x c e => ?_, I.hok.fresh (show s.heap.objs.size ≤ (s.heap.push o).objs.size by rw [hsz]; exact Nat.le_succ _), fun x c e => I.freeC x c (h2 x c e), fun p hp => ?_, I.hok.kept k2, ?_⟩
 ·obtain ⟨k, j, rfl, hj, hσ⟩ := getElem_capOf e2
  obtain ⟨hN, hl⟩ := S.at_ k j x hj e1
  have hmem := lookup_mem hl
  have hk := S.caught _ hmem rfl
  obtain ⟨m', _, hloc⟩ := I.loc
  obtain ⟨u, r, l⟩ := hloc j x v hN hσ (by rcases hk with z | z; exact .inr (.inl z); exact .inr (.inr z))
  refine ⟨u, r, ?_⟩
  rcases l with ⟨z, _⟩ | ⟨_, c, ec, oc, hoc, hdc⟩
  ·rcases hk with q | q <;> rw [q] at z <;> cases z
  ·obtain ⟨c', ec'⟩ := h4 _ hmem rfl
   have := h2 _ _ ec'
   have e : c = c' := Option.some.inj (ec.symm.trans this)
   subst e
   exact .inr ⟨relabel_free (env := X.env) hl, c, ec', oc, k2 _ _ hoc, hdc⟩
 ·obtain ⟨v, oc, hoc, hdc⟩ := I.cell x c (h2 x c e)
  exact ⟨v, oc, k2 _ _ hoc, hdc⟩
 ·have e : p = (s.heap.objs.size, o) := by simpa [cxComp] using hp
  subst e
  exact ⟨k3 _ _ (Heap.get?_push_size _ ho), I.hok.fresh (Nat.le_refl _), (show s.heap.objs.size ≠ (s.heap.push o).objs.size by rw [hsz]; exact Nat.ne_of_lt (Nat.lt_succ_self _)), I.nostk (Nat.le_refl _), hd⟩
 ·rw [List.length_append, List.length_replicate]
  unfold capOf
  rw [List.length_map]
  exact S.len.symm
theorem comp_back {s' : Shared} {H' : Hp} {σ' : St} {its : List Value} {n : Nat} {acc : List V} (I : Inv X pins σ H s) (hf : ∀ b ∈ fp, FpOk X pins H b)
  (J : Inv (cxComp X N scope cl { s with heap := s.heap.push o } H (s.heap.objs.size :: fp)) [(s.heap.objs.size, ({ cls := .type "list", data := .seq its.toArray n } : Obj))] σ' H' s')
  (rv : Vals acc its) (hz : acc.length ≤ sizeLine) :
  Inv X pins σ (upd H' s.heap.objs.size (.lst acc)) s' ∧ FpOk X pins (upd H' s.heap.objs.size (.lst acc)) (s.heap.push o).objs.size ∧ H' s.heap.objs.size = none := by
 have hsz : (s.heap.push o).objs.size = s.heap.objs.size + 1 := Heap.size_push ..
 obtain ⟨hD, hn, _, _, _⟩ := J.pin (s.heap.objs.size, ({ cls := .type "list", data := .seq its.toArray n } : Obj)) (by simp [cxComp])
 have nd : ∀ b u, H' b = some u → b ≠ s.heap.objs.size := fun b u e => ne_of_none e hn
 have lt : ∀ b u, s.heap.get? b = some u → b ∉ fp → b ∉ s.heap.objs.size :: fp := fun b u e hb z => by
  rcases List.mem_cons.mp z with z | z
  ·exact absurd (Heap.lt_size e) (by rw [z]; exact Nat.lt_irrefl _)
  ·exact hb z
 have ps : ∀ b u, s.heap.get? b = some u → (s.heap.push o).get? b = some u := fun b u e => Heap.get?_push_of_some _ e
 refine ⟨I.call' (ch := fp) J.os ⟨fun b u e q hb hx => J.base.keep b u (ps b u e) q hb (lt b u e hx), fun b u e q hb hx => J.base.slot b u (ps b u e) q hb (lt b u e hx), fun b u e q hx => ?_, fun b u e hx => J.base.there b u (ps b u e) (lt b u e hx),
  fun b ys e => ?_, fun b u ys e => ?_, fun b ys e => ?_⟩ (fun b u e => ?_) J.bare (fun b hb => ?_), ?_, hn⟩
 ·rw [upd_ne (Nat.ne_of_lt (Heap.lt_size e))]
  exact J.base.free b u (ps b u e) q (lt b u e hx)
 ·have z := J.base.tups b ys e
  rw [upd_ne (nd _ _ z)]; exact z
 ·have z := J.base.frzs b u ys e
  rw [upd_ne (nd _ _ z)]; exact z
 ·obtain ⟨more, z⟩ := J.base.tbls b ys e
  exact ⟨more, by rw [upd_ne (nd _ _ z)]; exact z⟩
 ·by_cases hb : b = s.heap.objs.size
  ·subst hb
   rw [upd_same] at e
   cases e
   exact ⟨hz, its, n, rv, hD⟩
  ·rw [upd_ne hb] at e
   exact (J.hok b u e).stay (fun c v _ q => q) (fun c q => by rw [upd_ne (nd _ _ q)]; exact q) fun c ys q => by rw [upd_ne (nd _ _ q)]; exact q
 ·obtain ⟨_, f1, _, f3, f4, f5⟩ := hf b hb
  exact ⟨f3, f1, f4, f5⟩
 ·have I3 : Inv X pins σ H { s with heap := s.heap.push o } := I.kept (t' := s.toks) fun b u e => Heap.get?_push_of_some _ e
  refine I3.fpOk (Nat.le_refl _) ?_
  rw [upd_ne (show (s.heap.push o).objs.size ≠ s.heap.objs.size by rw [hsz]; exact Nat.succ_ne_self _)]
  exact J.free
end
def CompGoal (xs : Nat) (js : List Nat) (g : TG) (tt : TT) (te : TE) (σ : St) (Q : VK) (J : It) (H1 : Hp) : Prop :=
 ∃ W : Nat → Nat → List V → St → Hp → Prop, (∃ m, W 0 m [] (List.replicate xs none ++ capOf σ js) H1) ∧ ∀ i m acc σ' H, W i m acc σ' H →
  (J.stop i H ∧ ∀ p, H p = none → Q (.ref p) (upd H p (.lst acc))) ∨
  (J.go i H ∧ acc.length < sizeLine ∧ ∃ N : List V → St → Hp → Prop, (∀ acc' σ' H', N acc' σ' H' → ∃ m', m' < m ∧ W (i + 1) m' acc' σ' H') ∧ ∀ x H', J.yld i H x H' → g x σ' H' fun σ2 H2 => tt σ2 H2 fun b H3 =>
   if b = true then te σ2 H3 fun y H4 => N (acc ++ [y]) σ2 H4 else N acc σ2 H3)
def tComp (xs : Nat) (js : List Nat) (ti : TI) (g : TG) (tt : TT) (te : TE) : TE := fun σ H Q => ti σ H fun J H1 => CompGoal xs js g tt te σ Q J H1
section
variable {X : Cx} {scope : Scope} {N : List Str} {xs : Nat} {js : List Nat} {tg iter elt : Expr} {ifs : List Expr} {pos : Pos} {ti : TI} {g : TG} {tt : TT} {te : TE}
theorem comp_block {pins : List (Addr × Obj)} {s : Shared} {σ : St} {H : Hp} {Q : VK} {RR : Value → Addr → Result → Shared → Prop} {E : Value → Shared → Prop} {it : Addr} {fp : List Addr} {tn : Nat → Heap → Prop} {J : It} {cl : List (Str × Addr)}
  (hc : X.calm = true) (S : CompScope X scope N xs js) (hg : ∀ cl s H ex, PG (cxComp X N scope cl s H ex) tg g) (ht : ∀ cl s H ex, PTs (cxComp X N scope cl s H ex) ifs tt) (he : ∀ cl s H ex, PE (cxComp X N scope cl s H ex) elt te)
  (h2 : ∀ x c, cl.lookup x = some c → X.env.cells.lookup x = some c) (h4 : ∀ y ∈ scope.names, y.2 = .free → ∃ c, cl.lookup y.1 = some c)
  (I : Inv X pins σ H s) (T : Turn X.prog X.w X.K tg J fp it tn) (st : tn 0 s.heap) (hf : ∀ b ∈ fp, FpOk X pins H b)
  (hW : CompGoal xs js g tt te σ Q J H)
  (hR : ∀ (D C : Addr) (H' : Hp) (s' : Shared) (m : Str → Option Value), Inv X pins σ H' s' → s'.heap.Ns C m → FpOk X pins H' C → Q (.ref D) H' → RR (.ref D) C (.ok .next) s') :
  wpAny (model X.prog X.w) X.A (newList []) (fun acc s₃ => wpAny (model X.prog X.w) X.A (newFunctionEnv scope X.env.globals cl [] X.env.qual none .none (some X.env)) (fun cenv s₄ =>
   codeAny (model X.prog X.w) X.A (.compStart (.ListComp elt [⟨tg, iter, ifs, 0⟩] scope pos) 0 (.ref it) acc { cenv with scope := relabel scope X.env }) (RR acc cenv.locals) s₄) E s₃) E s := by
 refine wpAny_newObj_type (wpAny_newFunctionEnv S.nocell (by intro y hy; simp at hy) (fun h₁ hns₁ hsb₁ => ?_) S.kind)
 dsimp only at hns₁ hsb₁ ⊢
 obtain ⟨W, ⟨m0, w0⟩, turn⟩ := hW
 have hfo : ∀ b ∈ fp, ∃ u, s.heap.get? b = some u := fun b hb => let ⟨u, hu, _⟩ := T.obj _ _ st b hb; ⟨u, hu⟩
 have hsz : (s.heap.push ({ cls := .type "list", dict := none, data := .seq ([] : List Value).toArray } : Obj)).objs.size = s.heap.objs.size + 1 := Heap.size_push ..
 have k3 : ∀ b u, (s.heap.push ({ cls := .type "list", dict := none, data := .seq ([] : List Value).toArray } : Obj)).get? b = some u → h₁.get? b = some u := fun b u e =>
  (hsb₁.2 b (Nat.ne_of_lt (Heap.lt_size e))).trans (Heap.get?_push_of_some _ e)
 have B0 := comp_inv (X := X) (N := N) (xs := xs) (js := js) (tk := s.toks + ([] : List (Str × Value)).length) I S h2 h4 hf hfo (fun v z => by cases z) rfl hns₁ k3
 generalize hXc : cxComp X N scope cl { s with heap := s.heap.push ({ cls := .type "list", dict := none, data := .seq ([] : List Value).toArray } : Obj) } H (s.heap.objs.size :: fp) = Xc at B0
 have eP : Xc.prog = X.prog := by rw [← hXc]; rfl
 have eW : Xc.w = X.w := by rw [← hXc]; rfl
 have eK : Xc.K = X.K := by rw [← hXc]; rfl
 have eA : Xc.A = X.A := by rw [← hXc]; rfl
 have eC : Xc.calm = true := by rw [← hXc]; exact hc
 have eX : Xc.xe = fun _ _ => False := by rw [← hXc]; rfl
 have eE : Xc.env = compEnvC scope cl (s.heap.push ({ cls := .type "list", dict := none, data := .seq ([] : List Value).toArray } : Obj)).objs.size X.env := by rw [← hXc]; rfl
 have eF : Xc.fs = frs X.stack := by rw [← hXc]; rfl
 have eex : Xc.ex = s.heap.objs.size :: fp := by rw [← hXc]; rfl
 have hg' : PG Xc tg g := by rw [← hXc]; exact hg _ _ _ _
 have ht' : PTs Xc ifs tt := by rw [← hXc]; exact ht _ _ _ _
 have he' : PE Xc elt te := by rw [← hXc]; exact he _ _ _ _
 have ecl : ∀ x c, Xc.env.cells.lookup x = some c → X.env.cells.lookup x = some c := by rw [eE]; exact h2
 have fpk : ∀ {H' : Hp} {ob : Obj}, (∀ b ∈ fp, H' b = none) → ∀ b ∈ fp, FpOk Xc [(s.heap.objs.size, ob)] H' b := fun {H' ob} hn b hb => by
  obtain ⟨u, hu⟩ := hfo b hb
  have hlt := Heap.lt_size hu
  obtain ⟨_, f1, f2, f3, f4, f5⟩ := hf b hb
  refine ⟨hn b hb, ?_, ?_, .inl ?_, fun x c e => f4 x c (ecl x c e), fun p hp => ?_⟩
  ·rw [eE]
   show b ≠ (s.heap.push _).objs.size
   rw [hsz]; exact Nat.ne_of_lt (Nat.lt_succ_of_lt hlt)
  ·rw [eF]
   intro z
   rcases List.mem_cons.mp (I.stkSub b z) with e | e
   ·exact f1 e
   ·exact f2 e
  ·rw [eex]; exact List.mem_cons_of_mem _ hb
  ·have e : p = (s.heap.objs.size, ob) := by
    rw [← hXc] at hp
    simpa [cxComp] using hp
   subst e
   show s.heap.objs.size ≠ b
   exact Nat.ne_of_gt hlt
 have loop : ∀ s₃ : Shared, s₃ = { s with heap := h₁, toks := s.toks + ([] : List (Str × Value)).length } →
   codeAny (model X.prog X.w) X.A (.compLoop (.ListComp elt [⟨tg, iter, ifs, 0⟩] scope pos) 0 (.ref it) (.ref s.heap.objs.size) (compEnvC scope cl (s.heap.push ({ cls := .type "list", dict := none, data := .seq ([] : List Value).toArray } : Obj)).objs.size X.env))
    (RR (.ref s.heap.objs.size) (s.heap.push ({ cls := .type "list", dict := none, data := .seq ([] : List Value).toArray } : Obj)).objs.size) s₃ := by
  rintro s₃ rfl
  refine compLoop_go (fun n s' => ∃ (i : Nat) (acc : List V) (its : List Value) (c : Nat) (σ' : St) (H' : Hp), Inv Xc [(s.heap.objs.size, ({ cls := .type "list", data := .seq its.toArray c } : Obj))] σ' H' s' ∧ Vals acc its ∧ tn i s'.heap ∧
   (∀ b ∈ fp, H' b = none) ∧ acc.length ≤ sizeLine ∧ W i n acc σ' H') ?_ m0 ⟨0, [], [], 0, _, H, B0, .nil, T.keep _ _ _ st fun b _ u e => k3 b u (Heap.get?_push_of_some _ e), fun b hb => (hf b hb).1, Nat.zero_le _, w0⟩
  rintro n s3 ⟨i, acc, its, c, σ3, H3, I3, rv, st3, fr3, hz, w3⟩
  rcases turn i n acc σ3 H3 w3 with ⟨stop, qn⟩ | ⟨go, hlen, NN, hNN, step⟩
  ·have h := T.done Xc eP eW eK eC i _ s3 σ3 H3 (fun _ _ => False) I3 (fpk fr3) st3 stop
   rw [eA] at h
   refine thn h fun r s4 ⟨hr, I4⟩ => ?_
   subst hr
   rw [← hXc] at I4
   obtain ⟨a1, a2, a3⟩ := comp_back I hf I4 rv hz
   obtain ⟨mC, hmC, _⟩ := I4.loc
   exact hR _ _ _ _ mC a1 hmC a2 (qn _ a3)
  ·have h := T.item Xc eP eW eK eC i _ s3 σ3 H3 (fun _ _ => False) I3 (fpk fr3) st3 go
   rw [eA] at h
   refine thn h fun r s4 ⟨u, hr, h4⟩ => ?_
   subst hr
   refine thn h4 fun _ s5 ⟨x, H5, I5, r5, y5, st5, fr5⟩ => ?_
   have I5' := I5.pinned (fpk fr5) (T.obj _ _ st5)
   have ha := hg' _ s5 σ3 H5 x u _ I5' r5 (step x H5 y5)
   rw [eP, eW, eA, eE, eX] at ha
   refine thn ha fun _ s6 ⟨σ6, H6, I6, q6⟩ => ?_
   have hb := ht' _ s6 σ6 H6 _ I6 q6
   rw [eP, eW, eA, eE, eX] at hb
   refine thn hb fun ok s7 ⟨H7, I7, q7⟩ => ?_
   have tn' : ∀ {σ8 : St} {H8 : Hp} {s8 : Shared}, Inv Xc ([(s.heap.objs.size, ({ cls := .type "list", data := .seq its.toArray c } : Obj))] ++ pinsAt fp s5.heap) σ8 H8 s8 → tn (i + 1) s8.heap ∧ ∀ b ∈ fp, H8 b = none := fun {σ8 H8 s8} I8 => by
    refine ⟨T.keep _ _ _ st5 fun b hb o e => (I8.pin (b, o) (List.mem_append_right _ (List.mem_append_right _ (mem_pinsAt hb e)))).1, fun b hb => ?_⟩
    obtain ⟨o, e, d⟩ := T.obj _ _ st5 b hb
    exact (I8.pin (b, o) (List.mem_append_right _ (List.mem_append_right _ (mem_pinsAt hb e)))).2.1
   cases ok with
   | false =>
    obtain ⟨m', hm, w7⟩ := hNN _ _ _ q7
    obtain ⟨t1, t2⟩ := tn' I7
    exact ⟨m', hm, i + 1, acc, its, c, σ6, H7, I7.unpinned, rv, t1, t2, hz, w7⟩
   | true =>
    have hd := he' _ s7 σ6 H7 _ I7 q7
    rw [eP, eW, eA, eE, eX] at hd
    refine thn hd fun v s8 ⟨y, H8, I8, r8, q8⟩ => ?_
    obtain ⟨m', hm, w8⟩ := hNN _ _ _ q8
    obtain ⟨t1, t2⟩ := tn' I8
    have I9 := I8.unpinned
    obtain ⟨eD, nD, nC, nF, _⟩ := I9.pin (s.heap.objs.size, ({ cls := .type "list", data := .seq its.toArray c } : Obj)) (by simp)
    have hln := rv.length
    refine call_meets F.slot_list_append ⟨_, eD, rfl⟩ F.entry_list_append (F.args_list_append_2 _ _) (PySem.list_append s.heap.objs.size its.toArray c v (by rw [List.size_toArray]; omega)) ⟨eD, ?_⟩
    obtain ⟨n9, q⟩ : ∃ n9, (s8.heap.update s.heap.objs.size (Obj.mapSeq fun a => a.push v)).get? s.heap.objs.size = some ({ cls := .type "list", data := .seq (its ++ [v]).toArray n9 } : Obj) := by
     have q := PySem.IsL.update eD (fun a => a.push v)
     have ea : its.toArray.push v = (its ++ [v]).toArray := by simp
     rw [ea] at q
     exact ⟨_, q⟩
    have I10 : Inv Xc [] σ6 H8 { s8 with heap := s8.heap.update s.heap.objs.size (Obj.mapSeq fun a => a.push v) } := by
     refine (I9.pins_of (pins' := []) fun p hp => nomatch hp).turned (it := s.heap.objs.size) (t' := s8.toks) (fun b u hb e => (Heap.get?_update_other s8.heap _ (Ne.symm hb)).trans e) nD nC (.inl (by rw [eex]; exact List.mem_cons_self)) (fun x cc e => ?_) (fun p hp => ?_)
     ·obtain ⟨w0, oc, hoc, _⟩ := I.cell x cc (ecl x cc e)
      exact Nat.ne_of_lt (Heap.lt_size hoc)
     ·rw [← hXc] at hp
      exact absurd hp (by simp [cxComp])
    refine ⟨m', hm, i + 1, acc ++ [y], its ++ [v], n9, σ6, H8, I10.pins_of fun p hp => ?_, rv.append (.cons r8 .nil), T.keep _ _ _ t1 fun b hb u e => ?_, t2, by rw [List.length_append, List.length_singleton]; omega, w8⟩
    ·have e : p = (s.heap.objs.size, ({ cls := .type "list", data := .seq (its ++ [v]).toArray n9 } : Obj)) := by simpa using hp
     subst e
     exact ⟨q, nD, nC, nF, fun w z => by cases z⟩
    ·have hb' : b ≠ s.heap.objs.size := by
      obtain ⟨z, hz'⟩ := hfo b hb
      exact Nat.ne_of_lt (Heap.lt_size hz')
     exact (Heap.get?_update_other s8.heap _ (Ne.symm hb')).trans e
 exact codeAny_compStart_list (loop _ rfl) (T.self _ 0 _ _ _ (T.keep _ _ _ st fun b _ u e => k3 b u (Heap.get?_push_of_some _ e)) (loop _ rfl))
theorem pe_comp (hc : X.calm = true) (S : CompScope X scope N xs js) (hi : PI X tg iter ti) (hg : ∀ cl s H ex, PG (cxComp X N scope cl s H ex) tg g) (ht : ∀ cl s H ex, PTs (cxComp X N scope cl s H ex) ifs tt)
  (he : ∀ cl s H ex, PE (cxComp X N scope cl s H ex) elt te) (hs : ∀ x, foldedSetIterable iter X.env x = pure x := by intro _; rfl) :
  PE X (.ListComp elt [⟨tg, iter, ifs, 0⟩] scope pos) (tComp xs js ti g tt te) := by
 intro pins s σ H Q I h
 obtain ⟨cl, e1, h2, h4⟩ := closure_ok (scope := scope) (env := X.env) fun y hy e => I.ok.has y.1 (S.caught y hy e)
 rw [eval_ListComp]
 refine wpAny_comprehension_free (use := none) rfl hs e1 S.kind S.once (thn (hi pins s σ H _ I h) fun v s1 h1 => thn h1 fun itv s2 h2' => ?_)
 obtain ⟨it, fp, tn, J, H2, e, I2, T, st2, f2, hW⟩ := h2'
 subst e
 refine comp_block (RR := fun acc C => compPost (model X.prog X.w) X.A X.xe none (EP X pins σ Q) acc C) hc S hg ht he h2 h4 I2 T st2 f2 hW fun D C H' s' m I' hn hC q => ?_
 obtain ⟨f0, f1, _, f3, f4, f5⟩ := hC
 exact ⟨m, hn, fun h' hs' => ⟨.ref D, H', I'.turned (it := C) (t' := s'.toks) (fun b u hb e => (hs'.2 b hb).trans e) f0 f1 f3 f4 f5, rfl, q⟩⟩
theorem ps_comp {j : Nat} {y : Str} {py spos : Pos} (hc : X.calm = true) (hN : X.N.Nodup) (hj : X.N[j]? = some y) (hy : X.env.scope.names.lookup y = some .local) (S : CompScope X scope N xs js) (hi : PI X tg iter ti) (hg : ∀ cl s H ex, PG (cxComp X N scope cl s H ex) tg g) (ht : ∀ cl s H ex, PTs (cxComp X N scope cl s H ex) ifs tt)
  (he : ∀ cl s H ex, PE (cxComp X N scope cl s H ex) elt te)
  (hsw : swapsWith (.ListComp elt [⟨tg, iter, ifs, 0⟩] scope pos) (some (.Name y py)) spos.line X.env = pure true)
  (hs : ∀ x, foldedSetIterable iter X.env x = pure x := by intro _; rfl) :
  PS X (.Assign [.Name y py] (.ListComp elt [⟨tg, iter, ifs, 0⟩] scope pos) spos) (tAsg (tComp xs js ti g tt te) (gName j)) := by
 intro pins s σ H D I h
 obtain ⟨cl, e1, h2, h4⟩ := closure_ok (scope := scope) (env := X.env) fun y hy e => I.ok.has y.1 (S.caught y hy e)
 rw [exec_Assign_Name_used _ _ _ _ hsw]
 refine wpAny_bind (wpAny_standAt (wpAny_bind ?_))
 show wpAny _ X.A (do let _ ← comprehension (.ListComp elt [⟨tg, iter, ifs, 0⟩] scope pos) scope X.env _ (newList []) false (eval iter X.env) (some (assign (.Name y py) X.env))) _ _ s
 refine wpAny_bind (wpAny_mono (wpAny_comprehension_free (use := some (assign (.Name y py) X.env)) (Q := fun _ s' => SP X pins D .next s') rfl hs e1 S.kind S.once
  (thn (hi pins s σ H _ I h) fun v s1 h1 => thn h1 fun itv s2 h2' => ?_)) (fun _ s' hq => wpAny_pure (wpAny_pure hq)) fun _ _ e => e)
 obtain ⟨it, fp, tn, J, H2, e, I2, T, st2, f2, hW⟩ := h2'
 subst e
 refine comp_block (Q := fun x H1 => gName j x σ H1 D.nx) (RR := fun acc C => compPost (model X.prog X.w) X.A X.xe (some (assign (.Name y py) X.env)) (fun _ s' => SP X pins D .next s') acc C) hc S hg ht he h2 h4 I2 T st2 f2 hW fun A C H' s' m I' hn hC q => ?_
 obtain ⟨f0, f1, f2', f3, f4, f5⟩ := hC
 show wpAny _ X.A (assign (.Name y py) X.env (.ref A)) _ _ _
 refine wpAny_assign_Name (store_ok2 I' hN hj (.inl hy) (show RelV (.ref A) (.ref A) from rfl) (fun s'' I'' ⟨a, sb, ha⟩ => ?_) (.inr hy))
 have hCa : C ≠ a := by
  rcases ha with e | e
  ·rw [e]; exact f1
  ·exact fun z => f4 y a e z.symm
 refine ⟨m, hn.sameBut sb hCa, fun h' hs' => ?_⟩
 exact ⟨_, H', I''.turned (it := C) (t' := s''.toks) (fun b u hb e => (hs'.2 b hb).trans e) f0 f1 f3 f4 f5, q⟩
end
section
variable {K : PySem.W.Frag} {xs : Nat} {js : List Nat} {g : TG} {tt : TT} {te : TE} {σ : St} {Q : VK} {H : Hp}
theorem comp_walk {J : It} {n : Nat} (Pv : Nat → List V → St → Hp → Prop) (h0 : Pv 0 [] (List.replicate xs none ++ capOf σ js) H) (hl : ∀ i acc σ' H', Pv i acc σ' H' → acc.length ≤ i) (hz : n ≤ sizeLine)
  (hgo : ∀ i acc σ' H', i < n → Pv i acc σ' H' → J.go i H') (hst : ∀ acc σ' H', Pv n acc σ' H' → J.stop n H')
  (hs : ∀ i x acc σ' H' H2, i < n → Pv i acc σ' H' → J.yld i H' x H2 → g x σ' H2 fun σ2 H2 => tt σ2 H2 fun b H3 => if b = true then te σ2 H3 fun y H4 => Pv (i + 1) (acc ++ [y]) σ2 H4 else Pv (i + 1) acc σ2 H3)
  (hd : ∀ acc σ' H', Pv n acc σ' H' → ∀ p, H' p = none → Q (.ref p) (upd H' p (.lst acc))) : CompGoal xs js g tt te σ Q J H := by
 refine ⟨fun i m acc σ' H' => m = n - i ∧ i ≤ n ∧ Pv i acc σ' H', ⟨n, by simp, Nat.zero_le _, h0⟩, ?_⟩
 rintro i m acc σ' H' ⟨rfl, hi, p⟩
 by_cases hlt : i < n
 ·have := hl _ _ _ _ p
  exact .inr ⟨hgo i acc σ' H' hlt p, by omega, fun a s h => Pv (i + 1) a s h, fun a s h q => ⟨n - (i + 1), by omega, rfl, hlt, q⟩, fun x H2 y => hs i x acc σ' H' H2 hlt p y⟩
 ·have e : i = n := by omega
  subst e
  exact .inl ⟨hst _ _ _ p, hd _ _ _ p⟩
theorem comp_list {a : Addr} {ys : List V} (Pv : Nat → List V → St → Hp → Prop) (h0 : Pv 0 [] (List.replicate xs none ++ capOf σ js) H) (hl : ∀ i acc σ' H', Pv i acc σ' H' → acc.length ≤ i) (hz : ys.length ≤ sizeLine)
  (hq : ∀ i acc σ' H', i ≤ ys.length → Pv i acc σ' H' → SqL K H' a ys)
  (hs : ∀ i x acc σ' H', ys[i]? = some x → Pv i acc σ' H' → g x σ' H' fun σ2 H2 => tt σ2 H2 fun b H3 => if b = true then te σ2 H3 fun y H4 => Pv (i + 1) (acc ++ [y]) σ2 H4 else Pv (i + 1) acc σ2 H3)
  (hd : ∀ acc σ' H', Pv ys.length acc σ' H' → ∀ p, H' p = none → Q (.ref p) (upd H' p (.lst acc))) : CompGoal xs js g tt te σ Q (Itl K a) H :=
 comp_walk Pv h0 hl hz (fun i acc σ' H' h p => ⟨ys, ys[i], hq _ _ _ _ (Nat.le_of_lt h) p, by simp [h]⟩) (fun acc σ' H' p => ⟨ys, hq _ _ _ _ (Nat.le_refl _) p, Nat.le_refl _⟩)
  (fun i x acc σ' H' H2 h p y => by
   obtain ⟨e, y⟩ := y
   subst e
   exact hs i x acc σ' _ (y ys (hq _ _ _ _ (Nat.le_of_lt h) p)) p) hd
theorem comp_tup {a : Addr} {ys : List V} (Pv : Nat → List V → St → Hp → Prop) (h0 : Pv 0 [] (List.replicate xs none ++ capOf σ js) H) (hl : ∀ i acc σ' H', Pv i acc σ' H' → acc.length ≤ i) (hz : ys.length ≤ sizeLine)
  (hq : ∀ i acc σ' H', i ≤ ys.length → Pv i acc σ' H' → SqT K H' a ys)
  (hs : ∀ i x acc σ' H', ys[i]? = some x → Pv i acc σ' H' → g x σ' H' fun σ2 H2 => tt σ2 H2 fun b H3 => if b = true then te σ2 H3 fun y H4 => Pv (i + 1) (acc ++ [y]) σ2 H4 else Pv (i + 1) acc σ2 H3)
  (hd : ∀ acc σ' H', Pv ys.length acc σ' H' → ∀ p, H' p = none → Q (.ref p) (upd H' p (.lst acc))) : CompGoal xs js g tt te σ Q (Itt K a) H :=
 comp_walk Pv h0 hl hz (fun i acc σ' H' h p => ⟨ys, ys[i], hq _ _ _ _ (Nat.le_of_lt h) p, by simp [h]⟩) (fun acc σ' H' p => ⟨ys, hq _ _ _ _ (Nat.le_refl _) p, Nat.le_refl _⟩)
  (fun i x acc σ' H' H2 h p y => by
   obtain ⟨e, y⟩ := y
   subst e
   exact hs i x acc σ' _ (y ys (hq _ _ _ _ (Nat.le_of_lt h) p)) p) hd
theorem comp_range {lo : Int} {n : Nat} (Pv : Nat → List V → St → Hp → Prop) (h0 : Pv 0 [] (List.replicate xs none ++ capOf σ js) H) (hl : ∀ i acc σ' H', Pv i acc σ' H' → acc.length ≤ i) (hz : n ≤ sizeLine)
  (hs : ∀ i acc σ' H', i < n → Pv i acc σ' H' → g (.int (lo + i)) σ' H' fun σ2 H2 => tt σ2 H2 fun b H3 => if b = true then te σ2 H3 fun y H4 => Pv (i + 1) (acc ++ [y]) σ2 H4 else Pv (i + 1) acc σ2 H3)
  (hd : ∀ acc σ' H', Pv n acc σ' H' → ∀ p, H' p = none → Q (.ref p) (upd H' p (.lst acc))) : CompGoal xs js g tt te σ Q (Itr lo n) H :=
 comp_walk Pv h0 hl hz (fun i acc σ' H' h p => h) (fun acc σ' H' p => Nat.le_refl _)
  (fun i x acc σ' H' H2 h p y => by
   obtain ⟨e, y⟩ := y
   subst e y
   exact hs i acc σ' _ h p) hd
end
def Its (x : Str) : It := ⟨fun i _ => i < x.cps.size, fun i H v H' => H' = H ∧ ∃ c, x.cps[i]? = some c ∧ v = .str ⟨#[c]⟩, fun i _ => i = x.cps.size⟩
def iStr (tl : TE) : TI := fun σ H R => tl σ H fun v H1 => ∃ x, v = .str x ∧ R (Its x) H1
theorem comp_str {xs : Nat} {js : List Nat} {g : TG} {tt : TT} {te : TE} {σ : St} {Q : VK} {H : Hp} {x : Str} (Pv : Nat → List V → St → Hp → Prop) (h0 : Pv 0 [] (List.replicate xs none ++ capOf σ js) H) (hl : ∀ i acc σ' H', Pv i acc σ' H' → acc.length ≤ i) (hz : x.cps.size ≤ sizeLine)
  (hs : ∀ i c acc σ' H', x.cps[i]? = some c → Pv i acc σ' H' → g (.str ⟨#[c]⟩) σ' H' fun σ2 H2 => tt σ2 H2 fun b H3 => if b = true then te σ2 H3 fun y H4 => Pv (i + 1) (acc ++ [y]) σ2 H4 else Pv (i + 1) acc σ2 H3)
  (hd : ∀ acc σ' H', Pv x.cps.size acc σ' H' → ∀ p, H' p = none → Q (.ref p) (upd H' p (.lst acc))) : CompGoal xs js g tt te σ Q (Its x) H :=
 comp_walk Pv h0 hl hz (fun i acc σ' H' h p => h) (fun acc σ' H' p => rfl)
  (fun i v acc σ' H' H2 h p y => by
   obtain ⟨e, c, y1, y2⟩ := y
   subst e y2
   exact hs i c acc σ' _ y1 p) hd
def StrAt (it : Addr) (x : Str) (t : Tok) (i : Nat) (h : Heap) : Prop := h.IsStrIter it "str_ascii_iterator" x t i ∨ h.IsStrIter it "str_iterator" x t i
theorem StrAt.obj {it : Addr} {x : Str} {t : Tok} {i : Nat} {h : Heap} (st : StrAt it x t i h) : ∃ o n vs, h.get? it = some o ∧ o.cls = .type n ∧ o.data = .fields vs ∧ (n = "str_ascii_iterator" ∨ n = "str_iterator") := by
 rcases st with ⟨o, e, c, d⟩ | ⟨o, e, c, d⟩
 ·exact ⟨o, _, _, e, c, d, .inl rfl⟩
 ·exact ⟨o, _, _, e, c, d, .inr rfl⟩
theorem StrAt.go {M : Model} {A : Around} {E : Value → Shared → Prop} {s : Shared} {tg : Expr} {it : Addr} {u : Value} {x : Str} {t : Tok} {i : Nat} {Q : Unit → Shared → Prop} (st : StrAt it x t i s.heap) (hQ : Q () s) : wpAny M A (letOwnedTupleGo tg (.ref it) u) Q E s := by
 obtain ⟨o, n, vs, e, c, d, hn⟩ := st.obj
 rcases hn with rfl | rfl
 ·exact go_of e c d (by decide) hQ
 ·exact go_of e c d (by decide) hQ
theorem turn_str {P : Program} {w : World} {K : PySem.W.Frag} {tg : Expr} (it : Addr) (x : Str) (t : Tok) : Turn P w K tg (Its x) [it] it (StrAt it x t) where
 mem := by simp
 obj := fun i h st b hb => by
  have e : b = it := by simpa using hb
  subst e
  obtain ⟨o, n, vs, e, c, d, hn⟩ := st.obj
  exact ⟨o, e, fun v z => by rw [d] at z; cases z⟩
 keep := fun i h h' st k => by
  rcases st with ⟨o, e, r⟩ | ⟨o, e, r⟩
  ·exact .inl ⟨o, k it (by simp) o e, r⟩
  ·exact .inr ⟨o, k it (by simp) o e, r⟩
 item := by
  intro X hP hw hK hc i pins s σ H E I hf st hg
  subst hP hw hK
  obtain ⟨f0, f1, f2, f3, f4, f5⟩ := hf it (by simp)
  have fin : ∀ (v : Value) (h' : Heap) (tk : Nat), SignAt x i v → StrAt it x t (i + 1) h' → (∀ b o, b ∉ [it] → s.heap.get? b = some o → h'.get? b = some o) →
    ∃ u, some v = some u ∧ wpAny (model X.prog X.w) X.A (letOwnedTupleGo tg (.ref it) u) (fun _ s2 => ∃ y H', Inv X pins σ H' s2 ∧ RelV y u ∧ (Its x).yld i H y H' ∧ StrAt it x t (i + 1) s2.heap ∧ ∀ b ∈ [it], H' b = none) E { s with heap := h', toks := tk } := by
   rintro v h' tk ⟨c, u, hc', rfl⟩ st' k
   exact ⟨_, rfl, st'.go (s := { s with heap := h', toks := tk }) ⟨.str ⟨#[c]⟩, H, I.turned (t' := tk) (fun b o hb e => k b o (by simpa using hb) e) f0 f1 f3 f4 f5, ⟨_, rfl⟩, ⟨rfl, c, hc', rfl⟩, st', fun b hb => (hf b hb).1⟩⟩
  rcases st with st | st
  ·exact (Walks.strAscii (I.ok.hd hc) it x t).item i s _ _ hg st fun v h' tk hv st' k => fin v h' tk hv (.inl st') k
  ·exact (Walks.strWide (I.ok.hd hc) it x t).item i s _ _ hg st fun v h' tk hv st' k => fin v h' tk hv (.inr st') k
 done := by
  intro X hP hw hK hc i pins s σ H E I hf st hg
  subst hP hw hK
  obtain ⟨f0, f1, f2, f3, f4, f5⟩ := hf it (by simp)
  have hg' : i = x.cps.size := hg
  subst hg'
  rcases st with st | st
  ·exact (Walks.strAscii (I.ok.hd hc) it x t).done s _ _ st fun h' tk k => ⟨rfl, I.turned (t' := tk) (fun b o hb e => k b o (by simpa using hb) e) f0 f1 f3 f4 f5⟩
  ·exact (Walks.strWide (I.ok.hd hc) it x t).done s _ _ st fun h' tk k => ⟨rfl, I.turned (t' := tk) (fun b o hb e => k b o (by simpa using hb) e) f0 f1 f3 f4 f5⟩
 self := fun A i s Q E st h => by
  rcases st with st | st
  ·exact wpAny_pyIter_striter_ascii st h
  ·exact wpAny_pyIter_striter_wide st h
theorem pi_str {X : Cx} {tg l : Expr} {tl : TE} (hl : PE X l tl) : PI X tg l (iStr tl) := by
 intro pins s σ H R I h
 refine thn (hl pins s σ H _ I h) fun v s1 ⟨y, H1, I1, r1, q1⟩ => ?_
 obtain ⟨x, rfl, q⟩ := q1
 obtain ⟨t, rfl⟩ := r1
 have fin : ∀ o, StrAt s1.heap.objs.size x t 0 (s1.heap.push o) → PIE X pins σ tg R (.ref s1.heap.objs.size) { s1 with heap := s1.heap.push o } := fun o st => by
  refine ⟨s1.heap.objs.size, [s1.heap.objs.size], _, _, H1, rfl, I1.kept (t' := s1.toks) fun b o e => Heap.get?_push_of_some _ e, turn_str _ x t, st, fun b hb => ?_, q⟩
  have e : b = s1.heap.objs.size := by simpa using hb
  subst e
  exact I1.fpOk (Nat.le_refl _) (I1.hok.fresh (Nat.le_refl _))
 cases ha : x.cps.all (· < 128)
 ·exact wpAny_pyIter_wide ha (fin _ (.inr ⟨_, Heap.get?_push_size _ rfl, rfl, rfl⟩))
 ·exact wpAny_pyIter_ascii ha (fin _ (.inl ⟨_, Heap.get?_push_size _ rfl, rfl, rfl⟩))
theorem all_range (bs : List Bool) : (List.range bs.length).all (fun i => (bs[i]?).getD true) = bs.all id := by
 rw [Bool.eq_iff_iff]
 simp only [List.all_eq_true, List.mem_range, id]
 constructor
 ·intro h b hb
  obtain ⟨i, hi, e⟩ := List.mem_iff_getElem.mp hb
  have := h i hi
  rw [List.getElem?_eq_getElem hi] at this
  rw [← e]
  exact this
 ·intro h i hi
  rw [List.getElem?_eq_getElem hi]
  exact h _ (List.getElem_mem hi)
section
variable {X : Cx}
theorem call_all (hc : X.calm = true) : CallR X (.builtin "all") (fun xs H Q => ∃ (p : Addr) (bs : List Bool), xs = [.ref p] ∧ SqL X.K H p (bs.map V.bl) ∧ Q (.bl (bs.all id)) H) := by
 intro pins s σ H xs us Q I r h
 obtain ⟨p, bs, rfl, hp, q⟩ := h
 obtain ⟨u, rfl, ru⟩ := vals1 r
 cases ru
 obtain ⟨its, rv, ht, hz⟩ := I.list hp
 have hlen := rv.length
 rw [List.length_map] at hlen
 refine call_all_walk (wpAny_pyIter_list ht.isList ?_)
 have hpn : p < s.heap.objs.size := let ⟨o, n, e, _⟩ := ht; Heap.lt_size e
 refine ⟨s.heap.objs.size, [s.heap.objs.size, p], [s.heap.objs.size], its.toArray.size, (fun i v => its.toArray[i]? = some v), (fun i h => h.IsListIter s.heap.objs.size p i ∧ h.IsList p its.toArray), fun i => (bs[i]?).getD true, rfl, Walks.list (A := X.A.in1) (show X.A.in1.handled = none from I.ok.hd hc) s.heap.objs.size p (Nat.ne_of_lt hpn) its.toArray, ⟨⟨_, Heap.get?_push_size _ rfl, rfl, rfl⟩, ht.isList.at fun o e => Heap.get?_push_of_some _ e⟩, ?_, fun h' tk k => ?_⟩
 ·intro i v s' Q' E' hv hq
  have hv' : its[i]? = some v := by simpa using hv
  have hi : i < bs.length := by rw [hlen]; exact (List.getElem?_eq_some_iff.mp hv').1
  obtain ⟨u', hu', ru'⟩ := rv.get (i := i) (x := .bl bs[i]) (by simp [hi])
  rw [hv'] at hu'
  cases hu'
  cases ru'
  refine wpAny_truthy_bool ?_
  have hq' : Q' ((bs[i]?).getD true) s' := hq
  rw [List.getElem?_eq_getElem hi] at hq'
  exact hq'
 ·have e : (List.range its.toArray.size).all (fun i => (bs[i]?).getD true) = bs.all id := by
   rw [List.size_toArray, ← hlen]
   exact all_range bs
  refine ⟨.bl (bs.all id), H, I.kept (t' := tk) fun b o e => k b o ?_ (Heap.get?_push_of_some _ e), by rw [e]; rfl, q⟩
  have := Heap.lt_size e
  intro z
  rw [List.mem_singleton.mp z] at this
  exact Nat.lt_irrefl _ this
theorem call_isinst : CallR X (.builtin "isinstance") (fun xs H Q => ∃ x T t b, xs = [x, .ty T] ∧ TyOf X.K H x t ∧ PySem.W.kitOne X.K t (.type T) = some b ∧ Q (.bl b) H) := by
 intro pins s σ H xs us Q I r h
 obtain ⟨x, T, t, b, rfl, ty, e, q⟩ := h
 obtain ⟨u, v, rfl, ru, rv⟩ := vals2 r
 cases rv
 exact isinst_ok I ru ty e fun tk => ⟨.bl b, H, I.tok tk, rfl, q⟩
def rSlS : V → Option Int → Option Int → Hp → VK → Prop := fun x lo hi H Q => ∃ z, x = .str z ∧ z.length ≤ sizeLine ∧ Q (.str (Txt.slice z lo hi)) H
theorem sl_str : SlR X rSlS := by
 intro pins s σ H x v vl vu lo hi sl Q I rx hs pl pu h
 obtain ⟨z, rfl, hz, q⟩ := h
 obtain ⟨t, rfl⟩ := rx
 refine ⟨"str", _, F.slot_str_getitem.lookup, typeIs_str _ _ _, ?_⟩
 have fin : ∀ t' k, EP X pins σ Q (.str (Txt.slice z lo hi) t') { s with toks := k } := fun t' k => ⟨.str _, H, I.tok k, ⟨t', rfl⟩, q⟩
 obtain ⟨o, ho, hc, hd⟩ := hs
 cases pl with
 | none =>
  cases pu with
  | none => exact wpAny_getItem_str_slice (l := none) (u := none) (st := none) ⟨o, ho, hc, hd⟩ rfl (post_val_or_str ⟨Nat.le_trans (Txt.slice_le z _ _) hz, fin⟩)
  | int j uj => exact wpAny_getItem_str_slice (l := none) (u := some (j, uj)) (st := none) ⟨o, ho, hc, hd⟩ rfl (post_val_or_str ⟨Nat.le_trans (Txt.slice_le z _ _) hz, fin⟩)
 | int i ui =>
  cases pu with
  | none => exact wpAny_getItem_str_slice (l := some (i, ui)) (u := none) (st := none) ⟨o, ho, hc, hd⟩ rfl (post_val_or_str ⟨Nat.le_trans (Txt.slice_le z _ _) hz, fin⟩)
  | int j uj => exact wpAny_getItem_str_slice (l := some (i, ui)) (u := some (j, uj)) (st := none) ⟨o, ho, hc, hd⟩ rfl (post_val_or_str ⟨Nat.le_trans (Txt.slice_le z _ _) hz, fin⟩)
def valView (a d : Addr) : HO := .ext fun h => h.IsValuesView a d
theorem mt_values : MtR X "dict.values" (fun x vs H Q => ∃ d kvs, x = .ref d ∧ vs = [] ∧ Rd H d (.dK kvs) ∧ ∀ p, H p = none → Q (.ref p) (upd H p (valView p d))) := by
 intro pins s σ H x xs v us Q I rx rv h
 obtain ⟨d, kvs, rfl, rfl, hd, q⟩ := h
 cases rx
 cases rv
 obtain ⟨z, hs, vs, rel, dd⟩ := dk_rd I.hok hd
 refine call_meetsIn PySem.F.slot_dict_values dd.typeIs PySem.F.entry_dict_values (PySem.F.args_dict_values_1 _) (meets_dict_values (mixKind X.prog X.w) d hs) ⟨⟨vs, dd⟩, ?_⟩
 have hv : (s.heap.push ({ cls := .type "dict_values", data := .fields #[.ref d] } : Obj)).IsValuesView s.heap.objs.size d := ⟨_, Heap.get?_push_size _ rfl, rfl, rfl⟩
 refine ⟨.ref s.heap.objs.size, _, I.laid (t' := s.toks) (o := valView s.heap.objs.size d) (fun b ob e => Heap.get?_push_of_some _ e) (Nat.le_refl _) ⟨hv, ⟨_, Heap.get?_push_size _ rfl⟩, fun h1 h2 ⟨o, e, r⟩ k => ⟨o, k o e, r⟩⟩, rfl, q _ (I.hok.fresh (Nat.le_refl _))⟩
theorem vals_of_items {P : Nat → Value → Prop} {n : Nat} : ∀ {acc : List Value} (ys : List V), ItemsOf P acc.toArray n → ys.length = n → (∀ i v y, P i v → ys[i]? = some y → RelV y v) → Vals ys acc := by
 intro acc ys h hl hP
 obtain ⟨h1, h2⟩ := h
 have e1 : acc.length = ys.length := by rw [hl, ← h1]; simp
 have key : ∀ (ys : List V) (acc : List Value), acc.length = ys.length → (∀ (i : Nat) v y, acc[i]? = some v → ys[i]? = some y → RelV y v) → Vals ys acc := by
  intro ys
  induction ys with
  | nil =>
   intro acc e _
   have : acc = [] := List.eq_nil_of_length_eq_zero (by simpa using e)
   subst this
   exact .nil
  | cons y r ih =>
   intro acc e h
   cases acc with
   | nil => simp at e
   | cons v a =>
    refine .cons (h 0 v y rfl rfl) (ih a (by simpa using e) fun i v' y' e1 e2 => h (i + 1) v' y' (by simpa using e1) (by simpa using e2))
 exact key ys acc e1 fun i v y e1 e2 => hP i v y (h2 i v (by simpa using e1)) e2
theorem KV.getVal {κ : Type} {kvs : List (κ × V)} {vs : List (κ × Value)} (r : KV kvs vs) : ∀ {i : Nat} {k : κ} {x : Value} {y : κ × V}, vs[i]? = some (k, x) → kvs[i]? = some y → y.1 = k ∧ RelV y.2 x := by
 unfold KV at r
 induction r with
 | nil => intro i k x y e; simp at e
 | cons h t ih =>
  intro i k x y e1 e2
  cases i with
  | zero =>
   simp at e1 e2
   subst e2
   rw [e1] at h
   exact h
  | succ i => exact ih (by simpa using e1) (by simpa using e2)
theorem list_kdl {T : String} {r d : Addr} {P : Nat → Value → Prop} {OK : Heap → Prop} {ys : List V} {pins : List (Addr × Obj)} {s : Shared} {σ : St} {H : Hp} {Q : VK} (hc : X.calm = true) (I : Inv X pins σ H s) (Kd : PySem.W.KdlSrc X.prog X.w T r d ys.length P OK) (hok : OK s.heap) (hz : ys.length ≤ sizeLine)
  (hP : ∀ i v y, P i v → ys[i]? = some y → RelV y v) (q : ∀ l, H l = none → Q (.ref l) (upd H l (.lst ys))) : wpAny (model X.prog X.w) X.A (call (.type "list") [.ref r]) (EP X pins σ Q) X.xe s := by
 refine PySem.W.kdl_call Kd (I.ok.hd hc) hok hz fun h' tk acc' c' kp e hacc => ?_
 refine ⟨.ref s.heap.objs.size, _, I.laid (t' := tk) (o := .lst ys) kp (Nat.le_refl _) ⟨hz, acc'.toList, c', vals_of_items (acc := acc'.toList) ys (by simpa using hacc) rfl hP, by simpa using e⟩, rfl, q _ (I.hok.fresh (Nat.le_refl _))⟩
theorem call_listD (hc : X.calm = true) : CallR X (.type "list") (fun xs H Q => ∃ d kvs, xs = [.ref d] ∧ Rd H d (.dK kvs) ∧ ∀ l, H l = none → Q (.ref l) (upd H l (.lst (kvs.map fun kv => kV kv.1)))) := by
 intro pins s σ H xs us Q I r h
 obtain ⟨d, kvs, rfl, hd, q⟩ := h
 obtain ⟨u, rfl, ru⟩ := vals1 r
 cases ru
 obtain ⟨z, hs, vs, rel, dd⟩ := dk_rd I.hok hd
 obtain ⟨ep, hat⟩ := dd.dictAt
 have e := rel.length
 have Kd := PySem.W.kdl_dict (prog := X.prog) (w := X.w) (knd := mixKind X.prog X.w) (kvs := vs) (ep := ep) hs
 have el : (kvs.map fun kv => kV kv.1).length = vs.length := by rw [List.length_map, e]
 rw [← el] at Kd
 refine list_kdl (ys := kvs.map fun kv => kV kv.1) hc I Kd hat (by rw [List.length_map]; exact z) (fun i v y hv hy => ?_) q
 obtain ⟨k, x, hx, hk⟩ := hv
 rw [List.getElem?_map] at hy
 cases q2 : kvs[i]? with
 | none => rw [q2] at hy; cases hy
 | some kv =>
  rw [q2] at hy
  cases hy
  obtain ⟨e1, _⟩ := rel.getVal hx q2
  rcases keyIs_shape (show keyIs k v = true from hk) with ⟨i', t', rfl, rfl⟩ | ⟨x', t', rfl, rfl⟩
  ·show RelV (kV kv.1) _
   rw [e1]; exact ⟨t', rfl⟩
  ·show RelV (kV kv.1) _
   rw [e1]; exact ⟨t', rfl⟩
theorem call_listV (hc : X.calm = true) : CallR X (.type "list") (fun xs H Q => ∃ p d kvs, xs = [.ref p] ∧ H p = some (valView p d) ∧ Rd H d (.dK kvs) ∧ ∀ l, H l = none → Q (.ref l) (upd H l (.lst (kvs.map fun kv => kv.2)))) := by
 intro pins s σ H xs us Q I r h
 obtain ⟨p, d, kvs, rfl, hp, hd, q⟩ := h
 obtain ⟨u, rfl, ru⟩ := vals1 r
 cases ru
 obtain ⟨z, hs, vs, rel, dd⟩ := dk_rd I.hok hd
 obtain ⟨ep, hat⟩ := dd.dictAt
 have e := rel.length
 obtain ⟨hv, _, _⟩ : s.heap.IsValuesView p d ∧ _ ∧ _ := I.hok p _ hp
 have Kd := PySem.W.kdl_values (prog := X.prog) (w := X.w) (knd := mixKind X.prog X.w) (r := p) (d := d) (kvs := vs) (ep := ep)
 have el : (kvs.map fun kv => kv.2).length = vs.length := by rw [List.length_map, e]
 rw [← el] at Kd
 refine list_kdl (ys := kvs.map fun kv => kv.2) hc I Kd ⟨hv, hat⟩ (by rw [List.length_map]; exact z) (fun i v y hv hy => ?_) q
 obtain ⟨k, hx⟩ := hv
 rw [List.getElem?_map] at hy
 cases q2 : kvs[i]? with
 | none => rw [q2] at hy; cases hy
 | some kv =>
  rw [q2] at hy
  cases hy
  exact (rel.getVal hx q2).2
end
def RdD (K : PySem.W.Frag) (H : Hp) : Nat → V → PyData → Prop
 | _, .non, d => d = .none
 | _, .bl b, d => d = .bool b
 | _, .int i, d => d = .int i
 | _, .str x, d => PyData.strOk x = true ∧ d = .str x
 | n + 1, .ref a, d => (∃ xs ds, SqL K H a xs ∧ d = .list ds ∧ Paired (RdD K H n) xs ds) ∨ ∃ xs ds, SqT K H a xs ∧ d = .tuple ds ∧ Paired (RdD K H n) xs ds
 | _, _, _ => False
section
variable {X : Cx} {pins : List (Addr × Obj)} {σ : St} {H : Hp} {s : Shared}
theorem RdD.reads (I : Inv X pins σ H s) : ∀ (n : Nat) (v : V) (d : PyData) (u : Value), RdD X.K H n v d → RelV v u → (∃ as, Reads s.heap u d as) ∧ d.canLay0 = true ∧ d.depth ≤ n := by
 intro n
 induction n with
 | zero =>
  intro v d u h r
  cases v <;> simp only [RdD] at h
  ·subst h; cases r; exact ⟨⟨_, .none⟩, rfl, Nat.le_refl _⟩
  ·subst h; cases r; exact ⟨⟨_, .bool _⟩, rfl, Nat.le_refl _⟩
  ·subst h; obtain ⟨t, rfl⟩ := r; exact ⟨⟨_, .int _ _⟩, rfl, Nat.le_refl _⟩
  ·obtain ⟨h1, rfl⟩ := h; obtain ⟨t, rfl⟩ := r; exact ⟨⟨_, .str _ _⟩, h1, Nat.le_refl _⟩
 | succ n ih =>
  have all : ∀ (xs : List V) (ds : List PyData) (us : List Value), Paired (RdD X.K H n) xs ds → Vals xs us → (∃ as, ReadsAll s.heap us ds as) ∧ PyData.canLayAll0 ds = true ∧ PyData.depthAll ds ≤ n := by
   intro xs ds us p
   induction p generalizing us with
   | nil => intro r; cases r; exact ⟨⟨_, .nil⟩, rfl, Nat.zero_le _⟩
   | cons h t ih2 =>
    intro r
    cases r with
    | cons r1 r2 =>
     obtain ⟨⟨as, a1⟩, a2, a3⟩ := ih _ _ _ h r1
     obtain ⟨⟨bs, b1⟩, b2, b3⟩ := ih2 _ r2
     exact ⟨⟨_, .cons a1 b1⟩, by simp [PyData.canLayAll0, a2, b2], by simp only [PyData.depthAll]; omega⟩
  intro v d u h r
  cases v <;> simp only [RdD] at h
  ·subst h; cases r; exact ⟨⟨_, .none⟩, rfl, Nat.zero_le _⟩
  ·subst h; cases r; exact ⟨⟨_, .bool _⟩, rfl, Nat.zero_le _⟩
  ·subst h; obtain ⟨t, rfl⟩ := r; exact ⟨⟨_, .int _ _⟩, rfl, Nat.zero_le _⟩
  ·obtain ⟨h1, rfl⟩ := h; obtain ⟨t, rfl⟩ := r; exact ⟨⟨_, .str _ _⟩, h1, Nat.zero_le _⟩
  ·cases r
   rcases h with ⟨xs, ds, hq, rfl, p⟩ | ⟨xs, ds, hq, rfl, p⟩
   ·obtain ⟨its, rv, ⟨o, m, e, c, _, dd⟩, _⟩ := I.list hq
    obtain ⟨⟨as, a1⟩, a2, a3⟩ := all xs ds its p rv
    exact ⟨⟨_, .list e c dd (by simpa using a1)⟩, by simpa [PyData.canLay0] using a2, by simp only [PyData.depth]; omega⟩
   ·obtain ⟨its, rv, ⟨o, e, c, m, dd⟩, _⟩ := I.tuple hq
    obtain ⟨⟨as, a1⟩, a2, a3⟩ := all xs ds its p rv
    exact ⟨⟨_, .tuple e c dd (by simpa using a1)⟩, by simpa [PyData.canLay0] using a2, by simp only [PyData.depth]; omega⟩
def rEqD (K : PySem.W.Frag) (neg : Bool) : R2 := fun x y H Q => ∃ n dx dy, n ≤ 64 ∧ RdD K H n x dx ∧ RdD K H n y dy ∧ Q (.bl (if neg then !PyData.eqv dx dy else PyData.eqv dx dy)) H
theorem op_eqD (hu : X.A.units + 64 < cLine) : OpR X (compareOp .Eq) (rEqD X.K false) := by
 intro pins s σ H x y v u Q I rx ry h
 obtain ⟨n, dx, dy, hn, h1, h2, q⟩ := h
 obtain ⟨⟨as, a1⟩, a2, a3⟩ := RdD.reads I n x dx v h1 rx
 obtain ⟨⟨bs, b1⟩, b2, b3⟩ := RdD.reads I n y dy u h2 ry
 have sx : SeqAt.shaped dx = true := by unfold SeqAt.shaped; rw [a2, decide_eq_true (by omega)]; rfl
 have sy : SeqAt.shaped dy = true := by unfold SeqAt.shaped; rw [b2, decide_eq_true (by omega)]; rfl
 exact SeqAt.compareEq_shaped a1 b1 sx sy hu ⟨.bl _, H, I, rfl, q⟩
theorem op_neD (hu : X.A.units + 64 < cLine) : OpR X (compareOp .NotEq) (rEqD X.K true) := by
 intro pins s σ H x y v u Q I rx ry h
 obtain ⟨n, dx, dy, hn, h1, h2, q⟩ := h
 obtain ⟨⟨as, a1⟩, a2, a3⟩ := RdD.reads I n x dx v h1 rx
 obtain ⟨⟨bs, b1⟩, b2, b3⟩ := RdD.reads I n y dy u h2 ry
 have sx : SeqAt.shaped dx = true := by unfold SeqAt.shaped; rw [a2, decide_eq_true (by omega)]; rfl
 have sy : SeqAt.shaped dy = true := by unfold SeqAt.shaped; rw [b2, decide_eq_true (by omega)]; rfl
 exact SeqAt.compareNe_shaped a1 b1 sx sy hu ⟨.bl _, H, I, rfl, q⟩
end
end L2
namespace L2
open PySem PySem.Spec PyProof.Rows
structure Can (P : Program) (w : World) (K : PySem.W.Frag) (mg : Str → Option Value) (base : Heap) (k : Nat) (x : Str) (ps : List Str) (sp : Sp) : Prop where
 ex : ∃ (f : Addr) (fd : FuncData), FnOk P w K mg base CX0 k f fd ps sp ∧ mg x = some (.ref f) ∧ PySem.W.keepIn K (.ref f) = true ∧ Binds K fd ps []
structure CanM (P : Program) (w : World) (K : PySem.W.Frag) (mg : Str → Option Value) (base : Heap) (k : Nat) (C : Addr) (m : Str) (ps : List Str) (sp : Sp) : Prop where
 ex : ∃ (f : Addr) (fd : FuncData), FnOk P w K mg base CX0 k f fd ps sp ∧ Meth K C m f ∧ Binds K fd ps []
structure CanI (P : Program) (w : World) (K : PySem.W.Frag) (mg : Str → Option Value) (base : Heap) (k : Nat) (C : Addr) (ps : List Str) (sp : Sp) : Prop where
 ex : ∃ (f : Addr) (fd : FuncData), FnOk P w K mg base CX0 k f fd ps sp ∧ Mk K C f ∧ Binds K fd ps []
section
variable {P : Program} {w : World} {K : PySem.W.Frag} {mg : Str → Option Value} {base : Heap} {j k : Nat} {x m : Str} {ps : List Str} {sp sp' : Sp} {C : Addr}
end
section
variable {X : Cx} {k : Nat} {x m : Str} {ps : List Str} {sp : Sp} {C : Addr} {p pos apos : Pos} {e o : Expr} {es : List Expr} {ta : TE} {t : TA}
theorem pe_callC (c : Can X.prog X.w X.K X.mg X.base k x ps sp) (hr : Room k X.A) (hg : Gl X x) (ha : PA X (e :: es) t) (hdb : (x == ("__debug__" : Str)) = false := by decide)
  (he : starEach (e :: es) X.env = (false, eval e X.env) :: starEach es X.env := by rfl) (hpl : (backTo pos (starEach es X.env)).any (·.1) = false := by rfl) :
  PE X (.Call (.Name x p) (e :: es) [] pos) (tCall sp [] E0 t) := by
 obtain ⟨f, fd, F, hm, hk, hb⟩ := c.ex
 exact pe_call F hr hg hm hk hb .nil pass0 ha hdb he hpl
theorem pe_methC {pl : Sem Bool} (ho : PE X o ta) (c : Cls X.K C) (h : CanM X.prog X.w X.K X.mg X.base k C m ps sp) (hr : Room k X.A) (ha : PA X (e :: es) t)
  (hst : starEach (e :: es) X.env = (false, eval e X.env) :: starEach es X.env := by rfl) (hpl : (backTo pos (starEach es X.env)).any (·.1) = false := by rfl)
  (ht : eval (.Call (.Attribute o m apos) (e :: es) [] pos) X.env = (do
   let ov ← eval o X.env
   standAt apos.atName
   let (f, first) ← holding [ov] (getMethod ov m pl)
   callWith pos f first (backTo pos (starEach (e :: es) X.env)) (backToKw pos (keywordEach [] X.env))) := by rfl) :
  PE X (.Call (.Attribute o m apos) (e :: es) [] pos) (tMeth C m sp [] E0 ta t) := by
 obtain ⟨f, fd, F, hm, hb⟩ := h.ex
 exact pe_meth ho c hm F hr hb .nil pass0 ha hst hpl ht
theorem pe_methC0 {pl : Sem Bool} (ho : PE X o ta) (c : Cls X.K C) (h : CanM X.prog X.w X.K X.mg X.base k C m ps sp) (hr : Room k X.A)
  (ht : eval (.Call (.Attribute o m apos) [] [] pos) X.env = (do
   let ov ← eval o X.env
   standAt apos.atName
   let (f, first) ← holding [ov] (getMethod ov m pl)
   callWith pos f first (backTo pos (starEach [] X.env)) (backToKw pos (keywordEach [] X.env))) := by rfl) :
  PE X (.Call (.Attribute o m apos) [] [] pos) (tMeth C m sp [] E0 ta tNil) := by
 obtain ⟨f, fd, F, hm, hb⟩ := h.ex
 exact pe_meth0 ho c hm F hr hb .nil pass0 ht
theorem pe_makeC0 (h : CanI X.prog X.w X.K X.mg X.base k C ps sp) (hr : Room (k + 1) X.A) (hg : Gl X x) (hm : X.mg x = some (.ref C)) (hdb : (x == ("__debug__" : Str)) = false := by decide) :
  PE X (.Call (.Name x p) [] [] pos) (tMake C sp [] E0 tNil) := by
 obtain ⟨f, fd, F, M, hb⟩ := h.ex
 exact pe_make0 M F hr hg hm hb .nil pass0 hdb
end
def GlobIs (mg : Str → Option Value) (x : Str) (v : V) : Prop := ∃ u, mg x = some u ∧ RelV v u
theorem pe_globC {X : Cx} {x : Str} {v : V} {pos : Pos} (h : GlobIs X.mg x v) (hg : Gl X x) (hd : (x == ("__debug__" : Str)) = false := by decide) : PE X (.Name x pos) (tC v) := by
 obtain ⟨u, hm, r⟩ := h
 exact pe_glob hg hm r hd
theorem pe_ty {X : Cx} {x : Str} {T : String} {pos : Pos} (hm : X.mg x = none) (hg : Gl X x) (hv : bootBuiltins x = some (.type T)) (hn : x ≠ "__name__" := by decide) (hd : (x == ("__debug__" : Str)) = false := by decide) : PE X (.Name x pos) (tC (.ty T)) :=
 pe_bltn hg hm hv (show RelV (.ty T) (.type T) from rfl) hn hd
end L2
namespace L2
open PySem
theorem b_all : bootBuiltins "all" = some (.builtin "all") := by decide +kernel
theorem b_isi : bootBuiltins "isinstance" = some (.builtin "isinstance") := by decide +kernel
theorem b_len : bootBuiltins "len" = some (.builtin "len") := by decide +kernel
theorem b_str : bootBuiltins "str" = some (.type "str") := by decide +kernel
theorem b_int : bootBuiltins "int" = some (.type "int") := by decide +kernel
theorem b_bool : bootBuiltins "bool" = some (.type "bool") := by decide +kernel
theorem b_list : bootBuiltins "list" = some (.type "list") := by decide +kernel
theorem Same.upd {H H' : Hp} {p : Addr} {o : HO} (e : Same H H') (h : H' p = none) : Same H (L2.upd H' p o) := fun b ob z => by
 rw [upd_ne (ne_of_none (e b ob z) h)]
 exact e b ob z
theorem Same.new {H : Hp} {p : Addr} {o : HO} (h : H p = none) : Same H (L2.upd H p o) := (Same.refl H).upd h
end L2
namespace L2
open PySem
theorem slice_same (x : Str) (l u : Option Int) : Txt.slice x l u = StrLaws.sliceText x l u := rfl
theorem idx_clip (a b n : Nat) (h : n ≤ b) : Builtin.Str.strSliceIndices (some (a : Int)) (some (b : Int)) 1 n = Builtin.Str.strSliceIndices (some (a : Int)) (some (n : Int)) 1 n := by
 unfold Builtin.Str.strSliceIndices
 have e1 : ¬ ((b : Int) < 0) := by omega
 have e2 : ¬ ((n : Int) < 0) := by omega
 have e3 : min (b : Int) (n : Int) = n := by omega
 simp [e1, e2, e3]
theorem slice_list (z : Str) {a b : Nat} (ha : a ≤ z.length) (hab : a ≤ b) : (Txt.slice z (some (a : Int)) (some (b : Int))).cps.toList = (z.cps.toList.drop a).take (b - a) := by
 rw [slice_same]
 by_cases hb : b ≤ z.length
 ·rw [StrLaws.sliceText_nat z hab hb]
 ·have hb' : z.length ≤ b := by omega
  have e : StrLaws.sliceText z (some (a : Int)) (some (b : Int)) = StrLaws.sliceText z (some (a : Int)) (some (z.length : Int)) := by
   unfold StrLaws.sliceText
   rw [idx_clip a b z.length hb']
  rw [e, StrLaws.sliceText_nat z ha (Nat.le_refl _)]
  show (z.cps.toList.drop a).take (z.length - a) = _
  have hl : (z.cps.toList.drop a).length = z.length - a := by rw [List.length_drop]; rfl
  rw [List.take_of_length_le (by omega), List.take_of_length_le (by omega)]
theorem slice_to (z : Str) (b : Nat) : (Txt.slice z none (some (b : Int))).cps.toList = z.cps.toList.take b := by
 have e : Txt.slice z none (some (b : Int)) = Txt.slice z (some ((0 : Nat) : Int)) (some (b : Int)) := by
  rw [slice_same, slice_same]
  unfold StrLaws.sliceText
  rw [StrLaws.sliceIdx_none_lo]
  rfl
 rw [e, slice_list z (Nat.zero_le _) (Nat.zero_le _)]
 simp
theorem slice_from (z : Str) {a : Nat} (ha : a ≤ z.length) : (Txt.slice z (some (a : Int)) none).cps.toList = z.cps.toList.drop a := by
 have e : Txt.slice z (some (a : Int)) none = Txt.slice z (some (a : Int)) (some ((z.length : Nat) : Int)) := by
  rw [slice_same, slice_same]
  unfold StrLaws.sliceText
  rw [StrLaws.sliceIdx_none_hi]
 rw [e, slice_list z ha ha]
 have hl : (z.cps.toList.drop a).length = z.length - a := by rw [List.length_drop]; rfl
 rw [List.take_of_length_le (by omega)]
end L2
namespace L2
open PySem
def tCut (R : St → Hp → Prop) (t u : TS) : TS := fun D σ H => t { D with nx := R } σ H ∧ ∀ σ' H', R σ' H' → u D σ' H'
theorem pss_cut {X : Cx} {st : Stmt} {rest : List Stmt} {t u : TS} (R : St → Hp → Prop) (h1 : PS X st t) (h2 : PSs X rest u) : PSs X (st :: rest) (tCut R t u) := by
 intro pins s σ H D I h
 refine wpAny_execs_cons (thn (h1 pins s σ H { D with nx := R } I h.1) fun f s1 q => ?_)
 cases f with
 | next =>
  obtain ⟨σ', H', I', q⟩ := q
  exact h2 pins s1 σ' H' D I' (h.2 σ' H' q)
 | ret v => exact q
 | brk => exact q
 | cont => exact q
end L2
namespace L2
open PySem
end L2
namespace L2
open PySem
section
variable {X : Cx}
theorem pe_fldK {e : Expr} {f : Str} {pos : Pos} {ta : TE} (K : PySem.W.Frag) (hK : X.K = K) (he : PE X e ta) (hb : attributeBase e f X.env (eval e X.env) = eval e X.env) : PE X (.Attribute e f pos) (tFld K ta f) := by
 subst hK
 exact pe_fld he hb
theorem ix_listK (K : PySem.W.Frag) (hK : X.K = K) : IxR X (rIxL K) := by
 subst hK
 exact ix_list
theorem ix_tupK (K : PySem.W.Frag) (hK : X.K = K) : IxR X (rIxT K) := by
 subst hK
 exact ix_tup
theorem op_inK (K : PySem.W.Frag) (hK : X.K = K) : OpR X (compareOp .In) (rIn K false) := by
 subst hK
 exact op_in_seq
theorem op_notInK (K : PySem.W.Frag) (hK : X.K = K) : OpR X (compareOp .NotIn) (rIn K true) := by
 subst hK
 exact op_notIn_seq
end
end L2
namespace L2
theorem iteFb {b : Bool} {A B : Prop} (h : b = false) (hB : B) : if b = true then A else B := by rw [h]; exact iteF hB
theorem iteTb {b : Bool} {A B : Prop} (h : b = true) (hA : A) : if b = true then A else B := by rw [h]; exact iteT hA
end L2
namespace L2
open PySem
def tCutE (t u : TS) : TS := fun D σ H => ∃ R : St → Hp → Prop, t { D with nx := R } σ H ∧ ∀ σ' H', R σ' H' → u D σ' H'
def tViaE (t : TE) : TE := fun σ H Q => ∃ R : V → Hp → Prop, t σ H R ∧ ∀ v H1, R v H1 → Q v H1
theorem pe_viaE {X : Cx} {e : Expr} {t : TE} (h : PE X e t) : PE X e (tViaE t) := by
 intro pins s σ H Q I q
 obtain ⟨R, q1, q2⟩ := q
 exact thn (h pins s σ H R I q1) fun v s1 ⟨x, H1, I1, r, q3⟩ => ⟨x, H1, I1, r, q2 x H1 q3⟩
theorem pss_cutE {X : Cx} {st : Stmt} {rest : List Stmt} {t u : TS} (h1 : PS X st t) (h2 : PSs X rest u) : PSs X (st :: rest) (tCutE t u) := by
 intro pins s σ H D I h
 obtain ⟨R, ha, hb⟩ := h
 exact pss_cut R h1 h2 pins s σ H D I ⟨ha, hb⟩
end L2
namespace L2
open PySem
end L2
namespace L2
open PySem PySem.Spec PyProof.Rows
section
variable {P : Program} {w : World} {l : List Env} {H H' : Hp} {h0 h1 h2 B : Heap}
end
section
variable {X : Cx} {pins : List (Addr × Obj)} {σ : St} {H : Hp} {s s' : Shared} {E : XK} {M : Model} {E2 : Value → Shared → Prop}
end
section
variable {P : Program} {w : World} {K : PySem.W.Frag} {mg : Str → Option Value} {base : Heap}
end
section
variable {P : Program} {w : World} {K : PySem.W.Frag} {mg : Str → Option Value} {base : Heap} {j k : Nat} {x m : Str} {ps : List Str} {sp sp' : Sp} {C : Addr}
end
section
variable {X : Cx} {k : Nat} {x m : Str} {ps : List Str} {sp : Sp} {C : Addr} {p pos apos : Pos} {e o : Expr} {es : List Expr} {ta : TE} {t : TA} {E : XK}
end
section
variable {X : Cx}
end
end L2
namespace L2
open PySem
section
variable {X : Cx} {k : Nat} {x m : Str} {ps : List Str} {sp : Sp} {C : Addr} {p pos apos : Pos} {e o : Expr} {es : List Expr} {ta : TE} {t : TA}
end
end L2
namespace L2
open PySem PySem.Spec PyProof.Rows
namespace Tx
open Builtin Builtin.Str PySem.StrLaws
end Tx
end L2
namespace L2
open PySem PySem.Spec PyProof.Rows
namespace Tx
open PySem.NumText PySem.W
end Tx
section
variable {X : Cx}
end
theorem Inv.turnedL {X : Cx} {pins : List (Addr × Obj)} {σ : St} {H : Hp} {s : Shared} {h' : Heap} {t' : Nat} {fp : List Addr} (I : Inv X pins σ H s) (k : ∀ b o, b ∉ fp → s.heap.get? b = some o → h'.get? b = some o) (hf : ∀ b ∈ fp, FpOk X pins H b) :
  Inv X pins σ H { s with heap := h', toks := t' } := by
 have nf : ∀ b u, H b = some u → b ∉ fp := fun b u e z => by rw [(hf b z).1] at e; cases e
 have nL : X.env.locals ∉ fp := fun z => (hf _ z).2.1 rfl
 refine I.step (g' := s.gens) (d' := s.drawn) (ch := fp) (fun b hb => ?_) (fun b o _ _ hc e _ => k b o hc e) (fun b o _ _ hc e _ => ⟨o.slots, k b o hc e⟩) (fun _ _ _ _ n => n)
  (fun b o hc e => ⟨o, k b o hc e⟩) (fun _ _ e => e) (fun _ _ _ e => e) (fun b ps e => ⟨#[], by rw [e]; simp⟩) (fun m hm => ?_) (fun b u e => ?_) I.bare
 ·obtain ⟨_, g1, _, g3, g4, g5⟩ := hf b hb
  exact ⟨g3, g1, g4, g5⟩
 ·obtain ⟨o, es, ep, ho, r⟩ := hm
  exact ⟨o, es, ep, k _ o nL ho, r⟩
 ·refine (I.hok b u e).stay (fun c v hc q => k c v ?_ q) (fun _ q => q) fun _ _ q => q
  rcases hc with z | z
  ·rw [z]; exact nf b u e
  ·exact nf c _ z
def Ite (K : PySem.W.Frag) (a : Addr) : It :=
 ⟨fun i H => ∃ xs x, SqL K H a xs ∧ xs[i]? = some x, fun i H v H' => ∃ t, H t = none ∧ v = .ref t ∧ ∀ xs, SqL K H a xs → ∃ x, xs[i]? = some x ∧ H' = upd H t (.tup [.int i, x]), fun i H => ∃ xs, SqL K H a xs ∧ xs.length ≤ i⟩
theorem turn_enum {P : Program} {w : World} {K : PySem.W.Frag} {elts : List Expr} {k : Nat} {pos : Pos} (a e it : Addr) (ne : e ≠ it) : Turn P w K (.Tuple elts k pos) (Ite K a) [e, it] e (fun i h => (∃ old, IsEnum h e it i old) ∧ h.IsListIter it a i) where
 mem := by simp
 obj := fun i h st b hb => by
  obtain ⟨⟨old, he⟩, o, hi, hc, hd⟩ := st
  simp at hb
  rcases hb with rfl | rfl
  ·exact ⟨_, he, fun v z => by cases z⟩
  ·exact ⟨o, hi, fun v z => by rw [hd] at z; cases z⟩
 keep := fun i h h' st kp => by
  obtain ⟨⟨old, he⟩, hi⟩ := st
  exact ⟨⟨old, kp e (by simp) _ he⟩, hi.at fun o x => kp it (by simp) o x⟩
 item := by
  intro X hP hw hK hc i pins s σ H E I hf st hg
  subst hP hw hK
  obtain ⟨⟨old, he⟩, hit⟩ := st
  obtain ⟨xs, x, hq, hx⟩ := hg
  obtain ⟨its, rv, p, hz⟩ := I.list hq
  obtain ⟨u, hu, ru⟩ := rv.get hx
  have le : e < s.heap.objs.size := Heap.lt_size he
  have li : it < s.heap.objs.size := by obtain ⟨_, y, _⟩ := hit; exact Heap.lt_size y
  refine wpAny_pyNext_enum_item he hit p.isList (x := u) (by simpa using hu) ne fun h' ho hit' hT hsz hk => ⟨_, rfl, ?_⟩
  refine wpAny_letOwnedTupleGo_enum ho fun h2 he2 hs2 => ?_
  have I1 : Inv X pins σ (upd H s.heap.objs.size (.tup [.int i, x])) { s with heap := s.heap.push { cls := .type "tuple", data := .seq #[.int i s.toks, u] }, toks := s.toks + 1 } :=
   I.laid (fun b o q => Heap.get?_push_of_some _ q) (Nat.le_refl _) ⟨by show 2 ≤ sizeLine; decide, [.int i s.toks, u], .cons ⟨_, rfl⟩ (.cons ru .nil), ⟨_, Heap.get?_push_size _ rfl, rfl, _, rfl⟩⟩
  have nn : ∀ b ∈ [e, it], b ≠ s.heap.objs.size := fun b hb => by
   simp at hb
   rcases hb with rfl | rfl
   ·exact Nat.ne_of_lt le
   ·exact Nat.ne_of_lt li
  have I2 : Inv X pins σ (upd H s.heap.objs.size (.tup [.int i, x])) { s with heap := h2, toks := s.toks + 1 } := by
   refine Inv.turnedL (s := { s with heap := s.heap.push { cls := .type "tuple", data := .seq #[.int i s.toks, u] }, toks := s.toks + 1 }) I1 (h' := h2) (t' := s.toks + 1) (fp := [e, it]) (fun b o hb q => ?_) fun b hb => ?_
   ·have b1 : b ≠ e := fun z => hb (by simp [z])
    have b2 : b ≠ it := fun z => hb (by simp [z])
    refine (hs2.2 b b1).trans ?_
    rcases Heap.get?_push_cases q with ⟨z1, z2⟩ | z
    ·rw [z1, z2]; exact hT
    ·exact hk b o b1 b2 z
   ·obtain ⟨f0, f1, f2, f3, f4, f5⟩ := hf b hb
    exact ⟨by rw [upd_ne (nn b hb)]; exact f0, f1, f2, f3, f4, f5⟩
  refine ⟨.ref s.heap.objs.size, _, I2, rfl, ⟨_, I.fresh, rfl, fun ys hy => ⟨x, by rw [I.list_inj hy hq]; exact hx, rfl⟩⟩, ⟨⟨_, he2⟩, hit'.at fun o y => (hs2.2 it ne.symm).trans y⟩, fun b hb => ?_⟩
  rw [upd_ne (nn b hb)]
  exact (hf b hb).1
 done := by
  intro X hP hw hK hc i pins s σ H E I hf st hg
  subst hP hw hK
  obtain ⟨⟨old, he⟩, hit⟩ := st
  obtain ⟨xs, hq, hx⟩ := hg
  obtain ⟨its, rv, p, hz⟩ := I.list hq
  have hl := rv.length
  exact wpAny_pyNext_enum_end (I.ok.hd hc) he hit p.isList (by simp; omega) fun h' eb => ⟨rfl, I.turnedL (t' := s.toks) (fp := [e, it]) (fun b o hb y => eb b o (fun z => hb (by simp [z])) y) hf⟩
 self := fun _ _ _ _ _ st h => wpAny_pyIter_enum st.1.choose_spec h
def iEnum (K : PySem.W.Frag) (ta : TA) : TI := fun σ H R => ta σ H fun vs H1 => ∃ a, vs = [.ref a] ∧ (∃ xs, SqL K H1 a xs) ∧ R (Ite K a) H1
theorem pi_enum {X : Cx} {elts : List Expr} {k : Nat} {tpos : Pos} {l : Expr} {ta : TA} {p pos : Pos} (hg : Gl X "enumerate") (hm : X.mg "enumerate" = none) (ha : PA X [l] ta) (hs : starEach [l] X.env = [(false, eval l X.env)] := by rfl) : PI X (.Tuple elts k tpos) (.Call (.Name "enumerate" p) [l] [] pos) (iEnum X.K ta) := by
 intro pins s σ H R I h
 refine Call_ (ld_blt (u := .type "enumerate") I hg hm (by kernel_rfl) (PyProof.Rows.callWith_type1 (thn (ha pos pins s σ H _ I h) fun us s1 ⟨vs, H1, I1, r1, q1⟩ => ?_) hs rfl))
 obtain ⟨a, rfl, ⟨xs, hq⟩, q⟩ := q1
 obtain ⟨u, rfl, ru⟩ := vals1 r1
 cases ru
 obtain ⟨its, rv, pl, hz⟩ := I1.list hq
 refine call_enumerate_list pl.isList fun h' hE hI hsz hk => wpAny_pyIter_enum hE ?_
 refine ⟨s1.heap.objs.size + 1, [s1.heap.objs.size + 1, s1.heap.objs.size], _, _, H1, rfl, I1.kept (t' := s1.toks) hk, turn_enum a _ _ (Nat.succ_ne_self _), ⟨⟨_, hE⟩, hI⟩, fun b hb => ?_, q⟩
 have hb' : s1.heap.objs.size ≤ b := by
  simp at hb
  rcases hb with rfl | rfl <;> omega
 exact I1.fpOk hb' (I1.hok.fresh hb')
theorem for_enum {K : PySem.W.Frag} {a : Addr} {xs : List V} {g : TG} {tb : TS} {D : Ends} {σ : St} {H : Hp} (Pv : Nat → St → Hp → Prop) (h0 : Pv 0 σ H) (hl : ∀ i σ H, i ≤ xs.length → Pv i σ H → SqL K H a xs)
  (hs : ∀ i x σ H t, xs[i]? = some x → Pv i σ H → H t = none → g (.ref t) σ (upd H t (.tup [.int i, x])) fun σ2 H2 => tb { D with nx := Pv (i + 1), ct := Pv (i + 1), bk := D.nx } σ2 H2) (hd : ∀ σ H, Pv xs.length σ H → D.nx σ H) :
  ∃ W : Nat → Nat → St → Hp → Prop, (∃ m, W 0 m σ H) ∧ ∀ i m σ H, W i m σ H →
   ((Ite K a).stop i H ∧ D.nx σ H) ∨ ((Ite K a).go i H ∧ ∃ N : St → Hp → Prop, (∀ σ' H', N σ' H' → ∃ m', m' < m ∧ W (i + 1) m' σ' H') ∧ ∀ x H', (Ite K a).yld i H x H' → g x σ H' fun σ2 H2 => tb { D with nx := N, ct := N, bk := D.nx } σ2 H2) := by
 refine ⟨fun i m σ H => m = xs.length - i ∧ i ≤ xs.length ∧ Pv i σ H, ⟨xs.length, by simp, Nat.zero_le _, h0⟩, ?_⟩
 rintro i m σ H ⟨rfl, hi, p⟩
 have q := hl i σ H hi p
 by_cases hlt : i < xs.length
 ·refine .inr ⟨⟨xs, xs[i], q, by simp [hlt]⟩, Pv (i + 1), fun σ' H' p' => ⟨xs.length - (i + 1), by omega, rfl, hlt, p'⟩, fun x H' y => ?_⟩
  obtain ⟨t, ht, rfl, y⟩ := y
  obtain ⟨x, hx, rfl⟩ := y xs q
  exact hs i x σ H t hx p ht
 ·have e : i = xs.length := by omega
  subst e
  exact .inl ⟨⟨xs, q, Nat.le_refl _⟩, hd σ H p⟩
end L2
namespace L2
open PySem PySem.Spec PyProof.Rows
theorem dl_entry : entryFor table "dict.update.loop" = some Builtin.«dict.update.loop» := entryFor_of_fast (by kernel_rfl)
theorem dl_plain : plainId "dict.update.loop" = true := by decide +kernel
theorem keys_miss : typeLookup (.type "list") ("keys" : Str) = pure none := am_miss_of_fast (by decide +kernel)
section
variable {prog : Program} {w : World} {A : Around} {E : Value → Shared → Prop} {s : Shared}
theorem no_keys {a : Addr} {xs : Array Value} {k : Nat} {Q : Option Value → Shared → Prop} {sl : Array (Option Value)} (hx : s.heap.get? a = some { cls := .type "list", dict := none, data := .seq xs k, slots := sl }) (hA : A.handled = none)
  (h : ∀ h' tk, (∀ b o, s.heap.get? b = some o → h'.get? b = some o) → Q none { s with heap := h', toks := tk }) : wpAny (model prog w) A (getAttr? (.ref a) "keys") Q E s := by
 obtain ⟨hp, g, d, tk, os⟩ := s
 have hT : ∀ tk', (⟨hp, g, d, tk', os⟩ : Shared).TypeIs (.ref a) "list" := fun _ => ⟨_, hx, rfl⟩
 have f1 := sub_AttributeError
 have f3 := F.slot_list_getattribute.lookup
 have f4 := F.slot_list_getattribute.bind (.ref a)
 have f5 := am_list_getattr_none
 unfold getAttr? getAttrBy? getAttrBy
 repeat (any_goals (first | assumption | exact hT _ | ((with_reducible show wpAny _ _ (call (Value.builtin "list.__getattribute__") _ _) _ _ _); refine call_meets F.slot_list_getattribute (hT _) am_entry_list_getattribute (F.args_list_getattribute_2 _ _) (meets_getattribute_miss_list a xs k sl "keys" _ keys_miss (by decide +kernel)) ⟨hx, hA, fun h' tk' e hx' => ?_⟩) | wp_step))
 obtain ⟨t', u', he⟩ := hx'.there
 show wpAny _ _ (getattributeRaised _ _ _ _ _ _ _) _ _ _
 unfold getattributeRaised
 repeat (any_goals (first | assumption | wp_step))
 exact h _ _ hx'.keeps
end
section
variable {prog : Program} {w : World} {A : Around} {R : Result → Shared → Prop} {I : Addr} {fp wr : List Addr} {n : Nat} {P : Nat → Value → Prop} {St : Nat → Heap → Prop}
theorem stored_len (vs : List (Key × Value)) (k : Key) (x : Value) : (stored vs k x).length ≤ vs.length + 1 := by
 unfold stored
 split <;> simp
theorem dict_loop (W : Walks prog w A.in1 I fp wr n P St) (D : Addr) (hD : D ∉ fp) (bs : List Addr) (ks : List (Key × Value)) (hk : ks.length = n)
  (hP : ∀ (i : Nat) (v : Value), P i v → ∃ b : Addr, v = .ref b ∧ bs[i]? = some b) (hsz : n ≤ sizeLine) (hw : ∀ b ∈ bs, b ∉ wr ∧ b ≠ D) :
  ∀ (k i : Nat) (s : Shared) (vs : List (Key × Value)) (j : Int), n - i = k → i ≤ n → St i s.heap → s.heap.DictOf (mixKind prog w) D vs → vs.length ≤ i →
  (∀ (j : Nat) (b : Addr) (kv : Key × Value), bs[j]? = some b → ks[j]? = some kv → ∃ u, keyIs kv.1 u = true ∧ IsTup s.heap b #[u, kv.2]) →
  (∀ h' tk, h'.DictOf (mixKind prog w) D (merged vs (ks.drop i)) → (∀ b o, b ∉ wr → b ≠ D → s.heap.get? b = some o → h'.get? b = some o) → R (.ok (.ret .none)) { s with heap := h', toks := tk }) →
  codeAny (model prog w) A (.builtin "dict.update.loop" ⟨[.ref D, .ref I, rawInt j, .none], []⟩) R s := by
 have hDw : D ∉ wr := fun h => hD (W.sub _ h)
 intro k
 induction k with
 | zero =>
  intro i s vs j hk' hi hst hd hl hb hR
  have hin : i = n := by omega
  subst hin
  refine codeAny_builtin dl_entry ?_
  rw [Around.under_plainId dl_plain _]
  show wpAny _ A.in1 (pyNext (.ref I) >>= _) _ _ s
  refine wpAny_bind (W.done s _ _ hst fun h' tk hk2 => ?_)
  show wpAny _ A.in1 (Builtin.Dict.addKeywords D [] >>= _) _ _ _
  refine wpAny_bind (wpAny_pure ?_)
  refine wpAny_pure (hR h' tk ?_ fun b o h1 _ e => hk2 b o h1 e)
  rw [List.drop_of_length_le (by omega)]
  exact hd.at fun o e => hk2 D o hDw e
 | succ k ih =>
  intro i s vs j hk' hi hst hd hl hb hR
  have hlt : i < n := by omega
  refine codeAny_builtin dl_entry ?_
  rw [Around.under_plainId dl_plain _]
  show wpAny _ A.in1 (pyNext (.ref I) >>= _) _ _ s
  refine wpAny_bind (W.item i s _ _ hlt hst fun v h1 tk hv hst1 hk1 => ?_)
  obtain ⟨b, rfl, eb⟩ := hP i v hv
  have hi2 : i < ks.length := by omega
  have ek : ks[i]? = some ks[i] := List.getElem?_eq_getElem hi2
  obtain ⟨u, hu, ho⟩ := hb i b _ eb ek
  obtain ⟨hbw, hbD⟩ := hw b (List.mem_of_getElem? eb)
  have ho1 : IsTup h1 b #[u, ks[i].2] := let ⟨o, e, r⟩ := ho; ⟨o, hk1 b o hbw e, r⟩
  obtain ⟨o, e, c, m, dd⟩ := ho1
  have hd1 : h1.DictOf (mixKind prog w) D vs := hd.at fun o e => hk1 D o hDw e
  show wpAny _ A.in1 (holding [Value.ref b] _ >>= _) _ _ _
  refine wpAny_bind (wpAny_holding ?_)
  refine wpAny_bind (wpAny_tryCatch ?_)
  unfold Builtin.Dict.pairItems
  refine wpAny_bind (wpAny_typeOf (T := "tuple") ⟨o, e, c⟩ ?_)
  rw [if_pos (by decide)]
  refine wpAny_bind (wpAny_seqItems e dd (wpAny_pure ?_))
  show wpAny _ A.in1 (holding [u, ks[i].2] (dictSet D u ks[i].2)) _ _ _
  refine wpAny_holding (wpAny_dictSet_pairs (knd := mixKind prog w) (k := ks[i].1) hu hd1 (fun h2 hd2 hs2 => ?_) (by omega))
  refine wpAny_pure ⟨plainId_quiet dl_plain _, ?_⟩
  refine ih (i + 1) _ (stored vs ks[i].1 ks[i].2) (j + 1) (by omega) (by omega) (W.frame _ _ _ hst1 fun b hb o e => ?_) hd2 (Nat.le_trans (stored_len _ _ _) (by omega)) (fun j' b' kv' e1 e2 => ?_) fun h3 tk3 hd3 hk3 => ?_
  ·exact (hs2.2 b (fun z => hD (z ▸ hb))).trans e
  ·obtain ⟨u', hu', ⟨o', e', r'⟩⟩ := hb j' b' kv' e1 e2
   obtain ⟨q1, q2⟩ := hw b' (List.mem_of_getElem? e1)
   exact ⟨u', hu', o', (hs2.2 b' q2).trans (hk1 b' o' q1 e'), r'⟩
  ·refine hR h3 tk3 ?_ fun b' o' q1 q2 e' => hk3 b' o' q1 q2 ((hs2.2 b' q2).trans (hk1 b' o' q1 e'))
   rw [List.drop_eq_getElem_cons hi2]
   exact hd3
theorem dict_pairs {E : Value → Shared → Prop} {s : Shared} {src : Addr} {its : Array Value} {c : Nat} {sl : Array (Option Value)} {Q : Value → Shared → Prop} (hh : A.handled = none) (hs : s.heap.get? src = some { cls := .type "list", dict := none, data := .seq its c, slots := sl })
  (bs : List Addr) (ks : List (Key × Value)) (hk : ks.length = its.size) (hP : ∀ (i : Nat) (v : Value), its[i]? = some v → ∃ b : Addr, v = .ref b ∧ bs[i]? = some b) (hsz : its.size ≤ sizeLine)
  (hb : ∀ (j : Nat) (b : Addr) (kv : Key × Value), bs[j]? = some b → ks[j]? = some kv → ∃ u, keyIs kv.1 u = true ∧ IsTup s.heap b #[u, kv.2]) (hbl : bs.length = ks.length)
  (h : ∀ h' tk, h'.DictOf (mixKind prog w) s.heap.objs.size (merged [] ks) → (∀ b o, s.heap.get? b = some o → h'.get? b = some o) → Q (.ref s.heap.objs.size) { s with heap := h', toks := tk }) :
  wpAny (model prog w) A (call (.type "dict") [.ref src]) Q E s := by
 refine callType_codes (Q₁ := fun x t₁ => x = .ref s.heap.objs.size ∧ t₁ = { s with heap := s.heap.push { cls := .type "dict", data := .dict #[] } }) F.kt_called_dict (F.kt_typeCall_dict_1 _) F.entry_dict_init (kt_code_dict_new _ ⟨rfl, rfl⟩) ?_
 rintro x t₁ ⟨rfl, rfl⟩
 have eD : (s.heap.push { cls := .type "dict", data := .dict #[] }).DictOf (mixKind prog w) s.heap.objs.size [] := Heap.DictOf.new s.heap
 have hl := Heap.get?_push_of_some { cls := .type "dict", data := .dict #[] } hs
 refine ⟨eD.typeIs, F.args_dict_init_2 _ _, ?_⟩
 unfold Builtin.«dict.__init__»; refine wpAny_bind ?_; unfold Builtin.Dict.selfAndRest
 refine wpAny_bind (wpAny_notOrdered_dict eD.typeIs (show wpAny _ _ (pure (s.heap.objs.size, [Value.ref src])) _ _ _ from wpAny_pure (show wpAny _ _ (Builtin.Dict.updateFrom "dict.__init__" s.heap.objs.size (.ref src) [] .none) _ _ _ from ?_)))
 unfold Builtin.Dict.updateFrom
 refine wpAny_bind (wpAny_typeOf (T := "list") ⟨_, hl, rfl⟩ ?_)
 rw [if_pos (by decide)]
 refine wpAny_bind (no_keys hl (show A.in1.in1.handled = none from hh) fun h1 tk1 k1 => ?_)
 rw [if_pos (by rfl)]
 refine wpAny_bind (wpAny_rule ?_)
 have hl1 := k1 _ _ hl
 refine wpAny_bind (wpAny_pyIter_list (items := its) ⟨_, hl1, rfl, c, rfl⟩ ?_)
 have hlt : src < h1.objs.size := Heap.lt_size hl1
 have hsrc : src < s.heap.objs.size := Heap.lt_size hs
 have hD1 : s.heap.objs.size < h1.objs.size := by
  obtain ⟨o, _, _, e, _⟩ := eD
  exact Heap.lt_size (k1 _ _ e)
 refine wpAny_pure ⟨plainId_quiet dl_plain _, ?_⟩
 refine dict_loop (A := A.in1) (Walks.list (A := A.in1.in1) (show A.in1.in1.handled = none from hh) h1.objs.size src (Nat.ne_of_lt hlt) its) s.heap.objs.size (fun z => ?_) bs ks hk hP hsz (fun b hb' => ?_) its.size 0 _ [] 0 rfl (Nat.zero_le _)
  ⟨⟨_, Heap.get?_push_size _ rfl, rfl, rfl⟩, ⟨_, Heap.get?_push_of_some _ hl1, rfl, c, rfl⟩⟩ ?_ (Nat.le_refl _) (fun j b kv e1 e2 => ?_) fun h2 tk2 hd2 hk2 => ?_
 ·rcases List.mem_cons.mp z with z | z
  ·exact absurd z (Nat.ne_of_lt hD1)
  ·exact absurd (List.mem_singleton.mp z).symm (Nat.ne_of_lt hsrc)
 ·obtain ⟨j, hj, e⟩ := List.mem_iff_getElem.mp hb'
  obtain ⟨u, hu, ⟨o, eo, _⟩⟩ := hb j b (ks[j]'(by omega)) (by rw [List.getElem?_eq_getElem hj, e]) (List.getElem?_eq_getElem _)
  have lt := Heap.lt_size eo
  exact ⟨fun z => absurd (List.mem_singleton.mp z) (Nat.ne_of_lt (Nat.lt_trans lt hD1)), Nat.ne_of_lt lt⟩
 ·obtain ⟨o, es, ep, e, r⟩ := eD
  exact ⟨o, es, ep, Heap.get?_push_of_some _ (k1 _ _ e), r⟩
 ·obtain ⟨u, hu, ⟨o, eo, r⟩⟩ := hb j b kv e1 e2
  exact ⟨u, hu, o, Heap.get?_push_of_some _ (k1 _ _ (Heap.get?_push_of_some _ eo)), r⟩
 ·refine ⟨rfl, h h2 tk2 hd2 fun b o e => ?_⟩
  have lt := Heap.lt_size e
  exact hk2 b o (fun z => absurd (List.mem_singleton.mp z) (Nat.ne_of_lt (Nat.lt_trans lt hD1))) (Nat.ne_of_lt lt) (Heap.get?_push_of_some _ (k1 _ _ (Heap.get?_push_of_some _ e)))
end
section
variable {X : Cx}
theorem call_dictP (hc : X.calm = true) : CallR X (.type "dict") (fun xs H Q => ∃ (p : Addr) (ps : List (Addr × Key × V)), xs = [.ref p] ∧ SqL X.K H p (ps.map fun q => V.ref q.1) ∧ (∀ q ∈ ps, SqT X.K H q.1 [kV q.2.1, q.2.2]) ∧ ∀ l, H l = none → Q (.ref l) (upd H l (.dK (mergeK [] (ps.map (·.2)))))) := by
 intro pins s σ H xs us Q I r h
 obtain ⟨p, ps, rfl, hp, hq, q⟩ := h
 obtain ⟨u, rfl, ru⟩ := vals1 r
 cases ru
 obtain ⟨its, rv, ⟨o, n, e, c1, c2, c3⟩, hz⟩ := I.list hp
 obtain ⟨oc, od, oda, osl⟩ := o
 simp only at c1 c2 c3
 subst c1 c2 c3
 have hlen := rv.length
 rw [List.length_map] at hlen hz
 have mk : ∀ ps : List (Addr × Key × V), (∀ q ∈ ps, SqT X.K H q.1 [kV q.2.1, q.2.2]) → ∃ ks : List (Key × Value), KV (ps.map (·.2)) ks ∧ ∀ (j : Nat) (b : Addr) (kv : Key × Value), (ps.map (·.1))[j]? = some b → ks[j]? = some kv → ∃ u, keyIs kv.1 u = true ∧ IsTup s.heap b #[u, kv.2] := by
  intro ps
  induction ps with
  | nil => intro _; exact ⟨[], .nil, fun j b kv e => by simp at e⟩
  | cons a r ih =>
   intro hq
   obtain ⟨ks, k1, k2⟩ := ih fun x hx => hq x (List.mem_cons_of_mem _ hx)
   obtain ⟨its', rv', ht', _⟩ := I.tuple (hq a List.mem_cons_self)
   obtain ⟨u1, u2, rfl, r1, r2⟩ := vals2 rv'
   refine ⟨(a.2.1, u2) :: ks, .cons ⟨rfl, r2⟩ k1, fun j b kv e1 e2 => ?_⟩
   cases j with
   | zero =>
    simp at e1 e2
    subst e1 e2
    exact ⟨u1, kV_is (P := X.prog) (w := X.w) r1, ht'⟩
   | succ j => exact k2 j b kv (by simpa using e1) (by simpa using e2)
 obtain ⟨ks, k1, k2⟩ := mk ps hq
 have kl := k1.length
 rw [List.length_map] at kl
 refine dict_pairs (I.ok.hd hc) e (ps.map (·.1)) ks (by simp; omega) (fun i v ev => ?_) (by simp; omega) k2 (by simp; omega) fun h' tk hd hk => ?_
 ·have ev' : its[i]? = some v := by simpa using ev
  have hi : i < ps.length := by rw [hlen]; exact (List.getElem?_eq_some_iff.mp ev').1
  obtain ⟨u', hu', ru'⟩ := rv.get (i := i) (x := .ref ps[i].1) (by simp [hi])
  rw [ev'] at hu'
  cases hu'
  cases ru'
  exact ⟨ps[i].1, rfl, by simp [hi]⟩
 ·have hm : KV (mergeK [] (ps.map (·.2))) (merged [] ks) := KV.merge k1 .nil
  have hz2 : (mergeK [] (ps.map (·.2))).length ≤ sizeLine := by
   have := length_mergeK (ps.map (·.2)) []
   rw [List.length_map] at this
   simp at this
   omega
  have hbig : (s.heap.objs.size == sysModules) = false := by
   have lt := I.big
   exact beq_eq_false_iff_ne.mpr (Nat.ne_of_gt lt)
  exact ⟨.ref s.heap.objs.size, _, I.laid (t' := tk) (o := .dK (mergeK [] (ps.map (·.2)))) hk (Nat.le_refl _) ⟨hz2, hbig, _, hm, hd⟩, rfl, q _ (I.hok.fresh (Nat.le_refl _))⟩
theorem call_sum (hc : X.calm = true) : CallR X (.builtin "sum") (fun xs H Q => ∃ (p : Addr) (ns : List Int), xs = [.ref p] ∧ SqL X.K H p (ns.map V.int) ∧ Q (.int ns.sum) H) := by
 intro pins s σ H xs us Q I r h
 obtain ⟨p, ns, rfl, hp, q⟩ := h
 obtain ⟨u, rfl, ru⟩ := vals1 r
 cases ru
 obtain ⟨its, rv, ht, hz⟩ := I.list hp
 have hi := intsAre_of rv
 obtain ⟨xs, hx⟩ := hi.allInts.items
 have hn : numsOf its.toArray.toList = ns := by rw [show its.toArray.toList = its from rfl, hi.numsOf]
 have hl := ht.isList
 rw [hx] at hl hn
 rw [nums_intItems] at hn
 refine sum_intListG (show X.A.handled = none from I.ok.hd hc) hl fun h' tk t' hk => ?_
 rw [preSum_eq, List.take_of_length_le (by simp), hn]
 exact ⟨.int ns.sum, H, I.kept (t' := tk) hk, ⟨t', rfl⟩, q⟩
theorem mergeK_new : ∀ (more acc : List (Key × V)), ((acc ++ more).map (·.1)).Nodup → mergeK acc more = acc ++ more
 | [], acc, _ => by simp [mergeK]
 | p :: r, acc, h => by
  have hn : ¬ (acc.any fun kv => decide (kv.1 = p.1)) = true := fun z => by
   obtain ⟨kv, h1, h2⟩ := List.any_eq_true.mp z
   rw [List.map_append, List.map_cons] at h
   have := (List.nodup_append.mp h).2.2 kv.1 (List.mem_map_of_mem h1) p.1 List.mem_cons_self
   exact this (of_decide_eq_true h2)
  have e : putK acc p.1 p.2 = acc ++ [p] := by
   unfold putK
   rw [if_neg hn]
  show mergeK (putK acc p.1 p.2) r = _
  rw [e, mergeK_new r (acc ++ [p]) (by simpa using h)]
  simp
theorem b_dict : bootBuiltins "dict" = some (.type "dict") := by decide +kernel
theorem b_sum : bootBuiltins "sum" = some (.builtin "sum") := by decide +kernel
end
theorem k_s_l (K : PySem.W.Frag) : PySem.W.kitOne K (.type "str") (.type "list") = some false := by first | rfl | kernel_rfl
theorem k_i_l (K : PySem.W.Frag) : PySem.W.kitOne K (.type "int") (.type "list") = some false := by first | rfl | kernel_rfl
theorem k_b_l (K : PySem.W.Frag) : PySem.W.kitOne K (.type "bool") (.type "list") = some false := by first | rfl | kernel_rfl
theorem k_n_l (K : PySem.W.Frag) : PySem.W.kitOne K (.type "NoneType") (.type "list") = some false := by first | rfl | kernel_rfl
theorem k_t_l (K : PySem.W.Frag) : PySem.W.kitOne K (.type "tuple") (.type "list") = some false := by first | rfl | kernel_rfl
theorem k_i_s (K : PySem.W.Frag) : PySem.W.kitOne K (.type "int") (.type "str") = some false := by first | rfl | kernel_rfl
theorem k_b_s (K : PySem.W.Frag) : PySem.W.kitOne K (.type "bool") (.type "str") = some false := by first | rfl | kernel_rfl
theorem k_n_s (K : PySem.W.Frag) : PySem.W.kitOne K (.type "NoneType") (.type "str") = some false := by first | rfl | kernel_rfl
theorem k_t_s (K : PySem.W.Frag) : PySem.W.kitOne K (.type "tuple") (.type "str") = some false := by first | rfl | kernel_rfl
theorem k_l_s (K : PySem.W.Frag) : PySem.W.kitOne K (.type "list") (.type "str") = some false := by first | rfl | kernel_rfl
end L2
namespace L2
open PySem PySem.Spec PyProof.Rows
def dedS (l : List Str) : List Str := l.foldl (fun σ v => if v ∈ σ then σ else σ ++ [v]) []
theorem ded_snoc (l : List Str) (v : Str) : dedS (l ++ [v]) = if v ∈ dedS l then dedS l else dedS l ++ [v] := by
 unfold dedS
 rw [List.foldl_append]
 rfl
theorem snoc_ind {C : List Str → Prop} (h0 : C []) (h1 : ∀ l v, C l → C (l ++ [v])) (l : List Str) : C l := by
 have key : ∀ m : List Str, C m.reverse := by
  intro m
  induction m with
  | nil => exact h0
  | cons x r ih => rw [List.reverse_cons]; exact h1 _ _ ih
 have := key l.reverse
 rwa [List.reverse_reverse] at this
theorem mem_ded {x : Str} : ∀ {l : List Str}, x ∈ dedS l ↔ x ∈ l := by
 intro l
 refine snoc_ind (C := fun l => x ∈ dedS l ↔ x ∈ l) Iff.rfl (fun l v ih => ?_) l
 rw [ded_snoc, List.mem_append, ← ih]
 split
 ·rename_i h
  constructor
  ·exact .inl
  ·rintro (z | z)
   ·exact z
   ·rw [List.mem_singleton.mp z]; exact h
 ·rw [List.mem_append]
theorem ded_len (l : List Str) : (dedS l).length ≤ l.length := by
 refine snoc_ind (C := fun l => (dedS l).length ≤ l.length) (Nat.le_refl _) (fun l v ih => ?_) l
 rw [ded_snoc, List.length_append]
 split
 ·omega
 ·rw [List.length_append]
  show (dedS l).length + 1 ≤ l.length + 1
  omega
theorem ded_nodup (l : List Str) : (dedS l).length = l.length ↔ l.Nodup := by
 refine snoc_ind (C := fun l => (dedS l).length = l.length ↔ l.Nodup) ⟨fun _ => List.nodup_nil, fun _ => rfl⟩ (fun l v ih => ?_) l
 have hl := ded_len l
 rw [ded_snoc, List.length_append]
 split
 ·rename_i h
  constructor
  ·intro z
   have : (dedS l).length = l.length + 1 := z
   omega
  ·intro z
   exact absurd rfl ((List.nodup_append.mp z).2.2 v (mem_ded.mp h) v List.mem_cons_self)
 ·rename_i h
  rw [List.length_append]
  constructor
  ·intro z
   have z' : (dedS l).length + 1 = l.length + 1 := z
   refine List.nodup_append.mpr ⟨ih.mp (by omega), by simp, fun a ha b hb e => ?_⟩
   rw [List.mem_singleton.mp hb] at e
   exact h (mem_ded.mpr (e ▸ ha))
  ·intro z
   have := ih.mpr (List.nodup_append.mp z).1
   show (dedS l).length + 1 = l.length + 1
   omega
theorem su_entry : entryFor table "set.update.loop" = some Builtin.«set.update.loop» := entryFor_of_tree (by kernel_rfl)
theorem su_plain : plainId "set.update.loop" = true := by decide +kernel
section
variable {prog : Program} {w : World} {A : Around} {R : Result → Shared → Prop} {I : Addr} {fp wr : List Addr} {n : Nat} {P : Nat → Value → Prop} {St : Nat → Heap → Prop}
def SetS (prog : Program) (w : World) (h : Heap) (a : Addr) (l : List Str) : Prop := h.SetOf (PySem.strKind prog w) a (fun x => decide (x ∈ l)) (dedS l).length
theorem SetS.at {h h' : Heap} {a : Addr} {l : List Str} (x : SetS prog w h a l) (k : ∀ o, h.get? a = some o → h'.get? a = some o) : SetS prog w h' a l :=
 let ⟨o, es, ep, t, ho, r⟩ := x; ⟨o, es, ep, t, k o ho, r⟩
theorem set_loop (W : Walks prog w A.in1 I fp wr n P St) (D : Addr) (hD : D ∉ fp) (ws : List Str) (hn : ws.length = n) (hP : ∀ (i : Nat) (v : Value), P i v → ∃ (x : Str) (t : Tok), v = .str x t ∧ ws[i]? = some x) (hb : n + 1 < scanBound) :
  ∀ (k i : Nat) (s : Shared), n - i = k → i ≤ n → St i s.heap → SetS prog w s.heap D (ws.take i) →
  (∀ h' tk, SetS prog w h' D ws → (∀ b o, b ∉ wr → b ≠ D → s.heap.get? b = some o → h'.get? b = some o) → R (.ok (.ret .none)) { s with heap := h', toks := tk }) →
  codeAny (model prog w) A (.builtin "set.update.loop" ⟨[.ref D, .ref I], []⟩) R s := by
 have hDw : D ∉ wr := fun h => hD (W.sub _ h)
 intro k
 induction k with
 | zero =>
  intro i s hk hi hst hS hR
  have hin : i = n := by omega
  refine codeAny_builtin su_entry ?_
  rw [Around.under_plainId su_plain _]
  show wpAny _ A.in1 (pyNext (.ref I) >>= _) _ _ s
  rw [hin] at hst
  refine wpAny_bind (W.done s _ _ hst fun h' tk hk2 => ?_)
  show wpAny _ A.in1 (ret Value.none) _ _ _
  refine wpAny_pure (hR h' tk ?_ fun b o q1 _ e => hk2 b o q1 e)
  have := hS.at (h' := h') fun o e => hk2 D o hDw e
  rwa [List.take_of_length_le (by omega)] at this
 | succ k ih =>
  intro i s hk hi hst hS hR
  have hlt : i < n := by omega
  refine codeAny_builtin su_entry ?_
  rw [Around.under_plainId su_plain _]
  show wpAny _ A.in1 (pyNext (.ref I) >>= _) _ _ s
  refine wpAny_bind (W.item i s _ _ hlt hst fun v h1 tk hv hst1 hk1 => ?_)
  obtain ⟨x, t, rfl, ex⟩ := hP i v hv
  have hS1 := hS.at (h' := h1) fun o e => hk1 D o hDw e
  show wpAny _ A.in1 (holding [Value.str x t] (setAdd D (.str x t)) >>= _) _ _ _
  refine wpAny_bind (wpAny_holding ?_)
  unfold setAdd
  have hx : (PySem.strKind prog w).is x (.str x t) = true := by simp [PySem.strKind, Value.isStrOf]
  refine wpAny_holding (wpAny_bind ((PySem.strKind prog w).pyHash (k := x) hx ?_))
  have hl := ded_len (ws.take i)
  have hlt2 : (ws.take i).length ≤ i := by rw [List.length_take]; omega
  refine wpAny_setAddHashed_of (knd := PySem.strKind prog w) (s := { s with heap := h1, toks := tk + 1 }) hx rfl hS1 (by omega) fun h2 hs2 hS2 => ?_
  have hS3 : SetS prog w h2 D (ws.take (i + 1)) := by
   refine SetOf_congr hS2 (fun y => ?_) ?_
   ·rw [List.take_add_one, ex]
    show (decide (y ∈ ws.take i) || decide (y = x)) = decide (y ∈ ws.take i ++ [x])
    rw [Bool.eq_iff_iff]
    simp
   ·rw [List.take_add_one, ex]
    show (if decide (x ∈ ws.take i) = true then _ else _) = (dedS (ws.take i ++ [x])).length
    rw [ded_snoc]
    by_cases e : x ∈ ws.take i
    ·rw [if_pos (by simpa using e), if_pos (mem_ded.mpr e)]
    ·rw [if_neg (by simpa using e), if_neg (fun z => e (mem_ded.mp z)), List.length_append]
     rfl
  refine wpAny_pure ⟨plainId_quiet su_plain _, ih (i + 1) _ (by omega) (by omega) (W.frame _ _ _ hst1 fun b hb o e => ?_) hS3 fun h3 tk3 hS4 hk3 => ?_⟩
  ·exact (hs2.2 b (fun z => hD (z ▸ hb))).trans e
  ·exact hR h3 tk3 hS4 fun b' o' q1 q2 e' => hk3 b' o' q1 q2 ((hs2.2 b' q2).trans (hk1 b' o' q1 e'))
theorem set_strs {E : Value → Shared → Prop} {s : Shared} {src : Addr} {its : Array Value} {ws : List Str} {Q : Value → Shared → Prop} (hh : A.handled = none) (hl : s.heap.IsList src its) (hws : ws.length = its.size)
  (hP : ∀ (i : Nat) (v : Value), its[i]? = some v → ∃ (x : Str) (t : Tok), v = .str x t ∧ ws[i]? = some x) (hb : its.size + 1 < scanBound)
  (h : ∀ h' tk, SetS prog w h' s.heap.objs.size ws → (∀ b o, s.heap.get? b = some o → h'.get? b = some o) → Q (.ref s.heap.objs.size) { s with heap := h', toks := tk }) :
  wpAny (model prog w) A (call (.type "set") [.ref src]) Q E s := by
 obtain ⟨c, tl, f0⟩ := F.called_set.mro
 have f1 := F.called_set.made
 have f2 := F.called_set.sub
 have f3 := F.called_set.notType
 have f4 := F.called_set.canCreate
 have f5 := F.typeCall_set_1 (.ref src)
 refine wpAny_call (codeAny_of_tree ?_)
 show wpAny _ _ (callAny (.type "set") _) _ _ _
 refine wpAny_pure ⟨Code.quiet_builtin _ (by decide +kernel), codeAny_builtin F.entry_type_call ?_⟩
 rw [Around.under_plain (weight_type_call_type "set" [.ref src] []) rfl]
 repeat (any_goals (first | assumption | wp_step))
 refine codeAny_mono (code_set_new_1 (.ref src) (E := E) (Q₁ := fun x t₁ => ∃ led : Bool, x = .ref s.heap.objs.size ∧ t₁ = { s with heap := s.heap.push { cls := .type "set", dict := none, data := .set #[] 0 (.fresh 0 0 led) } }) fun led => ⟨led, rfl, rfl⟩) fun r s₁ hr => ?_
 cases r with
 | error e => exact hr
 | ok fl =>
  cases fl with
  | next => exact hr.elim
  | brk => exact hr.elim
  | cont => exact hr.elim
  | ret obj =>
   obtain ⟨led, rfl, rfl⟩ := hr
   have g1 : (s.heap.push { cls := .type "set", dict := none, data := .set #[] 0 (.fresh 0 0 led) }).get? s.heap.objs.size = some { cls := .type "set", dict := none, data := .set #[] 0 (.fresh 0 0 led) } := Heap.get?_push_size _ rfl
   have g2 : Shared.TypeIs { s with heap := s.heap.push { cls := .type "set", dict := none, data := .set #[] 0 (.fresh 0 0 led) } } (.ref s.heap.objs.size) "set" := ⟨_, g1, rfl⟩
   have g3 := F.called_set.init.lookup
   have g4 := F.called_set.init.bind (.ref s.heap.objs.size)
   repeat (any_goals (first | assumption | wp_step))
   refine codeAny_mono (codeAny_call_builtin (R := wants (fun r s₂ => r = .none ∧ ∃ h' tk, s₂ = { s with heap := h', toks := tk } ∧ SetS prog w h' s.heap.objs.size ws ∧ (∀ b o, s.heap.get? b = some o → h'.get? b = some o)) E) F.called_set.init.plain F.entry_set_init (check_set_init_1 g2 ?_)) fun r₂ s₂ hr₂ => ?_
   ·obtain ⟨ol, hol, hcl, nl, hdl⟩ := hl
    obtain ⟨oc, od, oda, osl⟩ := ol
    simp only at hcl hdl
    subst hcl hdl
    have k1 := Heap.get?_push_of_some { cls := .type "set", dict := none, data := .set #[] 0 (.fresh 0 0 led) } hol
    have k2 := F.sub_list_set
    have k3 := F.sub_list_frozenset
    have k4 : (Value.type "list" == Value.type "dict") = false := by decide
    have k5 : (s.heap.push { cls := .type "set", dict := none, data := .set #[] 0 (.fresh 0 0 led) }).IsList src its := ⟨_, k1, rfl, nl, rfl⟩
    unfold Builtin.«set.__init__» noKeywords Builtin.Frozenset.updateFrom
    generalize hPI : pyIter = PI
    wp_walk
    subst hPI
    refine wpAny_pyIter_list k5 ?_
    refine wpAny_bind (wpAny_runValue ?_)
    have hlS : src < s.heap.objs.size := Heap.lt_size hol
    have sz : (s.heap.push { cls := .type "set", dict := none, data := .set #[] 0 (.fresh 0 0 led) }).objs.size = s.heap.objs.size + 1 := Heap.size_push ..
    have hneI : src ≠ (s.heap.push { cls := .type "set", dict := none, data := .set #[] 0 (.fresh 0 0 led) }).objs.size := by rw [sz]; exact Nat.ne_of_lt (Nat.lt_succ_of_lt hlS)
    refine set_loop (A := A.in1.in1) (Walks.list (A := A.in1.in1.in1) (show A.in1.in1.in1.handled = none from hh) _ src hneI its) s.heap.objs.size (fun z => ?_) ws hws hP hb its.size 0 _ rfl (Nat.zero_le _) ⟨⟨_, Heap.get?_push_size _ rfl, rfl, rfl⟩, k5.push _⟩ ?_ fun h' tk hS hk => ?_
    ·rcases List.mem_cons.mp z with z | z
     ·rw [sz] at z; exact absurd z (Nat.ne_of_lt (Nat.lt_succ_self _))
     ·exact absurd (List.mem_singleton.mp z).symm (Nat.ne_of_lt hlS)
    ·have g5 : ((s.heap.push { cls := .type "set", dict := none, data := .set #[] 0 (.fresh 0 0 led) }).push { cls := .type "list_iterator", data := .fields #[.ref src, .int 0 0] }).get? s.heap.objs.size = some { cls := .type "set", dict := none, data := .set #[] 0 (.fresh 0 0 led) } := Heap.get?_push_of_some _ g1
     exact SetOf_congr ((setObjOf_fresh (knd := PySem.strKind prog w) led).setOf g5 (by unfold scanBound; omega)) (fun _ => rfl) rfl
    ·show wpAny _ _ _ _ _ _
     refine wpAny_pure ?_
     show wpAny _ _ (ret Value.none) _ _ _
     refine wpAny_pure ⟨rfl, h', tk, rfl, hS, fun b o e => ?_⟩
     have lt := Heap.lt_size e
     refine hk b o (fun z => ?_) (Nat.ne_of_lt lt) (Heap.get?_push_of_some _ (Heap.get?_push_of_some _ e))
     have z := List.mem_singleton.mp z
     rw [sz] at z
     exact absurd z (Nat.ne_of_lt (Nat.lt_succ_of_lt lt))
   ·cases r₂ with
    | error e => exact hr₂
    | ok fl₂ =>
     cases fl₂ with
     | next => exact hr₂.elim
     | brk => exact hr₂.elim
     | cont => exact hr₂.elim
     | ret r =>
      obtain ⟨rfl, h', tk, rfl, hS', hk'⟩ := hr₂
      repeat (any_goals (first | assumption | wp_step))
      exact h _ _ hS' hk'
end
section
variable {X : Cx}
def setO (P : Program) (w : World) (a : Addr) (l : List Str) : HO := .ext fun h => SetS P w h a l
theorem call_setS (hc : X.calm = true) : CallR X (.type "set") (fun xs H Q => ∃ (p : Addr) (ws : List Str), xs = [.ref p] ∧ SqL X.K H p (ws.map V.str) ∧ ws.length + 1 < scanBound ∧ ∀ l, H l = none → Q (.ref l) (upd H l (setO X.prog X.w l ws))) := by
 intro pins s σ H xs us Q I r h
 obtain ⟨p, ws, rfl, hp, hb, q⟩ := h
 obtain ⟨u, rfl, ru⟩ := vals1 r
 cases ru
 obtain ⟨its, rv, ht, hz⟩ := I.list hp
 have hlen := rv.length
 rw [List.length_map] at hlen
 refine set_strs (I.ok.hd hc) ht.isList (by simp; omega) (fun i v ev => ?_) (by simp; omega) fun h' tk hS hk => ?_
 ·have ev' : its[i]? = some v := by simpa using ev
  have hi : i < ws.length := by rw [hlen]; exact (List.getElem?_eq_some_iff.mp ev').1
  obtain ⟨u', hu', ru'⟩ := rv.get (i := i) (x := .str ws[i]) (by simp [hi])
  rw [ev'] at hu'
  cases hu'
  obtain ⟨t, rfl⟩ := ru'
  exact ⟨ws[i], t, rfl, by simp [hi]⟩
 ·have ho : ∃ o, h'.get? s.heap.objs.size = some o := let ⟨o, _, _, _, e, _⟩ := hS; ⟨o, e⟩
  exact ⟨.ref s.heap.objs.size, _, I.laid (t' := tk) (o := setO X.prog X.w s.heap.objs.size ws) hk (Nat.le_refl _) ⟨hS, ho, fun h1 h2 x k => x.at k⟩, rfl, q _ (I.hok.fresh (Nat.le_refl _))⟩
theorem call_lenS : CallR X (.builtin "len") (fun xs H Q => ∃ (p : Addr) (ws : List Str), xs = [.ref p] ∧ H p = some (setO X.prog X.w p ws) ∧ Q (.int (dedS ws).length) H) := by
 intro pins s σ H xs us Q I r h
 obtain ⟨p, ws, rfl, hp, q⟩ := h
 obtain ⟨u, rfl, ru⟩ := vals1 r
 cases ru
 obtain ⟨⟨o, es, ep, t, ho, hex, hd, _, _, hb, hf, hn⟩, _, _⟩ : SetS X.prog X.w s.heap p ws ∧ _ ∧ _ := I.hok p _ hp
 have hbig : (scanBound : Int) < 2 ^ 63 := by decide
 refine call_len_set ho hex hd hf (by omega) ?_
 rw [hn]
 exact ⟨.int _, H, I.tok _, ⟨_, rfl⟩, q⟩
theorem b_set : bootBuiltins "set" = some (.type "set") := by decide +kernel
end
end L2
namespace L2
open PySem PySem.Spec PyProof.Rows
section
variable {prog : Program} {w : World} {A : Around} {E : Value → Shared → Prop} {s : Shared} {r : Addr}
end
section
variable {X : Cx}
end
end L2
namespace L2
open PySem PySem.Spec PyProof.Rows
section
variable {prog : Program} {w : World} {A : Around} {E : Value → Shared → Prop}
theorem draw_list {it t : Addr} {items : Array Value} (hne : t ≠ it) : ∀ (n i : Nat) (s : Shared) (Q : List Value → Shared → Prop), s.heap.IsListIter it t i → s.heap.IsList t items → i + n ≤ items.size →
  (∀ h', h'.IsListIter it t (i + n) → Heap.SameBut it s.heap h' → Q ((items.toList.drop i).take n) { s with heap := h' }) → wpAny (model prog w) A (draw (.ref it) n) Q E s
 | 0, i, s, Q, hit, _, _, hQ => by
  show wpAny _ _ (pure []) Q E s
  exact wpAny_pure (by simpa using hQ s.heap hit (Heap.SameBut.refl ..))
 | n + 1, i, s, Q, hit, ht, hle, hQ => by
  have hlt : i < items.size := by omega
  show wpAny _ _ (pyNext (.ref it) >>= _) Q E s
  refine wpAny_bind (wpAny_pyNext_list_item hit ht (x := items[i]) (by simp [hlt]) fun h₁ hit₁ hs₁ => ?_)
  refine wpAny_bind (wpAny_holding (draw_list hne n (i + 1) _ _ hit₁ (ht.at fun o e => (hs₁.2 t hne).trans e) (by omega) fun h₂ hit₂ hs₂ => wpAny_pure ?_))
  have hd : items.toList.drop i = items[i] :: items.toList.drop (i + 1) := by simp [List.drop_eq_getElem_cons, hlt]
  have := hQ h₂ (by rw [show i + (n + 1) = i + 1 + n by omega]; exact hit₂) (hs₁.trans hs₂)
  rw [hd, List.take_succ_cons] at this
  exact this
theorem unpackItems_list {s : Shared} {t : Addr} {items : Array Value} {Q : List Value → Shared → Prop} (hh : A.handled = none) (ht : s.heap.IsList t items)
  (hQ : ∀ h', Heap.ExtBut s.heap.objs.size s.heap h' → Q items.toList { s with heap := h' }) : wpAny (model prog w) A (unpackItems (.ref t) items.size none) Q E s := by
 have hlt : t ≠ s.heap.objs.size := by obtain ⟨o, ho, _⟩ := ht; exact Nat.ne_of_lt (Heap.lt_size ho)
 unfold unpackItems
 refine wpAny_bind ?_
 ·unfold notIterableAtAll
  refine wpAny_bind (wpAny_specialOf ht.typeIs slot_list_iter.lookup ?_)
  refine wpAny_pure ?_
  simp only [Bool.false_eq_true, if_false]
  refine wpAny_bind (wpAny_holding (wpAny_pyIter_list ht ?_))
  refine wpAny_bind (wpAny_holding (draw_list hlt items.size 0 _ _ ⟨_, Heap.get?_push_size _ rfl, rfl, rfl⟩ (ht.push _) (by omega) fun h₁ hit₁ hs₁ => ?_))
  have hall : List.take items.size (List.drop 0 items.toList) = items.toList := by
   rw [List.drop_zero]; exact List.take_of_length_le (by simp)
  rw [hall]
  rw [if_neg (by simp)]
  have ht₁ : h₁.IsList t items := (ht.push _).at fun o e => (hs₁.2 t hlt).trans e
  refine wpAny_bind (wpAny_holding (wpAny_pyNext_list_end hh hit₁ ht₁ (by simp) fun h₂ he₂ => ?_))
  simp only [Option.isSome_none, Bool.false_eq_true, if_false]
  refine wpAny_pure (hQ h₂ fun b o hb e => he₂ b o hb (hs₁.extBut b o hb (Heap.get?_push_of_some _ e)))
theorem assign_Tuple_list {s : Shared} {env : Env} {elts : List Expr} {x1} {pos : Pos} {t : Addr} {items : Array Value} {Q : Unit → Shared → Prop} (hh : A.handled = none) (ht : s.heap.IsList t items)
  (hn : (assignEach elts env).length = items.size) (hstar : (assignEach elts env).findIdx? (·.1) = none)
  (h : ∀ h', Heap.ExtBut s.heap.objs.size s.heap h' → wpAny (model prog w) A (assignInOrder ((assignEach elts env).map (·.2)) items.toList) Q E { s with heap := h' }) :
  wpAny (model prog w) A (assign (.Tuple elts x1 pos) env (.ref t)) Q E s := by
 rw [assign_Tuple]
 refine wpAny_bind (wpAny_standAt ?_)
 unfold unpack
 rw [hn, hstar]
 exact wpAny_bind (wpAny_holding (unpackItems_list hh ht h))
end
def gLst (K : PySem.W.Frag) (n : Nat) (t : TGs) : TG := fun v σ H Q => ∃ a xs, v = .ref a ∧ SqL K H a xs ∧ xs.length = n ∧ t xs σ H Q
theorem pg_lst {X : Cx} {es : List Expr} {k : Nat} {t : TGs} {n : Nat} {pos : Pos} (hc : X.calm = true) (h : PGs X es t)
  (hn : (assignEach es X.env).length = n := by rfl) (hst : (assignEach es X.env).findIdx? (·.1) = none := by rfl) : PG X (.Tuple es k pos) (gLst X.K n t) := by
 intro pins s σ H v u Q I r hw
 obtain ⟨a, xs, e1, hq, hl, hw⟩ := hw
 subst e1
 cases r
 obtain ⟨its, rv, ht, hz⟩ := I.list hq
 refine assign_Tuple_list (I.ok.hd hc) ht.isList (by simp [hn, ← hl, rv.length]) hst fun h' hx => ?_
 have I1 : Inv X pins σ H { s with heap := h' } := I.kept (t' := s.toks) fun b o e => hx b o (Nat.ne_of_lt (Heap.lt_size e)) e
 exact h pins _ σ H xs _ Q I1 (by simpa using rv) hw
def rInD (K : PySem.W.Frag) (neg : Bool) : R2 := fun x y H Q => ∃ n dx ds, n ≤ 60 ∧ RdD K H n x dx ∧ RdD K H n y (.list ds) ∧ Q (.bl (if neg then !(ds.any fun d => PyData.eqv d dx) else ds.any fun d => PyData.eqv d dx)) H
theorem op_inD {X : Cx} (hu : X.A.units + 64 < cLine) : OpR X (compareOp .In) (rInD X.K false) := by
 intro pins s σ H x y v u Q I rx ry h
 obtain ⟨n, dx, ds, hn, h1, h2, q⟩ := h
 obtain ⟨⟨as, a1⟩, a2, a3⟩ := RdD.reads I n x dx v h1 rx
 obtain ⟨⟨bs, b1⟩, b2, b3⟩ := RdD.reads I n y (.list ds) u h2 ry
 exact SeqAt.in_list_reads b1 a1 b2 a2 (by have := Nat.min_le_right (PyData.depthAll ds) dx.depth; omega) ⟨.bl _, H, I, rfl, q⟩
end L2
namespace L2
open PySem PySem.Spec PyProof.Rows
theorem call_list_ofK {X : Cx} (K : PySem.W.Frag) (hK : X.K = K) : CallR X (.type "list") (fun xs H Q => ∃ p ys, xs = [.ref p] ∧ (SqL K H p ys ∨ SqT K H p ys) ∧ ∀ l, H l = none → Q (.ref l) (upd H l (.lst ys))) := by
 subst hK
 exact call_list_of
end L2
namespace L2
open PySem PySem.Spec PyProof.Rows
theorem map_erase {α β : Type} (f : α → β) : ∀ (l : List α) (k : Nat), (l.map f).eraseIdx k = (l.eraseIdx k).map f
 | [], _ => rfl
 | _ :: _, 0 => rfl
 | x :: r, k + 1 => by
  show f x :: (r.map f).eraseIdx k = _
  rw [map_erase f r k]
  rfl
section
variable {X : Cx}
end
end L2
namespace L2
open PySem PySem.Spec PyProof.Rows
section
variable {X : Cx} {pins : List (Addr × Obj)} {σ : St} {H : Hp} {s : Shared} {scope : Scope} {N : List Str} {xs : Nat} {js : List Nat} {cl : List (Str × Addr)} {fp : List Addr} {o : Obj}
end
section
variable {X : Cx} {scope : Scope} {N : List Str} {xs : Nat} {js : List Nat} {tg iter elt : Expr} {ifs : List Expr} {pos : Pos} {ti : TI} {g : TG} {tt : TT} {te : TE}
end
end L2
namespace L2
open PySem PySem.Spec PyProof.Rows
theorem any_range (bs : List Bool) : (List.range bs.length).any (fun i => (bs[i]?).getD false) = bs.any id := by
 rw [Bool.eq_iff_iff]
 simp only [List.any_eq_true, List.mem_range, id]
 constructor
 ·rintro ⟨i, hi, h⟩
  rw [List.getElem?_eq_getElem hi] at h
  exact ⟨_, List.getElem_mem hi, h⟩
 ·rintro ⟨b, hb, h⟩
  obtain ⟨i, hi, e⟩ := List.mem_iff_getElem.mp hb
  refine ⟨i, hi, ?_⟩
  rw [List.getElem?_eq_getElem hi]
  show bs[i] = true
  rw [e]
  exact h
section
variable {X : Cx}
theorem call_any (hc : X.calm = true) : CallR X (.builtin "any") (fun xs H Q => ∃ (p : Addr) (bs : List Bool), xs = [.ref p] ∧ SqL X.K H p (bs.map V.bl) ∧ Q (.bl (bs.any id)) H) := by
 intro pins s σ H xs us Q I r h
 obtain ⟨p, bs, rfl, hp, q⟩ := h
 obtain ⟨u, rfl, ru⟩ := vals1 r
 cases ru
 obtain ⟨its, rv, ht, hz⟩ := I.list hp
 have hlen := rv.length
 rw [List.length_map] at hlen
 refine call_any_walk (wpAny_pyIter_list ht.isList ?_)
 have hpn : p < s.heap.objs.size := let ⟨o, n, e, _⟩ := ht; Heap.lt_size e
 refine ⟨s.heap.objs.size, [s.heap.objs.size, p], [s.heap.objs.size], its.toArray.size, (fun i v => its.toArray[i]? = some v), (fun i h => h.IsListIter s.heap.objs.size p i ∧ h.IsList p its.toArray), fun i => (bs[i]?).getD false, rfl, Walks.list (A := X.A.in1) (show X.A.in1.handled = none from I.ok.hd hc) s.heap.objs.size p (Nat.ne_of_lt hpn) its.toArray, ⟨⟨_, Heap.get?_push_size _ rfl, rfl, rfl⟩, ht.isList.at fun o e => Heap.get?_push_of_some _ e⟩, ?_, fun h' tk k => ?_⟩
 ·intro i v s' Q' E' hv hq
  have hv' : its[i]? = some v := by simpa using hv
  have hi : i < bs.length := by rw [hlen]; exact (List.getElem?_eq_some_iff.mp hv').1
  obtain ⟨u', hu', ru'⟩ := rv.get (i := i) (x := .bl bs[i]) (by simp [hi])
  rw [hv'] at hu'
  cases hu'
  cases ru'
  refine wpAny_truthy_bool ?_
  have hq' : Q' ((bs[i]?).getD false) s' := hq
  rw [List.getElem?_eq_getElem hi] at hq'
  exact hq'
 ·have e : (List.range its.toArray.size).any (fun i => (bs[i]?).getD false) = bs.any id := by
   rw [List.size_toArray, ← hlen]
   exact any_range bs
  refine ⟨.bl (bs.any id), H, I.kept (t' := tk) fun b o e => k b o ?_ (Heap.get?_push_of_some _ e), by rw [e]; rfl, q⟩
  have := Heap.lt_size e
  intro z
  rw [List.mem_singleton.mp z] at this
  exact Nat.lt_irrefl _ this
end
end L2
namespace L2
open PySem PySem.Spec PyProof.Rows
end L2
namespace L2
open PySem PySem.Spec PyProof.Rows
end L2
namespace L2
open PySem PySem.Spec PyProof.Rows
end L2
namespace L2
open PySem PySem.Spec PyProof.Rows PySem.W
section
variable {X : Cx} {pins : List (Addr × Obj)} {σ : St} {H : Hp} {s : Shared}
theorem Inv.freeze {d : Addr} {kvs : List (Key × V)} (I : Inv X pins σ H s) (hd : H d = some (.dK kvs)) : ∃ o, s.heap.get? d = some o ∧ Inv X pins σ (upd H d (.frz o (.dK kvs))) s := by
 have hD := I.hok d _ hd
 obtain ⟨z, y, vs, rel, o, es, ep, e, c⟩ : ObjOk X.prog X.w H s.heap d (.dK kvs) := hD
 refine ⟨o, e, I.ok, I.os, I.bare, ⟨I.base.keep, I.base.slot, fun b ob q n hx => ?_, I.base.there, fun b xs q => ?_, fun b ob u q => ?_, fun b ps q => ?_⟩, I.loc, I.cell, ?_, fun x c' q => ?_, fun p hp => ?_, fun b u q => ?_, I.len⟩
 ·have n' := I.base.free b ob q n hx
  rw [upd_ne (fun z' => by rw [z', hd] at n'; cases n')]
  exact n'
 ·have q' := I.base.tups b xs q
  rw [upd_ne (fun z' => by rw [z', hd] at q'; cases q')]
  exact q'
 ·have q' := I.base.frzs b ob u q
  rw [upd_ne (fun z' => by rw [z', hd] at q'; cases q')]
  exact q'
 ·obtain ⟨m, q'⟩ := I.base.tbls b ps q
  exact ⟨m, by rw [upd_ne (fun z' => by rw [z', hd] at q'; cases q')]; exact q'⟩
 ·have n' := I.free
  rw [upd_ne (fun z' => by rw [z', hd] at n'; cases n')]
  exact n'
 ·have n' := I.freeC x c' q
  rw [upd_ne (fun z' => by rw [z', hd] at n'; cases n')]
  exact n'
 ·obtain ⟨a1, a2, a3⟩ := I.pin p hp
  exact ⟨a1, by rw [upd_ne (fun z' => by rw [z', hd] at a2; cases a2)]; exact a2, a3⟩
 ·have st : ∀ {b : Addr} {u : HO}, ObjOk X.prog X.w H s.heap b u → ObjOk X.prog X.w (upd H d (.frz o (.dK kvs))) s.heap b u := fun {b u} h => h.stay (fun _ _ _ q => q)
   (fun c' q' => by rw [upd_ne (fun z' => by rw [z', hd] at q'; cases q')]; exact q') fun c' ys q' => by rw [upd_ne (fun z' => by rw [z', hd] at q'; cases q')]; exact q'
  by_cases hb : b = d
  ·subst hb
   rw [upd_same] at q
   cases q
   exact ⟨e, st (I.hok b _ hd)⟩
  ·rw [upd_ne hb] at q
   exact st (I.hok b u q)
end
def Itd (d : Addr) (o : Obj) (kvs : List (Key × V)) : It :=
 ⟨fun i H => H d = some (.frz o (.dK kvs)) ∧ i < kvs.length, fun i H x H' => H' = H ∧ ∃ kv, kvs[i]? = some kv ∧ x = kV kv.1, fun i H => H d = some (.frz o (.dK kvs)) ∧ kvs.length ≤ i⟩
theorem turn_dict {P : Program} {w : World} {K : PySem.W.Frag} {tg : Expr} {d it : Addr} {o : Obj} {kvs : List (Key × V)} {es : Array DictEntry} {ep : Nat} (hd : o.data = .dict es ep) (hne : d ≠ it) :
  Turn P w K tg (Itd d o kvs) [it] it (fun i h => h.IsKeyIter it d i kvs.length ep) where
 mem := by simp
 obj := fun i h st b hb => by
  have e : b = it := by simpa using hb
  subst e
  obtain ⟨o, e, c, d⟩ := st
  exact ⟨o, e, fun v z => by rw [d] at z; cases z⟩
 keep := fun i h h' st k => st.at fun o e => k it (by simp) o e
 item := by
  intro X hP hw hK hc i pins s σ H E I hf st hg
  subst hP hw hK
  obtain ⟨hH, hi⟩ := hg
  obtain ⟨e0, _⟩ := (show ObjOk X.prog X.w H s.heap d (.frz o (.dK kvs)) from I.hok d _ hH)
  obtain ⟨z, hs, vs, rel, dd⟩ := dk_rd I.hok (.inr ⟨o, hH⟩)
  obtain ⟨ep', hat⟩ := dd.dictAt
  have eep : ep' = ep := by
   obtain ⟨o', es', e', _, d', _⟩ := hat
   rw [e0] at e'; cases e'
   rw [hd] at d'; cases d'
   rfl
  subst eep
  have el := rel.length
  have hi' : i < vs.length := by omega
  obtain ⟨⟨k, v⟩, hx⟩ : ∃ p, vs[i]? = some p := ⟨vs[i], List.getElem?_eq_getElem hi'⟩
  obtain ⟨kv, hkv⟩ : ∃ p, kvs[i]? = some p := ⟨kvs[i], List.getElem?_eq_getElem hi⟩
  obtain ⟨f0, f1, f2, f3, f4, f5⟩ := hf it (by simp)
  rw [el] at st
  refine wpAny_pyNext_dict_item st hat hx fun key h' hkey hit' hs' => ?_
  have I1 : Inv X pins σ H { s with heap := h' } := I.turned (t' := s.toks) (fun b o hb e => (hs'.2 b hb).trans e) f0 f1 f3 f4 f5
  obtain ⟨e1, _⟩ := rel.getVal hx hkv
  have rk : RelV (kV kv.1) key := by
   rcases keyIs_shape (show keyIs k key = true from hkey) with ⟨i', t', rfl, rfl⟩ | ⟨x', t', rfl, rfl⟩
   ·rw [e1]; exact ⟨t', rfl⟩
   ·rw [e1]; exact ⟨t', rfl⟩
  obtain ⟨oI, eI, cI, dI⟩ := id hit'
  rw [← el] at hit'
  exact ⟨key, rfl, go_of (s := { s with heap := h' }) eI cI dI (by decide) ⟨kV kv.1, H, I1, rk, ⟨rfl, kv, hkv, rfl⟩, hit', fun b hb => (hf b hb).1⟩⟩
 done := by
  intro X hP hw hK hc i pins s σ H E I hf st hg
  subst hP hw hK
  obtain ⟨hH, hi⟩ := hg
  obtain ⟨e0, _⟩ := (show ObjOk X.prog X.w H s.heap d (.frz o (.dK kvs)) from I.hok d _ hH)
  obtain ⟨z, hs, vs, rel, dd⟩ := dk_rd I.hok (.inr ⟨o, hH⟩)
  obtain ⟨ep', hat⟩ := dd.dictAt
  have eep : ep' = ep := by
   obtain ⟨o', es', e', _, d', _⟩ := hat
   rw [e0] at e'; cases e'
   rw [hd] at d'; cases d'
   rfl
  subst eep
  have el := rel.length
  rw [el] at st
  obtain ⟨f0, f1, f2, f3, f4, f5⟩ := hf it (by simp)
  exact wpAny_pyNext_dict_end (I.ok.hd hc) st hat (List.getElem?_eq_none (by omega)) fun h' eb => ⟨rfl, I.turned (t' := s.toks) (fun b o hb e => eb b o hb e) f0 f1 f3 f4 f5⟩
 self := fun _ _ _ _ _ st h => wpAny_pyIter_keyiter st h
def iDict (tl : TE) : TI := fun σ H R => tl σ H fun x H1 => ∃ d kvs, x = .ref d ∧ H1 d = some (.dK kvs) ∧ ∀ o, R (Itd d o kvs) (upd H1 d (.frz o (.dK kvs)))
theorem pi_dict {X : Cx} {tg l : Expr} {tl : TE} (hl : PE X l tl) : PI X tg l (iDict tl) := by
 intro pins s σ H R I h
 refine thn (hl pins s σ H _ I h) fun v s1 ⟨x, H1, I1, r1, q1⟩ => ?_
 obtain ⟨d, kvs, rfl, hd, q⟩ := q1
 cases r1
 obtain ⟨z, hs, vs, rel, dd⟩ := dk_rd I1.hok (.inl hd)
 obtain ⟨ep, hat⟩ := dd.dictAt
 obtain ⟨o, e0, I2⟩ := I1.freeze hd
 have el := rel.length
 refine wpAny_pyIter_dict hs hat ?_
 obtain ⟨o', es, e', _, d', _⟩ := id hat
 rw [e0] at e'
 cases e'
 have hdn : d ≠ s1.heap.objs.size := Nat.ne_of_lt (Heap.lt_size e0)
 refine ⟨s1.heap.objs.size, [s1.heap.objs.size], _, _, _, rfl, I2.kept (t' := s1.toks) fun b ob e => Heap.get?_push_of_some _ e, turn_dict d' hdn, ⟨_, Heap.get?_push_size _ rfl, rfl, ?_⟩, fun b hb => ?_, q o⟩
 ·rw [← el]
  rfl
 ·have e : b = s1.heap.objs.size := by simpa using hb
  subst e
  exact I2.fpOk (Nat.le_refl _) (I2.hok.fresh (Nat.le_refl _))
theorem comp_dict {xs : Nat} {js : List Nat} {g : TG} {tt : TT} {te : TE} {σ : St} {Q : VK} {H : Hp} {d : Addr} {o : Obj} {kvs : List (Key × V)} (Pv : Nat → List V → St → Hp → Prop) (h0 : Pv 0 [] (List.replicate xs none ++ capOf σ js) H) (hl : ∀ i acc σ' H', Pv i acc σ' H' → acc.length ≤ i) (hz : kvs.length ≤ sizeLine)
  (hq : ∀ i acc σ' H', i ≤ kvs.length → Pv i acc σ' H' → H' d = some (.frz o (.dK kvs)))
  (hs : ∀ i kv acc σ' H', kvs[i]? = some kv → Pv i acc σ' H' → g (kV kv.1) σ' H' fun σ2 H2 => tt σ2 H2 fun b H3 => if b = true then te σ2 H3 fun y H4 => Pv (i + 1) (acc ++ [y]) σ2 H4 else Pv (i + 1) acc σ2 H3)
  (hd : ∀ acc σ' H', Pv kvs.length acc σ' H' → ∀ p, H' p = none → Q (.ref p) (upd H' p (.lst acc))) : CompGoal xs js g tt te σ Q (Itd d o kvs) H :=
 comp_walk Pv h0 hl hz (fun i acc σ' H' h p => ⟨hq _ _ _ _ (Nat.le_of_lt h) p, h⟩) (fun acc σ' H' p => ⟨hq _ _ _ _ (Nat.le_refl _) p, Nat.le_refl _⟩)
  (fun i x acc σ' H' H2 _ p y => by obtain ⟨rfl, kv, e, rfl⟩ := y; exact hs i kv acc σ' _ e p) hd
end L2
namespace L2
open PySem PySem.Spec PyProof.Rows
section
variable {X : Cx}
end
end L2
namespace L2
open PySem PySem.Spec PyProof.Rows
section
variable {X : Cx}
end
end L2
namespace L2
open PySem PySem.Spec PyProof.Rows
end L2
namespace L2
open PySem PySem.Spec PyProof.Rows
section
variable {X : Cx}
theorem call_minL (hc : X.calm = true) : CallR X (.builtin "min") (fun xs H Q => ∃ (p : Addr) (ns : List Int), xs = [.ref p] ∧ SqL X.K H p (ns.map V.int) ∧ ns ≠ [] ∧ ∀ m ∈ ns, (∀ n ∈ ns, m ≤ n) → Q (.int m) H) := by
 intro pins s σ H xs us Q I r h
 obtain ⟨p, ns, rfl, hp, hne, q⟩ := h
 obtain ⟨u, rfl, ru⟩ := vals1 r
 cases ru
 obtain ⟨its, rv, ht, hz⟩ := I.list hp
 have hi := intsAre_of rv
 obtain ⟨xs, hx⟩ := hi.allInts.items
 have hn : numsOf its.toArray.toList = ns := by rw [show its.toArray.toList = its from rfl, hi.numsOf]
 have hl := ht.isList
 rw [hx] at hl hn
 rw [nums_intItems] at hn
 subst hn
 have hsz : 0 < xs.size := by
  refine Nat.pos_of_ne_zero fun z => hne ?_
  have : xs.toList = [] := List.length_eq_zero_iff.mp (by rw [Array.length_toList]; exact z)
  rw [this]
  rfl
 refine min_intList (show X.A.handled = none from I.ok.hd hc) hl hsz fun v h' tk hv hk => ?_
 obtain ⟨t, rfl⟩ := intItems_at hv
 obtain ⟨h1, h2⟩ := argBest_lt (numAt xs) (xs.size - 1)
 refine ⟨.int _, H, I.kept (t' := tk) hk, ⟨t, rfl⟩, q _ ?_ fun a ha => ?_⟩
 ·rw [numAt_eq]; exact getD_mem (by rw [List.length_map, Array.length_toList]; omega)
 ·obtain ⟨j, hj, rfl⟩ := mem_getD ha
  rw [List.length_map, Array.length_toList] at hj
  rw [← numAt_eq]; exact h2 j (by omega)
end
theorem removeAt_loop (l : Addr) (items : Array Value) (n : Nat) (x : Value) (j : Nat) (hj : j < items.size) (k : Nat) (hs1 : items.size ≤ sizeLine) :
  ∀ i : Nat, j - i = k → i ≤ j → Meets (Builtin.«list.remove.loop» ⟨[.ref l, x, rawInt i], []⟩)
   (fun A R s => s.heap.get? l = some { cls := .type "list", dict := none, data := .seq items n, slots := #[] } ∧ (∀ m (hm : m < items.size), m ≤ j → SeqAt.EqAt A.in1 s items[m] x (decide (m = j))) ∧ R (.ok (.ret .none)) { s with heap := s.heap.update l (Obj.mapSeq fun xs => xs.eraseIdxIfInBounds j) }) := by
 induction k with
 | zero =>
  intro i hk hij prog w A R s h
  obtain ⟨hp, g, d, tk, os⟩ := s; obtain ⟨hl, he, h⟩ := h
  have hij' : i = j := by omega
  subst hij'
  wp_walk using AutoSeq1.wpAny_loadPart' hl
  have hi : items[((i : Nat) : Int).toNat]? = some items[i] := by simp [hj]
  rw [hi]
  refine wpAny_bind (he i hj (Nat.le_refl _) prog w _ _ ?_)
  rw [decide_eq_true rfl]
  have hz' : (items.eraseIdxIfInBounds i).size ≤ sizeLine + 1 := Nat.le_trans (MeetsSeq.size_erased items _) (Nat.le_succ_of_le hs1)
  wp_walk using (wpAny_updateSeq hl rfl (hz := hs1) (_hz' := hz')), AutoSeq1.wpAny_loadPart' hl
  simpa using h
 | succ k ih =>
  intro i hk hij prog w A R s h
  obtain ⟨hp, g, d, tk, os⟩ := s; obtain ⟨hl, he, h⟩ := h
  have hlt : i < items.size := by omega
  wp_walk using AutoSeq1.wpAny_loadPart' hl
  have hi : items[((i : Nat) : Int).toNat]? = some items[i] := by simp [hlt]
  have hc : ((i : Int) + 1) = ((i + 1 : Nat) : Int) := by push_cast; rfl
  rw [hi]
  refine wpAny_bind (he i hlt (by omega) prog w _ _ ?_)
  rw [decide_eq_false (by omega)]
  wp_walk
  rw [hc]
  exact ⟨plainId_quiet MeetsSeq.plain_remove_loop _, codeAny_builtin MeetsSeq.entry_remove_loop (by
   rw [Around.under_plainId MeetsSeq.plain_remove_loop _]
   exact ih (i + 1) (by omega) (by omega) prog w A R _ ⟨hl, he, h⟩)⟩
theorem list_removeAt (l : Addr) (items : Array Value) (n : Nat) (x : Value) (j : Nat) (hj : j < items.size) (hs1 : items.size ≤ sizeLine) :
  Meets (Builtin.«list.remove» ⟨[.ref l, x], []⟩)
   (fun A R s => s.heap.get? l = some { cls := .type "list", dict := none, data := .seq items n, slots := #[] } ∧ (∀ m (hm : m < items.size), m ≤ j → SeqAt.EqAt A.in1 s items[m] x (decide (m = j))) ∧ R (.ok (.ret .none)) { s with heap := s.heap.update l (Obj.mapSeq fun xs => xs.eraseIdxIfInBounds j) }) := by
 intro prog w A R s h
 obtain ⟨hp, g, d, tk, os⟩ := s; obtain ⟨hl, he, h⟩ := h
 wp_walk using AutoSeq1.wpAny_loadPart' hl
 exact ⟨plainId_quiet MeetsSeq.plain_remove_loop _, codeAny_builtin MeetsSeq.entry_remove_loop (by
  rw [Around.under_plainId MeetsSeq.plain_remove_loop _]
  exact removeAt_loop l items n x j hj _ hs1 0 rfl (Nat.zero_le _) prog w A R _ ⟨hl, he, h⟩)⟩
section
variable {X : Cx}
def rRemoveD (K : PySem.W.Frag) : V → List V → Hp → VK → Prop := fun x vs H Q => ∃ (l : Addr) (ys : List V) (y : V) (dy : PyData) (n j : Nat), x = .ref l ∧ vs = [y] ∧ n ≤ 60 ∧ H l = some (.lst ys) ∧ RdD K H n y dy ∧ j < ys.length ∧
 (∀ m z, m ≤ j → ys[m]? = some z → ∃ dz, RdD K H n z dz ∧ PyData.eqv dz dy = decide (m = j)) ∧ Q .non (upd H l (.lst (ys.eraseIdx j)))
theorem vals_at : ∀ {xs : List V} {us : List Value}, Vals xs us → ∀ (m : Nat) (hm : m < us.length), ∃ x, xs[m]? = some x ∧ RelV x us[m]
 | [], _, h, m, hm => by cases h; exact absurd hm (Nat.not_lt_zero _)
 | _ :: _, _, h, 0, hm => by
  cases h with
  | cons r _ => exact ⟨_, rfl, r⟩
 | _ :: _, _, h, m + 1, hm => by
  cases h with
  | cons _ t => exact vals_at t m (Nat.lt_of_succ_lt_succ hm)
theorem vals_erase : ∀ {xs : List V} {us : List Value}, Vals xs us → ∀ (m : Nat), Vals (xs.eraseIdx m) (us.eraseIdx m)
 | [], _, h, m => by cases h; exact .nil
 | _ :: _, _, h, 0 => by
  cases h with
  | cons _ t => exact t
 | _ :: _, _, h, m + 1 => by
  cases h with
  | cons r t => exact .cons r (vals_erase t m)
theorem mt_removeD (hu : X.A.units + 64 < cLine) : MtM X "list.remove" (rRemoveD X.K) := by
 intro pins s σ H x vs v us Q I rx rv h
 obtain ⟨l, ys, y, dy, n, j, rfl, rfl, hn, hH, rd, hj, hd, q⟩ := h
 cases rx
 obtain ⟨u, rfl, ru⟩ := rv.one
 obtain ⟨z, its, n', r, hl, e⟩ := I.lstM hH
 obtain ⟨⟨bs, b1⟩, b2, b3⟩ := RdD.reads I n y dy u rd ru
 refine call_meets F.slot_list_remove ⟨_, e, rfl⟩ F.entry_list_remove (F.args_list_remove_2 _ _) (list_removeAt l its.toArray n' u j (by simpa using (by omega : j < its.length)) (by simpa using (by omega : its.length ≤ sizeLine))) ⟨e, fun m hm hmj => ?_, ?_⟩
 ·have hm' : m < its.length := by simpa using hm
  obtain ⟨zv, hz1, hz2⟩ := vals_at r m hm'
  obtain ⟨dz, rz, ez⟩ := hd m zv hmj hz1
  obtain ⟨⟨as, a1⟩, a2, a3⟩ := RdD.reads I n zv dz _ rz hz2
  rw [← ez]
  refine SeqAt.eqAt_reads dz dy _ s _ _ _ _ a1 b1 a2 b2 ?_
  have := Nat.min_le_left dz.depth dy.depth
  show X.A.units + 1 + min dz.depth dy.depth < cLine
  omega
 ·refine ⟨.non, _, I.lset (its' := its.eraseIdx j) hH e ?_ (vals_erase r j) ?_, rfl, q⟩
  ·show its.toArray.eraseIdxIfInBounds _ = _
   rw [List.eraseIdxIfInBounds_toArray]
  ·exact Nat.le_trans (List.length_eraseIdx_le _ _) z
end
end L2
namespace L2
open PySem PySem.Spec PyProof.Rows
section
variable {X : Cx} {pins : List (Addr × Obj)} {σ : St} {H : Hp} {s : Shared} {a : Addr} {kvs : List (Key × V)} {k : Key} {u r : Value} {v : V} {A : Around} {E : Value → Shared → Prop}
theorem d_setd {Q : Value → Shared → Prop} (I : Inv X pins σ H s) (e : H a = some (.dK kvs)) (ry : RelV (kV k) u) (rv : RelV v r) (l : kvs.length < sizeLine)
  (h1 : ∀ x w' s', valV kvs k = some x → RelV x w' → Inv X pins σ H s' → Q w' s') (h2 : ∀ s', valV kvs k = none → Inv X pins σ (upd H a (.dK (putK kvs k v))) s' → Q r s') :
  wpAny (model X.prog X.w) A (call (.builtin "dict.setdefault") [.ref a, u, r]) Q E s := by
 obtain ⟨z, hd, vs, rel, dd⟩ := dk_of I.hok e
 have hl : (putK kvs k v).length ≤ sizeLine := by have := length_putK kvs k v; omega
 refine call_meetsIn PySem.F.slot_dict_setdefault dd.typeIs PySem.F.entry_dict_setdefault (PySem.F.args_dict_setdefault_3 _ _ _) (kt_meets_setdefault (mixKind X.prog X.w) a (kV_is ry) hd r)
  ⟨vs, dd, by rw [← rel.length]; exact z, fun w' hw => ?_, fun hn h' dd' hs => ?_⟩
 ·cases e2 : valV kvs k with
  | none =>
   have := RelO.none_of (o := valueAt vs k) (by rw [← e2]; exact rel.val k)
   rw [hw] at this
   cases this
  | some x =>
   obtain ⟨w2, hw2, rw2⟩ := RelO.some_of (v := x) (o := valueAt vs k) (by rw [← e2]; exact rel.val k)
   rw [hw] at hw2
   cases hw2
   exact h1 x w' _ e2 rw2 (I.tok _)
 ·refine h2 _ ?_ ?_
  ·cases e2 : valV kvs k with
   | none => rfl
   | some x =>
    obtain ⟨w2, hw2, _⟩ := RelO.some_of (v := x) (o := valueAt vs k) (by rw [← e2]; exact rel.val k)
    rw [hn] at hw2
    cases hw2
  ·have he : ∃ q, h'.get? a = some q := let ⟨q, _, _, hq, _⟩ := dd'; ⟨q, hq⟩
   exact d_write I (by rw [e]; exact True.intro) hs he (dk_new hl hd (rel.put k rv) dd')
end
def tDSetD (td ty tx : TE) : TE := fun σ H Q => td σ H fun x H1 => ∃ a, x = .ref a ∧ IsD H1 a ∧ ty σ H1 fun y H2 => tx σ H2 fun z H3 => ∃ kvs k, H3 a = some (.dK kvs) ∧ y = kV k ∧ kvs.length < sizeLine ∧
 (∀ v, valV kvs k = some v → Q v H3) ∧ (valV kvs k = none → Q z (upd H3 a (.dK (putK kvs k z))))
theorem pe_dsetd {X : Cx} {o e f : Expr} {apos cpos : Pos} {td ty tx : TE} (ho : PE X o td) (he : PE X e ty) (hf : PE X f tx) (m : M2 X o "setdefault" apos e f cpos) : PE X (.Call (.Attribute o "setdefault" apos) [e, f] [] cpos) (tDSetD td ty tx) := by
 intro pins s σ H Q I h
 refine wpAny_Call_method m.base m.few m.line PySem.F.plainAttrs_dict PySem.F.slot_dict_setdefault PySem.F.type_dict_setdefault (thn (ho pins s σ H _ I h) fun u s1 ⟨x, H1, I1, rx, a, ex, d, q1⟩ => ?_)
 subst ex
 obtain rfl : u = Value.ref a := rx
 obtain ⟨t1, t2, _⟩ := isD_at I1 d
 refine ⟨t1, t2, ?_⟩
 rw [m.trees]
 refine Calls.callWith_builtin rfl (Calls.evalArgs_plain (Calls.spliced_cons (thn (he pins s1 σ H1 _ I1 q1) fun iv s2 ⟨y, H2, I2, ry, q2⟩ =>
  Calls.spliced_cons (thn (hf pins s2 σ H2 _ I2 q2) fun fv s3 ⟨z, H3, I3, rz, kvs, k, ea, ey, hl, q3, q4⟩ => Calls.spliced_nil ?_))))
 subst ey
 exact d_setd I3 ea ry rz hl (fun x w' s4 e4 r4 I4 => ⟨x, H3, I4, r4, q3 x e4⟩) fun s4 e4 I4 => ⟨z, _, I4, rz, q4 e4⟩
end L2
namespace Net
open PySem L2
def top (i : Nat) : Stmt := PySem.Challenge.pw_netcourt_k62_flows_turned_into_walks.main.body.getD i (.Pass ⟨0, 0, 0, 0⟩)
abbrev s_is_made_of : Stmt := top 11
abbrev s_is_name : Stmt := top 12
abbrev s_is_whole : Stmt := top 13
abbrev s_is_row : Stmt := top 15
abbrev s_is_pair : Stmt := top 16
abbrev s_is_place : Stmt := top 18
abbrev s_are_unlike_places : Stmt := top 19
abbrev s_are_unlike : Stmt := top 20
abbrev s_ties_by_name : Stmt := top 21
abbrev s_is_tie : Stmt := top 22
abbrev s_walk_stops : Stmt := top 23
abbrev s_steps_to_places : Stmt := top 27
abbrev s_steps_by_begin : Stmt := top 28
abbrev s_shown_bound : Stmt := top 36
abbrev s_shown_across : Stmt := top 37
abbrev s_flow_above : Stmt := top 40
abbrev s_apart_above : Stmt := top 41
abbrev s_ties_leaving : Stmt := top 42
abbrev s_flow_below : Stmt := top 43
abbrev s_what_goes_out : Stmt := top 44
abbrev s_is_load : Stmt := top 45
abbrev s_apart_below : Stmt := top 46
abbrev s_bare_below : Stmt := top 47
abbrev s_stops_of_walks : Stmt := top 48
abbrev s_joined : Stmt := top 49
abbrev s_bare_above : Stmt := top 50
abbrev s_greatest_flow : Stmt := top 60
abbrev s_free_ways : Stmt := top 61
abbrev s_add_along : Stmt := top 62
abbrev s_walks_along : Stmt := top 63
abbrev s_take_walk : Stmt := top 64
abbrev s_arcs_of_ties : Stmt := top 65
abbrev s_bound_paper : Stmt := top 70
abbrev s_find_bound : Stmt := top 71
abbrev s_paper_of_one : Stmt := top 73
abbrev s_paper_of_flow : Stmt := top 75
abbrev s_walks_of_flow : Stmt := top 81
abbrev s_refuse_no_name : Stmt := top 85
abbrev s_refuse_no_width : Stmt := top 86
abbrev s_refuse_more : Stmt := top 87
abbrev s_Net_init : Stmt := inClass (top 88) 0
abbrev s_Net_place : Stmt := inClass (top 88) 1
abbrev s_Net_tie : Stmt := inClass (top 88) 2
abbrev s_Net_places : Stmt := inClass (top 88) 6
abbrev s_Net_ties : Stmt := inClass (top 88) 7
abbrev s_l_cell_at : Stmt := top 90
abbrev s_l_name : Stmt := top 91
abbrev s_l_parts : Stmt := top 92
abbrev s_l_net : Stmt := top 93
abbrev s_l_flow : Stmt := top 94
abbrev s_l_one : Stmt := top 95
abbrev s_law : Stmt := top 96
end Net
namespace Net
open PySem L2
section
variable {D : Ends} {σ : St} {H : Hp}
theorem hide2 {t1 t2 : TS} (h : ∀ u2, t2 = u2 → (tSeq t1 u2) D σ H) : (tSeq t1 t2) D σ H := h _ rfl
theorem hide3 {t1 t2 t3 : TS} (h : ∀ u2 u3, t2 = u2 → t3 = u3 → (tSeq t1 (tSeq u2 u3)) D σ H) : (tSeq t1 (tSeq t2 t3)) D σ H := h _ _ rfl rfl
theorem hide4 {t1 t2 t3 t4 : TS} (h : ∀ u2 u3 u4, t2 = u2 → t3 = u3 → t4 = u4 → (tSeq t1 (tSeq u2 (tSeq u3 u4))) D σ H) : (tSeq t1 (tSeq t2 (tSeq t3 t4))) D σ H := h _ _ _ rfl rfl rfl
theorem hide5 {t1 t2 t3 t4 t5 : TS} (h : ∀ u2 u3 u4 u5, t2 = u2 → t3 = u3 → t4 = u4 → t5 = u5 → (tSeq t1 (tSeq u2 (tSeq u3 (tSeq u4 u5)))) D σ H) : (tSeq t1 (tSeq t2 (tSeq t3 (tSeq t4 t5)))) D σ H := h _ _ _ _ rfl rfl rfl rfl
theorem hide6 {t1 t2 t3 t4 t5 t6 : TS} (h : ∀ u2 u3 u4 u5 u6, t2 = u2 → t3 = u3 → t4 = u4 → t5 = u5 → t6 = u6 → (tSeq t1 (tSeq u2 (tSeq u3 (tSeq u4 (tSeq u5 u6))))) D σ H) : (tSeq t1 (tSeq t2 (tSeq t3 (tSeq t4 (tSeq t5 t6))))) D σ H := h _ _ _ _ _ rfl rfl rfl rfl rfl
theorem hide7 {t1 t2 t3 t4 t5 t6 t7 : TS} (h : ∀ u2 u3 u4 u5 u6 u7, t2 = u2 → t3 = u3 → t4 = u4 → t5 = u5 → t6 = u6 → t7 = u7 → (tSeq t1 (tSeq u2 (tSeq u3 (tSeq u4 (tSeq u5 (tSeq u6 u7)))))) D σ H) : (tSeq t1 (tSeq t2 (tSeq t3 (tSeq t4 (tSeq t5 (tSeq t6 t7)))))) D σ H := h _ _ _ _ _ _ rfl rfl rfl rfl rfl rfl
theorem hide8 {t1 t2 t3 t4 t5 t6 t7 t8 : TS} (h : ∀ u2 u3 u4 u5 u6 u7 u8, t2 = u2 → t3 = u3 → t4 = u4 → t5 = u5 → t6 = u6 → t7 = u7 → t8 = u8 → (tSeq t1 (tSeq u2 (tSeq u3 (tSeq u4 (tSeq u5 (tSeq u6 (tSeq u7 u8))))))) D σ H) : (tSeq t1 (tSeq t2 (tSeq t3 (tSeq t4 (tSeq t5 (tSeq t6 (tSeq t7 t8))))))) D σ H := h _ _ _ _ _ _ _ rfl rfl rfl rfl rfl rfl rfl
theorem hide9 {t1 t2 t3 t4 t5 t6 t7 t8 t9 : TS} (h : ∀ u2 u3 u4 u5 u6 u7 u8 u9, t2 = u2 → t3 = u3 → t4 = u4 → t5 = u5 → t6 = u6 → t7 = u7 → t8 = u8 → t9 = u9 → (tSeq t1 (tSeq u2 (tSeq u3 (tSeq u4 (tSeq u5 (tSeq u6 (tSeq u7 (tSeq u8 u9)))))))) D σ H) : (tSeq t1 (tSeq t2 (tSeq t3 (tSeq t4 (tSeq t5 (tSeq t6 (tSeq t7 (tSeq t8 t9)))))))) D σ H := h _ _ _ _ _ _ _ _ rfl rfl rfl rfl rfl rfl rfl rfl
end
def abc : Str := "abcdefghijklmnopqrstuvwxyz"
def smallB (c : Nat) : Bool := decide (97 ≤ c) && decide (c ≤ 122)
def nameB (x : Str) : Bool := decide (1 ≤ x.length) && decide (x.length ≤ 12) && x.cps.toList.all smallB
structure Row where
 nm : Str
 a : Str
 b : Str
 w : Int
 c : Int
def Row.tup (r : Row) : List V := [.str r.nm, .str r.a, .str r.b, .int r.w, .int r.c]
structure NS where
 pl : List Str
 ti : List Row
def NS.nil : NS := ⟨[], []⟩
def NS.nms (S : NS) : List Str := S.ti.map (·.nm)
def flds (ds dl : Addr) : List (Str × V) := putF "laid" (.ref dl) (putF "standing" (.ref ds) [])
theorem sl_ne : ¬ (("standing" : Str) = "laid") := by decide +kernel
theorem flds_st (ds dl : Addr) : (flds ds dl).lookup ("standing" : Str) = some (.ref ds) := by
 unfold flds
 rw [lookup_putF, if_neg sl_ne, lookup_putF, if_pos rfl]
theorem flds_ld (ds dl : Addr) : (flds ds dl).lookup ("laid" : Str) = some (.ref dl) := by
 unfold flds
 rw [lookup_putF, if_pos rfl]
theorem flds_no (ds dl : Addr) {m : Str} (h1 : ¬ m = "laid") (h2 : ¬ m = "standing") : (flds ds dl).lookup m = none := by
 unfold flds
 rw [lookup_putF, if_neg h1, lookup_putF, if_neg h2]
 all_goals rfl
def stKV (S : NS) : List (Key × V) := S.pl.map fun x => (Sum.inr x, V.bl true)
def ldKV (L : List (Row × Addr)) : List (Key × V) := L.map fun q => (Sum.inr q.1.nm, V.ref q.2)
def Rows (H : Hp) (L : List (Row × Addr)) (rs : List Row) : Prop := L.map (·.1) = rs ∧ ∀ q ∈ L, H q.2 = some (.tup q.1.tup)
structure NetAt (C : Addr) (H : Hp) (p ds dl : Addr) (S : NS) : Prop where
 ob : ∃ dx, H p = some (.ins C dx (flds ds dl))
 st : H ds = some (.dK (stKV S))
 ld : ∃ L, Rows H L S.ti ∧ H dl = some (.dK (ldKV L))
 ne : ds ≠ dl
def But2 (H H' : Hp) (ds dl : Addr) : Prop := ∀ b o, H b = some o → b ≠ ds → b ≠ dl → H' b = some o
def spMade : Sp := fun vs H Q _ => ∃ (x y : Str), vs = [.str x, .str y] ∧ x.length ≤ sizeLine ∧ ∀ H', Same H H' → Q (.bl (x.cps.toList.all fun c => decide (c ∈ y.cps.toList))) H'
def spName : Sp := fun vs H Q _ => ∃ (x : Str), vs = [.str x] ∧ x.length ≤ sizeLine ∧ ∀ H', Same H H' → Q (.bl (nameB x)) H'
def spWhole : Sp := fun vs H Q _ => ∃ (i : Int), vs = [.int i] ∧ Q (.bl true) H
def spRefName : Sp := fun vs H Q _ => ∃ (x : Str), vs = [.str x] ∧ nameB x = true ∧ ∀ H', Same H H' → Q .non H'
def spRefWidth : Sp := fun vs H Q _ => ∃ (i : Int), vs = [.int i] ∧ 1 ≤ i ∧ Q .non H
def spRefMore : Sp := fun vs H Q _ => ∃ (i j : Int), vs = [.int i, .int j] ∧ i ≤ j ∧ Q .non H
def spInit (C : Addr) : Sp := fun vs H Q _ => ∃ (p dx : Addr), vs = [.ref p] ∧ H p = some (.ins C dx []) ∧ ∀ (ds dl : Addr) (H' : Hp), H ds = none → H dl = none → NetAt C H' p ds dl .nil → (∀ b o, H b = some o → b ≠ p → H' b = some o) → Q .non H'
def spPlace (C : Addr) : Sp := fun vs H Q _ => ∃ (p ds dl : Addr) (S : NS) (x : Str), vs = [.ref p, .str x] ∧ NetAt C H p ds dl S ∧ nameB x = true ∧ x ∉ S.pl ∧ S.pl.length < 20 ∧
 ∀ H', NetAt C H' p ds dl ⟨S.pl ++ [x], S.ti⟩ → But2 H H' ds dl → Q .non H'
def withEnds (pl : List Str) (a b : Str) : List Str := pl ++ [a, b].filter fun x => !decide (x ∈ pl)
def spTie (C : Addr) : Sp := fun vs H Q _ => ∃ (p ds dl : Addr) (S : NS) (r : Row), vs = [.ref p, .str r.nm, .str r.a, .str r.b, .int r.w, .int r.c] ∧ NetAt C H p ds dl S ∧ nameB r.nm = true ∧ nameB r.a = true ∧ nameB r.b = true ∧ r.nm ∉ S.nms ∧ ¬ r.a = r.b ∧ 1 ≤ r.w ∧
 S.ti.length < 40 ∧ (withEnds S.pl r.a r.b).length ≤ 20 ∧ ∀ H', NetAt C H' p ds dl ⟨withEnds S.pl r.a r.b, S.ti ++ [r]⟩ → But2 H H' ds dl → Q .non H'
def spPlaces (C : Addr) : Sp := fun vs H Q _ => ∃ (p ds dl : Addr) (S : NS), vs = [.ref p] ∧ NetAt C H p ds dl S ∧ ∀ l, H l = none → Q (.ref l) (upd H l (.lst (S.pl.map V.str)))
def spTies (C : Addr) : Sp := fun vs H Q _ => ∃ (p ds dl : Addr) (S : NS), vs = [.ref p] ∧ NetAt C H p ds dl S ∧ ∀ (l : Addr) (H' : Hp) (L : List (Row × Addr)), H l = none → Same H H' → Rows H L S.ti → H' l = some (.lst (L.map fun q => V.ref q.2)) → Q (.ref l) H'
structure Txt (K : PySem.W.Frag) (mg : Str → Option Value) (C : Addr) : Prop where
 cl : Cls K C
 nS : NoAttr K C "standing"
 nL : NoAttr K C "laid"
 mgC : mg "Net" = some (.ref C)
 all : mg "all" = none
 isi : mg "isinstance" = none
 str : mg "str" = none
 int : mg "int" = none
 bool : mg "bool" = none
 list : mg "list" = none
 tuple : mg "tuple" = none
 len : mg "len" = none
 range : mg "range" = none
 abs : mg "abs" = none
 small : GlobIs mg "SMALL_LETTERS" (.str abc)
 longest : GlobIs mg "LONGEST_NAME" (.int 12)
 mostP : GlobIs mg "MOST_PLACES" (.int 20)
 mostT : GlobIs mg "MOST_TIES" (.int 40)
 kIB : PySem.W.kitOne K (.type "int") (.type "bool") = some false
section
variable {P : Program} {w : World} {K : PySem.W.Frag} {mg : Str → Option Value} {base : Heap} {C : Addr}
theorem sc_made : FnScope ["text", "signs"] ["text", "signs"] (defScope s_is_made_of) := ⟨rfl, rfl, rfl, by decide +kernel, rfl, by decide +kernel, by decide +kernel⟩
theorem ok_made {f : Addr} {fd : FuncData} (F : Fun K "is_made_of" "is_made_of" s_is_made_of f fd) (T : Txt K mg C) : FnOk P w K mg base CX0 1 f fd ["text", "signs"] spMade := by
 refine F.ok sc_made (fun vs H Q E h => ?_) (fun cdv A outer s H vs Q E hr h => ?_)
 ·obtain ⟨x, y, rfl, _⟩ := h
  rfl
 ·obtain ⟨x, y, rfl, hx, k⟩ := h
  refine ⟨_, pss_one (ps_ret (pe_callB (call_all rfl) (by rfl) T.all b_all (pa_cons (pe_comp (N := ["sign", "signs"]) (xs := 1) (js := [1]) rfl (compScope_of rfl) (pi_str (pv 0))
   (fun _ _ _ _ => pg_name (i := 0) (show List.Nodup (["sign", "signs"] : List Str) by decide +kernel) rfl (Or.inl rfl)) (fun _ _ _ _ => pts_nil) (fun _ _ _ _ => pe_cmpR op_in_str (pv 0) (pv 1) (by with_unfolding_all rfl))) pa_nil))), ?_⟩
  refine ⟨_, rfl, x, rfl, comp_str (fun i acc σ' H' => H' = H ∧ acc = (x.cps.toList.take i).map (fun c => V.bl (decide (c ∈ y.cps.toList))) ∧ ∃ o, σ' = [o, some (.str y)])
   ⟨rfl, rfl, none, rfl⟩ (fun i acc σ' H' h => ?_) hx (fun i c acc σ' H' hc h => ?_) (fun acc σ' H' h p hp => ?_)⟩
  ·rw [h.2.1, List.length_map, List.length_take]
   omega
  ·obtain ⟨rfl, rfl, o, rfl⟩ := h
   refine ⟨_, rfl, _, rfl, _, _, rfl, rfl, rfl, ?_, _, rfl⟩
   have hc' : x.cps.toList[i]? = some c := by simpa using hc
   rw [StrLaws.found_one, List.take_add_one, hc', List.map_append]
   rfl
  ·obtain ⟨rfl, rfl, o, rfl⟩ := h
   refine ⟨p, x.cps.toList.map (fun c => decide (c ∈ y.cps.toList)), rfl, SqL.of ?_, ?_⟩
   ·rw [upd_same, List.map_map, List.take_of_length_le (by simp)]
    rfl
   ·rw [List.all_map]
    exact k _ fun b ob e => by rw [upd_ne (ne_of_none e hp)]; exact e
theorem mem_abc (c : Nat) : decide (c ∈ abc.cps.toList) = smallB c := by
 have e : abc.cps.toList = (List.range 26).map (97 + ·) := by decide +kernel
 rw [e]
 unfold smallB
 rw [Bool.eq_iff_iff]
 simp only [decide_eq_true_eq, Bool.and_eq_true, List.mem_map, List.mem_range]
 constructor
 ·rintro ⟨k, h1, h2⟩
  omega
 ·intro h
  exact ⟨c - 97, by omega, by omega⟩
theorem sc_name : FnScope ["word"] ["word"] (defScope s_is_name) := ⟨rfl, rfl, rfl, by decide +kernel, rfl, by decide +kernel, by decide +kernel⟩
theorem ok_name {f : Addr} {fd : FuncData} (F : Fun K "is_name" "is_name" s_is_name f fd) (T : Txt K mg C) (c1 : Can P w K mg base 1 "is_made_of" ["text", "signs"] spMade) : FnOk P w K mg base CX0 2 f fd ["word"] spName := by
 refine F.ok sc_name (fun vs H Q E h => ?_) (fun cdv A outer s H vs Q E hr h => ?_)
 ·obtain ⟨x, rfl, _⟩ := h
  rfl
 ·obtain ⟨x, rfl, hx, k⟩ := h
  refine ⟨_, pss_cons (ps_if (pt_not (pt_val (pe_callB call_isinst (by rfl) T.isi b_isi (pa_cons (pv 0) (pa_cons (pe_ty T.str (by rfl) b_str) pa_nil))))) (pss_one (ps_ret pe_bl)) pss_nil)
   (pss_one (ps_ret (pe_and (pe_chain op_le op_le pe_int (pe_callB call_len_str (by rfl) T.len b_len (pa_cons (pv 0) pa_nil)) (pe_globC T.longest (by rfl)))
    (pe_one (pe_callC c1 hr (by rfl) (pa_cons (pv 0) (pa_cons (pe_globC T.small (by rfl)) pa_nil))))))), ?_⟩
  refine ⟨_, rfl, _, "str", _, true, rfl, .str x, rfl, true, rfl, iteF ?_⟩
  refine ⟨_, rfl, x, rfl, hx, _, _, rfl, rfl, _, rfl, ?_⟩
  refine ite2 (fun h1 => ⟨_, _, rfl, rfl, _, rfl, ite2 (fun h2 => ⟨_, rfl, x, abc, rfl, hx, fun H' s' => ?_⟩) (fun h2 => ?_)⟩) (fun h1 => ⟨_, rfl, iteF ?_⟩)
  ·have e : nameB x = (x.cps.toList.all fun c => decide (c ∈ abc.cps.toList)) := by
    unfold nameB
    rw [decide_eq_true (p := 1 ≤ x.length) (by have := of_decide_eq_true h1; omega), decide_eq_true (p := x.length ≤ 12) (by have := of_decide_eq_true h2; omega)]
    simp only [mem_abc, Bool.true_and]
   rw [← e]
   exact k H' s'
  ·have e : nameB x = false := by
    unfold nameB
    rw [decide_eq_false (p := x.length ≤ 12) (fun z => h2 (decide_eq_true (by omega)))]
    simp
   have := k H (Same.refl H)
   rw [e] at this
   exact this
  ·have e : nameB x = false := by
    unfold nameB
    rw [decide_eq_false (p := 1 ≤ x.length) (fun z => h1 (decide_eq_true (by omega)))]
    simp
   have := k H (Same.refl H)
   rw [e] at this
   exact this
theorem sc_whole : FnScope ["thing"] ["thing"] (defScope s_is_whole) := ⟨rfl, rfl, rfl, by decide +kernel, rfl, by decide +kernel, by decide +kernel⟩
theorem ok_whole {f : Addr} {fd : FuncData} (F : Fun K "is_whole" "is_whole" s_is_whole f fd) (T : Txt K mg C) : FnOk P w K mg base CX0 1 f fd ["thing"] spWhole := by
 refine F.ok sc_whole (fun vs H Q E h => ?_) (fun cdv A outer s H vs Q E hr h => ?_)
 ·obtain ⟨x, rfl, _⟩ := h
  rfl
 ·obtain ⟨x, rfl, k⟩ := h
  refine ⟨_, pss_one (ps_ret (pe_and (pe_callB call_isinst (by rfl) T.isi b_isi (pa_cons (pv 0) (pa_cons (pe_ty T.int (by rfl) b_int) pa_nil)))
   (pe_one (pe_not (pe_callB call_isinst (by rfl) T.isi b_isi (pa_cons (pv 0) (pa_cons (pe_ty T.bool (by rfl) b_bool) pa_nil))))))), ?_⟩
  exact ⟨_, rfl, _, "int", _, true, rfl, .int x, rfl, true, rfl, iteT ⟨_, rfl, _, "bool", _, false, rfl, .int x, T.kIB, false, rfl, k⟩⟩
theorem sc_refName : FnScope ["word"] ["word"] (defScope s_refuse_no_name) := ⟨rfl, rfl, rfl, by decide +kernel, rfl, by decide +kernel, by decide +kernel⟩
theorem ok_refName {f : Addr} {fd : FuncData} (F : Fun K "refuse_no_name" "refuse_no_name" s_refuse_no_name f fd) (T : Txt K mg C) (c1 : Can P w K mg base 2 "is_name" ["word"] spName) : FnOk P w K mg base CX0 3 f fd ["word"] spRefName := by
 refine F.ok sc_refName (fun vs H Q E h => ?_) (fun cdv A outer s H vs Q E hr h => ?_)
 ·obtain ⟨x, rfl, _⟩ := h
  rfl
 ·obtain ⟨x, rfl, hx, k⟩ := h
  refine ⟨_, pss_one (ps_if (pt_not (pt_val (pe_callC c1 hr (by rfl) (pa_cons (pv 0) pa_nil)))) pss_never pss_nil), ?_⟩
  refine ⟨_, rfl, x, rfl, ?_, fun H' s' => ⟨_, rfl, ?_⟩⟩
  ·have h1 : x.length ≤ 12 := by
    unfold nameB at hx
    simp at hx
    exact hx.1.2
   exact Nat.le_trans h1 (by decide)
  ·rw [hx]
   exact iteF (k H' s')
theorem sc_refWidth : FnScope ["width"] ["width"] (defScope s_refuse_no_width) := ⟨rfl, rfl, rfl, by decide +kernel, rfl, by decide +kernel, by decide +kernel⟩
theorem ok_refWidth {f : Addr} {fd : FuncData} (F : Fun K "refuse_no_width" "refuse_no_width" s_refuse_no_width f fd) (T : Txt K mg C) (c1 : Can P w K mg base 1 "is_whole" ["thing"] spWhole) : FnOk P w K mg base CX0 2 f fd ["width"] spRefWidth := by
 refine F.ok sc_refWidth (fun vs H Q E h => ?_) (fun cdv A outer s H vs Q E hr h => ?_)
 ·obtain ⟨x, rfl, _⟩ := h
  rfl
 ·obtain ⟨x, rfl, hx, k⟩ := h
  refine ⟨_, pss_one (ps_if (PW.pt (pw_or (pt_not (pt_val (pe_callC c1 hr (by rfl) (pa_cons (pv 0) pa_nil)))) (pw_or1 (pt_cmpR op_lt (pv 0) pe_int (nomark _))))) pss_never pss_nil), ?_⟩
  refine ⟨_, rfl, x, rfl, true, rfl, iteF ⟨_, rfl, _, _, rfl, rfl, _, rfl, ?_⟩⟩
  rw [decide_eq_false (by omega)]
  exact iteF k
theorem sc_refMore : FnScope ["many", "most"] ["many", "most"] (defScope s_refuse_more) := ⟨rfl, rfl, rfl, by decide +kernel, rfl, by decide +kernel, by decide +kernel⟩
theorem ok_refMore {f : Addr} {fd : FuncData} (F : Fun K "refuse_more" "refuse_more" s_refuse_more f fd) (T : Txt K mg C) : FnOk P w K mg base CX0 1 f fd ["many", "most"] spRefMore := by
 refine F.ok sc_refMore (fun vs H Q E h => ?_) (fun cdv A outer s H vs Q E hr h => ?_)
 ·obtain ⟨x, y, rfl, _⟩ := h
  rfl
 ·obtain ⟨x, y, rfl, hx, k⟩ := h
  refine ⟨_, pss_one (ps_if (pt_cmpR op_gt (pv 0) (pv 1) (nomark _)) pss_never pss_nil), ?_⟩
  refine ⟨_, rfl, _, rfl, _, _, rfl, rfl, _, rfl, ?_⟩
  rw [decide_eq_false (by omega)]
  exact iteF k
theorem sc_init : FnScope ["self"] ["self"] (defScope s_Net_init) := ⟨rfl, rfl, rfl, by decide +kernel, rfl, by decide +kernel, by decide +kernel⟩
theorem ok_init {f : Addr} {fd : FuncData} (F : Fun K "__init__" "Net.__init__" s_Net_init f fd) (T : Txt K mg C) : FnOk P w K mg base CX0 1 f fd ["self"] (spInit C) := by
 refine F.ok sc_init (fun vs H Q E h => ?_) (fun cdv A outer s H vs Q E hr h => ?_)
 ·obtain ⟨p, dx, rfl, _⟩ := h
  rfl
 ·obtain ⟨p, dx, rfl, hp, k⟩ := h
  refine ⟨_, pss_cons (ps_fld (pv 0) pe_dnewK rfl) (pss_one (ps_fld (pv 0) pe_dnewK rfl)), ?_⟩
  intro ds hds
  have n1 : p ≠ ds := ne_of_none hp hds
  refine ⟨_, rfl, p, C, dx, [], rfl, (by rw [upd_ne n1]; exact hp), T.cl, T.nS, (by show 0 < 1000; decide), ?_⟩
  intro dl hdl
  have n2 : p ≠ dl := by
   intro e
   subst e
   rw [upd_same] at hdl
   cases hdl
  have n3 : ds ≠ dl := by
   intro e
   subst e
   rw [upd_ne n1.symm, upd_same] at hdl
   cases hdl
  have hdl' : H dl = none := by
   rw [upd_ne n2.symm, upd_ne n3.symm] at hdl
   exact hdl
  refine ⟨_, rfl, p, C, dx, _, rfl, (by rw [upd_ne n2, upd_same]), T.cl, T.nL, (by show 1 < 1000; decide), ?_⟩
  refine k ds dl _ hds hdl' ⟨⟨dx, upd_same⟩, ?_, ⟨[], ⟨rfl, fun q h => nomatch h⟩, ?_⟩, n3⟩ fun b o e hb => ?_
  ·rw [upd_ne n1.symm, upd_ne n3, upd_ne n1.symm, upd_same]
   rfl
  ·rw [upd_ne n2.symm, upd_same]
   rfl
  ·rw [upd_ne hb, upd_ne (ne_of_none e hdl'), upd_ne hb, upd_ne (ne_of_none e hds)]
   exact e
theorem st_none {S : NS} {x : Str} (h : x ∉ S.pl) : valV (stKV S) (Sum.inr x : Key) = none := by
 cases e : valV (stKV S) (Sum.inr x : Key) with
 | none => rfl
 | some v =>
  have := valV_in e
  unfold stKV at this
  rw [List.map_map] at this
  obtain ⟨y, hy, e2⟩ := List.mem_map.mp this
  exact absurd (Sum.inr.inj e2 ▸ hy) h
theorem st_some {S : NS} {x : Str} (h : x ∈ S.pl) : (valV (stKV S) (Sum.inr x : Key)).isSome = true := by
 cases e : valV (stKV S) (Sum.inr x : Key) with
 | some v => rfl
 | none =>
  refine absurd ?_ (valV_not e)
  unfold stKV
  rw [List.map_map]
  exact List.mem_map.mpr ⟨x, h, rfl⟩
theorem st_in (S : NS) (x : Str) : (valV (stKV S) (Sum.inr x : Key)).isSome = decide (x ∈ S.pl) := by
 by_cases h : x ∈ S.pl
 ·rw [st_some h, decide_eq_true h]
 ·rw [st_none h, decide_eq_false h]
  rfl
theorem ld_keys {L : List (Row × Addr)} {rs : List Row} (h : L.map (·.1) = rs) : (ldKV L).map (·.1) = rs.map fun r => (Sum.inr r.nm : Key) := by
 rw [← h]
 unfold ldKV
 rw [List.map_map, List.map_map]
 rfl
theorem ld_none {L : List (Row × Addr)} {S : NS} {x : Str} (hL : L.map (·.1) = S.ti) (h : x ∉ S.nms) : valV (ldKV L) (Sum.inr x : Key) = none := by
 cases e : valV (ldKV L) (Sum.inr x : Key) with
 | none => rfl
 | some v =>
  have := valV_in e
  rw [ld_keys hL] at this
  obtain ⟨y, hy, e2⟩ := List.mem_map.mp this
  exact absurd (List.mem_map.mpr ⟨y, hy, Sum.inr.inj e2⟩) h
theorem sc_place : FnScope ["self", "name"] ["self", "name"] (defScope s_Net_place) := ⟨rfl, rfl, rfl, by decide +kernel, rfl, by decide +kernel, by decide +kernel⟩
theorem ok_place {f : Addr} {fd : FuncData} (F : Fun K "place" "Net.place" s_Net_place f fd) (T : Txt K mg C) (c1 : Can P w K mg base 3 "refuse_no_name" ["word"] spRefName) (c2 : Can P w K mg base 1 "refuse_more" ["many", "most"] spRefMore) :
  FnOk P w K mg base CX0 4 f fd ["self", "name"] (spPlace C) := by
 refine F.ok sc_place (fun vs H Q E h => ?_) (fun cdv A outer s H vs Q E hr h => ?_)
 ·obtain ⟨p, ds, dl, S, x, rfl, _⟩ := h
  rfl
 ·obtain ⟨p, ds, dl, S, x, rfl, N, hx, hn, hl, k⟩ := h
  have hu := hu_of hr
  refine ⟨_, pss_cons (ps_expr (pe_callC c1 hr (by rfl) (pa_cons (pv 1) pa_nil)))
   (pss_cons (ps_if (pt_cmp (pc_din hu (pv 1) (pe_fld (pv 0) rfl))) pss_never pss_nil)
   (pss_cons (ps_expr (pe_callC c2 (hr.mono (by decide)) (by rfl) (pa_cons (pe_op op_add (pe_callB call_lenD (by rfl) T.len b_len (pa_cons (pe_fld (pv 0) rfl) pa_nil)) pe_int) (pa_cons (pe_globC T.mostP (by rfl)) pa_nil))))
   (pss_one (ps_dput hu (pe_fld (pv 0) rfl) (pv 1) pe_bl rfl)))), ?_⟩
  refine ⟨_, rfl, x, rfl, hx, fun H1 s1 => ?_⟩
  obtain ⟨⟨dx, h1⟩, h2, ⟨L, ⟨r1, r2⟩, h3⟩, ne⟩ := N
  have g1 := s1 _ _ h1
  have g2 := s1 _ _ h2
  refine ⟨_, rfl, _, rfl, p, C, dx, _, _, rfl, g1, T.cl, T.nS, flds_st _ _, ds, _, rfl, DGet.k (k := Sum.inr x) g2, _, rfl, ?_⟩
  rw [st_none hn]
  refine iteF ?_
  refine ⟨_, rfl, p, C, dx, _, _, rfl, g1, T.cl, T.nS, flds_st _ _, ds, _, rfl, g2, _, _, rfl, rfl, _, _, rfl, ?_, ?_⟩
  ·unfold stKV
   rw [List.length_map]
   omega
  refine ⟨_, rfl, p, C, dx, _, _, rfl, g1, T.cl, T.nS, flds_st _ _, _, rfl, ds, _, rfl, DPut.k (k := Sum.inr x) g2 (small1000 (by unfold stKV; rw [List.length_map]; omega)), ?_⟩
  have npd : p ≠ ds := ne_of g1 g2 (by intro z; cases z)
  have e : putK (stKV S) (Sum.inr x : Key) (V.bl true) = stKV ⟨S.pl ++ [x], S.ti⟩ := by
   rw [putK_new _ (st_none hn)]
   unfold stKV
   rw [List.map_append]
   rfl
  refine k _ ⟨⟨dx, by rw [upd_ne npd]; exact g1⟩, by rw [upd_same, e], ⟨L, ⟨r1, fun q hq => ?_⟩, by rw [upd_ne ne.symm]; exact s1 _ _ h3⟩, ne⟩ fun b o z z1 z2 => by rw [upd_ne z1]; exact s1 _ _ z
  have z := s1 _ _ (r2 q hq)
  rw [upd_ne (ne_of z g2 (by intro y; cases y))]
  exact z
theorem sc_places : FnScope ["self"] ["self"] (defScope s_Net_places) := ⟨rfl, rfl, rfl, by decide +kernel, rfl, by decide +kernel, by decide +kernel⟩
theorem ok_places {f : Addr} {fd : FuncData} (F : Fun K "places" "Net.places" s_Net_places f fd) (T : Txt K mg C) : FnOk P w K mg base CX0 1 f fd ["self"] (spPlaces C) := by
 refine F.ok sc_places (fun vs H Q E h => ?_) (fun cdv A outer s H vs Q E hr h => ?_)
 ·obtain ⟨p, ds, dl, S, rfl, _⟩ := h
  rfl
 ·obtain ⟨p, ds, dl, S, rfl, ⟨⟨dx, h1⟩, h2, _, _⟩, k⟩ := h
  refine ⟨_, pss_one (ps_ret (pe_callTy (call_listD rfl) (by rfl) T.list b_list (pa_cons (pe_fld (pv 0) rfl) pa_nil))), ?_⟩
  refine ⟨_, rfl, p, C, dx, _, _, rfl, h1, T.cl, T.nS, flds_st _ _, ds, stKV S, rfl, .inl h2, fun l hl => ?_⟩
  have e : (stKV S).map (fun kv => kV kv.1) = S.pl.map V.str := by
   unfold stKV
   rw [List.map_map]
   rfl
  rw [e]
  exact k l hl
theorem sc_ties : FnScope ["self"] ["self"] (defScope s_Net_ties) := ⟨rfl, rfl, rfl, by decide +kernel, rfl, by decide +kernel, by decide +kernel⟩
theorem ok_ties {f : Addr} {fd : FuncData} (F : Fun K "ties" "Net.ties" s_Net_ties f fd) (T : Txt K mg C) : FnOk P w K mg base CX0 1 f fd ["self"] (spTies C) := by
 refine F.ok sc_ties (fun vs H Q E h => ?_) (fun cdv A outer s H vs Q E hr h => ?_)
 ·obtain ⟨p, ds, dl, S, rfl, _⟩ := h
  rfl
 ·obtain ⟨p, ds, dl, S, rfl, ⟨⟨dx, h1⟩, h2, ⟨L, R, h3⟩, _⟩, k⟩ := h
  refine ⟨_, pss_one (ps_ret (pe_callTy (call_listV rfl) (by rfl) T.list b_list (pa_cons (pe_bm0 PySem.F.plainAttrs_dict PySem.F.slot_dict_values PySem.F.type_dict_values mt_values (pe_fld (pv 0) rfl)) pa_nil))), ?_⟩
  refine ⟨_, rfl, p, C, dx, _, _, rfl, h1, T.cl, T.nL, flds_ld _ _, .inr (.inr (.inl ⟨rfl, .inl ⟨_, h3⟩⟩)), dl, ldKV L, rfl, rfl, .inl h3, fun v hv => ?_⟩
  have nv : dl ≠ v := ne_of_none h3 hv
  refine ⟨v, dl, ldKV L, rfl, upd_same, .inl (by rw [upd_ne nv]; exact h3), fun l hl => ?_⟩
  have hlv : l ≠ v := by
   intro e
   subst e
   rw [upd_same] at hl
   cases hl
  have hl' : H l = none := by rw [upd_ne hlv] at hl; exact hl
  refine k l _ L hl' ((Same.new hv).upd hl) R ?_
  rw [upd_same]
  unfold ldKV
  rw [List.map_map]
  rfl
end
end Net
namespace Net
open PySem L2
section
variable {P : Program} {w : World} {K : PySem.W.Frag} {mg : Str → Option Value} {base : Heap} {C : Addr}
theorem sc_cell : FnScope ["_law_script", "_law_k"] ["_law_script", "_law_k"] (defScope s_l_cell_at) := ⟨rfl, rfl, rfl, by decide +kernel, rfl, by decide +kernel, by decide +kernel⟩
theorem nodup_len {α : Type} [DecidableEq α] : ∀ {l m : List α}, l.Nodup → (∀ x ∈ l, x ∈ m) → l.length ≤ m.length
 | [], _, _, _ => Nat.zero_le _
 | x :: r, m, h, hs => by
  obtain ⟨h1, h2⟩ := List.nodup_cons.mp h
  have hx : x ∈ m := hs x List.mem_cons_self
  have := nodup_len (l := r) (m := m.erase x) h2 fun y hy => by
   have hne : y ≠ x := fun e => h1 (e ▸ hy)
   exact (List.mem_erase_of_ne hne).mpr (hs y (List.mem_cons_of_mem _ hy))
  rw [List.length_erase_of_mem hx] at this
  have hp : 0 < m.length := List.length_pos_of_mem hx
  rw [List.length_cons]
  omega
theorem abc_get {j : Nat} (h : j < 26) : abc.cps.toList[j]? = some (97 + j) := by
 have e : abc.cps.toList = (List.range 26).map (97 + ·) := by decide +kernel
 rw [e, List.getElem?_map, List.getElem?_range h]
 rfl
end
end Net
namespace Net
open PySem L2
theorem nodup_snoc {l : List Str} {x : Str} (h : l.Nodup) (hx : x ∉ l) : (l ++ [x]).Nodup := L2.nd_snoc h hx
theorem withEnds_eq (pl : List Str) (a b : Str) : withEnds pl a b = pl ++ ((if a ∈ pl then [] else [a]) ++ (if b ∈ pl then [] else [b])) := by
 unfold withEnds
 by_cases ha : a ∈ pl <;> by_cases hb : b ∈ pl <;> simp [ha, hb]
theorem Rows.same {H H' : Hp} {L : List (Row × Addr)} {rs : List Row} (s : Same H H') (h : Rows H L rs) : Rows H' L rs := ⟨h.1, fun q hq => s _ _ (h.2 q hq)⟩
theorem NetAt.same {C : Addr} {H H' : Hp} {p ds dl : Addr} {S : NS} (s : Same H H') (h : NetAt C H p ds dl S) : NetAt C H' p ds dl S :=
 ⟨let ⟨dx, e⟩ := h.ob; ⟨dx, s _ _ e⟩, s _ _ h.st, let ⟨L, r, e⟩ := h.ld; ⟨L, r.same s, s _ _ e⟩, h.ne⟩
theorem strOk_of {x : Str} (h : nameB x = true) : PyData.strOk x = true := by
 unfold nameB at h
 simp only [Bool.and_eq_true, List.all_eq_true] at h
 unfold PyData.strOk
 rw [Array.all_eq_true']
 intro c hc
 have := h.2 c (by simpa using hc)
 unfold smallB at this
 simp at this
 simp
 omega
def rowD (r : Row) : PyData := .tuple [.str r.nm, .str r.a, .str r.b, .int r.w, .int r.c]
theorem rd_strs {K : PySem.W.Frag} {H : Hp} {l : Addr} {ws : List Str} (h : H l = some (.lst (ws.map V.str))) (ok : ∀ x ∈ ws, nameB x = true) : RdD K H 2 (.ref l) (.list (ws.map PyData.str)) := by
 refine .inl ⟨_, _, SqL.of h, rfl, ?_⟩
 clear h
 induction ws with
 | nil => exact .nil
 | cons x r ih => exact .cons ⟨strOk_of (ok x List.mem_cons_self), rfl⟩ (ih fun y hy => ok y (List.mem_cons_of_mem _ hy))
theorem rd_rows {K : PySem.W.Frag} {H : Hp} {l : Addr} {L : List (Row × Addr)} {rs : List Row} (R : Rows H L rs) (h : H l = some (.lst (L.map fun q => V.ref q.2)))
  (ok : ∀ r ∈ rs, nameB r.nm = true ∧ nameB r.a = true ∧ nameB r.b = true) : RdD K H 2 (.ref l) (.list (rs.map rowD)) := by
 refine .inl ⟨_, _, SqL.of h, rfl, ?_⟩
 clear h
 obtain ⟨rfl, h2⟩ := R
 induction L with
 | nil => exact .nil
 | cons q r ih =>
  refine .cons (.inr ⟨_, _, SqT.of (h2 q List.mem_cons_self), rfl, ?_⟩) (ih (fun y hy => h2 y (List.mem_cons_of_mem _ hy)) fun y hy => ok y (List.mem_cons_of_mem _ hy))
  obtain ⟨a1, a2, a3⟩ := ok q.1 List.mem_cons_self
  exact .cons ⟨strOk_of a1, rfl⟩ (.cons ⟨strOk_of a2, rfl⟩ (.cons ⟨strOk_of a3, rfl⟩ (.cons rfl (.cons rfl .nil))))
theorem rd_nil {K : PySem.W.Frag} {H : Hp} {l : Addr} (h : H l = some (.lst [])) : RdD K H 2 (.ref l) (.list []) := .inl ⟨_, _, SqL.of h, rfl, .nil⟩
theorem lay_strs {ws : List Str} (ok : ∀ x ∈ ws, nameB x = true) : PyData.eqv (.list (ws.map PyData.str)) (.list (ws.map PyData.str)) = true := by
 rw [PyData.eqv]
 induction ws with
 | nil => rfl
 | cons x r ih =>
  show (PyData.eqv (.str x) (.str x) && PyData.eqvAll (r.map PyData.str) (r.map PyData.str)) = true
  rw [ih fun y hy => ok y (List.mem_cons_of_mem _ hy)]
  simp [PyData.eqv]
theorem lay_rows (rs : List Row) : PyData.eqv (.list (rs.map rowD)) (.list (rs.map rowD)) = true := by
 rw [PyData.eqv]
 induction rs with
 | nil => rfl
 | cons x r ih =>
  show (PyData.eqv (rowD x) (rowD x) && PyData.eqvAll (r.map rowD) (r.map rowD)) = true
  rw [ih]
  simp [rowD, PyData.eqv, PyData.eqvAll]
theorem eqv_nil (ds : List PyData) : PyData.eqv (.list ds) (.list []) = ds.isEmpty := by
 cases ds <;> rfl
theorem inV_str (x : Str) (ns : List Str) : inV (.str x) (ns.map V.str) = decide (x ∈ ns) := by
 unfold inV
 rw [List.any_map, Bool.eq_iff_iff]
 simp only [List.any_eq_true, Function.comp, decide_eq_true_eq, eqV]
 constructor
 ·rintro ⟨y, h1, h2⟩
  have := eq_of_beq h2
  exact this ▸ h1
 ·intro h
  exact ⟨x, h, by simp⟩
theorem flat_strs (ns : List Str) : (ns.map V.str).all flatV = true := by
 rw [List.all_map]
 exact List.all_eq_true.mpr fun _ _ => rfl
end Net
namespace Net
open PySem L2
section
variable {P : Program} {w : World} {K : PySem.W.Frag} {mg : Str → Option Value} {base : Heap} {C : Addr}
abbrev Ntie : List Str := ["self", "name", "a", "b", "width", "cost", "word", "new_places", "end"]
theorem sc_tie : FnScope Ntie ["self", "name", "a", "b", "width", "cost"] (defScope s_Net_tie) := ⟨rfl, rfl, rfl, by decide +kernel, rfl, by decide +kernel, by decide +kernel⟩
theorem ok_tie {f : Addr} {fd : FuncData} (F : Fun K "tie" "Net.tie" s_Net_tie f fd) (T : Txt K mg C) (c1 : Can P w K mg base 3 "refuse_no_name" ["word"] spRefName) (c2 : Can P w K mg base 2 "refuse_no_width" ["width"] spRefWidth) (c3 : Can P w K mg base 1 "refuse_more" ["many", "most"] spRefMore) :
  FnOk P w K mg base CX0 4 f fd ["self", "name", "a", "b", "width", "cost"] (spTie C) := by
 refine F.ok sc_tie (fun vs H Q E h => ?_) (fun cdv A outer s H vs Q E hr h => ?_)
 ·obtain ⟨p, ds, dl, S, r, rfl, _⟩ := h
  rfl
 ·obtain ⟨p, ds, dl, S, r, rfl, N, n1, n2, n3, hn, hab, hw, hl40, hl20, k⟩ := h
  have hu := hu_of hr
  refine ⟨_, pss_cons (ps_for PassesOwn.never rfl (pi_tup (pe_tup (pa_cons (pv 1) (pa_cons (pv 2) (pa_cons (pv 3) pa_nil))))) (pg_name (i := 6) sc_tie.nd rfl (Or.inl rfl)) (pss_one (ps_expr (pe_callC c1 hr (by rfl) (pa_cons (pv 6) pa_nil)))))
   (pss_cons (ps_if (pt_cmp (pc_din hu (pv 1) (pe_fld (pv 0) rfl))) pss_never pss_nil)
   (pss_cons (ps_if (pt_cmpR op_eq (pv 2) (pv 3) (nomark _)) pss_never pss_nil)
   (pss_cons (ps_expr (pe_callC c2 (hr.mono (by decide)) (by rfl) (pa_cons (pv 4) pa_nil)))
   (pss_cons (ps_comp (j := 7) (N := ["end", "self"]) (xs := 1) (js := [0]) rfl sc_tie.nd rfl rfl (compScope_of rfl) (pi_tup (pe_tup (pa_cons (pv 2) (pa_cons (pv 3) pa_nil)))) (fun _ _ _ _ => pg_name (i := 0) (show List.Nodup (["end", "self"] : List Str) by decide +kernel) rfl (Or.inl rfl))
    (fun _ _ _ _ => pts_one (pt_cmp (pc_dnotin hu (pv 0) (pe_fldK K (by rfl) (pv 1) (by rfl))))) (fun _ _ _ _ => pv 0) rfl)
   (pss_cons (ps_expr (pe_callC c3 (hr.mono (by decide)) (by rfl) (pa_cons (pe_op op_add (pe_callB call_lenD (by rfl) T.len b_len (pa_cons (pe_fld (pv 0) rfl) pa_nil)) pe_int) (pa_cons (pe_globC T.mostT (by rfl)) pa_nil))))
   (pss_cons (ps_expr (pe_callC c3 (hr.mono (by decide)) (by rfl) (pa_cons (pe_op op_add (pe_callB call_lenD (by rfl) T.len b_len (pa_cons (pe_fld (pv 0) rfl) pa_nil)) (pe_callB call_len_seq (by rfl) T.len b_len (pa_cons (pv 7) pa_nil))) (pa_cons (pe_globC T.mostP (by rfl)) pa_nil))))
   (pss_cons (ps_for PassesOwn.never rfl (pi_list (pv 7)) (pg_name (i := 8) sc_tie.nd rfl (Or.inl rfl)) (pss_one (ps_dput hu (pe_fld (pv 0) rfl) (pv 8) pe_bl rfl)))
   (pss_one (ps_dput hu (pe_fld (pv 0) rfl) (pv 1) (pe_tup (pa_cons (pv 1) (pa_cons (pv 2) (pa_cons (pv 3) (pa_cons (pv 4) (pa_cons (pv 5) pa_nil)))))) rfl))))))))), ?_⟩
  refine ⟨_, rfl, _, rfl, _, rfl, (by show 3 ≤ sizeLine; decide), fun t ht => ⟨t, rfl, ⟨_, SqT.of upd_same⟩, ?_⟩⟩
  have st : Same H (upd H t (.tup [V.str r.nm, V.str r.a, V.str r.b])) := Same.new ht
  have et : (upd H t (.tup [V.str r.nm, V.str r.a, V.str r.b])) t = some (.tup [V.str r.nm, V.str r.a, V.str r.b]) := upd_same
  generalize upd H t (.tup [V.str r.nm, V.str r.a, V.str r.b]) = H1 at st et
  refine for_tup (K := K) (a := t) (xs := [V.str r.nm, V.str r.a, V.str r.b]) (fun i σ' H' => (∃ v, σ' = [some (.ref p), some (.str r.nm), some (.str r.a), some (.str r.b), some (.int r.w), some (.int r.c), v, none, none]) ∧ Same H1 H')
   ⟨⟨_, rfl⟩, Same.refl H1⟩ (fun i σ' H' _ h => SqT.of (h.2 _ _ et)) (fun i x σ' H' hx h => ?_) (fun σ' H' h => ?_)
  ·obtain ⟨⟨v, rfl⟩, s1⟩ := h
   obtain ⟨y, rfl, hy⟩ : ∃ y, x = V.str y ∧ nameB y = true := by
    match i, hx with
    | 0, hx => exact ⟨_, (Option.some.inj hx).symm, n1⟩
    | 1, hx => exact ⟨_, (Option.some.inj hx).symm, n2⟩
    | 2, hx => exact ⟨_, (Option.some.inj hx).symm, n3⟩
    | n + 3, hx => simp at hx
   exact ⟨_, rfl, y, rfl, hy, fun H2 s2 => ⟨⟨_, rfl⟩, s1.trans s2⟩⟩
  obtain ⟨⟨v, rfl⟩, s1⟩ := h
  have sA := st.trans s1
  obtain ⟨⟨dx, h1⟩, h2, ⟨L, R, h3⟩, ne⟩ := N.same sA
  refine ⟨_, rfl, _, rfl, p, C, dx, _, _, rfl, h1, T.cl, T.nL, flds_ld _ _, dl, _, rfl, DGet.k (k := Sum.inr r.nm) h3, _, rfl, ?_⟩
  rw [ld_none R.1 hn]
  refine iteF ?_
  refine ⟨_, rfl, _, rfl, rfl, _, rfl, ?_⟩
  rw [decide_eq_false (fun z => hab (by injection z))]
  refine iteF ⟨_, rfl, r.w, rfl, hw, ?_⟩
  refine ⟨_, rfl, _, rfl, (by show 2 ≤ sizeLine; decide), fun t2 ht2 => ⟨t2, rfl, ⟨_, SqT.of upd_same⟩, ?_⟩⟩
  have sB : Same H' (upd H' t2 (.tup [V.str r.a, V.str r.b])) := Same.new ht2
  have et2 : (upd H' t2 (.tup [V.str r.a, V.str r.b])) t2 = some (.tup [V.str r.a, V.str r.b]) := upd_same
  generalize upd H' t2 (.tup [V.str r.a, V.str r.b]) = H2 at sB et2
  have g1 := sB _ _ h1
  have g2 := sB _ _ h2
  have g3 := sB _ _ h3
  refine comp_tup (K := K) (a := t2) (ys := [r.a, r.b].map V.str) (fun i acc σ' H' => H' = H2 ∧ acc = (([r.a, r.b].take i).filter fun x => !decide (x ∈ S.pl)).map V.str ∧ ∃ o, σ' = [o, some (.ref p)]) ⟨rfl, rfl, none, rfl⟩ (fun i acc σ' H' h => ?_) (by show 2 ≤ sizeLine; decide)
   (fun i acc σ' H' _ h => by rw [h.1]; exact SqT.of et2) (fun i x acc σ' H' hx h => ?_) (fun acc σ' H' h np hnp => ?_)
  ·obtain ⟨_, rfl, _⟩ := h
   rw [List.length_map]
   exact Nat.le_trans (List.length_filter_le _ _) (by rw [List.length_take]; omega)
  ·obtain ⟨rfl, rfl, o, rfl⟩ := h
   rw [List.getElem?_map] at hx
   cases ex : [r.a, r.b][i]? with
   | none => rw [ex] at hx; cases hx
   | some y =>
    rw [ex] at hx
    cases hx
    refine ⟨_, rfl, _, rfl, p, C, dx, _, _, rfl, g1, T.cl, T.nS, flds_st _ _, ds, _, rfl, DGet.k (k := Sum.inr y) g2, _, rfl, ?_⟩
    rw [st_in]
    by_cases hy : y ∈ S.pl
    ·rw [decide_eq_true hy]
     refine iteF ⟨rfl, ?_, _, rfl⟩
     rw [List.take_add_one, ex, List.filter_append]
     simp [hy]
    ·rw [decide_eq_false hy]
     refine iteT ⟨_, rfl, rfl, ?_, _, rfl⟩
     rw [List.take_add_one, ex, List.filter_append, List.map_append]
     simp [hy]
  obtain ⟨rfl, rfl, o, rfl⟩ := h
  have etk : ([r.a, r.b].take ([r.a, r.b].map V.str).length) = [r.a, r.b] := rfl
  rw [etk]
  generalize hnew : ([r.a, r.b].filter fun x => !decide (x ∈ S.pl)) = new
  have hwe : withEnds S.pl r.a r.b = S.pl ++ new := by rw [← hnew]; rfl
  have hnn : new.Nodup ∧ ∀ x ∈ new, x ∉ S.pl := by
   rw [← hnew]
   refine ⟨?_, fun x hx => by simpa using (List.mem_filter.mp hx).2⟩
   refine List.Pairwise.filter _ ?_
   simp [hab]
  have sC : Same H' (upd H' np (.lst (new.map V.str))) := Same.new hnp
  have enp : (upd H' np (.lst (new.map V.str))) np = some (.lst (new.map V.str)) := upd_same
  generalize upd H' np (.lst (new.map V.str)) = H3 at sC enp
  have k1 := sC _ _ g1
  have k2 := sC _ _ g2
  have k3 := sC _ _ g3
  refine ⟨_, rfl, p, C, dx, _, _, rfl, k1, T.cl, T.nL, flds_ld _ _, dl, _, rfl, k3, _, _, rfl, rfl, _, _, rfl, ?_, ?_⟩
  ·have : (ldKV L).length = S.ti.length := by unfold ldKV; rw [List.length_map, ← R.1, List.length_map]
   omega
  refine ⟨_, rfl, p, C, dx, _, _, rfl, k1, T.cl, T.nS, flds_st _ _, ds, _, rfl, k2, _, rfl, np, _, rfl, .inl (SqL.of enp), _, _, rfl, rfl, _, _, rfl, ?_, ?_⟩
  ·rw [hwe, List.length_append] at hl20
   have : (stKV S).length = S.pl.length := by unfold stKV; rw [List.length_map]
   rw [List.length_map]
   omega
  have nnd : np ≠ ds := ne_of enp k2 (by intro z; cases z)
  refine ⟨_, rfl, np, rfl, ⟨_, SqL.of enp⟩, for_list (K := K) (a := np) (xs := new.map V.str) (fun i σ' H' => i ≤ new.length ∧ (∃ e, σ' = [some (.ref p), some (.str r.nm), some (.str r.a), some (.str r.b), some (.int r.w), some (.int r.c), v, some (.ref np), e]) ∧ H' ds = some (.dK (stKV ⟨S.pl ++ new.take i, S.ti⟩)) ∧ ∀ b ob, H3 b = some ob → b ≠ ds → H' b = some ob)
   ⟨Nat.zero_le _, ⟨_, rfl⟩, by rw [List.take_zero, List.append_nil]; exact k2, fun b ob e _ => e⟩ (fun i σ' H' _ h => SqL.of (h.2.2.2 _ _ enp nnd)) (fun i x σ' H' hx h => ?_) (fun σ' H' h => ?_)⟩
  ·obtain ⟨hi, ⟨e0, rfl⟩, hds, kp⟩ := h
   rw [List.getElem?_map] at hx
   cases ex : new[i]? with
   | none => rw [ex] at hx; cases hx
   | some y =>
    rw [ex] at hx
    cases hx
    have hil : i < new.length := (List.getElem?_eq_some_iff.mp ex).1
    have hyn : y ∉ S.pl ++ new.take i := by
     intro m
     rcases List.mem_append.mp m with z | z
     ·exact hnn.2 y (List.mem_of_getElem? ex) z
     ·obtain ⟨j, hj, ej⟩ := List.mem_iff_getElem.mp z
      rw [List.length_take] at hj
      rw [List.getElem_take] at ej
      have e2 := List.getElem?_eq_getElem hil
      rw [ex] at e2
      have : j = i := (List.getElem_inj hnn.1).mp (ej.trans (Option.some.inj e2))
      omega
    refine ⟨_, rfl, p, C, dx, _, _, rfl, kp _ _ k1 (ne_of k1 k2 (by intro z; cases z)), T.cl, T.nS, flds_st _ _, _, rfl, ds, _, rfl, DPut.k (k := Sum.inr y) hds (small1000 ?_), by omega, ⟨_, rfl⟩, ?_, fun b ob e h1 => by rw [upd_ne h1]; exact kp b ob e h1⟩
    ·unfold stKV
     rw [List.length_map, List.length_append, List.length_take]
     rw [hwe, List.length_append] at hl20
     omega
    ·rw [upd_same, putK_new _ (st_none (S := ⟨S.pl ++ new.take i, S.ti⟩) hyn), List.take_add_one, ex]
     unfold stKV
     show _ = some (HO.dK ((S.pl ++ (new.take i ++ [y])).map _))
     rw [← List.append_assoc, List.map_append (l₂ := [y])]
     rfl
  obtain ⟨_, ⟨e0, rfl⟩, hds, kp⟩ := h
  rw [List.length_map, List.take_length, ← hwe] at hds
  have q1 := kp _ _ k1 (ne_of k1 k2 (by intro z; cases z))
  have q3 := kp _ _ k3 ne.symm
  refine ⟨_, rfl, _, rfl, _, rfl, _, rfl, _, rfl, (by show 5 ≤ sizeLine; decide), fun u hu' => ?_⟩
  have sD : Same H' (upd H' u (.tup [V.str r.nm, V.str r.a, V.str r.b, V.int r.w, V.int r.c])) := Same.new hu'
  have eu : (upd H' u (.tup [V.str r.nm, V.str r.a, V.str r.b, V.int r.w, V.int r.c])) u = some (.tup r.tup) := upd_same
  generalize upd H' u (.tup [V.str r.nm, V.str r.a, V.str r.b, V.int r.w, V.int r.c]) = H5 at sD eu
  refine ⟨_, rfl, p, C, dx, _, _, rfl, sD _ _ q1, T.cl, T.nL, flds_ld _ _, _, rfl, dl, _, rfl, DPut.k (k := Sum.inr r.nm) (sD _ _ q3) (small1000 ?_), ?_⟩
  ·have : (ldKV L).length = S.ti.length := by unfold ldKV; rw [List.length_map, ← R.1, List.length_map]
   omega
  have npd : p ≠ dl := ne_of q1 q3 (by intro z; cases z)
  have udl : u ≠ dl := by intro z; rw [z] at hu'; rw [q3] at hu'; cases hu'
  refine k _ ⟨⟨dx, by rw [upd_ne npd]; exact sD _ _ q1⟩, by rw [upd_ne ne]; exact sD _ _ hds, ⟨L ++ [(r, u)], ⟨?_, fun q hq => ?_⟩, ?_⟩, ne⟩ fun b ob e z1 z2 => ?_
  ·rw [List.map_append, R.1]; rfl
  ·rcases List.mem_append.mp hq with hq | hq
   ·have y := R.2 q hq
    have y3 := kp _ _ (sC _ _ (sB _ _ y)) (ne_of (sC _ _ (sB _ _ y)) k2 (by intro z; cases z))
    rw [upd_ne (ne_of y3 q3 (by intro z; cases z))]
    exact sD _ _ y3
   ·rw [List.mem_singleton.mp hq, upd_ne udl]
    exact eu
  ·rw [upd_same, putK_new _ (ld_none R.1 hn)]
   unfold ldKV
   rw [List.map_append]
   rfl
  ·rw [upd_ne z2]
   exact sD _ _ (kp _ _ (sC _ _ (sB _ _ (sA _ _ e))) z1)
end
end Net
namespace Net
open PySem L2
def PD (H : Hp) : Nat → V → PyData → Prop
 | _, .non, d => d = .none
 | _, .bl b, d => d = .bool b
 | _, .int i, d => d = .int i
 | _, .str x, d => PyData.strOk x = true ∧ d = .str x
 | n + 1, .ref a, d => (∃ xs ds, H a = some (.lst xs) ∧ d = .list ds ∧ Paired (PD H n) xs ds) ∨ ∃ xs ds, H a = some (.tup xs) ∧ d = .tuple ds ∧ Paired (PD H n) xs ds
 | _, _, _ => False
theorem pair_get {α β : Type} {F : α → β → Prop} {a : α} : ∀ {xs : List α} {ys : List β} {i : Nat}, Paired F xs ys → xs[i]? = some a → ∃ b, ys[i]? = some b ∧ F a b
 | _, _, i, .nil, h => by simp at h
 | _, _, 0, .cons (a := c) (b := b) h _, e => by
  have e' : c = a := by simpa using e
  subst e'
  exact ⟨b, rfl, h⟩
 | _, _, i + 1, .cons _ t, e => by
  obtain ⟨b, h1, h2⟩ := pair_get (i := i) t (by simpa using e)
  exact ⟨b, by simpa using h1, h2⟩
theorem PD.same {H H' : Hp} (s : Same H H') : ∀ {n : Nat} {v : V} {d : PyData}, PD H n v d → PD H' n v d
 | 0, v, d, h => by cases v <;> first | exact h | exact h.elim
 | n + 1, v, d, h => by
  cases v <;> first | exact h | exact h.elim | skip
  rcases h with ⟨xs, ds, e, e2, p⟩ | ⟨xs, ds, e, e2, p⟩
  ·exact .inl ⟨xs, ds, s _ _ e, e2, L2.Paired.mapP p fun _ _ h => PD.same s h⟩
  ·exact .inr ⟨xs, ds, s _ _ e, e2, L2.Paired.mapP p fun _ _ h => PD.same s h⟩
theorem PD.rd {K : PySem.W.Frag} {H : Hp} : ∀ {n : Nat} {v : V} {d : PyData}, PD H n v d → RdD K H n v d
 | 0, v, d, h => by cases v <;> first | exact h | exact h.elim
 | n + 1, v, d, h => by
  cases v <;> first | exact h | exact h.elim | skip
  rcases h with ⟨xs, ds, e, e2, p⟩ | ⟨xs, ds, e, e2, p⟩
  ·exact .inl ⟨xs, ds, SqL.of e, e2, L2.Paired.mapP p fun _ _ h => PD.rd h⟩
  ·exact .inr ⟨xs, ds, SqT.of e, e2, L2.Paired.mapP p fun _ _ h => PD.rd h⟩
theorem PD.up {H : Hp} : ∀ {n : Nat} {v : V} {d : PyData}, PD H n v d → PD H (n + 1) v d
 | 0, v, d, h => by cases v <;> first | exact h | exact h.elim
 | n + 1, v, d, h => by
  cases v <;> first | exact h | exact h.elim | skip
  rcases h with ⟨xs, ds, e, e2, p⟩ | ⟨xs, ds, e, e2, p⟩
  ·exact .inl ⟨xs, ds, e, e2, L2.Paired.mapP p fun _ _ h => PD.up h⟩
  ·exact .inr ⟨xs, ds, e, e2, L2.Paired.mapP p fun _ _ h => PD.up h⟩
theorem PD.mono {H : Hp} {n : Nat} {v : V} {d : PyData} (h : PD H n v d) : ∀ k, PD H (n + k) v d
 | 0 => h
 | k + 1 => (PD.mono h k).up
theorem PD.strs {H : Hp} {n : Nat} : ∀ {ws : List Str}, (∀ x ∈ ws, nameB x = true) → Paired (PD H n) (ws.map V.str) (ws.map PyData.str)
 | [], _ => .nil
 | x :: r, ok => .cons (by cases n <;> exact ⟨strOk_of (ok x List.mem_cons_self), rfl⟩) (PD.strs fun y hy => ok y (List.mem_cons_of_mem _ hy))
def isL : PyData → Bool
 | .list _ => true
 | _ => false
def isS : PyData → Bool
 | .str _ => true
 | _ => false
theorem PD.ty {K : PySem.W.Frag} {H : Hp} {n : Nat} {v : V} {d : PyData} (h : PD H n v d) : ∃ t, TyOf K H v t ∧ PySem.W.kitOne K t (.type "list") = some (isL d) ∧ PySem.W.kitOne K t (.type "str") = some (isS d) := by
 cases n with
 | zero =>
  cases v <;> try exact h.elim
  ·cases (show d = _ from h); exact ⟨_, .non, k_n_l K, k_n_s K⟩
  ·cases (show d = _ from h); exact ⟨_, .bl _, k_b_l K, k_b_s K⟩
  ·cases (show d = _ from h); exact ⟨_, .int _, k_i_l K, k_i_s K⟩
  ·cases h.2; exact ⟨_, .str _, k_s_l K, rfl⟩
 | succ n =>
  cases v <;> try exact h.elim
  ·cases (show d = _ from h); exact ⟨_, .non, k_n_l K, k_n_s K⟩
  ·cases (show d = _ from h); exact ⟨_, .bl _, k_b_l K, k_b_s K⟩
  ·cases (show d = _ from h); exact ⟨_, .int _, k_i_l K, k_i_s K⟩
  ·cases h.2; exact ⟨_, .str _, k_s_l K, rfl⟩
  ·rcases h with ⟨xs, ds, e, rfl, p⟩ | ⟨xs, ds, e, rfl, p⟩
   ·exact ⟨_, .lst e, rfl, k_l_s K⟩
   ·exact ⟨_, .tup e, k_t_l K, k_t_s K⟩
theorem PD.str_of {H : Hp} {n : Nat} {v : V} {d : PyData} (h : PD H n v d) (e : isS d = true) : ∃ x, v = .str x ∧ d = .str x := by
 cases n with
 | zero => cases v <;> first | exact h.elim | (cases (show d = _ from h); cases e) | exact ⟨_, rfl, h.2⟩
 | succ n =>
  cases v <;> first | exact h.elim | (cases (show d = _ from h); cases e) | exact ⟨_, rfl, h.2⟩ | skip
  rcases h with ⟨xs, ds, e1, rfl, p⟩ | ⟨xs, ds, e1, rfl, p⟩ <;> cases e
theorem PD.list_of {H : Hp} {n : Nat} {v : V} {ds : List PyData} (h : PD H n v (.list ds)) : ∃ m a xs, n = m + 1 ∧ v = .ref a ∧ H a = some (.lst xs) ∧ Paired (PD H m) xs ds := by
 cases n with
 | zero => cases v <;> first | exact h.elim | cases (show PyData.list ds = _ from h) | cases h.2
 | succ n =>
  cases v <;> first | exact h.elim | cases (show PyData.list ds = _ from h) | cases h.2 | skip
  rcases h with ⟨xs, ds', e1, e2, p⟩ | ⟨xs, ds', e1, e2, p⟩
  ·cases e2; exact ⟨n, _, xs, rfl, rfl, e1, p⟩
  ·cases e2
def rowOf (ti : List Row) (x : Str) : Option Row := ti.find? fun r => decide (r.nm = x)
def stepD (ti : List Row) (here : Str) : PyData → Option Str
 | .str x => (rowOf ti x).bind fun r => if r.a = here then some r.b else none
 | _ => none
def stD (ti : List Row) : Str → List PyData → Option (List Str)
 | here, [] => some [here]
 | here, d :: ds => (stepD ti here d).bind fun h => (stD ti h ds).map (here :: ·)
def stopsOf (ti : List Row) (a : Str) : PyData → Option (List Str)
 | .list ds => stD ti a ds
 | _ => none
theorem stD_ne {ti : List Row} : ∀ {ds : List PyData} {a : Str} {l : List Str}, stD ti a ds = some l → l ≠ []
 | [], a, l, h => by cases h; exact List.cons_ne_nil _ _
 | d :: ds, a, l, h => by
  unfold stD at h
  cases e : stepD ti a d with
  | none => rw [e] at h; cases h
  | some x =>
   rw [e] at h
   cases e2 : stD ti x ds with
   | none => rw [Option.bind_some, e2] at h; cases h
   | some l' => rw [Option.bind_some, e2] at h; cases h; exact List.cons_ne_nil _ _
theorem stD_none {ti : List Row} (r : List PyData) : ∀ {ds : List PyData} {a : Str}, stD ti a ds = none → stD ti a (ds ++ r) = none
 | [], a, h => by cases h
 | d :: ds, a, h => by
  show (stepD ti a d).bind (fun x => (stD ti x (ds ++ r)).map (a :: ·)) = none
  unfold stD at h
  cases e : stepD ti a d with
  | none => rfl
  | some x =>
   rw [e, Option.bind_some] at h
   rw [Option.bind_some]
   have h' : stD ti x ds = none := by
    cases e2 : stD ti x ds with
    | none => rfl
    | some l => rw [e2] at h; cases h
   rw [stD_none r h']
   rfl
theorem stD_snoc {ti : List Row} {d : PyData} {here : Str} : ∀ {ds : List PyData} {a : Str} {l : List Str}, stD ti a ds = some l → l.getLast? = some here → stD ti a (ds ++ [d]) = (stepD ti here d).map fun x => l ++ [x]
 | [], a, l, h, e => by
  cases h
  have e' : a = here := by simpa using e
  subst e'
  show (stepD ti a d).bind (fun x => (stD ti x []).map (a :: ·)) = _
  cases stepD ti a d <;> rfl
 | c :: ds, a, l, h, e => by
  unfold stD at h
  show (stepD ti a c).bind (fun x => (stD ti x (ds ++ [d])).map (a :: ·)) = _
  cases e1 : stepD ti a c with
  | none => rw [e1] at h; cases h
  | some x =>
   rw [e1, Option.bind_some] at h
   rw [Option.bind_some]
   cases e2 : stD ti x ds with
   | none => rw [e2] at h; cases h
   | some l' =>
    rw [e2] at h
    cases h
    have hne := stD_ne e2
    have e' : l'.getLast? = some here := by
     rw [← e]
     cases l' with
     | nil => exact absurd rfl hne
     | cons y ys => simp [List.getLast?_cons_cons]
    rw [stD_snoc e2 e']
    cases stepD ti here d <;> rfl
theorem stD_take {ti : List Row} {ds : List PyData} {a here : Str} {l : List Str} {i : Nat} {d : PyData} (h : stD ti a (ds.take i) = some l) (e : l.getLast? = some here) (hd : ds[i]? = some d) : stD ti a (ds.take (i + 1)) = (stepD ti here d).map fun x => l ++ [x] := by
 rw [List.take_add_one, hd]
 exact stD_snoc h e
theorem stD_stop {ti : List Row} {ds : List PyData} {a here : Str} {l : List Str} {i : Nat} {d : PyData} (h : stD ti a (ds.take i) = some l) (e : l.getLast? = some here) (hd : ds[i]? = some d) (hs : stepD ti here d = none) : stD ti a ds = none := by
 have h1 := stD_take h e hd
 rw [hs] at h1
 have h2 := stD_none (ds.drop (i + 1)) (show stD ti a (ds.take (i + 1)) = none from h1)
 rw [List.take_append_drop] at h2
 exact h2
theorem row_find {ti : List Row} {L : List (Row × Addr)} (h : L.map (·.1) = ti) (x : Str) : (rowOf ti x = none ∧ valV (ldKV L) (Sum.inr x : Key) = none) ∨ ∃ q ∈ L, q.1.nm = x ∧ rowOf ti x = some q.1 ∧ valV (ldKV L) (Sum.inr x : Key) = some (.ref q.2) := by
 subst h
 induction L with
 | nil => exact .inl ⟨rfl, rfl⟩
 | cons q r ih =>
  by_cases e : q.1.nm = x
  ·refine .inr ⟨q, List.mem_cons_self, e, ?_, valV_pos (congrArg Sum.inr e)⟩
   show List.find? _ (q.1 :: _) = _
   rw [List.find?_cons_of_pos (by simpa using e)]
  ·have h1 : rowOf ((q :: r).map (·.1)) x = rowOf (r.map (·.1)) x := by
    show List.find? _ (q.1 :: _) = _
    rw [List.find?_cons_of_neg (by simpa using e)]
    rfl
   have h2 : valV (ldKV (q :: r)) (Sum.inr x : Key) = valV (ldKV r) (Sum.inr x : Key) := valV_neg (fun z => e (Sum.inr.inj z))
   rw [h1, h2]
   rcases ih with z | ⟨q', a, b, c⟩
   ·exact .inl z
   ·exact .inr ⟨q', List.mem_cons_of_mem _ a, b, c⟩
structure TxtW (mg : Str → Option Value) : Prop where
 dict : mg "dict" = none
 sum : mg "sum" = none
structure NetW (C : Addr) (H : Hp) (p ds dl : Addr) (S : NS) : Prop where
 net : NetAt C H p ds dl S
 nd : S.nms.Nodup
 few : S.ti.length ≤ 40
theorem NetW.same {C : Addr} {H H' : Hp} {p ds dl : Addr} {S : NS} (s : Same H H') (h : NetW C H p ds dl S) : NetW C H' p ds dl S := ⟨h.net.same s, h.nd, h.few⟩
def spIsPlace (C : Addr) : Sp := fun vs H Q _ => ∃ (p ds dl : Addr) (S : NS) (a : Str), vs = [.ref p, .str a] ∧ NetAt C H p ds dl S ∧ ∀ H', Same H H' → Q (.bl (decide (a ∈ S.pl))) H'
def spByName (C : Addr) : Sp := fun vs H Q _ => ∃ (p ds dl : Addr) (S : NS), vs = [.ref p] ∧ NetW C H p ds dl S ∧ ∀ (d : Addr) (H' : Hp) (L : List (Row × Addr)), H d = none → Same H H' → Rows H L S.ti → H' d = some (.dK (ldKV L)) → Q (.ref d) H'
def spStops (C : Addr) : Sp := fun vs H Q _ => ∃ (p ds dl : Addr) (S : NS) (a : Str) (x : V) (n : Nat) (d : PyData), vs = [.ref p, .str a, x] ∧ NetW C H p ds dl S ∧ a ∈ S.pl ∧ PD H n x d ∧ (∀ e, d = .list e → e.length ≤ 1000) ∧
 (∀ H', Same H H' → stopsOf S.ti a d = none → Q .non H') ∧ ∀ (l : List Str) (st : Addr) (H' : Hp), Same H H' → H st = none → H' st = some (.lst (l.map V.str)) → stopsOf S.ti a d = some l → Q (.ref st) H'
section
variable {P : Program} {w : World} {K : PySem.W.Frag} {mg : Str → Option Value} {base : Heap} {C : Addr}
theorem sc_isPlace : FnScope ["net", "paper"] ["net", "paper"] (defScope s_is_place) := ⟨rfl, rfl, rfl, by decide +kernel, rfl, by decide +kernel, by decide +kernel⟩
theorem ok_isPlace {f : Addr} {fd : FuncData} (F : Fun K "is_place" "is_place" s_is_place f fd) (T : Txt K mg C) (m1 : CanM P w K mg base 1 C "places" ["self"] (spPlaces C)) : FnOk P w K mg base CX0 2 f fd ["net", "paper"] (spIsPlace C) := by
 refine F.ok sc_isPlace (fun vs H Q E h => ?_) (fun cdv A outer s H vs Q E hr h => ?_)
 ·obtain ⟨p, ds, dl, S, a, rfl, _⟩ := h
  rfl
 ·obtain ⟨p, ds, dl, S, a, rfl, N, q⟩ := h
  obtain ⟨dx, h1⟩ := N.ob
  refine ⟨_, pss_one (ps_ret (pe_cmpR op_in_seq (pv 1) (pe_methC0 (pv 0) T.cl m1 hr) (by with_unfolding_all rfl))), ?_⟩
  refine ⟨_, rfl, _, rfl, p, dx, _, rfl, h1, flds_no ds dl (by decide +kernel) (by decide +kernel), p, ds, dl, S, rfl, N, fun l hl => ?_⟩
  refine ⟨l, S.pl.map V.str, rfl, .inl (SqL.of upd_same), rfl, flat_strs _, ?_⟩
  show Q (.bl (inV (.str a) (S.pl.map V.str))) _
  rw [inV_str]
  exact q _ (Same.new hl)
theorem sc_byName : FnScope ["net"] ["net"] (defScope s_ties_by_name) := ⟨rfl, rfl, rfl, by decide +kernel, rfl, by decide +kernel, by decide +kernel⟩
theorem ok_byName {f : Addr} {fd : FuncData} (F : Fun K "ties_by_name" "ties_by_name" s_ties_by_name f fd) (T : Txt K mg C) (TW : TxtW mg) (m2 : CanM P w K mg base 1 C "ties" ["self"] (spTies C)) : FnOk P w K mg base CX0 2 f fd ["net"] (spByName C) := by
 refine F.ok sc_byName (fun vs H Q E h => ?_) (fun cdv A outer s H vs Q E hr h => ?_)
 ·obtain ⟨p, ds, dl, S, rfl, _⟩ := h
  rfl
 ·obtain ⟨p, ds, dl, S, rfl, ⟨N, nd, few⟩, q⟩ := h
  obtain ⟨dx, h1⟩ := N.ob
  refine ⟨_, pss_one (ps_ret (pe_callTy (call_dictP rfl) (by rfl) TW.dict b_dict (pa_cons (pe_comp (N := ["row"]) (xs := 1) (js := []) rfl (compScope_of rfl) (pi_list (pe_methC0 (pv 0) T.cl m2 hr))
   (fun _ _ _ _ => pg_name (i := 0) (show List.Nodup (["row"] : List Str) by decide +kernel) rfl (Or.inl rfl)) (fun _ _ _ _ => pts_nil)
   (fun _ _ _ _ => pe_tup (pa_cons (pe_ix (ix_tupK K (by rfl)) (pv 0) pe_int (fun _ _ => by rfl)) (pa_cons (pv 0) pa_nil)))) pa_nil))), ?_⟩
  refine ⟨_, rfl, p, dx, _, rfl, h1, flds_no ds dl (by decide +kernel) (by decide +kernel), p, ds, dl, S, rfl, N, fun l H1 L hl s1 RL e1 => ?_⟩
  refine ⟨l, rfl, ⟨_, SqL.of e1⟩, comp_list (K := K) (ys := L.map fun q => V.ref q.2) (fun i acc σ' H' => ∃ ps : List (Addr × Key × V), acc = ps.map (fun q => V.ref q.1) ∧ ps.map (·.2) = ldKV (L.take i) ∧ (∀ q ∈ ps, H' q.1 = some (.tup [kV q.2.1, q.2.2])) ∧ Same H1 H' ∧ ∃ o, σ' = [o])
   ⟨[], rfl, rfl, fun _ h => (nomatch h), Same.refl H1, none, rfl⟩ (fun i acc σ' H' h => ?_) ?_ (fun i acc σ' H' _ h => ?_) (fun i x acc σ' H' hx h => ?_) (fun acc σ' H' h pp hpp => ?_)⟩
  ·obtain ⟨ps, rfl, e, _⟩ := h
   have := congrArg List.length e
   unfold ldKV at this
   rw [List.length_map, List.length_map, List.length_take] at this
   rw [List.length_map]
   omega
  ·have e : L.length = S.ti.length := by rw [← RL.1, List.length_map]
   rw [List.length_map, e]
   exact Nat.le_trans few (by decide)
  ·obtain ⟨_, _, _, _, s2, _⟩ := h
   exact SqL.of (s2 _ _ e1)
  ·obtain ⟨ps, rfl, e, hp, s2, o, rfl⟩ := h
   rw [List.getElem?_map] at hx
   cases eq : L[i]? with
   | none => rw [eq] at hx; cases hx
   | some qq =>
    rw [eq] at hx
    cases hx
    have hq := s2 _ _ (s1 _ _ (RL.2 qq (List.mem_of_getElem? eq)))
    refine ⟨_, rfl, _, _, _, .str qq.1.nm, rfl, rfl, SqT.of hq, rfl, _, rfl, (by show 2 ≤ sizeLine; decide), fun t ht => ?_⟩
    refine ⟨ps ++ [(t, Sum.inr qq.1.nm, V.ref qq.2)], by rw [List.map_append]; rfl, ?_, fun z hz => ?_, s2.upd ht, _, rfl⟩
    ·rw [List.map_append, e, List.take_add_one, eq]
     unfold ldKV
     rw [List.map_append]
     rfl
    ·rcases List.mem_append.mp hz with hz | hz
     ·exact (Same.new ht) _ _ (hp z hz)
     ·cases List.mem_singleton.mp hz
      exact upd_same
  ·obtain ⟨ps, rfl, e, hp, s2, o, rfl⟩ := h
   rw [List.length_map, List.take_length] at e
   have s3 := Same.new (o := .lst (ps.map fun q => V.ref q.1)) hpp
   refine ⟨pp, ps, rfl, SqL.of upd_same, fun z hz => SqT.of (s3 _ _ (hp z hz)), fun d hd => ?_⟩
   have en : mergeK [] (ps.map (·.2)) = ldKV L := by
    rw [e, mergeK_new _ _ ?_, List.nil_append]
    rw [List.nil_append, ld_keys RL.1]
    have := nd
    unfold NS.nms at this
    rw [show (fun r : Row => (Sum.inr r.nm : Key)) = Sum.inr ∘ (fun r : Row => r.nm) from rfl, ← List.map_map]
    exact List.Pairwise.map _ (fun a b hab z => hab (Sum.inr.inj z)) this
   rw [en]
   have sa := s1.trans (s2.trans s3)
   exact q d _ L (sa.free hd) (sa.upd hd) RL upd_same
def isTieD (ti : List Row) : PyData → Bool
 | .str y => (rowOf ti y).isSome
 | _ => false
def spIsTie : Sp := fun vs H Q _ => ∃ (dd : Addr) (v : V) (n : Nat) (d : PyData) (L : List (Row × Addr)) (ti : List Row), vs = [.ref dd, v] ∧ H dd = some (.dK (ldKV L)) ∧ L.map (·.1) = ti ∧ PD H n v d ∧ Q (.bl (isTieD ti d)) H
theorem sc_isTie : FnScope ["rows", "paper"] ["rows", "paper"] (defScope s_is_tie) := ⟨rfl, rfl, rfl, by decide +kernel, rfl, by decide +kernel, by decide +kernel⟩
theorem ok_isTie {f : Addr} {fd : FuncData} (F : Fun K "is_tie" "is_tie" s_is_tie f fd) (T : Txt K mg C) : FnOk P w K mg base CX0 1 f fd ["rows", "paper"] spIsTie := by
 refine F.ok sc_isTie (fun vs H Q E h => ?_) (fun cdv A outer s H vs Q E hr h => ?_)
 ·obtain ⟨dd, v, n, d, L, ti, rfl, _⟩ := h
  rfl
 ·obtain ⟨dd, v, n, d, L, ti, rfl, edd, eL, pd, q⟩ := h
  have hu := hu_of hr
  refine ⟨_, pss_one (ps_ret (pe_and (pe_callB call_isinst (by rfl) T.isi b_isi (pa_cons (pv 1) (pa_cons (pe_ty T.str (by rfl) b_str) pa_nil))) (pe_one (pe_cmp (pc_din hu (pv 1) (pv 0)))))), ?_⟩
  obtain ⟨t2, ty2, _, ks2⟩ := PD.ty (K := K) pd
  refine ⟨_, rfl, v, "str", t2, isS d, rfl, ty2, ks2, _, rfl, ?_⟩
  cases es : isS d with
  | false =>
   refine iteF ?_
   have e : isTieD ti d = false := by cases d <;> first | rfl | cases es
   rw [e] at q
   exact q
  | true =>
   obtain ⟨y, rfl, rfl⟩ := pd.str_of es
   refine iteT ⟨_, rfl, _, rfl, dd, _, rfl, DGet.k (k := Sum.inr y) edd, ?_⟩
   have e : isTieD ti (.str y) = (valV (ldKV L) (Sum.inr y : Key)).isSome := by
    show (rowOf ti y).isSome = _
    rcases row_find eL y with ⟨r1, r2⟩ | ⟨qq, _, _, r1, r2⟩
    ·rw [r1, r2]; rfl
    ·rw [r1, r2]; rfl
   rw [e] at q
   exact q
abbrev Nstops : List Str := ["net", "a", "paper", "rows", "stops", "name"]
theorem sc_stops : FnScope Nstops ["net", "a", "paper"] (defScope s_walk_stops) := ⟨rfl, rfl, rfl, by decide +kernel, rfl, by decide +kernel, by decide +kernel⟩
theorem ok_stops {f : Addr} {fd : FuncData} (F : Fun K "walk_stops" "walk_stops" s_walk_stops f fd) (T : Txt K mg C) (c1 : Can P w K mg base 2 "is_place" ["net", "paper"] (spIsPlace C)) (c2 : Can P w K mg base 2 "ties_by_name" ["net"] (spByName C)) (c3 : Can P w K mg base 1 "is_tie" ["rows", "paper"] spIsTie) :
  FnOk P w K mg base CX0 3 f fd ["net", "a", "paper"] (spStops C) := by
 refine F.ok sc_stops (fun vs H Q E h => ?_) (fun cdv A outer s H vs Q E hr h => ?_)
 ·obtain ⟨p, ds, dl, S, a, x, n, d, rfl, _⟩ := h
  rfl
 ·obtain ⟨p, ds, dl, S, a, x, n, d, rfl, N, ha, hx, hlen, q1, q2⟩ := h
  have hu := hu_of hr
  refine ⟨_, pss_cons (ps_if (PW.pt (pw_or (pt_not (pt_val (pe_callB call_isinst (by rfl) T.isi b_isi (pa_cons (pv 2) (pa_cons (pe_ty T.list (by rfl) b_list) pa_nil)))))
    (pw_or1 (pt_not (pt_val (pe_callC c1 hr (by rfl) (pa_cons (pv 0) (pa_cons (pv 1) pa_nil)))))))) (pss_one (ps_ret pe_non)) pss_nil)
   (pss_cons (ps_set (i := 3) sc_stops.nd rfl (Or.inl rfl) (pe_callC c2 hr (by rfl) (pa_cons (pv 0) pa_nil)))
   (pss_cons (ps_set (i := 4) sc_stops.nd rfl (Or.inl rfl) (pe_lst (pa_cons (pv 1) pa_nil)))
   (pss_cons (ps_for PassesOwn.never rfl (pi_list (pv 2)) (pg_name (i := 5) sc_stops.nd rfl (Or.inl rfl))
    (pss_cons (ps_if (PW.pt (pw_or (pt_not (pt_val (pe_callC c3 (hr.mono (by decide)) (by rfl) (pa_cons (pv 3) (pa_cons (pv 5) pa_nil)))))
     (pw_or1 (pt_cmpR op_ne (pe_ix ix_tup (pe_dget hu (pv 3) (pv 5) (fun _ _ => rfl)) pe_int (fun _ _ => by rfl)) (pe_ix ix_list (pv 4) (pe_un un_neg pe_int) (fun _ _ => by rfl)) (nomark _))))) (pss_one (ps_ret pe_non)) pss_nil)
    (pss_one (ps_expr (pe_bm PySem.F.plainAttrs_list PySem.F.slot_list_append PySem.F.type_list_append mt_append (pv 4) (pa_cons (pe_ix ix_tup (pe_dget hu (pv 3) (pv 5) (fun _ _ => rfl)) pe_int (fun _ _ => by rfl)) pa_nil))))))
   (pss_one (ps_ret (pv 4)))))), ?_⟩
  obtain ⟨t, ty, kl, ks⟩ := PD.ty (K := K) hx
  refine ⟨_, rfl, x, "list", t, isL d, rfl, ty, kl, _, rfl, ?_⟩
  cases el : isL d with
  | false =>
   refine iteT (iteT ?_)
   refine q1 H (Same.refl H) ?_
   cases d <;> first | rfl | cases el
  | true =>
   refine iteF ?_
   obtain ⟨e, rfl⟩ : ∃ e, d = .list e := by cases d <;> first | exact ⟨_, rfl⟩ | cases el
   obtain ⟨m, ap, xs, rfl, rfl, hap, pr⟩ := hx.list_of
   have hle := hlen e rfl
   have hxl : xs.length = e.length := Paired.length pr
   refine ⟨_, rfl, _, rfl, p, ds, dl, S, a, rfl, N.net, fun H1 s1 => ⟨_, rfl, ?_⟩⟩
   rw [decide_eq_true ha]
   refine iteF ?_
   refine ⟨_, rfl, p, ds, dl, S, rfl, N.same s1, fun dd H2 L hdd s12 RL edd => ?_⟩
   have s2 := s1.trans s12
   refine ⟨_, rfl, (by show 1 ≤ sizeLine; decide), fun st hst => ?_⟩
   have s3 : Same H (upd H2 st (.lst [.str a])) := s2.upd hst
   have hst0 : H st = none := s2.free hst
   have ndd : dd ≠ st := ne_of_none edd hst
   have RL2 := RL.same s12
   have RL3 : Rows (upd H2 st (.lst [.str a])) L S.ti := RL2.same (Same.new hst)
   have edd3 : (upd H2 st (.lst [.str a])) dd = some (.dK (ldKV L)) := by rw [upd_ne ndd]; exact edd
   have est3 : (upd H2 st (.lst [.str a])) st = some (.lst ([a].map V.str)) := upd_same
   have nst : ∀ q ∈ L, q.2 ≠ st := fun q hq => ne_of_none (RL2.2 q hq) hst
   generalize upd H2 st (.lst [.str a]) = H3 at s3 RL3 edd3 est3
   refine ⟨_, rfl, ap, rfl, ⟨_, SqL.of (s3 _ _ hap)⟩, for_list (K := K) (a := ap) (xs := xs) (fun i σ' H' => ∃ (l : List Str) (here : Str) (v : Option V), σ' = [some (.ref p), some (.str a), some (.ref ap), some (.ref dd), some (.ref st), v] ∧ Same H H' ∧ H' dd = some (.dK (ldKV L)) ∧ Rows H' L S.ti ∧ H' st = some (.lst (l.map V.str)) ∧
     stD S.ti a (e.take i) = some l ∧ l.getLast? = some here ∧ l.length = i + 1)
    ⟨[a], a, none, rfl, s3, edd3, RL3, est3, rfl, rfl, rfl⟩ (fun i σ' H' _ h => ?_) (fun i v σ' H' hv h => ?_) (fun σ' H' h => ?_)⟩
   ·obtain ⟨_, _, _, _, s4, _⟩ := h
    exact SqL.of (s4 _ _ hap)
   ·obtain ⟨l, here, v0, rfl, s4, edd4, RL4, est4, hl, hh, hln⟩ := h
    have hi : i < xs.length := (List.getElem?_eq_some_iff.mp hv).1
    have hie : i < e.length := by omega
    have ed : e[i]? = some e[i] := List.getElem?_eq_getElem hie
    have pd : PD H m v e[i] := by
     obtain ⟨b, hb, hp⟩ := pair_get pr hv
     rw [ed] at hb
     cases hb
     exact hp
    generalize e[i] = di at ed pd
    have pd4 := pd.same s4
    refine ⟨_, rfl, _, rfl, dd, v, m, di, L, S.ti, rfl, edd4, RL4.1, pd4, _, rfl, ?_⟩
    cases es : isS di with
    | false =>
     have ef : isTieD S.ti di = false := by cases di <;> first | rfl | cases es
     rw [ef]
     refine iteT (iteT ?_)
     refine q1 H' s4 (stD_stop hl hh ed ?_)
     cases di <;> first | rfl | cases es
    | true =>
     obtain ⟨y, rfl, rfl⟩ := pd.str_of es
     rcases row_find RL4.1 y with ⟨r1, r2⟩ | ⟨qq, hqq, hn, r1, r2⟩
     ·have ef : isTieD S.ti (.str y) = false := by show (rowOf S.ti y).isSome = _; rw [r1]; rfl
      rw [ef]
      refine iteT (iteT ?_)
      refine q1 H' s4 (stD_stop hl hh ed ?_)
      show (rowOf S.ti y).bind _ = none
      rw [r1]
      rfl
     ·have ef : isTieD S.ti (.str y) = true := by show (rowOf S.ti y).isSome = _; rw [r1]; rfl
      rw [ef]
      refine iteF ?_
      have hlast : atI (l.map V.str) (-1) = some (V.str here) := by
       obtain ⟨ys, rfl⟩ : ∃ ys, l = ys ++ [here] := List.getLast?_eq_some_iff.mp hh
       rw [List.map_append]
       exact atI_last _ _
      refine ⟨_, rfl, _, rfl, dd, .ref qq.2, rfl, by rw [← r2]; exact DGet.k (k := Sum.inr y) edd4, qq.2, _, _, .str qq.1.a, rfl, rfl, SqT.of (RL4.2 qq hqq), rfl, _, rfl, _, rfl, st, _, _, _, rfl, rfl, SqL.of est4, hlast, rfl, _, rfl, ?_⟩
      have sd : stepD S.ti here (.str y) = if qq.1.a = here then some qq.1.b else none := by
       show (rowOf S.ti y).bind _ = _
       rw [r1]
       rfl
      by_cases eh : qq.1.a = here
      ·have e0 : (!decide (V.str qq.1.a = V.str here)) = false := by rw [eh]; simp
       refine iteFb e0 ?_
       rw [if_pos eh] at sd
       refine ⟨_, rfl, .inl ⟨rfl, _, SqL.of est4⟩, _, rfl, _, rfl, dd, .ref qq.2, rfl, by rw [← r2]; exact DGet.k (k := Sum.inr y) edd4, qq.2, _, _, .str qq.1.b, rfl, rfl, SqT.of (RL4.2 qq hqq), rfl, st, _, _, rfl, rfl, est4, small1000 (by rw [List.length_map]; omega), ?_⟩
       have hst4 : ∀ b ob, H b = some ob → b ≠ st := fun b ob z => ne_of_none z hst0
       refine ⟨l ++ [qq.1.b], qq.1.b, _, rfl, fun b ob z => ?_, ?_, ⟨RL4.1, fun z hz => ?_⟩, ?_, ?_, by simp, by simp [hln]⟩
       ·rw [upd_ne (hst4 b ob z)]; exact s4 _ _ z
       ·rw [upd_ne ndd]; exact edd4
       ·rw [upd_ne (nst z hz)]; exact RL4.2 z hz
       ·rw [upd_same, List.map_append]; rfl
       ·rw [stD_take hl hh ed, sd]; rfl
      ·have e0 : (!decide (V.str qq.1.a = V.str here)) = true := by simp [eh]
       refine iteTb e0 ?_
       rw [if_neg eh] at sd
       exact q1 H' s4 (stD_stop hl hh ed sd)
   ·obtain ⟨l, here, v0, rfl, s4, edd4, RL4, est4, hl, hh, hln⟩ := h
    rw [hxl, List.take_length] at hl
    exact ⟨_, rfl, q2 l st H' s4 hst0 est4 hl⟩
end
end Net
namespace L2
open PySem PySem.Spec PyProof.Rows
end L2
namespace Net
open PySem L2
theorem inj_nodup {α β : Type} {f : α → β} : ∀ {l : List α}, (l.map f).Nodup → ∀ {a b : α}, a ∈ l → b ∈ l → f a = f b → a = b
 | [], _, _, _, h, _, _ => nomatch h
 | x :: r, n, a, b, ha, hb, e => by
  obtain ⟨n1, n2⟩ := List.nodup_cons.mp n
  rcases List.mem_cons.mp ha with h1 | h1
  ·rcases List.mem_cons.mp hb with h2 | h2
   ·exact h1.trans h2.symm
   ·exact absurd (by rw [← h1, e]; exact List.mem_map.mpr ⟨b, h2, rfl⟩) n1
  ·rcases List.mem_cons.mp hb with h2 | h2
   ·exact absurd (by rw [← h2, ← e]; exact List.mem_map.mpr ⟨a, h1, rfl⟩) n1
   ·exact inj_nodup n2 h1 h2 e
section
variable {P : Program} {w : World} {K : PySem.W.Frag} {mg : Str → Option Value} {base : Heap} {C : Addr}
abbrev Nby : List Str := ["steps", "onward", "step"]
theorem sc_by : FnScope Nby ["steps"] (defScope s_steps_by_begin) := ⟨rfl, rfl, rfl, by decide +kernel, rfl, by decide +kernel, by decide +kernel⟩
abbrev Nbfs : List Str := ["steps", "a", "onward", "found", "waiting", "here", "name", "begin", "end"]
theorem sc_bfs : FnScope Nbfs ["steps", "a"] (defScope s_steps_to_places) := ⟨rfl, rfl, rfl, by decide +kernel, rfl, by decide +kernel, by decide +kernel⟩
end
end Net
namespace L2
open PySem PySem.Spec PyProof.Rows
theorem pg_tupC {X : Cx} {es : List Expr} {k : Nat} {t : TGs} {n : Nat} {pos : Pos} (K : PySem.W.Frag) (hK : X.K = K) (hc : X.calm = true) (h : PGs X es t)
  (hn : (assignEach es X.env).length = n := by rfl) (hst : (assignEach es X.env).findIdx? (·.1) = none := by rfl) : PG X (.Tuple es k pos) (gTup K n t) := by
 subst hK
 exact pg_tup hc h hn hst
end L2
namespace Net
open PySem L2
structure NetS (C : Addr) (H : Hp) (p ds dl : Addr) (S : NS) : Prop where
 net : NetAt C H p ds dl S
 nd : S.nms.Nodup
 few : S.ti.length ≤ 40
 fewP : S.pl.length ≤ 20
 ndP : S.pl.Nodup
 okP : ∀ x ∈ S.pl, nameB x = true
 okT : ∀ r ∈ S.ti, nameB r.nm = true ∧ r.a ∈ S.pl ∧ r.b ∈ S.pl
theorem NetS.same {C : Addr} {H H' : Hp} {p ds dl : Addr} {S : NS} (s : Same H H') (h : NetS C H p ds dl S) : NetS C H' p ds dl S := ⟨h.net.same s, h.nd, h.few, h.fewP, h.ndP, h.okP, h.okT⟩
theorem NetS.w {C : Addr} {H : Hp} {p ds dl : Addr} {S : NS} (h : NetS C H p ds dl S) : NetW C H p ds dl S := ⟨h.net, h.nd, h.few⟩
def unlikeB (pl ws : List Str) : Bool := (ws.all fun x => decide (x ∈ pl)) && decide ws.Nodup
open Classical in
open Classical in
theorem row_of {ti : List Row} (nd : (ti.map (·.nm)).Nodup) {r : Row} (h : r ∈ ti) : rowOf ti r.nm = some r := by
 induction ti with
 | nil => exact nomatch h
 | cons q t ih =>
  have nd' : q.nm ∉ t.map (·.nm) ∧ (t.map (·.nm)).Nodup := List.nodup_cons.mp nd
  unfold rowOf
  rcases List.mem_cons.mp h with rfl | h
  ·rw [List.find?_cons_of_pos (by simp)]
  ·have hne : ¬ q.nm = r.nm := fun z => nd'.1 (List.mem_map.mpr ⟨r, h, z.symm⟩)
   rw [List.find?_cons_of_neg (by simpa using hne)]
   exact ih nd'.2 h
section
variable {P : Program} {w : World} {K : PySem.W.Frag} {mg : Str → Option Value} {base : Heap} {C : Addr}
structure TxtS (mg : Str → Option Value) : Prop where
 set : mg "set" = none
 rev : mg "reversed" = none
def spAlike : Sp := fun vs H Q _ => ∃ (l : Addr) (ws : List Str), vs = [.ref l] ∧ H l = some (.lst (ws.map V.str)) ∧ ws.length ≤ 1000 ∧ ∀ H', Same H H' → Q (.bl (decide ws.Nodup)) H'
theorem sc_alike : FnScope ["names"] ["names"] (defScope s_are_unlike) := ⟨rfl, rfl, rfl, by decide +kernel, rfl, by decide +kernel, by decide +kernel⟩
theorem ok_alike {f : Addr} {fd : FuncData} (F : Fun K "are_unlike" "are_unlike" s_are_unlike f fd) (T : Txt K mg C) (TS : TxtS mg) : FnOk P w K mg base CX0 1 f fd ["names"] spAlike := by
 refine F.ok sc_alike (fun vs H Q E h => ?_) (fun cdv A outer s H vs Q E hr h => ?_)
 ·obtain ⟨l, ws, rfl, _⟩ := h
  rfl
 ·obtain ⟨l, ws, rfl, hl, hn, q⟩ := h
  refine ⟨_, pss_one (ps_ret (pe_cmpR op_eq (pe_callB call_lenS (by rfl) T.len b_len (pa_cons (pe_callTy (call_setS rfl) (by rfl) TS.set b_set (pa_cons (pv 0) pa_nil)) pa_nil)) (pe_callB call_len_seq (by rfl) T.len b_len (pa_cons (pv 0) pa_nil)) (nomark _))), ?_⟩
  refine ⟨_, rfl, l, ws, rfl, SqL.of hl, ?_, fun st hst => ?_⟩
  ·exact Nat.lt_of_le_of_lt (show ws.length + 1 ≤ 1001 by omega) (by decide)
  have s3 := (Same.refl H).upd (o := setO P w st ws) hst
  refine ⟨st, ws, rfl, upd_same, _, rfl, l, _, rfl, .inl (SqL.of (s3 _ _ hl)), rfl, ?_⟩
  have := q _ s3
  have e2 : decide (V.int ((dedS ws).length : Nat) = V.int ((ws.map V.str).length : Nat)) = decide ws.Nodup := by
   rw [List.length_map, Bool.eq_iff_iff, decide_eq_true_eq, decide_eq_true_eq, ← ded_nodup]
   constructor
   ·intro z
    have z' : (((dedS ws).length : Nat) : Int) = ((ws.length : Nat) : Int) := by injection z
    omega
   ·intro z
    rw [z]
  rw [e2]
  exact this
theorem sc_unlike : FnScope ["net", "paper"] ["net", "paper"] (defScope s_are_unlike_places) := ⟨rfl, rfl, rfl, by decide +kernel, rfl, by decide +kernel, by decide +kernel⟩
end
end Net
namespace Net
open PySem L2
section
variable {P : Program} {w : World} {K : PySem.W.Frag} {mg : Str → Option Value} {base : Heap} {C : Addr}
end
end Net
namespace Net
open PySem L2
open Classical in
section
variable {P : Program} {w : World} {K : PySem.W.Frag} {mg : Str → Option Value} {base : Heap} {C : Addr}
end
end Net
namespace Net
open PySem L2
def strsOf : List PyData → Option (List Str)
 | [] => some []
 | .str x :: r => (strsOf r).map (x :: ·)
 | _ :: _ => none
def namesOf : PyData → Option (List Str)
 | .list ds => strsOf ds
 | _ => none
theorem strsOf_map : ∀ ws : List Str, strsOf (ws.map PyData.str) = some ws
 | [] => rfl
 | x :: r => by
  show (strsOf (r.map PyData.str)).map (x :: ·) = _
  rw [strsOf_map r]
  rfl
theorem strsOf_some : ∀ {ds : List PyData} {ws : List Str}, strsOf ds = some ws → ds = ws.map PyData.str
 | [], ws, h => by cases h; rfl
 | d :: r, ws, h => by
  cases d <;> first | (cases h; done) | skip
  rename_i x
  have h' : (strsOf r).map (x :: ·) = some ws := h
  cases e : strsOf r with
  | none => rw [e] at h'; cases h'
  | some w =>
   rw [e] at h'
   cases h'
   rw [strsOf_some e]
   rfl
def isPlD (pl : List Str) : PyData → Bool
 | .str x => decide (x ∈ pl)
 | _ => false
def unlikeD (pl : List Str) (d : PyData) : Bool := match namesOf d with
 | some ws => unlikeB pl ws
 | none => false
theorem unlikeD_list (pl ws : List Str) : unlikeD pl (.list (ws.map PyData.str)) = unlikeB pl ws := by
 show (match strsOf (ws.map PyData.str) with | some ws => unlikeB pl ws | none => false) = _
 rw [strsOf_map]
theorem eqvS (x y : Str) : PyData.eqv (.str x) (.str y) = decide (x = y) := by
 by_cases h : x = y
 ·subst h; simp [PyData.eqv]
 ·simp [PyData.eqv, h]
theorem eqvN {d : PyData} (x : Str) (h : isS d = false) : PyData.eqv (.str x) d = false := by
 cases d <;> first | rfl | cases h | simp [PyData.eqv]
theorem any_pl (d : PyData) : ∀ pl : List Str, ((pl.map PyData.str).any fun y => PyData.eqv y d) = isPlD pl d
 | [] => by cases d <;> first | rfl | simp [isPlD]
 | y :: r => by
  rw [List.map_cons, List.any_cons, any_pl d r]
  cases e : isS d with
  | true =>
   obtain ⟨x, rfl⟩ : ∃ x, d = .str x := by cases d <;> first | exact ⟨_, rfl⟩ | cases e
   rw [eqvS]
   show (decide (y = x) || decide (x ∈ r)) = decide (x ∈ y :: r)
   rw [Bool.eq_iff_iff, Bool.or_eq_true, decide_eq_true_iff, decide_eq_true_iff, decide_eq_true_iff, List.mem_cons]
   exact ⟨fun h => h.imp Eq.symm id, fun h => h.imp Eq.symm id⟩
  | false =>
   rw [eqvN y e]
   cases d <;> first | rfl | cases e
theorem all_pl {pl : List Str} : ∀ {ds : List PyData}, ds.all (isPlD pl) = true → ∃ ws : List Str, ds = ws.map PyData.str ∧ ∀ x ∈ ws, x ∈ pl
 | [], _ => ⟨[], rfl, fun _ h => nomatch h⟩
 | d :: r, h => by
  rw [List.all_cons, Bool.and_eq_true_iff] at h
  obtain ⟨ws, e, hw⟩ := all_pl h.2
  have h1 := h.1
  cases d <;> first | (cases h1; done) | skip
  rename_i x
  refine ⟨x :: ws, by rw [e]; rfl, fun y hy => ?_⟩
  rcases List.mem_cons.mp hy with rfl | hy
  ·exact of_decide_eq_true h1
  ·exact hw y hy
theorem unlikeD_not {pl : List Str} {ds : List PyData} (h : ds.all (isPlD pl) = false) : unlikeD pl (.list ds) = false := by
 unfold unlikeD
 cases e : namesOf (.list ds) with
 | none => rfl
 | some ws =>
  have e' := strsOf_some (show strsOf ds = some ws from e)
  subst e'
  show unlikeB pl ws = false
  unfold unlikeB
  have h1 : (ws.all fun x => decide (x ∈ pl)) = false := by
   rw [List.all_map] at h
   exact h
  rw [h1]
  rfl
theorem pd_strs {H : Hp} {n : Nat} : ∀ {ws : List Str} {xs : List V}, Paired (PD H n) xs (ws.map PyData.str) → xs = ws.map V.str
 | [], _, h => by cases h; rfl
 | x :: r, _, h => by
  cases h with
  | cons h t =>
   obtain ⟨y, rfl, e⟩ := h.str_of rfl
   cases e
   rw [pd_strs t]
   rfl
theorem unlikeD_true {H : Hp} {pl : List Str} {n : Nat} {v : V} {d : PyData} (pd : PD H n v d) (h : unlikeD pl d = true) : ∃ (l : Addr) (ws : List Str), v = .ref l ∧ d = .list (ws.map PyData.str) ∧ H l = some (.lst (ws.map V.str)) ∧ unlikeB pl ws = true := by
 unfold unlikeD at h
 cases e : namesOf d with
 | none => rw [e] at h; cases h
 | some ws =>
  rw [e] at h
  have h' : unlikeB pl ws = true := h
  cases d <;> first | (cases e; done) | skip
  rename_i ds
  have e' := strsOf_some (show strsOf ds = some ws from e)
  subst e'
  obtain ⟨m, l, xs, rfl, rfl, hl, p⟩ := pd.list_of
  rw [pd_strs p] at hl
  exact ⟨l, ws, rfl, rfl, hl, h'⟩
theorem rd_nil2 {K : PySem.W.Frag} {H : Hp} {l : Addr} {n : Nat} (h : H l = some (.lst [])) : RdD K H (n + 2) (.ref l) (.list []) := .inl ⟨_, _, SqL.of h, rfl, .nil⟩
def spIsPlaceD (C : Addr) : Sp := fun vs H Q _ => ∃ (p ds dl : Addr) (S : NS) (v : V) (n : Nat) (d : PyData), vs = [.ref p, v] ∧ NetAt C H p ds dl S ∧ (∀ x ∈ S.pl, nameB x = true) ∧ PD H n v d ∧ n ≤ 50 ∧ ∀ H', Same H H' → Q (.bl (isPlD S.pl d)) H'
def spUnlikeD (C : Addr) : Sp := fun vs H Q _ => ∃ (p ds dl : Addr) (S : NS) (v : V) (n : Nat) (d : PyData), vs = [.ref p, v] ∧ NetAt C H p ds dl S ∧ (∀ x ∈ S.pl, nameB x = true) ∧ PD H n v d ∧ n ≤ 50 ∧ (∀ e, d = .list e → e.length ≤ 1000) ∧ ∀ H', Same H H' → Q (.bl (unlikeD S.pl d)) H'
section
variable {P : Program} {w : World} {K : PySem.W.Frag} {mg : Str → Option Value} {base : Heap} {C : Addr}
theorem ok_isPlaceD {f : Addr} {fd : FuncData} (F : Fun K "is_place" "is_place" s_is_place f fd) (T : Txt K mg C) (m1 : CanM P w K mg base 1 C "places" ["self"] (spPlaces C)) : FnOk P w K mg base CX0 2 f fd ["net", "paper"] (spIsPlaceD C) := by
 refine F.ok sc_isPlace (fun vs H Q E h => ?_) (fun cdv A outer s H vs Q E hr h => ?_)
 ·obtain ⟨p, ds, dl, S, v, n, d, rfl, _⟩ := h
  rfl
 ·obtain ⟨p, ds, dl, S, v, n, d, rfl, N, ok, pd, n50, q⟩ := h
  have hu := hr.units
  refine ⟨_, (pss_one (ps_ret (pe_cmpR (op_inD hu) (pv 1) (pe_methC0 (pv 0) T.cl m1 hr) (by with_unfolding_all rfl)))), ?_⟩
  obtain ⟨dx, h1⟩ := N.ob
  refine ⟨_, rfl, _, rfl, p, dx, _, rfl, h1, flds_no ds dl (by decide +kernel) (by decide +kernel), p, ds, dl, S, rfl, N, fun l hl => ⟨n + 1, d, S.pl.map PyData.str, by omega, ((pd.same (Same.new hl)).mono 1).rd, ?_, ?_⟩⟩
  ·exact PD.rd (n := n + 1) (.inl ⟨_, _, upd_same, rfl, PD.strs ok⟩)
  ·show Q (.bl ((S.pl.map PyData.str).any fun y => PyData.eqv y d)) _
   rw [any_pl]
   exact q _ (Same.new hl)
theorem ok_unlikeD {f : Addr} {fd : FuncData} (F : Fun K "are_unlike_places" "are_unlike_places" s_are_unlike_places f fd) (T : Txt K mg C) (TS : TxtS mg) (c1 : Can P w K mg base 2 "is_place" ["net", "paper"] (spIsPlaceD C)) (c2 : Can P w K mg base 1 "are_unlike" ["names"] spAlike) : FnOk P w K mg base CX0 3 f fd ["net", "paper"] (spUnlikeD C) := by
 refine F.ok sc_unlike (fun vs H Q E h => ?_) (fun cdv A outer s H vs Q E hr h => ?_)
 ·obtain ⟨p, ds, dl, S, v, n, d, rfl, _⟩ := h
  rfl
 ·obtain ⟨p, ds, dl, S, v, n, d, rfl, N, ok, pd, n50, blen, q⟩ := h
  refine ⟨_, pss_cons (ps_if (PW.pt (pw_or (pt_not (pt_val (pe_callB call_isinst (by rfl) T.isi b_isi (pa_cons (pv 1) (pa_cons (pe_ty T.list (by rfl) b_list) pa_nil)))))
    (pw_or1 (pt_not (pt_val (pe_callB (call_all rfl) (by rfl) T.all b_all (pa_cons (pe_comp (N := ["part", "net"]) (xs := 1) (js := [0]) rfl (compScope_of rfl) (pi_list (pv 1))
     (fun _ _ _ _ => pg_name (i := 0) (show List.Nodup (["part", "net"] : List Str) by decide +kernel) rfl (Or.inl rfl)) (fun _ _ _ _ => pts_nil) (fun _ _ _ _ => pe_callC c1 hr (by rfl) (pa_cons (pv 1) (pa_cons (pv 0) pa_nil)))) pa_nil))))))) (pss_one (ps_ret pe_bl)) pss_nil)
   (pss_one (ps_ret (pe_callC c2 (hr.mono (by decide)) (by rfl) (pa_cons (pv 1) pa_nil)))), ?_⟩
  obtain ⟨t, ty, kl, _⟩ := PD.ty (K := K) pd
  refine ⟨_, rfl, v, "list", t, isL d, rfl, ty, kl, _, rfl, ?_⟩
  cases el : isL d with
  | false =>
   refine iteT (iteT ?_)
   have := q H (Same.refl H)
   have e : unlikeD S.pl d = false := by cases d <;> first | rfl | cases el
   rw [e] at this
   exact this
  | true =>
   refine iteF ?_
   obtain ⟨es, rfl⟩ : ∃ e, d = .list e := by cases d <;> first | exact ⟨_, rfl⟩ | cases el
   obtain ⟨m, l, xs, rfl, rfl, hl, pr⟩ := pd.list_of
   have hxl : xs.length = es.length := Paired.length pr
   have hle := blen es rfl
   refine ⟨_, rfl, l, rfl, ⟨_, SqL.of hl⟩, comp_list (K := K) (ys := xs) (fun i acc σ' H' => Same H H' ∧ acc = ((es.take i).map fun x => V.bl (isPlD S.pl x)) ∧ ∃ o, σ' = [o, some (.ref p)])
    ⟨Same.refl H, rfl, none, rfl⟩ (fun i acc σ' H' h => ?_) (by rw [hxl]; exact Nat.le_trans hle (by decide)) (fun i acc σ' H' _ h => SqL.of (h.1 _ _ hl)) (fun i x acc σ' H' hx h => ?_) (fun acc σ' H' h pp hpp => ?_)⟩
   ·rw [h.2.1, List.length_map, List.length_take]; omega
   ·obtain ⟨s1, rfl, o, rfl⟩ := h
    obtain ⟨dy, hd, pdy⟩ := pair_get pr hx
    refine ⟨_, rfl, _, rfl, p, ds, dl, S, x, m, dy, rfl, N.same s1, ok, pdy.same s1, by omega, fun H2 s2 => ⟨s1.trans s2, ?_, _, rfl⟩⟩
    rw [List.take_add_one, hd, List.map_append]
    rfl
   ·obtain ⟨s1, rfl, o, rfl⟩ := h
    rw [hxl, List.take_length]
    refine ⟨pp, es.map fun x => isPlD S.pl x, rfl, SqL.of (by rw [upd_same, List.map_map]; rfl), ?_⟩
    have s2 := s1.upd (o := .lst (es.map fun x => V.bl (isPlD S.pl x))) hpp
    generalize upd H' pp (.lst (es.map fun x => V.bl (isPlD S.pl x))) = H2 at s2
    have ea : (es.map fun x => isPlD S.pl x).all id = es.all (isPlD S.pl) := by rw [List.all_map]; rfl
    refine ⟨_, rfl, ?_⟩
    rw [ea]
    cases e1 : es.all (isPlD S.pl) with
    | false =>
     refine iteT ?_
     have := q H2 s2
     rw [unlikeD_not e1] at this
     exact this
    | true =>
     obtain ⟨ws, rfl, hw⟩ := all_pl e1
     have hxs := pd_strs pr
     subst hxs
     have hn : ws.length ≤ 1000 := by rw [List.length_map] at hle; exact hle
     refine iteF ⟨_, rfl, l, ws, rfl, s2 _ _ hl, hn, fun H3 s3 => ?_⟩
     have := q _ (s2.trans s3)
     rw [unlikeD_list] at this
     unfold unlikeB at this
     have e1' : (ws.all fun x => decide (x ∈ S.pl)) = true := List.all_eq_true.mpr fun x hx => decide_eq_true (hw x hx)
     rw [e1'] at this
     exact this
end
end Net
namespace Net
open PySem L2
def cellD (ns : List Int) (k : Int) : Int := (ns[k.toNat]?).getD 0
def spCellD (K : PySem.W.Frag) : Sp := fun vs H Q _ => ∃ (a : Addr) (ns : List Int) (k : Int), vs = [.ref a, .int k] ∧ SqL K H a (ns.map V.int) ∧ 0 ≤ k ∧ Q (.int (cellD ns k)) H
def bL (c : Int) : List Nat := (List.range (1 + c % 7).toNat).map fun (j : Nat) => 97 + ((c / 7 + (j : Int) * (j : Int)) % 26).toNat
def lat (c : Int) : Nat := (c / 182 % ((bL c).length : Int)).toNat
def lnmL (c k : Int) : List Nat := (bL c).take (lat c) ++ [97 + ((c / 1274 + k) % 26).toNat] ++ (bL c).drop (lat c + 1)
def lnm (c k : Int) : Str := ⟨(lnmL c k).toArray⟩
def spLName : Sp := fun vs H Q _ => ∃ (c k : Int), vs = [.int c, .int k] ∧ 0 ≤ k ∧ Q (.str (lnm c k)) H
theorem bL_len (c : Int) : 1 ≤ (bL c).length ∧ (bL c).length ≤ 7 := by
 unfold bL
 rw [List.length_map, List.length_range]
 have h1 := Int.emod_nonneg c (by decide : (7 : Int) ≠ 0)
 have h2 := Int.emod_lt_of_pos c (by decide : (0 : Int) < 7)
 omega
theorem lat_lt (c : Int) : lat c < (bL c).length := by
 unfold lat
 have h := (bL_len c).1
 have h1 := Int.emod_nonneg (c / 182) (by omega : ((bL c).length : Int) ≠ 0)
 have h2 := Int.emod_lt_of_pos (c / 182) (by omega : (0 : Int) < ((bL c).length : Int))
 omega
theorem m26 (z : Int) : (z % 26).toNat < 26 ∧ (((z % 26).toNat : Nat) : Int) = z % 26 := by
 have h1 := Int.emod_nonneg z (by decide : (26 : Int) ≠ 0)
 have h2 := Int.emod_lt_of_pos z (by decide : (0 : Int) < 26)
 omega
theorem bL_small (c : Int) : ∀ x ∈ bL c, 97 ≤ x ∧ x ≤ 122 := fun x hx => by
 obtain ⟨j, _, rfl⟩ := List.mem_map.mp hx
 have := (m26 (c / 7 + (j : Int) * j)).1
 omega
theorem lnmL_len (c k : Int) : (lnmL c k).length = (bL c).length := by
 have := lat_lt c
 unfold lnmL
 simp only [List.length_append, List.length_take, List.length_drop, List.length_singleton]
 omega
theorem lnm_name (c k : Int) : nameB (lnm c k) = true := by
 have h1 : (lnm c k).length = (bL c).length := by
  show (lnmL c k).toArray.size = _
  rw [List.size_toArray, lnmL_len]
 obtain ⟨a, b⟩ := bL_len c
 unfold nameB
 rw [h1, decide_eq_true (by omega), decide_eq_true (by omega)]
 simp only [Bool.true_and, List.all_eq_true]
 intro x hx
 have hs : 97 ≤ x ∧ x ≤ 122 := by
  have hx' : x ∈ lnmL c k := hx
  unfold lnmL at hx'
  rcases List.mem_append.mp hx' with h | h
  ·rcases List.mem_append.mp h with h | h
   ·exact bL_small c x (List.mem_of_mem_take h)
   ·have e : x = 97 + ((c / 1274 + k) % 26).toNat := by simpa using h
    have := (m26 (c / 1274 + k)).1
    omega
  ·exact bL_small c x (List.mem_of_mem_drop h)
 unfold smallB
 rw [decide_eq_true hs.1, decide_eq_true hs.2]
 rfl
theorem lnm_inj {c i j : Int} (hi : 0 ≤ i) (hi' : i < 26) (hj : 0 ≤ j) (hj' : j < 26) (e : lnm c i = lnm c j) : i = j := by
 have e' : lnmL c i = lnmL c j := by
  have := congrArg (fun s : Str => s.cps.toList) e
  simpa [lnm] using this
 have h : ∀ n, (lnmL c n)[lat c]? = some (97 + ((c / 1274 + n) % 26).toNat) := by
  intro n
  have := lat_lt c
  unfold lnmL
  rw [List.append_assoc, List.getElem?_append_right (by rw [List.length_take]; omega)]
  simp [List.length_take, Nat.min_eq_left (Nat.le_of_lt this)]
 have h1 := h i
 rw [e', h j] at h1
 have := Option.some.inj h1
 have a1 := (m26 (c / 1274 + i)).2
 have a2 := (m26 (c / 1274 + j)).2
 omega
theorem abc_at (z : Int) : atI abc.cps.toList (z % 26) = some (97 + (z % 26).toNat) := by
 obtain ⟨h1, h2⟩ := m26 z
 have := atI_nat (abc_get h1)
 rw [h2] at this
 exact this
theorem str_ext {x y : Str} (h : x.cps.toList = y.cps.toList) : x = y := by
 obtain ⟨a⟩ := x
 obtain ⟨b⟩ := y
 exact congrArg Str.mk (Array.toList_inj.mp h)
section
variable {P : Program} {w : World} {K : PySem.W.Frag} {mg : Str → Option Value} {base : Heap} {C : Addr}
theorem ok_cellD {f : Addr} {fd : FuncData} (F : Fun K "_law_cell_at" "_law_cell_at" s_l_cell_at f fd) (T : Txt K mg C) : FnOk P w K mg base CX0 1 f fd ["_law_script", "_law_k"] (spCellD K) := by
 refine F.ok sc_cell (fun vs H Q E h => ?_) (fun cdv A outer s H vs Q E hr h => ?_)
 ·obtain ⟨a, ns, k, rfl, _⟩ := h
  rfl
 ·obtain ⟨a, ns, k, rfl, hS, hk, q⟩ := h
  refine ⟨_, pss_cons (ps_if (pt_cmpR op_lt (pv 1) (pe_callB call_len_seq (by rfl) T.len b_len (pa_cons (pv 0) pa_nil)) (nomark _)) (pss_one (ps_ret (pe_ix ix_list (pv 0) (pv 1) (fun _ _ => rfl)))) pss_nil) (pss_one (ps_ret pe_int)), ?_⟩
  obtain ⟨n, rfl⟩ := Int.eq_ofNat_of_zero_le hk
  have ec : cellD ns n = (ns[n]?).getD 0 := rfl
  refine ⟨_, rfl, _, rfl, a, _, rfl, .inl hS, _, _, rfl, rfl, _, rfl, ite2 (fun h => ?_) (fun h => ?_)⟩
  ·have hn : n < ns.length := by
    have := of_decide_eq_true h
    rw [List.length_map] at this
    omega
   have e : cellD ns n = ns[n] := by rw [ec, List.getElem?_eq_getElem hn]; rfl
   rw [e] at q
   exact ⟨_, rfl, _, rfl, a, _, _, _, rfl, rfl, hS, atI_nat (v := V.int ns[n]) (by simp [hn]), q⟩
  ·have hn : ¬ n < ns.length := fun z => h (decide_eq_true (by rw [List.length_map]; omega))
   have e : cellD ns n = 0 := by rw [ec, List.getElem?_eq_none (by omega)]; rfl
   rw [e] at q
   exact q
abbrev Nlname : List Str := ["_law_cell", "_law_k", "_law_letters", "_law_found", "_law_j", "_law_at"]
theorem sc_lname : FnScope Nlname ["_law_cell", "_law_k"] (defScope s_l_name) := ⟨rfl, rfl, rfl, by decide +kernel, rfl, by decide +kernel, by decide +kernel⟩
theorem ok_lname {f : Addr} {fd : FuncData} (F : Fun K "_law_name" "_law_name" s_l_name f fd) (T : Txt K mg C) : FnOk P w K mg base CX0 1 f fd ["_law_cell", "_law_k"] spLName := by
 refine F.ok sc_lname (fun vs H Q E h => ?_) (fun cdv A outer s H vs Q E hr h => ?_)
 ·obtain ⟨c, k, rfl, _⟩ := h
  rfl
 ·obtain ⟨c, k, rfl, hk, q⟩ := h
  refine ⟨_, (pss_cons (ps_set (i := 2) sc_lname.nd rfl (Or.inl rfl) pe_str)
   (pss_cons (ps_set (i := 3) sc_lname.nd rfl (Or.inl rfl) pe_str)
   (pss_cons (ps_for PassesOwn.never rfl (pi_range1 rfl T.range (pa_cons (pe_op op_add pe_int (pe_op op_mod (pv 0) pe_int)) pa_nil)) (pg_name (i := 4) sc_lname.nd rfl (Or.inl rfl))
    (pss_one (ps_set (i := 3) sc_lname.nd rfl (Or.inl rfl) (pe_op op_add_str (pv 3) (pe_ix ix_str (pv 2) (pe_op op_mod (pe_op op_add (pe_op op_fdiv (pv 0) pe_int) (pe_op op_mul (pv 4) (pv 4))) pe_int) (fun _ _ => rfl))))))
   (pss_cons (ps_set (i := 5) sc_lname.nd rfl (Or.inl rfl) (pe_op op_mod (pe_op op_fdiv (pv 0) pe_int) (pe_callB call_len_str (by rfl) T.len b_len (pa_cons (pv 3) pa_nil))))
   (pss_one (ps_ret (pe_op op_add_str (pe_op op_add_str (pe_slice sl_str (pv 3) po_none (po_some (pv 5))) (pe_ix ix_str (pv 2) (pe_op op_mod (pe_op op_add (pe_op op_fdiv (pv 0) pe_int) (pv 1)) pe_int) (fun _ _ => rfl))) (pe_slice sl_str (pv 3) (po_some (pe_op op_add (pv 5) pe_int)) po_none)))))))), ?_⟩
  have hl : abc.length = 26 := by decide +kernel
  have h71 := Int.emod_nonneg c (by decide : (7 : Int) ≠ 0)
  have h72 := Int.emod_lt_of_pos c (by decide : (0 : Int) < 7)
  have bl : (bL c).length = (1 + c % 7).toNat := by unfold bL; rw [List.length_map, List.length_range]
  obtain ⟨b1, b2⟩ := bL_len c
  have l4 : ∀ x y : Str, (x ++ y).length = x.length + y.length := fun x y => Array.size_append
  refine ⟨_, rfl, _, _, rfl, rfl, (by show (0 : Int) < 7; decide), _, _, rfl, rfl, _, rfl, by omega, by omega, for_range (fun i σ' H' => i ≤ (bL c).length ∧ H' = H ∧ ∃ o, σ' = [some (.int c), some (.int k), some (.str abc), some (.str ⟨((bL c).take i).toArray⟩), o, none])
   ⟨Nat.zero_le _, rfl, none, rfl⟩ (fun i σ' H' hi h => ?_) (fun σ' H' h => ?_)⟩
  ·obtain ⟨h0, rfl, o, rfl⟩ := h
   rw [← bl] at hi
   have ei : (bL c)[i]? = some (97 + ((c / 7 + (i : Int) * i) % 26).toNat) := by
    have : i < (1 + c % 7).toNat := by omega
    unfold bL
    rw [List.getElem?_map, List.getElem?_range this]
    rfl
   have s1 : (⟨((bL c).take i).toArray⟩ : Str).length = i := by
    show ((bL c).take i).toArray.size = i
    rw [List.size_toArray, List.length_take]
    omega
   have s26 : (26 : Nat) ≤ sizeLine := by decide
   refine ⟨_, rfl, _, rfl, _, rfl, _, _, rfl, rfl, ⟨by decide, by decide⟩, _, rfl, _, rfl, _, _, rfl, rfl, .inl ⟨by omega, by omega⟩, _, _, rfl, rfl, _, _, rfl, rfl, (by show (0 : Int) < 26; decide), abc, _, _, rfl, rfl, (by rw [hl]; decide), abc_at _, _, _, rfl, rfl, ?_, ?_⟩
   ·rw [s1]
    show i + 1 ≤ sizeLine
    omega
   ·refine ⟨by omega, rfl, some (.int ((0 : Int) + i)), ?_⟩
    have e : (⟨((bL c).take i).toArray⟩ : Str) ++ (⟨#[97 + ((c / 7 + ((0 : Int) + i) * ((0 : Int) + i)) % 26).toNat]⟩ : Str) = ⟨((bL c).take (i + 1)).toArray⟩ := by
     refine str_ext ?_
     show (((bL c).take i).toArray ++ #[97 + ((c / 7 + ((0 : Int) + i) * ((0 : Int) + i)) % 26).toNat]).toList = ((bL c).take (i + 1)).toArray.toList
     rw [Array.toList_append, List.take_add_one, ei, Int.zero_add]
     rfl
    rw [← e]
    rfl
  ·obtain ⟨h0, rfl, o, rfl⟩ := h
   rw [← bl, List.take_length]
   have hf : (⟨(bL c).toArray⟩ : Str).length = (bL c).length := List.size_toArray
   have s26 : (26 : Nat) ≤ sizeLine := by decide
   have l1 : ∀ a b, (Txt.slice ⟨(bL c).toArray⟩ a b).length ≤ 7 := fun a b => Nat.le_trans (Txt.slice_le _ _ _) (by rw [hf]; exact b2)
   refine ⟨_, rfl, _, _, rfl, rfl, ⟨by decide, by decide⟩, _, rfl, _, rfl, (by rw [hf]; omega), _, _, rfl, rfl, (by rw [hf]; omega), ?_⟩
   have la : c / 182 % ((⟨(bL c).toArray⟩ : Str).length : Int) = ((lat c : Nat) : Int) := by
    have h1 := Int.emod_nonneg (c / 182) (by omega : ((bL c).length : Int) ≠ 0)
    unfold lat
    rw [hf, Int.toNat_of_nonneg h1]
   refine ⟨_, rfl, _, rfl, _, rfl, _, rfl, (by rw [hf]; omega), _, rfl, _, rfl, _, _, rfl, rfl, ⟨by decide, by decide⟩, _, rfl, _, _, rfl, rfl, _, _, rfl, rfl, (by show (0 : Int) < 26; decide), abc, _, _, rfl, rfl, (by rw [hl]; decide), abc_at _, _, _, rfl, rfl, ?_, _, rfl, _, rfl, _, _, rfl, rfl, _, rfl, _, rfl, (by rw [hf]; omega), _, _, rfl, rfl, ?_, ?_⟩
   ·have := l1 none (some (c / 182 % ((⟨(bL c).toArray⟩ : Str).length : Int)))
    show _ + 1 ≤ sizeLine
    omega
   ·rw [l4]
    have x1 := l1 none (some (c / 182 % ((⟨(bL c).toArray⟩ : Str).length : Int)))
    have x2 := l1 (some (c / 182 % ((⟨(bL c).toArray⟩ : Str).length : Int) + 1)) none
    show _ + 1 + _ ≤ sizeLine
    omega
   ·have e : Txt.slice ⟨(bL c).toArray⟩ none (some (c / 182 % ((⟨(bL c).toArray⟩ : Str).length : Int))) ++ (⟨#[97 + ((c / 1274 + k) % 26).toNat]⟩ : Str) ++ Txt.slice ⟨(bL c).toArray⟩ (some (c / 182 % ((⟨(bL c).toArray⟩ : Str).length : Int) + 1)) none = lnm c k := by
     refine str_ext ?_
     show ((Txt.slice ⟨(bL c).toArray⟩ none (some (c / 182 % ((⟨(bL c).toArray⟩ : Str).length : Int)))).cps ++ #[97 + ((c / 1274 + k) % 26).toNat] ++ (Txt.slice ⟨(bL c).toArray⟩ (some (c / 182 % ((⟨(bL c).toArray⟩ : Str).length : Int) + 1)) none).cps).toList = _
     rw [Array.toList_append, Array.toList_append, la, slice_to]
     have := slice_from (⟨(bL c).toArray⟩ : Str) (a := lat c + 1) (by rw [hf]; exact lat_lt c)
     rw [show ((lat c : Nat) : Int) + 1 = ((lat c + 1 : Nat) : Int) from rfl, this]
     rfl
    rw [← e] at q
    exact q
end
end Net
namespace Net
open PySem L2
structure GoodS (S : NS) : Prop where
 ndP : S.pl.Nodup
 lenP : S.pl.length ≤ 6
 neP : 1 ≤ S.pl.length
 okP : ∀ x ∈ S.pl, nameB x = true
 ndT : S.nms.Nodup
 lenT : S.ti.length ≤ 10
 okT : ∀ r ∈ S.ti, nameB r.nm = true ∧ r.a ∈ S.pl ∧ r.b ∈ S.pl
 neT : ∀ r ∈ S.ti, ¬ r.a = r.b ∧ 1 ≤ r.w
 okC : ∀ r ∈ S.ti, -4 ≤ r.c ∧ r.c ≤ 4
structure PartsAt (H : Hp) (pa ta : Addr) (S : NS) : Prop where
 pl : H pa = some (.lst (S.pl.map V.str))
 ti : ∃ L, Rows H L S.ti ∧ H ta = some (.lst (L.map fun q => V.ref q.2))
theorem PartsAt.same {H H' : Hp} {pa ta : Addr} {S : NS} (s : Same H H') (h : PartsAt H pa ta S) : PartsAt H' pa ta S := ⟨s _ _ h.pl, let ⟨L, a, b⟩ := h.ti; ⟨L, a.same s, s _ _ b⟩⟩
def spParts (K : PySem.W.Frag) : Sp := fun vs H Q _ => ∃ (a : Addr) (ns : List Int), vs = [.ref a] ∧ SqL K H a (ns.map V.int) ∧
 ∀ (t pa ta : Addr) (S : NS) (H' : Hp), Same H H' → H' t = some (.tup [.ref pa, .ref ta]) → PartsAt H' pa ta S → GoodS S → Q (.ref t) H'
structure TxtM (mg : Str → Option Value) : Prop where
 max : mg "max" = none
 enum : mg "enumerate" = none
theorem b_max : bootBuiltins "max" = some (.builtin "max") := by decide +kernel
def lpl (c : Int) (n : Nat) : List Str := (List.range n).map fun (j : Nat) => lnm c (j : Int)
theorem lpl_nodup (c : Int) {n : Nat} (h : n ≤ 26) : (lpl c n).Nodup := by
 unfold lpl List.Nodup
 rw [List.pairwise_map]
 refine List.Pairwise.imp_of_mem (fun {a b} ha hb hne e => hne ?_) List.nodup_range
 have h1 := List.mem_range.mp ha
 have h2 := List.mem_range.mp hb
 have := lnm_inj (c := c) (i := (a : Int)) (j := (b : Int)) (by omega) (by omega) (by omega) (by omega) e
 omega
theorem lpl_get (c : Int) {n j : Nat} (h : j < n) : (lpl c n)[j]? = some (lnm c (j : Int)) := by
 unfold lpl
 rw [List.getElem?_map, List.getElem?_range h]
 rfl
theorem lpl_at (c : Int) {n j : Nat} (h : j < n) : atI ((lpl c n).map V.str) (j : Int) = some (V.str (lnm c (j : Int))) := atI_nat (by rw [List.getElem?_map, lpl_get c h]; rfl)
theorem emod_nat (z : Int) {n : Nat} (h : 1 ≤ n) : ∃ j : Nat, j < n ∧ z % (n : Int) = (j : Int) := by
 have h1 := Int.emod_nonneg z (by omega : (n : Int) ≠ 0)
 have h2 := Int.emod_lt_of_pos z (by omega : (0 : Int) < (n : Int))
 exact ⟨(z % (n : Int)).toNat, by omega, by omega⟩
theorem cut_len (xs : List V) {a b : Nat} (h : a ≤ b) : (cutV xs (some (a : Int)) (some (b : Int))).length ≤ b - a := by
 unfold cutV
 rw [HT.sIx_nat, HT.sIx_nat, List.length_take]
 omega
theorem cut_ints {ns : List Int} {a b : Option Int} : ∀ v ∈ cutV (ns.map V.int) a b, ∃ i, v = V.int i := fun v hv => by
 unfold cutV at hv
 have := List.mem_of_mem_drop (List.mem_of_mem_take hv)
 obtain ⟨i, _, rfl⟩ := List.mem_map.mp this
 exact ⟨i, rfl⟩
structure TiesI (c1 c2 : Int) (n i : Nat) (ti : List Row) : Prop where
 len : ti.length ≤ i
 nd : (ti.map (·.nm)).Nodup
 nm : ∀ r ∈ ti, ∃ j : Nat, j < i ∧ r.nm = lnm c2 (j : Int)
 ab : ∀ r ∈ ti, r.a ∈ lpl c1 n ∧ r.b ∈ lpl c1 n ∧ ¬ r.a = r.b ∧ 1 ≤ r.w ∧ -4 ≤ r.c ∧ r.c ≤ 4
theorem TiesI.keep {c1 c2 : Int} {n i : Nat} {ti : List Row} (h : TiesI c1 c2 n i ti) : TiesI c1 c2 n (i + 1) ti := ⟨Nat.le_succ_of_le h.len, h.nd, fun r hr => let ⟨j, a, b⟩ := h.nm r hr; ⟨j, by omega, b⟩, h.ab⟩
theorem TiesI.add {c1 c2 : Int} {n i a b : Nat} {w c : Int} {ti : List Row} (h : TiesI c1 c2 n i ti) (hi : i < 26) (hn : n ≤ 26) (ha : a < n) (hb : b < n) (hab : a ≠ b) (hw : 1 ≤ w) (hc : -4 ≤ c ∧ c ≤ 4) :
  TiesI c1 c2 n (i + 1) (ti ++ [⟨lnm c2 (i : Int), lnm c1 (a : Int), lnm c1 (b : Int), w, c⟩]) := by
 refine ⟨by rw [List.length_append]; exact Nat.succ_le_succ h.len, ?_, fun r hr => ?_, fun r hr => ?_⟩
 ·rw [List.map_append]
  refine nodup_snoc h.nd fun z => ?_
  obtain ⟨r, hr, e⟩ := List.mem_map.mp z
  obtain ⟨j, hj, e2⟩ := h.nm r hr
  have := lnm_inj (c := c2) (i := (j : Int)) (j := (i : Int)) (by omega) (by omega) (by omega) (by omega) (e2.symm.trans e)
  omega
 ·rcases List.mem_append.mp hr with hr | hr
  ·obtain ⟨j, a, b⟩ := h.nm r hr
   exact ⟨j, by omega, b⟩
  ·cases List.mem_singleton.mp hr
   exact ⟨i, by omega, rfl⟩
 ·rcases List.mem_append.mp hr with hr | hr
  ·exact h.ab r hr
  ·cases List.mem_singleton.mp hr
   refine ⟨List.mem_of_getElem? (lpl_get c1 ha), List.mem_of_getElem? (lpl_get c1 hb), fun z => ?_, hw, hc⟩
   have := lnm_inj (c := c1) (i := (a : Int)) (j := (b : Int)) (by omega) (by omega) (by omega) (by omega) z
   omega
section
variable {P : Program} {w : World} {K : PySem.W.Frag} {mg : Str → Option Value} {base : Heap} {C : Addr}
abbrev Nparts : List Str := ["_law_script", "_law_first", "_law_places", "_law_ties", "_law_k", "_law_cell", "_law_a", "_law_b", "_law_name_here"]
theorem sc_parts : FnScope Nparts ["_law_script"] (defScope s_l_parts) := ⟨rfl, rfl, rfl, by decide +kernel, rfl, by decide +kernel, by decide +kernel⟩
theorem ok_parts {f : Addr} {fd : FuncData} (F : Fun K "_law_parts" "_law_parts" s_l_parts f fd) (T : Txt K mg C) (TM : TxtM mg) (cc : Can P w K mg base 1 "_law_cell_at" ["_law_script", "_law_k"] (spCellD K)) (cn : Can P w K mg base 1 "_law_name" ["_law_cell", "_law_k"] spLName) :
  FnOk P w K mg base CX0 2 f fd ["_law_script"] (spParts K) := by
 refine F.ok sc_parts (fun vs H Q E h => ?_) (fun cdv A outer s H vs Q E hr h => ?_)
 ·obtain ⟨a, ns, rfl, _⟩ := h
  rfl
 ·obtain ⟨a, ns, rfl, hS, q⟩ := h
  have nd2 : List.Nodup (["_law_k", "_law_script"] : List Str) := by decide +kernel
  refine ⟨_, (pss_cons (ps_set (i := 1) sc_parts.nd rfl (Or.inl rfl) (pe_callC cc hr (by rfl) (pa_cons (pv 0) (pa_cons pe_int pa_nil))))
   (pss_cons (ps_comp (j := 2) (N := ["_law_k", "_law_script"]) (xs := 1) (js := [0]) rfl sc_parts.nd rfl rfl (compScope_of rfl) (pi_range1 rfl T.range (pa_cons (pe_op op_add pe_int (pe_op op_mod (pv 1) pe_int)) pa_nil))
     (fun _ _ _ _ => pg_name (i := 0) nd2 rfl (Or.inl rfl)) (fun _ _ _ _ => pts_nil) (fun _ _ _ _ => pe_callC cn hr (by rfl) (pa_cons (pe_callC cc hr (by rfl) (pa_cons (pv 1) (pa_cons pe_int pa_nil))) (pa_cons (pv 0) pa_nil))) rfl)
   (pss_cons (ps_set (i := 3) sc_parts.nd rfl (Or.inl rfl) (pe_lst pa_nil))
   (pss_cons (ps_for PassesOwn.never rfl (pi_enum rfl TM.enum (pa_cons (pe_slice sl_list (pv 0) (po_some pe_int) (po_some (pe_op op_add pe_int (pe_op op_mod (pe_op op_fdiv (pv 1) pe_int) pe_int)))) pa_nil))
     (pg_tup rfl (pgs_cons (pg_name (i := 4) sc_parts.nd rfl (Or.inl rfl)) (pgs_cons (pg_name (i := 5) sc_parts.nd rfl (Or.inl rfl)) pgs_nil)))
    (pss_cons (ps_set (i := 6) sc_parts.nd rfl (Or.inl rfl) (pe_op op_mod (pv 5) (pe_callB call_len_seq (by rfl) T.len b_len (pa_cons (pv 2) pa_nil))))
   (pss_cons (ps_set (i := 7) sc_parts.nd rfl (Or.inl rfl) (pe_op op_mod (pe_op op_add (pe_op op_add (pv 6) pe_int) (pe_op op_mod (pe_op op_fdiv (pv 5) pe_int) (pe_callB (call_max2 rfl) (by rfl) TM.max b_max (pa_cons pe_int (pa_cons (pe_op op_sub (pe_callB call_len_seq (by rfl) T.len b_len (pa_cons (pv 2) pa_nil)) pe_int) pa_nil)))))
      (pe_callB call_len_seq (by rfl) T.len b_len (pa_cons (pv 2) pa_nil))))
   (pss_cutE (ps_if (pt_cmpR op_eq (pe_op op_mod (pe_op op_fdiv (pv 1) pe_int) pe_int) pe_int (nomark _)) (pss_one (ps_set (i := 7) sc_parts.nd rfl (Or.inl rfl) (pe_op op_mod (pe_op op_add (pv 6) pe_int) (pe_callB call_len_seq (by rfl) T.len b_len (pa_cons (pv 2) pa_nil))))) pss_nil)
   (pss_one (ps_if (pt_cmpR op_ne (pv 6) (pv 7) (nomark _)) (pss_cons (ps_set (i := 8) sc_parts.nd rfl (Or.inl rfl) (pe_callC cn hr (by rfl) (pa_cons (pe_callC cc hr (by rfl) (pa_cons (pv 0) (pa_cons pe_int pa_nil))) (pa_cons (pv 4) pa_nil))))
   (pss_one (ps_expr (pe_bm PySem.F.plainAttrs_list PySem.F.slot_list_append PySem.F.type_list_append mt_append (pv 3) (pa_cons (pe_tup (pa_cons (pv 8) (pa_cons (pe_ix ix_list (pv 2) (pv 6) (fun _ _ => by rfl)) (pa_cons (pe_ix ix_list (pv 2) (pv 7) (fun _ _ => by rfl)) (pa_cons (pe_op op_add pe_int (pe_op op_mod (pe_op op_fdiv (pv 5) pe_int) pe_int)) (pa_cons (pe_op op_sub (pe_op op_mod (pe_op op_fdiv (pv 5) pe_int) pe_int) pe_int) pa_nil)))))) pa_nil))))) pss_nil))))))
   (pss_one (ps_ret (pe_tup (pa_cons (pv 2) (pa_cons (pv 3) pa_nil))))))))), ?_⟩
  refine ⟨_, rfl, a, ns, 0, rfl, hS, by decide, ?_⟩
  generalize cellD ns 0 = first
  have h61 := Int.emod_nonneg first (by decide : (6 : Int) ≠ 0)
  have h62 := Int.emod_lt_of_pos first (by decide : (0 : Int) < 6)
  obtain ⟨n, en⟩ : ∃ n : Nat, (1 + first % 6 : Int) = (n : Int) := ⟨(1 + first % 6).toNat, by omega⟩
  have hn1 : 1 ≤ n := by omega
  have hn6 : n ≤ 6 := by omega
  refine ⟨_, rfl, _, _, rfl, rfl, (by show (0 : Int) < 6; decide), _, _, rfl, rfl, _, rfl, by omega, by omega, ?_⟩
  rw [en, Int.toNat_natCast]
  refine comp_range (n := n) (fun i acc σ' H' => i ≤ n ∧ H' = H ∧ acc = (lpl (cellD ns 1) i).map V.str ∧ ∃ o, σ' = [o, some (.ref a)])
   ⟨Nat.zero_le _, rfl, rfl, none, rfl⟩ (fun i acc σ' H' h => ?_) (Nat.le_trans hn6 (by decide)) (fun i acc σ' H' hi h => ?_) (fun acc σ' H' h pa hpa => ?_)
  ·obtain ⟨_, _, rfl, _⟩ := h
   unfold lpl
   simp
  ·obtain ⟨h0, rfl, rfl, o, rfl⟩ := h
   refine ⟨_, rfl, a, ns, 1, rfl, hS, by decide, _, rfl, _, _, rfl, by omega, by omega, rfl, ?_, _, rfl⟩
   unfold lpl
   rw [List.range_succ, List.map_append, List.map_append, Int.zero_add]
   rfl
  ·obtain ⟨h0, rfl, rfl, o, rfl⟩ := h
   have epa : (upd H' pa (.lst ((lpl (cellD ns 1) n).map V.str))) pa = some (.lst ((lpl (cellD ns 1) n).map V.str)) := upd_same
   have s1 : Same H' (upd H' pa (.lst ((lpl (cellD ns 1) n).map V.str))) := Same.new hpa
   generalize upd H' pa (.lst ((lpl (cellD ns 1) n).map V.str)) = H1 at epa s1
   have hlp : ((lpl (cellD ns 1) n).map V.str).length = n := by unfold lpl; simp
   refine ⟨by decide, fun ta hta => ?_⟩
   have s2 : Same H1 (upd H1 ta (.lst [])) := Same.new hta
   have eta : (upd H1 ta (.lst [])) ta = some (.lst []) := upd_same
   generalize upd H1 ta (.lst []) = H2 at s2 eta
   obtain ⟨m, hm, em⟩ := emod_nat (first / 6) (n := 11) (by decide)
   refine ⟨_, rfl, _, rfl, _, rfl, _, _, rfl, rfl, ⟨by decide, by decide⟩, _, _, rfl, rfl, (by show (0 : Int) < 11; decide), _, _, rfl, rfl, _, rfl, a, _, rfl, (s1.trans s2).seq hS, fun sc hsc => ⟨sc, rfl, ⟨_, SqL.of upd_same⟩, ?_⟩⟩
   have e4 : (4 + first / 6 % 11 : Int) = ((4 + m : Nat) : Int) := by
    have em' : first / 6 % 11 = (m : Int) := em
    omega
   have clen : (cutV (ns.map V.int) (some 4) (some (4 + first / 6 % 11))).length ≤ 10 := by
    rw [e4]
    exact Nat.le_trans (cut_len (ns.map V.int) (a := 4) (b := 4 + m) (by omega)) (by omega)
   have cint := cut_ints (ns := ns) (a := some 4) (b := some (4 + first / 6 % 11))
   have s3 := s2.upd (o := .lst (cutV (ns.map V.int) (some 4) (some (4 + first / 6 % 11)))) hsc
   have esc : (upd H2 sc (.lst (cutV (ns.map V.int) (some 4) (some (4 + first / 6 % 11))))) sc = some (.lst (cutV (ns.map V.int) (some 4) (some (4 + first / 6 % 11)))) := upd_same
   have eta3 : (upd H2 sc (.lst (cutV (ns.map V.int) (some 4) (some (4 + first / 6 % 11))))) ta = some (.lst []) := (Same.new hsc) _ _ eta
   have nst : sc ≠ ta := (ne_of_none eta hsc).symm
   generalize cutV (ns.map V.int) (some 4) (some (4 + first / 6 % 11)) = cells at clen cint s3 esc eta3
   generalize upd H2 sc (.lst cells) = H3 at s3 esc eta3
   refine for_enum (K := K) (a := sc) (xs := cells) (fun i σ' H'' => ∃ (ti : List Row) (L : List (Row × Addr)) (o1 o2 o3 o4 o5 : Option V), σ' = [some (.ref a), some (.int first), some (.ref pa), some (.ref ta), o1, o2, o3, o4, o5] ∧ Same H1 H'' ∧
     H'' ta = some (.lst (L.map fun q => V.ref q.2)) ∧ Rows H'' L ti ∧ H'' sc = some (.lst cells) ∧ TiesI (cellD ns 1) (cellD ns 2) n i ti)
    ⟨[], [], none, none, none, none, none, rfl, s3, eta3, ⟨rfl, fun _ h => (nomatch h)⟩, esc, ⟨Nat.le_refl _, List.nodup_nil, fun _ h => (nomatch h), fun _ h => (nomatch h)⟩⟩ (fun i σ' H'' _ h => ?_) (fun i x σ' H'' t hx h ht => ?_) (fun σ' H'' h => ?_)
   ·obtain ⟨_, _, _, _, _, _, _, _, _, _, _, e, _⟩ := h
    exact SqL.of e
   ·obtain ⟨ti, L, o1, o2, o3, o4, o5, rfl, s4, eta4, R4, esc4, TI⟩ := h
    obtain ⟨cell, rfl⟩ := cint x (List.mem_of_getElem? hx)
    have hi : i < cells.length := (List.getElem?_eq_some_iff.mp hx).1
    have s5 := s4.upd (o := .tup [.int i, .int cell]) ht
    have n5 := Same.new (o := .tup [.int i, .int cell]) ht
    have et : (upd H'' t (.tup [.int i, .int cell])) t = some (.tup [.int i, .int cell]) := upd_same
    have eta5 := n5 _ _ eta4
    have esc5 := n5 _ _ esc4
    have R5 := R4.same n5
    generalize upd H'' t (.tup [.int i, .int cell]) = H5 at s5 et eta5 esc5 R5
    have epa5 := s5 _ _ epa
    refine ⟨t, _, rfl, SqT.of et, rfl, _, _, rfl, _, _, rfl, rfl, ?_⟩
    refine ⟨_, rfl, _, rfl, pa, _, rfl, .inl (SqL.of epa5), _, _, rfl, rfl, (by rw [hlp]; omega), ?_⟩
    obtain ⟨aa, haa, ea⟩ := emod_nat cell hn1
    dsimp only
    rw [hlp, ea]
    have hmax : (0 : Int) < (if ((n : Int) - 1) > 1 then ((n : Int) - 1) else 1) := by split <;> omega
    refine ⟨_, rfl, _, _, rfl, rfl, _, rfl, _, _, rfl, rfl, ⟨by decide, by decide⟩, _, rfl, pa, _, rfl, .inl (SqL.of epa5), _, _, rfl, rfl, _, _, rfl, _, _, rfl, rfl, (by rw [hlp]; exact hmax), _, _, rfl, rfl, _, rfl, pa, _, rfl, .inl (SqL.of epa5), _, _, rfl, rfl, (by rw [hlp]; omega), ?_⟩
    rw [hlp]
    obtain ⟨b0, hb0, eb0⟩ := emod_nat ((aa : Int) + 1 + cell / 6 % (if ((n : Int) - 1) > 1 then ((n : Int) - 1) else 1)) hn1
    dsimp only
    rw [eb0]
    refine ⟨fun σ2 H2 => H2 = H5 ∧ ∃ b : Nat, b < n ∧ σ2 = [some (.ref a), some (.int first), some (.ref pa), some (.ref ta), some (.int i), some (.int cell), some (.int aa), some (.int b), o5], ?_, ?_⟩
    ·refine ⟨_, rfl, _, _, rfl, rfl, ⟨by decide, by decide⟩, _, _, rfl, rfl, (by show (0 : Int) < 4; decide), rfl, _, rfl, ite2 (fun _ => ?_) (fun _ => ⟨rfl, b0, hb0, rfl⟩)⟩
     refine ⟨_, rfl, _, _, rfl, rfl, _, rfl, pa, _, rfl, .inl (SqL.of epa5), _, _, rfl, rfl, (by rw [hlp]; omega), rfl, ?_⟩
     obtain ⟨b1, hb1, eb1⟩ := emod_nat ((aa : Int) + 1) hn1
     refine ⟨b1, hb1, ?_⟩
     rw [hlp, ← eb1]
     rfl
    ·rintro σ2 H2' ⟨rfl, b, hb, rfl⟩
     refine ⟨_, rfl, _, rfl, rfl, _, rfl, ite2 (fun hne => ?_) (fun _ => ⟨ti, L, _, _, _, _, _, rfl, s5, eta5, R5, esc5, TI.keep⟩)⟩
     have hab : aa ≠ b := fun z => by
      rw [z] at hne
      simp at hne
     refine ⟨_, rfl, a, ns, 2, rfl, (s1.trans s5).seq hS, by decide, _, rfl, _, _, rfl, by omega, ?_⟩
     refine ⟨_, rfl, .inl ⟨rfl, _, SqL.of eta5⟩, _, rfl, _, rfl, _, rfl, pa, _, _, _, rfl, rfl, SqL.of epa5, lpl_at _ haa, _, rfl, _, rfl, pa, _, _, _, rfl, rfl, SqL.of epa5, lpl_at _ hb, _, rfl, _, _, rfl, rfl, ⟨by decide, by decide⟩, _, _, rfl, rfl, (by show (0 : Int) < 4; decide), _, _, rfl, rfl,
      _, rfl, _, _, rfl, rfl, ⟨by decide, by decide⟩, _, _, rfl, rfl, (by show (0 : Int) < 9; decide), _, _, rfl, rfl, (by show 5 ≤ sizeLine; decide), fun t2 ht2 => ?_⟩
     have n6 := Same.new (o := .tup [.str (lnm (cellD ns 2) i), .str (lnm (cellD ns 1) aa), .str (lnm (cellD ns 1) b), .int (1 + cell / 36 % 4), .int (cell / 144 % 9 - 4)]) ht2
     have nt2 : t2 ≠ ta := (ne_of_none eta5 ht2).symm
     refine ⟨ta, _, _, rfl, rfl, n6 _ _ eta5, ?_, ?_⟩
     ·refine small1000 ?_
      have := congrArg List.length R5.1
      rw [List.length_map] at this
      rw [List.length_map, this]
      have := TI.len
      omega
     ·have h4 := Int.emod_nonneg (cell / 36) (by decide : (4 : Int) ≠ 0)
      have h91 := Int.emod_nonneg (cell / 144) (by decide : (9 : Int) ≠ 0)
      have h92 := Int.emod_lt_of_pos (cell / 144) (by decide : (0 : Int) < 9)
      refine ⟨ti ++ [⟨lnm (cellD ns 2) i, lnm (cellD ns 1) aa, lnm (cellD ns 1) b, 1 + cell / 36 % 4, cell / 144 % 9 - 4⟩], L ++ [(⟨lnm (cellD ns 2) i, lnm (cellD ns 1) aa, lnm (cellD ns 1) b, 1 + cell / 36 % 4, cell / 144 % 9 - 4⟩, t2)], _, _, _, _, _, rfl, fun bb ob z => ?_, ?_, ⟨?_, fun z hz => ?_⟩, ?_, TI.add (by omega) (by omega) haa hb hab (by omega) ⟨by omega, by omega⟩⟩
      ·rw [upd_ne (ne_of_none z hta)]
       exact n6 _ _ (s5 _ _ z)
      ·rw [upd_same, List.map_append]
       rfl
      ·rw [List.map_append, R5.1]
       rfl
      ·rcases List.mem_append.mp hz with hz | hz
       ·rw [upd_ne (ne_of (R5.2 z hz) eta5 (fun q => by cases q))]
        exact n6 _ _ (R5.2 z hz)
       ·cases List.mem_singleton.mp hz
        rw [upd_ne nt2]
        exact upd_same
      ·rw [upd_ne nst]
       exact n6 _ _ esc5
   ·obtain ⟨ti, L, o1, o2, o3, o4, o5, rfl, s4, eta4, R4, esc4, TI⟩ := h
    refine ⟨_, rfl, _, rfl, (by show 2 ≤ sizeLine; decide), fun t ht => ?_⟩
    have n9 := Same.new (o := .tup [.ref pa, .ref ta]) ht
    refine q t pa ta ⟨lpl (cellD ns 1) n, ti⟩ _ ((s1.trans s4).trans n9) upd_same ⟨n9 _ _ (s4 _ _ epa), L, R4.same n9, n9 _ _ eta4⟩ ?_
    have hll : (lpl (cellD ns 1) n).length = n := by unfold lpl; simp
    refine ⟨lpl_nodup _ (by omega), by rw [hll]; exact hn6, by rw [hll]; exact hn1, fun x hx => ?_, TI.nd, Nat.le_trans TI.len clen, fun r hr => ?_, fun r hr => ⟨(TI.ab r hr).2.2.1, (TI.ab r hr).2.2.2.1⟩, fun r hr => (TI.ab r hr).2.2.2.2⟩
    ·obtain ⟨j, _, rfl⟩ := List.mem_map.mp hx
     exact lnm_name _ _
    ·obtain ⟨j, _, e⟩ := TI.nm r hr
     exact ⟨by rw [e]; exact lnm_name _ _, (TI.ab r hr).1, (TI.ab r hr).2.1⟩
end
end Net
namespace Net
open PySem L2
def spLNet (C : Addr) : Sp := fun vs H Q _ => ∃ (pa ta : Addr) (S : NS), vs = [.ref pa, .ref ta] ∧ PartsAt H pa ta S ∧ GoodS S ∧ ∀ (x ds dl : Addr) (H' : Hp), Same H H' → NetAt C H' x ds dl S → Q (.ref x) H'
theorem take_new {xs : List Str} {i : Nat} {y : Str} (nd : xs.Nodup) (e : xs[i]? = some y) : y ∉ xs.take i := fun h => by
 obtain ⟨j, hj⟩ := List.getElem?_of_mem h
 rw [List.getElem?_take] at hj
 by_cases hji : j < i
 ·rw [if_pos hji] at hj
  have := nodup_ix nd hj e
  omega
 ·rw [if_neg hji] at hj
  cases hj
theorem ends_in {pl : List Str} {a b : Str} (ha : a ∈ pl) (hb : b ∈ pl) : withEnds pl a b = pl := by
 rw [withEnds_eq, if_pos ha, if_pos hb]
 exact List.append_nil _
section
variable {P : Program} {w : World} {K : PySem.W.Frag} {mg : Str → Option Value} {base : Heap} {C : Addr}
abbrev Nlnet : List Str := ["_law_places", "_law_ties", "_law_net_here", "_law_name_here", "_law_a", "_law_b", "_law_width", "_law_cost"]
theorem sc_lnet : FnScope Nlnet ["_law_places", "_law_ties"] (defScope s_l_net) := ⟨rfl, rfl, rfl, by decide +kernel, rfl, by decide +kernel, by decide +kernel⟩
theorem ok_lnet {f : Addr} {fd : FuncData} (F : Fun K "_law_net" "_law_net" s_l_net f fd) (T : Txt K mg C) (ci : CanI P w K mg base 1 C ["self"] (spInit C)) (m1 : CanM P w K mg base 4 C "place" ["self", "name"] (spPlace C)) (m2 : CanM P w K mg base 4 C "tie" ["self", "name", "a", "b", "width", "cost"] (spTie C)) :
  FnOk P w K mg base CX0 5 f fd ["_law_places", "_law_ties"] (spLNet C) := by
 refine F.ok sc_lnet (fun vs H Q E h => ?_) (fun cdv A outer s H vs Q E hr h => ?_)
 ·obtain ⟨pa, ta, S, rfl, _⟩ := h
  rfl
 ·obtain ⟨pa, ta, S, rfl, PA, g, q⟩ := h
  have r2 : Room 2 _ := hr.mono (by decide)
  refine ⟨_, (pss_cons (ps_set (i := 2) sc_lnet.nd rfl (Or.inl rfl) (pe_makeC0 ci r2 (by rfl) T.mgC))
   (pss_cons (ps_for PassesOwn.never rfl (pi_list (pv 0)) (pg_name (i := 3) sc_lnet.nd rfl (Or.inl rfl)) (pss_one (ps_expr (pe_methC (pv 2) T.cl m1 hr (pa_cons (pv 3) pa_nil)))))
   (pss_cons (ps_for PassesOwn.never rfl (pi_list (pv 1)) (pg_tup rfl (pgs_cons (pg_name (i := 3) sc_lnet.nd rfl (Or.inl rfl)) (pgs_cons (pg_name (i := 4) sc_lnet.nd rfl (Or.inl rfl)) (pgs_cons (pg_name (i := 5) sc_lnet.nd rfl (Or.inl rfl)) (pgs_cons (pg_name (i := 6) sc_lnet.nd rfl (Or.inl rfl)) (pgs_cons (pg_name (i := 7) sc_lnet.nd rfl (Or.inl rfl)) pgs_nil))))))
    (pss_one (ps_expr (pe_methC (pv 2) T.cl m2 hr (pa_cons (pv 3) (pa_cons (pv 4) (pa_cons (pv 5) (pa_cons (pv 6) (pa_cons (pv 7) pa_nil)))))))))
   (pss_one (ps_ret (pv 2)))))), ?_⟩
  intro x dx nx ndx nex
  refine ⟨x, dx, rfl, upd_same, fun ds dl H1 fds fdl N1 kp1 => ⟨rfl, ?_⟩⟩
  have s0 : Same H (upd (upd H dx (.own x)) x (.ins C dx [])) := fun b ob e => by
   rw [upd_ne (ne_of_none e nx), upd_ne (ne_of_none e ndx)]
   exact e
  have s1 : Same H H1 := fun b ob e => kp1 b ob (s0 b ob e) (ne_of_none e nx)
  have hds : H ds = none := s0.free fds
  have hdl : H dl = none := s0.free fdl
  obtain ⟨L, RL, eta⟩ := PA.ti
  refine ⟨_, rfl, pa, rfl, ⟨_, SqL.of (s1 _ _ PA.pl)⟩, for_list (K := K) (a := pa) (xs := S.pl.map V.str) (fun i σ' H' => (∃ o, σ' = [some (.ref pa), some (.ref ta), some (.ref x), o, none, none, none, none]) ∧ Same H H' ∧ NetAt C H' x ds dl ⟨S.pl.take i, []⟩)
   ⟨⟨none, rfl⟩, s1, N1⟩ (fun i σ' H' _ h => SqL.of (h.2.1 _ _ PA.pl)) (fun i v σ' H' hv h => ?_) (fun σ' H' h => ?_)⟩
  ·obtain ⟨⟨o, rfl⟩, s3, N3⟩ := h
   rw [List.getElem?_map] at hv
   cases ey : S.pl[i]? with
   | none => rw [ey] at hv; cases hv
   | some y =>
    rw [ey] at hv
    cases hv
    obtain ⟨dx3, h13⟩ := N3.ob
    refine ⟨_, rfl, x, dx3, _, rfl, h13, flds_no ds dl (by decide +kernel) (by decide +kernel), _, rfl, x, ds, dl, _, y, rfl, N3, g.okP y (List.mem_of_getElem? ey), take_new g.ndP ey, ?_, fun H4 N4 b4 => ⟨⟨_, rfl⟩, fun b ob e => b4 b ob (s3 b ob e) (ne_of_none e hds) (ne_of_none e hdl), ?_⟩⟩
    ·show (S.pl.take i).length < 20
     have := g.lenP
     rw [List.length_take]
     omega
    ·have e : S.pl.take (i + 1) = S.pl.take i ++ [y] := by rw [List.take_add_one, ey]; rfl
     rw [e]
     exact N4
  ·obtain ⟨⟨o, rfl⟩, s3, N3⟩ := h
   rw [List.length_map, List.take_length] at N3
   refine ⟨_, rfl, ta, rfl, ⟨_, SqL.of (s3 _ _ eta)⟩, for_list (K := K) (a := ta) (xs := L.map fun q => V.ref q.2) (fun i σ' H' => (∃ o1 o2 o3 o4 o5, σ' = [some (.ref pa), some (.ref ta), some (.ref x), o1, o2, o3, o4, o5]) ∧ Same H H' ∧ NetAt C H' x ds dl ⟨S.pl, S.ti.take i⟩)
    ⟨⟨_, _, _, _, _, rfl⟩, s3, N3⟩ (fun i σ' H' _ h => SqL.of (h.2.1 _ _ eta)) (fun i v σ' H' hv h => ?_) (fun σ' H' h => ?_)⟩
   ·obtain ⟨⟨o1, o2, o3, o4, o5, rfl⟩, s4, N4⟩ := h
    rw [List.getElem?_map] at hv
    cases eq : L[i]? with
    | none => rw [eq] at hv; cases hv
    | some qq =>
     rw [eq] at hv
     cases hv
     have er : S.ti[i]? = some qq.1 := by rw [← RL.1, List.getElem?_map, eq]; rfl
     have hm := List.mem_of_getElem? er
     have ht := s4 _ _ (RL.2 qq (List.mem_of_getElem? eq))
     obtain ⟨dx4, h14⟩ := N4.ob
     refine ⟨qq.2, _, rfl, SqT.of ht, rfl, _, _, rfl, _, _, rfl, _, _, rfl, _, _, rfl, _, _, rfl, rfl, ?_⟩
     obtain ⟨k1, k2, k3⟩ := g.okT _ hm
     obtain ⟨k4, k5⟩ := g.neT _ hm
     have we : withEnds S.pl qq.1.a qq.1.b = S.pl := ends_in k2 k3
     refine ⟨_, rfl, x, dx4, _, rfl, h14, flds_no ds dl (by decide +kernel) (by decide +kernel), _, rfl, _, rfl, _, rfl, _, rfl, _, rfl, x, ds, dl, _, qq.1, rfl, N4, k1, g.okP _ k2, g.okP _ k3, ?_, k4, k5, ?_, ?_, fun H5 N5 b5 => ⟨⟨_, _, _, _, _, rfl⟩, fun b ob e => b5 b ob (s4 b ob e) (ne_of_none e hds) (ne_of_none e hdl), ?_⟩⟩
     ·show qq.1.nm ∉ (S.ti.take i).map (·.nm)
      rw [List.map_take]
      exact take_new g.ndT (by show (S.ti.map (·.nm))[i]? = _; rw [List.getElem?_map, er]; rfl)
     ·show (S.ti.take i).length < 40
      have := g.lenT
      rw [List.length_take]
      omega
     ·show (withEnds S.pl qq.1.a qq.1.b).length ≤ 20
      have := g.lenP
      rw [we]
      omega
     ·have e : S.ti.take (i + 1) = S.ti.take i ++ [qq.1] := by rw [List.take_add_one, er]; rfl
      have N5' : NetAt C H5 x ds dl ⟨withEnds S.pl qq.1.a qq.1.b, S.ti.take i ++ [qq.1]⟩ := N5
      rw [we] at N5'
      rw [e]
      exact N5'
   ·obtain ⟨⟨o1, o2, o3, o4, o5, rfl⟩, s4, N4⟩ := h
    have el : L.length = S.ti.length := by rw [← RL.1, List.length_map]
    rw [List.length_map, el, List.take_length] at N4
    exact ⟨_, rfl, q x ds dl H' s4 N4⟩
end
end Net
namespace Net
open PySem L2
theorem pick_pl {pl : List Str} (h : 1 ≤ pl.length) (z : Int) : ∃ y ∈ pl, atI (pl.map V.str) (z % ((pl.map V.str).length : Int)) = some (V.str y) := by
 obtain ⟨j, hj, e⟩ := emod_nat z h
 have e' := List.getElem?_eq_getElem hj
 rw [List.length_map, e]
 exact ⟨_, List.mem_of_getElem? e', atI_nat (by rw [List.getElem?_map, e']; rfl)⟩
section
variable {P : Program} {w : World} {K : PySem.W.Frag} {mg : Str → Option Value} {base : Heap} {C : Addr}
end
end Net
namespace Net
open PySem L2
theorem pickV {xs : List V} (h : 1 ≤ xs.length) (z : Int) : ∃ v ∈ xs, atI xs (z % (xs.length : Int)) = some v := by
 obtain ⟨j, hj, e⟩ := emod_nat z h
 have e' := List.getElem?_eq_getElem hj
 rw [e]
 exact ⟨_, List.mem_of_getElem? e', atI_nat e'⟩
section
variable {P : Program} {w : World} {K : PySem.W.Frag} {mg : Str → Option Value} {base : Heap} {C : Addr}
end
end Net
namespace Net
open PySem L2
section
variable {P : Program} {w : World} {K : PySem.W.Frag} {mg : Str → Option Value} {base : Heap} {C : Addr}
end
end Net
namespace Net
open PySem L2
end Net
namespace Net
open PySem L2
def isI : PyData → Bool
 | .int _ => true
 | _ => false
def isB : PyData → Bool
 | .bool _ => true
 | _ => false
theorem PD.tyI {K : PySem.W.Frag} {H : Hp} {n : Nat} {v : V} {d : PyData} (h : PD H n v d) : ∃ t, TyOf K H v t ∧ PySem.W.kitOne K t (.type "int") = some (isI d || isB d) ∧ PySem.W.kitOne K t (.type "bool") = some (isB d) := by
 cases n with
 | zero =>
  cases v <;> try exact h.elim
  ·cases (show d = _ from h); exact ⟨_, .non, by first | rfl | kernel_rfl, by first | rfl | kernel_rfl⟩
  ·cases (show d = _ from h); exact ⟨_, .bl _, by first | rfl | kernel_rfl, by first | rfl | kernel_rfl⟩
  ·cases (show d = _ from h); exact ⟨_, .int _, by first | rfl | kernel_rfl, by first | rfl | kernel_rfl⟩
  ·cases h.2; exact ⟨_, .str _, by first | rfl | kernel_rfl, by first | rfl | kernel_rfl⟩
 | succ n =>
  cases v <;> try exact h.elim
  ·cases (show d = _ from h); exact ⟨_, .non, by first | rfl | kernel_rfl, by first | rfl | kernel_rfl⟩
  ·cases (show d = _ from h); exact ⟨_, .bl _, by first | rfl | kernel_rfl, by first | rfl | kernel_rfl⟩
  ·cases (show d = _ from h); exact ⟨_, .int _, by first | rfl | kernel_rfl, by first | rfl | kernel_rfl⟩
  ·cases h.2; exact ⟨_, .str _, by first | rfl | kernel_rfl, by first | rfl | kernel_rfl⟩
  ·rcases h with ⟨xs, ds, e, rfl, p⟩ | ⟨xs, ds, e, rfl, p⟩
   ·exact ⟨_, .lst e, by first | rfl | kernel_rfl, by first | rfl | kernel_rfl⟩
   ·exact ⟨_, .tup e, by first | rfl | kernel_rfl, by first | rfl | kernel_rfl⟩
theorem PD.int_of {H : Hp} {n : Nat} {v : V} {i : Int} (h : PD H n v (.int i)) : v = .int i := by
 cases n with
 | zero => cases v <;> first | exact h.elim | (have := (show PyData.int i = _ from h); cases this; done) | (have := (show PyData.int i = _ from h); cases this; rfl) | (cases h.2; done)
 | succ n =>
  cases v <;> first | exact h.elim | (have := (show PyData.int i = _ from h); cases this; done) | (have := (show PyData.int i = _ from h); cases this; rfl) | (cases h.2; done) | skip
  rcases h with ⟨xs, ds, e1, e2, p⟩ | ⟨xs, ds, e1, e2, p⟩ <;> cases e2
def isPair : PyData → Bool
 | .list ds => decide (ds.length = 2)
 | _ => false
theorem isPair_of {d : PyData} (h : isPair d = true) : ∃ d0 d1, d = .list [d0, d1] := by
 cases d <;> first | (cases h; done) | skip
 rename_i ds
 have h' : ds.length = 2 := of_decide_eq_true h
 match ds, h' with
 | [d0, d1], _ => exact ⟨d0, d1, rfl⟩
theorem walk_names {ti : List Row} : ∀ {ds : List PyData} {a : Str} {l : List Str}, stD ti a ds = some l → ∃ ws : List Str, ds = ws.map PyData.str ∧ ∀ x ∈ ws, x ∈ ti.map (·.nm)
 | [], _, _, _ => ⟨[], rfl, fun _ h => nomatch h⟩
 | d :: ds, a, l, h => by
  unfold stD at h
  cases e : stepD ti a d with
  | none => rw [e] at h; cases h
  | some y =>
   rw [e, Option.bind_some] at h
   cases e2 : stD ti y ds with
   | none => rw [e2] at h; cases h
   | some l' =>
    obtain ⟨ws, rfl, hw⟩ := walk_names e2
    have : ∃ x, d = .str x ∧ x ∈ ti.map (·.nm) := by
     cases d <;> try (cases e; done)
     rename_i x
     refine ⟨x, rfl, ?_⟩
     have e' : (rowOf ti x).bind (fun r => if r.a = a then some r.b else none) = some y := e
     cases e3 : rowOf ti x with
     | none => rw [e3] at e'; cases e'
     | some r => exact List.mem_map.mpr ⟨r, List.mem_of_find?_eq_some e3, by simpa using List.find?_some e3⟩
    obtain ⟨x, rfl, hx⟩ := this
    exact ⟨x :: ws, rfl, fun z hz => by
     rcases List.mem_cons.mp hz with rfl | hz
     ·exact hx
     ·exact hw z hz⟩
def spPairD : Sp := fun vs H Q _ => ∃ (v : V) (n : Nat) (d : PyData), vs = [v] ∧ PD H n v d ∧ Q (.bl (isPair d)) H
def spWholeD : Sp := fun vs H Q _ => ∃ (v : V) (n : Nat) (d : PyData), vs = [v] ∧ PD H n v d ∧ Q (.bl (isI d)) H
section
variable {P : Program} {w : World} {K : PySem.W.Frag} {mg : Str → Option Value} {base : Heap} {C : Addr}
def isRow (k : Nat) : PyData → Bool
 | .list ds => decide (ds.length = k)
 | _ => false
theorem isPair_row (d : PyData) : isPair d = isRow 2 d := by cases d <;> rfl
def spIsRow : Sp := fun vs H Q _ => ∃ (v : V) (n : Nat) (d : PyData) (k : Nat), vs = [v, .int k] ∧ PD H n v d ∧ Q (.bl (isRow k d)) H
theorem sc_isRow : FnScope ["paper", "many"] ["paper", "many"] (defScope s_is_row) := ⟨rfl, rfl, rfl, by decide +kernel, rfl, by decide +kernel, by decide +kernel⟩
theorem ok_isRow {f : Addr} {fd : FuncData} (F : Fun K "is_row" "is_row" s_is_row f fd) (T : Txt K mg C) : FnOk P w K mg base CX0 1 f fd ["paper", "many"] spIsRow := by
 refine F.ok sc_isRow (fun vs H Q E h => ?_) (fun cdv A outer s H vs Q E hr h => ?_)
 ·obtain ⟨v, n, d, k, rfl, _⟩ := h
  rfl
 ·obtain ⟨v, n, d, k, rfl, pd, q⟩ := h
  refine ⟨_, (pss_one (ps_ret (pe_and (pe_callB call_isinst (by rfl) T.isi b_isi (pa_cons (pv 0) (pa_cons (pe_ty T.list (by rfl) b_list) pa_nil))) (pe_one (pe_cmpR op_eq (pe_callB call_len_seq (by rfl) T.len b_len (pa_cons (pv 0) pa_nil)) (pv 1) (nomark _)))))), ?_⟩
  obtain ⟨t, ty, kl, _⟩ := PD.ty (K := K) pd
  refine ⟨_, rfl, v, "list", t, isL d, rfl, ty, kl, _, rfl, ?_⟩
  cases el : isL d with
  | false =>
   refine iteF ?_
   have e : isRow k d = false := by cases d <;> first | (cases el; done) | rfl
   rw [e] at q
   exact q
  | true =>
   obtain ⟨ds, rfl⟩ : ∃ e, d = .list e := by cases d <;> first | exact ⟨_, rfl⟩ | cases el
   obtain ⟨m, l, xs, rfl, rfl, hl, pr⟩ := pd.list_of
   refine iteT ⟨_, rfl, l, xs, rfl, .inl (SqL.of hl), _, rfl, rfl, ?_⟩
   have e : decide (V.int (xs.length : Nat) = V.int k) = isRow k (.list ds) := by
    show _ = decide (ds.length = k)
    rw [← Paired.length pr, Bool.eq_iff_iff, decide_eq_true_eq, decide_eq_true_eq]
    constructor
    ·intro z
     have z' : ((xs.length : Nat) : Int) = k := by injection z
     omega
    ·intro z
     rw [z]
   rw [e]
   exact q
theorem sc_pair : FnScope ["paper"] ["paper"] (defScope s_is_pair) := ⟨rfl, rfl, rfl, by decide +kernel, rfl, by decide +kernel, by decide +kernel⟩
theorem ok_pairD {f : Addr} {fd : FuncData} (F : Fun K "is_pair" "is_pair" s_is_pair f fd) (cr : Can P w K mg base 1 "is_row" ["paper", "many"] spIsRow) : FnOk P w K mg base CX0 2 f fd ["paper"] spPairD := by
 refine F.ok sc_pair (fun vs H Q E h => ?_) (fun cdv A outer s H vs Q E hr h => ?_)
 ·obtain ⟨v, n, d, rfl, _⟩ := h
  rfl
 ·obtain ⟨v, n, d, rfl, pd, q⟩ := h
  refine ⟨_, (pss_one (ps_ret (pe_callC cr hr (by rfl) (pa_cons (pv 0) (pa_cons pe_int pa_nil))))), ?_⟩
  rw [isPair_row] at q
  exact ⟨_, rfl, v, n, d, 2, rfl, pd, q⟩
theorem ok_wholeD {f : Addr} {fd : FuncData} (F : Fun K "is_whole" "is_whole" s_is_whole f fd) (T : Txt K mg C) : FnOk P w K mg base CX0 1 f fd ["thing"] spWholeD := by
 refine F.ok sc_whole (fun vs H Q E h => ?_) (fun cdv A outer s H vs Q E hr h => ?_)
 ·obtain ⟨v, n, d, rfl, _⟩ := h
  rfl
 ·obtain ⟨v, n, d, rfl, pd, q⟩ := h
  refine ⟨_, (pss_one (ps_ret (pe_and (pe_callB call_isinst (by rfl) T.isi b_isi (pa_cons (pv 0) (pa_cons (pe_ty T.int (by rfl) b_int) pa_nil))) (pe_one (pe_not (pe_callB call_isinst (by rfl) T.isi b_isi (pa_cons (pv 0) (pa_cons (pe_ty T.bool (by rfl) b_bool) pa_nil)))))))), ?_⟩
  obtain ⟨t, ty, ki, kb⟩ := PD.tyI (K := K) pd
  refine ⟨_, rfl, v, "int", t, _, rfl, ty, ki, _, rfl, ?_⟩
  cases ei : isI d with
  | true =>
   have eb : isB d = false := by cases d <;> first | (cases ei; done) | rfl
   refine iteT ⟨_, rfl, v, "bool", t, _, rfl, ty, kb, _, rfl, ?_⟩
   rw [eb]
   rw [ei] at q
   exact q
  | false =>
   rw [ei] at q
   cases eb : isB d with
   | true =>
    refine iteT ⟨_, rfl, v, "bool", t, _, rfl, ty, kb, _, rfl, ?_⟩
    rw [eb]
    exact q
   | false => exact iteF q
end
end Net
namespace Net
open PySem L2
section
variable {P : Program} {w : World} {K : PySem.W.Frag} {mg : Str → Option Value} {base : Heap} {C : Addr}
end
section
variable {P : Program} {w : World} {K : PySem.W.Frag} {mg : Str → Option Value} {base : Heap} {C : Addr}
end
end Net
namespace Net
open PySem L2
section
variable {P : Program} {w : World} {K : PySem.W.Frag} {mg : Str → Option Value} {base : Heap} {C : Addr}
end
end Net
namespace Net
open PySem L2
def loadOf (ti : List Row) : PyData → Option (Row × Int)
 | .list [.str x, .int t] => match rowOf ti x with
  | none => none
  | some r => if 1 ≤ t ∧ t ≤ r.w then some (r, t) else none
 | _ => none
def loadsOf (ti : List Row) : List PyData → Option (List (Row × Int))
 | [] => some []
 | d :: ds => match loadOf ti d with
  | none => none
  | some q => (loadsOf ti ds).map (q :: ·)
theorem load_says {ti : List Row} {d : PyData} {q : Row × Int} (h : loadOf ti d = some q) : d = .list [.str q.1.nm, .int q.2] ∧ q.1 ∈ ti ∧ rowOf ti q.1.nm = some q.1 ∧ 1 ≤ q.2 ∧ q.2 ≤ q.1.w := by
 unfold loadOf at h
 split at h
 ·split at h
  ·cases h
  ·rename_i r er
   split at h
   ·rename_i hb
    cases h
    have hn := List.find?_some (show List.find? (fun r : Row => decide (r.nm = _)) ti = some r from er)
    have hn := of_decide_eq_true hn
    subst hn
    exact ⟨rfl, List.mem_of_find?_eq_some er, er, hb.1, hb.2⟩
   ·cases h
 ·cases h
theorem loads_all {ti : List Row} : ∀ {ds : List PyData}, (ds.all fun d => (loadOf ti d).isSome) = (loadsOf ti ds).isSome
 | [] => rfl
 | d :: ds => by
  rw [List.all_cons, loads_all (ds := ds)]
  show _ = (match loadOf ti d with | none => none | some q => (loadsOf ti ds).map (q :: ·)).isSome
  cases loadOf ti d with
  | none => rfl
  | some q => cases loadsOf ti ds <;> rfl
theorem loads_len {ti : List Row} : ∀ {ds : List PyData} {ls : List (Row × Int)}, loadsOf ti ds = some ls → ls.length = ds.length
 | [], ls, h => by cases h; rfl
 | d :: ds, ls, h => by
  unfold loadsOf at h
  cases e : loadOf ti d with
  | none => rw [e] at h; cases h
  | some q =>
   rw [e] at h
   cases e2 : loadsOf ti ds with
   | none => rw [e2] at h; cases h
   | some l2 =>
    rw [e2] at h
    cases h
    rw [List.length_cons, List.length_cons, loads_len e2]
theorem loads_at {ti : List Row} : ∀ {ds : List PyData} {ls : List (Row × Int)}, loadsOf ti ds = some ls → ∀ (i : Nat) (d : PyData), ds[i]? = some d → ∃ q, ls[i]? = some q ∧ loadOf ti d = some q
 | [], ls, h, i, d, hd => by cases hd
 | e :: ds, ls, h, i, d, hd => by
  unfold loadsOf at h
  cases e1 : loadOf ti e with
  | none => rw [e1] at h; cases h
  | some q =>
   rw [e1] at h
   cases e2 : loadsOf ti ds with
   | none => rw [e2] at h; cases h
   | some l2 =>
    rw [e2] at h
    cases h
    cases i with
    | zero =>
     have : e = d := by simpa using hd
     subst this
     exact ⟨q, rfl, e1⟩
    | succ j =>
     obtain ⟨q2, h1, h2⟩ := loads_at e2 j d (by simpa using hd)
     exact ⟨q2, by simpa using h1, h2⟩
def goes1 (q : Row × Int) (x : Str) : Int := (if q.1.a = x then q.2 else 0) - (if q.1.b = x then q.2 else 0)
def goes (ls : List (Row × Int)) (x : Str) : Int := (ls.map fun q => goes1 q x).sum
theorem goes_snoc (ls : List (Row × Int)) (q : Row × Int) (x : Str) : goes (ls ++ [q]) x = goes ls x + goes1 q x := by
 unfold goes
 rw [List.map_append, List.sum_append]
 simp
def goesD (S : NS) : PyData → Option (List (Row × Int))
 | .list ds => match loadsOf S.ti ds with
  | none => none
  | some ls => if (ls.map (·.1.nm)).Nodup then some ls else none
 | _ => none
def flowD (S : NS) (a b : Str) (d : PyData) : Option Int := match goesD S d with
 | none => none
 | some ls => if (S.pl.all fun x => decide (x = a) || decide (x = b) || decide (goes ls x = 0)) = true then some (goes ls a) else none
def goKV (pl : List Str) (f : Str → Int) : List (Key × V) := pl.map fun x => ((Sum.inr x : Key), V.int (f x))
theorem go_val {f : Str → Int} {x : Str} : ∀ {pl : List Str}, x ∈ pl → valV (goKV pl f) (Sum.inr x : Key) = some (.int (f x))
 | y :: r, h => by
  by_cases e : y = x
  ·subst e
   exact valV_pos (p := ((Sum.inr y : Key), V.int (f y))) rfl
  ·have : x ∈ r := by
    rcases List.mem_cons.mp h with rfl | h
    ·exact absurd rfl e
    ·exact h
   exact (valV_neg (p := ((Sum.inr y : Key), V.int (f y))) (fun z => e (Sum.inr.inj z))).trans (go_val this)
theorem go_put {pl : List Str} {f : Str → Int} {x : Str} (h : x ∈ pl) (k : Int) : putK (goKV pl f) (Sum.inr x : Key) (V.int k) = goKV pl (fun y => if y = x then k else f y) := by
 unfold putK
 have : ((goKV pl f).any fun p => decide (p.1 = (Sum.inr x : Key))) = true := List.any_eq_true.mpr ⟨_, List.mem_map.mpr ⟨x, h, rfl⟩, decide_eq_true rfl⟩
 rw [if_pos this]
 unfold goKV
 rw [List.map_map]
 refine List.map_congr_left fun y _ => ?_
 show (if (Sum.inr y : Key) = Sum.inr x then ((Sum.inr y : Key), V.int k) else (Sum.inr y, V.int (f y))) = ((Sum.inr y : Key), V.int (if y = x then k else f y))
 by_cases e : y = x
 ·rw [if_pos (congrArg Sum.inr e), if_pos e]
 ·rw [if_neg (fun z => e (Sum.inr.inj z)), if_neg e]
theorem go_len {pl : List Str} {f : Str → Int} : (goKV pl f).length = pl.length := List.length_map ..
theorem go_merge {f : Str → Int} : ∀ {pl more : List Str}, (pl ++ more).Nodup → mergeK (goKV pl f) (goKV more f) = goKV (pl ++ more) f
 | pl, [], _ => by rw [List.append_nil]; rfl
 | pl, x :: r, h => by
  have hx : x ∉ pl := fun z => (List.nodup_append.mp h).2.2 x z x List.mem_cons_self rfl
  have e : putK (goKV pl f) (Sum.inr x : Key) (V.int (f x)) = goKV (pl ++ [x]) f := by
   unfold putK
   rw [if_neg]
   ·unfold goKV
    rw [List.map_append]
    rfl
   ·intro z
    obtain ⟨p, hp, e⟩ := List.any_eq_true.mp z
    obtain ⟨y, hy, rfl⟩ := List.mem_map.mp hp
    have := Sum.inr.inj (of_decide_eq_true e)
    exact hx (this ▸ hy)
  show mergeK (putK (goKV pl f) (Sum.inr x : Key) (V.int (f x))) (goKV r f) = _
  rw [e, go_merge (by rw [List.append_assoc]; exact h), List.append_assoc]
  rfl
def spLoad : Sp := fun vs H Q _ => ∃ (dd : Addr) (v : V) (n : Nat) (d : PyData) (L : List (Row × Addr)) (ti : List Row), vs = [.ref dd, v] ∧ H dd = some (.dK (ldKV L)) ∧ Rows H L ti ∧ PD H n v d ∧ Q (.bl (loadOf ti d).isSome) H
def spGoesOut (C : Addr) : Sp := fun vs H Q _ => ∃ (p ds dl : Addr) (S : NS) (v : V) (n : Nat) (d : PyData), vs = [.ref p, v] ∧ NetS C H p ds dl S ∧ PD H n v d ∧ n ≤ 50 ∧ (∀ e, d = .list e → e.length ≤ 1000) ∧
 (∀ H', Same H H' → goesD S d = none → Q .non H') ∧ ∀ (dg : Addr) (ls : List (Row × Int)) (H' : Hp), H dg = none → Same H H' → H' dg = some (.dK (goKV S.pl (goes ls))) → goesD S d = some ls → Q (.ref dg) H'
def TeAt (H : Hp) (t : Addr) (w a b : Str) : Prop := H t = some (.tup [.str w, .str a, .str b])
def oV : Option Int → V
 | none => .non
 | some i => .int i
def spFlowBelow (C : Addr) : Sp := fun vs H Q _ => ∃ (p ds dl tt : Addr) (S : NS) (w a b : Str) (v : V) (n : Nat) (d : PyData), vs = [.ref p, .ref tt, v] ∧ NetS C H p ds dl S ∧ TeAt H tt w a b ∧ a ∈ S.pl ∧ PD H n v d ∧ n ≤ 50 ∧ (∀ e, d = .list e → e.length ≤ 1000) ∧ ∀ H', Same H H' → Q (oV (flowD S a b d)) H'
section
variable {P : Program} {w : World} {K : PySem.W.Frag} {mg : Str → Option Value} {base : Heap} {C : Addr}
theorem sc_load : FnScope ["rows", "paper"] ["rows", "paper"] (defScope s_is_load) := ⟨rfl, rfl, rfl, by decide +kernel, rfl, by decide +kernel, by decide +kernel⟩
theorem ok_load {f : Addr} {fd : FuncData} (F : Fun K "is_load" "is_load" s_is_load f fd) (cp : Can P w K mg base 2 "is_pair" ["paper"] spPairD) (ct : Can P w K mg base 1 "is_tie" ["rows", "paper"] spIsTie) (cw : Can P w K mg base 1 "is_whole" ["thing"] spWholeD) : FnOk P w K mg base CX0 3 f fd ["rows", "paper"] spLoad := by
 refine F.ok sc_load (fun vs H Q E h => ?_) (fun cdv A outer s H vs Q E hr h => ?_)
 ·obtain ⟨dd, v, n, d, L, ti, rfl, _⟩ := h
  rfl
 ·obtain ⟨dd, v, n, d, L, ti, rfl, edd, RL, pd, q⟩ := h
  have hu := hu_of hr
  have r1 : Room 1 _ := hr.mono (by decide)
  refine ⟨_, (pss_cons (ps_if (PW.pt (pw_or (pt_not (pt_val (pe_callC cp hr (by rfl) (pa_cons (pv 1) pa_nil)))) (pw_or (pt_not (pt_val (pe_callC ct r1 (by rfl) (pa_cons (pv 0) (pa_cons (pe_ix ix_list (pv 1) pe_int (fun _ _ => by rfl)) pa_nil))))) (pw_or1 (pt_not (pt_val (pe_callC cw r1 (by rfl) (pa_cons (pe_ix ix_list (pv 1) pe_int (fun _ _ => by rfl)) pa_nil)))))))) (pss_one (ps_ret pe_bl)) pss_nil)
   (pss_one (ps_ret (pe_chain op_le op_le pe_int (pe_ix ix_list (pv 1) pe_int (fun _ _ => by rfl)) (pe_ix ix_tup (pe_dget hu (pv 0) (pe_ix ix_list (pv 1) pe_int (fun _ _ => by rfl)) (fun _ _ => rfl)) pe_int (fun _ _ => by rfl)))))), ?_⟩
  have no : loadOf ti d = none → Q (.bl false) H := fun z => by rw [z] at q; exact q
  refine ⟨_, rfl, v, n, d, rfl, pd, _, rfl, ?_⟩
  cases ep : isPair d with
  | false =>
   refine iteT (iteT (no ?_))
   unfold loadOf
   split
   ·cases ep
   ·rfl
  | true =>
   obtain ⟨d0, d1, rfl⟩ := isPair_of ep
   obtain ⟨m, l, xs, rfl, rfl, hl, pr⟩ := pd.list_of
   cases pr with
   | @cons x0 _ _ _ p0 pr =>
    cases pr with
    | @cons x1 _ _ _ p1 pr =>
     cases pr
     refine iteF ⟨_, rfl, _, rfl, l, _, _, x0, rfl, rfl, SqL.of hl, atI_nat (j := 0) rfl, dd, x0, m, d0, L, ti, rfl, edd, RL.1, p0, _, rfl, ?_⟩
     cases et : isTieD ti d0 with
     | false =>
      refine iteT (iteT (no ?_))
      unfold loadOf
      split
      ·rename_i x t heq
       cases heq
       have et' : (rowOf ti x).isSome = false := et
       cases er : rowOf ti x with
       | none => rfl
       | some r => rw [er] at et'; cases et'
      ·rfl
     | true =>
      obtain ⟨y, rfl⟩ : ∃ y, d0 = .str y := by cases d0 <;> first | exact ⟨_, rfl⟩ | cases et
      obtain ⟨y', e1, e2⟩ := p0.str_of rfl
      cases e1
      cases e2
      have et' : (rowOf ti y).isSome = true := et
      refine iteF ⟨_, rfl, l, _, _, x1, rfl, rfl, SqL.of hl, atI_nat (j := 1) rfl, x1, m, d1, rfl, p1, _, rfl, ?_⟩
      cases ei : isI d1 with
      | false =>
       refine iteT (no ?_)
       unfold loadOf
       split
       ·rename_i x t heq
        cases heq
        cases ei
       ·rfl
      | true =>
       obtain ⟨t, rfl⟩ : ∃ t, d1 = .int t := by cases d1 <;> first | exact ⟨_, rfl⟩ | cases ei
       have hx1 := p1.int_of
       subst hx1
       rcases row_find RL.1 y with ⟨z1, _⟩ | ⟨qq, hqq, hn, z1, z2⟩
       ·rw [z1] at et'; cases et'
       refine iteF ⟨_, rfl, l, _, _, .int t, rfl, rfl, SqL.of hl, atI_nat (j := 1) rfl, _, _, rfl, rfl, _, rfl, ?_⟩
       have eL : loadOf ti (.list [.str y, .int t]) = if 1 ≤ t ∧ t ≤ qq.1.w then some (qq.1, t) else none := by
        show (match rowOf ti y with | none => none | some r => if 1 ≤ t ∧ t ≤ r.w then some (r, t) else none) = _
        rw [z1]
       by_cases h1 : 1 ≤ t
       ·rw [decide_eq_true h1]
        refine iteT ⟨_, rfl, _, rfl, l, _, _, .str y, rfl, rfl, SqL.of hl, atI_nat (j := 0) rfl, dd, .ref qq.2, rfl, by rw [← z2]; exact DGet.k (k := Sum.inr y) edd, qq.2, _, _, .int qq.1.w, rfl, rfl, SqT.of (RL.2 qq hqq), rfl, _, _, rfl, rfl, ?_⟩
        have : (loadOf ti (.list [.str y, .int t])).isSome = decide (t ≤ qq.1.w) := by
         rw [eL]
         by_cases h2 : t ≤ qq.1.w
         ·rw [if_pos ⟨h1, h2⟩, decide_eq_true h2]; rfl
         ·rw [if_neg (fun z => h2 z.2), decide_eq_false h2]; rfl
        rw [this] at q
        exact q
       ·rw [decide_eq_false h1]
        refine iteF (no ?_)
        rw [eL, if_neg (fun z => h1 z.1)]
abbrev Ngoes : List Str := ["net", "paper", "rows", "left_over", "name", "number"]
theorem sc_goes : FnScope Ngoes ["net", "paper"] (defScope s_what_goes_out) := ⟨rfl, rfl, rfl, by decide +kernel, rfl, by decide +kernel, by decide +kernel⟩
theorem ok_goes {f : Addr} {fd : FuncData} (F : Fun K "what_goes_out" "what_goes_out" s_what_goes_out f fd) (T : Txt K mg C) (TW : TxtW mg) (cb : Can P w K mg base 2 "ties_by_name" ["net"] (spByName C)) (cl : Can P w K mg base 3 "is_load" ["rows", "paper"] spLoad) (cu : Can P w K mg base 1 "are_unlike" ["names"] spAlike) (m1 : CanM P w K mg base 1 C "places" ["self"] (spPlaces C)) : FnOk P w K mg base CX0 4 f fd ["net", "paper"] (spGoesOut C) := by
 refine F.ok sc_goes (fun vs H Q E h => ?_) (fun cdv A outer s H vs Q E hr h => ?_)
 ·obtain ⟨p, ds, dl, S, v, n, d, rfl, _⟩ := h
  rfl
 ·obtain ⟨p, ds, dl, S, v, n, d, rfl, N, pd, n50, blen, q1, q2⟩ := h
  have hu := hu_of hr
  have r1 : Room 1 _ := hr.mono (by decide)
  have r2 : Room 2 _ := hr.mono (by decide)
  have nd2 : List.Nodup (["load", "rows"] : List Str) := by decide +kernel
  have ndl : List.Nodup (["load"] : List Str) := by decide +kernel
  have ndp : List.Nodup (["place"] : List Str) := by decide +kernel
  refine ⟨_, (pss_cons (ps_set (i := 2) sc_goes.nd rfl (Or.inr rfl) (pe_callC cb r2 (by rfl) (pa_cons (pv 0) pa_nil)))
   (pss_cutE (ps_if (PW.pt (pw_or (pt_not (pt_val (pe_callB call_isinst (by rfl) T.isi b_isi (pa_cons (pv 1) (pa_cons (pe_ty T.list (by rfl) b_list) pa_nil))))) (pw_or1 (pt_not (pt_val (pe_callB (call_all rfl) (by rfl) T.all b_all (pa_cons (pe_comp (N := ["load", "rows"]) (xs := 1) (js := [2]) rfl (compScope_of rfl) (pi_list (pv 1)) (fun _ _ _ _ => pg_name (i := 0) nd2 rfl (Or.inl rfl)) (fun _ _ _ _ => pts_nil) (fun _ _ _ _ => pe_callC cl hr (by rfl) (pa_cons (pv 1) (pa_cons (pv 0) pa_nil)))) pa_nil))))))) (pss_one (ps_ret pe_non)) pss_nil)
   (pss_cutE (ps_if (pt_not (pt_val (pe_callC cu r1 (by rfl) (pa_cons (pe_comp (N := ["load"]) (xs := 1) (js := []) rfl (compScope_of rfl) (pi_list (pv 1)) (fun _ _ _ _ => pg_name (i := 0) ndl rfl (Or.inl rfl)) (fun _ _ _ _ => pts_nil) (fun _ _ _ _ => pe_ix (ix_listK K (by rfl)) (pv 0) pe_int (fun _ _ => by rfl))) pa_nil)))) (pss_one (ps_ret pe_non)) pss_nil)
   (pss_cutE (ps_set (i := 3) sc_goes.nd rfl (Or.inl rfl) (pe_callTy (call_dictP rfl) (by rfl) TW.dict b_dict (pa_cons (pe_comp (N := ["place"]) (xs := 1) (js := []) rfl (compScope_of rfl) (pi_list (pe_methC0 (pv 0) T.cl m1 r1)) (fun _ _ _ _ => pg_name (i := 0) ndp rfl (Or.inl rfl)) (fun _ _ _ _ => pts_nil) (fun _ _ _ _ => pe_tup (pa_cons (pv 0) (pa_cons pe_int pa_nil)))) pa_nil)))
   (pss_cons (ps_for PassesOwn.never rfl (pi_list (pv 1)) (pg_lst rfl (pgs_cons (pg_name (i := 4) sc_goes.nd rfl (Or.inl rfl)) (pgs_cons (pg_name (i := 5) sc_goes.nd rfl (Or.inl rfl)) pgs_nil)))
     (pss_cons (ps_daug hu (pv 3) (pe_ix ix_tup (pe_dget hu (pv 2) (pv 4) (fun _ _ => rfl)) pe_int (fun _ _ => by rfl)) (pv 5) in_add (fun _ _ _ => rfl))
   (pss_one (ps_daug hu (pv 3) (pe_ix ix_tup (pe_dget hu (pv 2) (pv 4) (fun _ _ => rfl)) pe_int (fun _ _ => by rfl)) (pv 5) in_sub (fun _ _ _ => rfl)))))
   (pss_one (ps_ret (pv 3)))))))), ?_⟩
  refine ⟨_, rfl, p, ds, dl, S, rfl, N.w, fun dd H1 L hdd s1 RL edd => ?_⟩
  have hL : L.length = S.ti.length := by rw [← RL.1, List.length_map]
  obtain ⟨t, ty, kl, _⟩ := PD.ty (K := K) (pd.same s1)
  refine ⟨fun σ' H' => σ' = [some (.ref p), some v, some (.ref dd), none, none, none] ∧ Same H1 H' ∧ ∃ es ls, d = .list es ∧ loadsOf S.ti es = some ls, ?_, ?_⟩
  ·refine ⟨_, rfl, v, "list", t, isL d, rfl, ty, kl, _, rfl, ?_⟩
   cases el : isL d with
   | false =>
    refine iteT (iteT ?_)
    exact q1 H1 s1 (by cases d <;> first | rfl | cases el)
   | true =>
    obtain ⟨es, rfl⟩ : ∃ e, d = .list e := by cases d <;> first | exact ⟨_, rfl⟩ | cases el
    obtain ⟨m, l, xs, rfl, rfl, hl, pr⟩ := pd.list_of
    have hxl : xs.length = es.length := Paired.length pr
    have hle := blen es rfl
    refine iteF ⟨_, rfl, l, rfl, ⟨_, SqL.of (s1 _ _ hl)⟩, comp_list (K := K) (ys := xs) (fun i acc σ' H' => Same H1 H' ∧ acc = ((es.take i).map fun x => V.bl (loadOf S.ti x).isSome) ∧ ∃ o, σ' = [o, some (.ref dd)])
     ⟨Same.refl _, rfl, none, rfl⟩ (fun i acc σ' H' h => ?_) (by rw [hxl]; exact Nat.le_trans hle (by decide)) (fun i acc σ' H' _ h => SqL.of (h.1 _ _ (s1 _ _ hl))) (fun i x acc σ' H' hx h => ?_) (fun acc σ' H' h pp hpp => ?_)⟩
    ·rw [h.2.1, List.length_map, List.length_take]; omega
    ·obtain ⟨s2, rfl, o, rfl⟩ := h
     obtain ⟨dy, hd, pdy⟩ := pair_get pr hx
     refine ⟨_, rfl, _, rfl, dd, x, m, dy, L, S.ti, rfl, s2 _ _ edd, RL.same (s1.trans s2), pdy.same (s1.trans s2), s2, ?_, _, rfl⟩
     rw [List.take_add_one, hd, List.map_append]
     rfl
    ·obtain ⟨s2, rfl, o, rfl⟩ := h
     rw [hxl, List.take_length]
     refine ⟨pp, es.map fun x => (loadOf S.ti x).isSome, rfl, SqL.of (by rw [upd_same, List.map_map]; rfl), ?_⟩
     have s3 := s2.upd (o := .lst (es.map fun x => V.bl (loadOf S.ti x).isSome)) hpp
     generalize upd H' pp (.lst (es.map fun x => V.bl (loadOf S.ti x).isSome)) = H3 at s3
     have ea : (es.map fun x => (loadOf S.ti x).isSome).all id = es.all fun x => (loadOf S.ti x).isSome := by rw [List.all_map]; rfl
     refine ⟨_, rfl, ?_⟩
     rw [ea, loads_all]
     cases e1 : loadsOf S.ti es with
     | none =>
      refine iteT (q1 H3 (s1.trans s3) ?_)
      show (match loadsOf S.ti es with | none => none | some ls => _) = none
      rw [e1]
     | some ls => exact iteF ⟨rfl, s3, es, ls, rfl, e1⟩
  rintro σ2 H2 ⟨rfl, s2, es, ls, rfl, els⟩
  obtain ⟨m, l, xs, rfl, rfl, hl, pr⟩ := pd.list_of
  have hxl : xs.length = es.length := Paired.length pr
  have hle := blen es rfl
  have s02 := s1.trans s2
  have rowAt : ∀ {i : Nat} {x : V}, xs[i]? = some x → ∃ q la, ls[i]? = some q ∧ es[i]? = some (.list [.str q.1.nm, .int q.2]) ∧ x = .ref la ∧ H la = some (.lst [.str q.1.nm, .int q.2]) ∧ q.1 ∈ S.ti ∧ rowOf S.ti q.1.nm = some q.1 := fun {i x} hx => by
   obtain ⟨dy, hd, pdy⟩ := pair_get pr hx
   obtain ⟨qq, h1, h2⟩ := loads_at els i dy hd
   obtain ⟨e1, e2, e3, _⟩ := load_says h2
   subst e1
   obtain ⟨m', la, ys, em, rfl, hla, pr'⟩ := pdy.list_of
   cases pr' with
   | @cons x0 _ _ _ p0 pr' =>
    cases pr' with
    | @cons x1 _ _ _ p1 pr' =>
     cases pr'
     obtain ⟨y', e4, e5⟩ := p0.str_of rfl
     cases e4
     cases e5
     have := p1.int_of
     subst this
     exact ⟨qq, la, h1, hd, rfl, hla, e2, e3⟩
  have hls : ls.length = es.length := loads_len els
  refine ⟨fun σ' H' => σ' = [some (.ref p), some (.ref l), some (.ref dd), none, none, none] ∧ Same H2 H' ∧ (ls.map (·.1.nm)).Nodup, ?_, ?_⟩
  ·refine ⟨_, rfl, l, rfl, ⟨_, SqL.of (s02 _ _ hl)⟩, comp_list (K := K) (ys := xs) (fun i acc σ' H' => H' = H2 ∧ acc = ((ls.take i).map fun x => V.str x.1.nm) ∧ ∃ o, σ' = [o])
    ⟨rfl, rfl, none, rfl⟩ (fun i acc σ' H' h => ?_) (by rw [hxl]; exact Nat.le_trans hle (by decide)) (fun i acc σ' H' _ h => by rw [h.1]; exact SqL.of (s02 _ _ hl)) (fun i x acc σ' H' hx h => ?_) (fun acc σ' H' h pp hpp => ?_)⟩
   ·rw [h.2.1, List.length_map, List.length_take]; omega
   ·obtain ⟨rfl, rfl, o, rfl⟩ := h
    obtain ⟨qq, la, h1, _, rfl, hla, _⟩ := rowAt hx
    refine ⟨_, rfl, la, _, _, .str qq.1.nm, rfl, rfl, SqL.of (s02 _ _ hla), atI_nat (j := 0) rfl, rfl, ?_, _, rfl⟩
    rw [List.take_add_one, h1, List.map_append]
    rfl
   ·obtain ⟨rfl, rfl, o, rfl⟩ := h
    have e0 : xs.length = ls.length := by omega
    rw [e0, List.take_length]
    have s3 := Same.new (o := .lst (ls.map fun x => V.str x.1.nm)) hpp
    have e3 : (upd H' pp (.lst (ls.map fun x => V.str x.1.nm))) pp = some (.lst ((ls.map (·.1.nm)).map V.str)) := by rw [upd_same, List.map_map]; rfl
    generalize upd H' pp (.lst (ls.map fun x => V.str x.1.nm)) = H3 at s3 e3
    refine ⟨pp, ls.map (·.1.nm), rfl, e3, by rw [List.length_map]; omega, fun H4 s4 => ⟨_, rfl, ?_⟩⟩
    by_cases hn : (ls.map (·.1.nm)).Nodup
    ·rw [decide_eq_true hn]
     exact iteF ⟨rfl, s3.trans s4, hn⟩
    ·rw [decide_eq_false hn]
     refine iteT (q1 H4 (s02.trans (s3.trans s4)) ?_)
     show (match loadsOf S.ti es with | none => none | some ls => if (ls.map fun q : Row × Int => q.1.nm).Nodup then some ls else none) = none
     rw [els]
     exact if_neg hn
  rintro σ3 H3 ⟨rfl, s3, hnd⟩
  have s03 := s02.trans s3
  have egoes : goesD S (.list es) = some ls := by
   show (match loadsOf S.ti es with | none => none | some ls => if (ls.map fun q : Row × Int => q.1.nm).Nodup then some ls else none) = _
   rw [els]
   exact if_pos hnd
  have NA := N.net.same s03
  obtain ⟨dx, hob⟩ := NA.ob
  refine ⟨fun σ' H' => ∃ dg, σ' = [some (.ref p), some (.ref l), some (.ref dd), some (.ref dg), none, none] ∧ Same H3 H' ∧ H3 dg = none ∧ H' dg = some (.dK (goKV S.pl fun _ => 0)), ?_, ?_⟩
  ·refine ⟨_, rfl, p, dx, _, rfl, hob, flds_no ds dl (by decide +kernel) (by decide +kernel), p, ds, dl, S, rfl, NA, fun pl hpl => ?_⟩
   have z4 := Same.new (o := .lst (S.pl.map V.str)) hpl
   have epl : (upd H3 pl (.lst (S.pl.map V.str))) pl = some (.lst (S.pl.map V.str)) := upd_same
   generalize upd H3 pl (.lst (S.pl.map V.str)) = H4 at z4 epl
   have hp20 := N.fewP
   refine ⟨pl, rfl, ⟨_, SqL.of epl⟩, comp_list (K := K) (ys := S.pl.map V.str) (fun i acc σ' H' => ∃ ps : List (Addr × Key × V), acc = ps.map (fun q => V.ref q.1) ∧ ps.map (·.2) = goKV (S.pl.take i) (fun _ => 0) ∧ (∀ q ∈ ps, H' q.1 = some (.tup [kV q.2.1, q.2.2])) ∧ Same H4 H' ∧ ∃ o, σ' = [o])
    ⟨[], rfl, rfl, fun _ h => (nomatch h), Same.refl H4, none, rfl⟩ (fun i acc σ' H' h => ?_) ?_ (fun i acc σ' H' _ h => ?_) (fun i x acc σ' H' hx h => ?_) (fun acc σ' H' h pp hpp => ?_)⟩
   ·obtain ⟨ps, rfl, e, _⟩ := h
    have := congrArg List.length e
    rw [go_len, List.length_map, List.length_take] at this
    rw [List.length_map]
    omega
   ·rw [List.length_map]
    exact Nat.le_trans hp20 (by decide)
   ·obtain ⟨_, _, _, _, s5, _⟩ := h
    exact SqL.of (s5 _ _ epl)
   ·obtain ⟨ps, rfl, e, hp, s5, o, rfl⟩ := h
    rw [List.getElem?_map] at hx
    cases ey : S.pl[i]? with
    | none => rw [ey] at hx; cases hx
    | some y =>
     rw [ey] at hx
     cases hx
     refine ⟨_, rfl, (by show 2 ≤ sizeLine; decide), fun t ht => ?_⟩
     refine ⟨ps ++ [(t, Sum.inr y, V.int 0)], by rw [List.map_append]; rfl, ?_, fun z hz => ?_, s5.upd ht, _, rfl⟩
     ·rw [List.map_append, e, List.take_add_one, ey]
      unfold goKV
      rw [List.map_append]
      rfl
     ·rcases List.mem_append.mp hz with hz | hz
      ·exact (Same.new ht) _ _ (hp z hz)
      ·cases List.mem_singleton.mp hz
       exact upd_same
   ·obtain ⟨ps, rfl, e, hp, s5, o, rfl⟩ := h
    rw [List.length_map, List.take_length] at e
    have s6 := Same.new (o := .lst (ps.map fun q => V.ref q.1)) hpp
    refine ⟨pp, ps, rfl, SqL.of upd_same, fun z hz => SqT.of (s6 _ _ (hp z hz)), fun dg hdg => ?_⟩
    have sa := z4.trans (s5.trans s6)
    refine ⟨dg, rfl, sa.upd hdg, sa.free hdg, ?_⟩
    rw [upd_same, e, show mergeK [] (goKV S.pl fun _ => 0) = goKV ([] ++ S.pl) fun _ => 0 from go_merge (pl := []) N.ndP]
    rfl
  rintro σ4 H4 ⟨dg, rfl, s4, hdg, edg⟩
  have s04 := s03.trans s4
  have hdg0 : H dg = none := s03.free hdg
  have ndg : dg ≠ dd := fun z => by rw [z] at hdg; rw [(s2.trans s3) _ _ edd] at hdg; cases hdg
  refine ⟨_, rfl, l, rfl, ⟨_, SqL.of (s04 _ _ hl)⟩, for_list (K := K) (a := l) (xs := xs) (fun i σ' H' => ∃ o4 o5, σ' = [some (.ref p), some (.ref l), some (.ref dd), some (.ref dg), o4, o5] ∧ Same H3 H' ∧ H' dg = some (.dK (goKV S.pl (goes (ls.take i)))))
   ⟨none, none, rfl, s4, edg⟩ (fun i σ' H' _ h => ?_) (fun i x σ' H' hx h => ?_) (fun σ' H' h => ?_)⟩
  ·obtain ⟨_, _, _, s5, _⟩ := h
   exact SqL.of (s5 _ _ (s03 _ _ hl))
  ·obtain ⟨o4, o5, rfl, s5, e5⟩ := h
   obtain ⟨qq, la, h1, _, rfl, hla, hin, hrow⟩ := rowAt hx
   have s05 := s03.trans s5
   have RL5 := RL.same s05
   have edd5 := (s2.trans (s3.trans s5)) _ _ edd
   obtain ⟨_, ra, rb⟩ := N.okT qq.1 hin
   rcases row_find RL.1 qq.1.nm with ⟨z1, _⟩ | ⟨rr, hrr, hn, z1, z2⟩
   ·rw [z1] at hrow; cases hrow
   rw [z1] at hrow
   have err : rr.1 = qq.1 := Option.some.inj hrow
   have et := RL5.2 rr hrr
   rw [err] at et
   refine ⟨la, _, rfl, SqL.of (s05 _ _ hla), rfl, _, _, rfl, _, _, rfl, rfl, ?_⟩
   have dgt : DGet H' dd (.str qq.1.nm) (some (.ref rr.2)) := by rw [← z2]; exact DGet.k (k := Sum.inr qq.1.nm) edd5
   refine ⟨_, rfl, _, rfl, _, rfl, dd, .ref rr.2, rfl, dgt, rr.2, _, _, .str qq.1.a, rfl, rfl, SqT.of et, rfl, dg, .int (goes (ls.take i) qq.1.a), rfl, by rw [← go_val ra]; exact DGet.k (k := Sum.inr qq.1.a) e5, _, rfl, _, _, rfl, rfl, _, DPut.k (k := Sum.inr qq.1.a) e5 (small1000 (by rw [go_len]; have := N.fewP; omega)), ?_⟩
   rw [go_put ra]
   have e6 : (upd H' dg (.dK (goKV S.pl fun y => if y = qq.1.a then goes (ls.take i) qq.1.a + qq.2 else goes (ls.take i) y))) dg = some (.dK (goKV S.pl fun y => if y = qq.1.a then goes (ls.take i) qq.1.a + qq.2 else goes (ls.take i) y)) := upd_same
   have s6 : ∀ b ob, H3 b = some ob → (upd H' dg (.dK (goKV S.pl fun y => if y = qq.1.a then goes (ls.take i) qq.1.a + qq.2 else goes (ls.take i) y))) b = some ob := fun b ob z => by
    rw [upd_ne (ne_of_none z hdg)]
    exact s5 _ _ z
   generalize upd H' dg (.dK (goKV S.pl fun y => if y = qq.1.a then goes (ls.take i) qq.1.a + qq.2 else goes (ls.take i) y)) = H6 at e6 s6
   have s06 := s03.trans s6
   have et6 := (RL.same s06).2 rr hrr
   rw [err] at et6
   have edd6 := (s2.trans (s3.trans s6)) _ _ edd
   have dgt6 : DGet H6 dd (.str qq.1.nm) (some (.ref rr.2)) := by rw [← z2]; exact DGet.k (k := Sum.inr qq.1.nm) edd6
   refine ⟨_, rfl, _, rfl, _, rfl, dd, .ref rr.2, rfl, dgt6, rr.2, _, _, .str qq.1.b, rfl, rfl, SqT.of et6, rfl, dg, _, rfl, by rw [← go_val rb]; exact DGet.k (k := Sum.inr qq.1.b) e6, _, rfl, _, _, rfl, rfl, _, DPut.k (k := Sum.inr qq.1.b) e6 (small1000 (by rw [go_len]; have := N.fewP; omega)), ?_⟩
   rw [go_put rb]
   refine ⟨_, _, rfl, fun b ob z => ?_, ?_⟩
   ·rw [upd_ne (ne_of_none z hdg)]
    exact s6 _ _ z
   ·rw [upd_same]
    congr 3
    funext y
    rw [List.take_add_one, h1]
    show _ = goes (ls.take i ++ [qq]) y
    rw [goes_snoc]
    unfold goes1
    by_cases ya : y = qq.1.a
    ·by_cases yb : y = qq.1.b
     ·rw [if_pos yb, if_pos (yb.symm.trans ya), if_pos ya.symm, if_pos yb.symm, ya]
      omega
     ·rw [if_neg yb, if_pos ya, if_pos ya.symm, if_neg (fun z => yb z.symm), ya]
      omega
    ·by_cases yb : y = qq.1.b
     ·rw [if_pos yb, if_neg (fun z => ya (yb.trans z)), if_neg (fun z => ya z.symm), if_pos yb.symm, yb]
      omega
     ·rw [if_neg yb, if_neg ya, if_neg (fun z => ya z.symm), if_neg (fun z => yb z.symm)]
      omega
  ·obtain ⟨o4, o5, rfl, s5, e5⟩ := h
   have e0 : xs.length = ls.length := by omega
   rw [e0, List.take_length] at e5
   exact ⟨_, rfl, q2 dg ls _ hdg0 (s03.trans s5) e5 egoes⟩
end
end Net
namespace Net
open PySem L2
theorem b_any : bootBuiltins "any" = some (.builtin "any") := by decide +kernel
theorem any_bl {α : Type} (f : α → Bool) (l : List α) : (l.map f).any id = l.any f := by
 rw [List.any_map]
 rfl
theorem take_filter {α : Type} {f : α → Bool} {l : List α} {i : Nat} {x : α} (e : l[i]? = some x) (b : Bool) (hb : f x = b) : (l.take (i + 1)).filter f = (l.take i).filter f ++ (if b then [x] else []) := by
 rw [List.take_add_one, e, List.filter_append]
 show _ ++ List.filter f [x] = _
 cases b with
 | true => rw [List.filter_cons_of_pos hb]; rfl
 | false => rw [List.filter_cons_of_neg (by rw [hb]; exact Bool.false_ne_true)]; rfl
theorem go_get {H : Hp} {dg : Addr} {o : Obj} {pl : List Str} {f : Str → Int} {x : Str} (h : H dg = some (.frz o (.dK (goKV pl f)))) (hx : x ∈ pl) : DGet H dg (.str x) (some (.int (f x))) := by
 rw [← go_val (f := f) hx]
 exact .inl ⟨_, Sum.inr x, .inr ⟨o, h⟩, rfl, rfl⟩
section
variable {P : Program} {w : World} {K : PySem.W.Frag} {mg : Str → Option Value} {base : Heap} {C : Addr}
abbrev Nfbelow : List Str := ["net", "term", "paper", "left_over", "between"]
theorem sc_fbelow : FnScope Nfbelow ["net", "term", "paper"] (defScope s_flow_below) := ⟨rfl, rfl, rfl, by decide +kernel, rfl, by decide +kernel, by decide +kernel⟩
theorem ok_fbelow {f : Addr} {fd : FuncData} (F : Fun K "flow_below" "flow_below" s_flow_below f fd) (hany : mg "any" = none) (cg : Can P w K mg base 4 "what_goes_out" ["net", "paper"] (spGoesOut C)) : FnOk P w K mg base CX0 5 f fd ["net", "term", "paper"] (spFlowBelow C) := by
 refine F.ok sc_fbelow (fun vs H Q E h => ?_) (fun cdv A outer s H vs Q E hr h => ?_)
 ·obtain ⟨p, ds, dl, tt, S, w', a, b, v, n, d, rfl, _⟩ := h
  rfl
 ·obtain ⟨p, ds, dl, tt, S, w', a, b, v, n, d, rfl, N, te, ha, pd, n50, blen, q⟩ := h
  have hu := hu_of hr
  have nd2 : List.Nodup (["place", "term"] : List Str) := by decide +kernel
  have nd3 : List.Nodup (["place", "left_over"] : List Str) := by decide +kernel
  refine ⟨_, (pss_cons (ps_set (i := 3) sc_fbelow.nd rfl (Or.inr rfl) (pe_callC cg hr (by rfl) (pa_cons (pv 0) (pa_cons (pv 2) pa_nil))))
   (pss_cons (ps_if (pt_cmp (pc_isN (pv 3))) (pss_one (ps_ret pe_non)) pss_nil)
   (pss_cutE (ps_comp (j := 4) (N := ["place", "term"]) (xs := 1) (js := [1]) rfl sc_fbelow.nd rfl rfl (compScope_of rfl) (pi_dict (pv 3)) (fun _ _ _ _ => pg_name (i := 0) nd2 rfl (Or.inl rfl))
     (fun _ _ _ _ => pts_one (PW.pt (pw_and (pt_cmpR op_ne (pv 0) (pe_ix (ix_tupK K (by rfl)) (pv 1) pe_int (fun _ _ => by rfl)) (nomark _)) (pw_and1 (pt_cmpR op_ne (pv 0) (pe_ix (ix_tupK K (by rfl)) (pv 1) pe_int (fun _ _ => by rfl)) (nomark _)))))) (fun _ _ _ _ => pv 0) rfl)
   (pss_cutE (ps_if (pt_val (pe_callB (call_any rfl) (by rfl) hany b_any (pa_cons (pe_comp (N := ["place", "left_over"]) (xs := 1) (js := [3]) rfl (compScope_of rfl) (pi_list (pv 4)) (fun _ _ _ _ => pg_name (i := 0) nd3 rfl (Or.inl rfl)) (fun _ _ _ _ => pts_nil) (fun _ _ _ _ => pe_cmpR op_ne (pe_dget hu (pv 1) (pv 0) (fun _ _ => rfl)) pe_int (nomark _))) pa_nil))) (pss_one (ps_ret pe_non)) pss_nil)
   (pss_one (ps_ret (pe_dget hu (pv 3) (pe_ix ix_tup (pv 1) pe_int (fun _ _ => by rfl)) (fun _ _ => rfl)))))))), ?_⟩
  have term_a : ∀ {H'}, Same H H' → SqT K H' tt [.str w', .str a, .str b] := fun z => SqT.of (z _ _ te)
  refine ⟨_, rfl, _, rfl, p, ds, dl, S, v, n, d, rfl, N, pd, n50, blen, fun H1 s1 e => ?_, fun dg ls H1 hdg s1 edg e => ?_⟩
  ·refine ⟨_, rfl, _, rfl, iteT ?_⟩
   have := q H1 s1
   unfold flowD at this
   rw [e] at this
   exact this
  refine ⟨_, rfl, _, rfl, iteF ?_⟩
  have efl : flowD S a b d = if (S.pl.all fun x => decide (x = a) || decide (x = b) || decide (goes ls x = 0)) = true then some (goes ls a) else none := by
   unfold flowD
   rw [e]
  refine ⟨fun σ' H' => ∃ o bl, σ' = [some (.ref p), some (.ref tt), some v, some (.ref dg), some (.ref bl)] ∧ Same H H' ∧ H' dg = some (.frz o (.dK (goKV S.pl (goes ls)))) ∧ H' bl = some (.lst ((S.pl.filter fun x => !decide (x = a) && !decide (x = b)).map V.str)), ?_, ?_⟩
  ·refine ⟨_, rfl, dg, _, rfl, edg, fun o => ?_⟩
   have s2 : Same H (upd H1 dg (.frz o (.dK (goKV S.pl (goes ls))))) := fun b0 ob z => by
    rw [upd_ne (ne_of_none z hdg)]
    exact s1 _ _ z
   have e2 : (upd H1 dg (.frz o (.dK (goKV S.pl (goes ls))))) dg = some (.frz o (.dK (goKV S.pl (goes ls)))) := upd_same
   generalize upd H1 dg (.frz o (.dK (goKV S.pl (goes ls)))) = H2 at s2 e2
   refine comp_dict (fun i acc σ' H' => H' = H2 ∧ acc = ((S.pl.take i).filter fun x => !decide (x = a) && !decide (x = b)).map V.str ∧ ∃ u, σ' = [u, some (.ref tt)])
    ⟨rfl, rfl, none, rfl⟩ (fun i acc σ' H' h => ?_) ?_ (fun i acc σ' H' _ h => by rw [h.1]; exact e2) (fun i kv acc σ' H' hx h => ?_) (fun acc σ' H' h bl hbl => ?_)
   ·obtain ⟨_, rfl, _⟩ := h
    rw [List.length_map]
    exact Nat.le_trans (List.length_filter_le _ _) (by rw [List.length_take]; omega)
   ·rw [go_len]
    exact Nat.le_trans N.fewP (by decide)
   ·obtain ⟨rfl, rfl, u, rfl⟩ := h
    unfold goKV at hx
    rw [List.getElem?_map] at hx
    cases ey : S.pl[i]? with
    | none => rw [ey] at hx; cases hx
    | some y =>
     rw [ey] at hx
     cases hx
     have tk := fun c hc => take_filter (f := fun x : Str => !decide (x = a) && !decide (x = b)) ey c hc
     refine ⟨_, rfl, _, rfl, tt, _, _, .str a, rfl, rfl, term_a s2, rfl, rfl, _, rfl, ?_⟩
     by_cases h1 : y = a
     ·refine iteFb (by simp [kV, h1]) (iteF ⟨rfl, ?_, _, rfl⟩)
      rw [tk false (by simp [h1])]
      simp
     ·refine iteTb (by simp [kV, h1]) ⟨_, rfl, _, rfl, tt, _, _, .str b, rfl, rfl, term_a s2, rfl, rfl, _, rfl, ?_⟩
      by_cases h2 : y = b
      ·refine iteFb (by simp [kV, h2]) ⟨rfl, ?_, _, rfl⟩
       rw [tk false (by simp [h2])]
       simp
      ·refine iteTb (by simp [kV, h2]) ⟨_, rfl, rfl, ?_, _, rfl⟩
       rw [tk true (by simp [h1, h2]), List.map_append]
       rfl
   ·obtain ⟨rfl, rfl, u, rfl⟩ := h
    rw [go_len, List.take_length]
    have z := Same.new (o := .lst ((S.pl.filter fun x => !decide (x = a) && !decide (x = b)).map V.str)) hbl
    exact ⟨o, bl, rfl, s2.trans z, z _ _ e2, upd_same⟩
  rintro σ3 H3 ⟨o, bl, rfl, s3, e3, ebl⟩
  have eall : (!(S.pl.filter fun x => !decide (x = a) && !decide (x = b)).any fun x => !decide (goes ls x = 0)) = S.pl.all fun x => decide (x = a) || decide (x = b) || decide (goes ls x = 0) := by
   rw [Bool.eq_iff_iff]
   simp only [Bool.not_eq_true', List.any_eq_false, List.mem_filter, Bool.and_eq_true, Bool.not_eq_true, decide_eq_false_iff_not, List.all_eq_true, Bool.or_eq_true, decide_eq_true_eq, Bool.not_eq_false']
   constructor
   ·intro h x hx
    by_cases h1 : x = a
    ·exact .inl (.inl h1)
    ·by_cases h2 : x = b
     ·exact .inl (.inr h2)
     ·exact .inr (by simpa using h x ⟨hx, h1, h2⟩)
   ·rintro h x ⟨hx, h1, h2⟩
    rcases h x hx with (z | z) | z
    ·exact absurd z h1
    ·exact absurd z h2
    ·simpa using z
  have hb20 : (S.pl.filter fun x => !decide (x = a) && !decide (x = b)).length ≤ 20 := Nat.le_trans (List.length_filter_le _ _) N.fewP
  have hbin : ∀ x ∈ (S.pl.filter fun x => !decide (x = a) && !decide (x = b)), x ∈ S.pl := fun x hx => (List.mem_filter.mp hx).1
  generalize (S.pl.filter fun x => !decide (x = a) && !decide (x = b)) = bs at ebl eall hb20 hbin
  refine ⟨fun σ' H' => σ' = [some (.ref p), some (.ref tt), some v, some (.ref dg), some (.ref bl)] ∧ Same H3 H' ∧ flowD S a b d = some (goes ls a), ?_, ?_⟩
  ·refine ⟨_, rfl, bl, rfl, ⟨_, SqL.of ebl⟩, comp_list (K := K) (ys := bs.map V.str) (fun i acc σ' H' => H' = H3 ∧ acc = ((bs.take i).map fun x => V.bl (!decide (goes ls x = 0))) ∧ ∃ u, σ' = [u, some (.ref dg)])
    ⟨rfl, rfl, none, rfl⟩ (fun i acc σ' H' h => ?_) ?_ (fun i acc σ' H' _ h => by rw [h.1]; exact SqL.of ebl) (fun i x acc σ' H' hx h => ?_) (fun acc σ' H' h pp hpp => ?_)⟩
   ·rw [h.2.1, List.length_map, List.length_take]; omega
   ·rw [List.length_map]
    exact Nat.le_trans hb20 (by decide)
   ·obtain ⟨rfl, rfl, u, rfl⟩ := h
    rw [List.getElem?_map] at hx
    cases ey : bs[i]? with
    | none => rw [ey] at hx; cases hx
    | some y =>
     rw [ey] at hx
     cases hx
     refine ⟨_, rfl, _, rfl, dg, _, rfl, go_get e3 (hbin y (List.mem_of_getElem? ey)), rfl, rfl, ?_, _, rfl⟩
     rw [List.take_add_one, ey, List.map_append]
     show _ = _ ++ [V.bl (!decide (goes ls y = 0))]
     congr 3
     simp
   ·obtain ⟨rfl, rfl, u, rfl⟩ := h
    rw [List.length_map, List.take_length]
    have z := Same.new (o := .lst (bs.map fun x => V.bl (!decide (goes ls x = 0)))) hpp
    refine ⟨pp, bs.map fun x => !decide (goes ls x = 0), rfl, SqL.of (by rw [upd_same, List.map_map]; rfl), _, rfl, ?_⟩
    generalize upd H' pp (.lst (bs.map fun x => V.bl (!decide (goes ls x = 0)))) = H4 at z
    rw [any_bl]
    cases ea : (bs.any fun x => !decide (goes ls x = 0)) with
    | true =>
     rw [ea] at eall
     rw [← eall] at efl
     have := q H4 (s3.trans z)
     rw [efl] at this
     exact iteT this
    | false =>
     rw [ea] at eall
     rw [← eall] at efl
     exact iteF ⟨rfl, z, efl⟩
  rintro σ4 H4 ⟨rfl, s4, efl'⟩
  have := q H4 (s3.trans s4)
  rw [efl'] at this
  exact ⟨_, rfl, _, rfl, tt, _, _, .str a, rfl, rfl, term_a (s3.trans s4), rfl, dg, _, rfl, go_get (s4 _ _ e3) ha, this⟩
end
end Net
namespace Net
open PySem L2
def outR (ti : List Row) (ws : List Str) : List Row := ti.filter fun r => decide (r.a ∈ ws) && !decide (r.b ∈ ws)
def leavD (S : NS) (a b : Str) (d : PyData) : Option (List Row) := if unlikeD S.pl d = true then (match namesOf d with
 | none => none
 | some ws => if a ∈ ws ∧ ¬ b ∈ ws then some (outR S.ti ws) else none) else none
theorem leav_no {S : NS} {a b : Str} {d : PyData} (h : unlikeD S.pl d = false) : leavD S a b d = none := by
 unfold leavD
 rw [h]
 rfl
theorem leav_ws {S : NS} {a b : Str} {ws : List Str} (h : unlikeD S.pl (.list (ws.map PyData.str)) = true) : leavD S a b (.list (ws.map PyData.str)) = if a ∈ ws ∧ ¬ b ∈ ws then some (outR S.ti ws) else none := by
 unfold leavD
 rw [if_pos h]
 have : namesOf (.list (ws.map PyData.str)) = some ws := strsOf_map _
 rw [this]
def isNil : PyData → Bool
 | .list [] => true
 | _ => false
theorem eqv_isNil {d : PyData} : PyData.eqv d (.list []) = isNil d := by
 cases d <;> first | rfl | skip
 rename_i ds
 rw [eqv_nil]
 cases ds <;> rfl
def OddW (d : PyData) : Prop := isL d = false ∨ d = .list [.tuple []]
def shownD (S : NS) (fl above : Bool) (a b : Str) (d : PyData) : Option Int :=
 if a = b then (if isNil d then some 0 else none) else if above then (leavD S a b d).map (fun L => if fl then (L.map (·.w)).sum else (L.length : Int)) else if fl then flowD S a b d else none
def wordF (fl : Bool) : Str := if fl then "flow" else "apart"
def spLeaving (C : Addr) : Sp := fun vs H Q _ => ∃ (p ds dl tt : Addr) (S : NS) (w a b : Str) (v : V) (n : Nat) (d : PyData), vs = [.ref p, .ref tt, v] ∧ NetS C H p ds dl S ∧ TeAt H tt w a b ∧ PD H n v d ∧ n ≤ 50 ∧ (∀ e, d = .list e → e.length ≤ 1000) ∧
 (∀ H', Same H H' → leavD S a b d = none → Q .non H') ∧ ∀ (l : Addr) (L : List (Row × Addr)) (rs : List Row) (H' : Hp), Same H H' → Rows H' L rs → H' l = some (.lst (L.map fun q => V.ref q.2)) → rs.length ≤ 40 → leavD S a b d = some rs → Q (.ref l) H'
def spAbove52 (C : Addr) (fl : Bool) : Sp := fun vs H Q _ => ∃ (p ds dl tt : Addr) (S : NS) (w a b : Str) (v : V) (n : Nat) (d : PyData), vs = [.ref p, .ref tt, v] ∧ NetS C H p ds dl S ∧ TeAt H tt w a b ∧ PD H n v d ∧ n ≤ 50 ∧ (∀ e, d = .list e → e.length ≤ 1000) ∧
 ∀ H', Same H H' → Q (oV ((leavD S a b d).map fun L => if fl then (L.map (·.w)).sum else (L.length : Int))) H'
def spOddWalks (C : Addr) : Sp := fun vs H Q _ => ∃ (p ds dl tt : Addr) (S : NS) (w a b : Str) (v : V) (n : Nat) (d : PyData), vs = [.ref p, .ref tt, v] ∧ NetS C H p ds dl S ∧ TeAt H tt w a b ∧ a ∈ S.pl ∧ PD H n v d ∧ n ≤ 50 ∧ OddW d ∧ ∀ H', Same H H' → Q .non H'
def spShown (C : Addr) : Sp := fun vs H Q _ => ∃ (p ds dl tt : Addr) (S : NS) (fl above : Bool) (a b : Str) (v : V) (n : Nat) (d : PyData), vs = [.ref p, .ref tt, .bl above, v] ∧ NetS C H p ds dl S ∧ TeAt H tt (wordF fl) a b ∧ a ∈ S.pl ∧ PD H n v d ∧ n ≤ 50 ∧ (∀ e, d = .list e → e.length ≤ 1000) ∧ (fl = false → above = false → OddW d) ∧
 ∀ H', Same H H' → Q (oV (shownD S fl above a b d)) H'
section
variable {P : Program} {w : World} {K : PySem.W.Frag} {mg : Str → Option Value} {base : Heap} {C : Addr}
theorem sc_leaving : FnScope ["net", "term", "paper"] ["net", "term", "paper"] (defScope s_ties_leaving) := ⟨rfl, rfl, rfl, by decide +kernel, rfl, by decide +kernel, by decide +kernel⟩
theorem ok_leaving {f : Addr} {fd : FuncData} (F : Fun K "ties_leaving" "ties_leaving" s_ties_leaving f fd) (T : Txt K mg C) (cu : Can P w K mg base 3 "are_unlike_places" ["net", "paper"] (spUnlikeD C)) (m2 : CanM P w K mg base 1 C "ties" ["self"] (spTies C)) : FnOk P w K mg base CX0 4 f fd ["net", "term", "paper"] (spLeaving C) := by
 refine F.ok sc_leaving (fun vs H Q E h => ?_) (fun cdv A outer s H vs Q E hr h => ?_)
 ·obtain ⟨p, ds, dl, tt, S, w', a, b, v, n, d, rfl, _⟩ := h
  rfl
 ·obtain ⟨p, ds, dl, tt, S, w', a, b, v, n, d, rfl, N, te, pd, n50, blen, q1, q2⟩ := h
  have r1 : Room 1 _ := hr.mono (by decide)
  have nd2 : List.Nodup (["row", "paper"] : List Str) := by decide +kernel
  refine ⟨_, (pss_cons (ps_if (PW.pt (pw_or (pt_not (pt_val (pe_callC cu hr (by rfl) (pa_cons (pv 0) (pa_cons (pv 2) pa_nil))))) (pw_or (pt_cmpR op_notIn_seq (pe_ix ix_tup (pv 1) pe_int (fun _ _ => by rfl)) (pv 2) (by with_unfolding_all rfl)) (pw_or1 (pt_cmpR op_in_seq (pe_ix ix_tup (pv 1) pe_int (fun _ _ => by rfl)) (pv 2) (by with_unfolding_all rfl)))))) (pss_one (ps_ret pe_non)) pss_nil)
   (pss_one (ps_ret (pe_comp (N := ["row", "paper"]) (xs := 1) (js := [2]) rfl (compScope_of rfl) (pi_list (pe_methC0 (pv 0) T.cl m2 r1)) (fun _ _ _ _ => pg_name (i := 0) nd2 rfl (Or.inl rfl))
     (fun _ _ _ _ => pts_one (PW.pt (pw_and (pt_cmpR (op_inK K (by rfl)) (pe_ix (ix_tupK K (by rfl)) (pv 0) pe_int (fun _ _ => by rfl)) (pv 1) (by with_unfolding_all rfl)) (pw_and1 (pt_cmpR (op_notInK K (by rfl)) (pe_ix (ix_tupK K (by rfl)) (pv 0) pe_int (fun _ _ => by rfl)) (pv 1) (by with_unfolding_all rfl)))))) (fun _ _ _ _ => pv 0))))), ?_⟩
  have term_a : ∀ {H'}, Same H H' → SqT K H' tt [.str w', .str a, .str b] := fun z => SqT.of (z _ _ te)
  refine ⟨_, rfl, _, rfl, p, ds, dl, S, v, n, d, rfl, N.net, N.okP, pd, n50, blen, fun H1 s1 => ⟨_, rfl, ?_⟩⟩
  cases eu : unlikeD S.pl d with
  | false => exact iteT (iteT (q1 H1 s1 (leav_no eu)))
  | true =>
   obtain ⟨l, ws, rfl, rfl, hl, _⟩ := unlikeD_true pd eu
   have hl1 := s1 _ _ hl
   rw [leav_ws eu] at q1 q2
   refine iteF ⟨_, rfl, tt, _, _, .str a, rfl, rfl, term_a s1, rfl, _, rfl, l, ws.map V.str, rfl, .inl (SqL.of hl1), rfl, flat_strs _, _, rfl, ?_⟩
   show if (if true = true then !inV (.str a) (ws.map V.str) else _) = true then _ else _
   rw [if_pos rfl, inV_str]
   by_cases h1 : a ∈ ws
   ·rw [decide_eq_true h1]
    refine iteF ⟨_, rfl, tt, _, _, .str b, rfl, rfl, term_a s1, rfl, _, rfl, l, ws.map V.str, rfl, .inl (SqL.of hl1), rfl, flat_strs _, _, rfl, ?_⟩
    show if (if false = true then _ else inV (.str b) (ws.map V.str)) = true then _ else _
    rw [if_neg Bool.false_ne_true, inV_str]
    by_cases h2 : b ∈ ws
    ·rw [decide_eq_true h2]
     exact iteT (q1 H1 s1 (if_neg fun z => z.2 h2))
    ·rw [decide_eq_false h2]
     refine iteF ?_
     have NA := N.net.same s1
     obtain ⟨dx, hob⟩ := NA.ob
     refine ⟨_, rfl, p, dx, _, rfl, hob, flds_no ds dl (by decide +kernel) (by decide +kernel), p, ds, dl, S, rfl, NA, fun tl H2 L htl s2 RL etl => ?_⟩
     have RL2 := RL.same s2
     have hL : L.length = S.ti.length := by rw [← RL.1, List.length_map]
     have hl2 := s2 _ _ hl1
     refine ⟨tl, rfl, ⟨_, SqL.of etl⟩, comp_list (K := K) (ys := L.map fun q => V.ref q.2) (fun i acc σ' H' => H' = H2 ∧ acc = ((L.take i).filter fun q => decide (q.1.a ∈ ws) && !decide (q.1.b ∈ ws)).map (fun q => V.ref q.2) ∧ ∃ o, σ' = [o, some (.ref l)])
      ⟨rfl, rfl, none, rfl⟩ (fun i acc σ' H' h => ?_) ?_ (fun i acc σ' H' _ h => by rw [h.1]; exact SqL.of etl) (fun i x acc σ' H' hx h => ?_) (fun acc σ' H' h rl hrl => ?_)⟩
     ·obtain ⟨_, rfl, _⟩ := h
      rw [List.length_map]
      exact Nat.le_trans (List.length_filter_le _ _) (by rw [List.length_take]; omega)
     ·rw [List.length_map, hL]
      exact Nat.le_trans N.few (by decide)
     ·obtain ⟨rfl, rfl, o3, rfl⟩ := h
      rw [List.getElem?_map] at hx
      cases eq : L[i]? with
      | none => rw [eq] at hx; cases hx
      | some qq =>
       rw [eq] at hx
       cases hx
       have ht := RL2.2 qq (List.mem_of_getElem? eq)
       have tk := fun c hc => take_filter (f := fun q : Row × Addr => decide (q.1.a ∈ ws) && !decide (q.1.b ∈ ws)) eq c hc
       refine ⟨_, rfl, qq.2, _, _, .str qq.1.a, rfl, rfl, SqT.of ht, rfl, _, rfl, l, _, rfl, .inl (SqL.of hl2), rfl, flat_strs _, _, rfl, ?_⟩
       show if (if false = true then _ else inV (.str qq.1.a) (ws.map V.str)) = true then _ else _
       rw [if_neg Bool.false_ne_true, inV_str]
       by_cases g1 : qq.1.a ∈ ws
       ·rw [decide_eq_true g1]
        refine iteT ⟨_, rfl, qq.2, _, _, .str qq.1.b, rfl, rfl, SqT.of ht, rfl, _, rfl, l, _, rfl, .inl (SqL.of hl2), rfl, flat_strs _, _, rfl, ?_⟩
        show if (if true = true then !inV (.str qq.1.b) (ws.map V.str) else _) = true then _ else _
        rw [if_pos rfl, inV_str]
        by_cases g2 : qq.1.b ∈ ws
        ·rw [decide_eq_true g2]
         refine iteF ⟨rfl, ?_, _, rfl⟩
         rw [tk false (by simp [g2])]
         simp
        ·rw [decide_eq_false g2]
         refine iteT ⟨_, rfl, rfl, ?_, _, rfl⟩
         rw [tk true (by simp [g1, g2]), List.map_append]
         rfl
       ·rw [decide_eq_false g1]
        refine iteF (iteF ⟨rfl, ?_, _, rfl⟩)
        rw [tk false (by simp [g1])]
        simp
     ·obtain ⟨rfl, rfl, o3, rfl⟩ := h
      rw [List.length_map, List.take_length]
      have z := Same.new (o := .lst ((L.filter fun q => decide (q.1.a ∈ ws) && !decide (q.1.b ∈ ws)).map fun q => V.ref q.2)) hrl
      refine q2 rl _ (outR S.ti ws) _ ((s1.trans s2).trans z) ⟨?_, fun q hq => z _ _ (RL2.2 q (List.mem_filter.mp hq).1)⟩ upd_same (Nat.le_trans (List.length_filter_le _ _) N.few) (if_pos ⟨h1, h2⟩)
      unfold outR
      rw [← RL.1, List.filter_map]
      rfl
   ·rw [decide_eq_false h1]
    exact iteT (iteT (q1 H1 s1 (if_neg fun z => h1 z.1)))
theorem sc_fabove : FnScope ["net", "term", "paper", "leaving"] ["net", "term", "paper"] (defScope s_flow_above) := ⟨rfl, rfl, rfl, by decide +kernel, rfl, by decide +kernel, by decide +kernel⟩
theorem ok_fabove {f : Addr} {fd : FuncData} (F : Fun K "flow_above" "flow_above" s_flow_above f fd) (TW : TxtW mg) (cl : Can P w K mg base 4 "ties_leaving" ["net", "term", "paper"] (spLeaving C)) : FnOk P w K mg base CX0 5 f fd ["net", "term", "paper"] (spAbove52 C true) := by
 refine F.ok sc_fabove (fun vs H Q E h => ?_) (fun cdv A outer s H vs Q E hr h => ?_)
 ·obtain ⟨p, ds, dl, tt, S, w', a, b, v, n, d, rfl, _⟩ := h
  rfl
 ·obtain ⟨p, ds, dl, tt, S, w', a, b, v, n, d, rfl, N, te, pd, n50, blen, q⟩ := h
  have nd1 : List.Nodup (["row"] : List Str) := by decide +kernel
  refine ⟨_, (pss_cons (ps_set (i := 3) sc_fabove.nd rfl (Or.inl rfl) (pe_callC cl hr (by rfl) (pa_cons (pv 0) (pa_cons (pv 1) (pa_cons (pv 2) pa_nil)))))
   (pss_one (ps_ret (pe_ifExp (pt_cmp (pc_isN (pv 3))) pe_non (pe_callB (call_sum rfl) (by rfl) TW.sum b_sum (pa_cons (pe_comp (N := ["row"]) (xs := 1) (js := []) rfl (compScope_of rfl) (pi_list (pv 3)) (fun _ _ _ _ => pg_name (i := 0) nd1 rfl (Or.inl rfl)) (fun _ _ _ _ => pts_nil) (fun _ _ _ _ => pe_ix (ix_tupK K (by rfl)) (pv 0) pe_int (fun _ _ => by rfl))) pa_nil)))))), ?_⟩
  refine ⟨_, rfl, _, rfl, _, rfl, p, ds, dl, tt, S, w', a, b, v, n, d, rfl, N, te, pd, n50, blen, fun H1 s1 e => ?_, fun l L rs H1 s1 RL el h40 e => ?_⟩
  ·have := q H1 s1
   rw [e] at this
   exact ⟨_, rfl, _, rfl, iteT this⟩
  ·rw [e] at q
   have hL : L.length = rs.length := by rw [← RL.1, List.length_map]
   refine ⟨_, rfl, _, rfl, iteF ⟨_, rfl, l, rfl, ⟨_, SqL.of el⟩, comp_list (K := K) (ys := L.map fun q => V.ref q.2) (fun i acc σ' H' => H' = H1 ∧ acc = ((rs.take i).map fun r => V.int r.w) ∧ ∃ o, σ' = [o])
    ⟨rfl, rfl, none, rfl⟩ (fun i acc σ' H' h => ?_) ?_ (fun i acc σ' H' _ h => by rw [h.1]; exact SqL.of el) (fun i x acc σ' H' hx h => ?_) (fun acc σ' H' h rl hrl => ?_)⟩⟩
   ·rw [h.2.1, List.length_map, List.length_take]; omega
   ·rw [List.length_map, hL]
    exact Nat.le_trans h40 (by decide)
   ·obtain ⟨rfl, rfl, o3, rfl⟩ := h
    rw [List.getElem?_map] at hx
    cases eq : L[i]? with
    | none => rw [eq] at hx; cases hx
    | some qq =>
     rw [eq] at hx
     cases hx
     have er : rs[i]? = some qq.1 := by rw [← RL.1, List.getElem?_map, eq]; rfl
     refine ⟨_, rfl, qq.2, _, _, .int qq.1.w, rfl, rfl, SqT.of (RL.2 qq (List.mem_of_getElem? eq)), rfl, rfl, ?_, _, rfl⟩
     rw [List.take_add_one, er, List.map_append]
     rfl
   ·obtain ⟨rfl, rfl, o3, rfl⟩ := h
    rw [List.length_map, hL, List.take_length]
    refine ⟨rl, rs.map (·.w), rfl, SqL.of (by rw [upd_same, List.map_map]; rfl), ?_⟩
    exact q _ (s1.trans (Same.new hrl))
theorem sc_aabove : FnScope ["net", "term", "paper", "leaving"] ["net", "term", "paper"] (defScope s_apart_above) := ⟨rfl, rfl, rfl, by decide +kernel, rfl, by decide +kernel, by decide +kernel⟩
theorem ok_aabove {f : Addr} {fd : FuncData} (F : Fun K "apart_above" "apart_above" s_apart_above f fd) (T : Txt K mg C) (cl : Can P w K mg base 4 "ties_leaving" ["net", "term", "paper"] (spLeaving C)) : FnOk P w K mg base CX0 5 f fd ["net", "term", "paper"] (spAbove52 C false) := by
 refine F.ok sc_aabove (fun vs H Q E h => ?_) (fun cdv A outer s H vs Q E hr h => ?_)
 ·obtain ⟨p, ds, dl, tt, S, w', a, b, v, n, d, rfl, _⟩ := h
  rfl
 ·obtain ⟨p, ds, dl, tt, S, w', a, b, v, n, d, rfl, N, te, pd, n50, blen, q⟩ := h
  refine ⟨_, (pss_cons (ps_set (i := 3) sc_aabove.nd rfl (Or.inl rfl) (pe_callC cl hr (by rfl) (pa_cons (pv 0) (pa_cons (pv 1) (pa_cons (pv 2) pa_nil)))))
   (pss_one (ps_ret (pe_ifExp (pt_cmp (pc_isN (pv 3))) pe_non (pe_callB call_len_seq (by rfl) T.len b_len (pa_cons (pv 3) pa_nil)))))), ?_⟩
  refine ⟨_, rfl, _, rfl, _, rfl, p, ds, dl, tt, S, w', a, b, v, n, d, rfl, N, te, pd, n50, blen, fun H1 s1 e => ?_, fun l L rs H1 s1 RL el h40 e => ?_⟩
  ·have := q H1 s1
   rw [e] at this
   exact ⟨_, rfl, _, rfl, iteT this⟩
  ·have := q H1 s1
   rw [e] at this
   have hL : L.length = rs.length := by rw [← RL.1, List.length_map]
   refine ⟨_, rfl, _, rfl, iteF ⟨_, rfl, l, _, rfl, .inl (SqL.of el), ?_⟩⟩
   rw [List.length_map, hL]
   exact this
end
end Net
namespace Net
open PySem L2
theorem w_num (fl : Bool) : decide (V.str (wordF fl) = V.str "number") = false := by cases fl <;> decide +kernel
theorem w_size (fl : Bool) : decide (V.str (wordF fl) = V.str "size") = false := by cases fl <;> decide +kernel
theorem w_pairs (fl : Bool) : decide (V.str (wordF fl) = V.str "pairs") = false := by cases fl <;> decide +kernel
theorem w_times (fl : Bool) : decide (V.str (wordF fl) = V.str "times") = false := by cases fl <;> decide +kernel
theorem w_three (fl : Bool) : inV (.str (wordF fl)) [.str "plus", .str "least", .str "most"] = false := by cases fl <;> decide +kernel
theorem w_flow (fl : Bool) : decide (V.str (wordF fl) = V.str "flow") = fl := by cases fl <;> decide +kernel
theorem w_apart : decide (V.str (wordF false) = V.str "apart") = true := by decide +kernel
section
variable {P : Program} {w : World} {K : PySem.W.Frag} {mg : Str → Option Value} {base : Heap} {C : Addr}
theorem sc_sow : FnScope ["net", "term", "paper", "stops"] ["net", "term", "paper"] (defScope s_stops_of_walks) := ⟨rfl, rfl, rfl, by decide +kernel, rfl, by decide +kernel, by decide +kernel⟩
theorem ok_sowOdd {f : Addr} {fd : FuncData} (F : Fun K "stops_of_walks" "stops_of_walks" s_stops_of_walks f fd) (T : Txt K mg C) (hany : mg "any" = none) (cs : Can P w K mg base 3 "walk_stops" ["net", "a", "paper"] (spStops C)) : FnOk P w K mg base CX0 4 f fd ["net", "term", "paper"] (spOddWalks C) := by
 refine F.ok sc_sow (fun vs H Q E h => ?_) (fun cdv A outer s H vs Q E hr h => ?_)
 ·obtain ⟨p, ds, dl, tt, S, w', a, b, v, n, d, rfl, _⟩ := h
  rfl
 ·obtain ⟨p, ds, dl, tt, S, w', a, b, v, n, d, rfl, N, te, ha, pd, n50, od, q⟩ := h
  have nd3 : List.Nodup (["walk", "net", "term"] : List Str) := by decide +kernel
  have nd2 : List.Nodup (["row", "term"] : List Str) := by decide +kernel
  refine ⟨_, (pss_cons (ps_if (pt_not (pt_val (pe_callB call_isinst (by rfl) T.isi b_isi (pa_cons (pv 2) (pa_cons (pe_ty T.list (by rfl) b_list) pa_nil))))) (pss_one (ps_ret pe_non)) pss_nil)
   (pss_cutE (ps_comp (j := 3) (N := ["walk", "net", "term"]) (xs := 1) (js := [0, 1]) rfl sc_sow.nd rfl rfl (compScope_of rfl) (pi_list (pv 2)) (fun _ _ _ _ => pg_name (i := 0) nd3 rfl (Or.inl rfl)) (fun _ _ _ _ => pts_nil) (fun _ _ _ _ => pe_callC cs hr (by rfl) (pa_cons (pv 1) (pa_cons (pe_ix (ix_tupK K (by rfl)) (pv 2) pe_int (fun _ _ => by rfl)) (pa_cons (pv 0) pa_nil)))) rfl)
   (pss_cons (ps_if (pt_val (pe_callB (call_any rfl) (by rfl) hany b_any (pa_cons (pe_comp (N := ["row", "term"]) (xs := 1) (js := [1]) rfl (compScope_of rfl) (pi_list (pv 3)) (fun _ _ _ _ => pg_name (i := 0) nd2 rfl (Or.inl rfl)) (fun _ _ _ _ => pts_nil) (fun _ _ _ _ => pe_or (pe_cmp (pc_isN (pv 0))) (pe_one (pe_cmpR op_ne (pe_ix (ix_listK K (by rfl)) (pv 0) (pe_un un_neg pe_int) (fun _ _ => by rfl)) (pe_ix (ix_tupK K (by rfl)) (pv 1) pe_int (fun _ _ => by rfl)) (nomark _))))) pa_nil))) (pss_one (ps_ret pe_non)) pss_nil)
   (pss_one ps_never)))), ?_⟩
  have term_a : ∀ {H'}, Same H H' → SqT K H' tt [.str w', .str a, .str b] := fun z => SqT.of (z _ _ te)
  obtain ⟨t, ty, kl, _⟩ := PD.ty (K := K) pd
  refine ⟨_, rfl, v, "list", t, isL d, rfl, ty, kl, _, rfl, ?_⟩
  rcases od with od | rfl
  ·rw [od]
   exact iteT (q H (Same.refl H))
  obtain ⟨m, l, xs, rfl, rfl, hl, pr⟩ := pd.list_of
  cases pr with
  | @cons x0 _ _ _ p0 pr =>
   cases pr
   refine iteF ?_
   refine ⟨fun σ' H' => ∃ sl, σ' = [some (.ref p), some (.ref tt), some (.ref l), some (.ref sl)] ∧ Same H H' ∧ H' sl = some (.lst [.non]), ?_, ?_⟩
   ·refine ⟨_, rfl, l, rfl, ⟨_, SqL.of hl⟩, comp_list (K := K) (ys := [x0]) (fun i acc σ' H' => Same H H' ∧ acc = List.replicate i V.non ∧ ∃ o, σ' = [o, some (.ref p), some (.ref tt)])
     ⟨Same.refl H, rfl, none, rfl⟩ (fun i acc σ' H' h => ?_) (by show 1 ≤ sizeLine; decide) (fun i acc σ' H' _ h => SqL.of (h.1 _ _ hl)) (fun i x acc σ' H' hx h => ?_) (fun acc σ' H' h pp hpp => ?_)⟩
    ·rw [h.2.1, List.length_replicate]
     exact Nat.le_refl _
    ·obtain ⟨s1, rfl, o, rfl⟩ := h
     have hi : x = x0 := by
      have := List.mem_of_getElem? hx
      simpa using this
     subst hi
     refine ⟨_, rfl, _, rfl, tt, _, _, .str a, rfl, rfl, term_a s1, rfl, _, rfl, p, ds, dl, S, a, x, m, .tuple [], rfl, N.w.same s1, ha, p0.same s1, (fun e z => nomatch z), fun H2 s2 _ => ⟨s1.trans s2, ?_, _, rfl⟩, fun l st H2 s2 _ _ z => nomatch z⟩
     rw [List.replicate_succ']
    ·obtain ⟨s1, rfl, o, rfl⟩ := h
     exact ⟨pp, rfl, s1.upd hpp, upd_same⟩
   rintro σ2 H2 ⟨sl, rfl, s2, esl⟩
   refine ⟨_, rfl, sl, rfl, ⟨_, SqL.of esl⟩, comp_list (K := K) (ys := [.non]) (fun i acc σ' H' => H' = H2 ∧ acc = List.replicate i (V.bl true) ∧ ∃ o, σ' = [o, some (.ref tt)])
    ⟨rfl, rfl, none, rfl⟩ (fun i acc σ' H' h => ?_) (by show 1 ≤ sizeLine; decide) (fun i acc σ' H' _ h => by rw [h.1]; exact SqL.of esl) (fun i x acc σ' H' hx h => ?_) (fun acc σ' H' h pp hpp => ?_)⟩
   ·rw [h.2.1, List.length_replicate]
    exact Nat.le_refl _
   ·obtain ⟨rfl, rfl, o, rfl⟩ := h
    have hi : x = .non := by
     have := List.mem_of_getElem? hx
     simpa using this
    subst hi
    refine ⟨_, rfl, _, rfl, iteT ⟨rfl, ?_, _, rfl⟩⟩
    rw [List.replicate_succ']
   ·obtain ⟨rfl, rfl, o, rfl⟩ := h
    exact ⟨pp, [true], rfl, SqL.of upd_same, _, rfl, iteT (q _ (s2.upd hpp))⟩
theorem sc_abelow : FnScope ["net", "term", "paper"] ["net", "term", "paper"] (defScope s_apart_below) := ⟨rfl, rfl, rfl, by decide +kernel, rfl, by decide +kernel, by decide +kernel⟩
theorem ok_abelowOdd {f : Addr} {fd : FuncData} (F : Fun K "apart_below" "apart_below" s_apart_below f fd) (T : Txt K mg C) (cs : Can P w K mg base 4 "stops_of_walks" ["net", "term", "paper"] (spOddWalks C)) : FnOk P w K mg base CX0 5 f fd ["net", "term", "paper"] (spOddWalks C) := by
 refine F.ok sc_abelow (fun vs H Q E h => ?_) (fun cdv A outer s H vs Q E hr h => ?_)
 ·obtain ⟨p, ds, dl, tt, S, w', a, b, v, n, d, rfl, _⟩ := h
  rfl
 ·obtain ⟨p, ds, dl, tt, S, w', a, b, v, n, d, rfl, N, te, ha, pd, n50, od, q⟩ := h
  refine ⟨_, (pss_one (ps_ret (pe_ifExp (pt_cmp (pc_isN (pe_callC cs hr (by rfl) (pa_cons (pv 0) (pa_cons (pv 1) (pa_cons (pv 2) pa_nil)))))) pe_non (pe_callB call_len_seq (by rfl) T.len b_len (pa_cons (pv 2) pa_nil))))), ?_⟩
  exact ⟨_, rfl, _, rfl, _, rfl, p, ds, dl, tt, S, w', a, b, v, n, d, rfl, N, te, ha, pd, n50, od, fun H1 s1 => ⟨_, rfl, iteT (q H1 s1)⟩⟩
theorem sc_across : FnScope ["net", "term", "above", "paper"] ["net", "term", "above", "paper"] (defScope s_shown_across) := ⟨rfl, rfl, rfl, by decide +kernel, rfl, by decide +kernel, by decide +kernel⟩
theorem ok_across52 {f : Addr} {fd : FuncData} (F : Fun K "shown_across" "shown_across" s_shown_across f fd) (c1 : Can P w K mg base 5 "flow_above" ["net", "term", "paper"] (spAbove52 C true)) (c2 : Can P w K mg base 5 "flow_below" ["net", "term", "paper"] (spFlowBelow C)) (c3 : Can P w K mg base 5 "apart_above" ["net", "term", "paper"] (spAbove52 C false)) (c4 : Can P w K mg base 5 "apart_below" ["net", "term", "paper"] (spOddWalks C)) :
  FnOk P w K mg base CX0 6 f fd ["net", "term", "above", "paper"] (fun vs H Q E => ∃ (a b : Str), ¬ a = b ∧ (∃ tt, vs[1]? = some (.ref tt) ∧ ∃ w, TeAt H tt w a b) ∧ spShown C vs H Q E) := by
 refine F.ok sc_across (fun vs H Q E h => ?_) (fun cdv A outer s H vs Q E hr h => ?_)
 ·obtain ⟨_, _, _, _, p, ds, dl, tt, S, fl, ab, a, b, v, n, d, rfl, _⟩ := h
  rfl
 ·obtain ⟨a0, b0, hne, ⟨t0, et0, w0, te0⟩, p, ds, dl, tt, S, fl, ab, a, b, v, n, d, rfl, N, te, ha, pd, n50, blen, od, q⟩ := h
  have e1 : t0 = tt := by
   have : some (V.ref tt) = some (.ref t0) := et0
   cases this
   rfl
  subst e1
  have e2 : some (HO.tup [.str (wordF fl), .str a, .str b]) = some (.tup [.str w0, .str a0, .str b0]) := te.symm.trans te0
  simp only [Option.some.injEq, HO.tup.injEq, List.cons.injEq, V.str.injEq, and_true] at e2
  obtain ⟨_, rfl, rfl⟩ := e2
  refine ⟨_, (pss_cons (ps_if (pt_cmpR op_eq (pe_ix ix_tup (pv 1) pe_int (fun _ _ => by rfl)) pe_str (nomark _)) (pss_one (ps_ret (pe_ifExp (pt_val (pv 2)) (pe_callC c1 hr (by rfl) (pa_cons (pv 0) (pa_cons (pv 1) (pa_cons (pv 3) pa_nil)))) (pe_callC c2 hr (by rfl) (pa_cons (pv 0) (pa_cons (pv 1) (pa_cons (pv 3) pa_nil))))))) pss_nil)
   (pss_cons (ps_if (pt_cmpR op_eq (pe_ix ix_tup (pv 1) pe_int (fun _ _ => by rfl)) pe_str (nomark _)) (pss_one (ps_ret (pe_ifExp (pt_val (pv 2)) (pe_callC c3 hr (by rfl) (pa_cons (pv 0) (pa_cons (pv 1) (pa_cons (pv 3) pa_nil)))) (pe_callC c4 hr (by rfl) (pa_cons (pv 0) (pa_cons (pv 1) (pa_cons (pv 3) pa_nil))))))) pss_nil)
   (pss_one ps_never))), ?_⟩
  have te' : H t0 = some (.tup [.str (wordF fl), .str a, .str b]) := te
  refine ⟨_, rfl, t0, _, _, .str (wordF fl), rfl, rfl, SqT.of te', rfl, rfl, _, rfl, ?_⟩
  have esh : ∀ {z : Option Int}, (if ab then (leavD S a b d).map (fun L => if fl then (L.map (·.w)).sum else (L.length : Int)) else if fl then flowD S a b d else none) = z → ∀ H', Same H H' → Q (oV z) H' := fun {z} e H' s' => by
   have := q H' s'
   unfold shownD at this
   rw [if_neg hne, e] at this
   exact this
  cases fl with
  | true =>
   refine iteTb (w_flow true) ⟨_, rfl, _, rfl, ?_⟩
   cases ab with
   | true => exact iteT ⟨_, rfl, _, rfl, _, rfl, p, ds, dl, t0, S, _, a, b, v, n, d, rfl, N, te, pd, n50, blen, esh rfl⟩
   | false => exact iteF ⟨_, rfl, _, rfl, _, rfl, p, ds, dl, t0, S, _, a, b, v, n, d, rfl, N, te, ha, pd, n50, blen, esh rfl⟩
  | false =>
   refine iteFb (w_flow false) ⟨_, rfl, t0, _, _, .str (wordF false), rfl, rfl, SqT.of te', rfl, rfl, _, rfl, iteTb w_apart ⟨_, rfl, _, rfl, ?_⟩⟩
   cases ab with
   | true => exact iteT ⟨_, rfl, _, rfl, _, rfl, p, ds, dl, t0, S, _, a, b, v, n, d, rfl, N, te, pd, n50, blen, esh rfl⟩
   | false => exact iteF ⟨_, rfl, _, rfl, _, rfl, p, ds, dl, t0, S, _, a, b, v, n, d, rfl, N, te, ha, pd, n50, od rfl rfl, esh (z := none) rfl⟩
theorem sc_shown : FnScope ["net", "term", "above", "paper"] ["net", "term", "above", "paper"] (defScope s_shown_bound) := ⟨rfl, rfl, rfl, by decide +kernel, rfl, by decide +kernel, by decide +kernel⟩
theorem ok_shown52 {f : Addr} {fd : FuncData} (F : Fun K "shown_bound" "shown_bound" s_shown_bound f fd) (ca : Can P w K mg base 6 "shown_across" ["net", "term", "above", "paper"] (fun vs H Q E => ∃ (a b : Str), ¬ a = b ∧ (∃ tt, vs[1]? = some (.ref tt) ∧ ∃ w, TeAt H tt w a b) ∧ spShown C vs H Q E)) : FnOk P w K mg base CX0 7 f fd ["net", "term", "above", "paper"] (spShown C) := by
 refine F.ok sc_shown (fun vs H Q E h => ?_) (fun cdv A outer s H vs Q E hr h => ?_)
 ·obtain ⟨p, ds, dl, tt, S, fl, ab, a, b, v, n, d, rfl, _⟩ := h
  rfl
 ·obtain ⟨p, ds, dl, tt, S, fl, ab, a, b, v, n, d, rfl, N, te, ha, pd, n50, blen, od, q⟩ := h
  have hU := hr.units
  refine ⟨_, (pss_cons (ps_if (pt_cmpR op_eq (pe_ix ix_tup (pv 1) pe_int (fun _ _ => by rfl)) pe_str (nomark _)) (pss_one ps_never) pss_nil)
   (pss_cons (ps_if (pt_cmpR op_eq (pe_ix ix_tup (pv 1) pe_int (fun _ _ => by rfl)) pe_str (nomark _)) (pss_one ps_never) pss_nil)
   (pss_cons (ps_if (pt_cmpR op_eq (pe_ix ix_tup (pv 1) pe_int (fun _ _ => by rfl)) pe_str (nomark _)) (pss_one ps_never) pss_nil)
   (pss_cons (ps_if (pt_cmpR op_eq (pe_ix ix_tup (pv 1) pe_int (fun _ _ => by rfl)) pe_str (nomark _)) (pss_one ps_never) pss_nil)
   (pss_cons (ps_if (pt_cmpR op_in_seq (pe_ix ix_tup (pv 1) pe_int (fun _ _ => by rfl)) (pe_tup (pa_cons pe_str (pa_cons pe_str (pa_cons pe_str pa_nil)))) (by with_unfolding_all rfl)) (pss_one ps_never) pss_nil)
   (pss_cons (ps_if (pt_cmpR op_eq (pe_ix ix_tup (pv 1) pe_int (fun _ _ => by rfl)) (pe_ix ix_tup (pv 1) pe_int (fun _ _ => by rfl)) (nomark _)) (pss_one (ps_ret (pe_ifExp (pt_cmpR (op_eqD hU) (pv 3) (pe_lst pa_nil) (nomark _)) pe_int pe_non))) pss_nil)
   (pss_one (ps_ret (pe_callC ca hr (by rfl) (pa_cons (pv 0) (pa_cons (pv 1) (pa_cons (pv 2) (pa_cons (pv 3) pa_nil))))))))))))), ?_⟩
  have te' : H tt = some (.tup [.str (wordF fl), .str a, .str b]) := te
  refine ⟨_, rfl, tt, _, _, .str (wordF fl), rfl, rfl, SqT.of te', rfl, rfl, _, rfl, iteFb (w_num fl) ?_⟩
  refine ⟨_, rfl, tt, _, _, .str (wordF fl), rfl, rfl, SqT.of te', rfl, rfl, _, rfl, iteFb (w_size fl) ?_⟩
  refine ⟨_, rfl, tt, _, _, .str (wordF fl), rfl, rfl, SqT.of te', rfl, rfl, _, rfl, iteFb (w_pairs fl) ?_⟩
  refine ⟨_, rfl, tt, _, _, .str (wordF fl), rfl, rfl, SqT.of te', rfl, rfl, _, rfl, iteFb (w_times fl) ?_⟩
  refine ⟨_, rfl, tt, _, _, .str (wordF fl), rfl, rfl, SqT.of te', rfl, (by show 3 ≤ sizeLine; decide), fun t3 ht3 => ?_⟩
  have z := Same.new (o := .tup [.str "plus", .str "least", .str "most"]) ht3
  refine ⟨t3, _, rfl, .inr (SqT.of upd_same), rfl, rfl, _, rfl, ?_⟩
  generalize upd H t3 (.tup [.str "plus", .str "least", .str "most"]) = H1 at z
  show if (if false = true then _ else inV (.str (wordF fl)) [.str "plus", .str "least", .str "most"]) = true then _ else _
  rw [if_neg Bool.false_ne_true, w_three fl]
  refine iteF ⟨_, rfl, tt, _, _, .str a, rfl, rfl, SqT.of (z _ _ te'), rfl, _, rfl, tt, _, _, .str b, rfl, rfl, SqT.of (z _ _ te'), rfl, rfl, _, rfl, ?_⟩
  by_cases hab : a = b
  ·refine iteTb (by rw [hab]; simp) ⟨_, rfl, by decide, fun ee hee => ⟨n + 2, _, _, by omega, ((pd.same (z.upd hee)).mono 2).rd, rd_nil2 upd_same, _, rfl, ?_⟩⟩
   have z2 := z.upd (o := .lst []) hee
   generalize upd H1 ee (.lst []) = H2 at z2
   show if (if false = true then _ else PyData.eqv d (.list [])) = true then _ else _
   rw [if_neg Bool.false_ne_true, eqv_isNil]
   have := q H2 z2
   unfold shownD at this
   rw [if_pos hab] at this
   cases en : isNil d with
   | true =>
    rw [en] at this
    exact iteT this
   | false =>
    rw [en] at this
    exact iteF this
  ·refine iteFb (by simp [hab]) ⟨_, rfl, _, rfl, _, rfl, _, rfl, a, b, hab, ⟨tt, rfl, _, z _ _ te⟩, p, ds, dl, tt, S, fl, ab, a, b, v, n, d, rfl, N.same z, z _ _ te, ha, pd.same z, n50, blen, od, fun H2 s2 => q H2 (z.trans s2)⟩
end
end Net
namespace Net
open PySem L2
def stopsAll (ti : List Row) (a : Str) : List PyData → Option (List (List Str))
 | [] => some []
 | d :: ds => match stopsOf ti a d with
  | none => none
  | some st => (stopsAll ti a ds).map (st :: ·)
def namesAll (ds : List PyData) : List Str := ds.flatMap fun d => (namesOf d).getD []
def walksD (S : NS) (a b : Str) : PyData → Option (List (List Str))
 | .list ds => match stopsAll S.ti a ds with
  | none => none
  | some sts => if (sts.all fun st => decide (st.getLast? = some b)) = true ∧ (namesAll ds).Nodup then some sts else none
 | _ => none
def W30 (d : PyData) : Prop := ∀ ds, d = .list ds → ds.length ≤ 30 ∧ ∀ x ∈ ds, ∀ e, x = .list e → e.length ≤ 30
theorem all_none {ti : List Row} {a : Str} : ∀ {ds : List PyData} {i : Nat} {d : PyData}, ds[i]? = some d → stopsOf ti a d = none → stopsAll ti a ds = none
 | [], _, _, h, _ => nomatch h
 | e :: ds, 0, d, h, h2 => by
  have : e = d := by simpa using h
  subst this
  unfold stopsAll
  rw [h2]
 | e :: ds, i + 1, d, h, h2 => by
  have := all_none (ti := ti) (a := a) (ds := ds) (i := i) (by simpa using h) h2
  show (match stopsOf ti a e with | none => none | some st => (stopsAll ti a ds).map (st :: ·)) = none
  cases stopsOf ti a e with
  | none => rfl
  | some q => rw [this]; rfl
def stV : Option (List Str × Addr) → V
 | none => .non
 | some q => .ref q.2
theorem all_of {ti : List Row} {a : Str} : ∀ {ds : List PyData} {os : List (Option (List Str × Addr))}, os.map (fun o => o.map (·.1)) = ds.map (stopsOf ti a) → (∀ o ∈ os, o.isSome = true) → ∃ L : List (List Str × Addr), os = L.map some ∧ stopsAll ti a ds = some (L.map (·.1))
 | [], [], _, _ => ⟨[], rfl, rfl⟩
 | [], _ :: _, h, _ => nomatch h
 | _ :: _, [], h, _ => nomatch h
 | d :: ds, o :: os, h, hs => by
  rw [List.map_cons, List.map_cons] at h
  injection h with h1 h2
  obtain ⟨q, rfl⟩ := Option.isSome_iff_exists.mp (hs o List.mem_cons_self)
  obtain ⟨L, rfl, e⟩ := all_of h2 fun o ho => hs o (List.mem_cons_of_mem _ ho)
  refine ⟨q :: L, rfl, ?_⟩
  have h1' : stopsOf ti a d = some q.1 := h1.symm
  show (match stopsOf ti a d with | none => none | some st => (stopsAll ti a ds).map (st :: ·)) = _
  rw [h1', e]
  rfl
theorem stops_names {ti : List Row} {a : Str} {d : PyData} {st : List Str} (h : stopsOf ti a d = some st) : ∃ ws : List Str, d = .list (ws.map PyData.str) ∧ ∀ x ∈ ws, x ∈ ti.map (·.nm) := by
 cases d <;> first | (cases h; done) | skip
 rename_i ds
 obtain ⟨ws, e, hw⟩ := walk_names (show stD ti a ds = some st from h)
 exact ⟨ws, by rw [e], hw⟩
def spJoined : Sp := fun vs H Q _ => ∃ (l : Addr) (L : List (List Str × Addr)), vs = [.ref l] ∧ H l = some (.lst (L.map fun q => V.ref q.2)) ∧ (∀ q ∈ L, H q.2 = some (.lst (q.1.map V.str))) ∧ (L.flatMap (·.1)).length ≤ 1000 ∧
 ∀ (wl : Addr) (H' : Hp), H wl = none → Same H H' → H' wl = some (.lst ((L.flatMap (·.1)).map V.str)) → Q (.ref wl) H'
def spSow (C : Addr) : Sp := fun vs H Q _ => ∃ (p ds dl tt : Addr) (S : NS) (w a b : Str) (v : V) (n : Nat) (d : PyData), vs = [.ref p, .ref tt, v] ∧ NetS C H p ds dl S ∧ TeAt H tt w a b ∧ a ∈ S.pl ∧ PD H n v d ∧ n ≤ 50 ∧ W30 d ∧
 (∀ H', Same H H' → walksD S a b d = none → Q .non H') ∧ ∀ (sl : Addr) (L : List (List Str × Addr)) (H' : Hp), Same H H' → H' sl = some (.lst (L.map fun q => V.ref q.2)) → (∀ q ∈ L, H' q.2 = some (.lst (q.1.map V.str))) → L.length ≤ 30 → walksD S a b d = some (L.map (·.1)) → Q (.ref sl) H'
section
variable {P : Program} {w : World} {K : PySem.W.Frag} {mg : Str → Option Value} {base : Heap} {C : Addr}
theorem sc_joined : FnScope ["lists", "whole", "part"] ["lists"] (defScope s_joined) := ⟨rfl, rfl, rfl, by decide +kernel, rfl, by decide +kernel, by decide +kernel⟩
theorem ok_joined {f : Addr} {fd : FuncData} (F : Fun K "joined" "joined" s_joined f fd) : FnOk P w K mg base CX0 1 f fd ["lists"] spJoined := by
 refine F.ok sc_joined (fun vs H Q E h => ?_) (fun cdv A outer s H vs Q E hr h => ?_)
 ·obtain ⟨l, L, rfl, _⟩ := h
  rfl
 ·obtain ⟨l, L, rfl, hl, hL, hlen, q⟩ := h
  refine ⟨_, (pss_cons (ps_set (i := 1) sc_joined.nd rfl (Or.inl rfl) (pe_lst pa_nil))
   (pss_cons (ps_for PassesOwn.never rfl (pi_list (pv 0)) (pg_name (i := 2) sc_joined.nd rfl (Or.inl rfl)) (pss_one (ps_expr (pe_bm PySem.F.plainAttrs_list PySem.F.slot_list_extend PySem.F.type_list_extend mt_extend (pv 1) (pa_cons (pv 2) pa_nil)))))
   (pss_one (ps_ret (pv 1))))), ?_⟩
  refine ⟨by decide, fun wl hwl => ?_⟩
  have z1 := Same.new (o := .lst []) hwl
  have e1 : (upd H wl (.lst [])) wl = some (.lst []) := upd_same
  generalize upd H wl (.lst []) = H1 at z1 e1
  refine ⟨_, rfl, l, rfl, ⟨_, SqL.of (z1 _ _ hl)⟩, for_list (K := K) (a := l) (xs := L.map fun q => V.ref q.2) (fun i σ' H' => (∃ o2, σ' = [some (.ref l), some (.ref wl), o2]) ∧ Same H H' ∧ H' wl = some (.lst (((L.take i).flatMap (·.1)).map V.str)))
   ⟨⟨_, rfl⟩, z1, e1⟩ (fun i σ' H' _ h => SqL.of (h.2.1 _ _ hl)) (fun i x σ' H' hx h => ?_) (fun σ' H' h => ?_)⟩
  ·obtain ⟨⟨o2, rfl⟩, s2, e2⟩ := h
   rw [List.getElem?_map] at hx
   cases eq : L[i]? with
   | none => rw [eq] at hx; cases hx
   | some qq =>
    rw [eq] at hx
    cases hx
    have hq := s2 _ _ (hL qq (List.mem_of_getElem? eq))
    have et : (L.take (i + 1)).flatMap (·.1) = (L.take i).flatMap (·.1) ++ qq.1 := by
     rw [List.take_add_one, eq, List.flatMap_append]
     simp
    have hsz : ((L.take i).flatMap (·.1)).length + qq.1.length ≤ 1000 := by
     have e3 : L.flatMap (·.1) = (L.take (i + 1)).flatMap (·.1) ++ (L.drop (i + 1)).flatMap (·.1) := by rw [← List.flatMap_append, List.take_append_drop]
     have := hlen
     rw [e3, List.length_append, et, List.length_append] at this
     omega
    refine ⟨_, rfl, .inl ⟨rfl, _, SqL.of e2⟩, _, rfl, wl, qq.2, _, _, rfl, rfl, e2, hq, ?_, ⟨_, rfl⟩, fun b0 ob z => ?_, ?_⟩
    ·rw [List.length_map, List.length_map]
     exact Nat.le_trans hsz (by decide)
    ·rw [upd_ne (ne_of_none z hwl)]
     exact s2 _ _ z
    ·rw [upd_same, et, List.map_append]
  ·obtain ⟨⟨o2, rfl⟩, s2, e2⟩ := h
   rw [List.length_map, List.take_length] at e2
   exact ⟨_, rfl, q wl H' hwl s2 e2⟩
end
end Net
namespace Net
open PySem L2
theorem strs_list {d : PyData} {ws : List Str} (h : namesOf d = some ws) : d = .list (ws.map PyData.str) := by
 cases d <;> first | (cases h; done) | skip
 rename_i ds
 have h' : strsOf ds = some ws := h
 rw [strsOf_some h']
theorem walks_all {S : NS} {a b : Str} {ds : List PyData} (h : stopsAll S.ti a ds = none) : walksD S a b (.list ds) = none := by
 show (match stopsAll S.ti a ds with | none => none | some sts => if (sts.all fun st => decide (st.getLast? = some b)) = true ∧ (namesAll ds).Nodup then some sts else none) = none
 rw [h]
theorem walks_some {S : NS} {a b : Str} {ds : List PyData} {sts : List (List Str)} (h : stopsAll S.ti a ds = some sts) : walksD S a b (.list ds) = if (sts.all fun st => decide (st.getLast? = some b)) = true ∧ (namesAll ds).Nodup then some sts else none := by
 show (match stopsAll S.ti a ds with | none => none | some sts => if (sts.all fun st => decide (st.getLast? = some b)) = true ∧ (namesAll ds).Nodup then some sts else none) = _
 rw [h]
theorem names_parts {ti : List Row} {a : Str} : ∀ {ds : List PyData} {sts : List (List Str)}, stopsAll ti a ds = some sts → ∃ W : List (List Str), ds = W.map (fun ws => PyData.list (ws.map PyData.str)) ∧ namesAll ds = W.flatten
 | [], _, _ => ⟨[], rfl, rfl⟩
 | d :: ds, sts, h => by
  have h' : (match stopsOf ti a d with | none => none | some st => (stopsAll ti a ds).map (st :: ·)) = some sts := h
  cases e : stopsOf ti a d with
  | none => rw [e] at h'; cases h'
  | some st =>
   rw [e] at h'
   cases e2 : stopsAll ti a ds with
   | none => rw [e2] at h'; cases h'
   | some s2 =>
    obtain ⟨ws, rfl, _⟩ := stops_names e
    obtain ⟨W, rfl, en⟩ := names_parts e2
    refine ⟨ws :: W, rfl, ?_⟩
    unfold namesAll at en ⊢
    rw [List.flatMap_cons, en]
    have : namesOf (.list (ws.map PyData.str)) = some ws := strsOf_map _
    rw [this]
    rfl
theorem parts_of {H : Hp} {m : Nat} : ∀ {W : List (List Str)} {xs : List V}, Paired (PD H m) xs (W.map fun ws => PyData.list (ws.map PyData.str)) → ∃ LW : List (List Str × Addr), xs = LW.map (fun q => V.ref q.2) ∧ LW.map (·.1) = W ∧ ∀ q ∈ LW, H q.2 = some (.lst (q.1.map V.str))
 | [], xs, pr => by cases pr; exact ⟨[], rfl, rfl, fun _ h => (nomatch h)⟩
 | ws :: W, xs, pr => by
  cases pr with
  | @cons x _ xr _ px pr =>
   obtain ⟨LW, e1, e2, e3⟩ := parts_of pr
   obtain ⟨m', la, ys, em, rfl, hla, pr'⟩ := px.list_of
   have hys := pd_strs pr'
   subst hys
   refine ⟨(ws, la) :: LW, by rw [List.map_cons, e1], by rw [List.map_cons, e2], fun q hq => ?_⟩
   rcases List.mem_cons.mp hq with rfl | hq
   ·exact hla
   ·exact e3 q hq
def offB (b : Str) : Option (List Str × Addr) → Bool
 | none => true
 | some q => !decide (q.1.getLast? = some b)
section
variable {P : Program} {w : World} {K : PySem.W.Frag} {mg : Str → Option Value} {base : Heap} {C : Addr}
theorem ok_sow {f : Addr} {fd : FuncData} (F : Fun K "stops_of_walks" "stops_of_walks" s_stops_of_walks f fd) (T : Txt K mg C) (hany : mg "any" = none) (cs : Can P w K mg base 3 "walk_stops" ["net", "a", "paper"] (spStops C)) (cu : Can P w K mg base 1 "are_unlike" ["names"] spAlike) (cj : Can P w K mg base 1 "joined" ["lists"] spJoined) : FnOk P w K mg base CX0 4 f fd ["net", "term", "paper"] (spSow C) := by
 refine F.ok sc_sow (fun vs H Q E h => ?_) (fun cdv A outer s H vs Q E hr h => ?_)
 ·obtain ⟨p, ds, dl, tt, S, w', a, b, v, n, d, rfl, _⟩ := h
  rfl
 ·obtain ⟨p, ds, dl, tt, S, w', a, b, v, n, d, rfl, N, te, ha, pd, n50, hw30, q1, q2⟩ := h
  have r1 : Room 1 _ := hr.mono (by decide)
  have nd3 : List.Nodup (["walk", "net", "term"] : List Str) := by decide +kernel
  have nd2 : List.Nodup (["row", "term"] : List Str) := by decide +kernel
  refine ⟨_, (pss_cons (ps_if (pt_not (pt_val (pe_callB call_isinst (by rfl) T.isi b_isi (pa_cons (pv 2) (pa_cons (pe_ty T.list (by rfl) b_list) pa_nil))))) (pss_one (ps_ret pe_non)) pss_nil)
   (pss_cutE (ps_comp (j := 3) (N := ["walk", "net", "term"]) (xs := 1) (js := [0, 1]) rfl sc_sow.nd rfl rfl (compScope_of rfl) (pi_list (pv 2)) (fun _ _ _ _ => pg_name (i := 0) nd3 rfl (Or.inl rfl)) (fun _ _ _ _ => pts_nil) (fun _ _ _ _ => pe_callC cs hr (by rfl) (pa_cons (pv 1) (pa_cons (pe_ix (ix_tupK K (by rfl)) (pv 2) pe_int (fun _ _ => by rfl)) (pa_cons (pv 0) pa_nil)))) rfl)
   (pss_cutE (ps_if (pt_val (pe_callB (call_any rfl) (by rfl) hany b_any (pa_cons (pe_comp (N := ["row", "term"]) (xs := 1) (js := [1]) rfl (compScope_of rfl) (pi_list (pv 3)) (fun _ _ _ _ => pg_name (i := 0) nd2 rfl (Or.inl rfl)) (fun _ _ _ _ => pts_nil) (fun _ _ _ _ => pe_or (pe_cmp (pc_isN (pv 0))) (pe_one (pe_cmpR op_ne (pe_ix (ix_listK K (by rfl)) (pv 0) (pe_un un_neg pe_int) (fun _ _ => by rfl)) (pe_ix (ix_tupK K (by rfl)) (pv 1) pe_int (fun _ _ => by rfl)) (nomark _))))) pa_nil))) (pss_one (ps_ret pe_non)) pss_nil)
   (pss_one (ps_ret (pe_ifExp (pt_val (pe_callC cu r1 (by rfl) (pa_cons (pe_callC cj r1 (by rfl) (pa_cons (pv 2) pa_nil)) pa_nil))) (pv 3) pe_non)))))), ?_⟩
  have term_a : ∀ {H'}, Same H H' → SqT K H' tt [.str w', .str a, .str b] := fun z => SqT.of (z _ _ te)
  obtain ⟨t, ty, kl, _⟩ := PD.ty (K := K) pd
  refine ⟨_, rfl, v, "list", t, isL d, rfl, ty, kl, _, rfl, ?_⟩
  cases el : isL d with
  | false =>
   refine iteT (q1 H (Same.refl H) ?_)
   cases d <;> first | rfl | cases el
  | true =>
   obtain ⟨es, rfl⟩ : ∃ e, d = .list e := by cases d <;> first | exact ⟨_, rfl⟩ | cases el
   obtain ⟨m, l, xs, rfl, rfl, hl, pr⟩ := pd.list_of
   have hxl : xs.length = es.length := Paired.length pr
   obtain ⟨h30, hin⟩ := hw30 es rfl
   refine iteF ?_
   refine ⟨fun σ' H' => ∃ (sl : Addr) (os : List (Option (List Str × Addr))), σ' = [some (.ref p), some (.ref tt), some (.ref l), some (.ref sl)] ∧ Same H H' ∧ H' sl = some (.lst (os.map stV)) ∧ os.map (fun o => o.map (·.1)) = es.map (stopsOf S.ti a) ∧ ∀ q, some q ∈ os → H' q.2 = some (.lst (q.1.map V.str)) ∧ q.1 ≠ [], ?_, ?_⟩
   ·refine ⟨_, rfl, l, rfl, ⟨_, SqL.of hl⟩, comp_list (K := K) (ys := xs) (fun i acc σ' H' => Same H H' ∧ (∃ os : List (Option (List Str × Addr)), acc = os.map stV ∧ os.map (fun o => o.map (·.1)) = (es.take i).map (stopsOf S.ti a) ∧ ∀ q, some q ∈ os → H' q.2 = some (.lst (q.1.map V.str)) ∧ q.1 ≠ []) ∧ ∃ o, σ' = [o, some (.ref p), some (.ref tt)])
     ⟨Same.refl H, ⟨[], rfl, rfl, fun _ h => (nomatch h)⟩, none, rfl⟩ (fun i acc σ' H' h => ?_) (Nat.le_trans (show xs.length ≤ 30 by omega) (by decide)) (fun i acc σ' H' _ h => SqL.of (h.1 _ _ hl)) (fun i x acc σ' H' hx h => ?_) (fun acc σ' H' h pp hpp => ?_)⟩
    ·obtain ⟨_, ⟨os, rfl, e, _⟩, _⟩ := h
     have := congrArg List.length e
     rw [List.length_map, List.length_map, List.length_take] at this
     rw [List.length_map]
     omega
    ·obtain ⟨s1, ⟨os, rfl, e, ho⟩, o, rfl⟩ := h
     obtain ⟨dx, hd, pdx⟩ := pair_get pr hx
     have hdx := List.mem_of_getElem? hd
     refine ⟨_, rfl, _, rfl, tt, _, _, .str a, rfl, rfl, term_a s1, rfl, _, rfl, p, ds, dl, S, a, x, m, dx, rfl, N.w.same s1, ha, pdx.same s1, (fun e z => Nat.le_trans (hin dx hdx e z) (by decide)), fun H2 s2 en => ?_, fun st sa H2 s2 hsa esa en => ?_⟩
     ·refine ⟨s1.trans s2, ⟨os ++ [none], by rw [List.map_append]; rfl, ?_, fun q hq => ?_⟩, _, rfl⟩
      ·rw [List.map_append, e, List.take_add_one, hd, List.map_append]
       show _ = _ ++ [stopsOf S.ti a dx]
       rw [en]
       rfl
      ·rcases List.mem_append.mp hq with hq | hq
       ·exact ⟨s2 _ _ (ho q hq).1, (ho q hq).2⟩
       ·cases List.mem_singleton.mp hq
     ·refine ⟨s1.trans s2, ⟨os ++ [some (st, sa)], by rw [List.map_append]; rfl, ?_, fun q hq => ?_⟩, _, rfl⟩
      ·rw [List.map_append, e, List.take_add_one, hd, List.map_append]
       show _ = _ ++ [stopsOf S.ti a dx]
       rw [en]
       rfl
      ·rcases List.mem_append.mp hq with hq | hq
       ·exact ⟨s2 _ _ (ho q hq).1, (ho q hq).2⟩
       ·have : q = (st, sa) := by simpa using hq
        subst this
        refine ⟨esa, ?_⟩
        obtain ⟨ws, rfl, _⟩ := stops_names en
        exact stD_ne (show stD S.ti a _ = some st from en)
    ·obtain ⟨s1, ⟨os, rfl, e, ho⟩, o, rfl⟩ := h
     rw [hxl, List.take_length] at e
     have z := Same.new (o := .lst (os.map stV)) hpp
     exact ⟨pp, os, rfl, s1.trans z, upd_same, e, fun q hq => ⟨z _ _ (ho q hq).1, (ho q hq).2⟩⟩
   rintro σ2 H2 ⟨sl, os, rfl, s2, esl, eos, hos⟩
   have hol : os.length = es.length := by
    have := congrArg List.length eos
    rw [List.length_map, List.length_map] at this
    exact this
   refine ⟨fun σ' H' => σ' = [some (.ref p), some (.ref tt), some (.ref l), some (.ref sl)] ∧ Same H2 H' ∧ ∀ o ∈ os, ∃ q, o = some q ∧ q.1.getLast? = some b, ?_, ?_⟩
   ·refine ⟨_, rfl, sl, rfl, ⟨_, SqL.of esl⟩, comp_list (K := K) (ys := os.map stV) (fun i acc σ' H' => H' = H2 ∧ acc = ((os.take i).map fun o => V.bl (offB b o)) ∧ ∃ o, σ' = [o, some (.ref tt)])
     ⟨rfl, rfl, none, rfl⟩ (fun i acc σ' H' h => ?_) (by rw [List.length_map]; exact Nat.le_trans (show os.length ≤ 30 by omega) (by decide)) (fun i acc σ' H' _ h => by rw [h.1]; exact SqL.of esl) (fun i x acc σ' H' hx h => ?_) (fun acc σ' H' h pp hpp => ?_)⟩
    ·rw [h.2.1, List.length_map, List.length_take]
     omega
    ·obtain ⟨rfl, rfl, o, rfl⟩ := h
     rw [List.getElem?_map] at hx
     cases eo : os[i]? with
     | none => rw [eo] at hx; cases hx
     | some oo =>
      rw [eo] at hx
      cases hx
      have tk : (os.take (i + 1)).map (fun o : Option (List Str × Addr) => V.bl (offB b o)) = (os.take i).map (fun o : Option (List Str × Addr) => V.bl (offB b o)) ++ [V.bl (offB b oo)] := by
       rw [List.take_add_one, eo, List.map_append]
       rfl
      cases oo with
      | none =>
       refine ⟨_, rfl, _, rfl, iteTb (by rfl) ⟨rfl, ?_, _, rfl⟩⟩
       rw [tk]
       rfl
      | some qq =>
       obtain ⟨eq1, hne⟩ := hos qq (List.mem_of_getElem? eo)
       obtain ⟨ys, y, ey⟩ : ∃ ys y, qq.1 = ys ++ [y] := ⟨qq.1.dropLast, qq.1.getLast hne, (List.dropLast_concat_getLast hne).symm⟩
       have hlast : atI (qq.1.map V.str) (-1) = some (V.str y) := by
        rw [ey, List.map_append]
        exact atI_last _ _
       have hgl : qq.1.getLast? = some y := by rw [ey]; simp
       refine ⟨_, rfl, _, rfl, iteFb (by rfl) ⟨_, rfl, _, rfl, qq.2, _, _, .str y, rfl, rfl, SqL.of eq1, hlast, _, rfl, tt, _, _, .str b, rfl, rfl, term_a s2, rfl, rfl, rfl, ?_, _, rfl⟩⟩
       rw [tk]
       show _ = _ ++ [V.bl (!decide (qq.1.getLast? = some b))]
       rw [hgl]
       congr 3
       by_cases hy : y = b
       ·simp [hy]
       ·simp [hy]
    ·obtain ⟨rfl, rfl, o, rfl⟩ := h
     rw [List.length_map, List.take_length]
     refine ⟨pp, os.map (offB b), rfl, SqL.of (by rw [upd_same, List.map_map]; rfl), _, rfl, ?_⟩
     have z := Same.new (o := .lst (os.map fun o : Option (List Str × Addr) => V.bl (offB b o))) hpp
     generalize upd H' pp (.lst (os.map fun o : Option (List Str × Addr) => V.bl (offB b o))) = H3 at z
     rw [any_bl]
     cases ea : os.any (offB b) with
     | false =>
      refine iteF ⟨rfl, z, fun o ho => ?_⟩
      have := List.any_eq_false.mp ea o ho
      cases o with
      | none => exact absurd rfl this
      | some q => exact ⟨q, rfl, by simpa [offB] using this⟩
     | true =>
      refine iteT (q1 H3 (s2.trans z) ?_)
      obtain ⟨o, ho, hb⟩ := List.any_eq_true.mp ea
      cases eall : stopsAll S.ti a es with
      | none => exact walks_all eall
      | some sts =>
       rw [walks_some eall]
       refine if_neg fun zz => ?_
       have hsome : ∀ o ∈ os, o.isSome = true := fun o ho => by
        obtain ⟨i, hi, e⟩ := List.getElem_of_mem ho
        have e' : os[i]? = some o := by rw [List.getElem?_eq_getElem hi, e]
        have e2 := congrArg (fun z => z[i]?) eos
        simp only [List.getElem?_map, e'] at e2
        cases o with
        | some _ => rfl
        | none =>
         have hde := List.getElem?_eq_getElem (l := es) (i := i) (by omega)
         rw [hde] at e2
         have : stopsOf S.ti a es[i] = none := by
          have e3 : some (none : Option (List Str)) = some (stopsOf S.ti a es[i]) := e2
          exact (Option.some.inj e3).symm
         rw [all_none hde this] at eall
         cases eall
       obtain ⟨L, rfl, e5⟩ := all_of eos hsome
       rw [eall] at e5
       have e6 : sts = L.map (·.1) := Option.some.inj e5
       obtain ⟨q, hq, rfl⟩ := List.mem_map.mp ho
       have := List.all_eq_true.mp zz.1 q.1 (by rw [e6]; exact List.mem_map.mpr ⟨q, hq, rfl⟩)
       have hb' : (!decide (q.1.getLast? = some b)) = true := hb
       rw [this] at hb'
       cases hb'
   rintro σ3 H3 ⟨rfl, s3, hlast⟩
   obtain ⟨L, rfl, eall⟩ := all_of eos fun o ho => by
    obtain ⟨q, rfl, _⟩ := hlast o ho
    rfl
   obtain ⟨W, eW, eN⟩ := names_parts eall
   have s03 := s2.trans s3
   have hWl : W.length = es.length := by rw [eW, List.length_map]
   have hparts : ∃ LW : List (List Str × Addr), xs = LW.map (fun q => V.ref q.2) ∧ LW.map (·.1) = W ∧ ∀ q ∈ LW, H q.2 = some (.lst (q.1.map V.str)) := parts_of (by rw [← eW]; exact pr)
   obtain ⟨LW, ex, eLW, hLW⟩ := hparts
   have eF : LW.flatMap (·.1) = namesAll es := by
    rw [eN, ← eLW, List.flatMap_def]
   have hl3 := s03 _ _ hl
   rw [ex] at hl3
   have lenF : (LW.flatMap (·.1)).length ≤ 1000 := by
    rw [eF]
    have : ∀ (ds : List PyData), (∀ x ∈ ds, ∀ e, x = .list e → e.length ≤ 30) → (namesAll ds).length ≤ ds.length * 30 := fun ds => by
     induction ds with
     | nil => intro _; exact Nat.zero_le _
     | cons d ds ih =>
      intro hh
      have h1 := ih fun x hx => hh x (List.mem_cons_of_mem _ hx)
      unfold namesAll at h1 ⊢
      rw [List.flatMap_cons, List.length_append, List.length_cons]
      have h2 : ((namesOf d).getD []).length ≤ 30 := by
       cases en : namesOf d with
       | none => exact Nat.zero_le _
       | some ws =>
        have := strs_list en
        have h3 := hh d List.mem_cons_self _ this
        rw [List.length_map] at h3
        exact h3
      omega
    have := this es hin
    omega
   refine ⟨_, rfl, l, LW, rfl, hl3, fun q hq => s03 _ _ (hLW q hq), lenF, fun wl H4 hwl s4 ewl => ?_⟩
   refine ⟨wl, _, rfl, ewl, lenF, fun H5 s5 => ⟨_, rfl, ?_⟩⟩
   rw [eF]
   have hall : ((L.map (·.1)).all fun st => decide (st.getLast? = some b)) = true := List.all_eq_true.mpr fun st hst => by
    obtain ⟨q, hq, rfl⟩ := List.mem_map.mp hst
    obtain ⟨q', e, hb⟩ := hlast (some q) (List.mem_map.mpr ⟨q, hq, rfl⟩)
    cases e
    exact decide_eq_true hb
   have s05 := s03.trans (s4.trans s5)
   by_cases hnd : (namesAll es).Nodup
   ·rw [decide_eq_true hnd]
    refine iteT ⟨_, rfl, q2 sl L H5 s05 ?_ (fun q hq => (s3.trans (s4.trans s5)) _ _ (hos q (List.mem_map.mpr ⟨q, hq, rfl⟩)).1) (by rw [List.length_map] at hol; omega) ?_⟩
    ·rw [(s3.trans (s4.trans s5)) _ _ esl, List.map_map]
     rfl
    ·rw [walks_some eall]
     exact if_pos ⟨hall, hnd⟩
   ·rw [decide_eq_false hnd]
    refine iteF (q1 H5 s05 ?_)
    rw [walks_some eall]
    exact if_neg fun z => hnd z.2
end
end Net
namespace L2
open PySem PySem.Spec PyProof.Rows
theorem sl_listK {X : Cx} (K : PySem.W.Frag) (hK : X.K = K) : SlR X (rSlL K) := by
 subst hK
 exact sl_list
end L2
namespace Net
open PySem L2
theorem all_len {ti : List Row} {a : Str} : ∀ {ds : List PyData} {sts : List (List Str)}, stopsAll ti a ds = some sts → sts.length = ds.length
 | [], sts, h => by cases h; rfl
 | d :: ds, sts, h => by
  have h' : (match stopsOf ti a d with | none => none | some st => (stopsAll ti a ds).map (st :: ·)) = some sts := h
  cases e : stopsOf ti a d with
  | none => rw [e] at h'; cases h'
  | some st =>
   rw [e] at h'
   cases e2 : stopsAll ti a ds with
   | none => rw [e2] at h'; cases h'
   | some s2 =>
    rw [e2] at h'
    cases h'
    rw [List.length_cons, List.length_cons, all_len e2]
theorem walks_list {S : NS} {a b : Str} {d : PyData} {sts : List (List Str)} (h : walksD S a b d = some sts) : ∃ ds, d = .list ds ∧ stopsAll S.ti a ds = some sts := by
 unfold walksD at h
 split at h
 ·rename_i ds
  cases e : stopsAll S.ti a ds with
  | none => rw [e] at h; cases h
  | some s2 =>
   rw [e] at h
   have h' : (if (s2.all fun st => decide (st.getLast? = some b)) = true ∧ (namesAll ds).Nodup then some s2 else none) = some sts := h
   split at h'
   ·cases h'
    exact ⟨ds, rfl, e⟩
   ·cases h'
 ·cases h
theorem stD_long {ti : List Row} : ∀ {ds : List PyData} {a : Str} {l : List Str}, stD ti a ds = some l → l.length = ds.length + 1
 | [], a, l, h => by cases h; rfl
 | d :: ds, a, l, h => by
  have h' : (stepD ti a d).bind (fun y => (stD ti y ds).map (a :: ·)) = some l := h
  cases es : stepD ti a d with
  | none => rw [es] at h'; cases h'
  | some y =>
   rw [es, Option.bind_some] at h'
   cases e2 : stD ti y ds with
   | none => rw [e2] at h'; cases h'
   | some l2 =>
    rw [e2] at h'
    cases h'
    rw [List.length_cons, List.length_cons, stD_long e2]
theorem all_short {ti : List Row} {a : Str} : ∀ {ds : List PyData} {sts : List (List Str)}, stopsAll ti a ds = some sts → (∀ x ∈ ds, ∀ e, x = .list e → e.length ≤ 30) → ∀ st ∈ sts, st ≠ [] ∧ st.length ≤ 31
 | [], sts, h, _ => by cases h; exact fun _ h => (nomatch h)
 | d :: ds, sts, h, hh => by
  have h' : (match stopsOf ti a d with | none => none | some st => (stopsAll ti a ds).map (st :: ·)) = some sts := h
  cases e : stopsOf ti a d with
  | none => rw [e] at h'; cases h'
  | some st =>
   rw [e] at h'
   cases e2 : stopsAll ti a ds with
   | none => rw [e2] at h'; cases h'
   | some s2 =>
    rw [e2] at h'
    cases h'
    intro x hx
    rcases List.mem_cons.mp hx with rfl | hx
    ·obtain ⟨ws, rfl, _⟩ := stops_names e
     have e3 : stD ti a (ws.map PyData.str) = some x := e
     have h1 := hh _ List.mem_cons_self _ rfl
     have h2 := stD_long e3
     exact ⟨stD_ne e3, by omega⟩
    ·exact all_short e2 (fun y hy => hh y (List.mem_cons_of_mem _ hy)) x hx
theorem flat_short {f : List Str → List Str} (hf : ∀ st, (f st).length ≤ st.length) : ∀ {sts : List (List Str)}, (∀ st ∈ sts, st.length ≤ 31) → (sts.flatMap f).length ≤ sts.length * 31
 | [], _ => Nat.zero_le _
 | st :: sts, h => by
  rw [List.flatMap_cons, List.length_append, List.length_cons]
  have h1 := h st List.mem_cons_self
  have h2 := flat_short hf (sts := sts) fun x hx => h x (List.mem_cons_of_mem _ hx)
  have h3 := hf st
  omega
def mid (st : List Str) : List Str := (st.drop 1).dropLast
theorem cut_mid {st : List Str} (h : st ≠ []) : cutV (st.map V.str) (some 1) (some (-1)) = (mid st).map V.str := by
 have hl : 1 ≤ st.length := List.length_pos_iff.mpr h
 unfold cutV mid
 have e1 : HT.sIx (st.map V.str).length 0 (some 1) = 1 := by
  rw [show (some (1 : Int)) = some ((1 : Nat) : Int) from rfl, HT.sIx_nat, List.length_map]
  omega
 have e2 : HT.sIx (st.map V.str).length (st.map V.str).length (some (-1)) = st.length - 1 := by
  show (if (-1 : Int) < 0 then ((-1 : Int) + ((st.map V.str).length : Int)).toNat else min (-1 : Int).toNat (st.map V.str).length) = _
  rw [if_pos (by decide), List.length_map]
  omega
 rw [e1, e2, ← List.map_drop, ← List.map_take]
 congr 1
 rw [List.dropLast_eq_take, List.length_drop]
def bareD (S : NS) (a b : Str) (d : PyData) : Option Int := match walksD S a b d with
 | none => none
 | some sts => if a ∈ sts.flatMap mid ∨ b ∈ sts.flatMap mid ∨ ¬ (sts.flatMap mid).Nodup then none else some (sts.length : Int)
def spWalks (C : Addr) (bare : Bool) : Sp := fun vs H Q _ => ∃ (p ds dl tt : Addr) (S : NS) (w a b : Str) (v : V) (n : Nat) (d : PyData), vs = [.ref p, .ref tt, v] ∧ NetS C H p ds dl S ∧ TeAt H tt w a b ∧ a ∈ S.pl ∧ PD H n v d ∧ n ≤ 50 ∧ W30 d ∧
 ∀ H', Same H H' → Q (oV (if bare then bareD S a b d else (walksD S a b d).map fun L => (L.length : Int))) H'
section
variable {P : Program} {w : World} {K : PySem.W.Frag} {mg : Str → Option Value} {base : Heap} {C : Addr}
theorem ok_abelow {f : Addr} {fd : FuncData} (F : Fun K "apart_below" "apart_below" s_apart_below f fd) (T : Txt K mg C) (cs : Can P w K mg base 4 "stops_of_walks" ["net", "term", "paper"] (spSow C)) : FnOk P w K mg base CX0 5 f fd ["net", "term", "paper"] (spWalks C false) := by
 refine F.ok sc_abelow (fun vs H Q E h => ?_) (fun cdv A outer s H vs Q E hr h => ?_)
 ·obtain ⟨p, ds, dl, tt, S, w', a, b, v, n, d, rfl, _⟩ := h
  rfl
 ·obtain ⟨p, ds, dl, tt, S, w', a, b, v, n, d, rfl, N, te, ha, pd, n50, hw, q⟩ := h
  refine ⟨_, (pss_one (ps_ret (pe_ifExp (pt_cmp (pc_isN (pe_callC cs hr (by rfl) (pa_cons (pv 0) (pa_cons (pv 1) (pa_cons (pv 2) pa_nil)))))) pe_non (pe_callB call_len_seq (by rfl) T.len b_len (pa_cons (pv 2) pa_nil))))), ?_⟩
  refine ⟨_, rfl, _, rfl, _, rfl, p, ds, dl, tt, S, w', a, b, v, n, d, rfl, N, te, ha, pd, n50, hw, fun H1 s1 e => ⟨_, rfl, iteTb (by rfl) ?_⟩, fun sl L H1 s1 esl hL h30 e => ⟨_, rfl, iteFb (by rfl) ?_⟩⟩
  ·have := q H1 s1
   rw [if_neg Bool.false_ne_true, e] at this
   exact this
  ·obtain ⟨es, rfl, eall⟩ := walks_list e
   obtain ⟨m, l, xs, rfl, rfl, hl, pr⟩ := pd.list_of
   have hxl : xs.length = es.length := Paired.length pr
   have hsl := all_len eall
   rw [List.length_map] at hsl
   refine ⟨_, rfl, l, _, rfl, .inl (SqL.of (s1 _ _ hl)), ?_⟩
   have := q H1 s1
   rw [if_neg Bool.false_ne_true, e] at this
   have e9 : xs.length = (L.map (·.1)).length := by rw [List.length_map]; omega
   rw [e9]
   exact this
abbrev Nbbelow : List Str := ["net", "term", "paper", "stops", "between"]
theorem sc_bbelow : FnScope Nbbelow ["net", "term", "paper"] (defScope s_bare_below) := ⟨rfl, rfl, rfl, by decide +kernel, rfl, by decide +kernel, by decide +kernel⟩
theorem ok_bbelow {f : Addr} {fd : FuncData} (F : Fun K "bare_below" "bare_below" s_bare_below f fd) (T : Txt K mg C) (cs : Can P w K mg base 4 "stops_of_walks" ["net", "term", "paper"] (spSow C)) (cu : Can P w K mg base 1 "are_unlike" ["names"] spAlike) (cj : Can P w K mg base 1 "joined" ["lists"] spJoined) : FnOk P w K mg base CX0 5 f fd ["net", "term", "paper"] (spWalks C true) := by
 refine F.ok sc_bbelow (fun vs H Q E h => ?_) (fun cdv A outer s H vs Q E hr h => ?_)
 ·obtain ⟨p, ds, dl, tt, S, w', a, b, v, n, d, rfl, _⟩ := h
  rfl
 ·obtain ⟨p, ds, dl, tt, S, w', a, b, v, n, d, rfl, N, te, ha, pd, n50, hw, q⟩ := h
  have r1 : Room 1 _ := hr.mono (by decide)
  have nd1 : List.Nodup (["row"] : List Str) := by decide +kernel
  refine ⟨_, (pss_cons (ps_set (i := 3) sc_bbelow.nd rfl (Or.inl rfl) (pe_callC cs hr (by rfl) (pa_cons (pv 0) (pa_cons (pv 1) (pa_cons (pv 2) pa_nil)))))
   (pss_cons (ps_if (pt_cmp (pc_isN (pv 3))) (pss_one (ps_ret pe_non)) pss_nil)
   (pss_cons (ps_set (i := 4) sc_bbelow.nd rfl (Or.inl rfl) (pe_callC cj r1 (by rfl) (pa_cons (pe_comp (N := ["row"]) (xs := 1) (js := []) rfl (compScope_of rfl) (pi_list (pv 3)) (fun _ _ _ _ => pg_name (i := 0) nd1 rfl (Or.inl rfl)) (fun _ _ _ _ => pts_nil) (fun _ _ _ _ => pe_slice (sl_listK K (by rfl)) (pv 0) (po_some pe_int) (po_some (pe_un un_neg pe_int)))) pa_nil)))
   (pss_cons (ps_if (PW.pt (pw_or (pt_cmpR op_in_seq (pe_ix ix_tup (pv 1) pe_int (fun _ _ => by rfl)) (pv 4) (by with_unfolding_all rfl)) (pw_or (pt_cmpR op_in_seq (pe_ix ix_tup (pv 1) pe_int (fun _ _ => by rfl)) (pv 4) (by with_unfolding_all rfl)) (pw_or1 (pt_not (pt_val (pe_callC cu r1 (by rfl) (pa_cons (pv 4) pa_nil)))))))) (pss_one (ps_ret pe_non)) pss_nil)
   (pss_one (ps_ret (pe_callB call_len_seq (by rfl) T.len b_len (pa_cons (pv 2) pa_nil)))))))), ?_⟩
  have term_a : ∀ {H'}, Same H H' → SqT K H' tt [.str w', .str a, .str b] := fun z => SqT.of (z _ _ te)
  refine ⟨_, rfl, _, rfl, _, rfl, p, ds, dl, tt, S, w', a, b, v, n, d, rfl, N, te, ha, pd, n50, hw, fun H1 s1 e => ⟨_, rfl, _, rfl, iteTb (by rfl) ?_⟩, fun sl L H1 s1 esl hL h30 e => ⟨_, rfl, _, rfl, iteFb (by rfl) ?_⟩⟩
  ·have := q H1 s1
   unfold bareD at this
   rw [if_pos rfl, e] at this
   exact this
  obtain ⟨es, rfl, eall⟩ := walks_list e
  have eb : bareD S a b (.list es) = if a ∈ (L.map (·.1)).flatMap mid ∨ b ∈ (L.map (·.1)).flatMap mid ∨ ¬ ((L.map (·.1)).flatMap mid).Nodup then none else some ((L.map (·.1)).length : Int) := by
   unfold bareD
   rw [e]
  have fin : ∀ {H' : Hp} {z : Option Int}, Same H H' → bareD S a b (.list es) = z → Q (oV z) H' := fun {H' z} s h => by
   have := q H' s
   rw [if_pos rfl, h] at this
   exact this
  obtain ⟨h30', hin⟩ := hw es rfl
  have hshort := all_short eall hin
  obtain ⟨m, l, xs, rfl, rfl, hl, pr⟩ := pd.list_of
  have hxl : xs.length = es.length := Paired.length pr
  have hsl := all_len eall
  rw [List.length_map] at hsl
  have midl : ∀ st, (mid st).length ≤ st.length := fun st => by
   unfold mid
   rw [List.length_dropLast, List.length_drop]
   omega
  refine ⟨_, rfl, sl, rfl, ⟨_, SqL.of esl⟩, comp_list (K := K) (ys := L.map fun q => V.ref q.2) (fun i acc σ' H' => Same H1 H' ∧ (∃ M : List (List Str × Addr), acc = M.map (fun q => V.ref q.2) ∧ M.map (·.1) = ((L.take i).map (·.1)).map mid ∧ ∀ q ∈ M, H' q.2 = some (.lst (q.1.map V.str))) ∧ ∃ o, σ' = [o])
   ⟨Same.refl _, ⟨[], rfl, rfl, fun _ h => (nomatch h)⟩, none, rfl⟩ (fun i acc σ' H' h => ?_) (by rw [List.length_map]; exact Nat.le_trans h30 (by decide)) (fun i acc σ' H' _ h => SqL.of (h.1 _ _ esl)) (fun i x acc σ' H' hx h => ?_) (fun acc σ' H' h pp hpp => ?_)⟩
  ·obtain ⟨_, ⟨M, rfl, eM, _⟩, _⟩ := h
   have := congrArg List.length eM
   rw [List.length_map, List.length_map, List.length_map, List.length_take] at this
   rw [List.length_map]
   omega
  ·obtain ⟨s2, ⟨M, rfl, eM, hM⟩, o, rfl⟩ := h
   rw [List.getElem?_map] at hx
   cases eq : L[i]? with
   | none => rw [eq] at hx; cases hx
   | some qq =>
    rw [eq] at hx
    cases hx
    have hq := List.mem_of_getElem? eq
    have hst := hshort qq.1 (List.mem_map.mpr ⟨qq, hq, rfl⟩)
    refine ⟨_, rfl, _, rfl, _, rfl, _, rfl, qq.2, _, rfl, SqL.of (s2 _ _ (hL qq hq)), fun r hr' => ?_⟩
    have z := Same.new (o := .lst (cutV (qq.1.map V.str) (some 1) (some (-1)))) hr'
    refine ⟨s2.trans z, ⟨M ++ [(mid qq.1, r)], by rw [List.map_append]; rfl, ?_, fun y hy => ?_⟩, _, rfl⟩
    ·rw [List.map_append, eM, List.take_add_one, eq, List.map_append, List.map_append]
     rfl
    ·rcases List.mem_append.mp hy with hy | hy
     ·exact z _ _ (hM y hy)
     ·rw [List.mem_singleton.mp hy]
      rw [upd_same, cut_mid hst.1]
  ·obtain ⟨s2, ⟨M, rfl, eM, hM⟩, o, rfl⟩ := h
   rw [List.length_map, List.take_length] at eM
   have z := Same.new (o := .lst (M.map fun q => V.ref q.2)) hpp
   have epp : (upd H' pp (.lst (M.map fun q => V.ref q.2))) pp = some (.lst (M.map fun q => V.ref q.2)) := upd_same
   generalize upd H' pp (.lst (M.map fun q => V.ref q.2)) = H3 at z epp
   have eF : M.flatMap (·.1) = (L.map (·.1)).flatMap mid := by
    rw [List.flatMap_def, eM, List.flatMap_def]
   have hF : (M.flatMap (·.1)).length ≤ 1000 := by
    rw [eF]
    have := flat_short (f := mid) midl (sts := L.map (·.1)) fun st hst => (hshort st hst).2
    rw [List.length_map] at this
    omega
   have s03 := s1.trans (s2.trans z)
   refine ⟨pp, M, rfl, epp, fun q hq => z _ _ (hM q hq), hF, fun wl H4 hwl s4 ewl => ?_⟩
   have s04 := s03.trans s4
   rw [eF] at ewl hF
   refine ⟨_, rfl, tt, _, _, .str a, rfl, rfl, term_a s04, rfl, _, rfl, wl, _, rfl, .inl (SqL.of ewl), rfl, flat_strs _, _, rfl, ?_⟩
   show if (if false = true then _ else inV (.str a) (((L.map (·.1)).flatMap mid).map V.str)) = true then _ else _
   rw [if_neg Bool.false_ne_true, inV_str]
   by_cases h1 : a ∈ (L.map (·.1)).flatMap mid
   ·rw [decide_eq_true h1]
    exact iteT (iteT (fin (z := none) s04 (by rw [eb]; exact if_pos (.inl h1))))
   ·rw [decide_eq_false h1]
    refine iteF ⟨_, rfl, tt, _, _, .str b, rfl, rfl, term_a s04, rfl, _, rfl, wl, _, rfl, .inl (SqL.of ewl), rfl, flat_strs _, _, rfl, ?_⟩
    show if (if false = true then _ else inV (.str b) (((L.map (·.1)).flatMap mid).map V.str)) = true then _ else _
    rw [if_neg Bool.false_ne_true, inV_str]
    by_cases h2 : b ∈ (L.map (·.1)).flatMap mid
    ·rw [decide_eq_true h2]
     exact iteT (iteT (fin (z := none) s04 (by rw [eb]; exact if_pos (.inr (.inl h2)))))
    ·rw [decide_eq_false h2]
     refine iteF ⟨_, rfl, wl, _, rfl, ewl, hF, fun H5 s5 => ⟨_, rfl, ?_⟩⟩
     have s05 := s04.trans s5
     by_cases h3 : ((L.map (·.1)).flatMap mid).Nodup
     ·rw [decide_eq_true h3]
      refine iteF ⟨_, rfl, l, _, rfl, .inl (SqL.of (s05 _ _ hl)), ?_⟩
      have e9 : xs.length = (L.map (·.1)).length := by rw [List.length_map]; omega
      rw [e9]
      exact fin (z := some ((L.map (·.1)).length : Int)) s05 (by rw [eb]; exact if_neg fun z => by rcases z with z | z | z; exact h1 z; exact h2 z; exact z h3)
     ·rw [decide_eq_false h3]
      exact iteT (fin (z := none) s05 (by rw [eb]; exact if_pos (.inr (.inr h3))))
end
end Net
namespace Net
open PySem L2
def pastR (ti : List Row) (ws us : List Str) : List Row := ti.filter fun r => decide (r.a ∈ ws) && !decide (r.b ∈ ws ++ us)
def shutB (S : NS) (a b : Str) (ws us : List Str) : Option Int := if (ws ++ us).Nodup ∧ a ∈ ws ∧ ¬ b ∈ ws ++ us ∧ ((pastR S.ti ws us).all fun r => decide (r.a = a) && decide (r.b = b)) = true then some ((us.length : Int) + ((pastR S.ti ws us).length : Int)) else none
def shutD (S : NS) (a b : Str) : PyData → Option Int
 | .list [d0, d1] => if unlikeD S.pl d0 = true ∧ unlikeD S.pl d1 = true then shutB S a b ((namesOf d0).getD []) ((namesOf d1).getD []) else none
 | _ => none
theorem shut_pair {S : NS} {a b : Str} {d : PyData} (h : isPair d = false) : shutD S a b d = none := by
 unfold shutD
 split
 ·cases h
 ·rfl
def spBAbove (C : Addr) : Sp := fun vs H Q _ => ∃ (p ds dl tt : Addr) (S : NS) (w a b : Str) (v : V) (n : Nat) (d : PyData), vs = [.ref p, .ref tt, v] ∧ NetS C H p ds dl S ∧ TeAt H tt w a b ∧ PD H n v d ∧ n ≤ 50 ∧ W30 d ∧ ∀ H', Same H H' → Q (oV (shutD S a b d)) H'
section
variable {P : Program} {w : World} {K : PySem.W.Frag} {mg : Str → Option Value} {base : Heap} {C : Addr}
abbrev Nbabove : List Str := ["net", "term", "paper", "side", "stops", "held", "leaving"]
theorem sc_babove : FnScope Nbabove ["net", "term", "paper"] (defScope s_bare_above) := ⟨rfl, rfl, rfl, by decide +kernel, rfl, by decide +kernel, by decide +kernel⟩
theorem ok_babove {f : Addr} {fd : FuncData} (F : Fun K "bare_above" "bare_above" s_bare_above f fd) (T : Txt K mg C) (cp : Can P w K mg base 2 "is_pair" ["paper"] spPairD) (cu : Can P w K mg base 3 "are_unlike_places" ["net", "paper"] (spUnlikeD C)) (cl : Can P w K mg base 1 "are_unlike" ["names"] spAlike) (m2 : CanM P w K mg base 1 C "ties" ["self"] (spTies C)) : FnOk P w K mg base CX0 5 f fd ["net", "term", "paper"] (spBAbove C) := by
 refine F.ok sc_babove (fun vs H Q E h => ?_) (fun cdv A outer s H vs Q E hr h => ?_)
 ·obtain ⟨p, ds, dl, tt, S, w', a, b, v, n, d, rfl, _⟩ := h
  rfl
 ·obtain ⟨p, ds, dl, tt, S, w', a, b, v, n, d, rfl, N, te, pd, n50, hw30, q⟩ := h
  have r1 : Room 1 _ := hr.mono (by decide)
  have r2 : Room 2 _ := hr.mono (by decide)
  have r3 : Room 3 _ := hr.mono (by decide)
  have nd2 : List.Nodup (["part", "net"] : List Str) := by decide +kernel
  have nd3 : List.Nodup (["row", "side", "held"] : List Str) := by decide +kernel
  have nd4 : List.Nodup (["row", "term"] : List Str) := by decide +kernel
  refine ⟨_, (pss_cutE (ps_if (PW.pt (pw_or (pt_not (pt_val (pe_callC cp r2 (by rfl) (pa_cons (pv 2) pa_nil)))) (pw_or1 (pt_not (pt_val (pe_callB (call_all rfl) (by rfl) T.all b_all (pa_cons (pe_comp (N := ["part", "net"]) (xs := 1) (js := [0]) rfl (compScope_of rfl) (pi_list (pv 2)) (fun _ _ _ _ => pg_name (i := 0) nd2 rfl (Or.inl rfl)) (fun _ _ _ _ => pts_nil) (fun _ _ _ _ => pe_callC cu r3 (by rfl) (pa_cons (pv 1) (pa_cons (pv 0) pa_nil)))) pa_nil))))))) (pss_one (ps_ret pe_non)) pss_nil)
   (pss_cons (ps_set (i := 3) sc_babove.nd rfl (Or.inr rfl) (pe_ix ix_list (pv 2) pe_int (fun _ _ => by rfl)))
   (pss_cons (ps_set (i := 4) sc_babove.nd rfl (Or.inl rfl) (pe_ix ix_list (pv 2) pe_int (fun _ _ => by rfl)))
   (pss_cons (ps_set (i := 5) sc_babove.nd rfl (Or.inr rfl) (pe_op op_cat (pv 3) (pv 4)))
   (pss_cutE (ps_if (PW.pt (pw_or (pt_not (pt_val (pe_callC cl r1 (by rfl) (pa_cons (pv 5) pa_nil)))) (pw_or (pt_cmpR op_notIn_seq (pe_ix ix_tup (pv 1) pe_int (fun _ _ => by rfl)) (pv 3) (by with_unfolding_all rfl)) (pw_or1 (pt_cmpR op_in_seq (pe_ix ix_tup (pv 1) pe_int (fun _ _ => by rfl)) (pv 5) (by with_unfolding_all rfl)))))) (pss_one (ps_ret pe_non)) pss_nil)
   (pss_cutE (ps_comp (j := 6) (N := ["row", "side", "held"]) (xs := 1) (js := [3, 5]) rfl sc_babove.nd rfl rfl (compScope_of rfl) (pi_list (pe_methC0 (pv 0) T.cl m2 r1)) (fun _ _ _ _ => pg_name (i := 0) nd3 rfl (Or.inl rfl))
     (fun _ _ _ _ => pts_one (PW.pt (pw_and (pt_cmpR (op_inK K (by rfl)) (pe_ix (ix_tupK K (by rfl)) (pv 0) pe_int (fun _ _ => by rfl)) (pv 1) (by with_unfolding_all rfl)) (pw_and1 (pt_cmpR (op_notInK K (by rfl)) (pe_ix (ix_tupK K (by rfl)) (pv 0) pe_int (fun _ _ => by rfl)) (pv 2) (by with_unfolding_all rfl)))))) (fun _ _ _ _ => pv 0) rfl)
   (pss_cutE (ps_if (pt_not (pt_val (pe_callB (call_all rfl) (by rfl) T.all b_all (pa_cons (pe_comp (N := ["row", "term"]) (xs := 1) (js := [1]) rfl (compScope_of rfl) (pi_list (pv 6)) (fun _ _ _ _ => pg_name (i := 0) nd4 rfl (Or.inl rfl)) (fun _ _ _ _ => pts_nil) (fun _ _ _ _ => pe_and (pe_cmpR op_eq (pe_ix (ix_tupK K (by rfl)) (pv 0) pe_int (fun _ _ => by rfl)) (pe_ix (ix_tupK K (by rfl)) (pv 1) pe_int (fun _ _ => by rfl)) (nomark _)) (pe_one (pe_cmpR op_eq (pe_ix (ix_tupK K (by rfl)) (pv 0) pe_int (fun _ _ => by rfl)) (pe_ix (ix_tupK K (by rfl)) (pv 1) pe_int (fun _ _ => by rfl)) (nomark _))))) pa_nil)))) (pss_one (ps_ret pe_non)) pss_nil)
   (pss_one (ps_ret (pe_op op_add (pe_callB call_len_seq (by rfl) T.len b_len (pa_cons (pv 4) pa_nil)) (pe_callB call_len_seq (by rfl) T.len b_len (pa_cons (pv 6) pa_nil)))))))))))), ?_⟩
  have term_a : ∀ {H'}, Same H H' → SqT K H' tt [.str w', .str a, .str b] := fun z => SqT.of (z _ _ te)
  have fin : ∀ {H' : Hp} {z : Option Int}, Same H H' → shutD S a b d = z → Q (oV z) H' := fun {H' z} s h => by
   have := q H' s
   rw [h] at this
   exact this
  refine ⟨fun σ' H' => ∃ (la : Addr) (l0 l1 : Addr) (ws us : List Str), σ' = [some (.ref p), some (.ref tt), some v, none, none, none, none] ∧ Same H H' ∧ v = .ref la ∧ H la = some (.lst [.ref l0, .ref l1]) ∧ H l0 = some (.lst (ws.map V.str)) ∧ H l1 = some (.lst (us.map V.str)) ∧ ws.length ≤ 30 ∧ us.length ≤ 30 ∧ shutD S a b d = shutB S a b ws us, ?_, ?_⟩
  ·refine ⟨_, rfl, v, n, d, rfl, pd, _, rfl, ?_⟩
   cases ep : isPair d with
   | false => exact iteT (iteT (fin (z := none) (Same.refl H) (shut_pair ep)))
   | true =>
    obtain ⟨d0, d1, rfl⟩ := isPair_of ep
    obtain ⟨m, la, xs, rfl, rfl, hla, pr⟩ := pd.list_of
    cases pr with
    | @cons x0 _ _ _ p0 pr =>
    cases pr with
    | @cons x1 _ _ _ p1 pr =>
    cases pr
    obtain ⟨_, hin⟩ := hw30 _ rfl
    have b0 := hin d0 (by simp)
    have b1 := hin d1 (by simp)
    have esh : shutD S a b (.list [d0, d1]) = if unlikeD S.pl d0 = true ∧ unlikeD S.pl d1 = true then shutB S a b ((namesOf d0).getD []) ((namesOf d1).getD []) else none := rfl
    have hprd : ∀ {i : Nat} {x : V}, [x0, x1][i]? = some x → ∃ dx, [d0, d1][i]? = some dx ∧ PD H m x dx ∧ ∀ e, dx = .list e → e.length ≤ 30 := fun {i x} hx => by
     match i with
     | 0 => cases hx; exact ⟨d0, rfl, p0, b0⟩
     | 1 => cases hx; exact ⟨d1, rfl, p1, b1⟩
     | _ + 2 => cases hx
    refine iteF ⟨_, rfl, la, rfl, ⟨_, SqL.of hla⟩, comp_list (K := K) (ys := [x0, x1]) (fun i acc σ' H' => Same H H' ∧ acc = (([d0, d1].take i).map fun x => V.bl (unlikeD S.pl x)) ∧ ∃ o, σ' = [o, some (.ref p)])
     ⟨Same.refl _, rfl, none, rfl⟩ (fun i acc σ' H' h => ?_) (by show 2 ≤ sizeLine; decide) (fun i acc σ' H' _ h => SqL.of (h.1 _ _ hla)) (fun i x acc σ' H' hx h => ?_) (fun acc σ' H' h pp hpp => ?_)⟩
    ·rw [h.2.1, List.length_map, List.length_take]; omega
    ·obtain ⟨s1, rfl, o, rfl⟩ := h
     obtain ⟨dx, hd, pdx, bx⟩ := hprd hx
     refine ⟨_, rfl, _, rfl, p, ds, dl, S, x, m, dx, rfl, N.net.same s1, N.okP, pdx.same s1, by omega, (fun e z => Nat.le_trans (bx e z) (by decide)), fun H2 s2 => ⟨s1.trans s2, ?_, _, rfl⟩⟩
     rw [List.take_add_one, hd, List.map_append]
     rfl
    ·obtain ⟨s1, rfl, o, rfl⟩ := h
     refine ⟨pp, [unlikeD S.pl d0, unlikeD S.pl d1], rfl, SqL.of upd_same, _, rfl, ?_⟩
     have z := s1.upd (o := .lst [V.bl (unlikeD S.pl d0), V.bl (unlikeD S.pl d1)]) hpp
     cases e0 : unlikeD S.pl d0 with
     | false => exact iteTb (by rfl) (fin (z := none) z (by rw [esh]; exact if_neg fun w => by rw [e0] at w; cases w.1))
     | true =>
      cases e1 : unlikeD S.pl d1 with
      | false => exact iteTb (by rfl) (fin (z := none) z (by rw [esh]; exact if_neg fun w => by rw [e1] at w; cases w.2))
      | true =>
       obtain ⟨l0, ws, rfl, rfl, hl0, _⟩ := unlikeD_true p0 e0
       obtain ⟨l1, us, rfl, rfl, hl1, _⟩ := unlikeD_true p1 e1
       have w30 := b0 _ rfl
       have u30 := b1 _ rfl
       rw [List.length_map] at w30 u30
       refine iteFb (by rfl) ⟨la, l0, l1, ws, us, rfl, z, rfl, hla, hl0, hl1, w30, u30, ?_⟩
       rw [esh, if_pos ⟨e0, e1⟩]
       have n0 : namesOf (.list (ws.map PyData.str)) = some ws := strsOf_map _
       have n1 : namesOf (.list (us.map PyData.str)) = some us := strsOf_map _
       rw [n0, n1]
       rfl
  rintro σ1 H1 ⟨la, l0, l1, ws, us, rfl, s1, rfl, hla, hl0, hl1, hw3, hu3, esh⟩
  refine ⟨_, rfl, la, _, _, .ref l0, rfl, rfl, SqL.of (s1 _ _ hla), atI_nat (j := 0) rfl, ?_⟩
  refine ⟨_, rfl, la, _, _, .ref l1, rfl, rfl, SqL.of (s1 _ _ hla), atI_nat (j := 1) rfl, ?_⟩
  refine ⟨_, rfl, _, rfl, l0, l1, _, _, rfl, rfl, s1 _ _ hl0, s1 _ _ hl1, Nat.le_trans (show (ws.map V.str).length + (us.map V.str).length ≤ 60 by rw [List.length_map, List.length_map]; omega) (by decide), fun hd hhd => ?_⟩
  have z2 := Same.new (o := .lst (ws.map V.str ++ us.map V.str)) hhd
  have ehd : (upd H1 hd (.lst (ws.map V.str ++ us.map V.str))) hd = some (.lst ((ws ++ us).map V.str)) := by rw [upd_same, List.map_append]
  generalize upd H1 hd (.lst (ws.map V.str ++ us.map V.str)) = H2 at z2 ehd
  have s2 := s1.trans z2
  have no : ∀ {H'}, Same H H' → ¬ ((ws ++ us).Nodup ∧ a ∈ ws ∧ ¬ b ∈ ws ++ us ∧ ((pastR S.ti ws us).all fun r => decide (r.a = a) && decide (r.b = b)) = true) → Q .non H' := fun z h => fin (z := none) z (by rw [esh]; exact if_neg h)
  refine ⟨fun σ' H' => σ' = [some (.ref p), some (.ref tt), some (.ref la), some (.ref l0), some (.ref l1), some (.ref hd), none] ∧ Same H2 H' ∧ (ws ++ us).Nodup ∧ a ∈ ws ∧ ¬ b ∈ ws ++ us, ?_, ?_⟩
  ·refine ⟨_, rfl, hd, _, rfl, ehd, Nat.le_trans (show (ws ++ us).length ≤ 60 by rw [List.length_append]; omega) (by decide), fun H3 s3 => ⟨_, rfl, ?_⟩⟩
   have s03 := s2.trans s3
   by_cases h0 : (ws ++ us).Nodup
   ·rw [decide_eq_true h0]
    refine iteF ⟨_, rfl, tt, _, _, .str a, rfl, rfl, term_a s03, rfl, _, rfl, l0, _, rfl, .inl (SqL.of (s03 _ _ hl0)), rfl, flat_strs _, _, rfl, ?_⟩
    show if (if true = true then !inV (.str a) (ws.map V.str) else _) = true then _ else _
    rw [if_pos rfl, inV_str]
    by_cases h1 : a ∈ ws
    ·rw [decide_eq_true h1]
     refine iteF ⟨_, rfl, tt, _, _, .str b, rfl, rfl, term_a s03, rfl, _, rfl, hd, _, rfl, .inl (SqL.of (s3 _ _ ehd)), rfl, flat_strs _, _, rfl, ?_⟩
     show if (if false = true then _ else inV (.str b) ((ws ++ us).map V.str)) = true then _ else _
     rw [if_neg Bool.false_ne_true, inV_str]
     by_cases h2 : b ∈ ws ++ us
     ·rw [decide_eq_true h2]
      exact iteT (no s03 fun z => z.2.2.1 h2)
     ·rw [decide_eq_false h2]
      exact iteF ⟨rfl, s3, h0, h1, h2⟩
    ·rw [decide_eq_false h1]
     exact iteT (iteT (no s03 fun z => h1 z.2.1))
   ·rw [decide_eq_false h0]
    exact iteT (iteT (no s03 fun z => h0 z.1))
  rintro σ3 H3 ⟨rfl, s3, h0, h1, h2⟩
  have s03 := s2.trans s3
  have ehd3 := s3 _ _ ehd
  refine ⟨fun σ' H' => ∃ (rl : Addr) (LA : List (Row × Addr)), σ' = [some (.ref p), some (.ref tt), some (.ref la), some (.ref l0), some (.ref l1), some (.ref hd), some (.ref rl)] ∧ Same H3 H' ∧ Rows H' LA (pastR S.ti ws us) ∧ H' rl = some (.lst (LA.map fun q => V.ref q.2)), ?_, ?_⟩
  ·have NA := N.net.same s03
   obtain ⟨dx, hob⟩ := NA.ob
   refine ⟨_, rfl, p, dx, _, rfl, hob, flds_no ds dl (by decide +kernel) (by decide +kernel), p, ds, dl, S, rfl, NA, fun tl H4 L htl s4 RL etl => ?_⟩
   have RL4 := RL.same s4
   have hL : L.length = S.ti.length := by rw [← RL.1, List.length_map]
   have hl04 := s4 _ _ (s03 _ _ hl0)
   have ehd4 := s4 _ _ ehd3
   refine ⟨tl, rfl, ⟨_, SqL.of etl⟩, comp_list (K := K) (ys := L.map fun q => V.ref q.2) (fun i acc σ' H' => H' = H4 ∧ acc = ((L.take i).filter fun q => decide (q.1.a ∈ ws) && !decide (q.1.b ∈ ws ++ us)).map (fun q => V.ref q.2) ∧ ∃ o, σ' = [o, some (.ref l0), some (.ref hd)])
    ⟨rfl, rfl, none, rfl⟩ (fun i acc σ' H' h => ?_) ?_ (fun i acc σ' H' _ h => by rw [h.1]; exact SqL.of etl) (fun i x acc σ' H' hx h => ?_) (fun acc σ' H' h rl hrl => ?_)⟩
   ·obtain ⟨_, rfl, _⟩ := h
    rw [List.length_map]
    exact Nat.le_trans (List.length_filter_le _ _) (by rw [List.length_take]; omega)
   ·rw [List.length_map, hL]
    exact Nat.le_trans N.few (by decide)
   ·obtain ⟨rfl, rfl, o3, rfl⟩ := h
    rw [List.getElem?_map] at hx
    cases eq : L[i]? with
    | none => rw [eq] at hx; cases hx
    | some qq =>
     rw [eq] at hx
     cases hx
     have ht := RL4.2 qq (List.mem_of_getElem? eq)
     have tk := fun c hc => take_filter (f := fun q : Row × Addr => decide (q.1.a ∈ ws) && !decide (q.1.b ∈ ws ++ us)) eq c hc
     refine ⟨_, rfl, qq.2, _, _, .str qq.1.a, rfl, rfl, SqT.of ht, rfl, _, rfl, l0, _, rfl, .inl (SqL.of hl04), rfl, flat_strs _, _, rfl, ?_⟩
     show if (if false = true then _ else inV (.str qq.1.a) (ws.map V.str)) = true then _ else _
     rw [if_neg Bool.false_ne_true, inV_str]
     by_cases g1 : qq.1.a ∈ ws
     ·rw [decide_eq_true g1]
      refine iteT ⟨_, rfl, qq.2, _, _, .str qq.1.b, rfl, rfl, SqT.of ht, rfl, _, rfl, hd, _, rfl, .inl (SqL.of ehd4), rfl, flat_strs _, _, rfl, ?_⟩
      show if (if true = true then !inV (.str qq.1.b) ((ws ++ us).map V.str) else _) = true then _ else _
      rw [if_pos rfl, inV_str]
      by_cases g2 : qq.1.b ∈ ws ++ us
      ·rw [decide_eq_true g2]
       refine iteF ⟨rfl, ?_, _, rfl⟩
       rw [tk false (by rw [decide_eq_true g2, Bool.not_true, Bool.and_false])]
       simp
      ·rw [decide_eq_false g2]
       refine iteT ⟨_, rfl, rfl, ?_, _, rfl⟩
       rw [tk true (by rw [decide_eq_true g1, decide_eq_false g2]; rfl), List.map_append]
       rfl
     ·rw [decide_eq_false g1]
      refine iteF (iteF ⟨rfl, ?_, _, rfl⟩)
      rw [tk false (by rw [decide_eq_false g1, Bool.false_and])]
      simp
   ·obtain ⟨rfl, rfl, o3, rfl⟩ := h
    rw [List.length_map, List.take_length]
    have z := Same.new (o := .lst ((L.filter fun q => decide (q.1.a ∈ ws) && !decide (q.1.b ∈ ws ++ us)).map fun q => V.ref q.2)) hrl
    refine ⟨rl, _, rfl, s4.trans z, ⟨?_, fun q hq => z _ _ (RL4.2 q (List.mem_filter.mp hq).1)⟩, upd_same⟩
    unfold pastR
    rw [← RL.1, List.filter_map]
    rfl
  rintro σ4 H4 ⟨rl, LA, rfl, s4, RA, erl⟩
  have s04 := s03.trans s4
  have hLA : LA.length = (pastR S.ti ws us).length := by rw [← RA.1, List.length_map]
  have h40 : (pastR S.ti ws us).length ≤ 40 := Nat.le_trans (List.length_filter_le _ _) N.few
  refine ⟨fun σ' H' => σ' = [some (.ref p), some (.ref tt), some (.ref la), some (.ref l0), some (.ref l1), some (.ref hd), some (.ref rl)] ∧ Same H4 H' ∧ ((pastR S.ti ws us).all fun r => decide (r.a = a) && decide (r.b = b)) = true, ?_, ?_⟩
  ·refine ⟨_, rfl, rl, rfl, ⟨_, SqL.of erl⟩, comp_list (K := K) (ys := LA.map fun q => V.ref q.2) (fun i acc σ' H' => H' = H4 ∧ acc = (((pastR S.ti ws us).take i).map fun r => V.bl (decide (r.a = a) && decide (r.b = b))) ∧ ∃ o, σ' = [o, some (.ref tt)])
    ⟨rfl, rfl, none, rfl⟩ (fun i acc σ' H' h => ?_) (by rw [List.length_map, hLA]; exact Nat.le_trans h40 (by decide)) (fun i acc σ' H' _ h => by rw [h.1]; exact SqL.of erl) (fun i x acc σ' H' hx h => ?_) (fun acc σ' H' h pp hpp => ?_)⟩
   ·rw [h.2.1, List.length_map, List.length_take]; omega
   ·obtain ⟨rfl, rfl, o3, rfl⟩ := h
    rw [List.getElem?_map] at hx
    cases eq : LA[i]? with
    | none => rw [eq] at hx; cases hx
    | some qq =>
     rw [eq] at hx
     cases hx
     have ht := RA.2 qq (List.mem_of_getElem? eq)
     have er : (pastR S.ti ws us)[i]? = some qq.1 := by rw [← RA.1, List.getElem?_map, eq]; rfl
     have tk : ((pastR S.ti ws us).take (i + 1)).map (fun r : Row => V.bl (decide (r.a = a) && decide (r.b = b))) = ((pastR S.ti ws us).take i).map (fun r : Row => V.bl (decide (r.a = a) && decide (r.b = b))) ++ [V.bl (decide (qq.1.a = a) && decide (qq.1.b = b))] := by
      rw [List.take_add_one, er, List.map_append]
      rfl
     refine ⟨_, rfl, qq.2, _, _, .str qq.1.a, rfl, rfl, SqT.of ht, rfl, _, rfl, tt, _, _, .str a, rfl, rfl, term_a s04, rfl, rfl, _, rfl, ?_⟩
     by_cases g1 : qq.1.a = a
     ·refine iteTb (by simp [g1]) ⟨_, rfl, qq.2, _, _, .str qq.1.b, rfl, rfl, SqT.of ht, rfl, _, rfl, tt, _, _, .str b, rfl, rfl, term_a s04, rfl, rfl, rfl, ?_, _, rfl⟩
      rw [tk]
      congr 3
      by_cases g2 : qq.1.b = b
      ·simp [g1, g2]
      ·simp [g1, g2]
     ·refine iteFb (by simp [g1]) ⟨rfl, ?_, _, rfl⟩
      rw [tk]
      congr 3
      simp [g1]
   ·obtain ⟨rfl, rfl, o3, rfl⟩ := h
    rw [List.length_map, hLA, List.take_length]
    refine ⟨pp, (pastR S.ti ws us).map fun r => decide (r.a = a) && decide (r.b = b), rfl, SqL.of (by rw [upd_same, List.map_map]; rfl), _, rfl, ?_⟩
    have z := Same.new (o := .lst ((pastR S.ti ws us).map fun r => V.bl (decide (r.a = a) && decide (r.b = b)))) hpp
    generalize upd H' pp (.lst ((pastR S.ti ws us).map fun r => V.bl (decide (r.a = a) && decide (r.b = b)))) = H5 at z
    have ea : ((pastR S.ti ws us).map fun r => decide (r.a = a) && decide (r.b = b)).all id = (pastR S.ti ws us).all fun r => decide (r.a = a) && decide (r.b = b) := by rw [List.all_map]; rfl
    rw [ea]
    cases e1 : ((pastR S.ti ws us).all fun r => decide (r.a = a) && decide (r.b = b)) with
    | true => exact iteF ⟨rfl, z, rfl⟩
    | false => exact iteT (no (s04.trans z) fun w => by rw [e1] at w; cases w.2.2.2)
  rintro σ5 H5 ⟨rfl, s5, hall⟩
  have s05 := s04.trans s5
  refine ⟨_, rfl, l1, _, rfl, .inl (SqL.of (s05 _ _ hl1)), _, rfl, rl, _, rfl, .inl (SqL.of (s5 _ _ erl)), _, _, rfl, rfl, ?_⟩
  rw [List.length_map, List.length_map, hLA]
  exact fin (z := some ((us.length : Int) + ((pastR S.ti ws us).length : Int))) s05 (by rw [esh]; exact if_pos ⟨h0, h1, h2, hall⟩)
end
end Net
namespace Net
open PySem L2
def wordB (ba : Bool) : Str := if ba then "bare" else "apart"
theorem v_num (ba : Bool) : decide (V.str (wordB ba) = V.str "number") = false := by cases ba <;> decide +kernel
theorem v_size (ba : Bool) : decide (V.str (wordB ba) = V.str "size") = false := by cases ba <;> decide +kernel
theorem v_pairs (ba : Bool) : decide (V.str (wordB ba) = V.str "pairs") = false := by cases ba <;> decide +kernel
theorem v_times (ba : Bool) : decide (V.str (wordB ba) = V.str "times") = false := by cases ba <;> decide +kernel
theorem v_three (ba : Bool) : inV (.str (wordB ba)) [.str "plus", .str "least", .str "most"] = false := by cases ba <;> decide +kernel
theorem v_flow (ba : Bool) : decide (V.str (wordB ba) = V.str "flow") = false := by cases ba <;> decide +kernel
theorem v_apart (ba : Bool) : decide (V.str (wordB ba) = V.str "apart") = !ba := by cases ba <;> decide +kernel
def shownB (S : NS) (ba ab : Bool) (a b : Str) (d : PyData) : Option Int :=
 if a = b then (if isNil d then some 0 else none) else if ab then (if ba then shutD S a b d else (leavD S a b d).map fun L => (L.length : Int)) else if ba then bareD S a b d else (walksD S a b d).map fun L => (L.length : Int)
def spShown53 (C : Addr) : Sp := fun vs H Q _ => ∃ (p ds dl tt : Addr) (S : NS) (ba ab : Bool) (a b : Str) (v : V) (n : Nat) (d : PyData), vs = [.ref p, .ref tt, .bl ab, v] ∧ NetS C H p ds dl S ∧ TeAt H tt (wordB ba) a b ∧ a ∈ S.pl ∧ PD H n v d ∧ n ≤ 50 ∧ W30 d ∧
 ∀ H', Same H H' → Q (oV (shownB S ba ab a b d)) H'
def spAcross53 (C : Addr) : Sp := fun vs H Q _ => ∃ (p ds dl tt : Addr) (S : NS) (ba ab : Bool) (a b : Str) (v : V) (n : Nat) (d : PyData), vs = [.ref p, .ref tt, .bl ab, v] ∧ NetS C H p ds dl S ∧ TeAt H tt (wordB ba) a b ∧ a ∈ S.pl ∧ PD H n v d ∧ n ≤ 50 ∧ W30 d ∧ ¬ a = b ∧
 ∀ H', Same H H' → Q (oV (shownB S ba ab a b d)) H'
section
variable {P : Program} {w : World} {K : PySem.W.Frag} {mg : Str → Option Value} {base : Heap} {C : Addr}
theorem ok_across53 {f : Addr} {fd : FuncData} (F : Fun K "shown_across" "shown_across" s_shown_across f fd) (c1 : Can P w K mg base 5 "apart_above" ["net", "term", "paper"] (spAbove52 C false)) (c2 : Can P w K mg base 5 "apart_below" ["net", "term", "paper"] (spWalks C false)) (c3 : Can P w K mg base 5 "bare_above" ["net", "term", "paper"] (spBAbove C)) (c4 : Can P w K mg base 5 "bare_below" ["net", "term", "paper"] (spWalks C true)) :
  FnOk P w K mg base CX0 6 f fd ["net", "term", "above", "paper"] (spAcross53 C) := by
 refine F.ok sc_across (fun vs H Q E h => ?_) (fun cdv A outer s H vs Q E hr h => ?_)
 ·obtain ⟨p, ds, dl, tt, S, ba, ab, a, b, v, n, d, rfl, _⟩ := h
  rfl
 ·obtain ⟨p, ds, dl, tt, S, ba, ab, a, b, v, n, d, rfl, N, te, ha, pd, n50, hw, hne, q⟩ := h
  refine ⟨_, (pss_cons (ps_if (pt_cmpR op_eq (pe_ix ix_tup (pv 1) pe_int (fun _ _ => by rfl)) pe_str (nomark _)) (pss_one ps_never) pss_nil)
   (pss_cons (ps_if (pt_cmpR op_eq (pe_ix ix_tup (pv 1) pe_int (fun _ _ => by rfl)) pe_str (nomark _)) (pss_one (ps_ret (pe_ifExp (pt_val (pv 2)) (pe_callC c1 hr (by rfl) (pa_cons (pv 0) (pa_cons (pv 1) (pa_cons (pv 3) pa_nil)))) (pe_callC c2 hr (by rfl) (pa_cons (pv 0) (pa_cons (pv 1) (pa_cons (pv 3) pa_nil))))))) pss_nil)
   (pss_one (ps_ret (pe_ifExp (pt_val (pv 2)) (pe_callC c3 hr (by rfl) (pa_cons (pv 0) (pa_cons (pv 1) (pa_cons (pv 3) pa_nil)))) (pe_callC c4 hr (by rfl) (pa_cons (pv 0) (pa_cons (pv 1) (pa_cons (pv 3) pa_nil))))))))), ?_⟩
  have te' : H tt = some (.tup [.str (wordB ba), .str a, .str b]) := te
  have esh : ∀ {z : Option Int}, (if ab then (if ba then shutD S a b d else (leavD S a b d).map fun L => (L.length : Int)) else if ba then bareD S a b d else (walksD S a b d).map fun L => (L.length : Int)) = z → ∀ H', Same H H' → Q (oV z) H' := fun {z} e H' s' => by
   have := q H' s'
   unfold shownB at this
   rw [if_neg hne, e] at this
   exact this
  refine ⟨_, rfl, tt, _, _, .str (wordB ba), rfl, rfl, SqT.of te', rfl, rfl, _, rfl, iteFb (v_flow ba) ?_⟩
  refine ⟨_, rfl, tt, _, _, .str (wordB ba), rfl, rfl, SqT.of te', rfl, rfl, _, rfl, ?_⟩
  cases ba with
  | false =>
   refine iteTb (v_apart false) ⟨_, rfl, _, rfl, ?_⟩
   cases ab with
   | true => exact iteT ⟨_, rfl, _, rfl, _, rfl, p, ds, dl, tt, S, _, a, b, v, n, d, rfl, N, te, pd, n50, (fun e z => Nat.le_trans (hw e z).1 (by decide)), esh rfl⟩
   | false => exact iteF ⟨_, rfl, _, rfl, _, rfl, p, ds, dl, tt, S, _, a, b, v, n, d, rfl, N, te, ha, pd, n50, hw, esh rfl⟩
  | true =>
   refine iteFb (v_apart true) ⟨_, rfl, _, rfl, ?_⟩
   cases ab with
   | true => exact iteT ⟨_, rfl, _, rfl, _, rfl, p, ds, dl, tt, S, _, a, b, v, n, d, rfl, N, te, pd, n50, hw, esh rfl⟩
   | false => exact iteF ⟨_, rfl, _, rfl, _, rfl, p, ds, dl, tt, S, _, a, b, v, n, d, rfl, N, te, ha, pd, n50, hw, esh rfl⟩
theorem ok_shown53 {f : Addr} {fd : FuncData} (F : Fun K "shown_bound" "shown_bound" s_shown_bound f fd) (ca : Can P w K mg base 6 "shown_across" ["net", "term", "above", "paper"] (spAcross53 C)) : FnOk P w K mg base CX0 7 f fd ["net", "term", "above", "paper"] (spShown53 C) := by
 refine F.ok sc_shown (fun vs H Q E h => ?_) (fun cdv A outer s H vs Q E hr h => ?_)
 ·obtain ⟨p, ds, dl, tt, S, ba, ab, a, b, v, n, d, rfl, _⟩ := h
  rfl
 ·obtain ⟨p, ds, dl, tt, S, ba, ab, a, b, v, n, d, rfl, N, te, ha, pd, n50, hw, q⟩ := h
  have hU := hr.units
  refine ⟨_, (pss_cons (ps_if (pt_cmpR op_eq (pe_ix ix_tup (pv 1) pe_int (fun _ _ => by rfl)) pe_str (nomark _)) (pss_one ps_never) pss_nil)
   (pss_cons (ps_if (pt_cmpR op_eq (pe_ix ix_tup (pv 1) pe_int (fun _ _ => by rfl)) pe_str (nomark _)) (pss_one ps_never) pss_nil)
   (pss_cons (ps_if (pt_cmpR op_eq (pe_ix ix_tup (pv 1) pe_int (fun _ _ => by rfl)) pe_str (nomark _)) (pss_one ps_never) pss_nil)
   (pss_cons (ps_if (pt_cmpR op_eq (pe_ix ix_tup (pv 1) pe_int (fun _ _ => by rfl)) pe_str (nomark _)) (pss_one ps_never) pss_nil)
   (pss_cons (ps_if (pt_cmpR op_in_seq (pe_ix ix_tup (pv 1) pe_int (fun _ _ => by rfl)) (pe_tup (pa_cons pe_str (pa_cons pe_str (pa_cons pe_str pa_nil)))) (by with_unfolding_all rfl)) (pss_one ps_never) pss_nil)
   (pss_cons (ps_if (pt_cmpR op_eq (pe_ix ix_tup (pv 1) pe_int (fun _ _ => by rfl)) (pe_ix ix_tup (pv 1) pe_int (fun _ _ => by rfl)) (nomark _)) (pss_one (ps_ret (pe_ifExp (pt_cmpR (op_eqD hU) (pv 3) (pe_lst pa_nil) (nomark _)) pe_int pe_non))) pss_nil)
   (pss_one (ps_ret (pe_callC ca hr (by rfl) (pa_cons (pv 0) (pa_cons (pv 1) (pa_cons (pv 2) (pa_cons (pv 3) pa_nil))))))))))))), ?_⟩
  have te' : H tt = some (.tup [.str (wordB ba), .str a, .str b]) := te
  refine ⟨_, rfl, tt, _, _, .str (wordB ba), rfl, rfl, SqT.of te', rfl, rfl, _, rfl, iteFb (v_num ba) ?_⟩
  refine ⟨_, rfl, tt, _, _, .str (wordB ba), rfl, rfl, SqT.of te', rfl, rfl, _, rfl, iteFb (v_size ba) ?_⟩
  refine ⟨_, rfl, tt, _, _, .str (wordB ba), rfl, rfl, SqT.of te', rfl, rfl, _, rfl, iteFb (v_pairs ba) ?_⟩
  refine ⟨_, rfl, tt, _, _, .str (wordB ba), rfl, rfl, SqT.of te', rfl, rfl, _, rfl, iteFb (v_times ba) ?_⟩
  refine ⟨_, rfl, tt, _, _, .str (wordB ba), rfl, rfl, SqT.of te', rfl, (by show 3 ≤ sizeLine; decide), fun t3 ht3 => ?_⟩
  have z := Same.new (o := .tup [.str "plus", .str "least", .str "most"]) ht3
  refine ⟨t3, _, rfl, .inr (SqT.of upd_same), rfl, rfl, _, rfl, ?_⟩
  generalize upd H t3 (.tup [.str "plus", .str "least", .str "most"]) = H1 at z
  show if (if false = true then _ else inV (.str (wordB ba)) [.str "plus", .str "least", .str "most"]) = true then _ else _
  rw [if_neg Bool.false_ne_true, v_three ba]
  refine iteF ⟨_, rfl, tt, _, _, .str a, rfl, rfl, SqT.of (z _ _ te'), rfl, _, rfl, tt, _, _, .str b, rfl, rfl, SqT.of (z _ _ te'), rfl, rfl, _, rfl, ?_⟩
  by_cases hab : a = b
  ·refine iteTb (by rw [hab]; simp) ⟨_, rfl, by decide, fun ee hee => ⟨n + 2, _, _, by omega, ((pd.same (z.upd hee)).mono 2).rd, rd_nil2 upd_same, _, rfl, ?_⟩⟩
   have z2 := z.upd (o := .lst []) hee
   generalize upd H1 ee (.lst []) = H2 at z2
   show if (if false = true then _ else PyData.eqv d (.list [])) = true then _ else _
   rw [if_neg Bool.false_ne_true, eqv_isNil]
   have := q H2 z2
   unfold shownB at this
   rw [if_pos hab] at this
   cases en : isNil d with
   | true =>
    rw [en] at this
    exact iteT this
   | false =>
    rw [en] at this
    exact iteF this
  ·exact iteFb (by simp [hab]) ⟨_, rfl, _, rfl, _, rfl, _, rfl, p, ds, dl, tt, S, ba, ab, a, b, v, n, d, rfl, N.same z, z _ _ te, ha, pd.same z, n50, hw, hab, fun H2 s2 => q H2 (z.trans s2)⟩
end
end Net
namespace Net
open PySem L2
theorem pd_refl {H : Hp} : ∀ {n : Nat} {v : V} {d : PyData}, PD H n v d → PyData.eqv d d = true
 | 0, v, d, h => by
  cases v <;> first | exact h.elim | (cases (show d = _ from h); simp [PyData.eqv]; done) | (cases h.2; simp [PyData.eqv]; done)
 | n + 1, v, d, h => by
  have al : ∀ {xs : List V} {ds : List PyData}, Paired (PD H n) xs ds → PyData.eqvAll ds ds = true := fun {xs ds} p => by
   induction p with
   | nil => rfl
   | cons h _ ih => rw [PyData.eqvAll, pd_refl h, ih]; rfl
  cases v <;> first | exact h.elim | (cases (show d = _ from h); simp [PyData.eqv]; done) | (cases h.2; simp [PyData.eqv]; done) | skip
  rcases h with ⟨xs, ds, e, rfl, p⟩ | ⟨xs, ds, e, rfl, p⟩
  ·rw [PyData.eqv]; exact al p
  ·rw [PyData.eqv]; exact al p
end Net
namespace Net
open PySem L2
end Net
namespace Net
open PySem L2
abbrev TripV := V × Str × Str
def TripV.vs (t : TripV) : List V := [t.1, .str t.2.1, .str t.2.2]
def TripsV (H : Hp) (L : List (TripV × Addr)) (T : List TripV) : Prop := L.map (·.1) = T ∧ ∀ q ∈ L, H q.2 = some (.tup (TripV.vs q.1))
theorem TripsV.same {H H' : Hp} {L : List (TripV × Addr)} {T : List TripV} (s : Same H H') (h : TripsV H L T) : TripsV H' L T := ⟨h.1, fun q hq => s _ _ (h.2 q hq)⟩
inductive PathV (T : List TripV) (a : Str) : List V → List Str → Str → Prop
 | nil : PathV T a [] [a] a
 | snoc {ws : List V} {vis : List Str} {x y : Str} {nm : V} (p : PathV T a ws vis x) (h : (nm, x, y) ∈ T) (hy : y ∉ vis) : PathV T a (ws ++ [nm]) (vis ++ [y]) y
def ClosedV (T : List TripV) (S : List Str) : Prop := ∀ t ∈ T, t.2.1 ∈ S → t.2.2 ∈ S
abbrev FdV := Str × List V × Addr
def fdKVV (G : List FdV) : List (Key × V) := G.map fun g => (Sum.inr g.1, V.ref g.2.2)
def keysV (G : List FdV) : List Str := G.map (·.1)
structure FdAtV (H : Hp) (d : Addr) (T : List TripV) (a : Str) (G : List FdV) : Prop where
 ob : H d = some (.dK (fdKVV G))
 ws : ∀ g ∈ G, H g.2.2 = some (.lst g.2.1) ∧ (∃ vis, PathV T a g.2.1 vis g.1 ∧ ∀ x ∈ vis, x ∈ keysV G) ∧ g.2.1.length < G.length
 nd : (keysV G).Nodup
theorem FdAtV.same {H H' : Hp} {d : Addr} {T : List TripV} {a : Str} {G : List FdV} (s : Same H H') (h : FdAtV H d T a G) : FdAtV H' d T a G :=
 ⟨s _ _ h.ob, fun g hg => ⟨s _ _ (h.ws g hg).1, (h.ws g hg).2⟩, h.nd⟩
theorem fd_getV {G : List FdV} {x : Str} (h : x ∈ keysV G) : ∃ g ∈ G, g.1 = x ∧ valV (fdKVV G) (Sum.inr x : Key) = some (.ref g.2.2) := by
 induction G with
 | nil => exact nomatch h
 | cons g r ih =>
  by_cases e : g.1 = x
  ·exact ⟨g, List.mem_cons_self, e, valV_pos (congrArg Sum.inr e)⟩
  ·have h' : x ∈ keysV r := by
    rcases List.mem_cons.mp h with z | z
    ·exact absurd z.symm e
    ·exact z
   obtain ⟨g', h1, h2, h3⟩ := ih h'
   refine ⟨g', List.mem_cons_of_mem _ h1, h2, ?_⟩
   show valV (_ :: fdKVV r) _ = _
   rw [valV_neg (fun z => e (Sum.inr.inj z))]
   exact h3
theorem fd_noneV {G : List FdV} {x : Str} (h : x ∉ keysV G) : valV (fdKVV G) (Sum.inr x : Key) = none := by
 cases e : valV (fdKVV G) (Sum.inr x : Key) with
 | none => rfl
 | some v =>
  have := valV_in e
  unfold fdKVV at this
  rw [List.map_map] at this
  obtain ⟨y, hy, e2⟩ := List.mem_map.mp this
  exact absurd (List.mem_map.mpr ⟨y, hy, Sum.inr.inj e2⟩) h
theorem fd_someV (G : List FdV) (x : Str) : (valV (fdKVV G) (Sum.inr x : Key)).isSome = decide (x ∈ keysV G) := by
 by_cases h : x ∈ keysV G
 ·obtain ⟨g, _, _, e⟩ := fd_getV h
  rw [e, decide_eq_true h]
  rfl
 ·rw [fd_noneV h, decide_eq_false h]
  rfl
def spBfsV : Sp := fun vs H Q _ => ∃ (l : Addr) (L : List (TripV × Addr)) (T : List TripV) (a : Str), vs = [.ref l, .str a] ∧ H l = some (.lst (L.map fun q => V.ref q.2)) ∧ TripsV H L T ∧ T.length ≤ 80 ∧ nameB a = true ∧ (∀ t ∈ T, nameB t.2.2 = true) ∧
 ∀ (d : Addr) (H' : Hp) (G : List FdV), H d = none → Same H H' → FdAtV H' d T a G → a ∈ keysV G → ClosedV T (keysV G) → G.length ≤ 81 → (∀ g ∈ G, H g.2.2 = none) → Q (.ref d) H'
def begsV (x : Str) (L : List (TripV × Addr)) : List (TripV × Addr) := L.filter fun q => decide (q.1.2.1 = x)
structure OnAtV (H : Hp) (d : Addr) (L : List (TripV × Addr)) (B : List FdV) : Prop where
 ob : H d = some (.dK (fdKVV B))
 ls : ∀ b ∈ B, H b.2.2 = some (.lst ((begsV b.1 L).map fun q => V.ref q.2))
 all : ∀ q ∈ L, q.1.2.1 ∈ keysV B
theorem OnAtV.same {H H' : Hp} {d : Addr} {L : List (TripV × Addr)} {B : List FdV} (s : Same H H') (h : OnAtV H d L B) : OnAtV H' d L B := ⟨s _ _ h.ob, fun b hb => s _ _ (h.ls b hb), h.all⟩
structure BIV (H H' : Hp) (d : Addr) (L : List (TripV × Addr)) (B : List FdV) : Prop where
 same : Same H H'
 on : OnAtV H' d L B
 hd : H d = none
 fr : ∀ b ∈ B, H b.2.2 = none
 na : (B.map (·.2.2)).Nodup
 nd : (keysV B).Nodup
 few : B.length ≤ L.length
theorem begs_snocV (x : Str) (L : List (TripV × Addr)) (q : TripV × Addr) : begsV x (L ++ [q]) = begsV x L ++ if q.1.2.1 = x then [q] else [] := by
 unfold begsV
 rw [List.filter_append]
 by_cases h : q.1.2.1 = x
 ·rw [if_pos h]; simp [h]
 ·rw [if_neg h]; simp [h]
theorem begs_lenV (x : Str) (L : List (TripV × Addr)) : (begsV x L).length ≤ L.length := List.length_filter_le ..
def spByV : Sp := fun vs H Q _ => ∃ (l : Addr) (L : List (TripV × Addr)) (T : List TripV), vs = [.ref l] ∧ H l = some (.lst (L.map fun q => V.ref q.2)) ∧ TripsV H L T ∧ T.length ≤ 80 ∧ ∀ (d : Addr) (H' : Hp) (B : List FdV), Same H H' → OnAtV H' d L B → Q (.ref d) H'
section
variable {P : Program} {w : World} {K : PySem.W.Frag} {mg : Str → Option Value} {base : Heap} {C : Addr}
theorem ok_byV {f : Addr} {fd : FuncData} (F : Fun K "steps_by_begin" "steps_by_begin" s_steps_by_begin f fd) (T : Txt K mg C) : FnOk P w K mg base CX0 1 f fd ["steps"] spByV := by
 refine F.ok sc_by (fun vs H Q E h => ?_) (fun cdv A outer s H vs Q E hr h => ?_)
 ·obtain ⟨l, L, T, rfl, _⟩ := h
  rfl
 ·obtain ⟨l, L, TT, rfl, hl, tr, few, q⟩ := h
  refine ⟨_, (pss_cons (ps_set (i := 1) sc_by.nd rfl (Or.inl rfl) pe_dnewK)
   (pss_cons (ps_for PassesOwn.never rfl (pi_list (pv 0)) (pg_name (i := 2) sc_by.nd rfl (Or.inl rfl))
    (pss_one (ps_expr (pe_bm PySem.F.plainAttrs_list PySem.F.slot_list_append PySem.F.type_list_append mt_append (pe_dsetd (pv 1) (pe_ix ix_tup (pv 2) pe_int (fun _ _ => by rfl)) (pe_lst pa_nil) ⟨rfl, rfl, rfl, rfl⟩) (pa_cons (pv 2) pa_nil)))))
   (pss_one (ps_ret (pv 1))))), ?_⟩
  intro d hd
  have hLl : L.length ≤ 80 := by
   have : L.length = TT.length := by rw [← tr.1, List.length_map]
   omega
  have s0 := Same.new (o := .dK []) hd
  refine ⟨_, rfl, l, rfl, ⟨_, SqL.of (s0 _ _ hl)⟩, for_list (K := K) (a := l) (xs := L.map fun q => V.ref q.2) (fun j σ' H' => ∃ (B : List FdV) (v : Option V), σ' = [some (.ref l), some (.ref d), v] ∧ BIV H H' d (L.take j) B)
   ⟨[], none, rfl, s0, ⟨upd_same, fun _ h => (nomatch h), fun _ h => (nomatch h)⟩, hd, fun _ h => (nomatch h), List.nodup_nil, List.nodup_nil, Nat.zero_le _⟩ (fun j σ' H' _ h => ?_) (fun j v σ' H' hv h => ?_) (fun σ' H' h => ?_)⟩
  ·obtain ⟨_, _, _, b⟩ := h
   exact SqL.of (b.same _ _ hl)
  ·obtain ⟨B, v', rfl, b⟩ := h
   rw [List.getElem?_map] at hv
   cases eq : L[j]? with
   | none => rw [eq] at hv; cases hv
   | some qq =>
    rw [eq] at hv
    cases hv
    have hq := b.same _ _ (tr.2 qq (List.mem_of_getElem? eq))
    have et : L.take (j + 1) = L.take j ++ [qq] := by rw [List.take_add_one, eq]; rfl
    have hj : (L.take j).length ≤ 80 := Nat.le_trans (List.length_take_le' ..) hLl
    have hB := b.few
    refine ⟨_, rfl, d, rfl, .inl ⟨_, .inl b.on.ob⟩, _, rfl, _, _, _, .str qq.1.2.1, rfl, rfl, SqT.of hq, rfl, by decide, fun e he => ⟨fdKVV B, Sum.inr qq.1.2.1, (Same.new he) _ _ b.on.ob, rfl, small1000 (by unfold fdKVV; rw [List.length_map]; omega), fun v hv => ?_, fun hn => ?_⟩⟩
    ·have hk : qq.1.2.1 ∈ keysV B := by
      by_cases z : qq.1.2.1 ∈ keysV B
      ·exact z
      ·rw [fd_noneV z] at hv; cases hv
     obtain ⟨b0, hb0, e0, v0⟩ := fd_getV hk
     rw [v0] at hv
     cases hv
     have h0 := (Same.new (o := .lst []) he) _ _ (b.on.ls b0 hb0)
     refine ⟨.inl ⟨rfl, _, SqL.of h0⟩, _, rfl, _, _, _, rfl, rfl, h0, small1000 (by rw [List.length_map]; have := begs_lenV b0.1 (L.take j); omega), ?_⟩
     have ndb : d ≠ b0.2.2 := ne_of b.on.ob (b.on.ls b0 hb0) (by intro z; cases z)
     refine ⟨B, _, rfl, ⟨fun y ob z => ?_, ⟨?_, fun b1 hb1 => ?_, fun q1 hq1 => ?_⟩, b.hd, b.fr, b.na, b.nd, ?_⟩⟩
     ·rw [upd_ne (ne_of_none z (b.fr b0 hb0))]
      exact (b.same.upd he) _ _ z
     ·rw [upd_ne ndb]
      exact (Same.new he) _ _ b.on.ob
     ·rw [et, begs_snocV]
      by_cases ea : b1 = b0
      ·subst ea
       rw [if_pos e0.symm, upd_same, List.map_append]
       rfl
      ·rw [if_neg (fun z => ea (inj_nodup b.nd hb1 hb0 (z.symm.trans e0.symm))), List.append_nil, upd_ne (fun z => ea (inj_nodup b.na hb1 hb0 z))]
       exact (Same.new he) _ _ (b.on.ls b1 hb1)
     ·rw [et] at hq1
      rcases List.mem_append.mp hq1 with z | z
      ·exact b.on.all q1 z
      ·cases List.mem_singleton.mp z
       exact hk
     ·rw [et, List.length_append]
      omega
    ·have hk : qq.1.2.1 ∉ keysV B := fun z => by
      obtain ⟨_, _, _, v0⟩ := fd_getV z
      rw [hn] at v0
      cases v0
     rw [putK_new _ hn]
     have nde : d ≠ e := ne_of_none b.on.ob he
     have h0 : (upd (upd H' e (.lst [])) d (.dK (fdKVV B ++ [((Sum.inr qq.1.2.1 : Key), V.ref e)]))) e = some (.lst []) := by rw [upd_ne nde.symm]; exact upd_same
     have heH : H e = none := b.same.free he
     refine ⟨.inl ⟨rfl, _, SqL.of h0⟩, _, rfl, _, _, _, rfl, rfl, h0, by decide, ?_⟩
     have none_q : begsV qq.1.2.1 (L.take j) = [] := by
      unfold begsV
      refine List.filter_eq_nil_iff.mpr fun q1 hq1 z => hk ?_
      rw [← of_decide_eq_true z]
      exact b.on.all q1 hq1
     refine ⟨B ++ [(qq.1.2.1, [], e)], _, rfl, ⟨fun y ob z => ?_, ⟨?_, fun b1 hb1 => ?_, fun q1 hq1 => ?_⟩, b.hd, fun b1 hb1 => ?_, ?_, ?_, ?_⟩⟩
     ·rw [upd_ne (ne_of_none z heH), upd_ne (ne_of_none z b.hd)]
      exact (b.same.upd he) _ _ z
     ·rw [upd_ne nde, upd_same]
      unfold fdKVV
      rw [List.map_append]
      rfl
     ·rw [et, begs_snocV]
      rcases List.mem_append.mp hb1 with hb1 | hb1
      ·have nb : b1.2.2 ≠ e := ne_of_none (b.on.ls b1 hb1) he
       rw [if_neg (fun z => hk (by rw [z]; exact List.mem_map.mpr ⟨b1, hb1, rfl⟩)), List.append_nil, upd_ne nb, upd_ne (ne_of (b.on.ls b1 hb1) b.on.ob (by intro z; cases z)), upd_ne nb]
       exact b.on.ls b1 hb1
      ·cases List.mem_singleton.mp hb1
       rw [if_pos rfl, none_q]
       exact upd_same
     ·unfold keysV
      rw [List.map_append]
      rw [et] at hq1
      rcases List.mem_append.mp hq1 with z | z
      ·exact List.mem_append_left _ (b.on.all q1 z)
      ·cases List.mem_singleton.mp z
       exact List.mem_append_right _ List.mem_cons_self
     ·rcases List.mem_append.mp hb1 with hb1 | hb1
      ·exact b.fr b1 hb1
      ·cases List.mem_singleton.mp hb1
       exact heH
     ·rw [List.map_append]
      refine L2.nd_snoc b.na fun z => ?_
      obtain ⟨b1, hb1, e1⟩ := List.mem_map.mp z
      have := b.on.ls b1 hb1
      rw [show b1.2.2 = e from e1, he] at this
      cases this
     ·unfold keysV
      rw [List.map_append]
      exact L2.nd_snoc b.nd hk
     ·rw [et, List.length_append, List.length_append]
      show B.length + 1 ≤ (L.take j).length + 1
      omega
  ·obtain ⟨B, v', rfl, b⟩ := h
   rw [List.length_map, List.take_length] at b
   exact ⟨_, rfl, q d H' B b.same b.on⟩
structure BFV (H H' : Hp) (d wt : Addr) (T : List TripV) (a : Str) (G : List FdV) (ws : List Str) : Prop where
 same : Same H H'
 fd : FdAtV H' d T a G
 wl : H' wt = some (.lst (ws.map V.str))
 hd : H d = none
 hw : H wt = none
 fr : ∀ g ∈ G, H g.2.2 = none ∧ g.2.2 ≠ wt
 inw : ∀ x ∈ ws, x ∈ keysV G
 st : a ∈ keysV G
 sub : ∀ x ∈ keysV G, x ∈ a :: T.map (·.2.2)
theorem BFV.up {H H' H2 : Hp} {d wt : Addr} {T : List TripV} {a : Str} {G : List FdV} {ws : List Str} (b : BFV H H' d wt T a G ws) (s : Same H' H2) : BFV H H2 d wt T a G ws :=
 ⟨b.same.trans s, b.fd.same s, s _ _ b.wl, b.hd, b.hw, b.fr, b.inw, b.st, b.sub⟩
theorem BFV.few {H H' : Hp} {d wt : Addr} {T : List TripV} {a : Str} {G : List FdV} {ws : List Str} (b : BFV H H' d wt T a G ws) : G.length ≤ T.length + 1 := by
 have := nodup_len b.fd.nd b.sub
 unfold keysV at this
 rw [List.length_map, List.length_cons, List.length_map] at this
 exact this
theorem BFV.ok {H H' : Hp} {d wt : Addr} {T : List TripV} {a : Str} {G : List FdV} {ws : List Str} (b : BFV H H' d wt T a G ws) (h1 : nameB a = true) (h2 : ∀ t ∈ T, nameB t.2.2 = true) : ∀ x ∈ keysV G, nameB x = true := fun x hx => by
 rcases List.mem_cons.mp (b.sub x hx) with rfl | z
 ·exact h1
 ·obtain ⟨t, ht, rfl⟩ := List.mem_map.mp z
  exact h2 t ht
def BWV (H : Hp) (l od d wt : Addr) (T : List TripV) (a : Str) (m : Nat) (σ : St) (H' : Hp) : Prop := ∃ (G : List FdV) (ws : List Str) (v1 v2 v3 v4 : Option V), σ = [some (.ref l), some (.str a), some (.ref od), some (.ref d), some (.ref wt), v1, v2, v3, v4] ∧ BFV H H' d wt T a G ws ∧
 (∀ t ∈ T, t.2.1 ∈ keysV G → t.2.1 ∉ ws → t.2.2 ∈ keysV G) ∧ m = 2 * (T.length + 1 - G.length) + ws.length ∧ m ≤ 200
theorem ok_bfsV {f : Addr} {fd : FuncData} (F : Fun K "steps_to_places" "steps_to_places" s_steps_to_places f fd) (T : Txt K mg C) (cy : Can P w K mg base 1 "steps_by_begin" ["steps"] spByV) : FnOk P w K mg base CX0 2 f fd ["steps", "a"] spBfsV := by
 refine F.ok sc_bfs (fun vs H Q E h => ?_) (fun cdv A outer s H vs Q E hr h => ?_)
 ·obtain ⟨l, L, T, a, rfl, _⟩ := h
  rfl
 ·obtain ⟨l, L, TT, a, rfl, hl00, tr00, few, oka, okt, q00⟩ := h
  have hu := hu_of hr
  have hU := hr.units
  refine ⟨_, pss_cons (ps_set (i := 2) sc_bfs.nd rfl (Or.inl rfl) (pe_callC cy hr rfl (pa_cons (pv 0) pa_nil)))
   (pss_cons (ps_set (i := 3) sc_bfs.nd rfl (Or.inl rfl) (pe_disp (pps_cons (pv 1) (pe_lst pa_nil) pps_nil) rfl rfl (by simp) (by decide)))
   (pss_cons (ps_set (i := 4) sc_bfs.nd rfl (Or.inl rfl) (pe_lst (pa_cons (pv 1) pa_nil)))
   (pss_cons (ps_while PassesOwn.never (pt_cmpR (op_neD hU) (pv 4) (pe_lst pa_nil) (nomark _))
    (pss_cons (ps_set (i := 5) sc_bfs.nd rfl (Or.inl rfl) (pe_bm PySem.F.plainAttrs_list PySem.F.slot_list_pop PySem.F.type_list_pop mt_popAt (pv 4) (pa_cons pe_int pa_nil)))
    (pss_one (ps_for PassesOwn.never rfl (pi_list (pe_dget2 hu (pv 2) (pv 5) (pe_lst pa_nil) ⟨rfl, rfl, rfl, rfl⟩)) (pg_tup rfl (pgs_cons (pg_name (i := 6) sc_bfs.nd rfl (Or.inl rfl)) (pgs_cons (pg_name (i := 7) sc_bfs.nd rfl (Or.inl rfl)) (pgs_cons (pg_name (i := 8) sc_bfs.nd rfl (Or.inl rfl)) pgs_nil))))
     (pss_one (ps_if (pt_cmp (pc_dnotin hu (pv 8) (pv 3)))
      (pss_cons (ps_dput hu (pv 3) (pv 8) (pe_op op_cat (pe_dget hu (pv 3) (pv 5) (fun _ _ => rfl)) (pe_lst (pa_cons (pv 6) pa_nil))) rfl)
      (pss_one (ps_expr (pe_bm PySem.F.plainAttrs_list PySem.F.slot_list_append PySem.F.type_list_append mt_append (pv 4) (pa_cons (pv 8) pa_nil))))) pss_nil))))))
   (pss_one (ps_ret (pv 3)))))), ?_⟩
  refine ⟨_, rfl, l, L, TT, rfl, hl00, tr00, few, fun od H9 B9 s9 on9 => ?_⟩
  have hl := s9 _ _ hl00
  have tr := tr00.same s9
  have q : ∀ (d : Addr) (H' : Hp) (G : List FdV), H9 d = none → Same H9 H' → FdAtV H' d TT a G → a ∈ keysV G → ClosedV TT (keysV G) → G.length ≤ 81 → (∀ g ∈ G, H9 g.2.2 = none) → Q (.ref d) H' :=
   fun d H' G h1 h2 h3 h4 h5 h6 h7 => q00 d H' G (s9.free h1) (s9.trans h2) h3 h4 h5 h6 fun g hg => s9.free (h7 g hg)
  clear q00 hl00 tr00
  generalize H9 = H at *
  intro d hd
  refine ⟨_, rfl, by decide, fun e he => ?_⟩
  have nde : d ≠ e := ne_of_none upd_same he
  have he0 : H e = none := by rw [upd_ne nde.symm] at he; exact he
  refine ⟨by rw [upd_ne nde]; exact upd_same, [(Sum.inr a, .ref e)], rfl, (by show 1 ≤ 15; decide), ?_⟩
  have s1 : Same H (upd (upd (upd H d (.dK [])) e (.lst [])) d (.dK (mergeK [] [(Sum.inr a, V.ref e)]))) := fun b ob z => by
   rw [upd_ne (ne_of_none z hd), upd_ne (ne_of_none z he0), upd_ne (ne_of_none z hd)]
   exact z
  have F1 : FdAtV (upd (upd (upd H d (.dK [])) e (.lst [])) d (.dK (mergeK [] [(Sum.inr a, V.ref e)]))) d TT a [(a, [], e)] :=
   ⟨upd_same, fun g hg => by
    rw [List.mem_singleton.mp hg]
    exact ⟨by rw [upd_ne nde.symm]; exact upd_same, ⟨[a], .nil, fun _ h => h⟩, by show 0 < 1; decide⟩, by simp [keysV]⟩
  generalize upd (upd (upd H d (.dK [])) e (.lst [])) d (.dK (mergeK [] [(Sum.inr a, V.ref e)])) = H1 at s1 F1
  refine ⟨_, rfl, (by show 1 ≤ sizeLine; decide), fun wt hwt => ?_⟩
  have s2 := Same.new (o := .lst [.str a]) hwt
  have nwe : e ≠ wt := ne_of_none (F1.ws _ List.mem_cons_self).1 hwt
  have B0 : BFV H (upd H1 wt (.lst [.str a])) d wt TT a [(a, [], e)] [a] := ⟨s1.trans s2, F1.same s2, upd_same, hd, s1.free hwt, fun g hg => by rw [List.mem_singleton.mp hg]; exact ⟨he0, nwe⟩, fun x hx => hx, List.mem_cons_self, fun x hx => by rw [List.mem_singleton.mp hx]; exact List.mem_cons_self⟩
  generalize upd H1 wt (.lst [.str a]) = H2 at B0
  refine ⟨BWV H l od d wt TT a, ⟨_, _, _, none, none, none, none, rfl, B0, fun t ht h1 h2 => absurd h1 h2, rfl, ?_⟩, ?_⟩
  ·show 2 * (TT.length + 1 - 1) + 1 ≤ 200
   omega
  rintro m σ' H' ⟨G, ws, v1, v2, v3, v4, rfl, B, cl, hm, h100⟩
  have kok := B.ok oka okt
  refine ⟨_, rfl, by decide, fun ee hee => ⟨2, _, _, by decide, rd_strs ((Same.new hee) _ _ B.wl) (fun x hx => kok x (B.inw x hx)), rd_nil upd_same, _, rfl, ?_⟩⟩
  have B1 := B.up (Same.new (o := .lst []) hee)
  generalize upd H' ee (.lst []) = H3 at B1
  show if (!PyData.eqv (.list (ws.map PyData.str)) (.list [])) = true then _ else _
  rw [eqv_nil]
  cases ws with
  | nil =>
   refine iteF ⟨_, rfl, ?_⟩
   have hf := B1.few
   exact q d H3 G hd B1.same B1.fd B1.st (fun t ht hb => cl t ht hb (fun z => nomatch z)) (by omega) fun g hg => (B1.fr g hg).1
  | cons here rest =>
   refine iteT ⟨fun σ' H' => ∃ m', m' < m ∧ BWV H l od d wt TT a m' σ' H', fun _ _ z => z, ?_⟩
   have hhere : here ∈ keysV G := B1.inw here List.mem_cons_self
   refine ⟨_, rfl, .inl ⟨rfl, _, SqL.of B1.wl⟩, wt, _, 0, 0, .str here, rfl, rfl, B1.wl, by decide, by decide, by simp [seqIndex?], rfl, ?_⟩
   have sw : Same H (upd H3 wt (.lst ((here :: rest).map V.str |>.eraseIdx 0))) := fun b ob z => by
    rw [upd_ne (ne_of_none z B1.hw)]
    exact B1.same _ _ z
   have ndw : d ≠ wt := ne_of B1.fd.ob B1.wl (by intro z; cases z)
   have B2 : BFV H (upd H3 wt (.lst ((here :: rest).map V.str |>.eraseIdx 0))) d wt TT a G rest :=
    ⟨sw, ⟨by rw [upd_ne ndw]; exact B1.fd.ob, fun g hg => ⟨by rw [upd_ne (B1.fr g hg).2]; exact (B1.fd.ws g hg).1, (B1.fd.ws g hg).2⟩, B1.fd.nd⟩, upd_same, B1.hd, B1.hw, B1.fr, fun x hx => B1.inw x (List.mem_cons_of_mem _ hx), B1.st, B1.sub⟩
   generalize upd H3 wt (.lst ((here :: rest).map V.str |>.eraseIdx 0)) = H4 at B2
   have hLl : L.length = TT.length := by rw [← tr.1, List.length_map]
   have oc := on9.same B2.same
   refine ⟨_, rfl, od, rfl, .inl ⟨_, .inl oc.ob⟩, _, rfl, by decide, fun e5 he5 => ?_⟩
   have s5 := Same.new (o := .lst []) he5
   have B3 := B2.up s5
   have oc5 := oc.same s5
   have nw5 : e5 ≠ wt := (ne_of_none B2.wl he5).symm
   have h5 : (upd H4 e5 (.lst [])) e5 = some (.lst []) := upd_same
   generalize upd H4 e5 (.lst []) = H5 at B3 oc5 h5
   have key : ∃ (lx : Addr), (Option.getD (valV (fdKVV B9) (Sum.inr here : Key)) (.ref e5)) = .ref lx ∧ H5 lx = some (.lst ((begsV here L).map fun q => V.ref q.2)) ∧ lx ≠ wt := by
    by_cases hk : here ∈ keysV B9
    ·obtain ⟨b0, hb0, e0, v0⟩ := fd_getV hk
     refine ⟨b0.2.2, by rw [v0]; rfl, by rw [← e0]; exact oc5.ls b0 hb0, fun z => ?_⟩
     have := on9.ls b0 hb0
     rw [z, B2.hw] at this
     cases this
    ·refine ⟨e5, by rw [fd_noneV hk]; rfl, ?_, nw5⟩
     have : begsV here L = [] := by
      unfold begsV
      refine List.filter_eq_nil_iff.mpr fun q1 hq1 z => hk ?_
      rw [← of_decide_eq_true z]
      exact on9.all q1 hq1
     rw [this]
     exact h5
   obtain ⟨lx, elx, hlx, nlw⟩ := key
   refine ⟨_, DGet.k (k := Sum.inr here) oc5.ob, lx, elx, ⟨_, SqL.of hlx⟩, for_list (K := K) (a := lx) (xs := (begsV here L).map fun q => V.ref q.2) (fun j σ' H' => ∃ (G2 : List FdV) (ws2 : List Str) (v2 v3 v4 : Option V), σ' = [some (.ref l), some (.str a), some (.ref od), some (.ref d), some (.ref wt), some (.str here), v2, v3, v4] ∧ BFV H H' d wt TT a G2 ws2 ∧ here ∈ keysV G2 ∧
     (∀ t ∈ TT, t.2.1 ∈ keysV G2 → t.2.1 ∉ ws2 → t.2.1 ≠ here → t.2.2 ∈ keysV G2) ∧ (∀ t ∈ (begsV here L).take j, t.1.2.2 ∈ keysV G2) ∧ 2 * (TT.length + 1 - G2.length) + ws2.length < m ∧ H' lx = some (.lst ((begsV here L).map fun q => V.ref q.2)))
    ⟨G, rest, _, _, _, rfl, B3, hhere, fun t ht h1 h2 h3 => cl t ht h1 (fun z => (List.mem_cons.mp z).elim h3 h2), fun t ht => (nomatch ht), by rw [hm, List.length_cons]; omega, hlx⟩ (fun j σ' H' _ h => ?_) (fun j v σ' H' hv h => ?_) (fun σ' H' h => ?_)⟩
   ·obtain ⟨_, _, _, _, _, _, b, _, _, _, _, hx⟩ := h
    exact SqL.of hx
   ·obtain ⟨G2, ws2, v2', v3', v4', rfl, b, hh, c1, c2, lt, hx⟩ := h
    rw [List.getElem?_map] at hv
    cases eq : (begsV here L)[j]? with
    | none => rw [eq] at hv; cases hv
    | some qq =>
     rw [eq] at hv
     cases hv
     obtain ⟨hqL, hqh⟩ := List.mem_filter.mp (List.mem_of_getElem? eq)
     have eb := of_decide_eq_true hqh
     have hqm : qq.1 ∈ TT := by rw [← tr.1]; exact List.mem_map.mpr ⟨qq, hqL, rfl⟩
     have hq := b.same _ _ (tr.2 qq hqL)
     obtain ⟨⟨nm, bg, en⟩, qa⟩ := qq
     have tk : ∀ t ∈ (begsV here L).take (j + 1), t ∈ (begsV here L).take j ∨ t = ((nm, bg, en), qa) := fun t ht => by
      rw [List.take_add_one, eq] at ht
      rcases List.mem_append.mp ht with z | z
      ·exact .inl z
      ·exact .inr (List.mem_singleton.mp z)
     refine ⟨qa, _, rfl, SqT.of hq, rfl, _, _, rfl, _, _, rfl, _, _, rfl, rfl, ?_⟩
     refine ⟨_, rfl, _, rfl, d, _, rfl, DGet.k (k := Sum.inr en) b.fd.ob, _, rfl, ?_⟩
     rw [fd_someV]
     by_cases ek : en ∈ keysV G2
     ·refine iteFb (by simp [ek]) ⟨G2, ws2, _, _, _, rfl, b, hh, c1, fun t ht => ?_, lt, hx⟩
      rcases tk t ht with z | rfl
      ·exact c2 t z
      ·exact ek
     ·refine iteTb (by simp [ek]) ?_
      obtain ⟨g, hg, eg, vg⟩ := fd_getV hh
      have hgl := b.fd.ws g hg
      have hgf := b.few
      refine ⟨_, rfl, _, rfl, d, .ref g.2.2, rfl, by rw [← vg]; exact DGet.k (k := Sum.inr here) b.fd.ob, _, rfl, (by show 1 ≤ sizeLine; decide), fun pn hpn => ?_⟩
      have z1 := Same.new (o := .lst [nm]) hpn
      refine ⟨g.2.2, pn, _, _, rfl, rfl, z1 _ _ hgl.1, upd_same, ?_, fun pp hpp => ?_⟩
      ·exact Nat.le_trans (show g.2.1.length + 1 ≤ 200 by omega) (by decide)
      have z2 := z1.upd (o := .lst (g.2.1 ++ [nm])) hpp
      have ep : (upd (upd H' pn (.lst [nm])) pp (.lst (g.2.1 ++ [nm]))) pp = some (.lst (g.2.1 ++ [nm])) := upd_same
      have hpp0 : H' pp = none := z1.free hpp
      have bz := b.up z2
      have hxz := z2 _ _ hx
      generalize upd (upd H' pn (.lst [nm])) pp (.lst (g.2.1 ++ [nm])) = H6 at ep bz hxz
      refine ⟨_, rfl, _, rfl, d, _, rfl, DPut.k (k := Sum.inr en) bz.fd.ob (small1000 (by unfold fdKVV; rw [List.length_map]; omega)), ?_⟩
      rw [putK_new _ (fd_noneV ek)]
      have npd : pp ≠ d := ne_of ep bz.fd.ob (by intro z; cases z)
      have nwd : wt ≠ d := ne_of bz.wl bz.fd.ob (by intro z; cases z)
      have npw : pp ≠ wt := fun z => by rw [z] at hpp0; rw [b.wl] at hpp0; cases hpp0
      have nxd : lx ≠ d := ne_of hxz bz.fd.ob (by intro z; cases z)
      have hpH : H pp = none := b.same.free hpp0
      have ekv : fdKVV G2 ++ [((Sum.inr en : Key), V.ref pp)] = fdKVV (G2 ++ [(en, g.2.1 ++ [nm], pp)]) := by unfold fdKVV; rw [List.map_append]; rfl
      rw [ekv]
      have ewt : (upd H6 d (.dK (fdKVV (G2 ++ [(en, g.2.1 ++ [nm], pp)])))) wt = some (.lst (ws2.map V.str)) := by rw [upd_ne nwd]; exact bz.wl
      have hwl : ws2.length ≤ 200 := by omega
      refine ⟨_, rfl, .inl ⟨rfl, _, SqL.of ewt⟩, _, rfl, wt, _, _, rfl, rfl, ewt, small1000 (by rw [List.length_map]; omega), ?_⟩
      have kk : keysV (G2 ++ [(en, g.2.1 ++ [nm], pp)]) = keysV G2 ++ [en] := by unfold keysV; rw [List.map_append]; rfl
      refine ⟨G2 ++ [(en, g.2.1 ++ [nm], pp)], ws2 ++ [en], _, _, _, rfl, ⟨fun y ob z => ?_, ⟨?_, fun g' hg' => ?_, ?_⟩, ?_, b.hd, b.hw, fun g' hg' => ?_, fun x hx => ?_, ?_, fun x hx => ?_⟩, ?_, fun t ht h1 h2 h3 => ?_, fun t ht => ?_, ?_, ?_⟩
      ·rw [upd_ne (ne_of_none z b.hw), upd_ne (ne_of_none z b.hd)]
       exact bz.same _ _ z
      ·rw [upd_ne nwd.symm]; exact upd_same
      ·rw [List.length_append]
       rcases List.mem_append.mp hg' with hg' | hg'
       ·have o1 := bz.fd.ws g' hg'
        refine ⟨?_, (let ⟨vis, p, h⟩ := o1.2.1; ⟨vis, p, fun x hx => by rw [kk]; exact List.mem_append_left _ (h x hx)⟩), Nat.lt_succ_of_lt o1.2.2⟩
        rw [upd_ne (bz.fr g' hg').2, upd_ne (ne_of o1.1 bz.fd.ob (by intro z; cases z))]
        exact o1.1
       ·cases List.mem_singleton.mp hg'
        refine ⟨by rw [upd_ne npw, upd_ne npd]; exact ep, (let ⟨vis, p, h⟩ := hgl.2.1; ⟨vis ++ [en], .snoc (eg ▸ p) (eb ▸ hqm) (fun z => ek (h en z)), fun x hx => by
         rw [kk]
         rcases List.mem_append.mp hx with z | z
         ·exact List.mem_append_left _ (h x z)
         ·exact List.mem_append_right _ z⟩), ?_⟩
        show (g.2.1 ++ [nm]).length < G2.length + 1
        rw [List.length_append]
        show g.2.1.length + 1 < _
        omega
      ·rw [kk]; exact nodup_snoc b.fd.nd ek
      ·rw [upd_same, List.map_append]; rfl
      ·rcases List.mem_append.mp hg' with hg' | hg'
       ·exact b.fr g' hg'
       ·cases List.mem_singleton.mp hg'; exact ⟨hpH, npw⟩
      ·rw [kk]
       rcases List.mem_append.mp hx with z | z
       ·exact List.mem_append_left _ (b.inw x z)
       ·exact List.mem_append_right _ z
      ·rw [kk]; exact List.mem_append_left _ b.st
      ·rw [kk] at hx
       rcases List.mem_append.mp hx with z | z
       ·exact b.sub x z
       ·rw [List.mem_singleton.mp z]; exact List.mem_cons_of_mem _ (List.mem_map.mpr ⟨_, hqm, rfl⟩)
      ·rw [kk]; exact List.mem_append_left _ hh
      ·rw [kk] at h1 ⊢
       rcases List.mem_append.mp h1 with z | z
       ·exact List.mem_append_left _ (c1 t ht z (fun y => h2 (List.mem_append_left _ y)) h3)
       ·exact absurd (List.mem_append_right _ z) h2
      ·rw [kk]
       rcases tk t ht with z | rfl
       ·exact List.mem_append_left _ (c2 t z)
       ·exact List.mem_append_right _ List.mem_cons_self
      ·have hb2 : G2.length < TT.length + 1 := by
        have nd2 : (keysV G2 ++ [en]).Nodup := nodup_snoc b.fd.nd ek
        have := nodup_len nd2 (m := a :: TT.map (·.2.2)) (fun x hx => by
         rcases List.mem_append.mp hx with z | z
         ·exact b.sub x z
         ·rw [List.mem_singleton.mp z]; exact List.mem_cons_of_mem _ (List.mem_map.mpr ⟨_, hqm, rfl⟩))
        have e1 : (keysV G2 ++ [en]).length = G2.length + 1 := by unfold keysV; rw [List.length_append, List.length_map]; rfl
        rw [e1, List.length_cons, List.length_map] at this
        omega
       rw [List.length_append, List.length_append]
       show 2 * (TT.length + 1 - (G2.length + 1)) + (ws2.length + 1) < m
       omega
      ·rw [upd_ne nlw, upd_ne nxd]
       exact hxz
   ·obtain ⟨G2, ws2, v2', v3', v4', rfl, b, hh, c1, c2, lt, hx⟩ := h
    rw [List.length_map, List.take_length] at c2
    refine ⟨_, lt, G2, ws2, _, _, _, _, rfl, b, fun t ht h1 h2 => ?_, rfl, by omega⟩
    by_cases e3 : t.2.1 = here
    ·rw [← tr.1] at ht
     obtain ⟨q1, hq1, rfl⟩ := List.mem_map.mp ht
     exact c2 q1 (List.mem_filter.mpr ⟨hq1, decide_eq_true e3⟩)
    ·exact c1 t ht h1 h2 e3
end
end Net
namespace Net
open PySem L2
theorem goes1_add (r : Row) (u d : Int) (x : Str) : goes1 (r, u + d) x = goes1 (r, u) x + goes1 (r, d) x := by
 show (if r.a = x then u + d else 0) - (if r.b = x then u + d else 0) = ((if r.a = x then u else 0) - (if r.b = x then u else 0)) + ((if r.a = x then d else 0) - (if r.b = x then d else 0))
 split <;> split <;> omega
theorem goes_cons (q : Row × Int) (ls : List (Row × Int)) (x : Str) : goes (q :: ls) x = goes1 q x + goes ls x := by
 unfold goes
 rw [List.map_cons, List.sum_cons]
def updF (F : Str → Int) (n : Str) (z : Int) : Str → Int := fun x => if x = n then z else F x
theorem updF_same (F : Str → Int) (n : Str) (z : Int) : updF F n z n = z := if_pos rfl
theorem updF_ne (F : Str → Int) {n x : Str} (z : Int) (h : ¬ x = n) : updF F n z x = F x := if_neg h
def netR (ti : List Row) (F : Str → Int) (x : Str) : Int := goes (ti.map fun r => (r, F r.nm)) x
theorem netR_cons (r : Row) (ti : List Row) (F : Str → Int) (x : Str) : netR (r :: ti) F x = goes1 (r, F r.nm) x + netR ti F x := goes_cons _ _ _
theorem netR_off {F : Str → Int} {n : Str} {z : Int} {x : Str} : ∀ {ti : List Row}, n ∉ ti.map (·.nm) → netR ti (updF F n z) x = netR ti F x
 | [], _ => rfl
 | r :: ti, h => by
  rw [netR_cons, netR_cons, netR_off fun k => h (List.mem_cons_of_mem _ k), updF_ne F z fun k => h (by rw [← k]; exact List.mem_cons_self)]
theorem netR_upd {F : Str → Int} {r : Row} {d : Int} {x : Str} : ∀ {ti : List Row}, (ti.map (·.nm)).Nodup → r ∈ ti → netR ti (updF F r.nm (F r.nm + d)) x = netR ti F x + goes1 (r, d) x
 | [], _, h => nomatch h
 | t :: ti, nd, h => by
  obtain ⟨n1, n2⟩ := List.nodup_cons.mp nd
  rw [netR_cons, netR_cons]
  rcases List.mem_cons.mp h with e | h
  ·subst e
   rw [netR_off n1, updF_same, goes1_add]
   omega
  ·have ne : ¬ t.nm = r.nm := fun z => n1 (List.mem_map.mpr ⟨r, h, z.symm⟩)
   rw [netR_upd n2 h, updF_ne F _ ne]
   omega
structure Stp where
 r : Row
 fw : Bool
def Stp.sg (s : Stp) : Int := if s.fw then 1 else -1
def Stp.room (s : Stp) (F : Str → Int) : Int := if s.fw then s.r.w - F s.r.nm else F s.r.nm
def Stp.beg (s : Stp) : Str := if s.fw then s.r.a else s.r.b
def Stp.en (s : Stp) : Str := if s.fw then s.r.b else s.r.a
def addF (F : Str → Int) (m : Int) (ss : List Stp) : Str → Int := ss.foldl (fun F s => updF F s.r.nm (F s.r.nm + s.sg * m)) F
theorem addF_snoc (F : Str → Int) (m : Int) (ss : List Stp) (s : Stp) : addF F m (ss ++ [s]) = updF (addF F m ss) s.r.nm (addF F m ss s.r.nm + s.sg * m) := by
 unfold addF
 rw [List.foldl_append]
 rfl
inductive SW (a : Str) : List Stp → List Str → Str → Prop
 | nil : SW a [] [a] a
 | snoc {ss : List Stp} {vis : List Str} {x : Str} {s : Stp} (p : SW a ss vis x) (h : s.beg = x) (hy : s.en ∉ vis) : SW a (ss ++ [s]) (vis ++ [s.en]) s.en
theorem SW.last {a : Str} {ss : List Stp} {vis : List Str} {x : Str} (h : SW a ss vis x) : x ∈ vis := by
 cases h with
 | nil => exact List.mem_cons_self
 | snoc p h hy => exact List.mem_append_right _ List.mem_cons_self
theorem SW.ends {a : Str} {ss : List Stp} {vis : List Str} {x : Str} (h : SW a ss vis x) : ∀ s ∈ ss, s.r.a ∈ vis ∧ s.r.b ∈ vis := by
 induction h with
 | nil => exact fun _ h => nomatch h
 | @snoc ss vis x s p hb hy ih =>
  intro t ht
  rcases List.mem_append.mp ht with ht | ht
  ·exact ⟨List.mem_append_left _ (ih t ht).1, List.mem_append_left _ (ih t ht).2⟩
  ·rw [List.mem_singleton.mp ht]
   have h1 : s.beg ∈ vis ++ [s.en] := List.mem_append_left _ (hb ▸ p.last)
   have h2 : s.en ∈ vis ++ [s.en] := List.mem_append_right _ List.mem_cons_self
   obtain ⟨r, fw⟩ := s
   cases fw with
   | true => exact ⟨h1, h2⟩
   | false => exact ⟨h2, h1⟩
theorem SW.nd {ti : List Row} (nd : (ti.map (·.nm)).Nodup) {a : Str} {ss : List Stp} {vis : List Str} {x : Str} (h : SW a ss vis x) : (∀ s ∈ ss, s.r ∈ ti) → (ss.map (·.r.nm)).Nodup := by
 induction h with
 | nil => exact fun _ => List.nodup_nil
 | @snoc ss vis x s p hb hy ih =>
  intro hin
  have h1 := ih fun t ht => hin t (List.mem_append_left _ ht)
  rw [List.map_append]
  refine L2.nd_snoc h1 fun z => ?_
  obtain ⟨t, ht, e⟩ := List.mem_map.mp z
  have er : t.r = s.r := inj_nodup nd (hin t (List.mem_append_left _ ht)) (hin s (List.mem_append_right _ List.mem_cons_self)) e
  have := p.ends t ht
  rw [er] at this
  refine hy ?_
  unfold Stp.en
  split
  ·exact this.2
  ·exact this.1
theorem net_add {ti : List Row} (nd : (ti.map (·.nm)).Nodup) {F : Str → Int} {m : Int} {a : Str} {ss : List Stp} {vis : List Str} {x y : Str} (h : SW a ss vis x) : (∀ s ∈ ss, s.r ∈ ti) → netR ti (addF F m ss) y = netR ti F y + (if a = y then m else 0) - (if x = y then m else 0) := by
 induction h with
 | nil =>
  intro _
  show netR ti F y = _
  omega
 | @snoc ss vis x s p hb hy ih =>
  intro hin
  rw [addF_snoc, netR_upd nd (hin s (List.mem_append_right _ List.mem_cons_self)), ih fun t ht => hin t (List.mem_append_left _ ht), ← hb]
  obtain ⟨r, fw⟩ := s
  cases fw with
  | true =>
   show _ + ((if r.a = y then 1 * m else 0) - (if r.b = y then 1 * m else 0)) = _ - (if r.b = y then m else 0)
   show _ - (if r.a = y then m else 0) + ((if r.a = y then 1 * m else 0) - (if r.b = y then 1 * m else 0)) = _ - (if r.b = y then m else 0)
   rw [Int.one_mul]
   omega
  | false =>
   show _ - (if r.b = y then m else 0) + ((if r.a = y then -1 * m else 0) - (if r.b = y then -1 * m else 0)) = _ - (if r.a = y then m else 0)
   by_cases h1 : r.a = y
   ·by_cases h2 : r.b = y
    ·rw [if_pos h1, if_pos h2, if_pos h1, if_pos h2]; omega
    ·rw [if_pos h1, if_neg h2, if_pos h1, if_neg h2]; omega
   ·by_cases h2 : r.b = y
    ·rw [if_neg h1, if_pos h2, if_neg h1, if_pos h2]; omega
    ·rw [if_neg h1, if_neg h2, if_neg h1, if_neg h2]; omega
theorem addF_cons (F : Str → Int) (m : Int) (s : Stp) (ss : List Stp) : addF F m (s :: ss) = addF (updF F s.r.nm (F s.r.nm + s.sg * m)) m ss := rfl
theorem addF_off {m : Int} {x : Str} : ∀ {ss : List Stp} {F : Str → Int}, x ∉ ss.map (·.r.nm) → addF F m ss x = F x
 | [], _, _ => rfl
 | s :: ss, F, h => by
  rw [addF_cons, addF_off fun z => h (List.mem_cons_of_mem _ z), updF_ne _ _ (fun z => h (by rw [z]; exact List.mem_cons_self))]
theorem addF_on {m : Int} : ∀ {ss : List Stp} {F : Str → Int}, (ss.map (·.r.nm)).Nodup → ∀ s ∈ ss, addF F m ss s.r.nm = F s.r.nm + s.sg * m
 | [], _, _, _, h => nomatch h
 | t :: ss, F, nd, s, hs => by
  obtain ⟨n1, n2⟩ := List.nodup_cons.mp nd
  rw [addF_cons]
  rcases List.mem_cons.mp hs with e | hs
  ·subst e
   rw [addF_off n1, updF_same]
  ·rw [addF_on n2 s hs, updF_ne _ _ (fun z => n1 (List.mem_map.mpr ⟨s, hs, z⟩))]
def FlowOk (ti : List Row) (F : Str → Int) : Prop := ∀ r ∈ ti, 0 ≤ F r.nm ∧ F r.nm ≤ r.w
theorem add_ok {ti : List Row} (nd : (ti.map (·.nm)).Nodup) {F : Str → Int} {m : Int} {a : Str} {ss : List Stp} {vis : List Str} {x : Str} (h : SW a ss vis x) (hin : ∀ s ∈ ss, s.r ∈ ti) (ok : FlowOk ti F) (h0 : 0 ≤ m) (hm : ∀ s ∈ ss, m ≤ s.room F) : FlowOk ti (addF F m ss) := fun r hr => by
 by_cases hx : r.nm ∈ ss.map (·.r.nm)
 ·obtain ⟨s, hs, e⟩ := List.mem_map.mp hx
  have er : s.r = r := inj_nodup nd (hin s hs) hr e
  have e1 := addF_on (F := F) (m := m) (h.nd nd hin) s hs
  rw [er] at e1
  rw [e1]
  have h1 := hm s hs
  obtain ⟨h2, h3⟩ := ok r hr
  obtain ⟨r', fw⟩ := s
  cases er
  cases fw with
  | true =>
   have h1' : m ≤ r'.w - F r'.nm := h1
   have h2' : 0 ≤ F r'.nm := h2
   have h3' : F r'.nm ≤ r'.w := h3
   show 0 ≤ F r'.nm + 1 * m ∧ F r'.nm + 1 * m ≤ r'.w
   clear e1 h1 h2 h3
   omega
  | false =>
   have h1' : m ≤ F r'.nm := h1
   have h2' : 0 ≤ F r'.nm := h2
   have h3' : F r'.nm ≤ r'.w := h3
   show 0 ≤ F r'.nm + -1 * m ∧ F r'.nm + -1 * m ≤ r'.w
   clear e1 h1 h2 h3
   omega
 ·rw [addF_off hx]
  exact ok r hr
theorem net_le {F : Str → Int} {x : Str} : ∀ {ti : List Row}, FlowOk ti F → netR ti F x ≤ (ti.map (·.w)).sum
 | [], _ => Int.le_refl 0
 | r :: ti, ok => by
  have ih := net_le (x := x) fun t ht => ok t (List.mem_cons_of_mem _ ht)
  obtain ⟨h1, h2⟩ := ok r List.mem_cons_self
  rw [netR_cons, List.map_cons, List.sum_cons]
  have : goes1 (r, F r.nm) x ≤ r.w := by
   show (if r.a = x then F r.nm else 0) - (if r.b = x then F r.nm else 0) ≤ r.w
   split <;> split <;> omega
  omega
theorem net_zero {x : Str} : ∀ {ti : List Row}, netR ti (fun _ => 0) x = 0
 | [] => rfl
 | r :: ti => by
  rw [netR_cons, net_zero]
  show (if r.a = x then (0 : Int) else 0) - (if r.b = x then 0 else 0) + 0 = 0
  split <;> split <;> rfl
def degR (U : List Row) (x : Str) : Int := goes (U.map fun r => (r, 1)) x
theorem degR_cons (r : Row) (U : List Row) (x : Str) : degR (r :: U) x = goes1 (r, 1) x + degR U x := goes_cons _ _ _
theorem deg_pos {x : Str} : ∀ {U : List Row}, 1 ≤ degR U x → ∃ r ∈ U, r.a = x
 | [], h => by
  have : (1 : Int) ≤ 0 := h
  omega
 | r :: U, h => by
  by_cases e : r.a = x
  ·exact ⟨r, List.mem_cons_self, e⟩
  ·rw [degR_cons] at h
   have h1 : goes1 (r, 1) x ≤ 0 := by
    show (if r.a = x then (1 : Int) else 0) - (if r.b = x then 1 else 0) ≤ 0
    rw [if_neg e]
    split <;> omega
   obtain ⟨t, ht, et⟩ := deg_pos (x := x) (U := U) (by omega)
   exact ⟨t, List.mem_cons_of_mem _ ht, et⟩
theorem perm_goes {x : Str} {l l' : List (Row × Int)} (p : l.Perm l') : goes l x = goes l' x := by
 induction p with
 | nil => rfl
 | cons a _ ih => rw [goes_cons, goes_cons, ih]
 | swap a b l =>
  rw [goes_cons, goes_cons, goes_cons, goes_cons]
  omega
 | trans _ _ i1 i2 => exact i1.trans i2
theorem perm_deg {x : Str} {U U' : List Row} (p : U.Perm U') : degR U x = degR U' x := perm_goes (p.map _)
theorem degR_app (U U' : List Row) (x : Str) : degR (U ++ U') x = degR U x + degR U' x := by
 induction U with
 | nil =>
  show degR U' x = 0 + degR U' x
  omega
 | cons r U ih =>
  show degR (r :: (U ++ U')) x = _
  rw [degR_cons, degR_cons, ih]
  omega
inductive RW (a : Str) : List Row → Str → Prop
 | nil : RW a [] a
 | snoc {ws : List Row} {x : Str} {r : Row} (p : RW a ws x) (h : r.a = x) : RW a (ws ++ [r]) r.b
theorem RW.deg {a : Str} {ws : List Row} {x y : Str} (h : RW a ws x) : degR ws y = (if a = y then 1 else 0) - (if x = y then 1 else 0) := by
 induction h with
 | nil =>
  show (0 : Int) = _
  omega
 | @snoc ws x r p h ih =>
  rw [degR_app, ih, degR_cons, ← h]
  show _ - (if r.a = y then (1 : Int) else 0) + ((if r.a = y then (1 : Int) else 0) - (if r.b = y then 1 else 0) + 0) = _ - (if r.b = y then (1 : Int) else 0)
  omega
end Net
namespace Net
open PySem L2
def Rows4 (H : Hp) (L : List (Row × Addr)) (ti : List Row) : Prop := L.map (·.1) = ti ∧ ∀ q ∈ L, H q.2 = some (.tup [.str q.1.nm, .str q.1.a, .str q.1.b, .int q.1.w])
theorem Rows4.same {H H' : Hp} {L : List (Row × Addr)} {ti : List Row} (s : Same H H') (h : Rows4 H L ti) : Rows4 H' L ti := ⟨h.1, fun q hq => s _ _ (h.2 q hq)⟩
def StpAt (H : Hp) (F : Str → Int) (s : Stp) (p : Addr) : Prop := H p = some (.tup [.str s.r.nm, .int s.sg, .int (s.room F)]) ∧ 0 < s.room F
def FreeT (H : Hp) (ti : List Row) (F : Str → Int) (T : List TripV) : Prop := (∀ t ∈ T, ∃ (s : Stp) (p : Addr), t = (.ref p, s.beg, s.en) ∧ s.r ∈ ti ∧ StpAt H F s p) ∧ ∀ s : Stp, s.r ∈ ti → 0 < s.room F → ∃ t ∈ T, t.2 = (s.beg, s.en)
theorem FreeT.same {H H' : Hp} {ti : List Row} {F : Str → Int} {T : List TripV} (z : Same H H') (h : FreeT H ti F T) : FreeT H' ti F T := ⟨fun t ht => let ⟨s, p, a, b, c, d⟩ := h.1 t ht; ⟨s, p, a, b, z _ _ c, d⟩, h.2⟩
def spFree : Sp := fun vs H Q _ => ∃ (al ld : Addr) (a : Str) (L : List (Row × Addr)) (ti : List Row) (F : Str → Int), vs = [.ref al, .ref ld, .str a] ∧ H al = some (.lst (L.map fun q => V.ref q.2)) ∧ Rows4 H L ti ∧ H ld = some (.dK (goKV (ti.map (·.nm)) F)) ∧ ti.length ≤ 40 ∧ nameB a = true ∧ (∀ r ∈ ti, nameB r.a = true ∧ nameB r.b = true) ∧
 ∀ (d : Addr) (H' : Hp) (T : List TripV) (G : List FdV), H d = none → Same H H' → FreeT H' ti F T → FdAtV H' d T a G → a ∈ keysV G → ClosedV T (keysV G) → G.length ≤ 81 → (∀ g ∈ G, H g.2.2 = none) → Q (.ref d) H'
structure FreeI (H H' : Hp) (st : Addr) (ti : List Row) (F : Str → Int) (done : Row → Bool → Prop) (n : Nat) (M : List (TripV × Addr)) : Prop where
 same : Same H H'
 hs : H st = none
 ob : H' st = some (.lst (M.map fun q => V.ref q.2))
 tr : ∀ q ∈ M, H' q.2 = some (.tup (TripV.vs q.1)) ∧ ∃ (s : Stp) (p : Addr), q.1 = (.ref p, s.beg, s.en) ∧ s.r ∈ ti ∧ StpAt H' F s p
 all : ∀ s : Stp, done s.r s.fw → 0 < s.room F → ∃ q ∈ M, q.1.2 = (s.beg, s.en)
 len : M.length ≤ n
theorem FreeI.mono {H H' : Hp} {st : Addr} {ti : List Row} {F : Str → Int} {done done' : Row → Bool → Prop} {n n' : Nat} {M : List (TripV × Addr)} (h : FreeI H H' st ti F done n M) (hn : n ≤ n') (hd : ∀ r fw, done' r fw → done r fw ∨ (Stp.room ⟨r, fw⟩ F ≤ 0)) : FreeI H H' st ti F done' n' M :=
 ⟨h.same, h.hs, h.ob, h.tr, fun s hs h0 => (hd s.r s.fw hs).elim (fun z => h.all s z h0) (fun z => absurd z (by show ¬ s.room F ≤ 0; omega)), Nat.le_trans h.len hn⟩
theorem FreeI.push {H H' : Hp} {st : Addr} {ti : List Row} {F : Str → Int} {done : Row → Bool → Prop} {n : Nat} {M : List (TripV × Addr)} (h : FreeI H H' st ti F done n M) {r : Row} {fw : Bool} (hr : r ∈ ti) (h0 : 0 < Stp.room ⟨r, fw⟩ F) {p t : Addr} {H2 : Hp} (z : Same H' H2)
  (hp : H2 p = some (.tup [.str r.nm, .int (Stp.sg ⟨r, fw⟩), .int (Stp.room ⟨r, fw⟩ F)])) (ht : H2 t = some (.tup [.ref p, .str (Stp.beg ⟨r, fw⟩), .str (Stp.en ⟨r, fw⟩)])) :
  FreeI H (upd H2 st (.lst ((M.map fun q => V.ref q.2) ++ [.ref t]))) st ti F (fun r' fw' => done r' fw' ∨ (r' = r ∧ fw' = fw)) (n + 1) (M ++ [((.ref p, Stp.beg ⟨r, fw⟩, Stp.en ⟨r, fw⟩), t)]) := by
 have ob2 := z _ _ h.ob
 have np : p ≠ st := ne_of hp ob2 (by intro z; cases z)
 have nt : t ≠ st := ne_of ht ob2 (by intro z; cases z)
 refine ⟨fun b o e => ?_, h.hs, ?_, fun q hq => ?_, fun s hs h1 => ?_, ?_⟩
 ·rw [upd_ne (ne_of_none e h.hs)]
  exact (h.same.trans z) _ _ e
 ·rw [upd_same, List.map_append]; rfl
 ·rcases List.mem_append.mp hq with hq | hq
  ·obtain ⟨e1, s, p', e2, e3, e4, e5⟩ := h.tr q hq
   have e1' := z _ _ e1
   have e4' := z _ _ e4
   refine ⟨by rw [upd_ne (ne_of e1' ob2 (by intro z; cases z))]; exact e1', s, p', e2, e3, by rw [upd_ne (ne_of e4' ob2 (by intro z; cases z))]; exact e4', e5⟩
  ·rw [List.mem_singleton.mp hq]
   exact ⟨by rw [upd_ne nt]; exact ht, ⟨r, fw⟩, p, rfl, hr, by rw [upd_ne np]; exact hp, h0⟩
 ·rcases hs with hs | ⟨e1, e2⟩
  ·obtain ⟨q, hq, e⟩ := h.all s hs h1
   exact ⟨q, List.mem_append_left _ hq, e⟩
  ·obtain ⟨r', fw'⟩ := s
   cases e1
   cases e2
   exact ⟨_, List.mem_append_right _ List.mem_cons_self, rfl⟩
 ·rw [List.length_append]
  exact Nat.succ_le_succ h.len
section
variable {P : Program} {w : World} {K : PySem.W.Frag} {mg : Str → Option Value} {base : Heap} {C : Addr}
abbrev Nfree : List Str := ["arcs", "loads", "a", "steps", "name", "begin", "end", "width"]
theorem sc_free : FnScope Nfree ["arcs", "loads", "a"] (defScope s_free_ways) := ⟨rfl, rfl, rfl, by decide +kernel, rfl, by decide +kernel, by decide +kernel⟩
theorem ok_free {f : Addr} {fd : FuncData} (F : Fun K "free_ways" "free_ways" s_free_ways f fd) (csteps_to_places : Can P w K mg base 2 "steps_to_places" ["steps", "a"] spBfsV) : FnOk P w K mg base CX0 3 f fd ["arcs", "loads", "a"] spFree := by
 refine F.ok sc_free (fun vs H Q E h => ?_) (fun cdv A outer s H vs Q E hr h => ?_)
 ·obtain ⟨al, ld, a, L, ti, Fl, rfl, _⟩ := h
  rfl
 ·obtain ⟨al, ld, a, L, ti, Fl, rfl, hal, RL, hld, few, oka, okr, q⟩ := h
  have hu := hu_of hr
  have r := hr
  refine ⟨_, (pss_cons (ps_set (i := 3) sc_free.nd rfl (Or.inl rfl) (pe_lst pa_nil))
   (pss_cutE (ps_for PassesOwn.never rfl (pi_list (pv 0)) (pg_tup rfl (pgs_cons (pg_name (i := 4) sc_free.nd rfl (Or.inl rfl)) (pgs_cons (pg_name (i := 5) sc_free.nd rfl (Or.inl rfl)) (pgs_cons (pg_name (i := 6) sc_free.nd rfl (Or.inl rfl)) (pgs_cons (pg_name (i := 7) sc_free.nd rfl (Or.inl rfl)) pgs_nil)))))
     (pss_cutE (ps_if (pt_cmpR op_lt (pe_dget hu (pv 1) (pv 4) (fun _ _ => rfl)) (pv 7) (nomark _)) (pss_one (ps_expr (pe_bm PySem.F.plainAttrs_list PySem.F.slot_list_append PySem.F.type_list_append mt_append (pv 3) (pa_cons (pe_tup (pa_cons (pe_tup (pa_cons (pv 4) (pa_cons pe_int (pa_cons (pe_op op_sub (pv 7) (pe_dget hu (pv 1) (pv 4) (fun _ _ => rfl))) pa_nil)))) (pa_cons (pv 5) (pa_cons (pv 6) pa_nil)))) pa_nil)))) pss_nil)
   (pss_one (ps_if (pt_cmpR op_gt (pe_dget hu (pv 1) (pv 4) (fun _ _ => rfl)) pe_int (nomark _)) (pss_one (ps_expr (pe_bm PySem.F.plainAttrs_list PySem.F.slot_list_append PySem.F.type_list_append mt_append (pv 3) (pa_cons (pe_tup (pa_cons (pe_tup (pa_cons (pv 4) (pa_cons (pe_un un_neg pe_int) (pa_cons (pe_dget hu (pv 1) (pv 4) (fun _ _ => rfl)) pa_nil)))) (pa_cons (pv 6) (pa_cons (pv 5) pa_nil)))) pa_nil)))) pss_nil))))
   (pss_one (ps_ret (pe_callC csteps_to_places r (by rfl) (pa_cons (pv 3) (pa_cons (pv 2) pa_nil))))))), ?_⟩
  refine ⟨by decide, fun st hst => ?_⟩
  have hLl : L.length = ti.length := by rw [← RL.1, List.length_map]
  have z1 := Same.new (o := .lst []) hst
  have I0 : FreeI H (upd H st (.lst [])) st ti Fl (fun _ _ => False) 0 [] := ⟨z1, hst, upd_same, fun _ h => (nomatch h), fun _ h => h.elim, Nat.le_refl _⟩
  generalize upd H st (.lst []) = H1 at I0
  refine ⟨fun σ' H' => ∃ (M : List (TripV × Addr)) (o4 o5 o6 o7 : Option V), σ' = [some (.ref al), some (.ref ld), some (.str a), some (.ref st), o4, o5, o6, o7] ∧ FreeI H H' st ti Fl (fun r' _ => r' ∈ ti) 80 M, ?_, ?_⟩
  ·refine ⟨_, rfl, al, rfl, ⟨_, SqL.of (I0.same _ _ hal)⟩, for_list (K := K) (a := al) (xs := L.map fun q => V.ref q.2) (fun i σ' H' => ∃ (M : List (TripV × Addr)) (o4 o5 o6 o7 : Option V), σ' = [some (.ref al), some (.ref ld), some (.str a), some (.ref st), o4, o5, o6, o7] ∧ FreeI H H' st ti Fl (fun r' _ => r' ∈ (L.take i).map (·.1)) (2 * i) M)
    ⟨[], _, _, _, _, rfl, I0.mono (Nat.le_refl _) (fun _ _ h => (nomatch h))⟩ (fun i σ' H' _ h => ?_) (fun i v σ' H' hv h => ?_) (fun σ' H' h => ?_)⟩
   ·obtain ⟨M, o4, o5, o6, o7, _, I⟩ := h
    exact SqL.of (I.same _ _ hal)
   ·obtain ⟨M, o4, o5, o6, o7, rfl, I⟩ := h
    rw [List.getElem?_map] at hv
    cases eq : L[i]? with
    | none => rw [eq] at hv; cases hv
    | some qq =>
     rw [eq] at hv
     cases hv
     have hi : i < L.length := (List.getElem?_eq_some_iff.mp eq).1
     have hmem : qq ∈ L := List.mem_of_getElem? eq
     have hq := I.same _ _ (RL.2 qq hmem)
     have hrt : qq.1 ∈ ti := by rw [← RL.1]; exact List.mem_map.mpr ⟨qq, hmem, rfl⟩
     have va : valV (goKV (ti.map (·.nm)) Fl) (Sum.inr qq.1.nm : Key) = some (.int (Fl qq.1.nm)) := go_val (List.mem_map.mpr ⟨_, hrt, rfl⟩)
     have et : (L.take (i + 1)).map (·.1) = (L.take i).map (·.1) ++ [qq.1] := by rw [List.take_add_one, eq, List.map_append]; rfl
     refine ⟨qq.2, _, rfl, SqT.of hq, rfl, _, _, rfl, _, _, rfl, _, _, rfl, _, _, rfl, rfl, ?_⟩
     obtain ⟨r0, qa⟩ := qq
     refine ⟨fun σ' H' => ∃ M, σ' = [some (.ref al), some (.ref ld), some (.str a), some (.ref st), some (.str r0.nm), some (.str r0.a), some (.str r0.b), some (.int r0.w)] ∧ FreeI H H' st ti Fl (fun r' fw' => r' ∈ (L.take i).map (·.1) ∨ (r' = r0 ∧ fw' = true)) (2 * i + 1) M, ?_, ?_⟩
     ·refine ⟨_, rfl, _, rfl, ld, .int (Fl r0.nm), rfl, by rw [← va]; exact DGet.k (k := Sum.inr r0.nm) (I.same _ _ hld), _, rfl, _, _, rfl, rfl, _, rfl, ite2 (fun hlt => ?_) (fun hlt => ?_)⟩
      ·have hlt' : Fl r0.nm < r0.w := of_decide_eq_true hlt
       refine ⟨_, rfl, .inl ⟨rfl, _, SqL.of I.ob⟩, _, rfl, _, rfl, _, rfl, _, rfl, ld, .int (Fl r0.nm), rfl, by rw [← va]; exact DGet.k (k := Sum.inr r0.nm) (I.same _ _ hld), _, _, rfl, rfl, (by show 3 ≤ sizeLine; decide), fun p hp => ?_⟩
       have y1 := Same.new (o := .tup [.str r0.nm, .int 1, .int (r0.w - Fl r0.nm)]) hp
       have f1 : (upd H' p (.tup [.str r0.nm, .int 1, .int (r0.w - Fl r0.nm)])) p = some (.tup [.str r0.nm, .int 1, .int (r0.w - Fl r0.nm)]) := upd_same
       generalize upd H' p (.tup [.str r0.nm, .int 1, .int (r0.w - Fl r0.nm)]) = H2 at y1 f1
       refine ⟨_, rfl, _, rfl, (by show 3 ≤ sizeLine; decide), fun t ht => ?_⟩
       have y2 := Same.new (o := .tup [.ref p, .str r0.a, .str r0.b]) ht
       have f2 : (upd H2 t (.tup [.ref p, .str r0.a, .str r0.b])) t = some (.tup [.ref p, .str r0.a, .str r0.b]) := upd_same
       generalize upd H2 t (.tup [.ref p, .str r0.a, .str r0.b]) = H3 at y2 f2
       have hlm := I.len
       refine ⟨st, _, _, rfl, rfl, (y1.trans y2) _ _ I.ob, small1000 (by rw [List.length_map]; omega), ?_⟩
       exact ⟨_, rfl, I.push (fw := true) hrt (show 0 < r0.w - Fl r0.nm by omega) (y1.trans y2) (y2 _ _ f1) f2⟩
      ·have hlt' : ¬ Fl r0.nm < r0.w := fun z => hlt (decide_eq_true z)
       exact ⟨M, rfl, I.mono (Nat.le_succ _) fun r' fw' h => h.elim .inl fun ⟨e1, e2⟩ => .inr (by
        subst e1
        subst e2
        show r'.w - Fl r'.nm ≤ 0
        omega)⟩
     rintro σ4 H4 ⟨M2, rfl, I2⟩
     refine ⟨_, rfl, _, rfl, ld, .int (Fl r0.nm), rfl, by rw [← va]; exact DGet.k (k := Sum.inr r0.nm) (I2.same _ _ hld), _, _, rfl, rfl, _, rfl, ite2 (fun hlt => ?_) (fun hlt => ?_)⟩
     ·have hlt' : Fl r0.nm > 0 := of_decide_eq_true hlt
      refine ⟨_, rfl, .inl ⟨rfl, _, SqL.of I2.ob⟩, _, rfl, _, rfl, _, rfl, _, rfl, ld, .int (Fl r0.nm), rfl, by rw [← va]; exact DGet.k (k := Sum.inr r0.nm) (I2.same _ _ hld), (by show 3 ≤ sizeLine; decide), fun p hp => ?_⟩
      have y1 := Same.new (o := .tup [.str r0.nm, .int (-1), .int (Fl r0.nm)]) hp
      have f1 : (upd H4 p (.tup [.str r0.nm, .int (-1), .int (Fl r0.nm)])) p = some (.tup [.str r0.nm, .int (-1), .int (Fl r0.nm)]) := upd_same
      generalize upd H4 p (.tup [.str r0.nm, .int (-1), .int (Fl r0.nm)]) = H2 at y1 f1
      refine ⟨_, rfl, _, rfl, (by show 3 ≤ sizeLine; decide), fun t ht => ?_⟩
      have y2 := Same.new (o := .tup [.ref p, .str r0.b, .str r0.a]) ht
      have f2 : (upd H2 t (.tup [.ref p, .str r0.b, .str r0.a])) t = some (.tup [.ref p, .str r0.b, .str r0.a]) := upd_same
      generalize upd H2 t (.tup [.ref p, .str r0.b, .str r0.a]) = H3 at y2 f2
      have hlm := I2.len
      refine ⟨st, _, _, rfl, rfl, (y1.trans y2) _ _ I2.ob, small1000 (by rw [List.length_map]; omega), ?_⟩
      have I3 := I2.push (r := r0) (fw := false) hrt (show 0 < Fl r0.nm by omega) (y1.trans y2) (y2 _ _ f1) f2
      refine ⟨_, _, _, _, _, rfl, I3.mono (by omega) fun r' fw' h => .inl ?_⟩
      rw [et] at h
      rcases List.mem_append.mp h with h | h
      ·exact .inl (.inl h)
      ·have := List.mem_singleton.mp h
       cases fw' with
       | true => exact .inl (.inr ⟨this, rfl⟩)
       | false => exact .inr ⟨this, rfl⟩
     ·have hlt' : ¬ Fl r0.nm > 0 := fun z => hlt (decide_eq_true z)
      refine ⟨_, _, _, _, _, rfl, I2.mono (by omega) fun r' fw' h => ?_⟩
      rw [et] at h
      rcases List.mem_append.mp h with h | h
      ·exact .inl (.inl h)
      ·have := List.mem_singleton.mp h
       cases fw' with
       | true => exact .inl (.inr ⟨this, rfl⟩)
       | false =>
        refine .inr ?_
        subst this
        show Fl r'.nm ≤ 0
        omega
   ·obtain ⟨M, o4, o5, o6, o7, rfl, I⟩ := h
    rw [List.length_map, List.take_length, RL.1] at I
    exact ⟨M, _, _, _, _, rfl, I.mono (by omega) fun _ _ h => .inl h⟩
  rintro σ2 H2 ⟨M, o4, o5, o6, o7, rfl, I⟩
  have hlm := I.len
  have FT : FreeT H2 ti Fl (M.map (·.1)) := ⟨fun t ht => by
   obtain ⟨qq, hq, rfl⟩ := List.mem_map.mp ht
   exact (I.tr qq hq).2, fun s hs h0 => by
   obtain ⟨qq, hq, e⟩ := I.all s hs h0
   exact ⟨qq.1, List.mem_map.mpr ⟨qq, hq, rfl⟩, e⟩⟩
  refine ⟨_, rfl, _, rfl, st, M, M.map (·.1), a, rfl, I.ob, ⟨rfl, fun qq hq => (I.tr qq hq).1⟩, by rw [List.length_map]; exact hlm, oka, fun t ht => ?_, fun d H3 G hd s3 fd ha cl lg hg => ?_⟩
  ·obtain ⟨s, p, rfl, hs, _⟩ := FT.1 t ht
   show nameB s.en = true
   unfold Stp.en
   split
   ·exact (okr _ hs).2
   ·exact (okr _ hs).1
  ·exact q d H3 (M.map (·.1)) G (I.same.free hd) (I.same.trans s3) (FT.same s3) fd ha cl lg fun g hg' => I.same.free (hg g hg')
end
end Net
namespace Net
open PySem L2
theorem SW.nil_eq {a : Str} {ss : List Stp} {vis : List Str} {x : Str} (h : SW a ss vis x) : ss = [] → a = x := by
 cases h with
 | nil => exact fun _ => rfl
 | snoc p h hy =>
  intro e
  simp at e
def WayAt (H : Hp) (ti : List Row) (F : Str → Int) (a b : Str) (v : V) : Prop := (v = .non ∧ ∃ side : List Str, a ∈ side ∧ b ∉ side ∧ ∀ s : Stp, s.r ∈ ti → 0 < s.room F → s.beg ∈ side → s.en ∈ side) ∨
 ∃ (wl : Addr) (ss : List (Stp × Addr)) (vis : List Str), v = .ref wl ∧ H wl = some (.lst (ss.map fun q => V.ref q.2)) ∧ (∀ q ∈ ss, q.1.r ∈ ti ∧ StpAt H F q.1 q.2) ∧ SW a (ss.map (·.1)) vis b ∧ ss.length ≤ 81
theorem path_stp {H : Hp} {ti : List Row} {F : Str → Int} {T : List TripV} {a : Str} (ft : FreeT H ti F T) {ws : List V} {vis : List Str} {x : Str} (p : PathV T a ws vis x) : ∃ ss : List (Stp × Addr), ws = ss.map (fun q => V.ref q.2) ∧ SW a (ss.map (·.1)) vis x ∧ ∀ q ∈ ss, q.1.r ∈ ti ∧ StpAt H F q.1 q.2 := by
 induction p with
 | nil => exact ⟨[], rfl, .nil, fun _ h => nomatch h⟩
 | @snoc ws vis x y nm p h hy ih =>
  obtain ⟨ss, e, sw, hs⟩ := ih
  obtain ⟨s, ad, e2, h2, h3⟩ := ft.1 _ h
  obtain ⟨e3, e4⟩ := Prod.mk.inj e2
  obtain ⟨e5, e6⟩ := Prod.mk.inj e4
  subst e3
  subst e5
  subst e6
  refine ⟨ss ++ [(s, ad)], by rw [List.map_append, e]; rfl, by rw [List.map_append]; exact .snoc sw rfl hy, fun q hq => ?_⟩
  rcases List.mem_append.mp hq with hq | hq
  ·exact hs q hq
  ·rw [List.mem_singleton.mp hq]
   exact ⟨h2, h3⟩
theorem way_of {H : Hp} {ti : List Row} {F : Str → Int} {T : List TripV} {a b : Str} {d : Addr} {G : List FdV} (ft : FreeT H ti F T) (fd : FdAtV H d T a G) (ha : a ∈ keysV G) (cl : ClosedV T (keysV G)) (lg : G.length ≤ 81) : ∃ o, DGet H d (.str b) o ∧ WayAt H ti F a b (o.getD .non) := by
 by_cases hb : b ∈ keysV G
 ·obtain ⟨g, hg, eg, vg⟩ := fd_getV hb
  obtain ⟨h1, ⟨vis, p, _⟩, h3⟩ := fd.ws g hg
  rw [eg] at p
  obtain ⟨ss, e, sw, hs⟩ := path_stp ft p
  refine ⟨some (.ref g.2.2), by rw [← vg]; exact DGet.k (k := Sum.inr b) fd.ob, .inr ⟨g.2.2, ss, vis, rfl, by rw [← e]; exact h1, hs, sw, ?_⟩⟩
  have := congrArg List.length e
  rw [List.length_map] at this
  omega
 ·refine ⟨none, by rw [← fd_noneV hb]; exact DGet.k (k := Sum.inr b) fd.ob, .inl ⟨rfl, keysV G, ha, hb, fun s hs h0 hx => ?_⟩⟩
  obtain ⟨t, ht, e⟩ := ft.2 s hs h0
  obtain ⟨e1, e2⟩ := Prod.mk.inj e
  have := cl t ht (by rw [e1]; exact hx)
  rw [e2] at this
  exact this
theorem b_min : bootBuiltins "min" = some (.builtin "min") := by decide +kernel
def spAdd : Sp := fun vs H Q _ => ∃ (ld wl : Addr) (ns : List Str) (F : Str → Int) (ss : List (Stp × Addr)), vs = [.ref ld, .ref wl] ∧ H ld = some (.dK (goKV ns F)) ∧ ns.length ≤ 100 ∧ H wl = some (.lst (ss.map fun q => V.ref q.2)) ∧ (∀ q ∈ ss, q.1.r.nm ∈ ns ∧ StpAt H F q.1 q.2) ∧ ss ≠ [] ∧ ss.length ≤ 100 ∧
 ∀ (m : Int) (H' : Hp), 1 ≤ m → (∀ q ∈ ss, m ≤ q.1.room F) → (∀ b o, H b = some o → b ≠ ld → H' b = some o) → H' ld = some (.dK (goKV ns (addF F m (ss.map (·.1))))) → Q .non H'
def spGreat62 : Sp := fun vs H Q _ => ∃ (al : Addr) (a b : Str) (L : List (Row × Addr)) (ti : List Row), vs = [.ref al, .str a, .str b] ∧ H al = some (.lst (L.map fun q => V.ref q.2)) ∧ Rows4 H L ti ∧ ti.length ≤ 40 ∧ (ti.map (·.nm)).Nodup ∧ nameB a = true ∧ (∀ r ∈ ti, nameB r.a = true ∧ nameB r.b = true) ∧ (∀ r ∈ ti, 0 ≤ r.w) ∧ ¬ a = b ∧
 ∀ (ld : Addr) (F : Str → Int) (H' : Hp), H ld = none → Same H H' → H' ld = some (.dK (goKV (ti.map (·.nm)) F)) → FlowOk ti F → (∀ x, ¬ x = a → ¬ x = b → netR ti F x = 0) → (∃ side : List Str, a ∈ side ∧ b ∉ side ∧ ∀ s : Stp, s.r ∈ ti → 0 < s.room F → s.beg ∈ side → s.en ∈ side) → Q (.ref ld) H'
section
variable {P : Program} {w : World} {K : PySem.W.Frag} {mg : Str → Option Value} {base : Heap} {C : Addr}
abbrev Nadd : List Str := ["loads", "way", "more", "name", "sign", "room"]
theorem sc_add : FnScope Nadd ["loads", "way"] (defScope s_add_along) := ⟨rfl, rfl, rfl, by decide +kernel, rfl, by decide +kernel, by decide +kernel⟩
theorem ok_add {f : Addr} {fd : FuncData} (F : Fun K "add_along" "add_along" s_add_along f fd) (hmin : mg "min" = none) : FnOk P w K mg base CX0 1 f fd ["loads", "way"] spAdd := by
 refine F.ok sc_add (fun vs H Q E h => ?_) (fun cdv A outer s H vs Q E hr h => ?_)
 ·obtain ⟨ld, wl, ns, Fl, ss, rfl, _⟩ := h
  rfl
 ·obtain ⟨ld, wl, ns, Fl, ss, rfl, hld, hns, hwl, hss, hne, hlen, q⟩ := h
  have hu := hu_of hr
  have nd_0 : List.Nodup (["name", "sign", "room"] : List Str) := by decide +kernel
  refine ⟨_, (pss_cons (ps_set (i := 2) sc_add.nd rfl (Or.inl rfl) (pe_callB (call_minL rfl) (by rfl) hmin b_min (pa_cons (pe_comp (N := ["name", "sign", "room"]) (xs := 3) (js := []) rfl (compScope_of rfl) (pi_list (pv 1)) (fun _ _ _ _ => pg_tupC (n := 3) K (by rfl) (by rfl) (pgs_cons (pg_name (i := 0) nd_0 rfl (Or.inl rfl)) (pgs_cons (pg_name (i := 1) nd_0 rfl (Or.inl rfl)) (pgs_cons (pg_name (i := 2) nd_0 rfl (Or.inl rfl)) pgs_nil)))) (fun _ _ _ _ => pts_nil) (fun _ _ _ _ => pv 2)) pa_nil)))
   (pss_one (ps_for PassesOwn.never rfl (pi_list (pv 1)) (pg_tup rfl (pgs_cons (pg_name (i := 3) sc_add.nd rfl (Or.inl rfl)) (pgs_cons (pg_name (i := 4) sc_add.nd rfl (Or.inl rfl)) (pgs_cons (pg_name (i := 5) sc_add.nd rfl (Or.inl rfl)) pgs_nil))))
     (pss_one (ps_daug hu (pv 0) (pv 3) (pe_op op_mul (pv 4) (pv 2)) in_add (fun _ _ _ => rfl)))))), ?_⟩
  refine ⟨_, rfl, wl, rfl, ⟨_, SqL.of hwl⟩, comp_list (K := K) (ys := ss.map fun q => V.ref q.2) (fun i acc σ' H' => H' = H ∧ acc = ((ss.take i).map fun q => V.int (q.1.room Fl)) ∧ ∃ o1 o2 o3, σ' = [o1, o2, o3])
   ⟨rfl, rfl, none, none, none, rfl⟩ (fun i acc σ' H' h => ?_) ?_ (fun i acc σ' H' _ h => by rw [h.1]; exact SqL.of hwl) (fun i x acc σ' H' hx h => ?_) (fun acc σ' H' h pp hpp => ?_)⟩
  ·rw [h.2.1, List.length_map, List.length_take]; omega
  ·rw [List.length_map]
   exact Nat.le_trans hlen (by decide)
  ·obtain ⟨rfl, rfl, o1, o2, o3, rfl⟩ := h
   rw [List.getElem?_map] at hx
   cases eq : ss[i]? with
   | none => rw [eq] at hx; cases hx
   | some qq =>
    rw [eq] at hx
    cases hx
    have hq := (hss qq (List.mem_of_getElem? eq)).2.1
    refine ⟨qq.2, _, rfl, SqT.of hq, rfl, _, _, rfl, _, _, rfl, _, _, rfl, rfl, ?_⟩
    refine ⟨_, rfl, rfl, ?_, _, _, _, rfl⟩
    rw [List.take_add_one, eq, List.map_append]
    rfl
  obtain ⟨rfl, rfl, o1, o2, o3, rfl⟩ := h
  rw [List.length_map, List.take_length]
  have z1 := Same.new (o := .lst (ss.map fun q => V.int (q.1.room Fl))) hpp
  have e1 : (upd H' pp (.lst (ss.map fun q => V.int (q.1.room Fl)))) pp = some (.lst ((ss.map fun q => q.1.room Fl).map V.int)) := by rw [upd_same, List.map_map]; rfl
  generalize upd H' pp (.lst (ss.map fun q => V.int (q.1.room Fl))) = H1 at z1 e1
  refine ⟨pp, ss.map fun q => q.1.room Fl, rfl, SqL.of e1, fun z => hne (List.map_eq_nil_iff.mp z), fun m hm hle => ?_⟩
  have hm1 : 1 ≤ m := by
   obtain ⟨qq, hq, e⟩ := List.mem_map.mp hm
   have := (hss qq hq).2.2
   omega
  have hmr : ∀ q ∈ ss, m ≤ q.1.room Fl := fun q hq => hle _ (List.mem_map.mpr ⟨q, hq, rfl⟩)
  refine ⟨_, rfl, wl, rfl, ⟨_, SqL.of (z1 _ _ hwl)⟩, for_list (K := K) (a := wl) (xs := ss.map fun q => V.ref q.2) (fun i σ' H2 => (∃ o3 o4 o5, σ' = [some (.ref ld), some (.ref wl), some (.int m), o3, o4, o5]) ∧ (∀ b o, H' b = some o → b ≠ ld → H2 b = some o) ∧ H2 ld = some (.dK (goKV ns (addF Fl m ((ss.take i).map (·.1))))))
   ⟨⟨_, _, _, rfl⟩, fun b o e _ => z1 _ _ e, z1 _ _ hld⟩ (fun i σ' H2 _ h => ?_) (fun i v σ' H2 hv h => ?_) (fun σ' H2 h => ?_)⟩
  ·exact SqL.of (h.2.1 _ _ hwl (ne_of hwl hld (by intro z; cases z)))
  ·obtain ⟨⟨o3, o4, o5, rfl⟩, hk, e5⟩ := h
   rw [List.getElem?_map] at hv
   cases eq : ss[i]? with
   | none => rw [eq] at hv; cases hv
   | some qq =>
    rw [eq] at hv
    cases hv
    obtain ⟨hnm, hq, _⟩ := hss qq (List.mem_of_getElem? eq)
    have hq2 := hk _ _ hq (ne_of hq hld (by intro z; cases z))
    refine ⟨qq.2, _, rfl, SqT.of hq2, rfl, _, _, rfl, _, _, rfl, _, _, rfl, rfl, ?_⟩
    have hc : -(2 ^ 64) < qq.1.sg ∧ qq.1.sg < 2 ^ 64 := by
     unfold Stp.sg
     split <;> exact ⟨by decide, by decide⟩
    refine ⟨_, rfl, _, rfl, ld, .int (addF Fl m ((ss.take i).map (·.1)) qq.1.r.nm), rfl, by rw [← go_val hnm]; exact DGet.k (k := Sum.inr qq.1.r.nm) e5, _, rfl, _, rfl, _, _, rfl, rfl, .inl hc, _, _, rfl, rfl, _, DPut.k (k := Sum.inr qq.1.r.nm) e5 (small1000 (by rw [go_len]; omega)), ?_⟩
    rw [go_put hnm]
    refine ⟨⟨_, _, _, rfl⟩, fun b o e nb => by rw [upd_ne nb]; exact hk b o e nb, ?_⟩
    rw [upd_same, List.take_add_one, eq, List.map_append]
    show some (HO.dK (goKV ns _)) = some (HO.dK (goKV ns (addF Fl m (List.map (·.1) (ss.take i) ++ [qq.1]))))
    rw [addF_snoc]
    rfl
  ·obtain ⟨⟨o3, o4, o5, rfl⟩, hk, e5⟩ := h
   rw [List.length_map, List.take_length] at e5
   exact q m H2 hm1 hmr hk e5
abbrev Ngreat : List Str := ["arcs", "a", "b", "loads", "way"]
theorem sc_great62 : FnScope Ngreat ["arcs", "a", "b"] (defScope s_greatest_flow) := ⟨rfl, rfl, rfl, by decide +kernel, rfl, by decide +kernel, by decide +kernel⟩
theorem ok_great62 {f : Addr} {fd : FuncData} (F : Fun K "greatest_flow" "greatest_flow" s_greatest_flow f fd) (TW : TxtW mg) (cfree_ways : Can P w K mg base 3 "free_ways" ["arcs", "loads", "a"] spFree) (cadd_along : Can P w K mg base 1 "add_along" ["loads", "way"] spAdd) : FnOk P w K mg base CX0 4 f fd ["arcs", "a", "b"] spGreat62 := by
 refine F.ok sc_great62 (fun vs H Q E h => ?_) (fun cdv A outer s H vs Q E hr h => ?_)
 ·obtain ⟨al, a, b, L, ti, rfl, _⟩ := h
  rfl
 ·obtain ⟨al, a, b, L, ti, rfl, hal, RL, few, nd, oka, okr, okw, hab, q⟩ := h
  have hu := hu_of hr
  have r1 : Room 1 _ := hr.mono (by decide)
  have nd_0 : List.Nodup (["arc"] : List Str) := by decide +kernel
  refine ⟨_, (pss_cutE (ps_set (i := 3) sc_great62.nd rfl (Or.inl rfl) (pe_callTy (call_dictP rfl) (by rfl) TW.dict b_dict (pa_cons (pe_comp (N := ["arc"]) (xs := 1) (js := []) rfl (compScope_of rfl) (pi_list (pv 0)) (fun _ _ _ _ => pg_name (i := 0) nd_0 rfl (Or.inl rfl)) (fun _ _ _ _ => pts_nil) (fun _ _ _ _ => pe_tup (pa_cons (pe_ix (ix_tupK K (by rfl)) (pv 0) pe_int (fun _ _ => by rfl)) (pa_cons pe_int pa_nil)))) pa_nil)))
   (pss_cons (ps_set (i := 4) sc_great62.nd rfl (Or.inl rfl) (pe_dget1 hu (pe_callC cfree_ways hr (by rfl) (pa_cons (pv 0) (pa_cons (pv 3) (pa_cons (pv 1) pa_nil)))) (pv 2) ⟨rfl, rfl, rfl, rfl⟩))
   (pss_cons (ps_while PassesOwn.never (pt_cmp (pc_notN (pv 4)))
     (pss_cons (ps_expr (pe_callC cadd_along r1 (by rfl) (pa_cons (pv 3) (pa_cons (pv 4) pa_nil))))
   (pss_one (ps_set (i := 4) sc_great62.nd rfl (Or.inl rfl) (pe_dget1 hu (pe_callC cfree_ways hr (by rfl) (pa_cons (pv 0) (pa_cons (pv 3) (pa_cons (pv 1) pa_nil)))) (pv 2) ⟨rfl, rfl, rfl, rfl⟩)))))
   (pss_one (ps_ret (pv 3)))))), ?_⟩
  have hLl : L.length = ti.length := by rw [← RL.1, List.length_map]
  refine ⟨fun σ' H' => ∃ ld, σ' = [some (.ref al), some (.str a), some (.str b), some (.ref ld), none] ∧ Same H H' ∧ H ld = none ∧ H' ld = some (.dK (goKV (ti.map (·.nm)) fun _ => 0)), ?_, ?_⟩
  ·refine ⟨_, rfl, al, rfl, ⟨_, SqL.of hal⟩, comp_list (K := K) (ys := L.map fun q => V.ref q.2) (fun i acc σ' H' => ∃ ps : List (Addr × Key × V), acc = ps.map (fun q => V.ref q.1) ∧ ps.map (·.2) = goKV (((L.take i).map (·.1)).map (·.nm)) (fun _ => 0) ∧ (∀ q ∈ ps, H' q.1 = some (.tup [kV q.2.1, q.2.2])) ∧ Same H H' ∧ ∃ o, σ' = [o])
    ⟨[], rfl, rfl, fun _ h => (nomatch h), Same.refl H, none, rfl⟩ (fun i acc σ' H' h => ?_) ?_ (fun i acc σ' H' _ h => ?_) (fun i x acc σ' H' hx h => ?_) (fun acc σ' H' h pp hpp => ?_)⟩
   ·obtain ⟨ps, rfl, e, _⟩ := h
    have := congrArg List.length e
    rw [go_len, List.length_map, List.length_map, List.length_map, List.length_take] at this
    rw [List.length_map]
    omega
   ·rw [List.length_map]
    exact Nat.le_trans (show L.length ≤ 40 by omega) (by decide)
   ·obtain ⟨_, _, _, _, s5, _⟩ := h
    exact SqL.of (s5 _ _ hal)
   ·obtain ⟨ps, rfl, e, hp, s5, o, rfl⟩ := h
    rw [List.getElem?_map] at hx
    cases ey : L[i]? with
    | none => rw [ey] at hx; cases hx
    | some y =>
     rw [ey] at hx
     cases hx
     have hy := s5 _ _ (RL.2 y (List.mem_of_getElem? ey))
     refine ⟨_, rfl, y.2, _, _, .str y.1.nm, rfl, rfl, SqT.of hy, rfl, (by show 2 ≤ sizeLine; decide), fun t ht => ?_⟩
     refine ⟨ps ++ [(t, Sum.inr y.1.nm, V.int 0)], by rw [List.map_append]; rfl, ?_, fun z hz => ?_, s5.upd ht, _, rfl⟩
     ·rw [List.map_append, e, List.take_add_one, ey, List.map_append, List.map_append]
      unfold goKV
      rw [List.map_append]
      rfl
     ·rcases List.mem_append.mp hz with hz | hz
      ·exact (Same.new ht) _ _ (hp z hz)
      ·cases List.mem_singleton.mp hz
       exact upd_same
   ·obtain ⟨ps, rfl, e, hp, s5, o, rfl⟩ := h
    rw [List.length_map, List.take_length, RL.1] at e
    have s6 := Same.new (o := .lst (ps.map fun q => V.ref q.1)) hpp
    refine ⟨pp, ps, rfl, SqL.of upd_same, fun z hz => SqT.of (s6 _ _ (hp z hz)), fun dg hdg => ?_⟩
    have sa := s5.trans s6
    refine ⟨dg, rfl, sa.upd hdg, sa.free hdg, ?_⟩
    rw [upd_same, e, show mergeK [] (goKV (ti.map (·.nm)) fun _ => 0) = goKV ([] ++ ti.map (·.nm)) fun _ => 0 from go_merge (pl := []) nd]
    rfl
  rintro σ1 H1 ⟨ld, rfl, s1, hld, eld⟩
  refine ⟨_, rfl, _, rfl, _, rfl, al, ld, a, L, ti, (fun _ => 0), rfl, s1 _ _ hal, RL.same s1, eld, few, oka, okr, fun d H2 T G hd s2 ft fd2 ha cl lg _ => ?_⟩
  obtain ⟨o, dg, wy⟩ := way_of (b := b) ft fd2 ha cl lg
  refine ⟨d, rfl, .inl ⟨_, .inl fd2.ob⟩, _, rfl, o, dg, ?_⟩
  refine ⟨fun m σ' H' => ∃ (Fl : Str → Int) (v : V), σ' = [some (.ref al), some (.str a), some (.str b), some (.ref ld), some v] ∧ Same H H' ∧ H' ld = some (.dK (goKV (ti.map (·.nm)) Fl)) ∧ FlowOk ti Fl ∧ (∀ x, ¬ x = a → ¬ x = b → netR ti Fl x = 0) ∧ m = ((ti.map (·.w)).sum - netR ti Fl a).toNat ∧ WayAt H' ti Fl a b v, ⟨_, fun _ => 0, _, rfl, s1.trans s2, s2 _ _ eld, fun r hr => ⟨Int.le_refl _, okw r hr⟩, fun x _ _ => net_zero, rfl, wy⟩, ?_⟩
  rintro m σ' H' ⟨Fl, v, rfl, s3, e3, ok, bal, hm, wy⟩
  refine ⟨_, rfl, _, rfl, ?_⟩
  rcases wy with ⟨rfl, cut⟩ | ⟨wl, ss, vis, rfl, hwl, hss, sw, hl⟩
  ·exact iteFb (by rfl) ⟨_, rfl, q ld Fl H' hld s3 e3 ok bal cut⟩
  ·refine iteTb (by rfl) ⟨_, fun _ _ z => z, ?_⟩
   have hin : ∀ s ∈ ss.map (·.1), s.r ∈ ti := fun s hs => by
    obtain ⟨qq, hq, rfl⟩ := List.mem_map.mp hs
    exact (hss qq hq).1
   have hne : ss ≠ [] := fun z => hab (sw.nil_eq (by rw [z]; rfl))
   refine ⟨_, rfl, _, rfl, ld, wl, ti.map (·.nm), Fl, ss, rfl, e3, by rw [List.length_map]; omega, hwl, fun qq hq => ⟨List.mem_map.mpr ⟨_, (hss qq hq).1, rfl⟩, (hss qq hq).2⟩, hne, by omega, fun k H4 hk1 hkr hkeep e4 => ?_⟩
   have s4 : Same H H4 := fun b0 o0 z => hkeep _ _ (s3 _ _ z) (ne_of_none z hld)
   have ok4 := add_ok (m := k) nd sw hin ok (by omega) (fun s hs => by
    obtain ⟨qq, hq, rfl⟩ := List.mem_map.mp hs
    exact hkr qq hq)
   have net4 := fun y => net_add (F := Fl) (m := k) (y := y) nd sw hin
   refine ⟨_, rfl, _, rfl, _, rfl, al, ld, a, L, ti, _, rfl, s4 _ _ hal, RL.same s4, e4, few, oka, okr, fun d H5 T G hd s5 ft fd5 ha cl lg _ => ?_⟩
   obtain ⟨o, dg, wy⟩ := way_of (b := b) ft fd5 ha cl lg
   refine ⟨d, rfl, .inl ⟨_, .inl fd5.ob⟩, _, rfl, o, dg, ?_⟩
   refine ⟨_, ?_, _, _, rfl, s4.trans s5, s5 _ _ e4, ok4, fun x ha hb => ?_, rfl, wy⟩
   ·have n1 := net4 a
    rw [if_pos rfl, if_neg (fun z => hab z.symm)] at n1
    have n2 := net_le (x := a) ok4
    rw [hm]
    omega
   ·rw [net4 x, if_neg (fun z => ha z.symm), if_neg (fun z => hb z.symm), bal x ha hb]
    rfl
end
end Net
namespace Net
open PySem L2
def loadD (q : Row × Int) : PyData := .list [.str q.1.nm, .int q.2]
def LoadsAt (H : Hp) (l : Addr) (ls : List (Row × Int)) : Prop := ∃ L : List ((Row × Int) × Addr), H l = some (.lst (L.map fun q => V.ref q.2)) ∧ L.map (·.1) = ls ∧ ∀ q ∈ L, H q.2 = some (.lst [.str q.1.1.nm, .int q.1.2])
theorem LoadsAt.same {H H' : Hp} {l : Addr} {ls : List (Row × Int)} (s : Same H H') (h : LoadsAt H l ls) : LoadsAt H' l ls := let ⟨L, a, b, c⟩ := h; ⟨L, s _ _ a, b, fun q hq => s _ _ (c q hq)⟩
theorem loads_pair {H : Hp} : ∀ {L : List ((Row × Int) × Addr)}, (∀ q ∈ L, H q.2 = some (.lst [.str q.1.1.nm, .int q.1.2]) ∧ nameB q.1.1.nm = true) → Paired (PD H 1) (L.map fun q => V.ref q.2) ((L.map (·.1)).map loadD)
 | [], _ => .nil
 | q :: L, h => .cons (.inl ⟨_, _, (h q List.mem_cons_self).1, rfl, .cons ⟨strOk_of (h q List.mem_cons_self).2, rfl⟩ (.cons rfl .nil)⟩) (loads_pair fun t ht => h t (List.mem_cons_of_mem _ ht))
theorem LoadsAt.pd {H : Hp} {l : Addr} {ls : List (Row × Int)} (h : LoadsAt H l ls) (ok : ∀ q ∈ ls, nameB q.1.nm = true) : PD H 2 (.ref l) (.list (ls.map loadD)) := by
 obtain ⟨L, e, rfl, c⟩ := h
 exact .inl ⟨_, _, e, rfl, loads_pair fun q hq => ⟨c q hq, ok _ (List.mem_map.mpr ⟨q, hq, rfl⟩)⟩⟩
theorem loads_of {ti : List Row} (nd : (ti.map (·.nm)).Nodup) : ∀ {ls : List (Row × Int)}, (∀ q ∈ ls, q.1 ∈ ti ∧ 1 ≤ q.2 ∧ q.2 ≤ q.1.w) → loadsOf ti (ls.map loadD) = some ls
 | [], _ => rfl
 | q :: ls, h => by
  obtain ⟨h1, h2, h3⟩ := h q List.mem_cons_self
  have e : loadOf ti (loadD q) = some q := by
   show (match rowOf ti q.1.nm with | none => none | some r => if 1 ≤ q.2 ∧ q.2 ≤ r.w then some (r, q.2) else none) = _
   rw [row_of nd h1]
   exact if_pos ⟨h2, h3⟩
  show (match loadOf ti (loadD q) with | none => none | some q => (loadsOf ti (ls.map loadD)).map (q :: ·)) = _
  rw [e, loads_of nd fun t ht => h t (List.mem_cons_of_mem _ ht)]
  rfl
theorem flow_val {S : NS} (ndT : S.nms.Nodup) {a b : Str} {ls : List (Row × Int)} (hin : ∀ q ∈ ls, q.1 ∈ S.ti ∧ 1 ≤ q.2 ∧ q.2 ≤ q.1.w) (nd : (ls.map (·.1.nm)).Nodup) (bal : ∀ x ∈ S.pl, ¬ x = a → ¬ x = b → goes ls x = 0) : flowD S a b (.list (ls.map loadD)) = some (goes ls a) := by
 have e : goesD S (.list (ls.map loadD)) = some ls := by
  show (match loadsOf S.ti (ls.map loadD) with | none => none | some ls => if (ls.map fun q : Row × Int => q.1.nm).Nodup then some ls else none) = _
  rw [loads_of ndT hin]
  exact if_pos nd
 unfold flowD
 rw [e]
 refine if_pos (List.all_eq_true.mpr fun x hx => ?_)
 by_cases h1 : x = a
 ·simp [h1]
 ·by_cases h2 : x = b
  ·simp [h2]
  ·simp [bal x hx h1 h2]
def flowL (ti : List Row) (F : Str → Int) : List (Row × Int) := (ti.filter fun r => decide (0 < F r.nm)).map fun r => (r, F r.nm)
theorem flowL_goes {F : Str → Int} {x : Str} : ∀ {ti : List Row}, (∀ r ∈ ti, 0 ≤ F r.nm) → goes (flowL ti F) x = netR ti F x
 | [], _ => rfl
 | r :: ti, h => by
  have ih := flowL_goes (x := x) fun t ht => h t (List.mem_cons_of_mem _ ht)
  have h0 := h r List.mem_cons_self
  rw [netR_cons]
  by_cases e : 0 < F r.nm
  ·have : flowL (r :: ti) F = (r, F r.nm) :: flowL ti F := by
    unfold flowL
    rw [List.filter_cons_of_pos (p := fun r : Row => decide (0 < F r.nm)) (decide_eq_true e)]
    rfl
   rw [this, goes_cons, ih]
  ·have : flowL (r :: ti) F = flowL ti F := by
    unfold flowL
    rw [List.filter_cons_of_neg (by simpa using e)]
   rw [this, ih]
   have e0 : F r.nm = 0 := by omega
   rw [e0]
   show _ = ((if r.a = x then (0 : Int) else 0) - (if r.b = x then 0 else 0)) + _
   split <;> split <;> omega
theorem flowL_in {ti : List Row} {F : Str → Int} (ok : FlowOk ti F) : ∀ q ∈ flowL ti F, q.1 ∈ ti ∧ 1 ≤ q.2 ∧ q.2 ≤ q.1.w := fun q hq => by
 obtain ⟨r, hr, rfl⟩ := List.mem_map.mp hq
 obtain ⟨h1, h2⟩ := List.mem_filter.mp hr
 have := of_decide_eq_true h2
 exact ⟨h1, this, (ok r h1).2⟩
theorem flowL_nd {ti : List Row} {F : Str → Int} (nd : (ti.map (·.nm)).Nodup) : ((flowL ti F).map (·.1.nm)).Nodup := by
 have e : (flowL ti F).map (·.1.nm) = (ti.filter fun r => decide (0 < F r.nm)).map (·.nm) := by
  unfold flowL
  rw [List.map_map]
  rfl
 rw [e]
 exact List.Nodup.sublist (List.filter_sublist.map _) nd
def spArcs (C : Addr) : Sp := fun vs H Q _ => ∃ (p ds dl : Addr) (S : NS), vs = [.ref p] ∧ NetS C H p ds dl S ∧ ∀ (l : Addr) (L : List (Row × Addr)) (H' : Hp), Same H H' → H' l = some (.lst (L.map fun q => V.ref q.2)) → Rows4 H' L S.ti → Q (.ref l) H'
def BalOk (ti : List Row) (a b : Str) (ls : List (Row × Int)) : Prop := (∀ q ∈ ls, q.1 ∈ ti ∧ 1 ≤ q.2 ∧ q.2 ≤ q.1.w) ∧ (ls.map (·.1.nm)).Nodup ∧ ∀ x, ¬ x = a → ¬ x = b → goes ls x = 0
def spPFlow (C : Addr) : Sp := fun vs H Q _ => ∃ (p ds dl tt : Addr) (S : NS) (a b : Str), vs = [.ref p, .ref tt, .bl false] ∧ NetS C H p ds dl S ∧ TeAt H tt "flow" a b ∧ a ∈ S.pl ∧ ¬ a = b ∧ (∀ r ∈ S.ti, 0 ≤ r.w) ∧ ∀ (l : Addr) (ls : List (Row × Int)) (H' : Hp), Same H H' → LoadsAt H' l ls → BalOk S.ti a b ls → ls.length ≤ 40 → Q (.ref l) H'
def spPOne (C : Addr) : Sp := fun vs H Q _ => ∃ (p ds dl tt : Addr) (S : NS) (a b : Str), vs = [.ref p, .ref tt, .bl false] ∧ NetS C H p ds dl S ∧ TeAt H tt "flow" a b ∧ a ∈ S.pl ∧ (∀ r ∈ S.ti, 0 ≤ r.w) ∧ ∀ (l : Addr) (ls : List (Row × Int)) (H' : Hp), Same H H' → LoadsAt H' l ls → BalOk S.ti a b ls → ls.length ≤ 40 → Q (.ref l) H'
def spFind62 (C : Addr) : Sp := fun vs H Q _ => ∃ (p ds dl tt : Addr) (S : NS) (a b : Str), vs = [.ref p, .ref tt, .bl false] ∧ NetS C H p ds dl S ∧ TeAt H tt "flow" a b ∧ a ∈ S.pl ∧ (∀ r ∈ S.ti, 0 ≤ r.w) ∧ ∀ (t l : Addr) (v : V) (ls : List (Row × Int)) (H' : Hp), Same H H' → H' t = some (.tup [v, .ref l]) → LoadsAt H' l ls → BalOk S.ti a b ls → ls.length ≤ 40 → Q (.ref t) H'
section
variable {P : Program} {w : World} {K : PySem.W.Frag} {mg : Str → Option Value} {base : Heap} {C : Addr}
theorem sc_arcs : FnScope ["net"] ["net"] (defScope s_arcs_of_ties) := ⟨rfl, rfl, rfl, by decide +kernel, rfl, by decide +kernel, by decide +kernel⟩
theorem ok_arcs {f : Addr} {fd : FuncData} (F : Fun K "arcs_of_ties" "arcs_of_ties" s_arcs_of_ties f fd) (T : Txt K mg C) (m_ties : CanM P w K mg base 1 C "ties" ["self"] (spTies C)) : FnOk P w K mg base CX0 2 f fd ["net"] (spArcs C) := by
 refine F.ok sc_arcs (fun vs H Q E h => ?_) (fun cdv A outer s H vs Q E hr h => ?_)
 ·obtain ⟨p, ds, dl, S, rfl, _⟩ := h
  rfl
 ·obtain ⟨p, ds, dl, S, rfl, N, q⟩ := h
  have nd_0 : List.Nodup (["row"] : List Str) := by decide +kernel
  refine ⟨_, (pss_one (ps_ret (pe_comp (N := ["row"]) (xs := 1) (js := []) rfl (compScope_of rfl) (pi_list (pe_methC0 (pv 0) T.cl m_ties hr)) (fun _ _ _ _ => pg_name (i := 0) nd_0 rfl (Or.inl rfl)) (fun _ _ _ _ => pts_nil) (fun _ _ _ _ => pe_tup (pa_cons (pe_ix (ix_tupK K (by rfl)) (pv 0) pe_int (fun _ _ => by rfl)) (pa_cons (pe_ix (ix_tupK K (by rfl)) (pv 0) pe_int (fun _ _ => by rfl)) (pa_cons (pe_ix (ix_tupK K (by rfl)) (pv 0) pe_int (fun _ _ => by rfl)) (pa_cons (pe_ix (ix_tupK K (by rfl)) (pv 0) pe_int (fun _ _ => by rfl)) pa_nil)))))))), ?_⟩
  obtain ⟨dx, h1⟩ := N.net.ob
  refine ⟨_, rfl, p, dx, _, rfl, h1, flds_no ds dl (by decide +kernel) (by decide +kernel), p, ds, dl, S, rfl, N.net, fun l H1 L hl s1 RL e1 => ?_⟩
  have RL1 := RL.same s1
  refine ⟨l, rfl, ⟨_, SqL.of e1⟩, comp_list (K := K) (ys := L.map fun q => V.ref q.2) (fun i acc σ' H' => ∃ M : List (Row × Addr), acc = M.map (fun q => V.ref q.2) ∧ Rows4 H' M ((L.take i).map (·.1)) ∧ Same H1 H' ∧ ∃ o, σ' = [o])
   ⟨[], rfl, ⟨rfl, fun _ h => nomatch h⟩, Same.refl H1, none, rfl⟩ (fun i acc σ' H' h => ?_) ?_ (fun i acc σ' H' _ h => ?_) (fun i x acc σ' H' hx h => ?_) (fun acc σ' H' h pp hpp => ?_)⟩
  ·obtain ⟨M, rfl, e, _⟩ := h
   have := congrArg List.length e.1
   rw [List.length_map, List.length_map, List.length_take] at this
   rw [List.length_map]
   omega
  ·have e : L.length = S.ti.length := by rw [← RL.1, List.length_map]
   rw [List.length_map, e]
   exact Nat.le_trans N.few (by decide)
  ·obtain ⟨_, _, _, s2, _⟩ := h
   exact SqL.of (s2 _ _ e1)
  ·obtain ⟨M, rfl, e, s2, o, rfl⟩ := h
   rw [List.getElem?_map] at hx
   cases eq : L[i]? with
   | none => rw [eq] at hx; cases hx
   | some qq =>
    rw [eq] at hx
    cases hx
    have hq := s2 _ _ (RL1.2 qq (List.mem_of_getElem? eq))
    refine ⟨_, rfl, _, _, _, .str qq.1.nm, rfl, rfl, SqT.of hq, rfl, _, rfl, _, _, _, .str qq.1.a, rfl, rfl, SqT.of hq, rfl, _, rfl, _, _, _, .str qq.1.b, rfl, rfl, SqT.of hq, rfl, _, rfl, _, _, _, .int qq.1.w, rfl, rfl, SqT.of hq, rfl, (by show 4 ≤ sizeLine; decide), fun t ht => ?_⟩
    refine ⟨M ++ [(qq.1, t)], by rw [List.map_append]; rfl, ⟨?_, fun z hz => ?_⟩, s2.upd ht, _, rfl⟩
    ·rw [List.map_append, e.1, List.take_add_one, eq, List.map_append]
     rfl
    ·rcases List.mem_append.mp hz with hz | hz
     ·exact (Same.new ht) _ _ (e.2 z hz)
     ·cases List.mem_singleton.mp hz
      exact upd_same
  ·obtain ⟨M, rfl, e, s2, o, rfl⟩ := h
   rw [List.length_map, List.take_length, RL.1] at e
   have s3 := Same.new (o := .lst (M.map fun q => V.ref q.2)) hpp
   exact q pp M _ ((s1.trans s2).trans s3) upd_same (e.same s3)
abbrev Npflow : List Str := ["net", "term", "above", "arcs", "loads"]
theorem sc_pflow : FnScope Npflow ["net", "term", "above"] (defScope s_paper_of_flow) := ⟨rfl, rfl, rfl, by decide +kernel, rfl, by decide +kernel, by decide +kernel⟩
theorem ok_pflow {f : Addr} {fd : FuncData} (F : Fun K "paper_of_flow" "paper_of_flow" s_paper_of_flow f fd) (carcs_of_ties : Can P w K mg base 2 "arcs_of_ties" ["net"] (spArcs C)) (cgreatest_flow : Can P w K mg base 4 "greatest_flow" ["arcs", "a", "b"] spGreat62) : FnOk P w K mg base CX0 5 f fd ["net", "term", "above"] (spPFlow C) := by
 refine F.ok sc_pflow (fun vs H Q E h => ?_) (fun cdv A outer s H vs Q E hr h => ?_)
 ·obtain ⟨p, ds, dl, tt, S, a, b, rfl, _⟩ := h
  rfl
 ·obtain ⟨p, ds, dl, tt, S, a, b, rfl, N, te, ha, hab, okw, q⟩ := h
  have hu := hu_of hr
  have r2 : Room 2 _ := hr.mono (by decide)
  have nd_0 : List.Nodup (["name", "loads"] : List Str) := by decide +kernel
  refine ⟨_, (pss_cons (ps_set (i := 3) sc_pflow.nd rfl (Or.inl rfl) (pe_callC carcs_of_ties r2 (by rfl) (pa_cons (pv 0) pa_nil)))
   (pss_cons (ps_set (i := 4) sc_pflow.nd rfl (Or.inr rfl) (pe_callC cgreatest_flow hr (by rfl) (pa_cons (pv 3) (pa_cons (pe_ix ix_tup (pv 1) pe_int (fun _ _ => by rfl)) (pa_cons (pe_ix ix_tup (pv 1) pe_int (fun _ _ => by rfl)) pa_nil)))))
   (pss_cons (ps_if (pt_val (pv 2)) (pss_one ps_never) pss_nil)
   (pss_one (ps_ret (pe_comp (N := ["name", "loads"]) (xs := 1) (js := [4]) rfl (compScope_of rfl) (pi_dict (pv 4)) (fun _ _ _ _ => pg_name (i := 0) nd_0 rfl (Or.inl rfl)) (fun _ _ _ _ => pts_one (pt_cmpR op_gt (pe_dget hu (pv 1) (pv 0) (fun _ _ => rfl)) pe_int (nomark _))) (fun _ _ _ _ => pe_lst (pa_cons (pv 0) (pa_cons (pe_dget hu (pv 1) (pv 0) (fun _ _ => rfl)) pa_nil))))))))), ?_⟩
  have te' : H tt = some (.tup [.str "flow", .str a, .str b]) := te
  refine ⟨_, rfl, p, ds, dl, S, rfl, N, fun al L H1 s1 eal RL => ?_⟩
  have okr : ∀ r ∈ S.ti, nameB r.a = true ∧ nameB r.b = true := fun r hr => ⟨N.okP _ (N.okT r hr).2.1, N.okP _ (N.okT r hr).2.2⟩
  refine ⟨_, rfl, _, rfl, tt, _, _, .str a, rfl, rfl, SqT.of (s1 _ _ te'), rfl, _, rfl, tt, _, _, .str b, rfl, rfl, SqT.of (s1 _ _ te'), rfl, al, a, b, L, S.ti, rfl, eal, RL, N.few, N.nd, N.okP a ha, okr, okw, hab, fun ld Fl H2 hld s2 eld ok bal _ => ?_⟩
  refine ⟨_, rfl, _, rfl, iteF ?_⟩
  refine ⟨_, rfl, ld, _, rfl, eld, fun o => ?_⟩
  have hld0 : H ld = none := s1.free hld
  have s3 : Same H (upd H2 ld (.frz o (.dK (goKV (S.ti.map (·.nm)) Fl)))) := fun b0 ob z => by
   rw [upd_ne (ne_of_none z hld0)]
   exact (s1.trans s2) _ _ z
  have e3 : (upd H2 ld (.frz o (.dK (goKV (S.ti.map (·.nm)) Fl)))) ld = some (.frz o (.dK (goKV (S.ti.map (·.nm)) Fl))) := upd_same
  generalize upd H2 ld (.frz o (.dK (goKV (S.ti.map (·.nm)) Fl))) = H3 at s3 e3
  have few := N.few
  refine comp_dict (fun i acc σ' H' => Same H3 H' ∧ (∃ L2 : List ((Row × Int) × Addr), acc = L2.map (fun q => V.ref q.2) ∧ L2.map (·.1) = flowL (S.ti.take i) Fl ∧ ∀ q ∈ L2, H' q.2 = some (.lst [.str q.1.1.nm, .int q.1.2])) ∧ ∃ u, σ' = [u, some (.ref ld)])
   ⟨Same.refl _, ⟨[], rfl, rfl, fun _ h => (nomatch h)⟩, none, rfl⟩ (fun i acc σ' H' h => ?_) ?_ (fun i acc σ' H' _ h => h.1 _ _ e3) (fun i kv acc σ' H' hx h => ?_) (fun acc σ' H' h bl hbl => ?_)
  ·obtain ⟨_, ⟨L2, rfl, h1, _⟩, _⟩ := h
   have := congrArg List.length h1
   unfold flowL at this
   rw [List.length_map, List.length_map] at this
   rw [List.length_map, this]
   exact Nat.le_trans (List.length_filter_le _ _) (by rw [List.length_take]; omega)
  ·rw [go_len, List.length_map]
   exact Nat.le_trans few (by decide)
  ·obtain ⟨t5, ⟨L2, rfl, h1, h2⟩, u, rfl⟩ := h
   unfold goKV at hx
   rw [List.map_map, List.getElem?_map] at hx
   cases ey : S.ti[i]? with
   | none => rw [ey] at hx; cases hx
   | some y =>
    rw [ey] at hx
    cases hx
    have hy : y.nm ∈ S.ti.map (·.nm) := List.mem_map.mpr ⟨y, List.mem_of_getElem? ey, rfl⟩
    have tk := fun c hc => take_filter (f := fun r : Row => decide (0 < Fl r.nm)) ey c hc
    have g5 := go_get (t5 _ _ e3) hy
    refine ⟨_, rfl, _, rfl, ld, _, rfl, g5, _, _, rfl, rfl, _, rfl, ite2 (fun hlt => ?_) (fun hlt => ?_)⟩
    ·have hlt' : 0 < Fl y.nm := of_decide_eq_true hlt
     refine ⟨_, rfl, _, rfl, _, rfl, ld, _, rfl, g5, (by show 2 ≤ sizeLine; decide), fun qa hqa => ?_⟩
     have z1 := Same.new (o := .lst [.str y.nm, .int (Fl y.nm)]) hqa
     refine ⟨t5.trans z1, ⟨L2 ++ [((y, Fl y.nm), qa)], by rw [List.map_append]; rfl, ?_, fun q hq => ?_⟩, _, rfl⟩
     ·rw [List.map_append, h1]
      unfold flowL
      rw [tk true (decide_eq_true hlt'), List.map_append]
      rfl
     ·rcases List.mem_append.mp hq with hq | hq
      ·exact z1 _ _ (h2 q hq)
      ·rw [List.mem_singleton.mp hq]
       exact upd_same
    ·have hlt' : ¬ 0 < Fl y.nm := fun z => hlt (decide_eq_true z)
     refine ⟨t5, ⟨L2, rfl, ?_, h2⟩, _, rfl⟩
     rw [h1]
     unfold flowL
     rw [tk false (decide_eq_false hlt')]
     simp
  ·obtain ⟨t5, ⟨L2, rfl, h1, h2⟩, u, rfl⟩ := h
   rw [go_len, List.length_map, List.take_length] at h1
   have z1 := Same.new (o := .lst (L2.map fun q => V.ref q.2)) hbl
   refine q bl (flowL S.ti Fl) _ (s3.trans (t5.trans z1)) ⟨L2, upd_same, h1, fun q hq => z1 _ _ (h2 q hq)⟩ ⟨flowL_in ok, flowL_nd N.nd, fun x hxa hxb => ?_⟩ ?_
   ·rw [flowL_goes fun r hr => (ok r hr).1]
    exact bal x hxa hxb
   ·unfold flowL
    rw [List.length_map]
    exact Nat.le_trans (List.length_filter_le _ _) few
theorem sc_pone : FnScope ["net", "term", "above"] ["net", "term", "above"] (defScope s_paper_of_one) := ⟨rfl, rfl, rfl, by decide +kernel, rfl, by decide +kernel, by decide +kernel⟩
theorem ok_pone {f : Addr} {fd : FuncData} (F : Fun K "paper_of_one" "paper_of_one" s_paper_of_one f fd) (cpaper_of_flow : Can P w K mg base 5 "paper_of_flow" ["net", "term", "above"] (spPFlow C)) : FnOk P w K mg base CX0 6 f fd ["net", "term", "above"] (spPOne C) := by
 refine F.ok sc_pone (fun vs H Q E h => ?_) (fun cdv A outer s H vs Q E hr h => ?_)
 ·obtain ⟨p, ds, dl, tt, S, a, b, rfl, _⟩ := h
  rfl
 ·obtain ⟨p, ds, dl, tt, S, a, b, rfl, N, te, ha, okw, q⟩ := h
  refine ⟨_, (pss_cons (ps_if (pt_cmpR op_eq (pe_ix ix_tup (pv 1) pe_int (fun _ _ => by rfl)) pe_str (nomark _)) (pss_one ps_never) pss_nil)
   (pss_cons (ps_if (pt_cmpR op_eq (pe_ix ix_tup (pv 1) pe_int (fun _ _ => by rfl)) pe_str (nomark _)) (pss_one ps_never) pss_nil)
   (pss_cons (ps_if (pt_cmpR op_eq (pe_ix ix_tup (pv 1) pe_int (fun _ _ => by rfl)) pe_str (nomark _)) (pss_one ps_never) pss_nil)
   (pss_cons (ps_if (pt_cmpR op_eq (pe_ix ix_tup (pv 1) pe_int (fun _ _ => by rfl)) (pe_ix ix_tup (pv 1) pe_int (fun _ _ => by rfl)) (nomark _)) (pss_one (ps_ret (pe_lst pa_nil))) pss_nil)
   (pss_cons (ps_if (pt_cmpR op_eq (pe_ix ix_tup (pv 1) pe_int (fun _ _ => by rfl)) pe_str (nomark _)) (pss_one (ps_ret (pe_callC cpaper_of_flow hr (by rfl) (pa_cons (pv 0) (pa_cons (pv 1) (pa_cons (pv 2) pa_nil)))))) pss_nil)
   (pss_cons ps_never
   (pss_one ps_never))))))), ?_⟩
  have te' : H tt = some (.tup [.str "flow", .str a, .str b]) := te
  refine ⟨_, rfl, tt, _, _, .str "flow", rfl, rfl, SqT.of te', rfl, rfl, _, rfl, iteFb (w_num true) ?_⟩
  refine ⟨_, rfl, tt, _, _, .str "flow", rfl, rfl, SqT.of te', rfl, rfl, _, rfl, iteFb (w_size true) ?_⟩
  refine ⟨_, rfl, tt, _, _, .str "flow", rfl, rfl, SqT.of te', rfl, rfl, _, rfl, iteFb (w_pairs true) ?_⟩
  refine ⟨_, rfl, tt, _, _, .str a, rfl, rfl, SqT.of te', rfl, _, rfl, tt, _, _, .str b, rfl, rfl, SqT.of te', rfl, rfl, _, rfl, ?_⟩
  by_cases hab : a = b
  ·refine iteTb (by rw [hab]; simp) ⟨by decide, fun l hl => ?_⟩
   exact q l [] _ (Same.new hl) ⟨[], upd_same, rfl, fun _ h => nomatch h⟩ ⟨fun _ h => (nomatch h), List.nodup_nil, fun _ _ _ => rfl⟩ (by decide)
  ·refine iteFb (by simp [hab]) ⟨_, rfl, tt, _, _, .str "flow", rfl, rfl, SqT.of te', rfl, rfl, _, rfl, iteTb (w_flow true) ?_⟩
   exact ⟨_, rfl, _, rfl, _, rfl, p, ds, dl, tt, S, a, b, rfl, N, te, ha, hab, okw, q⟩
abbrev Nfind : List Str := ["net", "term", "above", "within", "paper"]
theorem sc_find : FnScope Nfind ["net", "term", "above"] (defScope s_find_bound) := ⟨rfl, rfl, rfl, by decide +kernel, rfl, by decide +kernel, by decide +kernel⟩
theorem ok_find62 {f : Addr} {fd : FuncData} (F : Fun K "find_bound" "find_bound" s_find_bound f fd) (cpaper_of_one : Can P w K mg base 6 "paper_of_one" ["net", "term", "above"] (spPOne C)) (cshown_bound : Can P w K mg base 7 "shown_bound" ["net", "term", "above", "paper"] (spShown C)) : FnOk P w K mg base CX0 8 f fd ["net", "term", "above"] (spFind62 C) := by
 refine F.ok sc_find (fun vs H Q E h => ?_) (fun cdv A outer s H vs Q E hr h => ?_)
 ·obtain ⟨p, ds, dl, tt, S, a, b, rfl, _⟩ := h
  rfl
 ·obtain ⟨p, ds, dl, tt, S, a, b, rfl, N, te, ha, okw, q⟩ := h
  have r6 : Room 6 _ := hr.mono (by decide)
  refine ⟨_, (pss_cons (ps_if (pt_cmpR op_eq (pe_ix ix_tup (pv 1) pe_int (fun _ _ => by rfl)) pe_str (nomark _)) (pss_cons ps_never
   (pss_one ps_never)) pss_nil)
   (pss_cons (ps_if (pt_cmpR op_in_seq (pe_ix ix_tup (pv 1) pe_int (fun _ _ => by rfl)) (pe_tup (pa_cons pe_str (pa_cons pe_str (pa_cons pe_str pa_nil)))) (by with_unfolding_all rfl)) (pss_one ps_never) pss_nil)
   (pss_cons (ps_set (i := 4) sc_find.nd rfl (Or.inl rfl) (pe_callC cpaper_of_one r6 (by rfl) (pa_cons (pv 0) (pa_cons (pv 1) (pa_cons (pv 2) pa_nil)))))
   (pss_one (ps_ret (pe_tup (pa_cons (pe_callC cshown_bound hr (by rfl) (pa_cons (pv 0) (pa_cons (pv 1) (pa_cons (pv 2) (pa_cons (pv 4) pa_nil))))) (pa_cons (pv 4) pa_nil)))))))), ?_⟩
  have te' : H tt = some (.tup [.str "flow", .str a, .str b]) := te
  refine ⟨_, rfl, tt, _, _, .str "flow", rfl, rfl, SqT.of te', rfl, rfl, _, rfl, iteFb (w_times true) ?_⟩
  refine ⟨_, rfl, tt, _, _, .str "flow", rfl, rfl, SqT.of te', rfl, (by show 3 ≤ sizeLine; decide), fun t3 ht3 => ?_⟩
  have z := Same.new (o := .tup [.str "plus", .str "least", .str "most"]) ht3
  refine ⟨t3, _, rfl, .inr (SqT.of upd_same), rfl, rfl, _, rfl, ?_⟩
  generalize upd H t3 (.tup [.str "plus", .str "least", .str "most"]) = H1 at z
  show if (if false = true then _ else inV (.str "flow") [.str "plus", .str "least", .str "most"]) = true then _ else _
  rw [if_neg Bool.false_ne_true, show inV (.str "flow") [.str "plus", .str "least", .str "most"] = false from w_three true]
  refine iteF ⟨_, rfl, _, rfl, _, rfl, p, ds, dl, tt, S, a, b, rfl, N.same z, z _ _ te, ha, okw, fun l ls H2 s2 la bo hl => ?_⟩
  have okn : ∀ q ∈ ls, nameB q.1.nm = true := fun q hq => (N.okT q.1 (bo.1 q hq).1).1
  refine ⟨_, rfl, _, rfl, _, rfl, _, rfl, p, ds, dl, tt, S, true, false, a, b, .ref l, 2, .list (ls.map loadD), rfl, N.same (z.trans s2), (z.trans s2) _ _ te, ha, la.pd okn, by decide, fun e he => ?_, (fun h => nomatch h), fun H3 s3 => ?_⟩
  ·cases he
   rw [List.length_map]
   omega
  ·refine ⟨_, rfl, (by show 2 ≤ sizeLine; decide), fun t ht => ?_⟩
   have s4 := s3.upd (o := .tup [oV (shownD S true false a b (.list (ls.map loadD))), .ref l]) ht
   exact q t l _ ls _ (z.trans (s2.trans s4)) upd_same (la.same s4) bo hl
theorem sc_bpap : FnScope ["net", "term", "above"] ["net", "term", "above"] (defScope s_bound_paper) := ⟨rfl, rfl, rfl, by decide +kernel, rfl, by decide +kernel, by decide +kernel⟩
theorem ok_bpap62 {f : Addr} {fd : FuncData} (F : Fun K "bound_paper" "bound_paper" s_bound_paper f fd) (cfind_bound : Can P w K mg base 8 "find_bound" ["net", "term", "above"] (spFind62 C)) : FnOk P w K mg base CX0 9 f fd ["net", "term", "above"] (spPOne C) := by
 refine F.ok sc_bpap (fun vs H Q E h => ?_) (fun cdv A outer s H vs Q E hr h => ?_)
 ·obtain ⟨p, ds, dl, tt, S, a, b, rfl, _⟩ := h
  rfl
 ·obtain ⟨p, ds, dl, tt, S, a, b, rfl, N, te, ha, okw, q⟩ := h
  refine ⟨_, (pss_one (ps_ret (pe_ix ix_tup (pe_callC cfind_bound hr (by rfl) (pa_cons (pv 0) (pa_cons (pv 1) (pa_cons (pv 2) pa_nil)))) pe_int (fun _ _ => by rfl)))), ?_⟩
  refine ⟨_, rfl, _, rfl, _, rfl, p, ds, dl, tt, S, a, b, rfl, N, te, ha, okw, fun t l v ls H1 s1 et la bo hl => ?_⟩
  exact ⟨t, _, _, .ref l, rfl, rfl, SqT.of et, rfl, q l ls H1 s1 la bo hl⟩
end
end Net
namespace Net
open PySem L2
theorem deg_le {x : Str} : ∀ {U : List Row}, degR U x ≤ (U.length : Int)
 | [] => Int.le_refl 0
 | r :: U => by
  have ih := deg_le (x := x) (U := U)
  rw [degR_cons, List.length_cons]
  have : goes1 (r, 1) x ≤ 1 := by
   show (if r.a = x then (1 : Int) else 0) - (if r.b = x then 1 else 0) ≤ 1
   split <;> split <;> omega
  omega
theorem deg_flat {a b x : Str} (hx : ¬ x = b) : ∀ {W : List (List Row)}, (∀ ws ∈ W, RW a ws b) → degR W.flatten x = if x = a then (W.length : Int) else 0
 | [], _ => by
  show (0 : Int) = _
  split <;> rfl
 | ws :: W, h => by
  have ih := deg_flat hx (W := W) fun v hv => h v (List.mem_cons_of_mem _ hv)
  have e : (ws :: W).flatten = ws ++ W.flatten := rfl
  rw [e, degR_app, ih, (h ws List.mem_cons_self).deg, if_neg (show ¬ b = x from fun z => hx z.symm)]
  by_cases ha : x = a
  ·rw [if_pos ha.symm, if_pos ha, if_pos ha, List.length_cons]
   omega
  ·rw [if_neg (show ¬ a = x from fun z => ha z.symm), if_neg ha, if_neg ha]
   rfl
theorem erase_perm {α : Type} : ∀ {l : List α} {j : Nat} {x : α}, l[j]? = some x → l.Perm (x :: l.eraseIdx j)
 | [], _, _, h => nomatch h
 | t :: l, 0, x, h => by cases h; exact .refl _
 | t :: l, j + 1, x, h => ((erase_perm (l := l) (j := j) h).cons t).trans (.swap x t _)
theorem eqv_row {r r' : Row} (h : ¬ r.nm = r'.nm) : PyData.eqv (rowD r) (rowD r') = false := by
 unfold rowD
 simp [PyData.eqv, PyData.eqvAll, h]
theorem eqv_row_same {r : Row} : PyData.eqv (rowD r) (rowD r) = true := by
 unfold rowD
 simp [PyData.eqv, PyData.eqvAll]
structure TieAt (H : Hp) (ul : Addr) (M : List (Row × Addr)) : Prop where
 ob : H ul = some (.lst (M.map fun q => V.ref q.2))
 tu : ∀ q ∈ M, H q.2 = some (.tup q.1.tup)
def okRow (r : Row) : Prop := nameB r.nm = true ∧ nameB r.a = true ∧ nameB r.b = true
theorem pd_row {H : Hp} {t : Addr} {r : Row} (h : H t = some (.tup r.tup)) (ok : okRow r) : PD H 1 (.ref t) (rowD r) := .inr ⟨_, _, h, rfl, .cons ⟨strOk_of ok.1, rfl⟩ (.cons ⟨strOk_of ok.2.1, rfl⟩ (.cons ⟨strOk_of ok.2.2, rfl⟩ (.cons rfl (.cons rfl .nil))))⟩
def nmsV (ws : List Row) : List V := ws.map fun r => V.str r.nm
def spTake : Sp := fun vs H Q _ => ∃ (ul : Addr) (a b : Str) (M : List (Row × Addr)) (k : Int), vs = [.ref ul, .str a, .str b] ∧ TieAt H ul M ∧ (∀ q ∈ M, okRow q.1) ∧ (M.map (·.1.nm)).Nodup ∧ M.length ≤ 40 ∧ 0 ≤ k ∧ ¬ a = b ∧ (∀ x, ¬ x = b → degR (M.map (·.1)) x = if x = a then k + 1 else 0) ∧
 ∀ (wl : Addr) (ws : List Row) (M' : List (Row × Addr)) (H' : Hp), H wl = none → (∀ b o, H b = some o → b ≠ ul → H' b = some o) → H' wl = some (.lst (nmsV ws)) → H' ul = some (.lst (M'.map fun q => V.ref q.2)) → (∀ q ∈ M', q ∈ M) → RW a ws b → (M.map (·.1)).Perm (ws ++ M'.map (·.1)) → Q (.ref wl) H'
def WalksAt (H : Hp) (wl : Addr) (W : List (List Row)) : Prop := ∃ L : List (List Row × Addr), H wl = some (.lst (L.map fun q => V.ref q.2)) ∧ L.map (·.1) = W ∧ ∀ q ∈ L, H q.2 = some (.lst (nmsV q.1))
theorem WalksAt.same {H H' : Hp} {wl : Addr} {W : List (List Row)} (s : Same H H') (h : WalksAt H wl W) : WalksAt H' wl W := let ⟨L, a, b, c⟩ := h; ⟨L, s _ _ a, b, fun q hq => s _ _ (c q hq)⟩
def spAlong : Sp := fun vs H Q _ => ∃ (tl : Addr) (a b : Str) (k : Int) (M : List (Row × Addr)), vs = [.ref tl, .str a, .str b, .int k] ∧ TieAt H tl M ∧ (∀ q ∈ M, okRow q.1) ∧ (M.map (·.1.nm)).Nodup ∧ M.length ≤ 40 ∧ 0 ≤ k ∧ (a = b → k = 0) ∧ (∀ x, ¬ x = b → degR (M.map (·.1)) x = if x = a then k else 0) ∧
 ∀ (wl : Addr) (W : List (List Row)) (rest : List Row) (H' : Hp), H wl = none → Same H H' → WalksAt H' wl W → (W.length : Int) = k → (∀ ws ∈ W, RW a ws b) → (M.map (·.1)).Perm (W.flatten ++ rest) → Q (.ref wl) H'
theorem nd_perm {α β : Type} {f : α → β} {l l' : List α} (p : l.Perm l') (nd : (l.map f).Nodup) : (l'.map f).Nodup := (p.map f).nodup_iff.mp nd
section
variable {P : Program} {w : World} {K : PySem.W.Frag} {mg : Str → Option Value} {base : Heap} {C : Addr}
abbrev Ntake : List Str := ["unwalked", "a", "b", "walk", "here", "onward"]
theorem sc_take : FnScope Ntake ["unwalked", "a", "b"] (defScope s_take_walk) := ⟨rfl, rfl, rfl, by decide +kernel, rfl, by decide +kernel, by decide +kernel⟩
theorem ok_take {f : Addr} {fd : FuncData} (F : Fun K "take_walk" "take_walk" s_take_walk f fd) : FnOk P w K mg base CX0 1 f fd ["unwalked", "a", "b"] spTake := by
 refine F.ok sc_take (fun vs H Q E h => ?_) (fun cdv A outer s H vs Q E hr h => ?_)
 ·obtain ⟨ul, a, b, M, k, rfl, _⟩ := h
  rfl
 ·obtain ⟨ul, a, b, M, k, rfl, TA, okM, ndM, few, k0, hab, hdeg, q⟩ := h
  have hU := hr.units
  have nd_0 : List.Nodup (["tie", "here"] : List Str) := by decide +kernel
  refine ⟨_, (pss_cons (ps_set (i := 3) sc_take.nd rfl (Or.inl rfl) (pe_lst pa_nil))
   (pss_cons (ps_set (i := 4) sc_take.nd rfl (Or.inr rfl) (pv 1))
   (pss_cons (ps_while PassesOwn.never (pt_cmpR op_ne (pv 4) (pv 2) (nomark _))
     (pss_cons (ps_set (i := 5) sc_take.nd rfl (Or.inl rfl) (pe_ix ix_list (pe_comp (N := ["tie", "here"]) (xs := 1) (js := [4]) rfl (compScope_of rfl) (pi_list (pv 0)) (fun _ _ _ _ => pg_name (i := 0) nd_0 rfl (Or.inl rfl)) (fun _ _ _ _ => pts_one (pt_cmpR op_eq (pe_ix (ix_tupK K (by rfl)) (pv 0) pe_int (fun _ _ => by rfl)) (pv 1) (nomark _))) (fun _ _ _ _ => pv 0)) pe_int (fun _ _ => by rfl)))
   (pss_cons (ps_expr (pe_bm PySem.F.plainAttrs_list PySem.F.slot_list_remove PySem.F.type_list_remove (mt_removeD hU) (pv 0) (pa_cons (pv 5) pa_nil)))
   (pss_cons (ps_expr (pe_bm PySem.F.plainAttrs_list PySem.F.slot_list_append PySem.F.type_list_append mt_append (pv 3) (pa_cons (pe_ix ix_tup (pv 5) pe_int (fun _ _ => by rfl)) pa_nil)))
   (pss_one (ps_set (i := 4) sc_take.nd rfl (Or.inr rfl) (pe_ix ix_tup (pv 5) pe_int (fun _ _ => by rfl))))))))
   (pss_one (ps_ret (pv 3)))))), ?_⟩
  refine ⟨by decide, fun wl hwl => ?_⟩
  have z1 := Same.new (o := .lst []) hwl
  have e1 : (upd H wl (.lst [])) wl = some (.lst []) := upd_same
  have nwu : wl ≠ ul := (ne_of_none TA.ob hwl).symm
  generalize upd H wl (.lst []) = H1 at z1 e1
  refine ⟨_, rfl, ?_⟩
  refine ⟨fun m σ' H' => ∃ (here : Str) (ws : List Row) (M' : List (Row × Addr)) (o5 : Option V), σ' = [some (.ref ul), some (.str a), some (.str b), some (.ref wl), some (.str here), o5] ∧ (∀ b o, H b = some o → b ≠ ul → H' b = some o) ∧ H' wl = some (.lst (nmsV ws)) ∧ H' ul = some (.lst (M'.map fun q => V.ref q.2)) ∧ (∀ q ∈ M', q ∈ M) ∧ RW a ws here ∧ (M.map (·.1)).Perm (ws ++ M'.map (·.1)) ∧ m = M'.length, ⟨_, a, [], M, none, rfl, fun b o e _ => z1 _ _ e, e1, z1 _ _ TA.ob, fun _ h => h, .nil, .refl _, rfl⟩, ?_⟩
  rintro m σ' H' ⟨here, ws, M', o5, rfl, keep, ewl, eul, sub, rw_, perm, hm⟩
  refine ⟨_, rfl, _, rfl, rfl, _, rfl, ?_⟩
  by_cases hb : here = b
  ·subst hb
   exact iteFb (by simp) ⟨_, rfl, q wl ws M' H' hwl keep ewl eul sub rw_ perm⟩
  refine iteTb (by simp [hb]) ⟨_, fun _ _ z => z, ?_⟩
  have hlen : M'.length + ws.length = M.length := by
   have := perm.length_eq
   rw [List.length_append, List.length_map, List.length_map] at this
   omega
  have ndA : ((ws ++ M'.map (·.1)).map (·.nm)).Nodup := nd_perm perm (by rw [List.map_map]; exact ndM)
  have ndM' : (M'.map (·.1.nm)).Nodup := by
   rw [List.map_append] at ndA
   have := (List.nodup_append.mp ndA).2.1
   rw [List.map_map] at this
   exact this
  have tup : ∀ q ∈ M', H' q.2 = some (.tup q.1.tup) := fun q hq => keep _ _ (TA.tu q (sub q hq)) (ne_of (TA.tu q (sub q hq)) TA.ob (by intro z; cases z))
  have dg : degR (M'.map (·.1)) here = (if here = a then k else 0) + 1 := by
   have h1 := hdeg here hb
   rw [perm_deg perm, degR_app, rw_.deg, if_pos rfl] at h1
   by_cases e : here = a
   ·rw [if_pos e.symm, if_pos e] at h1
    rw [if_pos e]
    omega
   ·rw [if_neg (fun z => e z.symm), if_neg e] at h1
    rw [if_neg e]
    omega
  obtain ⟨r0, hr0, er0⟩ := deg_pos (x := here) (U := M'.map (·.1)) (by rw [dg]; split <;> omega)
  obtain ⟨q1, hq1, rfl⟩ := List.mem_map.mp hr0
  refine ⟨_, rfl, ul, rfl, ⟨_, SqL.of eul⟩, comp_list (K := K) (ys := M'.map fun q => V.ref q.2) (fun i acc σ' H2 => H2 = H' ∧ acc = ((M'.take i).filter fun q => decide (q.1.a = here)).map (fun q => V.ref q.2) ∧ ∃ o, σ' = [o, some (.str here)])
   ⟨rfl, rfl, none, rfl⟩ (fun i acc σ' H2 h => ?_) ?_ (fun i acc σ' H2 _ h => by rw [h.1]; exact SqL.of eul) (fun i x acc σ' H2 hx h => ?_) (fun acc σ' H2 h pp hpp => ?_)⟩
  ·rw [h.2.1, List.length_map]
   exact Nat.le_trans (List.length_filter_le _ _) (by rw [List.length_take]; omega)
  ·rw [List.length_map]
   exact Nat.le_trans (show M'.length ≤ 40 by omega) (by decide)
  ·obtain ⟨rfl, rfl, o, rfl⟩ := h
   rw [List.getElem?_map] at hx
   cases ey : M'[i]? with
   | none => rw [ey] at hx; cases hx
   | some y =>
    rw [ey] at hx
    cases hx
    have hy := tup y (List.mem_of_getElem? ey)
    have tk := fun c hc => take_filter (f := fun q : Row × Addr => decide (q.1.a = here)) ey c hc
    refine ⟨_, rfl, y.2, _, _, .str y.1.a, rfl, rfl, SqT.of hy, rfl, _, rfl, rfl, _, rfl, ?_⟩
    by_cases he : y.1.a = here
    ·refine iteTb (by simp [he]) ⟨_, rfl, rfl, ?_, _, rfl⟩
     rw [tk true (decide_eq_true he), List.map_append]
     rfl
    ·refine iteFb (by simp [he]) ⟨rfl, ?_, _, rfl⟩
     rw [tk false (decide_eq_false he)]
     simp
  obtain ⟨rfl, rfl, o, rfl⟩ := h
  rw [List.length_map, List.take_length]
  obtain ⟨q0, qr, eF⟩ : ∃ q0 qr, (M'.filter fun q => decide (q.1.a = here)) = q0 :: qr := by
   cases e : (M'.filter fun q => decide (q.1.a = here)) with
   | nil =>
    have : q1 ∈ (M'.filter fun q => decide (q.1.a = here)) := List.mem_filter.mpr ⟨hq1, decide_eq_true er0⟩
    rw [e] at this
    exact nomatch this
   | cons q0 qr => exact ⟨q0, qr, rfl⟩
  have hq0 : q0 ∈ M' ∧ q0.1.a = here := by
   have : q0 ∈ (M'.filter fun q => decide (q.1.a = here)) := by rw [eF]; exact List.mem_cons_self
   exact ⟨(List.mem_filter.mp this).1, of_decide_eq_true (List.mem_filter.mp this).2⟩
  rw [eF]
  have z2 := Same.new (o := .lst ((q0 :: qr).map fun q => V.ref q.2)) hpp
  have e2 : (upd H2 pp (.lst ((q0 :: qr).map fun q => V.ref q.2))) pp = some (.lst ((q0 :: qr).map fun q => V.ref q.2)) := upd_same
  generalize upd H2 pp (.lst ((q0 :: qr).map fun q => V.ref q.2)) = H3 at z2 e2
  refine ⟨pp, _, _, .ref q0.2, rfl, rfl, SqL.of e2, atI_nat (j := 0) rfl, ?_⟩
  obtain ⟨j, hj⟩ := List.getElem?_of_mem hq0.1
  have hjl : j < M'.length := (List.getElem?_eq_some_iff.mp hj).1
  have tup3 : ∀ q ∈ M', H3 q.2 = some (.tup q.1.tup) := fun q hq => z2 _ _ (tup q hq)
  have eul3 := z2 _ _ eul
  have t0 := tup3 q0 hq0.1
  refine ⟨_, rfl, .inl ⟨rfl, _, SqL.of eul3⟩, _, rfl, ul, _, .ref q0.2, rowD q0.1, 1, j, rfl, rfl, by decide, eul3, (pd_row t0 (okM q0 (sub q0 hq0.1))).rd, by rw [List.length_map]; exact hjl, fun i z hi hz => ?_, ?_⟩
  ·rw [List.getElem?_map] at hz
   cases ey : M'[i]? with
   | none => rw [ey] at hz; cases hz
   | some y =>
    rw [ey] at hz
    cases hz
    have hy := List.mem_of_getElem? ey
    refine ⟨rowD y.1, (pd_row (tup3 y hy) (okM y (sub y hy))).rd, ?_⟩
    by_cases e : i = j
    ·subst e
     rw [hj] at ey
     cases ey
     rw [decide_eq_true rfl]
     exact eqv_row_same
    ·rw [decide_eq_false e]
     refine eqv_row fun zz => e ?_
     have g1 : (M'.map (·.1.nm))[i]? = some y.1.nm := by rw [List.getElem?_map, ey]; rfl
     have g2 : (M'.map (·.1.nm))[j]? = some y.1.nm := by rw [List.getElem?_map, hj, zz]; rfl
     have l1 : i < (M'.map (·.1.nm)).length := (List.getElem?_eq_some_iff.mp g1).1
     exact (List.getElem?_inj l1 ndM').mp (g1.trans g2.symm)
  have nqu : q0.2 ≠ ul := ne_of t0 eul3 (by intro z; cases z)
  have ewl3 : (upd H3 ul (.lst ((M'.map fun q => V.ref q.2).eraseIdx j))) wl = some (.lst (nmsV ws)) := by rw [upd_ne nwu]; exact z2 _ _ ewl
  have t04 : (upd H3 ul (.lst ((M'.map fun q => V.ref q.2).eraseIdx j))) q0.2 = some (.tup q0.1.tup) := by rw [upd_ne nqu]; exact t0
  have eul4 : (upd H3 ul (.lst ((M'.map fun q => V.ref q.2).eraseIdx j))) ul = some (.lst ((M'.eraseIdx j).map fun q => V.ref q.2)) := by rw [upd_same, map_erase]
  have keep4 : ∀ b o, H b = some o → b ≠ ul → (upd H3 ul (.lst ((M'.map fun q => V.ref q.2).eraseIdx j))) b = some o := fun b o e nb => by
   rw [upd_ne nb]
   exact z2 _ _ (keep b o e nb)
  generalize upd H3 ul (.lst ((M'.map fun q => V.ref q.2).eraseIdx j)) = H4 at ewl3 t04 eul4 keep4
  refine ⟨_, rfl, .inl ⟨rfl, _, SqL.of ewl3⟩, _, rfl, q0.2, _, _, .str q0.1.nm, rfl, rfl, SqT.of t04, rfl, wl, _, _, rfl, rfl, ewl3, small1000 (by unfold nmsV; rw [List.length_map]; omega), ?_⟩
  have nqw : q0.2 ≠ wl := ne_of t04 ewl3 (by intro z; cases z)
  have t05 : (upd H4 wl (.lst (nmsV ws ++ [.str q0.1.nm]))) q0.2 = some (.tup q0.1.tup) := by rw [upd_ne nqw]; exact t04
  refine ⟨_, rfl, q0.2, _, _, .str q0.1.b, rfl, rfl, SqT.of t05, rfl, ?_⟩
  refine ⟨_, ?_, q0.1.b, ws ++ [q0.1], M'.eraseIdx j, _, rfl, fun b o e nb => ?_, ?_, ?_, fun q hq => sub q (List.mem_of_mem_eraseIdx hq), .snoc rw_ hq0.2, ?_, rfl⟩
  ·rw [List.length_eraseIdx_of_lt hjl]
   omega
  ·rw [upd_ne (ne_of_none e hwl)]
   exact keep4 b o e nb
  ·rw [upd_same]
   unfold nmsV
   rw [List.map_append]
   rfl
  ·rw [upd_ne nwu.symm]
   exact eul4
  ·refine perm.trans ?_
   rw [List.append_assoc]
   refine List.Perm.append_left _ ?_
   have e0 : (M'.map (·.1))[j]? = some q0.1 := by rw [List.getElem?_map, hj]; rfl
   have := erase_perm e0
   rw [map_erase] at this
   exact this
abbrev Nalong : List Str := ["ties", "a", "b", "many", "unwalked", "walks", "number"]
theorem sc_along : FnScope Nalong ["ties", "a", "b", "many"] (defScope s_walks_along) := ⟨rfl, rfl, rfl, by decide +kernel, rfl, by decide +kernel, by decide +kernel⟩
theorem ok_along {f : Addr} {fd : FuncData} (F : Fun K "walks_along" "walks_along" s_walks_along f fd) (T : Txt K mg C) (ctake_walk : Can P w K mg base 1 "take_walk" ["unwalked", "a", "b"] spTake) : FnOk P w K mg base CX0 2 f fd ["ties", "a", "b", "many"] spAlong := by
 refine F.ok sc_along (fun vs H Q E h => ?_) (fun cdv A outer s H vs Q E hr h => ?_)
 ·obtain ⟨tl, a, b, k, M, rfl, _⟩ := h
  rfl
 ·obtain ⟨tl, a, b, k, M, rfl, TA, okM, ndM, few, k0, hab, hdeg, q⟩ := h
  refine ⟨_, (pss_cons (ps_set (i := 4) sc_along.nd rfl (Or.inl rfl) (pe_callTy call_list_of (by rfl) T.list b_list (pa_cons (pv 0) pa_nil)))
   (pss_cons (ps_set (i := 5) sc_along.nd rfl (Or.inl rfl) (pe_lst pa_nil))
   (pss_cons (ps_for PassesOwn.never rfl (pi_range1 rfl T.range (pa_cons (pv 3) pa_nil)) (pg_name (i := 6) sc_along.nd rfl (Or.inl rfl))
     (pss_one (ps_expr (pe_bm PySem.F.plainAttrs_list PySem.F.slot_list_append PySem.F.type_list_append mt_append (pv 5) (pa_cons (pe_callC ctake_walk hr (by rfl) (pa_cons (pv 4) (pa_cons (pv 1) (pa_cons (pv 2) pa_nil)))) pa_nil)))))
   (pss_one (ps_ret (pv 5)))))), ?_⟩
  obtain ⟨n, rfl⟩ := Int.eq_ofNat_of_zero_le k0
  have hn : n ≤ 40 := by
   by_cases e : a = b
   ·have := hab e
    omega
   ·have h1 := hdeg a e
    rw [if_pos rfl] at h1
    have h2 := deg_le (x := a) (U := M.map (·.1))
    rw [List.length_map] at h2
    omega
  refine ⟨_, rfl, tl, _, rfl, .inl (SqL.of TA.ob), fun ul hul => ?_⟩
  have z1 := Same.new (o := .lst (M.map fun q => V.ref q.2)) hul
  have e1 : (upd H ul (.lst (M.map fun q => V.ref q.2))) ul = some (.lst (M.map fun q => V.ref q.2)) := upd_same
  generalize upd H ul (.lst (M.map fun q => V.ref q.2)) = H1 at z1 e1
  refine ⟨by decide, fun wl hwl => ?_⟩
  have z2 := Same.new (o := .lst []) hwl
  have e2 : (upd H1 wl (.lst [])) wl = some (.lst []) := upd_same
  have nwu : wl ≠ ul := (ne_of_none e1 hwl).symm
  have hwl0 : H wl = none := z1.free hwl
  generalize upd H1 wl (.lst []) = H2 at z2 e2
  refine ⟨_, rfl, _, rfl, by omega, by omega, ?_⟩
  rw [Int.toNat_natCast]
  refine for_range (n := n) (fun i σ' H' => ∃ (L : List (List Row × Addr)) (M' : List (Row × Addr)) (o6 : Option V), σ' = [some (.ref tl), some (.str a), some (.str b), some (.int (n : Int)), some (.ref ul), some (.ref wl), o6] ∧ Same H H' ∧ H' ul = some (.lst (M'.map fun q => V.ref q.2)) ∧ H' wl = some (.lst (L.map fun q => V.ref q.2)) ∧ (∀ q ∈ L, H' q.2 = some (.lst (nmsV q.1)) ∧ q.2 ≠ ul ∧ q.2 ≠ wl) ∧ L.length = i ∧ (∀ q ∈ L, RW a q.1 b) ∧ (∀ q ∈ M', q ∈ M) ∧ (M.map (·.1)).Perm ((L.map (·.1)).flatten ++ M'.map (·.1)))
   ⟨[], M, none, rfl, z1.trans z2, z2 _ _ e1, e2, fun _ h => (nomatch h), rfl, fun _ h => (nomatch h), fun _ h => h, .refl _⟩ (fun i σ' H' hi h => ?_) (fun σ' H' h => ?_)
  ·obtain ⟨L, M', o6, rfl, s3, eul, ewl, hL, hl, hrw, sub, perm⟩ := h
   have nab : ¬ a = b := fun e => by
    have := hab e
    omega
   have hlen : M'.length ≤ M.length := by
    have := perm.length_eq
    rw [List.length_append, List.length_map, List.length_map] at this
    omega
   have ndA := nd_perm (f := (·.nm)) perm (by rw [List.map_map]; exact ndM)
   have ndM' : (M'.map (·.1.nm)).Nodup := by
    rw [List.map_append] at ndA
    have := (List.nodup_append.mp ndA).2.1
    rw [List.map_map] at this
    exact this
   have TA' : TieAt H' ul M' := ⟨eul, fun q hq => s3 _ _ (TA.tu q (sub q hq))⟩
   refine ⟨_, rfl, .inl ⟨rfl, _, SqL.of ewl⟩, _, rfl, _, rfl, _, rfl, ul, a, b, M', (n : Int) - i - 1, rfl, TA', fun q hq => okM q (sub q hq), ndM', by omega, by omega, nab, fun x hx => ?_, fun wk ws M2 H4 hwk keep ewk eul4 sub4 rw4 perm4 => ?_⟩
   ·have h1 := hdeg x hx
    rw [perm_deg perm, degR_app, deg_flat hx (fun ws hws => by
     obtain ⟨q, hq, rfl⟩ := List.mem_map.mp hws
     exact hrw q hq), List.length_map, hl] at h1
    by_cases e : x = a
    ·rw [if_pos e, if_pos e] at h1
     rw [if_pos e]
     omega
    ·rw [if_neg e, if_neg e] at h1
     rw [if_neg e]
     omega
   ·have hul' : H ul = none := hul
    have s4 : Same H H4 := fun b0 o0 z => keep _ _ (s3 _ _ z) (ne_of_none z hul')
    have ewl4 := keep _ _ ewl nwu
    have nkw : wk ≠ wl := fun z => by rw [z, ewl] at hwk; cases hwk
    have nku : wk ≠ ul := fun z => by rw [z, eul] at hwk; cases hwk
    refine ⟨wl, _, _, rfl, rfl, ewl4, small1000 (by rw [List.length_map]; omega), ?_⟩
    refine ⟨L ++ [(ws, wk)], M2, _, rfl, fun b0 o0 z => ?_, ?_, ?_, fun q hq => ?_, ?_, fun q hq => ?_, fun q hq => sub q (sub4 q hq), ?_⟩
    ·rw [upd_ne (ne_of_none z hwl0)]
     exact s4 _ _ z
    ·rw [upd_ne nwu.symm]
     exact eul4
    ·rw [upd_same, List.map_append]; rfl
    ·rcases List.mem_append.mp hq with hq | hq
     ·obtain ⟨h1, h2, h3⟩ := hL q hq
      exact ⟨by rw [upd_ne h3]; exact keep _ _ h1 h2, h2, h3⟩
     ·rw [List.mem_singleton.mp hq]
      exact ⟨by rw [upd_ne nkw]; exact ewk, nku, nkw⟩
    ·rw [List.length_append, hl]; rfl
    ·rcases List.mem_append.mp hq with hq | hq
     ·exact hrw q hq
     ·rw [List.mem_singleton.mp hq]; exact rw4
    ·refine perm.trans ?_
     rw [List.map_append, List.flatten_append, List.append_assoc]
     refine List.Perm.append_left _ ?_
     show (M'.map (·.1)).Perm (([ws] : List (List Row)).flatten ++ M2.map (·.1))
     rw [List.flatten_singleton]
     exact perm4
  ·obtain ⟨L, M', o6, rfl, s3, eul, ewl, hL, hl, hrw, sub, perm⟩ := h
   refine ⟨_, rfl, q wl (L.map (·.1)) (M'.map (·.1)) H' hwl0 s3 ⟨L, ewl, rfl, fun q hq => (hL q hq).1⟩ (by rw [List.length_map, hl]) (fun ws hws => ?_) perm⟩
   obtain ⟨q, hq, rfl⟩ := List.mem_map.mp hws
   exact hrw q hq
end
end Net
namespace L2
open PySem PySem.Spec PyProof.Rows
theorem pg_lstC {X : Cx} {es : List Expr} {k : Nat} {t : TGs} {n : Nat} {pos : Pos} (K : PySem.W.Frag) (hK : X.K = K) (hc : X.calm = true) (h : PGs X es t)
  (hn : (assignEach es X.env).length = n := by rfl) (hst : (assignEach es X.env).findIdx? (·.1) = none := by rfl) : PG X (.Tuple es k pos) (gLst K n t) := by
 subst hK
 exact pg_lst hc h hn hst
end L2
namespace Net
open PySem L2
theorem goes_one {x : Str} : ∀ {ls : List (Row × Int)}, (∀ q ∈ ls, q.2 = 1) → goes ls x = degR (ls.map (·.1)) x
 | [], _ => rfl
 | q :: ls, h => by
  rw [goes_cons, List.map_cons, degR_cons, goes_one fun t ht => h t (List.mem_cons_of_mem _ ht)]
  have e : q = (q.1, 1) := by rw [← h q List.mem_cons_self]
  rw [← e]
theorem nd_of_map {α β : Type} {f : α → β} : ∀ {l : List α}, (l.map f).Nodup → l.Nodup
 | [], _ => List.nodup_nil
 | a :: l, h => by
  obtain ⟨h1, h2⟩ := List.nodup_cons.mp h
  exact List.nodup_cons.mpr ⟨fun z => h1 (List.mem_map.mpr ⟨a, z, rfl⟩), nd_of_map h2⟩
theorem perm_of {α : Type} : ∀ {l l' : List α}, l.Nodup → l'.Nodup → (∀ x, x ∈ l ↔ x ∈ l') → l.Perm l'
 | [], l', _, _, h => by
  cases l' with
  | nil => exact .refl _
  | cons x r => exact nomatch (h x).mpr List.mem_cons_self
 | a :: l, l', n1, n2, h => by
  obtain ⟨h1, h2⟩ := List.nodup_cons.mp n1
  obtain ⟨s, t, rfl⟩ := List.append_of_mem ((h a).mp List.mem_cons_self)
  have n3 : (a :: (s ++ t)).Nodup := (List.perm_middle.nodup_iff).mp n2
  obtain ⟨h3, h4⟩ := List.nodup_cons.mp n3
  refine ((perm_of h2 h4 fun x => ?_).cons a).trans List.perm_middle.symm
  constructor
  ·intro hx
   have := (h x).mp (List.mem_cons_of_mem _ hx)
   rcases List.mem_append.mp this with z | z
   ·exact List.mem_append_left _ z
   ·rcases List.mem_cons.mp z with z | z
    ·subst z
     exact absurd hx h1
    ·exact List.mem_append_right _ z
  ·intro hx
   have : x ∈ s ++ a :: t := by
    rcases List.mem_append.mp hx with z | z
    ·exact List.mem_append_left _ z
    ·exact List.mem_append_right _ (List.mem_cons_of_mem _ z)
   rcases List.mem_cons.mp ((h x).mpr this) with z | z
   ·subst z
    exact absurd hx h3
   ·exact z
theorem shown_fl {S : NS} (ndT : S.nms.Nodup) {a b : Str} {ls : List (Row × Int)} (bo : BalOk S.ti a b ls) (h0 : a = b → ls = []) : shownD S true false a b (.list (ls.map loadD)) = some (goes ls a) := by
 unfold shownD
 by_cases e : a = b
 ·rw [if_pos e, h0 e]
  rfl
 ·rw [if_neg e]
  show flowD S a b _ = _
  exact flow_val ndT bo.1 bo.2.1 fun x _ => bo.2.2 x
def spWalksOf (C : Addr) : Sp := fun vs H Q _ => ∃ (p ds dl l : Addr) (S : NS) (a b : Str) (ls : List (Row × Int)), vs = [.ref p, .str a, .str b, .ref l] ∧ NetS C H p ds dl S ∧ LoadsAt H l ls ∧ BalOk S.ti a b ls ∧ (∀ q ∈ ls, q.2 = 1) ∧ ls.length ≤ 40 ∧ a ∈ S.pl ∧ 0 ≤ goes ls a ∧ (a = b → ls = []) ∧
 ∀ (wl : Addr) (W : List (List Row)) (H' : Hp), H wl = none → Same H H' → WalksAt H' wl W → (W.length : Int) = goes ls a → (∀ ws ∈ W, RW a ws b) → (W.flatten.map (·.nm)).Nodup → (∀ r ∈ W.flatten, ∃ q ∈ ls, q.1 = r) → W.flatten.length ≤ S.ti.length → Q (.ref wl) H'
section
variable {P : Program} {w : World} {K : PySem.W.Frag} {mg : Str → Option Value} {base : Heap} {C : Addr}
abbrev Nwof : List Str := ["net", "a", "b", "paper", "shown", "names"]
theorem sc_wof : FnScope Nwof ["net", "a", "b", "paper"] (defScope s_walks_of_flow) := ⟨rfl, rfl, rfl, by decide +kernel, rfl, by decide +kernel, by decide +kernel⟩
theorem ok_wof {f : Addr} {fd : FuncData} (F : Fun K "walks_of_flow" "walks_of_flow" s_walks_of_flow f fd) (T : Txt K mg C) (hany : mg "any" = none) (cshown_bound : Can P w K mg base 7 "shown_bound" ["net", "term", "above", "paper"] (spShown C)) (cwalks_along : Can P w K mg base 2 "walks_along" ["ties", "a", "b", "many"] spAlong) (m_ties : CanM P w K mg base 1 C "ties" ["self"] (spTies C)) : FnOk P w K mg base CX0 8 f fd ["net", "a", "b", "paper"] (spWalksOf C) := by
 refine F.ok sc_wof (fun vs H Q E h => ?_) (fun cdv A outer s H vs Q E hr h => ?_)
 ·obtain ⟨p, ds, dl, l, S, a, b, ls, rfl, _⟩ := h
  rfl
 ·obtain ⟨p, ds, dl, l, S, a, b, ls, rfl, N, LA, bo, one, few, ha, k0, hab, q⟩ := h
  have r1 : Room 1 _ := hr.mono (by decide)
  have r2 : Room 2 _ := hr.mono (by decide)
  have nd_0 : List.Nodup (["name", "number"] : List Str) := by decide +kernel
  have nd_2 : List.Nodup (["row", "names"] : List Str) := by decide +kernel
  refine ⟨_, (pss_cons (ps_set (i := 4) sc_wof.nd rfl (Or.inl rfl) (pe_callC cshown_bound hr (by rfl) (pa_cons (pv 0) (pa_cons (pe_tup (pa_cons pe_str (pa_cons (pv 1) (pa_cons (pv 2) pa_nil)))) (pa_cons pe_bl (pa_cons (pv 3) pa_nil))))))
   (pss_cutE (ps_if (PW.pt (pw_or (pt_cmp (pc_isN (pv 4))) (pw_or1 (pt_val (pe_callB (call_any rfl) (by rfl) hany b_any (pa_cons (pe_comp (N := ["name", "number"]) (xs := 2) (js := []) rfl (compScope_of rfl) (pi_list (pv 3)) (fun _ _ _ _ => pg_lstC (n := 2) K (by rfl) (by rfl) (pgs_cons (pg_name (i := 0) nd_0 rfl (Or.inl rfl)) (pgs_cons (pg_name (i := 1) nd_0 rfl (Or.inl rfl)) pgs_nil))) (fun _ _ _ _ => pts_nil) (fun _ _ _ _ => pe_cmpR op_gt (pv 1) pe_int (nomark _))) pa_nil)))))) (pss_one (ps_ret pe_non)) pss_nil)
   (pss_cutE (ps_set (i := 5) sc_wof.nd rfl (Or.inr rfl) (pe_comp (N := ["name", "number"]) (xs := 2) (js := []) rfl (compScope_of rfl) (pi_list (pv 3)) (fun _ _ _ _ => pg_lstC (n := 2) K (by rfl) (by rfl) (pgs_cons (pg_name (i := 0) nd_0 rfl (Or.inl rfl)) (pgs_cons (pg_name (i := 1) nd_0 rfl (Or.inl rfl)) pgs_nil))) (fun _ _ _ _ => pts_nil) (fun _ _ _ _ => pv 0)))
   (pss_one (ps_ret (pe_callC cwalks_along r2 (by rfl) (pa_cons (pe_comp (N := ["row", "names"]) (xs := 1) (js := [5]) rfl (compScope_of rfl) (pi_list (pe_methC0 (pv 0) T.cl m_ties r1)) (fun _ _ _ _ => pg_name (i := 0) nd_2 rfl (Or.inl rfl)) (fun _ _ _ _ => pts_one (pt_cmpR (op_inK K (by rfl)) (pe_ix (ix_tupK K (by rfl)) (pv 0) pe_int (fun _ _ => by rfl)) (pv 1) (by with_unfolding_all rfl))) (fun _ _ _ _ => pv 0)) (pa_cons (pv 1) (pa_cons (pv 2) (pa_cons (pv 4) pa_nil)))))))))), ?_⟩
  have okn : ∀ q ∈ ls, nameB q.1.nm = true := fun q hq => (N.okT q.1 (bo.1 q hq).1).1
  refine ⟨_, rfl, _, rfl, _, rfl, (by show 3 ≤ sizeLine; decide), fun tt htt => ?_⟩
  have z1 := Same.new (o := .tup [.str "flow", .str a, .str b]) htt
  have e1 : (upd H tt (.tup [.str "flow", .str a, .str b])) tt = some (.tup [.str "flow", .str a, .str b]) := upd_same
  generalize upd H tt (.tup [.str "flow", .str a, .str b]) = H1 at z1 e1
  refine ⟨_, rfl, p, ds, dl, tt, S, true, false, a, b, .ref l, 2, .list (ls.map loadD), rfl, N.same z1, e1, ha, (LA.same z1).pd okn, by decide, fun e he => ?_, (fun h => nomatch h), fun H2 s2 => ?_⟩
  ·cases he
   rw [List.length_map]
   omega
  rw [shown_fl N.nd bo hab]
  have s02 := z1.trans s2
  obtain ⟨L, el0, rfl, hL0⟩ := LA.same s02
  have hfew : L.length ≤ 40 := by rw [List.length_map] at few; exact few
  refine ⟨fun σ' H' => σ' = [some (.ref p), some (.str a), some (.str b), some (.ref l), some (.int (goes (L.map (·.1)) a)), none] ∧ Same H2 H', ?_, ?_⟩
  ·refine ⟨_, rfl, _, rfl, iteFb (by rfl) ?_⟩
   refine ⟨_, rfl, l, rfl, ⟨_, SqL.of el0⟩, comp_list (K := K) (ys := L.map fun q => V.ref q.2) (fun i acc σ' H' => H' = H2 ∧ acc = ((L.take i).map fun _ => V.bl false) ∧ ∃ o1 o2, σ' = [o1, o2])
    ⟨rfl, rfl, none, none, rfl⟩ (fun i acc σ' H' h => ?_) ?_ (fun i acc σ' H' _ h => by rw [h.1]; exact SqL.of el0) (fun i x acc σ' H' hx h => ?_) (fun acc σ' H' h pp hpp => ?_)⟩
   ·rw [h.2.1, List.length_map, List.length_take]; omega
   ·rw [List.length_map]
    exact Nat.le_trans hfew (by decide)
   ·obtain ⟨rfl, rfl, o1, o2, rfl⟩ := h
    rw [List.getElem?_map] at hx
    cases eq : L[i]? with
    | none => rw [eq] at hx; cases hx
    | some qq =>
     rw [eq] at hx
     cases hx
     have hm := List.mem_of_getElem? eq
     have h1 : qq.1.2 = 1 := one qq.1 (List.mem_map.mpr ⟨qq, hm, rfl⟩)
     refine ⟨qq.2, _, rfl, SqL.of (hL0 qq hm), rfl, _, _, rfl, _, _, rfl, rfl, ?_⟩
     refine ⟨_, rfl, _, _, rfl, rfl, rfl, ?_, _, _, rfl⟩
     rw [List.take_add_one, eq, List.map_append]
     show _ ++ [V.bl (decide (qq.1.2 > 1))] = _
     rw [h1]
     rfl
   ·obtain ⟨rfl, rfl, o1, o2, rfl⟩ := h
    rw [List.length_map, List.take_length]
    have z := Same.new (o := .lst (L.map fun _ => V.bl false)) hpp
    refine ⟨pp, L.map fun _ => false, rfl, SqL.of (by rw [upd_same, List.map_map]; rfl), _, rfl, ?_⟩
    generalize upd H' pp (.lst (L.map fun _ => V.bl false)) = H4 at z
    have ea : ((L.map fun _ => false).any id) = false := by
     rw [List.any_eq_false]
     intro x hx
     obtain ⟨_, _, rfl⟩ := List.mem_map.mp hx
     exact Bool.false_ne_true
    rw [ea]
    exact iteF ⟨rfl, z⟩
  rintro σ3 H3 ⟨rfl, s3⟩
  have el3 := s3 _ _ el0
  refine ⟨fun σ' H' => ∃ nl, σ' = [some (.ref p), some (.str a), some (.str b), some (.ref l), some (.int (goes (L.map (·.1)) a)), some (.ref nl)] ∧ Same H3 H' ∧ H' nl = some (.lst ((L.map (·.1.1.nm)).map V.str)), ?_, ?_⟩
  ·refine ⟨_, rfl, l, rfl, ⟨_, SqL.of el3⟩, comp_list (K := K) (ys := L.map fun q => V.ref q.2) (fun i acc σ' H' => H' = H3 ∧ acc = ((L.take i).map (·.1.1.nm)).map V.str ∧ ∃ o1 o2, σ' = [o1, o2])
    ⟨rfl, rfl, none, none, rfl⟩ (fun i acc σ' H' h => ?_) ?_ (fun i acc σ' H' _ h => by rw [h.1]; exact SqL.of el3) (fun i x acc σ' H' hx h => ?_) (fun acc σ' H' h pp hpp => ?_)⟩
   ·rw [h.2.1, List.length_map, List.length_map, List.length_take]; omega
   ·rw [List.length_map]
    exact Nat.le_trans hfew (by decide)
   ·obtain ⟨rfl, rfl, o1, o2, rfl⟩ := h
    rw [List.getElem?_map] at hx
    cases eq : L[i]? with
    | none => rw [eq] at hx; cases hx
    | some qq =>
     rw [eq] at hx
     cases hx
     have hm := List.mem_of_getElem? eq
     refine ⟨qq.2, _, rfl, SqL.of (s3 _ _ (hL0 qq hm)), rfl, _, _, rfl, _, _, rfl, rfl, ?_⟩
     refine ⟨_, rfl, rfl, ?_, _, _, rfl⟩
     rw [List.take_add_one, eq, List.map_append, List.map_append]
     rfl
   ·obtain ⟨rfl, rfl, o1, o2, rfl⟩ := h
    rw [List.length_map, List.take_length]
    exact ⟨pp, rfl, Same.new hpp, upd_same⟩
  rintro σ4 H4 ⟨nl, rfl, s4, enl⟩
  have s04 := s02.trans (s3.trans s4)
  have N4 := N.same s04
  obtain ⟨dx, h1'⟩ := N4.net.ob
  refine ⟨_, rfl, p, dx, _, rfl, h1', flds_no ds dl (by decide +kernel) (by decide +kernel), p, ds, dl, S, rfl, N4.net, fun tl H5 R htl s5 RL etl => ?_⟩
  have RL5 := RL.same s5
  have enl5 := s5 _ _ enl
  have hR : R.length = S.ti.length := by rw [← RL.1, List.length_map]
  have hR40 := N.few
  refine ⟨tl, rfl, ⟨_, SqL.of etl⟩, comp_list (K := K) (ys := R.map fun q => V.ref q.2) (fun i acc σ' H' => H' = H5 ∧ acc = ((R.take i).filter fun q => decide (q.1.nm ∈ L.map (·.1.1.nm))).map (fun q => V.ref q.2) ∧ ∃ o, σ' = [o, some (.ref nl)])
   ⟨rfl, rfl, none, rfl⟩ (fun i acc σ' H' h => ?_) ?_ (fun i acc σ' H' _ h => by rw [h.1]; exact SqL.of etl) (fun i x acc σ' H' hx h => ?_) (fun acc σ' H' h pp hpp => ?_)⟩
  ·rw [h.2.1, List.length_map]
   exact Nat.le_trans (List.length_filter_le _ _) (by rw [List.length_take]; omega)
  ·rw [List.length_map, hR]
   exact Nat.le_trans hR40 (by decide)
  ·obtain ⟨rfl, rfl, o, rfl⟩ := h
   rw [List.getElem?_map] at hx
   cases ey : R[i]? with
   | none => rw [ey] at hx; cases hx
   | some y =>
    rw [ey] at hx
    cases hx
    have hy := RL5.2 y (List.mem_of_getElem? ey)
    have tk := fun c hc => take_filter (f := fun q : Row × Addr => decide (q.1.nm ∈ L.map (·.1.1.nm))) ey c hc
    refine ⟨_, rfl, y.2, _, _, .str y.1.nm, rfl, rfl, SqT.of hy, rfl, _, rfl, nl, (L.map (·.1.1.nm)).map V.str, rfl, .inl (SqL.of enl5), rfl, flat_strs _, _, rfl, ?_⟩
    have e1 : (if false = true then !inV (.str y.1.nm) ((L.map (·.1.1.nm)).map V.str) else inV (.str y.1.nm) ((L.map (·.1.1.nm)).map V.str)) = decide (y.1.nm ∈ L.map (·.1.1.nm)) := inV_str y.1.nm _
    show if (if false = true then !inV (.str y.1.nm) ((L.map (·.1.1.nm)).map V.str) else inV (.str y.1.nm) ((L.map (·.1.1.nm)).map V.str)) = true then _ else _
    rw [e1]
    by_cases he : y.1.nm ∈ L.map (·.1.1.nm)
    ·rw [decide_eq_true he]
     refine iteT ⟨_, rfl, rfl, ?_, _, rfl⟩
     rw [tk true (decide_eq_true he), List.map_append]
     rfl
    ·rw [decide_eq_false he]
     refine iteF ⟨rfl, ?_, _, rfl⟩
     rw [tk false (decide_eq_false he)]
     simp
  obtain ⟨rfl, rfl, o, rfl⟩ := h
  rw [List.length_map, List.take_length]
  have z6 := Same.new (o := .lst ((R.filter fun q => decide (q.1.nm ∈ L.map (·.1.1.nm))).map fun q => V.ref q.2)) hpp
  have hpp0 : H pp = none := (s04.trans s5).free hpp
  have e6 : (upd H' pp (.lst ((R.filter fun q => decide (q.1.nm ∈ L.map (·.1.1.nm))).map fun q => V.ref q.2))) pp = some (.lst ((R.filter fun q => decide (q.1.nm ∈ L.map (·.1.1.nm))).map fun q => V.ref q.2)) := upd_same
  generalize upd H' pp (.lst ((R.filter fun q => decide (q.1.nm ∈ L.map (·.1.1.nm))).map fun q => V.ref q.2)) = H6 at z6 e6
  have s06 := (s04.trans s5).trans z6
  have hsub : ∀ q ∈ R.filter (fun q => decide (q.1.nm ∈ L.map (·.1.1.nm))), q ∈ R ∧ q.1.nm ∈ L.map (·.1.1.nm) := fun q hq => ⟨(List.mem_filter.mp hq).1, of_decide_eq_true (List.mem_filter.mp hq).2⟩
  have hsup : ∀ q ∈ R, q.1.nm ∈ L.map (·.1.1.nm) → q ∈ R.filter (fun q => decide (q.1.nm ∈ L.map (·.1.1.nm))) := fun q h1 h2 => List.mem_filter.mpr ⟨h1, decide_eq_true h2⟩
  have lenM : (R.filter fun q => decide (q.1.nm ∈ L.map (·.1.1.nm))).length ≤ R.length := List.length_filter_le _ _
  have ndM : ((R.filter fun q => decide (q.1.nm ∈ L.map (·.1.1.nm))).map (·.1.nm)).Nodup := by
   refine List.Nodup.sublist (List.filter_sublist.map _) ?_
   have : R.map (·.1.nm) = S.ti.map (·.nm) := by rw [← RL.1, List.map_map]; rfl
   rw [this]
   exact N.nd
  generalize R.filter (fun q => decide (q.1.nm ∈ L.map (·.1.1.nm))) = M at e6 hsub hsup lenM ndM
  have inS : ∀ q ∈ R, q.1 ∈ S.ti := fun q hq => by rw [← RL.1]; exact List.mem_map.mpr ⟨q, hq, rfl⟩
  have okM : ∀ q ∈ M, okRow q.1 := fun q hq => by
   obtain ⟨h1, h2, h3⟩ := N.okT q.1 (inS q (hsub q hq).1)
   exact ⟨h1, N.okP _ h2, N.okP _ h3⟩
  have memU : ∀ r, r ∈ (L.map (·.1)).map (·.1) ↔ r ∈ M.map (·.1) := fun r => by
   constructor
   ·intro h
    rw [List.map_map] at h
    obtain ⟨qq, hq, rfl⟩ := List.mem_map.mp h
    have h1 : qq.1.1 ∈ S.ti := (bo.1 qq.1 (List.mem_map.mpr ⟨qq, hq, rfl⟩)).1
    have h1' := h1
    rw [← RL.1] at h1'
    obtain ⟨rr, hrr, er⟩ := List.mem_map.mp h1'
    have er' : rr.1 = qq.1.1 := er
    refine List.mem_map.mpr ⟨rr, hsup rr hrr ?_, er⟩
    rw [er']
    exact List.mem_map.mpr ⟨qq, hq, rfl⟩
   ·intro h
    obtain ⟨rr, hrr, rfl⟩ := List.mem_map.mp h
    obtain ⟨h1, h2⟩ := hsub rr hrr
    obtain ⟨qq, hq, eq⟩ := List.mem_map.mp h2
    have h3 : qq.1.1 ∈ S.ti := (bo.1 qq.1 (List.mem_map.mpr ⟨qq, hq, rfl⟩)).1
    have : qq.1.1 = rr.1 := inj_nodup N.nd h3 (inS rr h1) eq
    rw [List.map_map]
    exact List.mem_map.mpr ⟨qq, hq, this⟩
  have ndL : ((L.map (·.1)).map (·.1)).Nodup := nd_of_map (f := (·.nm)) (by rw [List.map_map]; exact bo.2.1)
  have ndU : (M.map (·.1)).Nodup := nd_of_map (f := (·.nm)) (by rw [List.map_map]; exact ndM)
  have pm := perm_of ndL ndU memU
  have hgo : ∀ x, goes (L.map (·.1)) x = degR (M.map (·.1)) x := fun x => by rw [goes_one one, perm_deg pm]
  refine ⟨_, rfl, _, rfl, _, rfl, pp, a, b, goes (L.map (·.1)) a, M, rfl, ⟨e6, fun q hq => z6 _ _ (RL5.2 q (hsub q hq).1)⟩, okM, ndM, by omega, k0, fun e => ?_, fun x hx => ?_, fun wl W rest H7 hwl s7 WA hlen hrw perm => ?_⟩
  ·rw [hab e]
   rfl
  ·rw [← hgo x]
   by_cases e : x = a
   ·rw [if_pos e, e]
   ·rw [if_neg e]
    exact bo.2.2 x e hx
  ·have ndF := nd_perm (f := (·.nm)) perm (by rw [List.map_map]; exact ndM)
   rw [List.map_append] at ndF
   have hl2 := perm.length_eq
   rw [List.length_append, List.length_map] at hl2
   refine q wl W H7 (s06.free hwl) (s06.trans s7) WA hlen hrw (List.nodup_append.mp ndF).1 (fun r hr => ?_) (by omega)
   have h1 : r ∈ M.map (·.1) := perm.mem_iff.mpr (List.mem_append_left _ hr)
   have h2 := (memU r).mpr h1
   obtain ⟨qq, hq, e⟩ := List.mem_map.mp h2
   exact ⟨qq, hq, e⟩
end
end Net
namespace Net
open PySem L2
theorem nmsV_eq (ws : List Row) : nmsV ws = (ws.map (·.nm)).map V.str := by unfold nmsV; rw [List.map_map]; rfl
theorem nmsV_app (us ws : List Row) : nmsV us ++ nmsV ws = ((us ++ ws).map (·.nm)).map V.str := by rw [nmsV_eq, nmsV_eq, List.map_append, List.map_append]
def spLFlow62 : Sp := fun vs H Q _ => ∃ (c : Int) (pa ta : Addr) (S : NS) (a b : Str), vs = [.int c, .ref ta, .str a, .str b] ∧ PartsAt H pa ta S ∧ GoodS S ∧ 1 ≤ S.ti.length ∧ ∀ (l : Addr) (ls : List (Row × Int)) (H' : Hp), Same H H' → LoadsAt H' l ls → BalOk S.ti a b ls → (∀ q ∈ ls, q.2 = 1) → ls.length ≤ 10 → Q (.ref l) H'
def condL (here : Str) (ns : List Str) (q : Row × Addr) : Bool := decide (q.1.a = here) && !decide (q.1.nm ∈ ns)
structure WkI (ti : List Row) (us ws : List Row) (bg here : Str) : Prop where
 rw_ : RW bg ws here
 nd : ((us ++ ws).map (·.nm)).Nodup
 sub : ∀ r ∈ ws, r ∈ ti
section
variable {P : Program} {w : World} {K : PySem.W.Frag} {mg : Str → Option Value} {base : Heap} {C : Addr}
abbrev Nlflow62 : List Str := ["_law_cell", "_law_ties", "_law_a", "_law_b", "_law_used", "_law_k", "_law_begin", "_law_here", "_law_walk", "_law_j", "_law_ways", "_law_ended", "_law_tie", "_law_rows"]
theorem sc_lflow62 : FnScope Nlflow62 ["_law_cell", "_law_ties", "_law_a", "_law_b"] (defScope s_l_flow) := ⟨rfl, rfl, rfl, by decide +kernel, rfl, by decide +kernel, by decide +kernel⟩
theorem ok_lflow62 {f : Addr} {fd : FuncData} (F : Fun K "_law_flow" "_law_flow" s_l_flow f fd) (T : Txt K mg C) : FnOk P w K mg base CX0 1 f fd ["_law_cell", "_law_ties", "_law_a", "_law_b"] spLFlow62 := by
 refine F.ok sc_lflow62 (fun vs H Q E h => ?_) (fun cdv A outer s H vs Q E hr h => ?_)
 ·obtain ⟨c, pa, ta, S, a, b, rfl, _⟩ := h
  rfl
 ·obtain ⟨c, pa, ta, S, a, b, rfl, PA, g, hti, q⟩ := h
  have hU := hr.units
  have nd_0 : List.Nodup (["_law_tie", "_law_here", "_law_used", "_law_walk"] : List Str) := by decide +kernel
  have nd_1 : List.Nodup (["_law_name_here"] : List Str) := by decide +kernel
  refine ⟨_, (pss_cons (ps_set (i := 4) sc_lflow62.nd rfl (Or.inr rfl) (pe_lst pa_nil))
   (pss_cutE (ps_for PassesOwn.never rfl (pi_range1 rfl T.range (pa_cons pe_int pa_nil)) (pg_name (i := 5) sc_lflow62.nd rfl (Or.inl rfl))
     (pss_cons (ps_set (i := 6) sc_lflow62.nd rfl (Or.inl rfl) (pe_ix ix_list (pe_lst (pa_cons (pv 2) (pa_cons (pv 2) (pa_cons (pv 3) (pa_cons pe_str pa_nil))))) (pe_op op_mod (pe_op op_fdiv (pv 0) (pe_op op_add pe_int (pv 5))) pe_int) (fun _ _ => by rfl)))
   (pss_cutE (ps_if (pt_cmpR op_eq (pv 6) pe_str (nomark _)) (pss_one (ps_set (i := 6) sc_lflow62.nd rfl (Or.inl rfl) (pe_ix ix_tup (pe_ix ix_list (pv 1) (pe_op op_mod (pe_op op_fdiv (pv 0) pe_int) (pe_callB call_len_seq (by rfl) T.len b_len (pa_cons (pv 1) pa_nil))) (fun _ _ => by rfl)) pe_int (fun _ _ => by rfl)))) pss_nil)
   (pss_cons (ps_set (i := 7) sc_lflow62.nd rfl (Or.inr rfl) (pv 6))
   (pss_cons (ps_set (i := 8) sc_lflow62.nd rfl (Or.inr rfl) (pe_lst pa_nil))
   (pss_cutE (ps_for PassesOwn.never rfl (pi_range1 rfl T.range (pa_cons pe_int pa_nil)) (pg_name (i := 9) sc_lflow62.nd rfl (Or.inl rfl))
       (pss_cons (ps_comp (j := 10) (N := ["_law_tie", "_law_here", "_law_used", "_law_walk"]) (xs := 1) (js := [7, 4, 8]) rfl sc_lflow62.nd rfl rfl (compScope_of rfl) (pi_list (pv 1)) (fun _ _ _ _ => pg_name (i := 0) nd_0 rfl (Or.inl rfl)) (fun _ _ _ _ => pts_one (PW.pt (pw_and (pt_cmpR op_eq (pe_ix (ix_tupK K (by rfl)) (pv 0) pe_int (fun _ _ => by rfl)) (pv 1) (nomark _)) (pw_and1 (pt_cmpR (op_notInK K (by rfl)) (pe_ix (ix_tupK K (by rfl)) (pv 0) pe_int (fun _ _ => by rfl)) (pe_op op_cat (pv 2) (pv 3)) (by with_unfolding_all rfl)))))) (fun _ _ _ _ => pv 0) rfl)
   (pss_cons (ps_set (i := 11) sc_lflow62.nd rfl (Or.inl rfl) (pe_viaE (pe_and (pe_cmpR (op_neD hU) (pv 8) (pe_lst pa_nil) (nomark _)) (pe_and (pe_cmpR op_in_seq (pv 7) (pe_lst (pa_cons (pv 3) (pa_cons (pv 6) pa_nil))) (by with_unfolding_all rfl)) (pe_one (pe_cmpR op_gt (pe_op op_mod (pe_op op_fdiv (pv 0) (pe_op op_add pe_int (pv 9))) pe_int) pe_int (nomark _)))))))
   (pss_one (ps_if (PW.pt (pw_and (pt_cmpR (op_neD hU) (pv 10) (pe_lst pa_nil) (nomark _)) (pw_and1 (pt_not (pt_val (pv 11)))))) (pss_cons (ps_set (i := 12) sc_lflow62.nd rfl (Or.inl rfl) (pe_ix ix_list (pv 10) (pe_op op_mod (pe_op op_fdiv (pv 0) (pe_op op_add (pe_op op_add pe_int (pe_op op_mul pe_int (pv 5))) (pv 9))) (pe_callB call_len_seq (by rfl) T.len b_len (pa_cons (pv 10) pa_nil))) (fun _ _ => by rfl)))
   (pss_cons (ps_expr (pe_bm PySem.F.plainAttrs_list PySem.F.slot_list_append PySem.F.type_list_append mt_append (pv 8) (pa_cons (pe_ix ix_tup (pv 12) pe_int (fun _ _ => by rfl)) pa_nil)))
   (pss_one (ps_set (i := 7) sc_lflow62.nd rfl (Or.inr rfl) (pe_ix ix_tup (pv 12) pe_int (fun _ _ => by rfl)))))) pss_nil)))))
   (pss_one (ps_if (PW.pt (pw_or (pt_cmpR op_eq (pv 7) (pv 6) (nomark _)) (pw_or1 (PW.pt (pw_and (pt_cmpR op_in_seq (pv 6) (pe_lst (pa_cons (pv 2) (pa_cons (pv 3) pa_nil))) (by with_unfolding_all rfl)) (pw_and1 (pt_cmpR op_in_seq (pv 7) (pe_lst (pa_cons (pv 2) (pa_cons (pv 3) pa_nil))) (by with_unfolding_all rfl)))))))) (pss_one (ps_set (i := 4) sc_lflow62.nd rfl (Or.inr rfl) (pe_op op_cat (pv 4) (pv 8)))) pss_nil))))))))
   (pss_cons (ps_comp (j := 13) (N := ["_law_name_here"]) (xs := 1) (js := []) rfl sc_lflow62.nd rfl rfl (compScope_of rfl) (pi_list (pv 4)) (fun _ _ _ _ => pg_name (i := 0) nd_1 rfl (Or.inl rfl)) (fun _ _ _ _ => pts_nil) (fun _ _ _ _ => pe_lst (pa_cons (pv 0) (pa_cons pe_int pa_nil))) rfl)
   (pss_cutE (ps_if (pt_cmpR op_eq (pe_op op_mod (pv 0) pe_int) pe_int (nomark _)) (pss_one (ps_expr (pe_bm0 PySem.F.plainAttrs_list PySem.F.slot_list_reverse PySem.F.type_list_reverse mt_reverse (pv 13)))) pss_nil)
   (pss_one (ps_ret (pv 13))))))), ?_⟩
  obtain ⟨L, RL, eta⟩ := PA.ti
  have hL : L.length = S.ti.length := by rw [← RL.1, List.length_map]
  have hpl : (L.map fun q => V.ref q.2).length = S.ti.length := by rw [List.length_map, hL]
  have h10 := g.lenT
  have line : ∀ k : Nat, k ≤ 1000 → k ≤ sizeLine := fun k h => Nat.le_trans h (by decide)
  have okn : ∀ {us : List Row}, (∀ r ∈ us, r ∈ S.ti) → ∀ x ∈ us.map (·.nm), nameB x = true := fun {us} h x hx => by
   obtain ⟨r, hr, rfl⟩ := List.mem_map.mp hx
   exact (g.okT r (h r hr)).1
  have lenU : ∀ {us : List Row}, (us.map (·.nm)).Nodup → (∀ r ∈ us, r ∈ S.ti) → us.length ≤ 10 := fun {us} nd h => by
   have := nodup_len nd (m := S.ti.map (·.nm)) (fun x hx => by
    obtain ⟨r, hr, rfl⟩ := List.mem_map.mp hx
    exact List.mem_map.mpr ⟨r, h r hr, rfl⟩)
   rw [List.length_map, List.length_map] at this
   omega
  refine ⟨by decide, fun u0 hu0 => ?_⟩
  have z0 := Same.new (o := .lst []) hu0
  have e0 : (upd H u0 (.lst [])) u0 = some (.lst []) := upd_same
  generalize upd H u0 (.lst []) = H0 at z0 e0
  refine ⟨fun σ' H' => ∃ (ul : Addr) (us : List Row) (o5 o6 o7 o8 o9 o10 o11 o12 : Option V), σ' = [some (.int c), some (.ref ta), some (.str a), some (.str b), some (.ref ul), o5, o6, o7, o8, o9, o10, o11, o12, none] ∧ Same H H' ∧ H' ul = some (.lst (nmsV us)) ∧ (us.map (·.nm)).Nodup ∧ (∀ r ∈ us, r ∈ S.ti) ∧ (∀ x, ¬ x = a → ¬ x = b → degR us x = 0), ?_, ?_⟩
  ·refine ⟨_, rfl, by decide, by decide, ?_⟩
   refine for_range (n := 4) (fun i σ' H' => ∃ (ul : Addr) (us : List Row) (o5 o6 o7 o8 o9 o10 o11 o12 : Option V), σ' = [some (.int c), some (.ref ta), some (.str a), some (.str b), some (.ref ul), o5, o6, o7, o8, o9, o10, o11, o12, none] ∧ Same H H' ∧ H' ul = some (.lst (nmsV us)) ∧ (us.map (·.nm)).Nodup ∧ (∀ r ∈ us, r ∈ S.ti) ∧ (∀ x, ¬ x = a → ¬ x = b → degR us x = 0))
    ⟨u0, [], _, _, _, _, _, _, _, _, rfl, z0, e0, List.nodup_nil, fun _ h => (nomatch h), fun _ _ _ => rfl⟩ (fun k σ' H' hk h => ?_) (fun σ' H' h => h)
   obtain ⟨ul, us, o5, o6, o7, o8, o9, o10, o11, o12, rfl, s1, eul, ndu, subu, balu⟩ := h
   refine ⟨_, rfl, _, rfl, _, rfl, (by show 4 ≤ sizeLine; decide), fun p1 hp1 => ?_⟩
   have z1 := Same.new (o := .lst [.str a, .str a, .str b, .str ""]) hp1
   have e1 : (upd H' p1 (.lst [.str a, .str a, .str b, .str ""])) p1 = some (.lst [.str a, .str a, .str b, .str ""]) := upd_same
   generalize upd H' p1 (.lst [.str a, .str a, .str b, .str ""]) = H1 at z1 e1
   obtain ⟨bv, hbv, ebv⟩ := pickV (xs := [.str a, .str a, .str b, .str ""]) (by show 1 ≤ 4; decide) (c / (2 + (0 + (k : Int))))
   obtain ⟨bg0, rfl⟩ : ∃ x, bv = .str x := by
    simp only [List.mem_cons, List.not_mem_nil, or_false] at hbv
    rcases hbv with rfl | rfl | rfl | rfl <;> exact ⟨_, rfl⟩
   refine ⟨_, rfl, _, rfl, _, _, rfl, rfl, _, _, rfl, rfl, ⟨by omega, by omega⟩, _, _, rfl, rfl, (by show (0 : Int) < 4; decide), p1, _, _, .str bg0, rfl, rfl, SqL.of e1, ebv, ?_⟩
   have s11 := s1.trans z1
   refine ⟨fun σ' H2 => ∃ bg : Str, σ' = [some (.int c), some (.ref ta), some (.str a), some (.str b), some (.ref ul), some (.int (0 + (k : Int))), some (.str bg), o7, o8, o9, o10, o11, o12, none] ∧ H2 = H1, ?_, ?_⟩
   ·refine ⟨_, rfl, rfl, _, rfl, ite2 (fun _ => ?_) (fun _ => ⟨bg0, rfl, rfl⟩)⟩
    obtain ⟨v, hv, ev⟩ := pickV (xs := L.map fun q => V.ref q.2) (by rw [hpl]; exact hti) (c / 3)
    obtain ⟨qq, hqq, rfl⟩ := List.mem_map.mp hv
    exact ⟨_, rfl, _, rfl, _, _, rfl, rfl, ⟨by decide, by decide⟩, _, rfl, ta, _, rfl, .inl (SqL.of (s11 _ _ eta)), _, _, rfl, rfl, (by rw [hpl]; omega), ta, _, _, .ref qq.2, rfl, rfl, SqL.of (s11 _ _ eta), ev, qq.2, _, _, .str qq.1.a, rfl, rfl, SqT.of (s11 _ _ (RL.2 qq hqq)), rfl, _, rfl, rfl⟩
   rintro σ2 H2 ⟨bg, rfl, rfl⟩
   have eul1 := z1 _ _ eul
   refine ⟨_, rfl, ?_⟩
   refine ⟨by decide, fun wl hwl => ?_⟩
   have z2 := Same.new (o := .lst []) hwl
   have e2 : (upd H2 wl (.lst [])) wl = some (.lst []) := upd_same
   generalize upd H2 wl (.lst []) = H3 at z2 e2
   refine ⟨fun σ' H4 => ∃ (ws : List Row) (here : Str) (o9 o10 o11 o12 : Option V), σ' = [some (.int c), some (.ref ta), some (.str a), some (.str b), some (.ref ul), some (.int (0 + (k : Int))), some (.str bg), some (.str here), some (.ref wl), o9, o10, o11, o12, none] ∧ Same H2 H4 ∧ H4 wl = some (.lst (nmsV ws)) ∧ WkI S.ti us ws bg here, ?_, ?_⟩
   ·refine ⟨_, rfl, by decide, by decide, ?_⟩
    refine for_range (n := 7) (fun i σ' H4 => ∃ (ws : List Row) (here : Str) (o9 o10 o11 o12 : Option V), σ' = [some (.int c), some (.ref ta), some (.str a), some (.str b), some (.ref ul), some (.int (0 + (k : Int))), some (.str bg), some (.str here), some (.ref wl), o9, o10, o11, o12, none] ∧ Same H2 H4 ∧ H4 wl = some (.lst (nmsV ws)) ∧ WkI S.ti us ws bg here)
     ⟨[], bg, _, _, _, _, rfl, z2, e2, ⟨.nil, by rw [List.append_nil]; exact ndu, fun _ h => (nomatch h)⟩⟩ (fun j σ' H4 hj h => ?_) (fun σ' H4 h => h)
    obtain ⟨ws, here, o9', o10', o11', o12', rfl, t4, ewl, I⟩ := h
    have s4 := s11.trans t4
    have eta4 := s4 _ _ eta
    have eul4 := t4 _ _ eul1
    have lenA : us.length + ws.length ≤ 10 := by
     have := lenU I.nd (fun r hr => (List.mem_append.mp hr).elim (subu r) (I.sub r))
     rw [List.length_append] at this
     exact this
    have lnU : (nmsV us).length + (nmsV ws).length ≤ 1000 := by unfold nmsV; rw [List.length_map, List.length_map]; omega
    refine ⟨_, rfl, ta, rfl, ⟨_, SqL.of eta4⟩, comp_list (K := K) (ys := L.map fun q => V.ref q.2) (fun i acc σ' H5 => Same H4 H5 ∧ acc = ((L.take i).filter (condL here ((us ++ ws).map (·.nm)))).map (fun q => V.ref q.2) ∧ ∃ o, σ' = [o, some (.str here), some (.ref ul), some (.ref wl)])
     ⟨Same.refl _, rfl, none, rfl⟩ (fun i acc σ' H5 h => ?_) ?_ (fun i acc σ' H5 _ h => SqL.of (h.1 _ _ eta4)) (fun i x acc σ' H5 hx h => ?_) (fun acc σ' H5 h yl hyl => ?_)⟩
    ·rw [h.2.1, List.length_map]
     exact Nat.le_trans (List.length_filter_le _ _) (by rw [List.length_take]; omega)
    ·rw [hpl]
     exact Nat.le_trans h10 (by decide)
    ·obtain ⟨t5, rfl, o, rfl⟩ := h
     rw [List.getElem?_map] at hx
     cases ey : L[i]? with
     | none => rw [ey] at hx; cases hx
     | some y =>
      rw [ey] at hx
      cases hx
      have hy := (s4.trans t5) _ _ (RL.2 y (List.mem_of_getElem? ey))
      have tk := fun c' hc => take_filter (f := condL here ((us ++ ws).map (·.nm))) ey c' hc
      refine ⟨_, rfl, y.2, _, _, .str y.1.a, rfl, rfl, SqT.of hy, rfl, _, rfl, rfl, _, rfl, ?_⟩
      by_cases he : y.1.a = here
      ·refine iteTb (by simp [he]) ⟨_, rfl, y.2, _, _, .str y.1.nm, rfl, rfl, SqT.of hy, rfl, _, rfl, _, rfl, ul, wl, _, _, rfl, rfl, t5 _ _ eul4, t5 _ _ ewl, line _ lnU, fun p5 hp5 => ?_⟩
       have z5 := Same.new (o := .lst (nmsV us ++ nmsV ws)) hp5
       have e5 : (upd H5 p5 (.lst (nmsV us ++ nmsV ws))) p5 = some (.lst (((us ++ ws).map (·.nm)).map V.str)) := by rw [upd_same, nmsV_app]
       generalize upd H5 p5 (.lst (nmsV us ++ nmsV ws)) = H6 at z5 e5
       refine ⟨p5, _, rfl, .inl (SqL.of e5), rfl, flat_strs _, _, rfl, ?_⟩
       show if (if true = true then !inV (.str y.1.nm) (((us ++ ws).map (·.nm)).map V.str) else inV (.str y.1.nm) (((us ++ ws).map (·.nm)).map V.str)) = true then _ else _
       rw [if_pos rfl, inV_str]
       by_cases hn : y.1.nm ∈ (us ++ ws).map (·.nm)
       ·rw [decide_eq_true hn]
        refine iteF ⟨t5.trans z5, ?_, _, rfl⟩
        rw [tk false (by unfold condL; rw [decide_eq_true hn]; simp)]
        simp
       ·rw [decide_eq_false hn]
        refine iteT ⟨_, rfl, t5.trans z5, ?_, _, rfl⟩
        rw [tk true (by unfold condL; rw [decide_eq_false hn, decide_eq_true he]; rfl), if_pos rfl]
        show _ ++ List.map (fun q : Row × Addr => V.ref q.2) [y] = _
        exact List.map_append.symm
      ·refine iteFb (by simp [he]) (iteF ⟨t5, ?_, _, rfl⟩)
       rw [tk false (by unfold condL; rw [decide_eq_false he]; rfl)]
       simp
    obtain ⟨t5, rfl, o, rfl⟩ := h
    rw [List.length_map, List.take_length]
    have hY : ∀ q ∈ L.filter (condL here ((us ++ ws).map (·.nm))), q ∈ L ∧ q.1.a = here ∧ q.1.nm ∉ (us ++ ws).map (·.nm) := fun q hq => by
     obtain ⟨h1, h2⟩ := List.mem_filter.mp hq
     have h3 : decide (q.1.a = here) = true ∧ (!decide (q.1.nm ∈ (us ++ ws).map (·.nm))) = true := by simpa [condL] using h2
     exact ⟨h1, of_decide_eq_true h3.1, by simpa using h3.2⟩
    have z6 := Same.new (o := .lst ((L.filter (condL here ((us ++ ws).map (·.nm)))).map fun q => V.ref q.2)) hyl
    have e6 : (upd H5 yl (.lst ((L.filter (condL here ((us ++ ws).map (·.nm)))).map fun q => V.ref q.2))) yl = some (.lst ((L.filter (condL here ((us ++ ws).map (·.nm)))).map fun q => V.ref q.2)) := upd_same
    generalize upd H5 yl (.lst ((L.filter (condL here ((us ++ ws).map (·.nm)))).map fun q => V.ref q.2)) = H6 at z6 e6
    generalize L.filter (condL here ((us ++ ws).map (·.nm))) = Y at hY e6
    have t46 := t5.trans z6
    have ewl6 := t46 _ _ ewl
    refine ⟨fun u H7 => Same H6 H7 ∧ ∃ e, u = .bl e, ?_, ?_⟩
    ·refine ⟨_, rfl, by decide, fun ee hee => ⟨2, _, _, by decide, rd_strs (ws := ws.map (·.nm)) (by rw [← nmsV_eq]; exact (Same.new hee) _ _ ewl6) (okn I.sub), rd_nil2 upd_same, _, rfl, ite2 (fun _ => ?_) (fun _ => ⟨Same.new hee, _, rfl⟩)⟩⟩
     have z7 := Same.new (o := .lst []) hee
     generalize upd H6 ee (.lst []) = H7 at z7
     refine ⟨_, rfl, _, rfl, _, rfl, (by show 2 ≤ sizeLine; decide), fun p7 hp7 => ⟨p7, [.str b, .str bg], rfl, .inl (SqL.of upd_same), rfl, flat_strs [b, bg], _, rfl, ite2 (fun _ => ?_) (fun _ => ⟨z7.upd hp7, _, rfl⟩)⟩⟩
     have z8 := z7.upd (o := .lst [.str b, .str bg]) hp7
     exact ⟨_, rfl, _, rfl, _, _, rfl, rfl, _, _, rfl, rfl, ⟨by omega, by omega⟩, _, _, rfl, rfl, (by show (0 : Int) < 3; decide), _, _, rfl, rfl, z8, _, rfl⟩
    rintro _ H7 ⟨t7, en, rfl⟩
    have t47 := t46.trans t7
    have s7 := s4.trans t47
    have ewl7 := t47 _ _ ewl
    have RY : Rows H7 Y (Y.map (·.1)) := ⟨rfl, fun q hq => s7 _ _ (RL.2 q (hY q hq).1)⟩
    have inS : ∀ q ∈ Y, q.1 ∈ S.ti := fun q hq => by rw [← RL.1]; exact List.mem_map.mpr ⟨q, (hY q hq).1, rfl⟩
    have okY : ∀ r ∈ Y.map (·.1), nameB r.nm = true ∧ nameB r.a = true ∧ nameB r.b = true := fun r hr => by
     obtain ⟨qq, hq, rfl⟩ := List.mem_map.mp hr
     obtain ⟨h1, h2, h3⟩ := g.okT _ (inS qq hq)
     exact ⟨h1, g.okP _ h2, g.okP _ h3⟩
    refine ⟨_, rfl, by decide, fun ee hee => ⟨2, _, _, by decide, rd_rows (RY.same (Same.new hee)) (((t7.upd hee)) _ _ e6) okY, rd_nil2 upd_same, _, rfl, ?_⟩⟩
    have z8 := Same.new (o := .lst []) hee
    generalize upd H7 ee (.lst []) = H8 at z8
    have t28 := t4.trans (t47.trans z8)
    have ewl8 := z8 _ _ ewl7
    show if (if true = true then !PyData.eqv (.list ((Y.map (·.1)).map rowD)) (.list []) else _) = true then _ else _
    rw [if_pos rfl, eqv_nil]
    cases hYc : Y with
    | nil => exact iteF (iteF ⟨ws, here, _, _, _, _, rfl, t28, ewl8, I⟩)
    | cons y0 yr =>
     refine iteT ⟨_, rfl, _, rfl, ?_⟩
     cases en with
     | true => exact iteF ⟨ws, here, _, _, _, _, rfl, t28, ewl8, I⟩
     | false =>
      have e8 : H8 yl = some (.lst (Y.map fun q => V.ref q.2)) := (t7.trans z8) _ _ e6
      have hyl1 : 1 ≤ (Y.map fun q => V.ref q.2).length := by rw [List.length_map, hYc, List.length_cons]; omega
      obtain ⟨v, hv, ev⟩ := pickV (xs := Y.map fun q => V.ref q.2) hyl1 (c / (3 + 4 * (0 + (k : Int)) + (0 + (j : Int))))
      obtain ⟨qq, hqq, rfl⟩ := List.mem_map.mp hv
      have hq8 := (s7.trans z8) _ _ (RL.2 qq (hY qq hqq).1)
      refine iteT ⟨_, rfl, _, rfl, _, rfl, _, _, rfl, rfl, .inl ⟨by decide, by decide⟩, _, _, rfl, rfl, _, rfl, _, _, rfl, rfl, _, _, rfl, rfl, ⟨by omega, by omega⟩, _, rfl, yl, _, rfl, .inl (SqL.of e8), _, _, rfl, rfl, (by omega), yl, _, _, .ref qq.2, rfl, rfl, SqL.of e8, ev, ?_⟩
      refine ⟨_, rfl, .inl ⟨rfl, _, SqL.of ewl8⟩, _, rfl, qq.2, _, _, .str qq.1.nm, rfl, rfl, SqT.of hq8, rfl, wl, _, _, rfl, rfl, ewl8, small1000 (by unfold nmsV; rw [List.length_map]; omega), ?_⟩
      have nqw : qq.2 ≠ wl := ne_of hq8 ewl8 (by intro z; cases z)
      have hq9 : (upd H8 wl (.lst (nmsV ws ++ [.str qq.1.nm]))) qq.2 = some (.tup qq.1.tup) := by rw [upd_ne nqw]; exact hq8
      refine ⟨_, rfl, qq.2, _, _, .str qq.1.b, rfl, rfl, SqT.of hq9, rfl, ?_⟩
      refine ⟨ws ++ [qq.1], qq.1.b, _, _, _, _, rfl, fun b0 ob z => ?_, ?_, ⟨.snoc I.rw_ (hY qq hqq).2.1, ?_, fun r hr => ?_⟩⟩
      ·rw [upd_ne (ne_of_none z hwl)]
       exact t28 _ _ z
      ·rw [upd_same]
       unfold nmsV
       rw [List.map_append]
       rfl
      ·rw [← List.append_assoc, List.map_append]
       exact L2.nd_snoc I.nd (hY qq hqq).2.2
      ·rcases List.mem_append.mp hr with hr | hr
       ·exact I.sub r hr
       ·rw [List.mem_singleton.mp hr]; exact inS qq hqq
   rintro σ4 H4 ⟨ws, here, o9', o10', o11', o12', rfl, t4, ewl, I⟩
   have s4 := s11.trans t4
   have eul4 := t4 _ _ eul1
   have lenA : us.length + ws.length ≤ 10 := by
    have := lenU I.nd (fun r hr => (List.mem_append.mp hr).elim (subu r) (I.sub r))
    rw [List.length_append] at this
    exact this
   have lnU : (nmsV us).length + (nmsV ws).length ≤ 1000 := by unfold nmsV; rw [List.length_map, List.length_map]; omega
   have take : ∀ {H5 : Hp}, Same H4 H5 → (∀ x, ¬ x = a → ¬ x = b → degR ws x = 0) → ∀ p, H5 p = none → Same H (upd H5 p (.lst (nmsV us ++ nmsV ws))) ∧ (upd H5 p (.lst (nmsV us ++ nmsV ws))) p = some (.lst (nmsV (us ++ ws))) ∧ ((us ++ ws).map (·.nm)).Nodup ∧ (∀ r ∈ us ++ ws, r ∈ S.ti) ∧ (∀ x, ¬ x = a → ¬ x = b → degR (us ++ ws) x = 0) := fun {H5} t h0 p hp =>
    ⟨(s4.trans t).upd hp, by rw [upd_same]; unfold nmsV; rw [List.map_append], I.nd, fun r hr => (List.mem_append.mp hr).elim (subu r) (I.sub r), fun x hxa hxb => by rw [degR_app, balu x hxa hxb, h0 x hxa hxb]; rfl⟩
   have dw := fun x => I.rw_.deg (y := x)
   refine ⟨_, rfl, _, rfl, rfl, _, rfl, ?_⟩
   by_cases hhb : here = bg
   ·refine iteTb (by simp [hhb]) (iteT ⟨_, rfl, _, rfl, ul, wl, _, _, rfl, rfl, eul4, ewl, line _ lnU, fun p5 hp5 => ?_⟩)
    obtain ⟨k1, k2, k3, k4, k5⟩ := take (Same.refl _) (fun x _ _ => by rw [dw x, hhb]; omega) p5 hp5
    exact ⟨p5, us ++ ws, _, _, _, _, _, _, _, _, rfl, k1, k2, k3, k4, k5⟩
   ·refine iteFb (by simp [hhb]) ⟨_, rfl, _, rfl, _, rfl, (by show 2 ≤ sizeLine; decide), fun p5 hp5 => ?_⟩
    have z5 := Same.new (o := .lst [.str a, .str b]) hp5
    have e5 : (upd H4 p5 (.lst [.str a, .str b])) p5 = some (.lst ([a, b].map V.str)) := upd_same
    generalize upd H4 p5 (.lst [.str a, .str b]) = H5 at z5 e5
    refine ⟨p5, _, rfl, .inl (SqL.of e5), rfl, flat_strs _, _, rfl, ?_⟩
    show if (if false = true then !inV (.str bg) ([a, b].map V.str) else inV (.str bg) ([a, b].map V.str)) = true then _ else _
    rw [if_neg Bool.false_ne_true, inV_str]
    by_cases hbg : bg ∈ [a, b]
    ·refine iteTb (decide_eq_true hbg) ⟨_, rfl, _, rfl, _, rfl, (by show 2 ≤ sizeLine; decide), fun p6 hp6 => ?_⟩
     have z6 := z5.upd (o := .lst [.str a, .str b]) hp6
     have e6 : (upd H5 p6 (.lst [.str a, .str b])) p6 = some (.lst ([a, b].map V.str)) := upd_same
     generalize upd H5 p6 (.lst [.str a, .str b]) = H6 at z6 e6
     refine ⟨p6, _, rfl, .inl (SqL.of e6), rfl, flat_strs _, _, rfl, ?_⟩
     show if (if false = true then !inV (.str here) ([a, b].map V.str) else inV (.str here) ([a, b].map V.str)) = true then _ else _
     rw [if_neg Bool.false_ne_true, inV_str]
     by_cases hh : here ∈ [a, b]
     ·refine iteTb (decide_eq_true hh) ⟨_, rfl, _, rfl, ul, wl, _, _, rfl, rfl, z6 _ _ eul4, z6 _ _ ewl, line _ lnU, fun p7 hp7 => ?_⟩
      obtain ⟨k1, k2, k3, k4, k5⟩ := take z6 (fun x hxa hxb => by
       have n1 : ¬ bg = x := fun z => by
        rw [z] at hbg
        simp only [List.mem_cons, List.not_mem_nil, or_false] at hbg
        rcases hbg with z | z
        ·exact hxa z
        ·exact hxb z
       have n2 : ¬ here = x := fun z => by
        rw [z] at hh
        simp only [List.mem_cons, List.not_mem_nil, or_false] at hh
        rcases hh with z | z
        ·exact hxa z
        ·exact hxb z
       rw [dw x, if_neg n1, if_neg n2]
       rfl) p7 hp7
      exact ⟨p7, us ++ ws, _, _, _, _, _, _, _, _, rfl, k1, k2, k3, k4, k5⟩
     ·exact iteFb (decide_eq_false hh) ⟨ul, us, _, _, _, _, _, _, _, _, rfl, s4.trans z6, z6 _ _ eul4, ndu, subu, balu⟩
    ·exact iteFb (decide_eq_false hbg) (iteF ⟨ul, us, _, _, _, _, _, _, _, _, rfl, s4.trans z5, z5 _ _ eul4, ndu, subu, balu⟩)
  rintro σ1 H1 ⟨ul, us, o5, o6, o7, o8, o9, o10, o11, o12, rfl, s1, eul, ndu, subu, balu⟩
  have hus := lenU ndu subu
  refine ⟨_, rfl, ul, rfl, ⟨_, SqL.of eul⟩, comp_list (K := K) (ys := nmsV us) (fun i acc σ' H' => Same H1 H' ∧ (∃ L2 : List ((Row × Int) × Addr), acc = L2.map (fun q => V.ref q.2) ∧ L2.map (·.1) = (us.take i).map (fun r => (r, 1)) ∧ ∀ q ∈ L2, H' q.2 = some (.lst [.str q.1.1.nm, .int q.1.2])) ∧ ∃ o, σ' = [o])
   ⟨Same.refl _, ⟨[], rfl, rfl, fun _ h => (nomatch h)⟩, none, rfl⟩ (fun i acc σ' H' h => ?_) ?_ (fun i acc σ' H' _ h => SqL.of (h.1 _ _ eul)) (fun i x acc σ' H' hx h => ?_) (fun acc σ' H' h rl hrl => ?_)⟩
  ·obtain ⟨_, ⟨L2, rfl, h1, _⟩, _⟩ := h
   have := congrArg List.length h1
   rw [List.length_map, List.length_map, List.length_take] at this
   rw [List.length_map]
   omega
  ·unfold nmsV
   rw [List.length_map]
   exact Nat.le_trans hus (by decide)
  ·obtain ⟨t2, ⟨L2, rfl, h1, h2⟩, o, rfl⟩ := h
   unfold nmsV at hx
   rw [List.getElem?_map] at hx
   cases ey : us[i]? with
   | none => rw [ey] at hx; cases hx
   | some y =>
    rw [ey] at hx
    cases hx
    refine ⟨_, rfl, (by show 2 ≤ sizeLine; decide), fun qa hqa => ?_⟩
    have z1 := Same.new (o := .lst [.str y.nm, .int 1]) hqa
    refine ⟨t2.trans z1, ⟨L2 ++ [((y, 1), qa)], by rw [List.map_append]; rfl, ?_, fun q hq => ?_⟩, _, rfl⟩
    ·rw [List.map_append, h1, List.take_add_one, ey, List.map_append]
     rfl
    ·rcases List.mem_append.mp hq with hq | hq
     ·exact z1 _ _ (h2 q hq)
     ·rw [List.mem_singleton.mp hq]
      exact upd_same
  obtain ⟨t2, ⟨L2, rfl, h1, h2⟩, o, rfl⟩ := h
  have hnl : (nmsV us).length = us.length := by unfold nmsV; rw [List.length_map]
  rw [hnl, List.take_length] at h1
  have z2 := Same.new (o := .lst (L2.map fun q => V.ref q.2)) hrl
  have e2 : (upd H' rl (.lst (L2.map fun q => V.ref q.2))) rl = some (.lst (L2.map fun q => V.ref q.2)) := upd_same
  have hrl1 : H rl = none := (s1.trans t2).free hrl
  have h2' : ∀ q ∈ L2, (upd H' rl (.lst (L2.map fun q => V.ref q.2))) q.2 = some (.lst [.str q.1.1.nm, .int q.1.2]) ∧ q.2 ≠ rl := fun q hq => ⟨z2 _ _ (h2 q hq), ne_of_none (h2 q hq) hrl⟩
  generalize upd H' rl (.lst (L2.map fun q => V.ref q.2)) = H2 at z2 e2 h2'
  have s2 := s1.trans (t2.trans z2)
  have done : ∀ {ls : List (Row × Int)}, ls.Perm (us.map fun r => (r, (1 : Int))) → BalOk S.ti a b ls ∧ (∀ q ∈ ls, q.2 = 1) ∧ ls.length ≤ 10 := fun {ls} pm => by
   have mem : ∀ q ∈ ls, q.1 ∈ S.ti ∧ q.2 = 1 := fun q hq => by
    obtain ⟨r, hr, rfl⟩ := List.mem_map.mp (pm.mem_iff.mp hq)
    exact ⟨subu r hr, rfl⟩
   refine ⟨⟨fun q hq => ⟨(mem q hq).1, by rw [(mem q hq).2]; exact Int.le_refl _, by rw [(mem q hq).2]; exact (g.neT _ (mem q hq).1).2⟩, nd_perm (f := fun q : Row × Int => q.1.nm) pm.symm (by rw [List.map_map]; exact ndu), fun x hxa hxb => ?_⟩, fun q hq => (mem q hq).2, ?_⟩
   ·rw [perm_goes pm]
    exact balu x hxa hxb
   ·rw [pm.length_eq, List.length_map]
    exact hus
  refine ⟨fun σ' H3 => (∃ σ0, σ' = σ0 ++ [some (.ref rl)] ∧ σ0.length = 13) ∧ Same H H3 ∧ ∃ ls, LoadsAt H3 rl ls ∧ ls.Perm (us.map fun r => (r, (1 : Int))), ?_, ?_⟩
  ·refine ⟨_, rfl, _, _, rfl, rfl, (by show (0 : Int) < 2; decide), rfl, _, rfl, ite2 (fun _ => ?_) (fun _ => ⟨⟨[some (.int c), some (.ref ta), some (.str a), some (.str b), some (.ref ul), o5, o6, o7, o8, o9, o10, o11, o12], rfl, rfl⟩, s2, us.map fun r => (r, (1 : Int)), ⟨L2, e2, h1, fun q hq => (h2' q hq).1⟩, .refl _⟩)⟩
   refine ⟨_, rfl, .inl ⟨rfl, _, SqL.of e2⟩, rl, _, rfl, rfl, e2, ⟨[some (.int c), some (.ref ta), some (.str a), some (.str b), some (.ref ul), o5, o6, o7, o8, o9, o10, o11, o12], rfl, rfl⟩, fun b0 ob z => ?_, (us.map fun r => (r, (1 : Int))).reverse, ⟨L2.reverse, ?_, by rw [List.map_reverse, h1], fun q hq => ?_⟩, List.reverse_perm _⟩
   ·rw [upd_ne (ne_of_none z hrl1)]
    exact s2 _ _ z
   ·rw [upd_same, List.map_reverse]
   ·have hq' := List.mem_reverse.mp hq
    rw [upd_ne (h2' q hq').2]
    exact (h2' q hq').1
  rintro σ3 H3 ⟨⟨σ0, rfl, hσ⟩, s3, ls, la, pm⟩
  obtain ⟨k1, k2, k3⟩ := done pm
  refine ⟨.ref rl, ?_, q rl ls H3 s3 la k1 k2 k3⟩
  rw [List.getElem?_append_right (by omega), hσ]
  rfl
end
end Net
namespace Net
open PySem L2
def wD (ws : List Row) : PyData := .list ((ws.map (·.nm)).map PyData.str)
theorem rw_stops {ti : List Row} (nd : (ti.map (·.nm)).Nodup) {a : Str} {ws : List Row} {x : Str} (h : RW a ws x) : (∀ r ∈ ws, r ∈ ti) → ∃ st, stD ti a ((ws.map (·.nm)).map PyData.str) = some st ∧ st.getLast? = some x := by
 induction h with
 | nil => exact fun _ => ⟨[a], rfl, rfl⟩
 | @snoc ws x r p h ih =>
  intro hin
  obtain ⟨st, e1, e2⟩ := ih fun t ht => hin t (List.mem_append_left _ ht)
  have es : stepD ti x (.str r.nm) = some r.b := by
   show (rowOf ti r.nm).bind (fun r => if r.a = x then some r.b else none) = some r.b
   rw [row_of nd (hin r (List.mem_append_right _ List.mem_cons_self))]
   show (if r.a = x then some r.b else none) = _
   exact if_pos h
  have e3 := stD_snoc (d := .str r.nm) e1 e2
  rw [es] at e3
  refine ⟨st ++ [r.b], ?_, by simp⟩
  rw [List.map_append, List.map_append]
  exact e3
theorem stops_walks {ti : List Row} (nd : (ti.map (·.nm)).Nodup) {a b : Str} : ∀ {W : List (List Row)}, (∀ ws ∈ W, RW a ws b) → (∀ r ∈ W.flatten, r ∈ ti) → ∃ sts, stopsAll ti a (W.map wD) = some sts ∧ sts.length = W.length ∧ ∀ st ∈ sts, st.getLast? = some b
 | [], _, _ => ⟨[], rfl, rfl, fun _ h => nomatch h⟩
 | ws :: W, h, hin => by
  obtain ⟨sts, e1, e2, e3⟩ := stops_walks nd (W := W) (fun v hv => h v (List.mem_cons_of_mem _ hv)) (fun r hr => hin r (List.mem_append_right _ hr))
  obtain ⟨st, f1, f2⟩ := rw_stops nd (h ws List.mem_cons_self) fun r hr => hin r (List.mem_append_left _ hr)
  refine ⟨st :: sts, ?_, by rw [List.length_cons, List.length_cons, e2], fun t ht => ?_⟩
  ·show (match stD ti a ((ws.map (·.nm)).map PyData.str) with | none => none | some st => (stopsAll ti a (W.map wD)).map (st :: ·)) = _
   rw [f1, e1]
   rfl
  ·rcases List.mem_cons.mp ht with rfl | ht
   ·exact f2
   ·exact e3 t ht
theorem names_walks : ∀ {W : List (List Row)}, namesAll (W.map wD) = W.flatten.map (·.nm)
 | [] => rfl
 | ws :: W => by
  show (namesOf (wD ws)).getD [] ++ namesAll (W.map wD) = (ws ++ W.flatten).map (·.nm)
  have e : namesOf (wD ws) = some (ws.map (·.nm)) := strsOf_map _
  rw [e, names_walks, List.map_append]
  rfl
theorem walks_val {S : NS} (nd : S.nms.Nodup) {a b : Str} {W : List (List Row)} (h : ∀ ws ∈ W, RW a ws b) (hin : ∀ r ∈ W.flatten, r ∈ S.ti) (ndF : (W.flatten.map (·.nm)).Nodup) (hab : ¬ a = b) : shownB S false false a b (.list (W.map wD)) = some (W.length : Int) := by
 obtain ⟨sts, e1, e2, e3⟩ := stops_walks nd h hin
 have e : walksD S a b (.list (W.map wD)) = some sts := by
  show (match stopsAll S.ti a (W.map wD) with | none => none | some sts => if (sts.all fun st => decide (st.getLast? = some b)) = true ∧ (namesAll (W.map wD)).Nodup then some sts else none) = _
  rw [e1]
  exact if_pos ⟨List.all_eq_true.mpr fun st hst => decide_eq_true (e3 st hst), by rw [names_walks]; exact ndF⟩
 unfold shownB
 rw [if_neg hab]
 show (walksD S a b (.list (W.map wD))).map (fun L => (L.length : Int)) = _
 rw [e, Option.map_some, e2]
theorem walks_pair {H : Hp} : ∀ {L : List (List Row × Addr)}, (∀ q ∈ L, H q.2 = some (.lst (nmsV q.1)) ∧ ∀ r ∈ q.1, nameB r.nm = true) → Paired (PD H 1) (L.map fun q => V.ref q.2) ((L.map (·.1)).map wD)
 | [], _ => .nil
 | q :: L, h => .cons (.inl ⟨_, _, by rw [← nmsV_eq]; exact (h q List.mem_cons_self).1, rfl, PD.strs fun x hx => by
   obtain ⟨r, hr, rfl⟩ := List.mem_map.mp hx
   exact (h q List.mem_cons_self).2 r hr⟩) (walks_pair fun t ht => h t (List.mem_cons_of_mem _ ht))
theorem WalksAt.pd {H : Hp} {wl : Addr} {W : List (List Row)} (h : WalksAt H wl W) (ok : ∀ r ∈ W.flatten, nameB r.nm = true) : PD H 2 (.ref wl) (.list (W.map wD)) := by
 obtain ⟨L, e, rfl, c⟩ := h
 exact .inl ⟨_, _, e, rfl, walks_pair fun q hq => ⟨c q hq, fun r hr => ok r (List.mem_flatten.mpr ⟨q.1, List.mem_map.mpr ⟨q, hq, rfl⟩, hr⟩)⟩⟩
theorem walks_30 {W : List (List Row)} (h1 : W.length ≤ 30) (h2 : W.flatten.length ≤ 30) : W30 (.list (W.map wD)) := fun ds e => by
 cases e
 refine ⟨by rw [List.length_map]; exact h1, fun x hx e' he => ?_⟩
 obtain ⟨ws, hws, rfl⟩ := List.mem_map.mp hx
 cases he
 rw [List.length_map, List.length_map]
 refine Nat.le_trans ?_ h2
 obtain ⟨s, t, rfl⟩ := List.append_of_mem hws
 rw [List.flatten_append, List.length_append, List.flatten_cons, List.length_append]
 omega
def spOne62 (C : Addr) : Sp := fun vs H Q _ => ∃ (p ds dl pa ta : Addr) (S : NS) (c : Int), vs = [.ref p, .ref pa, .ref ta, .int c] ∧ NetS C H p ds dl S ∧ PartsAt H pa ta S ∧ GoodS S ∧ (∀ r ∈ S.ti, r.w = 1) ∧ 1 ≤ S.ti.length ∧ ∀ H', Same H H' → Q (.bl true) H'
section
variable {P : Program} {w : World} {K : PySem.W.Frag} {mg : Str → Option Value} {base : Heap} {C : Addr}
abbrev None62 : List Str := ["_law_net_here", "_law_places", "_law_ties", "_law_cell", "_law_a", "_law_b", "_law_paper", "_law_number", "_law_copy", "_law_walks", "_law_names", "_law_walk", "_law_name_here"]
theorem sc_one62 : FnScope None62 ["_law_net_here", "_law_places", "_law_ties", "_law_cell"] (defScope s_l_one) := ⟨rfl, rfl, rfl, by decide +kernel, rfl, by decide +kernel, by decide +kernel⟩
theorem ok_one62 {f : Addr} {fd : FuncData} (F : Fun K "_law_one" "_law_one" s_l_one f fd) (T : Txt K mg C) (cl_flow : Can P w K mg base 1 "_law_flow" ["_law_cell", "_law_ties", "_law_a", "_law_b"] spLFlow62) (cbound_paper : Can P w K mg base 9 "bound_paper" ["net", "term", "above"] (spPOne C)) (cwalks_of_flow : Can P w K mg base 8 "walks_of_flow" ["net", "a", "b", "paper"] (spWalksOf C)) (cshown_bound : Can P w K mg base 7 "shown_bound" ["net", "term", "above", "paper"] (spShown C)) (cshown_apart : Can P w K mg base 7 "shown_bound" ["net", "term", "above", "paper"] (spShown53 C)) : FnOk P w K mg base CX0 10 f fd ["_law_net_here", "_law_places", "_law_ties", "_law_cell"] (spOne62 C) := by
 refine F.ok sc_one62 (fun vs H Q E h => ?_) (fun cdv A outer s H vs Q E hr h => ?_)
 ·obtain ⟨p, ds, dl, pa, ta, S, c, rfl, _⟩ := h
  rfl
 ·obtain ⟨p, ds, dl, pa, ta, S, c, rfl, N, PA, g, w1, hti, q⟩ := h
  have hU := hr.units
  have r1 : Room 1 _ := hr.mono (by decide)
  have r7 : Room 7 _ := hr.mono (by decide)
  have r8 : Room 8 _ := hr.mono (by decide)
  have nd_0 : List.Nodup (["_law_row"] : List Str) := by decide +kernel
  have nd_1 := nd_0
  refine ⟨_, (pss_cons (ps_set (i := 4) sc_one62.nd rfl (Or.inl rfl) (pe_ix ix_list (pv 1) (pe_op op_mod (pv 3) (pe_callB call_len_seq (by rfl) T.len b_len (pa_cons (pv 1) pa_nil))) (fun _ _ => by rfl)))
   (pss_cons (ps_set (i := 5) sc_one62.nd rfl (Or.inl rfl) (pe_ix ix_list (pv 1) (pe_op op_mod (pe_op op_fdiv (pv 3) pe_int) (pe_callB call_len_seq (by rfl) T.len b_len (pa_cons (pv 1) pa_nil))) (fun _ _ => by rfl)))
   (pss_cons (ps_set (i := 6) sc_one62.nd rfl (Or.inl rfl) (pe_callC cl_flow r1 (by rfl) (pa_cons (pe_op op_fdiv (pv 3) pe_int) (pa_cons (pv 2) (pa_cons (pv 4) (pa_cons (pv 5) pa_nil))))))
   (pss_cutE (ps_if (pt_cmpR op_eq (pe_op op_mod (pe_op op_fdiv (pv 3) pe_int) pe_int) pe_int (nomark _)) (pss_one (ps_set (i := 6) sc_one62.nd rfl (Or.inl rfl) (pe_callC cbound_paper hr (by rfl) (pa_cons (pv 0) (pa_cons (pe_tup (pa_cons pe_str (pa_cons (pv 4) (pa_cons (pv 5) pa_nil)))) (pa_cons pe_bl pa_nil)))))) pss_nil)
   (pss_cons (ps_if (pt_cmpR op_eq (pv 4) (pv 5) (nomark _)) (pss_one (ps_ret (pe_cmpR (op_eqD hU) (pe_callC cwalks_of_flow r8 (by rfl) (pa_cons (pv 0) (pa_cons (pv 4) (pa_cons (pv 5) (pa_cons (pe_lst pa_nil) pa_nil))))) (pe_lst pa_nil) (nomark _)))) pss_nil)
   (pss_cons (ps_set (i := 7) sc_one62.nd rfl (Or.inl rfl) (pe_callC cshown_bound r7 (by rfl) (pa_cons (pv 0) (pa_cons (pe_tup (pa_cons pe_str (pa_cons (pv 4) (pa_cons (pv 5) pa_nil)))) (pa_cons pe_bl (pa_cons (pv 6) pa_nil))))))
   (pss_cons (ps_if (pt_cmp (pc_isN (pv 7))) (pss_one (ps_ret pe_bl)) pss_nil)
   (pss_cons (ps_if (pt_cmpR op_lt (pv 7) pe_int (nomark _)) (pss_one (ps_ret pe_bl)) pss_nil)
   (pss_cons (ps_comp (j := 8) (N := ["_law_row"]) (xs := 1) (js := []) rfl sc_one62.nd rfl rfl (compScope_of rfl) (pi_list (pv 6)) (fun _ _ _ _ => pg_name (i := 0) nd_0 rfl (Or.inl rfl)) (fun _ _ _ _ => pts_nil) (fun _ _ _ _ => pe_callTy (call_list_ofK K (by rfl)) (by rfl) T.list b_list (pa_cons (pv 0) pa_nil)) rfl)
   (pss_cons (ps_set (i := 9) sc_one62.nd rfl (Or.inl rfl) (pe_callC cwalks_of_flow r8 (by rfl) (pa_cons (pv 0) (pa_cons (pv 4) (pa_cons (pv 5) (pa_cons (pv 6) pa_nil))))))
   (pss_cutE (ps_if (PW.pt (pw_or (pt_cmpR op_ne (pe_callC cshown_apart r7 (by rfl) (pa_cons (pv 0) (pa_cons (pe_tup (pa_cons pe_str (pa_cons (pv 4) (pa_cons (pv 5) pa_nil)))) (pa_cons pe_bl (pa_cons (pv 9) pa_nil))))) (pv 7) (nomark _)) (pw_or1 (pt_cmpR (op_neD hU) (pv 6) (pv 8) (nomark _))))) (pss_one (ps_ret pe_bl)) pss_nil)
   (pss_cons (ps_comp (j := 10) (N := ["_law_row"]) (xs := 1) (js := []) rfl sc_one62.nd rfl rfl (compScope_of rfl) (pi_list (pv 6)) (fun _ _ _ _ => pg_name (i := 0) nd_1 rfl (Or.inl rfl)) (fun _ _ _ _ => pts_nil) (fun _ _ _ _ => pe_ix (ix_listK K (by rfl)) (pv 0) pe_int (fun _ _ => by rfl)) rfl)
   (pss_cutE (ps_for PassesOwn.never rfl (pi_list (pv 9)) (pg_name (i := 11) sc_one62.nd rfl (Or.inl rfl))
     (pss_one (ps_for PassesOwn.never rfl (pi_list (pv 11)) (pg_name (i := 12) sc_one62.nd rfl (Or.inl rfl))
       (pss_one (ps_if (pt_cmpR op_notIn_seq (pv 12) (pv 10) (by with_unfolding_all rfl)) (pss_one (ps_ret pe_bl)) pss_nil)))))
   (pss_cons (ps_expr (pe_bm PySem.F.plainAttrs_list PySem.F.slot_list_append PySem.F.type_list_append mt_append (pv 9) (pa_cons (pe_lst pa_nil) pa_nil)))
   (pss_one (ps_ret (pe_cmpR op_eq (pe_callC cshown_apart r7 (by rfl) (pa_cons (pv 0) (pa_cons (pe_tup (pa_cons pe_str (pa_cons (pv 4) (pa_cons (pv 5) pa_nil)))) (pa_cons pe_bl (pa_cons (pe_callC cwalks_of_flow r8 (by rfl) (pa_cons (pv 0) (pa_cons (pv 4) (pa_cons (pv 5) (pa_cons (pv 6) pa_nil))))) pa_nil))))) (pv 7) (nomark _)))))))))))))))))), ?_⟩
  have h6 := g.lenP
  have h10 := g.lenT
  have hpl : (S.pl.map V.str).length = S.pl.length := List.length_map ..
  have hlp : (0 : Int) < ((S.pl.map V.str).length : Int) := by
   rw [hpl]
   have := g.neP
   omega
  obtain ⟨a, ha, ea⟩ := pick_pl g.neP c
  obtain ⟨b, hb, eb⟩ := pick_pl g.neP (c / 6)
  refine ⟨_, rfl, _, rfl, _, rfl, pa, _, rfl, .inl (SqL.of PA.pl), _, _, rfl, rfl, hlp, pa, _, _, .str a, rfl, rfl, SqL.of PA.pl, ea, ?_⟩
  refine ⟨_, rfl, _, rfl, _, _, rfl, rfl, ⟨by decide, by decide⟩, _, rfl, pa, _, rfl, .inl (SqL.of PA.pl), _, _, rfl, rfl, hlp, pa, _, _, .str b, rfl, rfl, SqL.of PA.pl, eb, ?_⟩
  refine ⟨_, rfl, _, _, rfl, rfl, ⟨by decide, by decide⟩, _, rfl, _, rfl, _, rfl, c / 36, pa, ta, S, a, b, rfl, PA, g, hti, fun l1 ls1 H1 s1 la1 bo1 one1 len1 => ?_⟩
  have lenL : ∀ {ls : List (Row × Int)}, BalOk S.ti a b ls → ls.length ≤ 10 := fun {ls} bo => by
   have := nodup_len bo.2.1 (m := S.ti.map (·.nm)) (fun x hx => by
    obtain ⟨qq, hq, rfl⟩ := List.mem_map.mp hx
    exact List.mem_map.mpr ⟨qq.1, (bo.1 qq hq).1, rfl⟩)
   rw [List.length_map, List.length_map] at this
   omega
  refine ⟨fun σ' H' => ∃ (l : Addr) (ls : List (Row × Int)), σ' = [some (.ref p), some (.ref pa), some (.ref ta), some (.int c), some (.str a), some (.str b), some (.ref l), none, none, none, none, none, none] ∧ Same H H' ∧ LoadsAt H' l ls ∧ BalOk S.ti a b ls ∧ ∀ q ∈ ls, q.2 = 1, ?_, ?_⟩
  ·refine ⟨_, rfl, _, _, rfl, rfl, ⟨by decide, by decide⟩, _, _, rfl, rfl, (by show (0 : Int) < 3; decide), rfl, _, rfl, ite2 (fun _ => ?_) (fun _ => ⟨l1, ls1, rfl, s1, la1, bo1, one1⟩)⟩
   refine ⟨_, rfl, _, rfl, _, rfl, (by show 3 ≤ sizeLine; decide), fun tt htt => ?_⟩
   have z2 := s1.upd (o := .tup [.str "flow", .str a, .str b]) htt
   refine ⟨p, ds, dl, tt, S, a, b, rfl, N.same z2, upd_same, ha, fun r hr => by rw [w1 r hr]; decide, fun l ls H2 s2 la bo len => ?_⟩
   exact ⟨l, ls, rfl, z2.trans s2, la, bo, fun q hq => by
    obtain ⟨h1, h2, h3⟩ := bo.1 q hq
    rw [w1 _ h1] at h3
    omega⟩
  rintro σ2 H2 ⟨l, ls, rfl, s2, la, bo, one⟩
  have len := lenL bo
  have okn : ∀ q ∈ ls, nameB q.1.nm = true := fun q hq => (g.okT q.1 (bo.1 q hq).1).1
  refine ⟨_, rfl, _, rfl, rfl, _, rfl, ?_⟩
  by_cases hab : a = b
  ·-- a place and itself
   refine iteTb (by simp [hab]) ⟨_, rfl, _, rfl, _, rfl, by decide, fun l0 hl0 => ?_⟩
   have z3 := s2.upd (o := .lst []) hl0
   refine ⟨p, ds, dl, l0, S, a, b, [], rfl, N.same z3, ⟨[], upd_same, rfl, fun _ h => (nomatch h)⟩, ⟨fun _ h => (nomatch h), List.nodup_nil, fun _ _ _ => rfl⟩, fun _ h => (nomatch h), by decide, ha, Int.le_refl 0, fun _ => rfl, fun wl W H3 _ s3 WA hW _ _ _ _ => ?_⟩
   have eW : W = [] := by
    have : (W.length : Int) = 0 := hW
    exact List.length_eq_zero_iff.mp (by omega)
   subst eW
   obtain ⟨LW, eW, hLW, _⟩ := WA
   have eL : LW = [] := List.map_eq_nil_iff.mp hLW
   rw [eL] at eW
   refine ⟨by decide, fun ee hee => ⟨2, _, _, by decide, rd_nil ((Same.new hee) _ _ eW), rd_nil upd_same, ?_⟩⟩
   show Q (.bl (if false = true then _ else PyData.eqv (.list []) (.list []))) _
   rw [if_neg Bool.false_ne_true, eqv_nil]
   exact q _ ((z3.trans s3).upd hee)
  refine iteFb (by simp [hab]) ?_
  refine ⟨_, rfl, _, rfl, _, rfl, (by show 3 ≤ sizeLine; decide), fun tt htt => ?_⟩
  have z3 := Same.new (o := .tup [.str "flow", .str a, .str b]) htt
  have e3 : (upd H2 tt (.tup [.str "flow", .str a, .str b])) tt = some (.tup [.str "flow", .str a, .str b]) := upd_same
  generalize upd H2 tt (.tup [.str "flow", .str a, .str b]) = H3 at z3 e3
  have lenD : ∀ e, PyData.list (ls.map loadD) = .list e → e.length ≤ 1000 := fun e he => by
   cases he
   rw [List.length_map]
   omega
  refine ⟨_, rfl, p, ds, dl, tt, S, true, false, a, b, .ref l, 2, .list (ls.map loadD), rfl, N.same (s2.trans z3), e3, ha, (la.same z3).pd okn, by decide, lenD, (fun h => nomatch h), fun H4 s4 => ?_⟩
  rw [shown_fl N.nd bo (fun e => absurd e hab)]
  refine ⟨_, rfl, _, rfl, iteFb (by rfl) ?_⟩
  refine ⟨_, rfl, _, _, rfl, rfl, _, rfl, ite2 (fun _ => q _ (s2.trans (z3.trans s4))) (fun hk => ?_)⟩
  have k0 : 0 ≤ goes ls a := by
   have : ¬ goes ls a < 0 := fun z => hk (decide_eq_true z)
   omega
  have t24 := z3.trans s4
  have s4' := s2.trans t24
  have la4 := la.same t24
  obtain ⟨L, el, hLs, hrow⟩ := la4
  have hLl : L.length = ls.length := by rw [← hLs, List.length_map]
  refine ⟨_, rfl, l, rfl, ⟨_, SqL.of el⟩, comp_list (K := K) (ys := L.map fun q => V.ref q.2) (fun i acc σ' H' => Same H4 H' ∧ (∃ L2 : List ((Row × Int) × Addr), acc = L2.map (fun q => V.ref q.2) ∧ L2.map (·.1) = (L.take i).map (·.1) ∧ ∀ q ∈ L2, H' q.2 = some (.lst [.str q.1.1.nm, .int q.1.2])) ∧ ∃ o, σ' = [o])
   ⟨Same.refl _, ⟨[], rfl, rfl, fun _ h => (nomatch h)⟩, none, rfl⟩ (fun i acc σ' H' h => ?_) ?_ (fun i acc σ' H' _ h => SqL.of (h.1 _ _ el)) (fun i x acc σ' H' hx h => ?_) (fun acc σ' H' h cl hcl => ?_)⟩
  ·obtain ⟨_, ⟨L2, rfl, h1, _⟩, _⟩ := h
   have := congrArg List.length h1
   rw [List.length_map, List.length_map, List.length_take] at this
   rw [List.length_map]
   omega
  ·rw [List.length_map, hLl]
   exact Nat.le_trans len (by decide)
  ·obtain ⟨t5, ⟨L2, rfl, h1, h2⟩, o, rfl⟩ := h
   rw [List.getElem?_map] at hx
   cases ey : L[i]? with
   | none => rw [ey] at hx; cases hx
   | some y =>
    rw [ey] at hx
    cases hx
    have hy := t5 _ _ (hrow y (List.mem_of_getElem? ey))
    refine ⟨_, rfl, y.2, _, rfl, .inl (SqL.of hy), fun qa hqa => ?_⟩
    have z1 := Same.new (o := .lst [.str y.1.1.nm, .int y.1.2]) hqa
    refine ⟨t5.trans z1, ⟨L2 ++ [(y.1, qa)], by rw [List.map_append]; rfl, ?_, fun q hq => ?_⟩, _, rfl⟩
    ·rw [List.map_append, h1, List.take_add_one, ey, List.map_append]
     rfl
    ·rcases List.mem_append.mp hq with hq | hq
     ·exact z1 _ _ (h2 q hq)
     ·rw [List.mem_singleton.mp hq]
      exact upd_same
  obtain ⟨t5, ⟨L2, rfl, h1, h2⟩, o, rfl⟩ := h
  rw [List.length_map, List.take_length, hLs] at h1
  have z5 := Same.new (o := .lst (L2.map fun q => V.ref q.2)) hcl
  have cla : LoadsAt (upd H' cl (.lst (L2.map fun q => V.ref q.2))) cl ls := ⟨L2, upd_same, h1, fun q hq => z5 _ _ (h2 q hq)⟩
  generalize upd H' cl (.lst (L2.map fun q => V.ref q.2)) = H5 at z5 cla
  have t45 := t5.trans z5
  have s5 := s4'.trans t45
  have la5 := la.same (t24.trans t45)
  have hin : ∀ {W : List (List Row)}, (∀ r ∈ W.flatten, ∃ q ∈ ls, q.1 = r) → ∀ r ∈ W.flatten, r ∈ S.ti := fun h r hr => by
   obtain ⟨qq, hq, rfl⟩ := h r hr
   exact (bo.1 qq hq).1
  have hkl : goes ls a ≤ 10 := by
   rw [goes_one one]
   have := deg_le (x := a) (U := ls.map (·.1))
   rw [List.length_map] at this
   omega
  refine ⟨_, rfl, _, rfl, _, rfl, _, rfl, p, ds, dl, l, S, a, b, ls, rfl, N.same s5, la5, bo, one, by omega, ha, k0, fun e => absurd e hab, fun wl W H6 hwl s6 WA hW hrw ndF hsub hfl => ?_⟩
  have s06 := s5.trans s6
  have okw : ∀ r ∈ W.flatten, nameB r.nm = true := fun r hr => (g.okT r (hin hsub r hr)).1
  refine ⟨fun σ' H' => σ' = [some (.ref p), some (.ref pa), some (.ref ta), some (.int c), some (.str a), some (.str b), some (.ref l), some (.int (goes ls a)), some (.ref cl), some (.ref wl), none, none, none] ∧ Same H6 H', ?_, ?_⟩
  ·refine ⟨_, rfl, _, rfl, _, rfl, (by show 3 ≤ sizeLine; decide), fun t7 ht7 => ?_⟩
   have z7 := Same.new (o := .tup [.str "apart", .str a, .str b]) ht7
   have e7 : (upd H6 t7 (.tup [.str "apart", .str a, .str b])) t7 = some (.tup [.str "apart", .str a, .str b]) := upd_same
   generalize upd H6 t7 (.tup [.str "apart", .str a, .str b]) = H7 at z7 e7
   refine ⟨_, rfl, p, ds, dl, t7, S, false, false, a, b, .ref wl, 2, .list (W.map wD), rfl, N.same (s06.trans z7), e7, ha, (WA.same z7).pd okw, by decide, walks_30 (by omega) (by omega), fun H8 s8 => ?_⟩
   rw [walks_val N.nd hrw (hin hsub) ndF hab, hW]
   refine ⟨_, rfl, rfl, _, rfl, iteFb (by simp [oV]) ?_⟩
   have s68 := z7.trans s8
   have pdl := (la5.same (s6.trans s68)).pd okn
   refine ⟨_, rfl, _, rfl, 2, _, _, by decide, pdl.rd, ((cla.same (s6.trans s68)).pd okn).rd, _, rfl, ?_⟩
   show if (if true = true then !PyData.eqv (.list (ls.map loadD)) (.list (ls.map loadD)) else _) = true then _ else _
   rw [if_pos rfl, pd_refl pdl]
   exact iteF ⟨rfl, s68⟩
  rintro σ7 H7 ⟨rfl, s7⟩
  have t47 := t45.trans (s6.trans s7)
  have el7 := t47 _ _ el
  refine ⟨_, rfl, l, rfl, ⟨_, SqL.of el7⟩, comp_list (K := K) (ys := L.map fun q => V.ref q.2) (fun i acc σ' H' => H' = H7 ∧ acc = ((L.take i).map (·.1.1.nm)).map V.str ∧ ∃ o, σ' = [o])
   ⟨rfl, rfl, none, rfl⟩ (fun i acc σ' H' h => ?_) ?_ (fun i acc σ' H' _ h => by rw [h.1]; exact SqL.of el7) (fun i x acc σ' H' hx h => ?_) (fun acc σ' H' h nl hnl => ?_)⟩
  ·rw [h.2.1, List.length_map, List.length_map, List.length_take]; omega
  ·rw [List.length_map, hLl]
   exact Nat.le_trans len (by decide)
  ·obtain ⟨rfl, rfl, o, rfl⟩ := h
   rw [List.getElem?_map] at hx
   cases ey : L[i]? with
   | none => rw [ey] at hx; cases hx
   | some y =>
    rw [ey] at hx
    cases hx
    have hy := t47 _ _ (hrow y (List.mem_of_getElem? ey))
    refine ⟨_, rfl, y.2, _, _, .str y.1.1.nm, rfl, rfl, SqL.of hy, atI_nat (j := 0) rfl, rfl, ?_, _, rfl⟩
    rw [List.take_add_one, ey, List.map_append, List.map_append]
    rfl
  obtain ⟨rfl, rfl, o, rfl⟩ := h
  rw [List.length_map, List.take_length]
  have z8 := Same.new (o := .lst ((L.map (·.1.1.nm)).map V.str)) hnl
  have e8 : (upd H' nl (.lst ((L.map (·.1.1.nm)).map V.str))) nl = some (.lst ((L.map (·.1.1.nm)).map V.str)) := upd_same
  generalize upd H' nl (.lst ((L.map (·.1.1.nm)).map V.str)) = H8 at z8 e8
  have s68 := s7.trans z8
  have WA8 := WA.same s68
  obtain ⟨LW, eLW, hLW, hwk⟩ := WA8
  have inN : ∀ q ∈ LW, ∀ r ∈ q.1, r.nm ∈ L.map (·.1.1.nm) := fun q hq r hr => by
   obtain ⟨x, hx, e⟩ := hsub r (List.mem_flatten.mpr ⟨q.1, by rw [← hLW]; exact List.mem_map.mpr ⟨q, hq, rfl⟩, hr⟩)
   rw [← hLs] at hx
   obtain ⟨y, hy, rfl⟩ := List.mem_map.mp hx
   exact List.mem_map.mpr ⟨y, hy, by rw [← e]⟩
  have hLW30 : LW.length ≤ 30 := by
   have : LW.length = W.length := by rw [← hLW, List.length_map]
   omega
  refine ⟨fun σ' H' => (∃ o11 o12, σ' = [some (.ref p), some (.ref pa), some (.ref ta), some (.int c), some (.str a), some (.str b), some (.ref l), some (.int (goes ls a)), some (.ref cl), some (.ref wl), some (.ref nl), o11, o12]) ∧ H' = H8, ?_, ?_⟩
  ·refine ⟨_, rfl, wl, rfl, ⟨_, SqL.of eLW⟩, for_list (K := K) (a := wl) (xs := LW.map fun q => V.ref q.2) (fun i σ' H' => (∃ o11 o12, σ' = [some (.ref p), some (.ref pa), some (.ref ta), some (.int c), some (.str a), some (.str b), some (.ref l), some (.int (goes ls a)), some (.ref cl), some (.ref wl), some (.ref nl), o11, o12]) ∧ H' = H8)
    ⟨⟨_, _, rfl⟩, rfl⟩ (fun i σ' H' _ h => by rw [h.2]; exact SqL.of eLW) (fun i v σ' H' hv h => ?_) (fun σ' H' h => h)⟩
   obtain ⟨⟨o11, o12, rfl⟩, rfl⟩ := h
   rw [List.getElem?_map] at hv
   cases ey : LW[i]? with
   | none => rw [ey] at hv; cases hv
   | some y =>
    rw [ey] at hv
    cases hv
    have hm := List.mem_of_getElem? ey
    refine ⟨_, rfl, y.2, rfl, ⟨_, SqL.of (hwk y hm)⟩, for_list (K := K) (a := y.2) (xs := nmsV y.1) (fun i σ' H2 => (∃ o12, σ' = [some (.ref p), some (.ref pa), some (.ref ta), some (.int c), some (.str a), some (.str b), some (.ref l), some (.int (goes ls a)), some (.ref cl), some (.ref wl), some (.ref nl), some (.ref y.2), o12]) ∧ H2 = H')
     ⟨⟨_, rfl⟩, rfl⟩ (fun i σ' H2 _ h => by rw [h.2]; exact SqL.of (hwk y hm)) (fun i v σ' H2 hv h => ?_) (fun σ' H2 h => ?_)⟩
    ·obtain ⟨⟨o12, rfl⟩, rfl⟩ := h
     unfold nmsV at hv
     rw [List.getElem?_map] at hv
     cases er : y.1[i]? with
     | none => rw [er] at hv; cases hv
     | some r =>
      rw [er] at hv
      cases hv
      refine ⟨_, rfl, _, rfl, nl, _, rfl, .inl (SqL.of e8), rfl, flat_strs _, _, rfl, ?_⟩
      show if (if true = true then !inV (.str r.nm) ((L.map (·.1.1.nm)).map V.str) else inV (.str r.nm) ((L.map (·.1.1.nm)).map V.str)) = true then _ else _
      rw [if_pos rfl, inV_str, decide_eq_true (inN y hm r (List.mem_of_getElem? er))]
      exact iteF ⟨⟨_, rfl⟩, rfl⟩
    ·obtain ⟨⟨o12, rfl⟩, rfl⟩ := h
     exact ⟨⟨_, _, rfl⟩, rfl⟩
  rintro σ9 H9 ⟨⟨o11, o12, rfl⟩, rfl⟩
  refine ⟨_, rfl, .inl ⟨rfl, _, SqL.of eLW⟩, by decide, fun p9 hp9 => ?_⟩
  have z9 := Same.new (o := .lst []) hp9
  have eLW9 := z9 _ _ eLW
  generalize upd H9 p9 (.lst []) = H10 at z9 eLW9
  refine ⟨wl, _, _, rfl, rfl, eLW9, small1000 (by rw [List.length_map]; omega), ?_⟩
  have hwl5 : H5 wl = none := hwl
  have s10 : Same H5 (upd H10 wl (.lst ((LW.map fun q => V.ref q.2) ++ [.ref p9]))) := fun b0 ob z => by
   rw [upd_ne (ne_of_none z hwl5)]
   exact (s6.trans (s68.trans z9)) _ _ z
  generalize upd H10 wl (.lst ((LW.map fun q => V.ref q.2) ++ [.ref p9])) = H11 at s10
  have s11 := s5.trans s10
  refine ⟨_, rfl, _, rfl, _, rfl, (by show 3 ≤ sizeLine; decide), fun t12 ht12 => ?_⟩
  have z12 := Same.new (o := .tup [.str "apart", .str a, .str b]) ht12
  have e12 : (upd H11 t12 (.tup [.str "apart", .str a, .str b])) t12 = some (.tup [.str "apart", .str a, .str b]) := upd_same
  generalize upd H11 t12 (.tup [.str "apart", .str a, .str b]) = H12 at z12 e12
  have s12 := s11.trans z12
  refine ⟨_, rfl, _, rfl, _, rfl, _, rfl, p, ds, dl, l, S, a, b, ls, rfl, N.same s12, la5.same (s10.trans z12), bo, one, by omega, ha, k0, fun e => absurd e hab, fun wl2 W2 H13 _ s13 WA2 hW2 hrw2 ndF2 hsub2 hfl2 => ?_⟩
  have okw2 : ∀ r ∈ W2.flatten, nameB r.nm = true := fun r hr => (g.okT r (hin hsub2 r hr)).1
  refine ⟨p, ds, dl, t12, S, false, false, a, b, .ref wl2, 2, .list (W2.map wD), rfl, N.same (s12.trans s13), s13 _ _ e12, ha, WA2.pd okw2, by decide, walks_30 (by omega) (by omega), fun H14 s14 => ?_⟩
  rw [walks_val N.nd hrw2 (hin hsub2) ndF2 hab, hW2]
  refine ⟨_, rfl, rfl, ?_⟩
  have e : decide (oV (some (goes ls a)) = V.int (goes ls a)) = true := decide_eq_true rfl
  show Q (.bl (decide (oV (some (goes ls a)) = V.int (goes ls a)))) H14
  rw [e]
  exact q _ (s12.trans (s13.trans s14))
end
end Net
namespace Net
open PySem L2
def row1 (r : Row) : Row := { r with w := 1 }
theorem good1 {S : NS} (g : GoodS S) : GoodS ⟨S.pl, S.ti.map row1⟩ := by
 refine ⟨g.ndP, g.lenP, g.neP, g.okP, ?_, by show (S.ti.map row1).length ≤ 10; rw [List.length_map]; exact g.lenT, fun r hr => ?_, fun r hr => ?_, fun r hr => ?_⟩
 ·show ((S.ti.map row1).map (·.nm)).Nodup
  rw [List.map_map]
  exact g.ndT
 ·obtain ⟨r0, h0, rfl⟩ := List.mem_map.mp hr
  exact g.okT r0 h0
 ·obtain ⟨r0, h0, rfl⟩ := List.mem_map.mp hr
  exact ⟨(g.neT r0 h0).1, Int.le_refl 1⟩
 ·obtain ⟨r0, h0, rfl⟩ := List.mem_map.mp hr
  exact g.okC r0 h0
def spLaw (K : PySem.W.Frag) : Sp := fun vs H Q _ => ∃ (a : Addr) (ns : List Int), vs = [.ref a] ∧ SqL K H a (ns.map V.int) ∧ ns.length ≤ 63 ∧ ∀ H', Q (.bl true) H'
section
variable {P : Program} {w : World} {K : PySem.W.Frag} {mg : Str → Option Value} {base : Heap} {C : Addr}
abbrev Nlaw62 : List Str := ["_law_script", "_law_places", "_law_ties", "_law_net_here", "_law_cell"]
theorem sc_law62 : FnScope Nlaw62 ["_law_script"] (defScope s_law) := ⟨rfl, rfl, rfl, by decide +kernel, rfl, by decide +kernel, by decide +kernel⟩
theorem ok_law62 {f : Addr} {fd : FuncData} (F : Fun K "law" "law" s_law f fd) (T : Txt K mg C) (cl_cell_at : Can P w K mg base 1 "_law_cell_at" ["_law_script", "_law_k"] (spCellD K)) (cl_parts : Can P w K mg base 2 "_law_parts" ["_law_script"] (spParts K)) (cl_net : Can P w K mg base 5 "_law_net" ["_law_places", "_law_ties"] (spLNet C))
  (cl_one : Can P w K mg base 10 "_law_one" ["_law_net_here", "_law_places", "_law_ties", "_law_cell"] (spOne62 C)) (m_places : CanM P w K mg base 1 C "places" ["self"] (spPlaces C)) (m_ties : CanM P w K mg base 1 C "ties" ["self"] (spTies C)) :
  FnOk P w K mg base CX0 11 f fd ["_law_script"] (spLaw K) := by
 refine F.ok sc_law62 (fun vs H Q E h => ?_) (fun cdv A outer s H vs Q E hr h => ?_)
 ·obtain ⟨a, ns, rfl, _⟩ := h
  rfl
 ·obtain ⟨a, ns, rfl, hS, hlen, q⟩ := h
  have hU := hr.units
  have r1 : Room 1 _ := hr.mono (by decide)
  have r2 : Room 2 _ := hr.mono (by decide)
  have r5 : Room 5 _ := hr.mono (by decide)
  have nd_0 : List.Nodup (["_law_name_here", "_law_a", "_law_b", "_law_width", "_law_cost"] : List Str) := by decide +kernel
  refine ⟨_, (pss_cons (ps_asg (pe_callC cl_parts r2 (by rfl) (pa_cons (pv 0) pa_nil)) (pg_tup rfl (pgs_cons (pg_name (i := 1) sc_law62.nd rfl (Or.inl rfl)) (pgs_cons (pg_name (i := 2) sc_law62.nd rfl (Or.inl rfl)) pgs_nil))))
   (pss_cons (ps_comp (j := 2) (N := ["_law_name_here", "_law_a", "_law_b", "_law_width", "_law_cost"]) (xs := 5) (js := []) rfl sc_law62.nd rfl rfl (compScope_of rfl) (pi_list (pv 2)) (fun _ _ _ _ => pg_tupC (n := 5) K (by rfl) (by rfl) (pgs_cons (pg_name (i := 0) nd_0 rfl (Or.inl rfl)) (pgs_cons (pg_name (i := 1) nd_0 rfl (Or.inl rfl)) (pgs_cons (pg_name (i := 2) nd_0 rfl (Or.inl rfl)) (pgs_cons (pg_name (i := 3) nd_0 rfl (Or.inl rfl)) (pgs_cons (pg_name (i := 4) nd_0 rfl (Or.inl rfl)) pgs_nil)))))) (fun _ _ _ _ => pts_nil) (fun _ _ _ _ => pe_tup (pa_cons (pv 0) (pa_cons (pv 1) (pa_cons (pv 2) (pa_cons pe_int (pa_cons (pv 4) pa_nil)))))) rfl)
   (pss_cons (ps_set (i := 3) sc_law62.nd rfl (Or.inl rfl) (pe_callC cl_net r5 (by rfl) (pa_cons (pv 1) (pa_cons (pv 2) pa_nil))))
   (pss_cons (ps_for PassesOwn.never rfl (pi_list (pe_op op_cat (pe_slice sl_list (pv 0) (po_some pe_int) (po_some pe_int)) (pe_lst (pa_cons (pe_callC cl_cell_at r1 (by rfl) (pa_cons (pv 0) (pa_cons pe_int pa_nil))) (pa_cons (pe_callC cl_cell_at r1 (by rfl) (pa_cons (pv 0) (pa_cons pe_int pa_nil))) pa_nil))))) (pg_name (i := 4) sc_law62.nd rfl (Or.inl rfl))
     (pss_one (ps_if (PW.pt (pw_and (pt_cmpR (op_neD hU) (pv 2) (pe_lst pa_nil) (nomark _)) (pw_and1 (pt_not (pt_val (pe_callC cl_one hr (by rfl) (pa_cons (pv 3) (pa_cons (pv 1) (pa_cons (pv 2) (pa_cons (pv 4) pa_nil)))))))))) (pss_one (ps_ret pe_bl)) pss_nil)))
   (pss_one (ps_ret (pe_and (pe_cmpR (op_eqD hU) (pe_methC0 (pv 3) T.cl m_places r1) (pv 1) (nomark _)) (pe_one (pe_cmpR (op_eqD hU) (pe_methC0 (pv 3) T.cl m_ties r1) (pv 2) (nomark _)))))))))), ?_⟩
  refine ⟨_, rfl, a, ns, rfl, hS, fun t pa ta0 S0 H0 s0 et PA0 g0 => ?_⟩
  refine ⟨t, _, rfl, SqT.of et, rfl, _, _, rfl, _, _, rfl, rfl, ?_⟩
  obtain ⟨L, RL, eta⟩ := PA0.ti
  have hL : L.length = S0.ti.length := by rw [← RL.1, List.length_map]
  refine ⟨_, rfl, ta0, rfl, ⟨_, SqL.of eta⟩, comp_list (K := K) (ys := L.map fun q => V.ref q.2) (fun i acc σ' H' => Same H0 H' ∧ (∃ L' : List (Row × Addr), acc = L'.map (fun q => V.ref q.2) ∧ L'.length = i ∧ Rows H' L' ((S0.ti.take i).map row1)) ∧ ∃ o0 o1 o2 o3 o4, σ' = [o0, o1, o2, o3, o4])
   ⟨Same.refl H0, ⟨[], rfl, rfl, ⟨rfl, fun _ h => (nomatch h)⟩⟩, none, none, none, none, none, rfl⟩ (fun i acc σ' H' h => ?_) ?_ (fun i acc σ' H' _ h => SqL.of (h.1 _ _ eta)) (fun i x acc σ' H' hx h => ?_) (fun acc σ' H' h ta hta => ?_)⟩
  ·obtain ⟨_, ⟨L', rfl, hl, _⟩, _⟩ := h
   rw [List.length_map, hl]
   exact Nat.le_refl _
  ·rw [List.length_map, hL]
   exact Nat.le_trans g0.lenT (by decide)
  ·obtain ⟨s1, ⟨L', rfl, hl, RL'⟩, o0, o1, o2, o3, o4, rfl⟩ := h
   rw [List.getElem?_map] at hx
   cases eq : L[i]? with
   | none => rw [eq] at hx; cases hx
   | some qq =>
    rw [eq] at hx
    cases hx
    have et' := s1 _ _ (RL.2 qq (List.mem_of_getElem? eq))
    have er : S0.ti[i]? = some qq.1 := by rw [← RL.1, List.getElem?_map, eq]; rfl
    refine ⟨qq.2, _, rfl, SqT.of et', rfl, _, _, rfl, _, _, rfl, _, _, rfl, _, _, rfl, _, _, rfl, rfl, ?_⟩
    refine ⟨_, rfl, _, rfl, _, rfl, _, rfl, (by show 5 ≤ sizeLine; decide), fun t5 ht5 => ?_⟩
    have z := Same.new (o := .tup [.str qq.1.nm, .str qq.1.a, .str qq.1.b, .int 1, .int qq.1.c]) ht5
    refine ⟨s1.trans z, ⟨L' ++ [(row1 qq.1, t5)], by rw [List.map_append]; rfl, by rw [List.length_append, hl]; rfl, ⟨?_, fun y hy => ?_⟩⟩, _, _, _, _, _, rfl⟩
    ·rw [List.map_append, RL'.1, List.take_add_one, er, List.map_append]
     rfl
    ·rcases List.mem_append.mp hy with hy | hy
     ·exact z _ _ (RL'.2 y hy)
     ·rw [List.mem_singleton.mp hy]
      exact upd_same
  obtain ⟨s1', ⟨L', rfl, hl, RL'⟩, o0, o1, o2, o3, o4, rfl⟩ := h
  rw [List.length_map, hL, List.take_length] at RL'
  have z1 := Same.new (o := .lst (L'.map fun q => V.ref q.2)) hta
  have PA : PartsAt (upd H' ta (.lst (L'.map fun q => V.ref q.2))) pa ta ⟨S0.pl, S0.ti.map row1⟩ := ⟨(s1'.trans z1) _ _ PA0.pl, L', RL'.same z1, upd_same⟩
  generalize upd H' ta (.lst (L'.map fun q => V.ref q.2)) = H1 at z1 PA
  have s1 := s0.trans (s1'.trans z1)
  have g := good1 g0
  have w1 : ∀ r ∈ (NS.mk S0.pl (S0.ti.map row1)).ti, r.w = 1 := fun r hr => by
   obtain ⟨r0, _, rfl⟩ := List.mem_map.mp hr
   rfl
  generalize (NS.mk S0.pl (S0.ti.map row1)) = S at PA g w1
  clear RL' hl hL RL eta
  refine ⟨_, rfl, _, rfl, pa, ta, S, rfl, PA, g, fun x ds dl H2 s2 N => ?_⟩
  have PA2 := PA.same s2
  have nets : ∀ {H' : Hp}, Same H2 H' → NetS C H' x ds dl S := fun s => ⟨N.same s, g.ndT, Nat.le_trans g.lenT (by decide), Nat.le_trans g.lenP (by decide), g.ndP, g.okP, g.okT⟩
  have s12 := s1.trans s2
  have rok : ∀ r ∈ S.ti, nameB r.nm = true ∧ nameB r.a = true ∧ nameB r.b = true := fun r hr => ⟨(g.okT r hr).1, g.okP _ (g.okT r hr).2.1, g.okP _ (g.okT r hr).2.2⟩
  refine ⟨_, rfl, _, rfl, _, rfl, a, _, rfl, s12.seq hS, fun x1 h1 => ?_⟩
  have clen : (cutV (ns.map V.int) (some 14) (some 45)).length ≤ 45 - 14 := cut_len (ns.map V.int) (a := 14) (b := 45) (by decide)
  have cint := cut_ints (ns := ns) (a := some 14) (b := some 45)
  generalize cutV (ns.map V.int) (some 14) (some 45) = cells at clen cint
  have z3 := Same.new (o := .lst cells) h1
  have f1 : (upd H2 x1 (.lst cells)) x1 = some (.lst cells) := upd_same
  generalize upd H2 x1 (.lst cells) = H3 at z3 f1
  refine ⟨_, rfl, a, ns, 0, rfl, (s12.trans z3).seq hS, by decide, _, rfl, a, ns, 3, rfl, (s12.trans z3).seq hS, by decide, (by show 2 ≤ sizeLine; decide), fun x2 h2 => ?_⟩
  have z4 := Same.new (o := .lst [.int (cellD ns 0), .int (cellD ns 3)]) h2
  have f2 : (upd H3 x2 (.lst [.int (cellD ns 0), .int (cellD ns 3)])) x2 = some (.lst [.int (cellD ns 0), .int (cellD ns 3)]) := upd_same
  have ci2 : ∀ v ∈ ([.int (cellD ns 0), .int (cellD ns 3)] : List V), ∃ i, v = V.int i := fun v hv => by
   simp only [List.mem_cons, List.not_mem_nil, or_false] at hv
   rcases hv with rfl | rfl <;> exact ⟨_, rfl⟩
  have li2 : ([.int (cellD ns 0), .int (cellD ns 3)] : List V).length = 2 := rfl
  generalize ([.int (cellD ns 0), .int (cellD ns 3)] : List V) = c2 at z4 f2 ci2 li2
  generalize upd H3 x2 (.lst c2) = H4 at z4 f2
  refine ⟨x1, x2, _, _, rfl, rfl, z4 _ _ f1, f2, Nat.le_trans (show cells.length + c2.length ≤ 100 by omega) (by decide), fun sc hsc => ⟨sc, rfl, ⟨_, SqL.of upd_same⟩, ?_⟩⟩
  have cint2 : ∀ v ∈ cells ++ c2, ∃ i, v = V.int i := fun v hv => by
   rcases List.mem_append.mp hv with hv | hv
   ·exact cint v hv
   ·exact ci2 v hv
  generalize cells ++ c2 = all at cint2
  have z5 := Same.new (o := .lst all) hsc
  have f5 : (upd H4 sc (.lst all)) sc = some (.lst all) := upd_same
  generalize upd H4 sc (.lst all) = H5 at z5 f5
  have s25 := z3.trans (z4.trans z5)
  refine for_list (K := K) (a := sc) (xs := all) (fun i σ' H' => (∃ o4, σ' = [some (.ref a), some (.ref pa), some (.ref ta), some (.ref x), o4]) ∧ Same H5 H')
   ⟨⟨_, rfl⟩, Same.refl _⟩ (fun i σ' H' _ h => SqL.of (h.2 _ _ f5)) (fun i v σ' H' hv h => ?_) (fun σ' H' h => ?_)
  ·obtain ⟨⟨o4, rfl⟩, t3⟩ := h
   obtain ⟨cell, rfl⟩ := cint2 v (List.mem_of_getElem? hv)
   have PA6 := PA2.same (s25.trans t3)
   obtain ⟨L2, RL2, eta2⟩ := PA6.ti
   refine ⟨_, rfl, by decide, fun ee hee => ⟨2, _, _, by decide, rd_rows (RL2.same (Same.new hee)) ((Same.new hee) _ _ eta2) rok, rd_nil2 upd_same, _, rfl, ?_⟩⟩
   have z6 := Same.new (o := .lst []) hee
   generalize upd H' ee (.lst []) = H6 at z6
   show if (if true = true then !PyData.eqv (.list (S.ti.map rowD)) (.list []) else _) = true then _ else _
   rw [if_pos rfl, eqv_nil]
   cases hti : (S.ti.map rowD).isEmpty with
   | true => exact iteF (iteF ⟨⟨_, rfl⟩, t3.trans z6⟩)
   | false =>
    have h1 : 1 ≤ S.ti.length := by
     cases e : S.ti with
     | nil => rw [e] at hti; cases hti
     | cons _ _ => exact Nat.succ_le_succ (Nat.zero_le _)
    have s6 := s25.trans (t3.trans z6)
    exact iteT ⟨_, rfl, _, rfl, _, rfl, _, rfl, x, ds, dl, pa, ta, S, cell, rfl, nets s6, PA2.same s6, g, w1, h1, fun H7 s7 => ⟨_, rfl, iteF ⟨⟨_, rfl⟩, t3.trans (z6.trans s7)⟩⟩⟩
  ·obtain ⟨⟨o4, rfl⟩, t3⟩ := h
   have s23 := s25.trans t3
   have N4 := N.same s23
   obtain ⟨dx, h1'⟩ := N4.ob
   refine ⟨_, rfl, x, dx, _, rfl, h1', flds_no ds dl (by decide +kernel) (by decide +kernel), x, ds, dl, S, rfl, N4, fun pl hpl => ?_⟩
   have s5 := Same.new (o := .lst (S.pl.map V.str)) hpl
   have epl : (upd H' pl (.lst (S.pl.map V.str))) pl = some (.lst (S.pl.map V.str)) := upd_same
   generalize upd H' pl (.lst (S.pl.map V.str)) = H6 at s5 epl
   have PA5 := PA2.same (s23.trans s5)
   have N5 := N4.same s5
   obtain ⟨dx5, h15⟩ := N5.ob
   refine ⟨_, rfl, 2, _, _, by decide, rd_strs epl g.okP, rd_strs PA5.pl g.okP, _, rfl, ?_⟩
   show if (if false = true then !PyData.eqv (.list (S.pl.map PyData.str)) (.list (S.pl.map PyData.str)) else PyData.eqv (.list (S.pl.map PyData.str)) (.list (S.pl.map PyData.str))) = true then _ else _
   rw [if_neg Bool.false_ne_true, lay_strs g.okP]
   refine iteT ?_
   refine ⟨_, rfl, x, dx5, _, rfl, h15, flds_no ds dl (by decide +kernel) (by decide +kernel), x, ds, dl, S, rfl, N5, fun tl H7 L htl s6 RL etl => ?_⟩
   have PA6 := PA5.same s6
   obtain ⟨L2, RL2, eta⟩ := PA6.ti
   refine ⟨_, rfl, 2, _, _, by decide, rd_rows (RL.same s6) etl rok, rd_rows RL2 eta rok, ?_⟩
   show Q (.bl (if false = true then !PyData.eqv (.list (S.ti.map rowD)) (.list (S.ti.map rowD)) else PyData.eqv (.list (S.ti.map rowD)) (.list (S.ti.map rowD)))) H7
   rw [if_neg Bool.false_ne_true, lay_rows]
   exact q _
end
end Net
namespace Net
open PySem L2
theorem kib1 (K : PySem.W.Frag) : PySem.W.kitOne K (.type "int") (.type "bool") = some false := by
 first | rfl | kernel_rfl
structure Fn (K : PySem.W.Frag) (mg : Str → Option Value) (x : Str) (st : Stmt) : Prop where
 ex : ∃ f fd, Fun K x x st f fd ∧ mg x = some (.ref f)
structure Mt (K : PySem.W.Frag) (C : Addr) (x qual : Str) (st : Stmt) : Prop where
 ex : ∃ f fd, Fun K x qual st f fd ∧ Meth K C x f
theorem fn_mk {K : PySem.W.Frag} {h : Heap} {mg : Str → Option Value} {x : Str} {st : Stmt} {f : Addr} {oc : Value} {od an : Option Addr} {osl : Array (Option Value)} {kV doc pm cdv ct : Value} (X : K.In h) (G : h.Ns mainGlobals mg) (a : PySem.W.nsIn K mainGlobals x = some (some (.ref f)))
  (l : K.lookup f = some ⟨oc, od, .func (PySem.W.fnOf x x (defArgs st) (defBody st) (defScope st) .none kV doc pm an cdv ct), osl⟩) (c : PySem.W.codeIn K cdv x = true) (k : PySem.W.keepIn K (.ref f) = true) : Fn K mg x st :=
 ⟨f, _, fun_mk l c k, PySem.W.mg_of X G a⟩
theorem mt_mk {K : PySem.W.Frag} {C : Addr} {x qual : Str} {st : Stmt} {f : Addr} {oc : Value} {od an : Option Addr} {osl : Array (Option Value)} {kV doc pm cdv ct : Value} (a : PySem.W.findIn K (.ref C) x = some (some (.ref f))) (i : PySem.W.isFn K (.ref f) = true)
  (l : K.lookup f = some ⟨oc, od, .func (PySem.W.fnOf x qual (defArgs st) (defBody st) (defScope st) .none kV doc pm an cdv ct), osl⟩) (c : PySem.W.codeIn K cdv qual = true) (k : PySem.W.keepIn K (.ref f) = true) : Mt K C x qual st :=
 ⟨f, _, fun_mk l c k, a, i, k⟩
section
variable {P : Program} {w : World} {K : PySem.W.Frag} {mg : Str → Option Value} {base : Heap} {C : Addr} {k : Nat} {x qual : Str} {st : Stmt} {ps : List Str} {sp : Sp}
theorem Fn.can (F : Fn K mg x st) (ok : ∀ f fd, Fun K x x st f fd → FnOk P w K mg base CX0 k f fd ps sp)
  (h : ∀ (kV doc pm : Value) (an : Option Addr) (cdv ct : Value) (us : List Value), us.length = ps.length → bindArgs (PySem.W.fnOf x x (defArgs st) (defBody st) (defScope st) .none kV doc pm an cdv ct) ⟨us, []⟩ = pure (ps.zip us)) : Can P w K mg base k x ps sp := by
 obtain ⟨f, fd, G, m⟩ := F.ex
 exact ⟨f, fd, ok f fd G, m, G.kp, G.binds h⟩
theorem Mt.can (F : Mt K C x qual st) (ok : ∀ f fd, Fun K x qual st f fd → FnOk P w K mg base CX0 k f fd ps sp)
  (h : ∀ (kV doc pm : Value) (an : Option Addr) (cdv ct : Value) (us : List Value), us.length = ps.length → bindArgs (PySem.W.fnOf x qual (defArgs st) (defBody st) (defScope st) .none kV doc pm an cdv ct) ⟨us, []⟩ = pure (ps.zip us)) : CanM P w K mg base k C x ps sp := by
 obtain ⟨f, fd, G, m⟩ := F.ex
 exact ⟨f, fd, ok f fd G, m, G.binds h⟩
theorem Mt.canI (F : Mt K C "__init__" qual st) (mk : PySem.W.makesIn K C = true) (kc : PySem.W.keepIn K (.ref C) = true) (ok : ∀ f fd, Fun K "__init__" qual st f fd → FnOk P w K mg base CX0 k f fd ps sp)
  (h : ∀ (kV doc pm : Value) (an : Option Addr) (cdv ct : Value) (us : List Value), us.length = ps.length → bindArgs (PySem.W.fnOf "__init__" qual (defArgs st) (defBody st) (defScope st) .none kV doc pm an cdv ct) ⟨us, []⟩ = pure (ps.zip us)) : CanI P w K mg base k C ps sp := by
 obtain ⟨f, fd, G, m⟩ := F.ex
 exact ⟨f, fd, ok f fd G, ⟨mk, m.at_, m.fn, kc⟩, G.binds h⟩
end
structure All (K : PySem.W.Frag) (mg : Str → Option Value) (C : Addr) : Prop where
 T : Txt K mg C
 mks : PySem.W.makesIn K C = true
 kc : PySem.W.keepIn K (.ref C) = true
 tw : TxtW mg
 ts : TxtS mg
 tm : TxtM mg
 an : mg "any" = none
 mi : mg "min" = none
 made : Fn K mg "is_made_of" s_is_made_of
 name : Fn K mg "is_name" s_is_name
 whole : Fn K mg "is_whole" s_is_whole
 rname : Fn K mg "refuse_no_name" s_refuse_no_name
 rwidth : Fn K mg "refuse_no_width" s_refuse_no_width
 rmore : Fn K mg "refuse_more" s_refuse_more
 init : Mt K C "__init__" "Net.__init__" s_Net_init
 place : Mt K C "place" "Net.place" s_Net_place
 tie : Mt K C "tie" "Net.tie" s_Net_tie
 places : Mt K C "places" "Net.places" s_Net_places
 ties : Mt K C "ties" "Net.ties" s_Net_ties
 cell : Fn K mg "_law_cell_at" s_l_cell_at
 isplace : Fn K mg "is_place" s_is_place
 alike : Fn K mg "are_unlike" s_are_unlike
 istie : Fn K mg "is_tie" s_is_tie
 unlike : Fn K mg "are_unlike_places" s_are_unlike_places
 byname : Fn K mg "ties_by_name" s_ties_by_name
 stops : Fn K mg "walk_stops" s_walk_stops
 isrow : Fn K mg "is_row" s_is_row
 pair : Fn K mg "is_pair" s_is_pair
 load : Fn K mg "is_load" s_is_load
 goes : Fn K mg "what_goes_out" s_what_goes_out
 fbelow : Fn K mg "flow_below" s_flow_below
 leaving : Fn K mg "ties_leaving" s_ties_leaving
 fabove : Fn K mg "flow_above" s_flow_above
 aabove : Fn K mg "apart_above" s_apart_above
 sow : Fn K mg "stops_of_walks" s_stops_of_walks
 joined : Fn K mg "joined" s_joined
 abelow : Fn K mg "apart_below" s_apart_below
 babove : Fn K mg "bare_above" s_bare_above
 bbelow : Fn K mg "bare_below" s_bare_below
 across : Fn K mg "shown_across" s_shown_across
 shown : Fn K mg "shown_bound" s_shown_bound
 stby : Fn K mg "steps_by_begin" s_steps_by_begin
 bfs : Fn K mg "steps_to_places" s_steps_to_places
 free : Fn K mg "free_ways" s_free_ways
 add : Fn K mg "add_along" s_add_along
 great : Fn K mg "greatest_flow" s_greatest_flow
 arcs : Fn K mg "arcs_of_ties" s_arcs_of_ties
 pflow : Fn K mg "paper_of_flow" s_paper_of_flow
 pone : Fn K mg "paper_of_one" s_paper_of_one
 find : Fn K mg "find_bound" s_find_bound
 bpap : Fn K mg "bound_paper" s_bound_paper
 take : Fn K mg "take_walk" s_take_walk
 along : Fn K mg "walks_along" s_walks_along
 wof : Fn K mg "walks_of_flow" s_walks_of_flow
 lname : Fn K mg "_law_name" s_l_name
 parts : Fn K mg "_law_parts" s_l_parts
 lnet : Fn K mg "_law_net" s_l_net
 lflow : Fn K mg "_law_flow" s_l_flow
 one : Fn K mg "_law_one" s_l_one
theorem law_ok {P : Program} {w : World} {K : PySem.W.Frag} {mg : Str → Option Value} {base : Heap} {C f : Addr} {fd : FuncData} (A : All K mg C) (F : Fun K "law" "law" s_law f fd) : FnOk P w K mg base CX0 11 f fd ["_law_script"] (spLaw K) := by
 have T := A.T
 have made : Can P w K mg base 1 _ _ _ := A.made.can (fun f fd F => ok_made F T) fun _ _ _ _ _ _ us hl => match us, hl with | [_, _], _ => rfl
 have name : Can P w K mg base 2 _ _ _ := A.name.can (fun f fd F => ok_name F T made) fun _ _ _ _ _ _ us hl => match us, hl with | [_], _ => rfl
 have whole : Can P w K mg base 1 _ _ _ := A.whole.can (fun f fd F => ok_whole F T) fun _ _ _ _ _ _ us hl => match us, hl with | [_], _ => rfl
 have rname : Can P w K mg base 3 _ _ _ := A.rname.can (fun f fd F => ok_refName F T name) fun _ _ _ _ _ _ us hl => match us, hl with | [_], _ => rfl
 have rwidth : Can P w K mg base 2 _ _ _ := A.rwidth.can (fun f fd F => ok_refWidth F T whole) fun _ _ _ _ _ _ us hl => match us, hl with | [_], _ => rfl
 have rmore : Can P w K mg base 1 _ _ _ := A.rmore.can (fun f fd F => ok_refMore F T) fun _ _ _ _ _ _ us hl => match us, hl with | [_, _], _ => rfl
 have init : CanI P w K mg base 1 C _ _ := A.init.canI A.mks A.kc (fun f fd F => ok_init F T) fun _ _ _ _ _ _ us hl => match us, hl with | [_], _ => rfl
 have place : CanM P w K mg base 4 C _ _ _ := A.place.can (fun f fd F => ok_place F T rname rmore) fun _ _ _ _ _ _ us hl => match us, hl with | [_, _], _ => rfl
 have tie : CanM P w K mg base 4 C _ _ _ := A.tie.can (fun f fd F => ok_tie F T rname rwidth rmore) fun _ _ _ _ _ _ us hl => match us, hl with | [_, _, _, _, _, _], _ => rfl
 have places : CanM P w K mg base 1 C _ _ _ := A.places.can (fun f fd F => ok_places F T) fun _ _ _ _ _ _ us hl => match us, hl with | [_], _ => rfl
 have ties : CanM P w K mg base 1 C _ _ _ := A.ties.can (fun f fd F => ok_ties F T) fun _ _ _ _ _ _ us hl => match us, hl with | [_], _ => rfl
 have cell : Can P w K mg base 1 _ _ _ := A.cell.can (fun f fd F => ok_cellD F T) fun _ _ _ _ _ _ us hl => match us, hl with | [_, _], _ => rfl
 have isplace : Can P w K mg base 2 _ _ _ := A.isplace.can (fun f fd F => ok_isPlace F T places) fun _ _ _ _ _ _ us hl => match us, hl with | [_, _], _ => rfl
 have isplaceD : Can P w K mg base 2 _ _ _ := A.isplace.can (fun f fd F => ok_isPlaceD F T places) fun _ _ _ _ _ _ us hl => match us, hl with | [_, _], _ => rfl
 have alike : Can P w K mg base 1 _ _ _ := A.alike.can (fun f fd F => ok_alike F T A.ts) fun _ _ _ _ _ _ us hl => match us, hl with | [_], _ => rfl
 have istie : Can P w K mg base 1 _ _ _ := A.istie.can (fun f fd F => ok_isTie F T) fun _ _ _ _ _ _ us hl => match us, hl with | [_, _], _ => rfl
 have unlike : Can P w K mg base 3 _ _ _ := A.unlike.can (fun f fd F => ok_unlikeD F T A.ts isplaceD alike) fun _ _ _ _ _ _ us hl => match us, hl with | [_, _], _ => rfl
 have byname : Can P w K mg base 2 _ _ _ := A.byname.can (fun f fd F => ok_byName F T A.tw ties) fun _ _ _ _ _ _ us hl => match us, hl with | [_], _ => rfl
 have stops : Can P w K mg base 3 _ _ _ := A.stops.can (fun f fd F => ok_stops F T isplace byname istie) fun _ _ _ _ _ _ us hl => match us, hl with | [_, _, _], _ => rfl
 have isrow : Can P w K mg base 1 _ _ _ := A.isrow.can (fun f fd F => ok_isRow F T) fun _ _ _ _ _ _ us hl => match us, hl with | [_, _], _ => rfl
 have pair : Can P w K mg base 2 _ _ _ := A.pair.can (fun f fd F => ok_pairD F isrow) fun _ _ _ _ _ _ us hl => match us, hl with | [_], _ => rfl
 have wholeD : Can P w K mg base 1 _ _ _ := A.whole.can (fun f fd F => ok_wholeD F T) fun _ _ _ _ _ _ us hl => match us, hl with | [_], _ => rfl
 have load : Can P w K mg base 3 _ _ _ := A.load.can (fun f fd F => ok_load F pair istie wholeD) fun _ _ _ _ _ _ us hl => match us, hl with | [_, _], _ => rfl
 have goes : Can P w K mg base 4 _ _ _ := A.goes.can (fun f fd F => ok_goes F T A.tw byname load alike places) fun _ _ _ _ _ _ us hl => match us, hl with | [_, _], _ => rfl
 have fbelow : Can P w K mg base 5 _ _ _ := A.fbelow.can (fun f fd F => ok_fbelow F A.an goes) fun _ _ _ _ _ _ us hl => match us, hl with | [_, _, _], _ => rfl
 have leaving : Can P w K mg base 4 _ _ _ := A.leaving.can (fun f fd F => ok_leaving F T unlike ties) fun _ _ _ _ _ _ us hl => match us, hl with | [_, _, _], _ => rfl
 have fabove : Can P w K mg base 5 _ _ _ := A.fabove.can (fun f fd F => ok_fabove F A.tw leaving) fun _ _ _ _ _ _ us hl => match us, hl with | [_, _, _], _ => rfl
 have aabove : Can P w K mg base 5 _ _ _ := A.aabove.can (fun f fd F => ok_aabove F T leaving) fun _ _ _ _ _ _ us hl => match us, hl with | [_, _, _], _ => rfl
 have sowO : Can P w K mg base 4 _ _ _ := A.sow.can (fun f fd F => ok_sowOdd F T A.an stops) fun _ _ _ _ _ _ us hl => match us, hl with | [_, _, _], _ => rfl
 have abelowO : Can P w K mg base 5 _ _ _ := A.abelow.can (fun f fd F => ok_abelowOdd F T sowO) fun _ _ _ _ _ _ us hl => match us, hl with | [_, _, _], _ => rfl
 have acrossF : Can P w K mg base 6 _ _ _ := A.across.can (fun f fd F => ok_across52 F fabove fbelow aabove abelowO) fun _ _ _ _ _ _ us hl => match us, hl with | [_, _, _, _], _ => rfl
 have shownF : Can P w K mg base 7 _ _ _ := A.shown.can (fun f fd F => ok_shown52 F acrossF) fun _ _ _ _ _ _ us hl => match us, hl with | [_, _, _, _], _ => rfl
 have joined : Can P w K mg base 1 _ _ _ := A.joined.can (fun f fd F => ok_joined F) fun _ _ _ _ _ _ us hl => match us, hl with | [_], _ => rfl
 have sow : Can P w K mg base 4 _ _ _ := A.sow.can (fun f fd F => ok_sow F T A.an stops alike joined) fun _ _ _ _ _ _ us hl => match us, hl with | [_, _, _], _ => rfl
 have abelow : Can P w K mg base 5 _ _ _ := A.abelow.can (fun f fd F => ok_abelow F T sow) fun _ _ _ _ _ _ us hl => match us, hl with | [_, _, _], _ => rfl
 have bbelow : Can P w K mg base 5 _ _ _ := A.bbelow.can (fun f fd F => ok_bbelow F T sow alike joined) fun _ _ _ _ _ _ us hl => match us, hl with | [_, _, _], _ => rfl
 have babove : Can P w K mg base 5 _ _ _ := A.babove.can (fun f fd F => ok_babove F T pair unlike alike ties) fun _ _ _ _ _ _ us hl => match us, hl with | [_, _, _], _ => rfl
 have acrossB : Can P w K mg base 6 _ _ _ := A.across.can (fun f fd F => ok_across53 F aabove abelow babove bbelow) fun _ _ _ _ _ _ us hl => match us, hl with | [_, _, _, _], _ => rfl
 have shownB : Can P w K mg base 7 _ _ _ := A.shown.can (fun f fd F => ok_shown53 F acrossB) fun _ _ _ _ _ _ us hl => match us, hl with | [_, _, _, _], _ => rfl
 have stby : Can P w K mg base 1 _ _ _ := A.stby.can (fun f fd F => ok_byV F T) fun _ _ _ _ _ _ us hl => match us, hl with | [_], _ => rfl
 have bfs : Can P w K mg base 2 _ _ _ := A.bfs.can (fun f fd F => ok_bfsV F T stby) fun _ _ _ _ _ _ us hl => match us, hl with | [_, _], _ => rfl
 have free : Can P w K mg base 3 _ _ _ := A.free.can (fun f fd F => ok_free F bfs) fun _ _ _ _ _ _ us hl => match us, hl with | [_, _, _], _ => rfl
 have add : Can P w K mg base 1 _ _ _ := A.add.can (fun f fd F => ok_add F A.mi) fun _ _ _ _ _ _ us hl => match us, hl with | [_, _], _ => rfl
 have great : Can P w K mg base 4 _ _ _ := A.great.can (fun f fd F => ok_great62 F A.tw free add) fun _ _ _ _ _ _ us hl => match us, hl with | [_, _, _], _ => rfl
 have arcs : Can P w K mg base 2 _ _ _ := A.arcs.can (fun f fd F => ok_arcs F T ties) fun _ _ _ _ _ _ us hl => match us, hl with | [_], _ => rfl
 have pflow : Can P w K mg base 5 _ _ _ := A.pflow.can (fun f fd F => ok_pflow F arcs great) fun _ _ _ _ _ _ us hl => match us, hl with | [_, _, _], _ => rfl
 have pone : Can P w K mg base 6 _ _ _ := A.pone.can (fun f fd F => ok_pone F pflow) fun _ _ _ _ _ _ us hl => match us, hl with | [_, _, _], _ => rfl
 have find : Can P w K mg base 8 _ _ _ := A.find.can (fun f fd F => ok_find62 F pone shownF) fun _ _ _ _ _ _ us hl => match us, hl with | [_, _, _], _ => rfl
 have bpap : Can P w K mg base 9 _ _ _ := A.bpap.can (fun f fd F => ok_bpap62 F find) fun _ _ _ _ _ _ us hl => match us, hl with | [_, _, _], _ => rfl
 have take : Can P w K mg base 1 _ _ _ := A.take.can (fun f fd F => ok_take F) fun _ _ _ _ _ _ us hl => match us, hl with | [_, _, _], _ => rfl
 have along : Can P w K mg base 2 _ _ _ := A.along.can (fun f fd F => ok_along F T take) fun _ _ _ _ _ _ us hl => match us, hl with | [_, _, _, _], _ => rfl
 have wof : Can P w K mg base 8 _ _ _ := A.wof.can (fun f fd F => ok_wof F T A.an shownF along ties) fun _ _ _ _ _ _ us hl => match us, hl with | [_, _, _, _], _ => rfl
 have lname : Can P w K mg base 1 _ _ _ := A.lname.can (fun f fd F => ok_lname F T) fun _ _ _ _ _ _ us hl => match us, hl with | [_, _], _ => rfl
 have parts : Can P w K mg base 2 _ _ _ := A.parts.can (fun f fd F => ok_parts F T A.tm cell lname) fun _ _ _ _ _ _ us hl => match us, hl with | [_], _ => rfl
 have lnet : Can P w K mg base 5 _ _ _ := A.lnet.can (fun f fd F => ok_lnet F T init place tie) fun _ _ _ _ _ _ us hl => match us, hl with | [_, _], _ => rfl
 have lflow : Can P w K mg base 1 _ _ _ := A.lflow.can (fun f fd F => ok_lflow62 F T) fun _ _ _ _ _ _ us hl => match us, hl with | [_, _, _, _], _ => rfl
 have one : Can P w K mg base 10 _ _ _ := A.one.can (fun f fd F => ok_one62 F T lflow bpap wof shownF shownB) fun _ _ _ _ _ _ us hl => match us, hl with | [_, _, _, _], _ => rfl
 exact ok_law62 F T cell parts lnet one places ties
end Net
namespace Net
open PySem L2
theorem all_mk {l : PySem.W.OpenLaw} {w : World} {K : PySem.W.Frag} {h : Heap} {mg : Str → Option Value} {fa C : Addr} {f0 : Addr} {od0 an0 : Option Addr} {sl0 : Array (Option Value)} {oc0 kV0 dc0 pm0 cd0 ct0 : Value} {f1 : Addr} {od1 an1 : Option Addr} {sl1 : Array (Option Value)} {oc1 kV1 dc1 pm1 cd1 ct1 : Value} {f2 : Addr} {od2 an2 : Option Addr} {sl2 : Array (Option Value)} {oc2 kV2 dc2 pm2 cd2 ct2 : Value} {f3 : Addr} {od3 an3 : Option Addr} {sl3 : Array (Option Value)} {oc3 kV3 dc3 pm3 cd3 ct3 : Value} {f4 : Addr} {od4 an4 : Option Addr} {sl4 : Array (Option Value)} {oc4 kV4 dc4 pm4 cd4 ct4 : Value} {f5 : Addr} {od5 an5 : Option Addr} {sl5 : Array (Option Value)} {oc5 kV5 dc5 pm5 cd5 ct5 : Value} {f6 : Addr} {od6 an6 : Option Addr} {sl6 : Array (Option Value)} {oc6 kV6 dc6 pm6 cd6 ct6 : Value} {f7 : Addr} {od7 an7 : Option Addr} {sl7 : Array (Option Value)} {oc7 kV7 dc7 pm7 cd7 ct7 : Value} {f8 : Addr} {od8 an8 : Option Addr} {sl8 : Array (Option Value)} {oc8 kV8 dc8 pm8 cd8 ct8 : Value} {f9 : Addr} {od9 an9 : Option Addr} {sl9 : Array (Option Value)} {oc9 kV9 dc9 pm9 cd9 ct9 : Value} {f10 : Addr} {od10 an10 : Option Addr} {sl10 : Array (Option Value)} {oc10 kV10 dc10 pm10 cd10 ct10 : Value} {f11 : Addr} {od11 an11 : Option Addr} {sl11 : Array (Option Value)} {oc11 kV11 dc11 pm11 cd11 ct11 : Value} {f12 : Addr} {od12 an12 : Option Addr} {sl12 : Array (Option Value)} {oc12 kV12 dc12 pm12 cd12 ct12 : Value} {f13 : Addr} {od13 an13 : Option Addr} {sl13 : Array (Option Value)} {oc13 kV13 dc13 pm13 cd13 ct13 : Value} {f14 : Addr} {od14 an14 : Option Addr} {sl14 : Array (Option Value)} {oc14 kV14 dc14 pm14 cd14 ct14 : Value} {f15 : Addr} {od15 an15 : Option Addr} {sl15 : Array (Option Value)} {oc15 kV15 dc15 pm15 cd15 ct15 : Value} {f16 : Addr} {od16 an16 : Option Addr} {sl16 : Array (Option Value)} {oc16 kV16 dc16 pm16 cd16 ct16 : Value} {f17 : Addr} {od17 an17 : Option Addr} {sl17 : Array (Option Value)} {oc17 kV17 dc17 pm17 cd17 ct17 : Value} {f18 : Addr} {od18 an18 : Option Addr} {sl18 : Array (Option Value)} {oc18 kV18 dc18 pm18 cd18 ct18 : Value} {f19 : Addr} {od19 an19 : Option Addr} {sl19 : Array (Option Value)} {oc19 kV19 dc19 pm19 cd19 ct19 : Value} {f20 : Addr} {od20 an20 : Option Addr} {sl20 : Array (Option Value)} {oc20 kV20 dc20 pm20 cd20 ct20 : Value} {f21 : Addr} {od21 an21 : Option Addr} {sl21 : Array (Option Value)} {oc21 kV21 dc21 pm21 cd21 ct21 : Value} {f22 : Addr} {od22 an22 : Option Addr} {sl22 : Array (Option Value)} {oc22 kV22 dc22 pm22 cd22 ct22 : Value} {f23 : Addr} {od23 an23 : Option Addr} {sl23 : Array (Option Value)} {oc23 kV23 dc23 pm23 cd23 ct23 : Value} {f24 : Addr} {od24 an24 : Option Addr} {sl24 : Array (Option Value)} {oc24 kV24 dc24 pm24 cd24 ct24 : Value} {f25 : Addr} {od25 an25 : Option Addr} {sl25 : Array (Option Value)} {oc25 kV25 dc25 pm25 cd25 ct25 : Value} {f26 : Addr} {od26 an26 : Option Addr} {sl26 : Array (Option Value)} {oc26 kV26 dc26 pm26 cd26 ct26 : Value} {f27 : Addr} {od27 an27 : Option Addr} {sl27 : Array (Option Value)} {oc27 kV27 dc27 pm27 cd27 ct27 : Value} {f28 : Addr} {od28 an28 : Option Addr} {sl28 : Array (Option Value)} {oc28 kV28 dc28 pm28 cd28 ct28 : Value} {f29 : Addr} {od29 an29 : Option Addr} {sl29 : Array (Option Value)} {oc29 kV29 dc29 pm29 cd29 ct29 : Value} {f30 : Addr} {od30 an30 : Option Addr} {sl30 : Array (Option Value)} {oc30 kV30 dc30 pm30 cd30 ct30 : Value} {f31 : Addr} {od31 an31 : Option Addr} {sl31 : Array (Option Value)} {oc31 kV31 dc31 pm31 cd31 ct31 : Value} {f32 : Addr} {od32 an32 : Option Addr} {sl32 : Array (Option Value)} {oc32 kV32 dc32 pm32 cd32 ct32 : Value} {f33 : Addr} {od33 an33 : Option Addr} {sl33 : Array (Option Value)} {oc33 kV33 dc33 pm33 cd33 ct33 : Value} {f34 : Addr} {od34 an34 : Option Addr} {sl34 : Array (Option Value)} {oc34 kV34 dc34 pm34 cd34 ct34 : Value} {f35 : Addr} {od35 an35 : Option Addr} {sl35 : Array (Option Value)} {oc35 kV35 dc35 pm35 cd35 ct35 : Value} {f36 : Addr} {od36 an36 : Option Addr} {sl36 : Array (Option Value)} {oc36 kV36 dc36 pm36 cd36 ct36 : Value} {f37 : Addr} {od37 an37 : Option Addr} {sl37 : Array (Option Value)} {oc37 kV37 dc37 pm37 cd37 ct37 : Value} {f38 : Addr} {od38 an38 : Option Addr} {sl38 : Array (Option Value)} {oc38 kV38 dc38 pm38 cd38 ct38 : Value} {f39 : Addr} {od39 an39 : Option Addr} {sl39 : Array (Option Value)} {oc39 kV39 dc39 pm39 cd39 ct39 : Value} {f40 : Addr} {od40 an40 : Option Addr} {sl40 : Array (Option Value)} {oc40 kV40 dc40 pm40 cd40 ct40 : Value} {f41 : Addr} {od41 an41 : Option Addr} {sl41 : Array (Option Value)} {oc41 kV41 dc41 pm41 cd41 ct41 : Value} {f42 : Addr} {od42 an42 : Option Addr} {sl42 : Array (Option Value)} {oc42 kV42 dc42 pm42 cd42 ct42 : Value} {f43 : Addr} {od43 an43 : Option Addr} {sl43 : Array (Option Value)} {oc43 kV43 dc43 pm43 cd43 ct43 : Value} {f44 : Addr} {od44 an44 : Option Addr} {sl44 : Array (Option Value)} {oc44 kV44 dc44 pm44 cd44 ct44 : Value} {f45 : Addr} {od45 an45 : Option Addr} {sl45 : Array (Option Value)} {oc45 kV45 dc45 pm45 cd45 ct45 : Value} {f46 : Addr} {od46 an46 : Option Addr} {sl46 : Array (Option Value)} {oc46 kV46 dc46 pm46 cd46 ct46 : Value} {f47 : Addr} {od47 an47 : Option Addr} {sl47 : Array (Option Value)} {oc47 kV47 dc47 pm47 cd47 ct47 : Value} {f48 : Addr} {od48 an48 : Option Addr} {sl48 : Array (Option Value)} {oc48 kV48 dc48 pm48 cd48 ct48 : Value} {f49 : Addr} {od49 an49 : Option Addr} {sl49 : Array (Option Value)} {oc49 kV49 dc49 pm49 cd49 ct49 : Value} {f50 : Addr} {od50 an50 : Option Addr} {sl50 : Array (Option Value)} {oc50 kV50 dc50 pm50 cd50 ct50 : Value} {fL : Addr} {odL anL : Option Addr} {slL : Array (Option Value)} {ocL kVL dcL pmL cdL ctL : Value} {vS : Value} {vN : Value} {vP : Value} {vM : Value}
  (X : K.In h) (G : h.Ns mainGlobals mg) (hfa : mg "law" = some (.ref fa))
  (aC : PySem.W.nsIn K mainGlobals "Net" = some (some (.ref C)))
  (a0 : PySem.W.nsIn K mainGlobals "is_made_of" = some (some (.ref f0)))
  (l0 : K.lookup f0 = some ⟨oc0, od0, .func (PySem.W.fnOf "is_made_of" "is_made_of" (defArgs s_is_made_of) (defBody s_is_made_of) (defScope s_is_made_of) .none kV0 dc0 pm0 an0 cd0 ct0), sl0⟩) (c0 : PySem.W.codeIn K cd0 "is_made_of" = true) (k0 : PySem.W.keepIn K (.ref f0) = true)
  (a1 : PySem.W.nsIn K mainGlobals "is_name" = some (some (.ref f1)))
  (l1 : K.lookup f1 = some ⟨oc1, od1, .func (PySem.W.fnOf "is_name" "is_name" (defArgs s_is_name) (defBody s_is_name) (defScope s_is_name) .none kV1 dc1 pm1 an1 cd1 ct1), sl1⟩) (c1 : PySem.W.codeIn K cd1 "is_name" = true) (k1 : PySem.W.keepIn K (.ref f1) = true)
  (a2 : PySem.W.nsIn K mainGlobals "is_whole" = some (some (.ref f2)))
  (l2 : K.lookup f2 = some ⟨oc2, od2, .func (PySem.W.fnOf "is_whole" "is_whole" (defArgs s_is_whole) (defBody s_is_whole) (defScope s_is_whole) .none kV2 dc2 pm2 an2 cd2 ct2), sl2⟩) (c2 : PySem.W.codeIn K cd2 "is_whole" = true) (k2 : PySem.W.keepIn K (.ref f2) = true)
  (a3 : PySem.W.nsIn K mainGlobals "refuse_no_name" = some (some (.ref f3)))
  (l3 : K.lookup f3 = some ⟨oc3, od3, .func (PySem.W.fnOf "refuse_no_name" "refuse_no_name" (defArgs s_refuse_no_name) (defBody s_refuse_no_name) (defScope s_refuse_no_name) .none kV3 dc3 pm3 an3 cd3 ct3), sl3⟩) (c3 : PySem.W.codeIn K cd3 "refuse_no_name" = true) (k3 : PySem.W.keepIn K (.ref f3) = true)
  (a4 : PySem.W.nsIn K mainGlobals "refuse_no_width" = some (some (.ref f4)))
  (l4 : K.lookup f4 = some ⟨oc4, od4, .func (PySem.W.fnOf "refuse_no_width" "refuse_no_width" (defArgs s_refuse_no_width) (defBody s_refuse_no_width) (defScope s_refuse_no_width) .none kV4 dc4 pm4 an4 cd4 ct4), sl4⟩) (c4 : PySem.W.codeIn K cd4 "refuse_no_width" = true) (k4 : PySem.W.keepIn K (.ref f4) = true)
  (a5 : PySem.W.nsIn K mainGlobals "refuse_more" = some (some (.ref f5)))
  (l5 : K.lookup f5 = some ⟨oc5, od5, .func (PySem.W.fnOf "refuse_more" "refuse_more" (defArgs s_refuse_more) (defBody s_refuse_more) (defScope s_refuse_more) .none kV5 dc5 pm5 an5 cd5 ct5), sl5⟩) (c5 : PySem.W.codeIn K cd5 "refuse_more" = true) (k5 : PySem.W.keepIn K (.ref f5) = true)
  (a6 : PySem.W.findIn K (.ref C) "__init__" = some (some (.ref f6))) (i6 : PySem.W.isFn K (.ref f6) = true)
  (l6 : K.lookup f6 = some ⟨oc6, od6, .func (PySem.W.fnOf "__init__" "Net.__init__" (defArgs s_Net_init) (defBody s_Net_init) (defScope s_Net_init) .none kV6 dc6 pm6 an6 cd6 ct6), sl6⟩) (c6 : PySem.W.codeIn K cd6 "Net.__init__" = true) (k6 : PySem.W.keepIn K (.ref f6) = true)
  (a7 : PySem.W.findIn K (.ref C) "place" = some (some (.ref f7))) (i7 : PySem.W.isFn K (.ref f7) = true)
  (l7 : K.lookup f7 = some ⟨oc7, od7, .func (PySem.W.fnOf "place" "Net.place" (defArgs s_Net_place) (defBody s_Net_place) (defScope s_Net_place) .none kV7 dc7 pm7 an7 cd7 ct7), sl7⟩) (c7 : PySem.W.codeIn K cd7 "Net.place" = true) (k7 : PySem.W.keepIn K (.ref f7) = true)
  (a8 : PySem.W.findIn K (.ref C) "tie" = some (some (.ref f8))) (i8 : PySem.W.isFn K (.ref f8) = true)
  (l8 : K.lookup f8 = some ⟨oc8, od8, .func (PySem.W.fnOf "tie" "Net.tie" (defArgs s_Net_tie) (defBody s_Net_tie) (defScope s_Net_tie) .none kV8 dc8 pm8 an8 cd8 ct8), sl8⟩) (c8 : PySem.W.codeIn K cd8 "Net.tie" = true) (k8 : PySem.W.keepIn K (.ref f8) = true)
  (a9 : PySem.W.findIn K (.ref C) "places" = some (some (.ref f9))) (i9 : PySem.W.isFn K (.ref f9) = true)
  (l9 : K.lookup f9 = some ⟨oc9, od9, .func (PySem.W.fnOf "places" "Net.places" (defArgs s_Net_places) (defBody s_Net_places) (defScope s_Net_places) .none kV9 dc9 pm9 an9 cd9 ct9), sl9⟩) (c9 : PySem.W.codeIn K cd9 "Net.places" = true) (k9 : PySem.W.keepIn K (.ref f9) = true)
  (a10 : PySem.W.findIn K (.ref C) "ties" = some (some (.ref f10))) (i10 : PySem.W.isFn K (.ref f10) = true)
  (l10 : K.lookup f10 = some ⟨oc10, od10, .func (PySem.W.fnOf "ties" "Net.ties" (defArgs s_Net_ties) (defBody s_Net_ties) (defScope s_Net_ties) .none kV10 dc10 pm10 an10 cd10 ct10), sl10⟩) (c10 : PySem.W.codeIn K cd10 "Net.ties" = true) (k10 : PySem.W.keepIn K (.ref f10) = true)
  (a11 : PySem.W.nsIn K mainGlobals "_law_cell_at" = some (some (.ref f11)))
  (l11 : K.lookup f11 = some ⟨oc11, od11, .func (PySem.W.fnOf "_law_cell_at" "_law_cell_at" (defArgs s_l_cell_at) (defBody s_l_cell_at) (defScope s_l_cell_at) .none kV11 dc11 pm11 an11 cd11 ct11), sl11⟩) (c11 : PySem.W.codeIn K cd11 "_law_cell_at" = true) (k11 : PySem.W.keepIn K (.ref f11) = true)
  (a12 : PySem.W.nsIn K mainGlobals "is_place" = some (some (.ref f12)))
  (l12 : K.lookup f12 = some ⟨oc12, od12, .func (PySem.W.fnOf "is_place" "is_place" (defArgs s_is_place) (defBody s_is_place) (defScope s_is_place) .none kV12 dc12 pm12 an12 cd12 ct12), sl12⟩) (c12 : PySem.W.codeIn K cd12 "is_place" = true) (k12 : PySem.W.keepIn K (.ref f12) = true)
  (a13 : PySem.W.nsIn K mainGlobals "are_unlike" = some (some (.ref f13)))
  (l13 : K.lookup f13 = some ⟨oc13, od13, .func (PySem.W.fnOf "are_unlike" "are_unlike" (defArgs s_are_unlike) (defBody s_are_unlike) (defScope s_are_unlike) .none kV13 dc13 pm13 an13 cd13 ct13), sl13⟩) (c13 : PySem.W.codeIn K cd13 "are_unlike" = true) (k13 : PySem.W.keepIn K (.ref f13) = true)
  (a14 : PySem.W.nsIn K mainGlobals "is_tie" = some (some (.ref f14)))
  (l14 : K.lookup f14 = some ⟨oc14, od14, .func (PySem.W.fnOf "is_tie" "is_tie" (defArgs s_is_tie) (defBody s_is_tie) (defScope s_is_tie) .none kV14 dc14 pm14 an14 cd14 ct14), sl14⟩) (c14 : PySem.W.codeIn K cd14 "is_tie" = true) (k14 : PySem.W.keepIn K (.ref f14) = true)
  (a15 : PySem.W.nsIn K mainGlobals "are_unlike_places" = some (some (.ref f15)))
  (l15 : K.lookup f15 = some ⟨oc15, od15, .func (PySem.W.fnOf "are_unlike_places" "are_unlike_places" (defArgs s_are_unlike_places) (defBody s_are_unlike_places) (defScope s_are_unlike_places) .none kV15 dc15 pm15 an15 cd15 ct15), sl15⟩) (c15 : PySem.W.codeIn K cd15 "are_unlike_places" = true) (k15 : PySem.W.keepIn K (.ref f15) = true)
  (a16 : PySem.W.nsIn K mainGlobals "ties_by_name" = some (some (.ref f16)))
  (l16 : K.lookup f16 = some ⟨oc16, od16, .func (PySem.W.fnOf "ties_by_name" "ties_by_name" (defArgs s_ties_by_name) (defBody s_ties_by_name) (defScope s_ties_by_name) .none kV16 dc16 pm16 an16 cd16 ct16), sl16⟩) (c16 : PySem.W.codeIn K cd16 "ties_by_name" = true) (k16 : PySem.W.keepIn K (.ref f16) = true)
  (a17 : PySem.W.nsIn K mainGlobals "walk_stops" = some (some (.ref f17)))
  (l17 : K.lookup f17 = some ⟨oc17, od17, .func (PySem.W.fnOf "walk_stops" "walk_stops" (defArgs s_walk_stops) (defBody s_walk_stops) (defScope s_walk_stops) .none kV17 dc17 pm17 an17 cd17 ct17), sl17⟩) (c17 : PySem.W.codeIn K cd17 "walk_stops" = true) (k17 : PySem.W.keepIn K (.ref f17) = true)
  (a18 : PySem.W.nsIn K mainGlobals "is_row" = some (some (.ref f18)))
  (l18 : K.lookup f18 = some ⟨oc18, od18, .func (PySem.W.fnOf "is_row" "is_row" (defArgs s_is_row) (defBody s_is_row) (defScope s_is_row) .none kV18 dc18 pm18 an18 cd18 ct18), sl18⟩) (c18 : PySem.W.codeIn K cd18 "is_row" = true) (k18 : PySem.W.keepIn K (.ref f18) = true)
  (a19 : PySem.W.nsIn K mainGlobals "is_pair" = some (some (.ref f19)))
  (l19 : K.lookup f19 = some ⟨oc19, od19, .func (PySem.W.fnOf "is_pair" "is_pair" (defArgs s_is_pair) (defBody s_is_pair) (defScope s_is_pair) .none kV19 dc19 pm19 an19 cd19 ct19), sl19⟩) (c19 : PySem.W.codeIn K cd19 "is_pair" = true) (k19 : PySem.W.keepIn K (.ref f19) = true)
  (a20 : PySem.W.nsIn K mainGlobals "is_load" = some (some (.ref f20)))
  (l20 : K.lookup f20 = some ⟨oc20, od20, .func (PySem.W.fnOf "is_load" "is_load" (defArgs s_is_load) (defBody s_is_load) (defScope s_is_load) .none kV20 dc20 pm20 an20 cd20 ct20), sl20⟩) (c20 : PySem.W.codeIn K cd20 "is_load" = true) (k20 : PySem.W.keepIn K (.ref f20) = true)
  (a21 : PySem.W.nsIn K mainGlobals "what_goes_out" = some (some (.ref f21)))
  (l21 : K.lookup f21 = some ⟨oc21, od21, .func (PySem.W.fnOf "what_goes_out" "what_goes_out" (defArgs s_what_goes_out) (defBody s_what_goes_out) (defScope s_what_goes_out) .none kV21 dc21 pm21 an21 cd21 ct21), sl21⟩) (c21 : PySem.W.codeIn K cd21 "what_goes_out" = true) (k21 : PySem.W.keepIn K (.ref f21) = true)
  (a22 : PySem.W.nsIn K mainGlobals "flow_below" = some (some (.ref f22)))
  (l22 : K.lookup f22 = some ⟨oc22, od22, .func (PySem.W.fnOf "flow_below" "flow_below" (defArgs s_flow_below) (defBody s_flow_below) (defScope s_flow_below) .none kV22 dc22 pm22 an22 cd22 ct22), sl22⟩) (c22 : PySem.W.codeIn K cd22 "flow_below" = true) (k22 : PySem.W.keepIn K (.ref f22) = true)
  (a23 : PySem.W.nsIn K mainGlobals "ties_leaving" = some (some (.ref f23)))
  (l23 : K.lookup f23 = some ⟨oc23, od23, .func (PySem.W.fnOf "ties_leaving" "ties_leaving" (defArgs s_ties_leaving) (defBody s_ties_leaving) (defScope s_ties_leaving) .none kV23 dc23 pm23 an23 cd23 ct23), sl23⟩) (c23 : PySem.W.codeIn K cd23 "ties_leaving" = true) (k23 : PySem.W.keepIn K (.ref f23) = true)
  (a24 : PySem.W.nsIn K mainGlobals "flow_above" = some (some (.ref f24)))
  (l24 : K.lookup f24 = some ⟨oc24, od24, .func (PySem.W.fnOf "flow_above" "flow_above" (defArgs s_flow_above) (defBody s_flow_above) (defScope s_flow_above) .none kV24 dc24 pm24 an24 cd24 ct24), sl24⟩) (c24 : PySem.W.codeIn K cd24 "flow_above" = true) (k24 : PySem.W.keepIn K (.ref f24) = true)
  (a25 : PySem.W.nsIn K mainGlobals "apart_above" = some (some (.ref f25)))
  (l25 : K.lookup f25 = some ⟨oc25, od25, .func (PySem.W.fnOf "apart_above" "apart_above" (defArgs s_apart_above) (defBody s_apart_above) (defScope s_apart_above) .none kV25 dc25 pm25 an25 cd25 ct25), sl25⟩) (c25 : PySem.W.codeIn K cd25 "apart_above" = true) (k25 : PySem.W.keepIn K (.ref f25) = true)
  (a26 : PySem.W.nsIn K mainGlobals "stops_of_walks" = some (some (.ref f26)))
  (l26 : K.lookup f26 = some ⟨oc26, od26, .func (PySem.W.fnOf "stops_of_walks" "stops_of_walks" (defArgs s_stops_of_walks) (defBody s_stops_of_walks) (defScope s_stops_of_walks) .none kV26 dc26 pm26 an26 cd26 ct26), sl26⟩) (c26 : PySem.W.codeIn K cd26 "stops_of_walks" = true) (k26 : PySem.W.keepIn K (.ref f26) = true)
  (a27 : PySem.W.nsIn K mainGlobals "joined" = some (some (.ref f27)))
  (l27 : K.lookup f27 = some ⟨oc27, od27, .func (PySem.W.fnOf "joined" "joined" (defArgs s_joined) (defBody s_joined) (defScope s_joined) .none kV27 dc27 pm27 an27 cd27 ct27), sl27⟩) (c27 : PySem.W.codeIn K cd27 "joined" = true) (k27 : PySem.W.keepIn K (.ref f27) = true)
  (a28 : PySem.W.nsIn K mainGlobals "apart_below" = some (some (.ref f28)))
  (l28 : K.lookup f28 = some ⟨oc28, od28, .func (PySem.W.fnOf "apart_below" "apart_below" (defArgs s_apart_below) (defBody s_apart_below) (defScope s_apart_below) .none kV28 dc28 pm28 an28 cd28 ct28), sl28⟩) (c28 : PySem.W.codeIn K cd28 "apart_below" = true) (k28 : PySem.W.keepIn K (.ref f28) = true)
  (a29 : PySem.W.nsIn K mainGlobals "bare_above" = some (some (.ref f29)))
  (l29 : K.lookup f29 = some ⟨oc29, od29, .func (PySem.W.fnOf "bare_above" "bare_above" (defArgs s_bare_above) (defBody s_bare_above) (defScope s_bare_above) .none kV29 dc29 pm29 an29 cd29 ct29), sl29⟩) (c29 : PySem.W.codeIn K cd29 "bare_above" = true) (k29 : PySem.W.keepIn K (.ref f29) = true)
  (a30 : PySem.W.nsIn K mainGlobals "bare_below" = some (some (.ref f30)))
  (l30 : K.lookup f30 = some ⟨oc30, od30, .func (PySem.W.fnOf "bare_below" "bare_below" (defArgs s_bare_below) (defBody s_bare_below) (defScope s_bare_below) .none kV30 dc30 pm30 an30 cd30 ct30), sl30⟩) (c30 : PySem.W.codeIn K cd30 "bare_below" = true) (k30 : PySem.W.keepIn K (.ref f30) = true)
  (a31 : PySem.W.nsIn K mainGlobals "shown_across" = some (some (.ref f31)))
  (l31 : K.lookup f31 = some ⟨oc31, od31, .func (PySem.W.fnOf "shown_across" "shown_across" (defArgs s_shown_across) (defBody s_shown_across) (defScope s_shown_across) .none kV31 dc31 pm31 an31 cd31 ct31), sl31⟩) (c31 : PySem.W.codeIn K cd31 "shown_across" = true) (k31 : PySem.W.keepIn K (.ref f31) = true)
  (a32 : PySem.W.nsIn K mainGlobals "shown_bound" = some (some (.ref f32)))
  (l32 : K.lookup f32 = some ⟨oc32, od32, .func (PySem.W.fnOf "shown_bound" "shown_bound" (defArgs s_shown_bound) (defBody s_shown_bound) (defScope s_shown_bound) .none kV32 dc32 pm32 an32 cd32 ct32), sl32⟩) (c32 : PySem.W.codeIn K cd32 "shown_bound" = true) (k32 : PySem.W.keepIn K (.ref f32) = true)
  (a33 : PySem.W.nsIn K mainGlobals "steps_by_begin" = some (some (.ref f33)))
  (l33 : K.lookup f33 = some ⟨oc33, od33, .func (PySem.W.fnOf "steps_by_begin" "steps_by_begin" (defArgs s_steps_by_begin) (defBody s_steps_by_begin) (defScope s_steps_by_begin) .none kV33 dc33 pm33 an33 cd33 ct33), sl33⟩) (c33 : PySem.W.codeIn K cd33 "steps_by_begin" = true) (k33 : PySem.W.keepIn K (.ref f33) = true)
  (a34 : PySem.W.nsIn K mainGlobals "steps_to_places" = some (some (.ref f34)))
  (l34 : K.lookup f34 = some ⟨oc34, od34, .func (PySem.W.fnOf "steps_to_places" "steps_to_places" (defArgs s_steps_to_places) (defBody s_steps_to_places) (defScope s_steps_to_places) .none kV34 dc34 pm34 an34 cd34 ct34), sl34⟩) (c34 : PySem.W.codeIn K cd34 "steps_to_places" = true) (k34 : PySem.W.keepIn K (.ref f34) = true)
  (a35 : PySem.W.nsIn K mainGlobals "free_ways" = some (some (.ref f35)))
  (l35 : K.lookup f35 = some ⟨oc35, od35, .func (PySem.W.fnOf "free_ways" "free_ways" (defArgs s_free_ways) (defBody s_free_ways) (defScope s_free_ways) .none kV35 dc35 pm35 an35 cd35 ct35), sl35⟩) (c35 : PySem.W.codeIn K cd35 "free_ways" = true) (k35 : PySem.W.keepIn K (.ref f35) = true)
  (a36 : PySem.W.nsIn K mainGlobals "add_along" = some (some (.ref f36)))
  (l36 : K.lookup f36 = some ⟨oc36, od36, .func (PySem.W.fnOf "add_along" "add_along" (defArgs s_add_along) (defBody s_add_along) (defScope s_add_along) .none kV36 dc36 pm36 an36 cd36 ct36), sl36⟩) (c36 : PySem.W.codeIn K cd36 "add_along" = true) (k36 : PySem.W.keepIn K (.ref f36) = true)
  (a37 : PySem.W.nsIn K mainGlobals "greatest_flow" = some (some (.ref f37)))
  (l37 : K.lookup f37 = some ⟨oc37, od37, .func (PySem.W.fnOf "greatest_flow" "greatest_flow" (defArgs s_greatest_flow) (defBody s_greatest_flow) (defScope s_greatest_flow) .none kV37 dc37 pm37 an37 cd37 ct37), sl37⟩) (c37 : PySem.W.codeIn K cd37 "greatest_flow" = true) (k37 : PySem.W.keepIn K (.ref f37) = true)
  (a38 : PySem.W.nsIn K mainGlobals "arcs_of_ties" = some (some (.ref f38)))
  (l38 : K.lookup f38 = some ⟨oc38, od38, .func (PySem.W.fnOf "arcs_of_ties" "arcs_of_ties" (defArgs s_arcs_of_ties) (defBody s_arcs_of_ties) (defScope s_arcs_of_ties) .none kV38 dc38 pm38 an38 cd38 ct38), sl38⟩) (c38 : PySem.W.codeIn K cd38 "arcs_of_ties" = true) (k38 : PySem.W.keepIn K (.ref f38) = true)
  (a39 : PySem.W.nsIn K mainGlobals "paper_of_flow" = some (some (.ref f39)))
  (l39 : K.lookup f39 = some ⟨oc39, od39, .func (PySem.W.fnOf "paper_of_flow" "paper_of_flow" (defArgs s_paper_of_flow) (defBody s_paper_of_flow) (defScope s_paper_of_flow) .none kV39 dc39 pm39 an39 cd39 ct39), sl39⟩) (c39 : PySem.W.codeIn K cd39 "paper_of_flow" = true) (k39 : PySem.W.keepIn K (.ref f39) = true)
  (a40 : PySem.W.nsIn K mainGlobals "paper_of_one" = some (some (.ref f40)))
  (l40 : K.lookup f40 = some ⟨oc40, od40, .func (PySem.W.fnOf "paper_of_one" "paper_of_one" (defArgs s_paper_of_one) (defBody s_paper_of_one) (defScope s_paper_of_one) .none kV40 dc40 pm40 an40 cd40 ct40), sl40⟩) (c40 : PySem.W.codeIn K cd40 "paper_of_one" = true) (k40 : PySem.W.keepIn K (.ref f40) = true)
  (a41 : PySem.W.nsIn K mainGlobals "find_bound" = some (some (.ref f41)))
  (l41 : K.lookup f41 = some ⟨oc41, od41, .func (PySem.W.fnOf "find_bound" "find_bound" (defArgs s_find_bound) (defBody s_find_bound) (defScope s_find_bound) .none kV41 dc41 pm41 an41 cd41 ct41), sl41⟩) (c41 : PySem.W.codeIn K cd41 "find_bound" = true) (k41 : PySem.W.keepIn K (.ref f41) = true)
  (a42 : PySem.W.nsIn K mainGlobals "bound_paper" = some (some (.ref f42)))
  (l42 : K.lookup f42 = some ⟨oc42, od42, .func (PySem.W.fnOf "bound_paper" "bound_paper" (defArgs s_bound_paper) (defBody s_bound_paper) (defScope s_bound_paper) .none kV42 dc42 pm42 an42 cd42 ct42), sl42⟩) (c42 : PySem.W.codeIn K cd42 "bound_paper" = true) (k42 : PySem.W.keepIn K (.ref f42) = true)
  (a43 : PySem.W.nsIn K mainGlobals "take_walk" = some (some (.ref f43)))
  (l43 : K.lookup f43 = some ⟨oc43, od43, .func (PySem.W.fnOf "take_walk" "take_walk" (defArgs s_take_walk) (defBody s_take_walk) (defScope s_take_walk) .none kV43 dc43 pm43 an43 cd43 ct43), sl43⟩) (c43 : PySem.W.codeIn K cd43 "take_walk" = true) (k43 : PySem.W.keepIn K (.ref f43) = true)
  (a44 : PySem.W.nsIn K mainGlobals "walks_along" = some (some (.ref f44)))
  (l44 : K.lookup f44 = some ⟨oc44, od44, .func (PySem.W.fnOf "walks_along" "walks_along" (defArgs s_walks_along) (defBody s_walks_along) (defScope s_walks_along) .none kV44 dc44 pm44 an44 cd44 ct44), sl44⟩) (c44 : PySem.W.codeIn K cd44 "walks_along" = true) (k44 : PySem.W.keepIn K (.ref f44) = true)
  (a45 : PySem.W.nsIn K mainGlobals "walks_of_flow" = some (some (.ref f45)))
  (l45 : K.lookup f45 = some ⟨oc45, od45, .func (PySem.W.fnOf "walks_of_flow" "walks_of_flow" (defArgs s_walks_of_flow) (defBody s_walks_of_flow) (defScope s_walks_of_flow) .none kV45 dc45 pm45 an45 cd45 ct45), sl45⟩) (c45 : PySem.W.codeIn K cd45 "walks_of_flow" = true) (k45 : PySem.W.keepIn K (.ref f45) = true)
  (a46 : PySem.W.nsIn K mainGlobals "_law_name" = some (some (.ref f46)))
  (l46 : K.lookup f46 = some ⟨oc46, od46, .func (PySem.W.fnOf "_law_name" "_law_name" (defArgs s_l_name) (defBody s_l_name) (defScope s_l_name) .none kV46 dc46 pm46 an46 cd46 ct46), sl46⟩) (c46 : PySem.W.codeIn K cd46 "_law_name" = true) (k46 : PySem.W.keepIn K (.ref f46) = true)
  (a47 : PySem.W.nsIn K mainGlobals "_law_parts" = some (some (.ref f47)))
  (l47 : K.lookup f47 = some ⟨oc47, od47, .func (PySem.W.fnOf "_law_parts" "_law_parts" (defArgs s_l_parts) (defBody s_l_parts) (defScope s_l_parts) .none kV47 dc47 pm47 an47 cd47 ct47), sl47⟩) (c47 : PySem.W.codeIn K cd47 "_law_parts" = true) (k47 : PySem.W.keepIn K (.ref f47) = true)
  (a48 : PySem.W.nsIn K mainGlobals "_law_net" = some (some (.ref f48)))
  (l48 : K.lookup f48 = some ⟨oc48, od48, .func (PySem.W.fnOf "_law_net" "_law_net" (defArgs s_l_net) (defBody s_l_net) (defScope s_l_net) .none kV48 dc48 pm48 an48 cd48 ct48), sl48⟩) (c48 : PySem.W.codeIn K cd48 "_law_net" = true) (k48 : PySem.W.keepIn K (.ref f48) = true)
  (a49 : PySem.W.nsIn K mainGlobals "_law_flow" = some (some (.ref f49)))
  (l49 : K.lookup f49 = some ⟨oc49, od49, .func (PySem.W.fnOf "_law_flow" "_law_flow" (defArgs s_l_flow) (defBody s_l_flow) (defScope s_l_flow) .none kV49 dc49 pm49 an49 cd49 ct49), sl49⟩) (c49 : PySem.W.codeIn K cd49 "_law_flow" = true) (k49 : PySem.W.keepIn K (.ref f49) = true)
  (a50 : PySem.W.nsIn K mainGlobals "_law_one" = some (some (.ref f50)))
  (l50 : K.lookup f50 = some ⟨oc50, od50, .func (PySem.W.fnOf "_law_one" "_law_one" (defArgs s_l_one) (defBody s_l_one) (defScope s_l_one) .none kV50 dc50 pm50 an50 cd50 ct50), sl50⟩) (c50 : PySem.W.codeIn K cd50 "_law_one" = true) (k50 : PySem.W.keepIn K (.ref f50) = true)
  (aL : PySem.W.nsIn K mainGlobals "law" = some (some (.ref fL))) (lL : K.lookup fL = some ⟨ocL, odL, .func (PySem.W.fnOf "law" "law" (defArgs s_law) (defBody s_law) (defScope s_law) .none kVL dcL pmL anL cdL ctL), slL⟩) (cL : PySem.W.codeIn K cdL "law" = true) (kL : PySem.W.keepIn K (.ref fL) = true)
  (pg : PySem.W.plainGet K C Str.empty = true) (hd : PySem.W.hasDictIn K C = true) (po : PySem.W.plainOver K C = true) (sa : PySem.W.findIn K (.ref C) "__setattr__" = some (some (.builtin "object.__setattr__"))) (mk : PySem.W.makesIn K C = true) (kc : PySem.W.keepIn K (.ref C) = true)
  (nS : PySem.W.findIn K (.ref C) "standing" = some none) (nL : PySem.W.findIn K (.ref C) "laid" = some none)
  (z_all : PySem.W.nsIn K mainGlobals "all" = some none)
  (z_isinstance : PySem.W.nsIn K mainGlobals "isinstance" = some none)
  (z_str : PySem.W.nsIn K mainGlobals "str" = some none)
  (z_int : PySem.W.nsIn K mainGlobals "int" = some none)
  (z_bool : PySem.W.nsIn K mainGlobals "bool" = some none)
  (z_list : PySem.W.nsIn K mainGlobals "list" = some none)
  (z_tuple : PySem.W.nsIn K mainGlobals "tuple" = some none)
  (z_len : PySem.W.nsIn K mainGlobals "len" = some none)
  (z_range : PySem.W.nsIn K mainGlobals "range" = some none)
  (z_abs : PySem.W.nsIn K mainGlobals "abs" = some none)
  (z_dict : PySem.W.nsIn K mainGlobals "dict" = some none)
  (z_sum : PySem.W.nsIn K mainGlobals "sum" = some none)
  (z_set : PySem.W.nsIn K mainGlobals "set" = some none)
  (z_reversed : PySem.W.nsIn K mainGlobals "reversed" = some none)
  (z_max : PySem.W.nsIn K mainGlobals "max" = some none)
  (z_enumerate : PySem.W.nsIn K mainGlobals "enumerate" = some none)
  (z_any : PySem.W.nsIn K mainGlobals "any" = some none)
  (z_min : PySem.W.nsIn K mainGlobals "min" = some none)
  (gS : PySem.W.nsIn K mainGlobals "SMALL_LETTERS" = some (some vS)) (rS : RelV (.str abc) vS)
  (gN : PySem.W.nsIn K mainGlobals "LONGEST_NAME" = some (some vN)) (rN : RelV (.int 12) vN)
  (gP : PySem.W.nsIn K mainGlobals "MOST_PLACES" = some (some vP)) (rP : RelV (.int 20) vP)
  (gM : PySem.W.nsIn K mainGlobals "MOST_TIES" = some (some vM)) (rM : RelV (.int 40) vM) :
  ∃ fd : FuncData, (∀ (s : Shared) (v : Value), BindsTo s fd ⟨[v], []⟩ [("_law_script", v)]) ∧ ∀ base : Heap, K.In base → base.Ns mainGlobals mg → FnOk l.prog w K mg base CX0 11 fa fd ["_law_script"] (spLaw K) := by
 have e := hfa.symm.trans (PySem.W.mg_of X G aL)
 cases e
 have T : Txt K mg C := { cl := ⟨pg, hd, po, sa⟩, nS := nS, nL := nL, mgC := PySem.W.mg_of X G aC, all := PySem.W.mg_none_of X G z_all, isi := PySem.W.mg_none_of X G z_isinstance, str := PySem.W.mg_none_of X G z_str, int := PySem.W.mg_none_of X G z_int, bool := PySem.W.mg_none_of X G z_bool, list := PySem.W.mg_none_of X G z_list, tuple := PySem.W.mg_none_of X G z_tuple, len := PySem.W.mg_none_of X G z_len, range := PySem.W.mg_none_of X G z_range, abs := PySem.W.mg_none_of X G z_abs, small := ⟨vS, PySem.W.mg_of X G gS, rS⟩, longest := ⟨vN, PySem.W.mg_of X G gN, rN⟩, mostP := ⟨vP, PySem.W.mg_of X G gP, rP⟩, mostT := ⟨vM, PySem.W.mg_of X G gM, rM⟩, kIB := kib1 K }
 have A : All K mg C := { T := T, mks := mk, kc := kc, tw := ⟨PySem.W.mg_none_of X G z_dict, PySem.W.mg_none_of X G z_sum⟩, ts := ⟨PySem.W.mg_none_of X G z_set, PySem.W.mg_none_of X G z_reversed⟩, tm := ⟨PySem.W.mg_none_of X G z_max, PySem.W.mg_none_of X G z_enumerate⟩, an := PySem.W.mg_none_of X G z_any, mi := PySem.W.mg_none_of X G z_min, made := fn_mk X G a0 l0 c0 k0, name := fn_mk X G a1 l1 c1 k1, whole := fn_mk X G a2 l2 c2 k2, rname := fn_mk X G a3 l3 c3 k3, rwidth := fn_mk X G a4 l4 c4 k4, rmore := fn_mk X G a5 l5 c5 k5, init := mt_mk a6 i6 l6 c6 k6, place := mt_mk a7 i7 l7 c7 k7, tie := mt_mk a8 i8 l8 c8 k8, places := mt_mk a9 i9 l9 c9 k9, ties := mt_mk a10 i10 l10 c10 k10, cell := fn_mk X G a11 l11 c11 k11, isplace := fn_mk X G a12 l12 c12 k12, alike := fn_mk X G a13 l13 c13 k13, istie := fn_mk X G a14 l14 c14 k14, unlike := fn_mk X G a15 l15 c15 k15, byname := fn_mk X G a16 l16 c16 k16, stops := fn_mk X G a17 l17 c17 k17, isrow := fn_mk X G a18 l18 c18 k18, pair := fn_mk X G a19 l19 c19 k19, load := fn_mk X G a20 l20 c20 k20, goes := fn_mk X G a21 l21 c21 k21, fbelow := fn_mk X G a22 l22 c22 k22, leaving := fn_mk X G a23 l23 c23 k23, fabove := fn_mk X G a24 l24 c24 k24, aabove := fn_mk X G a25 l25 c25 k25, sow := fn_mk X G a26 l26 c26 k26, joined := fn_mk X G a27 l27 c27 k27, abelow := fn_mk X G a28 l28 c28 k28, babove := fn_mk X G a29 l29 c29 k29, bbelow := fn_mk X G a30 l30 c30 k30, across := fn_mk X G a31 l31 c31 k31, shown := fn_mk X G a32 l32 c32 k32, stby := fn_mk X G a33 l33 c33 k33, bfs := fn_mk X G a34 l34 c34 k34, free := fn_mk X G a35 l35 c35 k35, add := fn_mk X G a36 l36 c36 k36, great := fn_mk X G a37 l37 c37 k37, arcs := fn_mk X G a38 l38 c38 k38, pflow := fn_mk X G a39 l39 c39 k39, pone := fn_mk X G a40 l40 c40 k40, find := fn_mk X G a41 l41 c41 k41, bpap := fn_mk X G a42 l42 c42 k42, take := fn_mk X G a43 l43 c43 k43, along := fn_mk X G a44 l44 c44 k44, wof := fn_mk X G a45 l45 c45 k45, lname := fn_mk X G a46 l46 c46 k46, parts := fn_mk X G a47 l47 c47 k47, lnet := fn_mk X G a48 l48 c48 k48, lflow := fn_mk X G a49 l49 c49 k49, one := fn_mk X G a50 l50 c50 k50 }
 exact ⟨PySem.W.fnOf "law" "law" (defArgs s_law) (defBody s_law) (defScope s_law) .none kVL dcL pmL anL cdL ctL, fun s v => .of_eq rfl, fun base _ _ => law_ok A (fun_mk lL cL kL)⟩
theorem walk {l : PySem.W.OpenLaw} {q : Program} {loose : List Str} {XP : (Str → Option Value) → Heap → Prop} {YP : World → Heap → Prop} {d : DefRec} {K : Params → PySem.W.Frag} (hn : l.most = some 63) (hdf : d.params.defaults = [])
  (hY : ∀ (w : World) (h : Heap), YP w h → (K w.params).In h)
  (F : ∀ (w : World) (mg : Str → Option Value) (fa : Addr) (h : Heap), (K w.params).In h → h.Ns mainGlobals mg → mg d.name = some (.ref fa) →
   ∃ fd : FuncData, (∀ (s : Shared) (u : Value), BindsTo s fd ⟨[u], []⟩ [("_law_script", u)]) ∧ ∀ base : Heap, (K w.params).In base → base.Ns mainGlobals mg → FnOk l.prog w (K w.params) mg base CX0 11 fa fd ["_law_script"] (spLaw (K w.params))) :
  PySem.W.WalkO q loose XP YP l.row.toRowW d [] (fun f vs => PySem.call f vs) :=
 L2.walk_of (n := 63) (k := 11) (x := "_law_script") (CX := fun _ => CX0) (sp := fun w => spLaw (K w.params)) hn (by decide) hdf ⟨rfl, by decide, by decide⟩ hY F (fun _ _ a ns hl _ hS => ⟨a, ns, rfl, hS, hl, fun _ => rfl⟩) fun _ _ _ _ _ z => z
end Net
def PySem.W.Fast.tw15654943600559885176 : Nat := 0
def PySem.W.Fast.tw2521977747888836826 : Nat := 0
def PySem.W.Fast.tw5192394364821512628 : Nat := 0
def PySem.W.Fast.tw16028083235111489163 : Nat := 0
def PySem.W.Fast.tw344551007057670205 : Nat := 0
def PySem.W.Fast.tw6334105651058471338 : Nat := 0
def PySem.W.Fast.tw3557097580713104938 : Nat := 0
def PySem.W.Fast.tw6648072086727942543 : Nat := 0
def PySem.W.Fast.tw15398355104521448639 : Nat := 0
def PySem.W.Fast.tw12847471285924381204 : Nat := 0
def PySem.W.Fast.tw6726417417877489338 : Nat := 0
def PySem.W.Fast.tw7408210209451571758 : Nat := 0
def PySem.W.Fast.tw15419081522070000826 : Nat := 0
def PySem.W.Fast.tw7489839884814734185 : Nat := 0
def PySem.W.Fast.tw5700697403918798273 : Nat := 0
def PySem.W.Fast.tw15999141341762221541 : Nat := 0
def PySem.W.Fast.tw18222558055276700393 : Nat := 0
def PySem.W.Fast.tw2275943760386539375 : Nat := 0
def PySem.W.Fast.tw8671309458694022020 : Nat := 0
def PySem.W.Fast.tw13674408699333838401 : Nat := 0
def PySem.W.Fast.tw9238469561538733461 : Nat := 0
def PySem.W.Fast.tw14369074122872333885 : Nat := 0
def PySem.W.Fast.tw10710405910302604994 : Nat := 0
def PySem.W.Fast.tw13976102384326694377 : Nat := 0
def PySem.W.Fast.tw9172907187674295151 : Nat := 0
def PySem.W.Fast.tw2934742854711396749 : Nat := 0
def PySem.W.Fast.tw16526418120206155019 : Nat := 0
def PySem.W.Fast.tw8902261944621747929 : Nat := 0
def PySem.W.Fast.tw8151231129989039421 : Nat := 0
def PySem.W.Fast.tw10263538239831216804 : Nat := 0
def PySem.W.Fast.tw10921448200098377763 : Nat := 0
def PySem.W.Fast.tw1463510603631123608 : Nat := 0
def PySem.W.Fast.tw765923941671454152 : Nat := 0
def PySem.W.Fast.tw2482267777603362851 : Nat := 0
def PySem.W.Fast.tw6594609148688346986 : Nat := 0
def PySem.W.Fast.tw12754075753383612144 : Nat := 0
def PySem.W.Fast.tw10973395768446495962 : Nat := 0
def PySem.W.Fast.tw1825321231539327000 : Nat := 0
def PySem.W.Fast.tw11931398202561889824 : Nat := 0
def PySem.W.Fast.tw13026117010702295840 : Nat := 0
def PySem.W.Fast.tw12648671015320789799 : Nat := 0
def PySem.W.Fast.tw14826855228487618759 : Nat := 0
def PySem.W.Fast.tw12675622153997304375 : Nat := 0
def PySem.W.Fast.tw5915323706043603666 : Nat := 0
def PySem.W.Fast.tw15524880985537062911 : Nat := 0
def PySem.W.Fast.tw275608782129334492 : Nat := 0
def PySem.W.Fast.tw13843111752375688597 : Nat := 0
def PySem.W.Fast.tw17776935587194629686 : Nat := 0
def PySem.W.Fast.tw11705912634038109289 : Nat := 0
def PySem.W.Fast.tw16176224160935441802 : Nat := 0
def PySem.W.Fast.tw5086906302203313907 : Nat := 0
def PySem.W.Fast.tw7454033288159579517 : Nat := 0
def PySem.W.Fast.tw1257543196039752681 : Nat := 0
def PySem.W.Fast.tw11827936038555780151 : Nat := 0
def PySem.W.Fast.tw2150774041388937297 : Nat := 0
def PySem.W.Fast.tw6995493852345354261 : Nat := 0
def PySem.W.Fast.tw13009535615978103108 : Nat := 0
def PySem.W.Fast.tw14381622007230135699 : Nat := 0
def PySem.W.Fast.tw9468764846470380145 : Nat := 0
def PySem.W.Fast.tw1231585551641627876 : Nat := 0
def PySem.W.Fast.tw4051282281088805609 : Nat := 0
def PySem.W.Fast.tw9026392909864297946 : Nat := 0
def PySem.W.Fast.tw11779086604253111509 : Nat := 0
def PySem.W.Fast.tw12066288712657714096 : Nat := 0
def PySem.W.Fast.tw16055734359735048320 : Nat := 0
def PySem.W.Fast.tw9220755059290822605 : Nat := 0
def PySem.W.Fast.tw11275773149616994798 : Nat := 0
def PySem.W.Fast.tw1654589083078879993 : Nat := 0
def PySem.W.Fast.tw629867121728357405 : Nat := 0
def PySem.W.Fast.tw10394708288906840425 : Nat := 0
def PySem.W.Fast.tw14831096878575609413 : Nat := 0
def PySem.W.Fast.tw11421705816944879423 : Nat := 0
def PySem.W.Fast.tw9966801249995783683 : Nat := 0
def PySem.W.Fast.tw3972912879462864390 : Nat := 0
def PySem.W.Fast.tw253447441060071565 : Nat := 0
def PySem.W.Fast.tw3501527807199727403 : Nat := 0
def PySem.W.Fast.tw162168947645742809 : Nat := 0
def PySem.W.Fast.tw10716568361329364699 : Nat := 0
def PySem.W.Fast.tw12159899631758251945 : Nat := 0
def PySem.W.Fast.tw999676269288320268 : Nat := 0
def PySem.W.Fast.tw15084125351527485071 : Nat := 0
def PySem.W.Fast.tw3213981495159668967 : Nat := 0
def PySem.W.Fast.tw11066595934357115916 : Nat := 0
def PySem.W.Fast.tw16967403545311947917 : Nat := 0
def PySem.W.Fast.tw7166482643383967085 : Nat := 0
def PySem.W.Fast.tw14278780205981375940 : Nat := 0
def PySem.W.Fast.tw13861642765282784658 : Nat := 0
def PySem.W.Fast.tw16541914441889562737 : Nat := 0
def PySem.W.Fast.tw3618062332254198556 : Nat := 0
def PySem.W.Fast.tw16526172596005728962 : Nat := 0
def PySem.W.Fast.tw7547535210777782315 : Nat := 0
def PySem.W.Fast.tw6065296633236212709 : Nat := 0
def PySem.W.Fast.tw3048179656137117138 : Nat := 0
def PySem.W.Fast.tw3582209507499709231 : Nat := 0
def PySem.W.Fast.tw16748113885646197839 : Nat := 0
def PySem.W.Fast.tw17487413927796845092 : Nat := 0
def PySem.W.Fast.tw17943548443885369684 : Nat := 0
def PySem.W.Fast.tw9784500406809132675 : Nat := 0
def PySem.W.Fast.tw8232559226894587373 : Nat := 0
def PySem.W.Fast.tw5202927284612015048 : Nat := 0
def PySem.W.Fast.tw10794782918775778242 : Nat := 0
def PySem.W.Fast.tw16631141821725596 : Nat := 0
def PySem.W.Fast.tw12589150423465766001 : Nat := 0
def PySem.W.Fast.tw3935543207012021382 : Nat := 0
def PySem.W.Fast.tw8466606681398535483 : Nat := 0
def PySem.W.Fast.tw11025065305844629557 : Nat := 0
def PySem.W.Fast.tw776267932146538675 : Nat := 0
def PySem.W.Fast.tw12728714005562558346 : Nat := 0
def PySem.W.Fast.tw17571059411549262957 : Nat := 0
def PySem.W.Fast.tw14071999580929058517 : Nat := 0
def PySem.W.Fast.tw10169288701391585802 : Nat := 0
def PySem.W.Fast.tw267229006687348785 : Nat := 0
def PySem.W.Fast.tw17954567399514840604 : Nat := 0
def PySem.W.Fast.tw10075346958201401424 : Nat := 0
def PySem.W.Fast.tw13364612425740755302 : Nat := 0
def PySem.W.Fast.tw3578847950377673485 : Nat := 0
def PySem.W.Fast.tw3481406861411410039 : Nat := 0
def PySem.W.Fast.tw14971404245763282584 : Nat := 0
def PySem.W.Fast.tw6471110698962243569 : Nat := 0
def PySem.W.Fast.tw14015874374940663720 : Nat := 0
def PySem.W.Fast.tw6769461056276778652 : Nat := 0
def PySem.W.Fast.tw17926786180621290462 : Nat := 0
def PySem.W.Fast.tw4523066744289969663 : Nat := 0
def PySem.W.Fast.tw7134764113827558734 : Nat := 0
def PySem.W.Fast.tw9727468953161868257 : Nat := 0
def PySem.W.Fast.tw13024096026211066074 : Nat := 0
def PySem.W.Fast.tw1253013413808394520 : Nat := 0
def PySem.W.Fast.tw9031124079808635628 : Nat := 0
def PySem.W.Fast.tw13466557836691263440 : Nat := 0
def PySem.W.Fast.tw7817667747032212945 : Nat := 0
def PySem.W.Fast.tw14152705641108095183 : Nat := 0
def PySem.W.Fast.tw5593426537332436496 : Nat := 0
def PySem.W.Fast.tw3043434212325663389 : Nat := 0
def PySem.W.Fast.tw12540858305328389582 : Nat := 0
def PySem.W.Fast.tw17603278787014883833 : Nat := 0
def PySem.W.Fast.tw8672626861568828777 : Nat := 0
def PySem.W.Fast.tw12777628355844353410 : Nat := 0
def PySem.W.Fast.tw5725569555666124601 : Nat := 0
def PySem.W.Fast.tw9462181858728471482 : Nat := 0
def PySem.W.Fast.tw7809826927081845098 : Nat := 0
def PySem.W.Fast.tw9902788251674475716 : Nat := 0
def PySem.W.Fast.tw5705832854739867524 : Nat := 0
def PySem.W.Fast.tw17052796341578378960 : Nat := 0
def PySem.W.Fast.tw7261618554473691708 : Nat := 0
def PySem.W.Fast.tw7027589257017427434 : Nat := 0
def PySem.W.Fast.tw3589683180179910649 : Nat := 0
def PySem.W.Fast.tw11595791274972848661 : Nat := 0
def PySem.W.Fast.tw16045425096110200397 : Nat := 0
def PySem.W.Fast.tw10060458188271181664 : Nat := 0
def PySem.W.Fast.tw12562679284635434016 : Nat := 0
def PySem.W.Fast.tw11637424731530612667 : Nat := 0
def PySem.W.Fast.tw15082138391567952317 : Nat := 0
def PySem.W.Fast.tw11855544463753236459 : Nat := 0
def PySem.W.Fast.tw109508702303732767 : Nat := 0
def PySem.W.Fast.tw14132798205074688133 : Nat := 0
def PySem.W.Fast.tw14286854447213425460 : Nat := 0
def PySem.W.Fast.tw15433303656072926527 : Nat := 0
def PySem.W.Fast.tw16364811052139242020 : Nat := 0
def PySem.W.Fast.tw13943698606655830455 : Nat := 0
def PySem.W.Fast.tw11971195165989361179 : Nat := 0
def PySem.W.Fast.tw943994055254947041 : Nat := 0
def PySem.W.Fast.tw14828187770229240734 : Nat := 0
def PySem.W.Fast.tw15884532483269811697 : Nat := 0
def PySem.W.Fast.tw17903570894606052451 : Nat := 0
def PySem.W.Fast.tw14229404445316357047 : Nat := 0
def PySem.W.Fast.tw55307747179497431 : Nat := 0
def PySem.W.Fast.tw5150466659557774847 : Nat := 0
def PySem.W.Fast.tw8030986030847255451 : Nat := 0
def PySem.W.Fast.tw3924138397012203215 : Nat := 0
def PySem.W.Fast.tw7965322474679952332 : Nat := 0
def PySem.W.Fast.tw10163760108849492520 : Nat := 0
def PySem.W.Fast.tw10272552291942045542 : Nat := 0
def PySem.W.Fast.tw13102085125687709759 : Nat := 0
def PySem.W.Fast.tw9670460055427844614 : Nat := 0
def PySem.W.Fast.tw12457925754949317959 : Nat := 0
def PySem.W.Fast.tw1950356288401135719 : Nat := 0
def PySem.W.Fast.tw7607410798645984297 : Nat := 0
def PySem.W.Fast.tw16546365175584653646 : Nat := 0
def PySem.W.Fast.tw5844170043219725646 : Nat := 0
def PySem.W.Fast.tw14723947366572467770 : Nat := 0
def PySem.W.Fast.tw14893574153449881782 : Nat := 0
def PySem.W.Fast.tw5433466964393167785 : Nat := 0
def PySem.W.Fast.tw17299054240777701363 : Nat := 0
def PySem.W.Fast.tw15598009882667428302 : Nat := 0
def PySem.W.Fast.tw12986234066447687625 : Nat := 0
def PySem.W.Fast.tw16550104301235266872 : Nat := 0
def PySem.W.Fast.tw821382093294872689 : Nat := 0
def PySem.W.Fast.tw7383413841529911320 : Nat := 0
def PySem.W.Fast.tw14447311979606947920 : Nat := 0
def PySem.W.Fast.tw10572903737563846763 : Nat := 0
def PySem.W.Fast.tw3928001450941925769 : Nat := 0
def PySem.W.Fast.tw6543800261602606494 : Nat := 0
def PySem.W.Fast.tw2053997293321556974 : Nat := 0
def PySem.W.Fast.tw6716736119771245590 : Nat := 0
def PySem.W.Fast.tw4832639206294131885 : Nat := 0
def PySem.W.Fast.tw15337271011859815486 : Nat := 0
def PySem.W.Fast.tw9725022720875401800 : Nat := 0
def PySem.W.Fast.tw16565476885872414278 : Nat := 0
def PySem.W.Fast.tw18342769020899718421 : Nat := 0
def PySem.W.Fast.tw10167541222828565741 : Nat := 0
def PySem.W.Fast.tw3722488950405731515 : Nat := 0
def PySem.W.Fast.tw15044292794801645477 : Nat := 0
def PySem.W.Fast.tw10173798783341090611 : Nat := 0
def PySem.W.Fast.tw3030769665125776533 : Nat := 0
def PySem.W.Fast.tw16725516698180494879 : Nat := 0
def PySem.W.Fast.tw14097906734247475396 : Nat := 0
def PySem.W.Fast.tw1193014023532953502 : Nat := 0
def PySem.W.Fast.tw4586934605019929618 : Nat := 0
def PySem.W.Fast.tw3100587332891785914 : Nat := 0
def PySem.W.Fast.tw13014177936299531827 : Nat := 0
def PySem.W.Fast.tw18190898211088751546 : Nat := 0
def PySem.W.Fast.tw3239229947869248739 : Nat := 0
def PySem.W.Fast.tw5070050070028816994 : Nat := 0
def PySem.W.Fast.tw12383099391148594745 : Nat := 0
def PySem.W.Fast.tw356869146585344250 : Nat := 0
def PySem.W.Fast.tw17321819760533287448 : Nat := 0
def PySem.W.Fast.tw12209099775053198313 : Nat := 0
def PySem.W.Fast.tw3112382634327283786 : Nat := 0
def PySem.W.Fast.tw10806228658297334368 : Nat := 0
def PySem.W.Fast.tw2219818734507623250 : Nat := 0
def PySem.W.Fast.tw1251105300321856696 : Nat := 0
def PySem.W.Fast.tw14153748334528240936 : Nat := 0
def PySem.W.Fast.tw3351791718693576522 : Nat := 0
def PySem.W.Fast.tw13058084194174076143 : Nat := 0
def PySem.W.Fast.tw7476983065322536149 : Nat := 0
def PySem.W.Fast.tw17810565114719263481 : Nat := 0
def PySem.W.Fast.tw499967709097642549 : Nat := 0
def PySem.W.Fast.tw2229960861834171265 : Nat := 0
def PySem.W.Fast.tw18039118755065248280 : Nat := 0
def PySem.W.Fast.tw2731177431231966177 : Nat := 0
def PySem.W.Fast.tw18138898802367794692 : Nat := 0
def PySem.W.Fast.tw16275809371677469902 : Nat := 0
def PySem.W.Fast.tw14193076351255188005 : Nat := 0
def PySem.W.Fast.tw5420959962841347965 : Nat := 0
def PySem.W.Fast.tw3875006606174117891 : Nat := 0
def PySem.W.Fast.tw2586350315150970373 : Nat := 0
def PySem.W.Fast.tw9727515777926877908 : Nat := 0
def PySem.W.Fast.tw5925488801473212084 : Nat := 0
def PySem.W.Fast.tw7158915330436799928 : Nat := 0
def PySem.W.Fast.tw13347937033999292476 : Nat := 0
def PySem.W.Fast.tw8043672415553647606 : Nat := 0
def PySem.W.Fast.tw11081388753119879930 : Nat := 0
def PySem.W.Fast.tw13482623992926920344 : Nat := 0
def PySem.W.Fast.tw3719391783429641710 : Nat := 0
def PySem.W.Fast.tw17620630995950813657 : Nat := 0
def PySem.W.Fast.tw6781997504766213567 : Nat := 0
def PySem.W.Fast.tw17333119752252057735 : Nat := 0
def PySem.W.Fast.tw14622247138510526452 : Nat := 0
def PySem.W.Fast.tw8877319966453265756 : Nat := 0
def PySem.W.Fast.tw14376065350018542647 : Nat := 0
def PySem.W.Fast.tw9478220800731025587 : Nat := 0
def PySem.W.Fast.tw15030176737439160442 : Nat := 0
def PySem.W.Fast.tw15527208169898866703 : Nat := 0
def PySem.W.Fast.tw18144252397778917660 : Nat := 0
def PySem.W.Fast.tw1276810857889644384 : Nat := 0
def PySem.W.Fast.tw8383105044656410728 : Nat := 0
def PySem.W.Fast.tw13950876242834380180 : Nat := 0
def PySem.W.Fast.tw13145917376811082388 : Nat := 0
def PySem.W.Fast.tw15368393381868990056 : Nat := 0
def PySem.W.Fast.tw9770421323642426122 : Nat := 0
def PySem.W.Fast.tw15293125364423978382 : Nat := 0
def PySem.W.Fast.tw15350986075046257092 : Nat := 0
def PySem.W.Fast.tw15966324678259443301 : Nat := 0
def PySem.W.Fast.tw1244161837240471013 : Nat := 0
def PySem.W.Fast.tw7404681715990852779 : Nat := 0
def PySem.W.Fast.tw5033632389581531087 : Nat := 0
def PySem.W.Fast.tw9152605017558072228 : Nat := 0
def PySem.W.Fast.tw14131800371647472262 : Nat := 0
def PySem.W.Fast.tw2695028996805316479 : Nat := 0
def PySem.W.Fast.tw906405033355997157 : Nat := 0
def PySem.W.Fast.tw2654024940186404883 : Nat := 0
def PySem.W.Fast.tw3933290026242561558 : Nat := 0
def PySem.W.Fast.tw17779406602003148107 : Nat := 0
def PySem.W.Fast.tw15422543941944944399 : Nat := 0
def PySem.W.Fast.tw11821009664105473946 : Nat := 0
def PySem.W.Fast.tw2352595528971870491 : Nat := 0
def PySem.W.Fast.tw15970884591488392738 : Nat := 0
def PySem.W.Fast.tw6785275821281117364 : Nat := 0
def PySem.W.Fast.tw3017749078342558267 : Nat := 0
def PySem.W.Fast.tw3992109925345977622 : Nat := 0
def PySem.W.Fast.tw7081194550944764456 : Nat := 0
def PySem.W.Fast.tw12771469871317721049 : Nat := 0
def PySem.W.Fast.tw12547239772102351170 : Nat := 0
def PySem.W.Fast.tw2088945933480407235 : Nat := 0
def PySem.W.Fast.tw10072986095230003780 : Nat := 0
def PySem.W.Fast.tw10777368413563709985 : Nat := 0
def PySem.W.Fast.tw2263502374870131246 : Nat := 0
def PySem.W.Fast.tw3036334538974475095 : Nat := 0
def PySem.W.Fast.tw5812893208121987100 : Nat := 0
def PySem.W.Fast.tw3502857958345652993 : Nat := 0
def PySem.W.Fast.tw7730014690228771029 : Nat := 0
def PySem.W.Fast.tw7726454065504784995 : Nat := 0
def PySem.W.Fast.tw10469648892391694128 : Nat := 0
def PySem.W.Fast.tw18419413161351273628 : Nat := 0
def PySem.W.Fast.tw8881826942981342433 : Nat := 0
def PySem.W.Fast.tw1802526163407028073 : Nat := 0
def PySem.W.Fast.tw13492311772295509988 : Nat := 0
def PySem.W.Fast.tw11290508568906225063 : Nat := 0
def PySem.W.Fast.tw17432346961464026386 : Nat := 0
def PySem.W.Fast.tw4291804424300404070 : Nat := 0
def PySem.W.Fast.tw13073696554593886729 : Nat := 0
def PySem.W.Fast.tw17687513029120866020 : Nat := 0
def PySem.W.Fast.tw164166800170736224 : Nat := 0
def PySem.W.Fast.tw12232269316049485727 : Nat := 0
def PySem.W.Fast.tw3436843116083887924 : Nat := 0
def PySem.W.Fast.tw106064554035658513 : Nat := 0
def PySem.W.Fast.tw1591588263837542016 : Nat := 0
def PySem.W.Fast.tw2013609472862863106 : Nat := 0
def PySem.W.Fast.tw9376317554921450082 : Nat := 0
def PySem.W.Fast.tw10468404325802066232 : Nat := 0
def PySem.W.Fast.tw7359013378477837094 : Nat := 0
def PySem.W.Fast.tw14450169882004064323 : Nat := 0
def PySem.W.Fast.tw5700853232300047572 : Nat := 0
def PySem.W.Fast.tw10208072828276376335 : Nat := 0
def PySem.W.Fast.tw11921626228263378570 : Nat := 0
def PySem.W.Fast.tw5214579492151131543 : Nat := 0
def PySem.W.Fast.tw3586377099756537330 : Nat := 0
def PySem.W.Fast.tw7586098905130795093 : Nat := 0
def PySem.W.Fast.tw11756126577024561049 : Nat := 0
def PySem.W.Fast.tw14386344079611618035 : Nat := 0
def PySem.W.Fast.tw15370024399912295204 : Nat := 0
def PySem.W.Fast.tw3899204946083846753 : Nat := 0
def PySem.W.Fast.tw9775649856392858846 : Nat := 0
def PySem.W.Fast.tw16546274923036412322 : Nat := 0
def PySem.W.Fast.tw8459463126857411766 : Nat := 0
def PySem.W.Fast.tw9149083985575737460 : Nat := 0
def PySem.W.Fast.tw5246693126571503935 : Nat := 0
def PySem.W.Fast.tw13051206498872750848 : Nat := 0
def PySem.W.Fast.tw13863328707862721225 : Nat := 0
def PySem.W.Fast.tw1120760850644449847 : Nat := 0
def PySem.W.Fast.tw17416599227964281376 : Nat := 0
def PySem.W.Fast.tw1362254107296736508 : Nat := 0
def PySem.W.Fast.tw14350814856590223494 : Nat := 0
def PySem.W.Fast.tw1737176790734498144 : Nat := 0
def PySem.W.Fast.tw1993431066355972349 : Nat := 0
def PySem.W.Fast.tw11347954643066010326 : Nat := 0
def PySem.W.Fast.tw4122786487373666718 : Nat := 0
def PySem.W.Fast.tw7131350378953339869 : Nat := 0
def PySem.W.Fast.tw12466282165261095251 : Nat := 0
def PySem.W.Fast.tw13322812642182413785 : Nat := 0
def PySem.W.Fast.tw4397698257320900358 : Nat := 0
def PySem.W.Fast.tw4863195029035191247 : Nat := 0
def PySem.W.Fast.tw7539859143902952198 : Nat := 0
def PySem.W.Fast.tw1962690705826290274 : Nat := 0
def PySem.W.Fast.tw7065349567719827807 : Nat := 0
def PySem.W.Fast.tw5348564677077686294 : Nat := 0
def PySem.W.Fast.tw15329482611849223108 : Nat := 0
def PySem.W.Fast.tw13691383402242965718 : Nat := 0
def PySem.W.Fast.tw4934643548391778612 : Nat := 0
def PySem.W.Fast.tw4323873956520570336 : Nat := 0
def PySem.W.Fast.tw8730944303179503693 : Nat := 0
def PySem.W.Fast.tw12829038871933179223 : Nat := 0
def PySem.W.Fast.tw1425605208436193065 : Nat := 0
def PySem.W.Fast.tw12561983656059477672 : Nat := 0
def PySem.W.Fast.tw18332099595549579027 : Nat := 0
def PySem.W.Fast.tw9931717925261394701 : Nat := 0
def PySem.W.Fast.tw11181866610499781246 : Nat := 0
def PySem.W.Fast.tw3826993509584661924 : Nat := 0
def PySem.W.Fast.tw2808831287982924656 : Nat := 0
def PySem.W.Fast.tw990125643536737420 : Nat := 0
def PySem.W.Fast.tw3794377564399859151 : Nat := 0
def PySem.W.Fast.tw16323448323381180064 : Nat := 0
def PySem.W.Fast.tw10121055310161661176 : Nat := 0
def PySem.W.Fast.tw12125030741753818891 : Nat := 0
def PySem.W.Fast.tw6120500719848172390 : Nat := 0
def PySem.W.Fast.tw17893143585026772181 : Nat := 0
def PySem.W.Fast.tw16482269290576628693 : Nat := 0
def PySem.W.Fast.tw17761594458749740700 : Nat := 0
def PySem.W.Fast.tw314662975935144437 : Nat := 0
def PySem.W.Fast.tw13584308067659202674 : Nat := 0
def PySem.W.Fast.tw8273580343357764752 : Nat := 0
def PySem.W.Fast.tw10385359450071929584 : Nat := 0
def PySem.W.Fast.tw9945735978275866744 : Nat := 0
def PySem.W.Fast.tw1118374884543973969 : Nat := 0
def PySem.W.Fast.tw6721567408831587251 : Nat := 0
def PySem.W.Fast.tw10531761697844411457 : Nat := 0
def PySem.W.Fast.tw8312955935544893607 : Nat := 0
def PySem.W.Fast.tw9171677862139175659 : Nat := 0
def PySem.W.Fast.tw1831108596634380651 : Nat := 0
def PySem.W.Fast.tw17384273823170355904 : Nat := 0
def PySem.W.Fast.tw3140295317428118369 : Nat := 0
def PySem.W.Fast.tw2892479454746297735 : Nat := 0
def PySem.W.Fast.tw14605199315014012255 : Nat := 0
def PySem.W.Fast.tw11209624244455398506 : Nat := 0
def PySem.W.Fast.tw5666477636243438784 : Nat := 0
def PySem.W.Fast.tw7121581096248494631 : Nat := 0
def PySem.W.Fast.tw15241890186293151192 : Nat := 0
def PySem.W.Fast.tw5667706240181892511 : Nat := 0
def PySem.W.Fast.tw2228043817087926528 : Nat := 0
def PySem.W.Fast.tw13972687438240396811 : Nat := 0
def PySem.W.Fast.tw6987631994058004788 : Nat := 0
def PySem.W.Fast.tw8904846175162741518 : Nat := 0
def PySem.W.Fast.tw11333532595859318410 : Nat := 0
def PySem.W.Fast.tw581453424557275893 : Nat := 0
def PySem.W.Fast.tw4101051041194394200 : Nat := 0
def PySem.W.Fast.tw9762284668153050965 : Nat := 0
def PySem.W.Fast.tw4348252640784377992 : Nat := 0
def PySem.W.Fast.tw8635125834792422610 : Nat := 0
def PySem.W.Fast.tw10043378071423953569 : Nat := 0
def PySem.W.Fast.tw12479147163381423249 : Nat := 0
def PySem.W.Fast.tw17256779157544310038 : Nat := 0
def PySem.W.Fast.tw18227347636912338228 : Nat := 0
def PySem.W.Fast.tw6904165715544681898 : Nat := 0
def PySem.W.Fast.tw5728112732315010761 : Nat := 0
def PySem.W.Fast.tw13716728147004621378 : Nat := 0
def PySem.W.Fast.tw15604385635959587668 : Nat := 0
def PySem.W.Fast.tw9693607596214458820 : Nat := 0
def PySem.W.Fast.tw10598308896672883148 : Nat := 0
def PySem.W.Fast.tw15542845291573172100 : Nat := 0
def PySem.W.Fast.tw13477408397144275797 : Nat := 0
def PySem.W.Fast.tw7657587640621483556 : Nat := 0
def PySem.W.Fast.tw1736800668508717467 : Nat := 0
def PySem.W.Fast.tw13594353842335631018 : Nat := 0
def PySem.W.Fast.tw11986926597701515493 : Nat := 0
def PySem.W.Fast.tw4886612627628320884 : Nat := 0
def PySem.W.Fast.tw18342537950092187544 : Nat := 0
def PySem.W.Fast.tw4239546266419574170 : Nat := 0
def PySem.W.Fast.tw7323767582604786306 : Nat := 0
def PySem.W.Fast.tw14084761840892137861 : Nat := 0
def PySem.W.Fast.tw7620610713225062793 : Nat := 0
def PySem.W.Fast.tw6322080685709526927 : Nat := 0
def PySem.W.Fast.tw11210076549012819875 : Nat := 0
def PySem.W.Fast.tw14219353806853098479 : Nat := 0
def PySem.W.Fast.tw10098414005820224300 : Nat := 0
def PySem.W.Fast.tw17637307213479481708 : Nat := 0
def PySem.W.Fast.tw16563782079064182476 : Nat := 0
def PySem.W.Fast.tw13128465297836394087 : Nat := 0
def PySem.W.Fast.tw11277056893136069364 : Nat := 0
def PySem.W.Fast.tw5358656921512641710 : Nat := 0
def PySem.W.Fast.tw15988503594344671040 : Nat := 0
def PySem.W.Fast.tw13067223084708656177 : Nat := 0
def PySem.W.Fast.tw7584775089780636828 : Nat := 0
def PySem.W.Fast.tw10468236308774973681 : Nat := 0
def PySem.W.Fast.tw17082809876139844395 : Nat := 0
def PySem.W.Fast.tw4132523953233455293 : Nat := 0
def PySem.W.Fast.tw17123982218293405792 : Nat := 0
def PySem.W.Fast.tw13630054127337726050 : Nat := 0
def PySem.W.Fast.tw3233777274077705998 : Nat := 0
def PySem.W.Fast.tw14462979299273604424 : Nat := 0
def PySem.W.Fast.tw2626310985712628286 : Nat := 0
def PySem.W.Fast.tw16673434263424829021 : Nat := 0
def PySem.W.Fast.tw7192902962343026364 : Nat := 0
def PySem.W.Fast.tw1644118527258999243 : Nat := 0
def PySem.W.Fast.tw2093859651251195332 : Nat := 0
def PySem.W.Fast.tw5529594144332908522 : Nat := 0
def PySem.W.Fast.tw7993293240913287725 : Nat := 0
def PySem.W.Fast.tw9962377859243113795 : Nat := 0
def PySem.W.Fast.tw13024077301468424719 : Nat := 0
def PySem.W.Fast.tw11422887495582410650 : Nat := 0
def PySem.W.Fast.tw15082166764885856546 : Nat := 0
def PySem.W.Fast.tw2165699284272896638 : Nat := 0
def PySem.W.Fast.tw8898864746832856790 : Nat := 0
def PySem.W.Fast.tw7770525092297153836 : Nat := 0
def PySem.W.Fast.tw5243974628329572716 : Nat := 0
def PySem.W.Fast.tw13751926156037214080 : Nat := 0
def PySem.W.Fast.tw9515884564606631559 : Nat := 0
def PySem.W.Fast.tw18257859044857702223 : Nat := 0
def PySem.W.Fast.tw10806589181385052478 : Nat := 0
def PySem.W.Fast.tw16499043479424771186 : Nat := 0
def PySem.W.Fast.tw7418106315368178364 : Nat := 0
def PySem.W.Fast.tw1235824859200373270 : Nat := 0
def PySem.W.Fast.tw11149844072207271627 : Nat := 0
def PySem.W.Fast.tw11823566544447146955 : Nat := 0
def PySem.W.Fast.tw17929637603192225241 : Nat := 0
def PySem.W.Fast.tw17774135827417922584 : Nat := 0
def PySem.W.Fast.tw9986111235369614289 : Nat := 0
def PySem.W.Fast.tw15287529781574312753 : Nat := 0
def PySem.W.Fast.tw3616363950587679072 : Nat := 0
def PySem.W.Fast.tw4995724986810637160 : Nat := 0
def PySem.W.Fast.tw13073898219233483956 : Nat := 0
def PySem.W.Fast.tw14479006153003138613 : Nat := 0
def PySem.W.Fast.tw11974910214054534348 : Nat := 0
def PySem.W.Fast.tw3297383023891073039 : Nat := 0
def PySem.W.Fast.tw13910384289458426811 : Nat := 0
def PySem.W.Fast.tw17796849105061088273 : Nat := 0
def PySem.W.Fast.tw16597093222414824019 : Nat := 0
def PySem.W.Fast.tw11151037332439461404 : Nat := 0
def PySem.W.Fast.tw16461015820414325290 : Nat := 0
def PySem.W.Fast.tw15624139744683897795 : Nat := 0
def PySem.W.Fast.tw10481789567152151921 : Nat := 0
def PySem.W.Fast.tw10883465654614532189 : Nat := 0
def PySem.W.Fast.tw9112496400457545526 : Nat := 0
def PySem.W.Fast.tw14110862237638423310 : Nat := 0
def PySem.W.Fast.tw8217689726372323982 : Nat := 0
def PySem.W.Fast.tw18379079326894152198 : Nat := 0
def PySem.W.Fast.tw10822225663326476408 : Nat := 0
def PySem.W.Fast.tw3899517616508686423 : Nat := 0
def PySem.W.Fast.tw16060387375006375589 : Nat := 0
def PySem.W.Fast.tw11893981989675776587 : Nat := 0
def PySem.W.Fast.tw5865813490794344918 : Nat := 0
def PySem.W.Fast.tw15974714148108912491 : Nat := 0
def PySem.W.Fast.tw1099071711590331666 : Nat := 0
def PySem.W.Fast.tw4835926471799366019 : Nat := 0
def PySem.W.Fast.tw13618496573369953606 : Nat := 0
def PySem.W.Fast.tw8795600549050294885 : Nat := 0
def PySem.W.Fast.tw2483739242694929416 : Nat := 0
def PySem.W.Fast.tw4704331111442166013 : Nat := 0
def PySem.W.Fast.tw6214787434219512660 : Nat := 0
def PySem.W.Fast.tw12621066614887643951 : Nat := 0
def PySem.W.Fast.tw1532057469498136296 : Nat := 0
def PySem.W.Fast.tw3660058225403480174 : Nat := 0
def PySem.W.Fast.tw12104258056095904004 : Nat := 0
def PySem.W.Fast.tw7517676725501753937 : Nat := 0
def PySem.W.Fast.tw16951751040858927546 : Nat := 0
def PySem.W.Fast.tw572287994842521866 : Nat := 0
def PySem.W.Fast.tw1657302008985608141 : Nat := 0
def PySem.W.Fast.tw1583815143529886175 : Nat := 0
def PySem.W.Fast.tw10614869190274847265 : Nat := 0
def PySem.W.Fast.tw5727039415914254486 : Nat := 0
def PySem.W.Fast.tw3038859403439970037 : Nat := 0
def PySem.W.Fast.tw453703031641622229 : Nat := 0
def PySem.W.Fast.tw12174501431695796170 : Nat := 0
def PySem.W.Fast.tw5978989129516623565 : Nat := 0
def PySem.W.Fast.tw18333371656904641010 : Nat := 0
def PySem.W.Fast.tw17622229044823701645 : Nat := 0
def PySem.W.Fast.tw14041751400455429109 : Nat := 0
def PySem.W.Fast.tw13984954686858064585 : Nat := 0
def PySem.W.Fast.tw5464191697096989172 : Nat := 0
def PySem.W.Fast.tw3666115148769314314 : Nat := 0
def PySem.W.Fast.tw1642753338220674416 : Nat := 0
def PySem.W.Fast.tw14671821503688189660 : Nat := 0
def PySem.W.Fast.tw16203531734283649481 : Nat := 0
def PySem.W.Fast.tw11479186730205706263 : Nat := 0
def PySem.W.Fast.tw14733573725890353757 : Nat := 0
def PySem.W.Fast.tw3520144089031708735 : Nat := 0
def PySem.W.Fast.tw5404461706706009473 : Nat := 0
def PySem.W.Fast.tw8502234921568197393 : Nat := 0
def PySem.W.Fast.tw9861970140171273405 : Nat := 0
def PySem.W.Fast.tw7025930552818624935 : Nat := 0
def PySem.W.Fast.tw773967671946465289 : Nat := 0
def PySem.W.Fast.tw18188994129070247376 : Nat := 0
def PySem.W.Fast.tw5466614811143464001 : Nat := 0
def PySem.W.Fast.tw9865338720708047575 : Nat := 0
def PySem.W.Fast.tw1761141797680341615 : Nat := 0
def PySem.W.Fast.tw14400337849420151190 : Nat := 0
def PySem.W.Fast.tw2488472064629179886 : Nat := 0
def PySem.W.Fast.tw8792787971575453220 : Nat := 0
def PySem.W.Fast.tw15654582231223053431 : Nat := 0
def PySem.W.Fast.tw10511609384252296552 : Nat := 0
def PySem.W.Fast.tw6740432316060338386 : Nat := 0
def PySem.W.Fast.tw4226922975156055714 : Nat := 0
def PySem.W.Fast.tw6302342983261085158 : Nat := 0
def PySem.W.Fast.tw3184493718468713228 : Nat := 0
def PySem.W.Fast.tw15623391776325666109 : Nat := 0
def PySem.W.Fast.tw16627699237783293281 : Nat := 0
def PySem.W.Fast.tw15738623647117991255 : Nat := 0
def PySem.W.Fast.tw16658618034420898633 : Nat := 0
def PySem.W.Fast.tw2435542682533428353 : Nat := 0
def PySem.W.Fast.tw5126609276143051854 : Nat := 0
def PySem.W.Fast.tw16043850440037313408 : Nat := 0
def PySem.W.Fast.tw9539257901493934793 : Nat := 0
def PySem.W.Fast.tw11144105158458047184 : Nat := 0
def PySem.W.Fast.tw6951316624917662549 : Nat := 0
def PySem.W.Fast.tw3761645850249539387 : Nat := 0
def PySem.W.Fast.tw15234179568570151096 : Nat := 0
def PySem.W.Fast.tw6587995909072508615 : Nat := 0
def PySem.W.Fast.tw17606135068528175974 : Nat := 0
def PySem.W.Fast.tw7049171555029912929 : Nat := 0
def PySem.W.Fast.tw4587807293171018274 : Nat := 0
def PySem.W.Fast.tw9021051561502981342 : Nat := 0
def PySem.W.Fast.tw3296074343986224881 : Nat := 0
def PySem.W.Fast.tw9383567979613268942 : Nat := 0
def PySem.W.Fast.tw6456518983763428283 : Nat := 0
def PySem.W.Fast.tw17486847802316476718 : Nat := 0
def PySem.W.Fast.tw12368377150016167403 : Nat := 0
def PySem.W.Fast.tw14501427044559559247 : Nat := 0
def PySem.W.Fast.tw12124270127996171218 : Nat := 0
def PySem.W.Fast.tw1908341177907254760 : Nat := 0
def PySem.W.Fast.tw12736950878363991473 : Nat := 0
def PySem.W.Fast.tw766069020275862775 : Nat := 0
def PySem.W.Fast.tw13403626018978218118 : Nat := 0
def PySem.W.Fast.tw13445590011583750933 : Nat := 0
def PySem.W.Fast.tw8133538191489629301 : Nat := 0
open PySem PySem.W PyProof.Rows
set_option maxRecDepth 100000 in
set_option maxHeartbeats 0 in
theorem PySem.Challenge.cw_netcourt_k62_flows_turned_into_walks_holds : PySem.Challenge.rw_netcourt_k62_flows_turned_into_walks.Holds := by
 w_on; o_law; k_head; (case hw => w_witness2)
 k_fill
 refine Net.walk (l := PySem.Challenge.rw_netcourt_k62_flows_turned_into_walks) rfl rfl (fun w h Y => PySem.W.kIn_of Y) ?F
 case F =>
  intro w mg fa h KX G hmg
  refine' Net.all_mk KX G hmg ?aC ?a0 ?l0 ?c0 ?k0 ?a1 ?l1 ?c1 ?k1 ?a2 ?l2 ?c2 ?k2 ?a3 ?l3 ?c3 ?k3 ?a4 ?l4 ?c4 ?k4 ?a5 ?l5 ?c5 ?k5 ?a6 ?i6 ?l6 ?c6 ?k6 ?a7 ?i7 ?l7 ?c7 ?k7 ?a8 ?i8 ?l8 ?c8 ?k8 ?a9 ?i9 ?l9 ?c9 ?k9 ?a10 ?i10 ?l10 ?c10 ?k10 ?a11 ?l11 ?c11 ?k11 ?a12 ?l12 ?c12 ?k12 ?a13 ?l13 ?c13 ?k13 ?a14 ?l14 ?c14 ?k14 ?a15 ?l15 ?c15 ?k15 ?a16 ?l16 ?c16 ?k16 ?a17 ?l17 ?c17 ?k17 ?a18 ?l18 ?c18 ?k18 ?a19 ?l19 ?c19 ?k19 ?a20 ?l20 ?c20 ?k20 ?a21 ?l21 ?c21 ?k21 ?a22 ?l22 ?c22 ?k22 ?a23 ?l23 ?c23 ?k23 ?a24 ?l24 ?c24 ?k24 ?a25 ?l25 ?c25 ?k25 ?a26 ?l26 ?c26 ?k26 ?a27 ?l27 ?c27 ?k27 ?a28 ?l28 ?c28 ?k28 ?a29 ?l29 ?c29 ?k29 ?a30 ?l30 ?c30 ?k30 ?a31 ?l31 ?c31 ?k31 ?a32 ?l32 ?c32 ?k32 ?a33 ?l33 ?c33 ?k33 ?a34 ?l34 ?c34 ?k34 ?a35 ?l35 ?c35 ?k35 ?a36 ?l36 ?c36 ?k36 ?a37 ?l37 ?c37 ?k37 ?a38 ?l38 ?c38 ?k38 ?a39 ?l39 ?c39 ?k39 ?a40 ?l40 ?c40 ?k40 ?a41 ?l41 ?c41 ?k41 ?a42 ?l42 ?c42 ?k42 ?a43 ?l43 ?c43 ?k43 ?a44 ?l44 ?c44 ?k44 ?a45 ?l45 ?c45 ?k45 ?a46 ?l46 ?c46 ?k46 ?a47 ?l47 ?c47 ?k47 ?a48 ?l48 ?c48 ?k48 ?a49 ?l49 ?c49 ?k49 ?a50 ?l50 ?c50 ?k50 ?aL ?lL ?cL ?kL ?pg ?hd ?po ?sa ?mk ?kc ?nS ?nL ?z_all ?z_isinstance ?z_str ?z_int ?z_bool ?z_list ?z_tuple ?z_len ?z_range ?z_abs ?z_dict ?z_sum ?z_set ?z_reversed ?z_max ?z_enumerate ?z_any ?z_min ?gS ?rS ?gN ?rN ?gP ?rP ?gM ?rM
  (case aC => k_is)
  (case a0 => k_is)
  (case l0 => k_is)
  (case c0 => k_is)
  (case k0 => k_is)
  (case a1 => k_is)
  (case l1 => k_is)
  (case c1 => k_is)
  (case k1 => k_is)
  (case a2 => k_is)
  (case l2 => k_is)
  (case c2 => k_is)
  (case k2 => k_is)
  (case a3 => k_is)
  (case l3 => k_is)
  (case c3 => k_is)
  (case k3 => k_is)
  (case a4 => k_is)
  (case l4 => k_is)
  (case c4 => k_is)
  (case k4 => k_is)
  (case a5 => k_is)
  (case l5 => k_is)
  (case c5 => k_is)
  (case k5 => k_is)
  (case a6 => k_is)
  (case i6 => k_is)
  (case l6 => k_is)
  (case c6 => k_is)
  (case k6 => k_is)
  (case a7 => k_is)
  (case i7 => k_is)
  (case l7 => k_is)
  (case c7 => k_is)
  (case k7 => k_is)
  (case a8 => k_is)
  (case i8 => k_is)
  (case l8 => k_is)
  (case c8 => k_is)
  (case k8 => k_is)
  (case a9 => k_is)
  (case i9 => k_is)
  (case l9 => k_is)
  (case c9 => k_is)
  (case k9 => k_is)
  (case a10 => k_is)
  (case i10 => k_is)
  (case l10 => k_is)
  (case c10 => k_is)
  (case k10 => k_is)
  (case a11 => k_is)
  (case l11 => k_is)
  (case c11 => k_is)
  (case k11 => k_is)
  (case a12 => k_is)
  (case l12 => k_is)
  (case c12 => k_is)
  (case k12 => k_is)
  (case a13 => k_is)
  (case l13 => k_is)
  (case c13 => k_is)
  (case k13 => k_is)
  (case a14 => k_is)
  (case l14 => k_is)
  (case c14 => k_is)
  (case k14 => k_is)
  (case a15 => k_is)
  (case l15 => k_is)
  (case c15 => k_is)
  (case k15 => k_is)
  (case a16 => k_is)
  (case l16 => k_is)
  (case c16 => k_is)
  (case k16 => k_is)
  (case a17 => k_is)
  (case l17 => k_is)
  (case c17 => k_is)
  (case k17 => k_is)
  (case a18 => k_is)
  (case l18 => k_is)
  (case c18 => k_is)
  (case k18 => k_is)
  (case a19 => k_is)
  (case l19 => k_is)
  (case c19 => k_is)
  (case k19 => k_is)
  (case a20 => k_is)
  (case l20 => k_is)
  (case c20 => k_is)
  (case k20 => k_is)
  (case a21 => k_is)
  (case l21 => k_is)
  (case c21 => k_is)
  (case k21 => k_is)
  (case a22 => k_is)
  (case l22 => k_is)
  (case c22 => k_is)
  (case k22 => k_is)
  (case a23 => k_is)
  (case l23 => k_is)
  (case c23 => k_is)
  (case k23 => k_is)
  (case a24 => k_is)
  (case l24 => k_is)
  (case c24 => k_is)
  (case k24 => k_is)
  (case a25 => k_is)
  (case l25 => k_is)
  (case c25 => k_is)
  (case k25 => k_is)
  (case a26 => k_is)
  (case l26 => k_is)
  (case c26 => k_is)
  (case k26 => k_is)
  (case a27 => k_is)
  (case l27 => k_is)
  (case c27 => k_is)
  (case k27 => k_is)
  (case a28 => k_is)
  (case l28 => k_is)
  (case c28 => k_is)
  (case k28 => k_is)
  (case a29 => k_is)
  (case l29 => k_is)
  (case c29 => k_is)
  (case k29 => k_is)
  (case a30 => k_is)
  (case l30 => k_is)
  (case c30 => k_is)
  (case k30 => k_is)
  (case a31 => k_is)
  (case l31 => k_is)
  (case c31 => k_is)
  (case k31 => k_is)
  (case a32 => k_is)
  (case l32 => k_is)
  (case c32 => k_is)
  (case k32 => k_is)
  (case a33 => k_is)
  (case l33 => k_is)
  (case c33 => k_is)
  (case k33 => k_is)
  (case a34 => k_is)
  (case l34 => k_is)
  (case c34 => k_is)
  (case k34 => k_is)
  (case a35 => k_is)
  (case l35 => k_is)
  (case c35 => k_is)
  (case k35 => k_is)
  (case a36 => k_is)
  (case l36 => k_is)
  (case c36 => k_is)
  (case k36 => k_is)
  (case a37 => k_is)
  (case l37 => k_is)
  (case c37 => k_is)
  (case k37 => k_is)
  (case a38 => k_is)
  (case l38 => k_is)
  (case c38 => k_is)
  (case k38 => k_is)
  (case a39 => k_is)
  (case l39 => k_is)
  (case c39 => k_is)
  (case k39 => k_is)
  (case a40 => k_is)
  (case l40 => k_is)
  (case c40 => k_is)
  (case k40 => k_is)
  (case a41 => k_is)
  (case l41 => k_is)
  (case c41 => k_is)
  (case k41 => k_is)
  (case a42 => k_is)
  (case l42 => k_is)
  (case c42 => k_is)
  (case k42 => k_is)
  (case a43 => k_is)
  (case l43 => k_is)
  (case c43 => k_is)
  (case k43 => k_is)
  (case a44 => k_is)
  (case l44 => k_is)
  (case c44 => k_is)
  (case k44 => k_is)
  (case a45 => k_is)
  (case l45 => k_is)
  (case c45 => k_is)
  (case k45 => k_is)
  (case a46 => k_is)
  (case l46 => k_is)
  (case c46 => k_is)
  (case k46 => k_is)
  (case a47 => k_is)
  (case l47 => k_is)
  (case c47 => k_is)
  (case k47 => k_is)
  (case a48 => k_is)
  (case l48 => k_is)
  (case c48 => k_is)
  (case k48 => k_is)
  (case a49 => k_is)
  (case l49 => k_is)
  (case c49 => k_is)
  (case k49 => k_is)
  (case a50 => k_is)
  (case l50 => k_is)
  (case c50 => k_is)
  (case k50 => k_is)
  (case aL => k_is)
  (case lL => k_is)
  (case cL => k_is)
  (case kL => k_is)
  (case pg => k_is)
  (case hd => k_is)
  (case po => k_is)
  (case sa => k_is)
  (case mk => k_is)
  (case kc => k_is)
  (case nS => k_is)
  (case nL => k_is)
  (case z_all => k_is)
  (case z_isinstance => k_is)
  (case z_str => k_is)
  (case z_int => k_is)
  (case z_bool => k_is)
  (case z_list => k_is)
  (case z_tuple => k_is)
  (case z_len => k_is)
  (case z_range => k_is)
  (case z_abs => k_is)
  (case z_dict => k_is)
  (case z_sum => k_is)
  (case z_set => k_is)
  (case z_reversed => k_is)
  (case z_max => k_is)
  (case z_enumerate => k_is)
  (case z_any => k_is)
  (case z_min => k_is)
  (case gS => k_is)
  (case rS => exact ⟨_, rfl⟩)
  (case gN => k_is)
  (case rN => exact ⟨_, rfl⟩)
  (case gP => k_is)
  (case rP => exact ⟨_, rfl⟩)
  (case gM => k_is)
  (case rM => exact ⟨_, rfl⟩)
